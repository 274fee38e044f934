import PyProof.Rows.All
import Wide.All
import OpenK.AllK
import Wide.FinOn
import Lean
import PyProof.EqAt
import PyProof.EqKinds
import PyProof.TupleCall
import PyProof.NeKinds
import PyProof.StationsW
import PyProof.RulesAs
import PyProof.ExcClass2
import PyProof.IsiH_tuple
import PyProof.NsDelKeeps
import PyProof.ConsumeWalk
import PyProof.Rows.SortWalk
import PySem.SetOps
import PySem.Builtin.Tuple.Common
import PyProof.Rows.SetFrom
import PyProof.TupleKey
import PyProof.SetRoads
import KE.KSortTup
import PyProof.DictWalks
import PyProof.FactsAll.set
import PyProof.CollectWalk
import KE.KDictList
import PyProof.Rows.Range3
import PyProof.SumAny
import KE.KRevIter
import PyProof.Draws
import PyProof.EnumMake
import PyProof.TupleIter
import PyProof.WalksMore
import PyProof.ZipIter
import PyProof.Rows.ZipGen
import PyProof.ListRange
import PyProof.TupleOfStr
import KE.KUnpack
import PySem.Challenge.RW_doingbook_k77_thinned_forms
set_option Elab.async false
namespace PySem.W.Fast
def tw15968140766745137648:=()
def tw15400440731225351701:=()
def tw4484663928976424218:=()
def tw1901857328887145366:=()
def tw17622092932191598216:=()
def tw7552685638979790841:=()
def tw3299315713889812653:=()
def tw5185253905435328928:=()
def tw9049383856948893487:=()
def tw14931661555609851252:=()
def tw917823358070853007:=()
def tw3599097757706466330:=()
def tw16770947052261850154:=()
def tw957033828357786617:=()
def tw12626135468628167907:=()
def tw9030469674740023924:=()
def tw17815287634897500840:=()
def tw2444877038509594755:=()
def tw10221821673256577718:=()
def tw11537300604036286413:=()
def tw8722560036836983797:=()
def tw12650908911817401480:=()
def tw4330071760681767132:=()
def tw18052599541025402947:=()
def tw11062680842670868730:=()
def tw14923696200835537578:=()
def tw3885632103344841167:=()
def tw10366286975593641195:=()
def tw14050669923748103877:=()
def tw12340373178367370273:=()
def tw10266435532819155401:=()
def tw4781168865063873113:=()
def tw17356204739976240803:=()
def tw3538470972649641116:=()
def tw5052180553795080426:=()
def tw8299905092417485300:=()
def tw5543553922406835194:=()
def tw17388154881831168450:=()
def tw863741827069028802:=()
def tw10548092524113369968:=()
def tw12363478971298392834:=()
def tw59695433101171955:=()
def tw12922613752529451301:=()
def tw4012221917243789346:=()
def tw1305321072095243286:=()
def tw13349409896192984724:=()
def tw2225379962396151778:=()
def tw6229816516818675373:=()
def tw12841273405187234500:=()
def tw18358255416059813291:=()
def tw13241883117077927473:=()
def tw10614674818453094404:=()
def tw6193139889681110893:=()
def tw13640989966971060311:=()
def tw15826401864335664928:=()
def tw9247340990966416219:=()
def tw13431426247536649546:=()
def tw8027585984158500007:=()
def tw2953990088882278635:=()
def tw5968858425266658898:=()
def tw10704877010385884367:=()
def tw4365377726513033631:=()
def tw6879151294975183280:=()
def tw7947832849844430555:=()
def tw6254606938064638477:=()
def tw11931660807305182453:=()
def tw9293973632134083694:=()
def tw7915480155257847413:=()
def tw7947503171610919696:=()
def tw115347956940252972:=()
def tw7148752309246053502:=()
def tw16040716307071374008:=()
def tw18238523664274051503:=()
def tw17642514947613449029:=()
def tw1926697109095361472:=()
def tw15190397076185464596:=()
def tw437567141156450214:=()
def tw12425387661383377257:=()
def tw14473907119720186664:=()
def tw17934043375001521318:=()
def tw12381644392840567396:=()
def tw2985935441759479247:=()
def tw7304786639530188171:=()
def tw16673864649764867788:=()
def tw3069998614916304466:=()
def tw11855078901570953922:=()
def tw12951041459598207714:=()
def tw15894731110595329015:=()
def tw12610143081794771260:=()
def tw8908907464743835421:=()
def tw3971909658421433515:=()
def tw78116021747353352:=()
def tw10028923029687101486:=()
def tw9292636327082117686:=()
def tw451219445953081110:=()
def tw4130659375015096093:=()
def tw4836681938054737976:=()
def tw13208892118085044483:=()
def tw3197074611508464890:=()
def tw14409112522393329335:=()
def tw12144008472501694470:=()
def tw1358573626617835644:=()
def tw8959992594146147325:=()
def tw13065278070746842514:=()
def tw4899549861654161911:=()
def tw16888862034079293570:=()
def tw15930512386276025074:=()
def tw81324422297053361:=()
def tw2262401531483651738:=()
def tw5957005933062476722:=()
def tw8101150457190476742:=()
def tw5363023878973185550:=()
def tw1360120511581135340:=()
def tw2080340938013268294:=()
def tw12801965039216973124:=()
def tw315070951115200798:=()
def tw18433715610211029787:=()
def tw12636812609728841157:=()
def tw14227152147826411776:=()
def tw6668983732653729655:=()
def tw13268122405407050294:=()
def tw3354290726162823516:=()
def tw11805544065614126962:=()
def tw1079989249475523739:=()
def tw11875308798372041315:=()
def tw69507888973808004:=()
def tw11963467641151753721:=()
def tw10014646982876902940:=()
def tw4847389478524222653:=()
def tw8238970226718000575:=()
def tw182292253845024171:=()
def tw7811761477775519723:=()
def tw15312826816178606324:=()
def tw251726844648795630:=()
def tw15834841719113619421:=()
def tw5404990656773303875:=()
def tw10987637198941424062:=()
def tw17249943594630763128:=()
def tw2121801399970785705:=()
def tw15048216497079663309:=()
def tw8197662755780874383:=()
def tw10510712331799302727:=()
def tw2104325177014413590:=()
def tw2154421471387729358:=()
def tw36968064585519665:=()
def tw2822545597748315302:=()
def tw8586976564309484949:=()
def tw5792743808656219582:=()
def tw5094504237344675163:=()
def tw6859530341104486195:=()
def tw17905529828694185579:=()
def tw4684594416395291387:=()
def tw15395613754293879023:=()
def tw6384524849342567951:=()
def tw8183658284811727041:=()
def tw731152354718383996:=()
def tw13874040968787805320:=()
def tw6175211994199412529:=()
def tw15384580314363137171:=()
def tw5232224137847531722:=()
def tw9061019145435741492:=()
def tw12141548707168861278:=()
def tw7462250812073804897:=()
def tw12508789557707458181:=()
def tw8718430201630979443:=()
def tw16307446043550193322:=()
def tw7236416271783439973:=()
def tw4723184560743387462:=()
def tw534578079108342276:=()
def tw12210876664072900776:=()
def tw5346705881376896039:=()
def tw6672971181367751586:=()
def tw9597638123774942921:=()
def tw5027736083636778015:=()
def tw17380258236276865256:=()
def tw18009542996203718770:=()
def tw5698897208056862813:=()
def tw15718135600534463857:=()
def tw15928567756232096358:=()
def tw13989890132711207470:=()
def tw9523632555565978358:=()
def tw17984544285579151381:=()
def tw13980794261477834956:=()
def tw4642358875476562051:=()
def tw5012226754793779604:=()
def tw15500408511881767361:=()
def tw8875369655610755440:=()
def tw1063567727546937812:=()
def tw7059284201437077250:=()
def tw14192053744219970441:=()
def tw8970678044495065659:=()
def tw1920758984270542003:=()
def tw1298667988475031067:=()
def tw988609485570754732:=()
def tw10081606376385310844:=()
def tw1566216694407625296:=()
def tw11152390590289085389:=()
def tw18216483516846355485:=()
def tw11967560136038442365:=()
def tw11236751580049976859:=()
def tw2856388127679785095:=()
def tw9120273372994789414:=()
def tw13909283153645800729:=()
def tw13617871545687563864:=()
def tw15614330310646626397:=()
def tw11918534219125618172:=()
def tw9216869719828514732:=()
def tw15386691832252187771:=()
def tw4973105228400973163:=()
def tw7514704086375003920:=()
def tw17507576913478279360:=()
def tw9933624932299573311:=()
def tw6685852192354617992:=()
def tw15634354746937479325:=()
def tw12185176688602662086:=()
def tw10969364833321872064:=()
def tw17540800604232632021:=()
def tw12373697214332957966:=()
def tw17215077410972288043:=()
def tw10712197026630499389:=()
def tw13205253896337226151:=()
def tw9746400806749364505:=()
def tw11787402193509214216:=()
def tw16973358149902673380:=()
def tw17847995998978433661:=()
def tw8399214100629402345:=()
def tw10243123308761190615:=()
def tw13175925611065668998:=()
def tw7917884484082120452:=()
def tw15411148017347637884:=()
def tw845574397769777443:=()
def tw1721418496211731998:=()
def tw2355276550079786912:=()
def tw10729861869375475005:=()
def tw9710663539613450329:=()
def tw7343961247967954612:=()
def tw6955310773593626501:=()
def tw6222030298455002958:=()
def tw9107149486005968988:=()
def tw9752151744646228497:=()
def tw1054467394170985254:=()
def tw1817966669179343395:=()
def tw1263751003599311057:=()
def tw6867307277900834666:=()
def tw14130606401363762556:=()
def tw1294768394003880847:=()
def tw17123927688653535987:=()
def tw3164975029911555581:=()
def tw3286103086529428224:=()
def tw6329922728381354945:=()
def tw4929037511129708364:=()
def tw17209621005315075165:=()
def tw11772998951245988184:=()
def tw5435698879503482165:=()
def tw17332884875381103256:=()
def tw11584975419229788488:=()
def tw2425056956421698347:=()
def tw12994068233783470179:=()
def tw2666385748635374389:=()
def tw16369825546420280689:=()
def tw13851758373359034340:=()
def tw6111828407000038780:=()
def tw3377071043126892549:=()
def tw6865387333079385334:=()
def tw2098731542324071323:=()
def tw12485360104361465002:=()
def tw10573632938988627990:=()
def tw11319153960849883850:=()
def tw7402287201898759549:=()
def tw1465176292581027835:=()
def tw11351438394963964614:=()
def tw10140440660937581725:=()
def tw16433216035967286800:=()
def tw12081948292078458724:=()
def tw15964328103167674782:=()
def tw18067050785166347181:=()
def tw2745641894750544309:=()
def tw651994396306888154:=()
def tw14152117771607102229:=()
def tw11886441419686850007:=()
def tw10467253366183515084:=()
def tw14030304808826935691:=()
def tw18180224925170446213:=()
def tw3214009722385282321:=()
def tw5961088442823469375:=()
def tw13518344271907006920:=()
def tw17537733100694930703:=()
def tw8615526643566915757:=()
def tw7331597116746222904:=()
def tw9604003914508794949:=()
def tw5732728019394305901:=()
def tw17981176481417864528:=()
def tw1873603656525071145:=()
def tw15071694677503452478:=()
def tw10161834280254827549:=()
def tw2389659379294287025:=()
def tw5277165375540609004:=()
def tw8625594166264031672:=()
def tw4767004157811626421:=()
def tw6375320240688525225:=()
def tw5230391569370036664:=()
def tw10012928141033929652:=()
def tw1205801672157023227:=()
def tw11705083111631710275:=()
def tw4964971219537677599:=()
def tw3556241218371672071:=()
def tw14308690231553013937:=()
def tw3674520129751939375:=()
def tw3166306476413126622:=()
def tw4071665600750520935:=()
def tw10704065006081433290:=()
def tw17565318921087236657:=()
def tw5671096824670233352:=()
def tw13626917474577406613:=()
def tw56699037827546776:=()
def tw11173680494431526947:=()
def tw750506159201612583:=()
def tw4609208457127393422:=()
def tw13862407433327741552:=()
def tw486082227544537836:=()
def tw13428293623373514256:=()
def tw9491633506772331176:=()
def tw176522660917176941:=()
def tw12781969290811842774:=()
def tw8397930763817028863:=()
def tw774799049390357131:=()
def tw2318281308182100374:=()
def tw13306150874296670771:=()
def tw3888793692433811016:=()
def tw11220273698650904854:=()
def tw17173589184578894593:=()
def tw10774965339897539451:=()
def tw14672124232034762781:=()
def tw3133154349776020866:=()
def tw12629859602712175682:=()
def tw4093790287434124728:=()
def tw16427727230465892014:=()
def tw2683070124912157308:=()
def tw4160009650355313601:=()
def tw12139585108746024672:=()
def tw4678442555570194161:=()
def tw4669822245805398946:=()
def tw13094765892736243958:=()
def tw9697963944748391057:=()
def tw4558083056890566188:=()
def tw11668715879995786853:=()
def tw8837549874398217811:=()
def tw2364624430168355171:=()
def tw3995494569344272748:=()
def tw6842636841805640024:=()
def tw15549530257522578536:=()
def tw11074614675512178548:=()
def tw13894610700696459990:=()
def tw10662062828782180055:=()
def tw13277203667587054999:=()
def tw8718997809947778331:=()
def tw465992965608422853:=()
def tw4605451948444073241:=()
def tw14704782595393418980:=()
def tw8316219110887039658:=()
def tw7430770663101286297:=()
def tw6335498199344866408:=()
def tw1542283285197213774:=()
end PySem.W.Fast
set_option genSizeOf false
-- CHANGE: your row's module here, as the last of these rows
set_option Elab.async false
set_option linter.all false
set_option maxRecDepth 1000000
namespace L2
open PySem PySem.Spec PyProof.Rows

abbrev Key := Sum Int Str
def keyIs : Key → Value → Bool
  | .inl k, v => Value.isInt k v
  | .inr x, v => Value.isStrOf x v
def keyH (w : World) : Key → Int
  | .inl k => hashInt k
  | .inr x => hashStr w x
theorem keyIs_shape : ∀ {k : Key} {v : Value}, keyIs k v = true → (∃ i t, k = Sum.inl i ∧ v = Value.int i t) ∨ (∃ x t, k = Sum.inr x ∧ v = Value.str x t)
  | .inl i, v, h => by
    obtain ⟨t, e⟩ := Value.isInt_shape (k := i) (v := v) h
    exact .inl ⟨i, t, rfl, e⟩
  | .inr x, v, h => by
    obtain ⟨t, e⟩ := Value.isStrOf_shape (x := x) (v := v) h
    exact .inr ⟨x, t, rfl, e⟩
theorem key_ll (a b : Int) : decide ((Sum.inl a : Key) = Sum.inl b) = (a == b) := by
  by_cases e : a = b
  · subst e; simp
  · have h : ¬ (Sum.inl a : Key) = Sum.inl b := fun q => e (Sum.inl.inj q)
    rw [decide_eq_false h]
    exact (beq_eq_false_iff_ne.mpr e).symm
theorem key_rr (a b : Str) : decide ((Sum.inr a : Key) = Sum.inr b) = decide (a = b) := by
  by_cases e : a = b
  · subst e; simp
  · have h : ¬ (Sum.inr a : Key) = Sum.inr b := fun q => e (Sum.inr.inj q)
    rw [decide_eq_false h, decide_eq_false e]
theorem key_lr (a : Int) (b : Str) : decide ((Sum.inl a : Key) = Sum.inr b) = false := decide_eq_false (fun q => nomatch q)
theorem key_rl (a : Str) (b : Int) : decide ((Sum.inr a : Key) = Sum.inl b) = false := decide_eq_false (fun q => nomatch q)

def mixKind (prog : Program) (w : World) : PySem.KeyKind prog w Key where
  is := keyIs
  hash := keyH w
  inj := fun v a b ha hb => by
    rcases keyIs_shape ha with ⟨i, t, rfl, rfl⟩ | ⟨x, t, rfl, rfl⟩
    · rcases keyIs_shape hb with ⟨j, u, rfl, e⟩ | ⟨y, u, rfl, e⟩
      · injection e with e1 _; rw [e1]
      · exact nomatch e
    · rcases keyIs_shape hb with ⟨j, u, rfl, e⟩ | ⟨y, u, rfl, e⟩
      · exact nomatch e
      · injection e with e1 _; rw [e1]
  byValue := fun k v h => by
    rcases keyIs_shape h with ⟨i, t, rfl, rfl⟩ | ⟨x, t, rfl, rfl⟩ <;> rfl
  pyHash := fun hv h => by
    rcases keyIs_shape hv with ⟨i, t, rfl, rfl⟩ | ⟨x, t, rfl, rfl⟩
    · exact wpAny_pyHash_int h
    · exact wpAny_pyHash_str h
  eqBool := fun hu hv h => by
    rcases keyIs_shape hu with ⟨i, t, rfl, rfl⟩ | ⟨x, t, rfl, rfl⟩
    · rcases keyIs_shape hv with ⟨j, u, rfl, rfl⟩ | ⟨y, u, rfl, rfl⟩
      · rw [key_ll] at h; exact wpAny_eqBool_int h
      · rw [key_lr] at h; exact SeqAt.EqAt.int_str i t y u _ _ _ _ h
    · rcases keyIs_shape hv with ⟨j, u, rfl, rfl⟩ | ⟨y, u, rfl, rfl⟩
      · rw [key_rl] at h; exact SeqAt.EqAt.str_int x t j u _ _ _ _ h
      · rw [key_rr] at h; exact wpAny_eqBool_str h
  «strs» := fun k x t v h => by
    rcases keyIs_shape h with ⟨i, u, rfl, e⟩ | ⟨y, u, rfl, e⟩
    · exact nomatch e
    · injection e with e1 _
      subst e1
      cases v <;> rfl

end L2

namespace L2
open PySem PySem.Spec PyProof.Rows

inductive V where
  | non | bl (b : Bool) | int (i : Int) | str (x : Str) | byt (b : Array UInt8) | flt (b : UInt64) | ref (a : Addr) | ty (n : String)
  deriving DecidableEq

def RelV : V → Value → Prop
  | .non, u => u = Value.none
  | .bl b, u => u = Value.bool b
  | .int i, u => ∃ t, u = Value.int i t
  | .str x, u => ∃ t, u = Value.str x t
  | .byt b, u => ∃ t, u = Value.bytes b t
  | .flt b, u => ∃ t, u = Value.float b t
  | .ref a, u => u = Value.ref a
  | .ty n, u => u = Value.type n

abbrev Vals : List V → List Value → Prop := Paired RelV
theorem Vals.length {xs : List V} {us : List Value} (r : Vals xs us) : xs.length = us.length := Paired.length r
theorem Vals.get : ∀ {xs : List V} {us : List Value} {i : Nat} {x : V}, Vals xs us → xs[i]? = some x → ∃ u, us[i]? = some u ∧ RelV x u
  | _, _, _, _, .nil, e => by simp at e
  | _, _, 0, _, .cons r _, e => by simp at e; subst e; exact ⟨_, rfl, r⟩
  | _, _, i + 1, x, .cons _ t, e => by
    obtain ⟨u, h1, h2⟩ := Vals.get (i := i) (x := x) t (by simpa using e)
    exact ⟨u, by simpa using h1, h2⟩
theorem Vals.append : ∀ {xs ys : List V} {us ws : List Value}, Vals xs us → Vals ys ws → Vals (xs ++ ys) (us ++ ws)
  | _, _, _, _, .nil, s => s
  | _, _, _, _, .cons r t, s => .cons r (Vals.append t s)
theorem Vals.take : ∀ {xs : List V} {us : List Value} (n : Nat), Vals xs us → Vals (xs.take n) (us.take n)
  | _, _, 0, _ => .nil
  | _, _, _ + 1, .nil => .nil
  | _, _, n + 1, .cons r t => .cons r (Vals.take n t)
theorem Vals.drop : ∀ {xs : List V} {us : List Value} (n : Nat), Vals xs us → Vals (xs.drop n) (us.drop n)
  | _, _, 0, r => r
  | _, _, _ + 1, .nil => .nil
  | _, _, n + 1, .cons _ t => Vals.drop n t
def RelO : Option V → Option Value → Prop
  | some v, some u => RelV v u
  | none, none => True
  | _, _ => False
def KV {κ : Type} : List (κ × V) → List (κ × Value) → Prop := Paired fun (p : κ × V) (q : κ × Value) => p.1 = q.1 ∧ RelV p.2 q.2

def kV : Key → V
  | .inl i => .int i
  | .inr x => .str x

inductive HO where
    | lst (xs : List V)
    | tup (xs : List V)
    | dK (kvs : List (Key × V)) | dT (kvs : List (List Key × V))
    | set (S : Int → Bool) (n : Nat)
    | ins (C dx : Addr) (fs : List (Str × V))
    | own (x : Addr)
    | xd (fs : List (Str × V))
    | met (f x : Addr)
    | rng (lo hi : Int)
    | frz (o : Obj) (u : HO)
    | tbl (ps : Array Value)
    | ext (φ : Heap → Prop)

abbrev Hp := Addr → Option HO
def upd (H : Hp) (a : Addr) (o : HO) : Hp := fun b => if b = a then some o else H b
theorem upd_same {H : Hp} {a : Addr} {o : HO} : upd H a o a = some o := by unfold upd; rw [if_pos rfl]
theorem upd_ne {H : Hp} {a b : Addr} {o : HO} (h : b ≠ a) : upd H a o b = H b := by unfold upd; rw [if_neg h]
theorem ne_of {H : Hp} {a b : Addr} {o u : HO} (h : H a = some o) (h' : H b = some u) (d : o ≠ u) : a ≠ b := by
  intro e; subst e; rw [h] at h'; exact d (Option.some.inj h')
theorem ne_of_none {H : Hp} {a b : Addr} {o : HO} (h : H a = some o) (h' : H b = none) : a ≠ b := by
  intro e; subst e; rw [h] at h'; cases h'

section
variable (P : Program) (w : World)
def ObjOk (H : Hp) (h : Heap) (a : Addr) : HO → Prop
  | .lst xs => xs.length ≤ sizeLine ∧ ∃ (its : List Value) (n : Nat), Vals xs its ∧ h.get? a = some { cls := .type "list", data := .seq its.toArray n }
  | .tup xs => xs.length ≤ sizeLine ∧ ∃ its : List Value, Vals xs its ∧ IsTup h a its.toArray
  | .dK kvs => kvs.length ≤ sizeLine ∧ (a == sysModules) = false ∧ ∃ vs, KV kvs vs ∧ h.DictOf (mixKind P w) a vs
  | .dT kvs => kvs.length ≤ sizeLine ∧ (a == sysModules) = false ∧ ∃ xs : List (List Key × Addr × Value),
      Paired (fun (p : List Key × V) (q : List Key × Addr × Value) => p.1 = q.1 ∧ H q.2.1 = some (.tup (p.1.map kV)) ∧ RelV p.2 q.2.2) kvs xs ∧
      ∃ o es ep, h.get? a = some o ∧ o.ExactDict ∧ o.data = .dict es ep ∧ es.toList = xs.map (entryOfKey (tupleKind (mixKind P w))) ∧ (xs.map (·.1)).Nodup
  | .set S n => h.SetOf (intKind P w) a S n
  | .ins C dx fs => H dx = some (.own a) ∧ fs.length ≤ 1000 ∧ dx ≠ a ∧ h.get? a = some (PySem.W.instObj C dx) ∧
      ∃ mA, h.Ns1 dx mA ∧ (∀ f, RelO (fs.lookup f) (mA f)) ∧ PySem.Within mA (fs.map (·.1))
  | .own _ => ∃ o, h.get? a = some o
  | .xd fs => ∃ mA, h.Ns1 a mA ∧ ∀ f, RelO (fs.lookup f) (mA f)
  | .rng lo hi => ∃ t u v, h.get? a = some { cls := .type "range", data := .fields #[.int lo t, .int hi u, .int 1 v] }
  | .frz o u => h.get? a = some o ∧ ObjOk H h a u
  | .tbl ps => h.get? a = some { cls := .none, data := .fields ps }
  | .met f x => h.get? a = some (PySem.W.methodObj (.ref f) (.ref x))
  | .ext φ => φ h ∧ (∃ o, h.get? a = some o) ∧ ∀ h1 h2 : Heap, φ h1 → (∀ o, h1.get? a = some o → h2.get? a = some o) → φ h2
def HOk (H : Hp) (h : Heap) : Prop := ∀ a o, H a = some o → ObjOk P w H h a o
end

section
variable {P : Program} {w : World} {H H' : Hp} {h h' : Heap} {a : Addr} {o : HO}
theorem ObjOk.lt (x : ObjOk P w H h a o) : a < h.objs.size := by
  cases o with
  | lst xs => obtain ⟨_, _, _, _, e⟩ := x; exact Heap.lt_size e
  | tup xs => obtain ⟨_, _, _, p⟩ := x; exact p.lt
  | dK kvs => obtain ⟨_, _, _, _, o, _, _, e, _⟩ := x; exact Heap.lt_size e
  | dT kvs => obtain ⟨_, _, _, _, o, _, _, e, _⟩ := x; exact Heap.lt_size e
  | set S n => obtain ⟨o, _, _, _, e, _⟩ := x; exact Heap.lt_size e
  | ins C dx fs => obtain ⟨_, _, _, e, _⟩ := x; exact Heap.lt_size e
  | own y => obtain ⟨_, e⟩ := x; exact Heap.lt_size e
  | xd fs => obtain ⟨_, ⟨_, _, _, e, _⟩, _⟩ := x; exact Heap.lt_size e
  | rng lo hi => obtain ⟨_, _, _, e⟩ := x; exact Heap.lt_size e
  | frz ob u => obtain ⟨e, _⟩ := x; exact Heap.lt_size e
  | tbl ps => exact Heap.lt_size (show h.get? a = some _ from x)
  | met f y => exact Heap.lt_size (show h.get? a = some _ from x)
  | ext φ => obtain ⟨_, ⟨_, e⟩, _⟩ := x; exact Heap.lt_size e
theorem Paired.mapP {α β : Type} {F G : α → β → Prop} : ∀ {l₁ : List α} {l₂ : List β}, Paired F l₁ l₂ → (∀ a b, F a b → G a b) → Paired G l₁ l₂
  | _, _, .nil, _ => .nil
  | _, _, .cons r t, f => .cons (f _ _ r) (Paired.mapP t f)
theorem ObjOk.stay (x : ObjOk P w H h a o) (k : ∀ b u, (b = a ∨ H b = some (.own a)) → h.get? b = some u → h'.get? b = some u)
    (ho : ∀ b, H b = some (.own a) → H' b = some (.own a)) (ht : ∀ b xs, H b = some (.tup xs) → H' b = some (.tup xs)) : ObjOk P w H' h' a o := by
  induction o with
  | lst xs => obtain ⟨z, its, n, r, e⟩ := x; exact ⟨z, its, n, r, k _ _ (.inl rfl) e⟩
  | tup xs => obtain ⟨z, its, r, ob, e, c⟩ := x; exact ⟨z, its, r, ob, k _ _ (.inl rfl) e, c⟩
  | dK kvs => obtain ⟨z, y, vs, r, ob, es, ep, e, c⟩ := x; exact ⟨z, y, vs, r, ob, es, ep, k _ _ (.inl rfl) e, c⟩
  | dT kvs =>
    obtain ⟨z, y, xs, r, ob, es, ep, e, c⟩ := x
    exact ⟨z, y, xs, Paired.mapP r fun p q z => ⟨z.1, ht _ _ z.2.1, z.2.2⟩, ob, es, ep, k _ _ (.inl rfl) e, c⟩
  | set S n => obtain ⟨ob, es, ep, t, e, c⟩ := x; exact ⟨ob, es, ep, t, k _ _ (.inl rfl) e, c⟩
  | ins C dx fs =>
    obtain ⟨d, z, ne, e, mA, ⟨od, es, ep, e2, c⟩, r⟩ := x
    exact ⟨ho _ d, z, ne, k _ _ (.inl rfl) e, mA, ⟨od, es, ep, k _ _ (.inr d) e2, c⟩, r⟩
  | own y => obtain ⟨ob, e⟩ := x; exact ⟨ob, k _ _ (.inl rfl) e⟩
  | xd fs => obtain ⟨mA, ⟨od, es, ep, e, c⟩, r⟩ := x; exact ⟨mA, ⟨od, es, ep, k _ _ (.inl rfl) e, c⟩, r⟩
  | rng lo hi => obtain ⟨t, u, v, e⟩ := x; exact ⟨t, u, v, k _ _ (.inl rfl) e⟩
  | frz ob u ih => obtain ⟨e, q⟩ := x; exact ⟨k _ _ (.inl rfl) e, ih q⟩
  | tbl ps =>
    have e : h.get? a = some { cls := .none, data := .fields ps } := x
    show h'.get? a = some { cls := .none, data := .fields ps }
    exact k a _ (.inl rfl) e
  | met f y =>
    have e : h.get? a = some (PySem.W.methodObj (.ref f) (.ref y)) := x
    show h'.get? a = some (PySem.W.methodObj (.ref f) (.ref y))
    exact k a _ (.inl rfl) e
  | ext φ => obtain ⟨p, ⟨o, e⟩, st⟩ := x; exact ⟨st _ _ p fun o q => k _ _ (.inl rfl) q, ⟨o, k _ _ (.inl rfl) e⟩, st⟩
theorem HOk.lt (x : HOk P w H h) (e : H a = some o) : a < h.objs.size := (x a o e).lt
theorem HOk.fresh (x : HOk P w H h) (e : h.objs.size ≤ a) : H a = none := by
  cases q : H a with
  | none => rfl
  | some u => exact absurd (Nat.lt_of_lt_of_le (x.lt q) e) (Nat.lt_irrefl _)
theorem HOk.kept (x : HOk P w H h) (k : ∀ b u, h.get? b = some u → h'.get? b = some u) : HOk P w H h' := fun a o e =>
  (x a o e).stay (fun b u _ q => k b u q) (fun _ q => q) fun _ _ q => q
theorem HOk.laid (x : HOk P w H h) (k : ∀ b u, h.get? b = some u → h'.get? b = some u) (hp : h.objs.size ≤ a) (new : ObjOk P w (upd H a o) h' a o) : HOk P w (upd H a o) h' := fun b u e => by
  have hn := x.fresh hp
  by_cases hb : b = a
  · subst hb; rw [upd_same] at e; cases e; exact new
  · rw [upd_ne hb] at e
    exact (x b u e).stay (fun c v _ q => k c v q) (fun c q => by rw [upd_ne (ne_of_none q hn)]; exact q) fun c xs q => by rw [upd_ne (ne_of_none q hn)]; exact q
end

def Rd (H : Hp) (a : Addr) (u : HO) : Prop := H a = some u ∨ ∃ o, H a = some (.frz o u)
theorem Rd.ok {P : Program} {w : World} {H : Hp} {h : Heap} {a : Addr} {u : HO} (r : Rd H a u) (x : HOk P w H h) : ObjOk P w H h a u := by
  rcases r with r | ⟨o, r⟩
  · exact x a u r
  · obtain ⟨_, q⟩ := x a _ r
    exact q
def Mut : Option HO → Prop
  | some (.lst _) => True
  | some (.dK _) => True
  | some (.dT _) => True
  | some (.set _ _) => True
  | some (.ins _ _ _) => True
  | some (.ext _) => True
  | _ => False
section
variable {P : Program} {w : World} {H : Hp} {h h' : Heap} {x e : Addr} {o' : HO}
theorem HOk.write (ok : HOk P w H h) (mu : Mut (H x)) (he : e = x ∨ H e = some (.own x)) (k : ∀ b u, b ≠ e → h.get? b = some u → h'.get? b = some u) (heo : ∃ u, h'.get? e = some u)
    (new : ObjOk P w (upd H x o') h' x o') : HOk P w (upd H x o') h' := fun b u q => by
  have nown : ∀ c y, H c = some (.own y) → c ≠ x := fun c y r z => by subst z; rw [r] at mu; exact mu
  have ntup : ∀ c xs, H c = some (.tup xs) → c ≠ x := fun c xs r z => by subst z; rw [r] at mu; exact mu
  by_cases hb : b = x
  · subst hb; rw [upd_same] at q; cases q; exact new
  · rw [upd_ne hb] at q
    by_cases hbe : b = e
    · have q' : H b = some (.own x) := by
        rcases he with z | z
        · exact absurd (hbe.trans z) hb
        · rw [hbe]; exact z
      rw [q] at q'; cases q'
      obtain ⟨v, hv⟩ := heo
      exact ⟨v, by rw [hbe]; exact hv⟩
    · refine (ok b u q).stay (fun c v hc r => k c v ?_ r) (fun c r => by rw [upd_ne (nown c b r)]; exact r) fun c xs r => by rw [upd_ne (ntup c xs r)]; exact r
      rcases hc with rfl | hc
      · exact hbe
      · rintro rfl
        rcases he with z | z
        · exact nown c b hc z
        · rw [hc] at z; cases z; exact hb rfl
end

structure Un (fs ex : List Addr) (H H' : Hp) (h h' : Heap) : Prop where
  keep : ∀ b o, h.get? b = some o → H b = none → b ∉ fs → b ∉ ex → h'.get? b = some o
  slot : ∀ b o, h.get? b = some o → H b = none → b ∈ fs → b ∉ ex → ∃ sl, h'.get? b = some { o with slots := sl }
  free : ∀ b o, h.get? b = some o → H b = none → b ∉ ex → H' b = none
  there : ∀ b o, h.get? b = some o → b ∉ ex → ∃ o', h'.get? b = some o'
  tups : ∀ b xs, H b = some (.tup xs) → H' b = some (.tup xs)
  frzs : ∀ b o u, H b = some (.frz o u) → H' b = some (.frz o u)
  tbls : ∀ b ps, H b = some (.tbl ps) → ∃ more, H' b = some (.tbl (ps ++ more))
section
variable {fs fs' ex ex' : List Addr} {H H1 H2 : Hp} {h h1 h2 h' : Heap} {a x e : Addr} {o : HO}
theorem Un.any (u : Un fs ex H H1 h h1) {b : Addr} {ob : Obj} (q : h.get? b = some ob) (n : H b = none) (hx : b ∉ ex) : ∃ sl, h1.get? b = some { ob with slots := sl } := by
  by_cases hb : b ∈ fs
  · exact u.slot b ob q n hb hx
  · exact ⟨ob.slots, u.keep b ob q n hb hx⟩
theorem Un.kept (k : ∀ b u, h.get? b = some u → h'.get? b = some u) : Un fs ex H H h h' :=
  ⟨fun b ob q _ _ _ => k b ob q, fun b ob q _ _ _ => ⟨ob.slots, k b ob q⟩, fun _ _ _ n _ => n, fun b ob q _ => ⟨ob, k b ob q⟩, fun _ _ q => q, fun _ _ _ q => q, fun _ ps q => ⟨#[], by rw [q]; simp⟩⟩
theorem Un.refl : Un fs ex H H h h := Un.kept fun _ _ q => q
theorem Un.laid (k : ∀ b u, h.get? b = some u → h'.get? b = some u) (hp : h.objs.size ≤ a) (hn : H a = none) : Un fs ex H (upd H a o) h h' where
  keep := fun b u q _ _ _ => k b u q
  slot := fun b u q _ _ _ => ⟨u.slots, k b u q⟩
  free := fun b u q n _ => by rw [upd_ne (Nat.ne_of_lt (Nat.lt_of_lt_of_le (Heap.lt_size q) hp))]; exact n
  there := fun b u q _ => ⟨u, k b u q⟩
  tups := fun b xs q => by rw [upd_ne (ne_of_none q hn)]; exact q
  frzs := fun b u xs q => by rw [upd_ne (ne_of_none q hn)]; exact q
  tbls := fun b ps q => ⟨#[], by rw [upd_ne (ne_of_none q hn), q]; simp⟩
theorem Un.write (mu : Mut (H x)) (he : e = x ∨ H e = some (.own x)) (k : ∀ b u, b ≠ e → h.get? b = some u → h'.get? b = some u) (heo : ∃ u, h'.get? e = some u) : Un fs ex H (upd H x o) h h' := by
  have hx : ∀ b, H b = none → b ≠ x := fun b n z => by subst z; rw [n] at mu; exact mu
  have hb : ∀ b, H b = none → b ≠ e := fun b n z => by
    subst z
    rcases he with r | r
    · exact hx b n r
    · rw [n] at r; cases r
  have hm : ∀ b u, H b = some u → ¬ Mut (some u) → b ≠ x := fun b u q nm z => by subst z; rw [q] at mu; exact nm mu
  refine ⟨fun b u q n _ _ => k b u (hb b n) q, fun b u q n _ _ => ⟨u.slots, k b u (hb b n) q⟩, fun b u q n _ => by rw [upd_ne (hx b n)]; exact n, fun b u q _ => ?_,
    fun b xs q => by rw [upd_ne (hm b _ q fun z => z)]; exact q, fun b u xs q => by rw [upd_ne (hm b _ q fun z => z)]; exact q, fun b ps q => ⟨#[], by rw [upd_ne (hm b _ q fun z => z), q]; simp⟩⟩
  by_cases hbe : b = e
  · subst hbe; exact heo
  · exact ⟨u, k b u hbe q⟩
end

def trk (h : Heap) (H : Hp) : List Addr := (List.range h.objs.size).filter fun a => (H a).isSome
def hidT (h : Heap) (H : Hp) : Heap := PySem.W.hideAll h (trk h H)
theorem hidT_size (h : Heap) (H : Hp) : (hidT h H).objs.size = h.objs.size := PySem.W.hideAll_size _ _
theorem hidT_get {h : Heap} {H : Hp} {b : Addr} {o : Obj} (e : h.get? b = some o) (n : H b = none) : (hidT h H).get? b = some o :=
  PySem.W.hideAll_get _ e fun hm => by
    have q : (H b).isSome = true := (List.mem_filter.mp hm).2
    rw [n] at q; simp at q
theorem of_hidT {h : Heap} {H : Hp} {b : Addr} {o : Obj} (e : (hidT h H).get? b = some o) : h.get? b = some o ∧ H b = none := by
  have e' : h.get? b = some o := PySem.W.of_hideAll (trk h H) e
  refine ⟨e', ?_⟩
  cases q : H b with
  | none => rfl
  | some x =>
    have hm : b ∈ trk h H := List.mem_filter.mpr ⟨List.mem_range.mpr (Heap.lt_size e'), by simp [q]⟩
    have z : (hidT h H).get? b = none := PySem.W.hideAll_none (trk h H) hm
    rw [z] at e; cases e

def allNews (g h : Heap) (L : Addr) : List (Addr × Obj) := (List.range h.objs.size).filterMap fun a => if a = L ∨ (g.get? a).isSome = true then none else (h.get? a).map fun o => (a, o)
def rest (g h : Heap) (L d : Addr) : List (Addr × Obj) := (allNews g h L).filter fun p => decide (p.1 ≠ d)
end L2

namespace L2
open PySem PySem.Spec PyProof.Rows

structure Mod (K : PySem.W.Frag) (mg : Str → Option Value) (base : Heap) : Prop where
  kin : K.In base
  glob : base.Ns mainGlobals mg
  blt : ∃ mb, base.Ns builtinsNs mb ∧ ∀ x : Str, x ≠ "__name__" → mb x = bootBuiltins x
  nolimit : base.NoLimit

structure Cx where
  prog : Program
  w : World
  K : PySem.W.Frag
  mg : Str → Option Value
  base : Heap
  A : Around
  N : List Str
  s₀ : Shared
  H₀ : Hp
  env : Env
  outer : List Env
  stack : List Env
  ex : List Addr
  fn : Str → Bool
  calm : Bool
  pn : List (Addr × Obj)
  xe : Value → Shared → Prop
def frs (l : List Env) : List Addr := l.filterMap (·.frame)
abbrev Cx.fs (X : Cx) : List Addr := frs X.outer

def Vis (sc : Scope) (x : Str) : Prop := sc.names.lookup x = some .local ∨ sc.names.lookup x = some .cell ∨ sc.names.lookup x = some .free
def Loc (sc : Scope) (x : Str) : Prop := sc.names.lookup x = some .local ∨ sc.names.lookup x = some .cell
def Look (env : Env) (h : Heap) (m : Str → Option Value) (x : Str) (u : Value) : Prop :=
  (env.kindOf x = some .local ∧ m x = some u) ∨ ((env.kindOf x = some .cell ∨ env.kindOf x = some .free) ∧ ∃ c, env.cells.lookup x = some c ∧ h.IsCell c (some u))

structure Cx.Ok (X : Cx) : Prop where
  mod : Mod X.K X.mg X.base
  kind : X.env.scope.kind = .function
  glob : X.env.globals = mainGlobals
  blt : X.env.builtins = builtinsNs
  above : X.s₀.heap.objs.size ≤ X.env.locals
  inj : ∀ x y c, X.env.cells.lookup x = some c → X.env.cells.lookup y = some c → x = y
  has : ∀ x, (X.env.kindOf x = some .cell ∨ X.env.kindOf x = some .free) → ∃ c, X.env.cells.lookup x = some c
  cab : ∀ x c, X.fn x = true → X.env.cells.lookup x = some c → X.s₀.heap.objs.size ≤ c
  hd : X.calm = true → X.A.handled = none
  frames : X.A.frames = some X.stack
  stk : X.stack = X.outer ∨ (X.stack = X.env :: X.outer ∧ X.env.frame = some X.env.locals)
  exf : ∀ b ∈ X.ex, b ≠ X.env.locals ∧ ∀ x c, X.env.cells.lookup x = some c → c ≠ b
  bs : ∀ b o, X.base.get? b = some o → X.s₀.heap.get? b = some o ∧ X.H₀ b = none
  bsz : X.base.objs.size ≤ X.s₀.heap.objs.size
  noex : ∀ b o, X.base.get? b = some o → b ∉ X.ex
  exfs : ∀ b ∈ X.ex, b ∉ X.fs
  funs : X.s₀.heap.FunFrames X.base X.outer
  frf : ∀ b ∈ X.fs, X.H₀ b = none

structure Inv (X : Cx) (pins : List (Addr × Obj)) (σ : List (Option V)) (H : Hp) (s : Shared) : Prop where
  ok : X.Ok
  os : s.os = X.s₀.os
  bare : AllBare s.gens
  base : Un X.fs X.ex X.H₀ H X.s₀.heap s.heap
  loc : ∃ m, s.heap.Ns X.env.locals m ∧ ∀ (i : Nat) (x : Str) (v : V), X.N[i]? = some x → σ[i]? = some (some v) → Vis X.env.scope x → ∃ u, RelV v u ∧ Look X.env s.heap m x u
  cell : ∀ x c, X.env.cells.lookup x = some c → ∃ v, s.heap.IsCell c v
  free : H X.env.locals = none
  freeC : ∀ x c, X.env.cells.lookup x = some c → H c = none
  pin : ∀ p ∈ X.pn ++ pins, s.heap.get? p.1 = some p.2 ∧ H p.1 = none ∧ p.1 ≠ X.env.locals ∧ p.1 ∉ X.fs ∧ ∀ v, p.2.data ≠ .cell v
  hok : HOk X.prog X.w H s.heap
  len : σ.length = X.N.length

section
variable {X : Cx} {pins : List (Addr × Obj)} {σ : List (Option V)} {H H' : Hp} {s : Shared} {h' : Heap}

theorem Cx.Ok.nofr (ok : X.Ok) {b : Addr} {o : Obj} (e : X.base.get? b = some o) : b ∉ X.fs := fun hb => by
  have := (ok.funs.mem hb).1
  rw [e] at this; cases this
theorem Inv.bs (I : Inv X pins σ H s) : ∀ b o, X.base.get? b = some o → s.heap.get? b = some o ∧ H b = none := fun b o e =>
  ⟨I.base.keep b o (I.ok.bs b o e).1 (I.ok.bs b o e).2 (I.ok.nofr e) (I.ok.noex b o e), I.base.free b o (I.ok.bs b o e).1 (I.ok.bs b o e).2 (I.ok.noex b o e)⟩
theorem Inv.bk (I : Inv X pins σ H s) : ∀ b o, X.base.get? b = some o → s.heap.get? b = some o := fun b o e => (I.bs b o e).1
theorem Inv.mod (I : Inv X pins σ H s) : Mod X.K X.mg X.base := I.ok.mod
theorem Inv.kIn (I : Inv X pins σ H s) : X.K.In s.heap := I.ok.mod.kin.keeps I.bk
theorem Inv.lt (I : Inv X pins σ H s) : X.env.locals < s.heap.objs.size := let ⟨_, hn, _⟩ := I.loc; hn.lt
theorem Inv.sz (I : Inv X pins σ H s) : X.s₀.heap.objs.size ≤ s.heap.objs.size := Nat.le_trans I.ok.above (Nat.le_of_lt I.lt)
theorem Inv.nofs (I : Inv X pins σ H s) {a : Addr} (h : s.heap.objs.size ≤ a) : a ∉ X.fs := fun hb => by
  obtain ⟨_, o, ho, _⟩ := I.ok.funs.mem hb
  exact absurd (Nat.lt_of_lt_of_le (Heap.lt_size ho) (Nat.le_trans I.sz h)) (Nat.lt_irrefl _)
theorem Inv.cne (I : Inv X pins σ H s) : ∀ x c, X.env.cells.lookup x = some c → c ≠ X.env.locals := fun x c e z => by
  obtain ⟨v, o, ho, hd⟩ := I.cell x c e
  obtain ⟨m, ⟨o', es, ep, ho', hd', _⟩, _⟩ := I.loc
  rw [z, ho'] at ho; cases ho; rw [hd'] at hd; cases hd
theorem Inv.funs (I : Inv X pins σ H s) : s.heap.FunFrames X.base X.outer := by
  have all : ∀ (l : List Env), (∀ b ∈ frs l, b ∈ X.fs) → X.s₀.heap.FunFrames X.base l → s.heap.FunFrames X.base l := by
    intro l
    induction l with
    | nil => intro _ _; trivial
    | cons env r ih =>
      intro hs hl
      obtain ⟨hk, ⟨L, o, hf, hn, ho, hd⟩, hr⟩ := hl
      have hL : L ∈ X.fs := hs L (by unfold frs; rw [List.filterMap_cons, hf]; exact List.mem_cons_self)
      obtain ⟨sl, e⟩ := I.base.slot L o ho (I.ok.frf L hL) hL fun z => I.ok.exfs L z hL
      exact ⟨hk, ⟨L, _, hf, hn, e, hd⟩, ih (fun b hb => hs b (by unfold frs; rw [List.filterMap_cons, hf]; exact List.mem_cons_of_mem _ hb)) hr⟩
  exact all X.outer (fun _ hb => hb) I.ok.funs

theorem Inv.stack (I : Inv X pins σ H s) : s.heap.FunFrames X.base X.stack := by
  rcases I.ok.stk with e | ⟨e, hf⟩
  · rw [e]; exact I.funs
  · rw [e]
    obtain ⟨m, hn, _⟩ := I.loc
    refine .cons (by rw [I.ok.kind]; decide) hf hn ?_ I.funs
    exact Heap.get?_none_of_le (Nat.le_trans I.ok.bsz I.ok.above)
theorem Inv.stkSub (I : Inv X pins σ H s) : ∀ b ∈ frs X.stack, b ∈ X.env.locals :: X.fs := fun b hb => by
  rcases I.ok.stk with e | ⟨e, hf⟩
  · rw [e] at hb; exact List.mem_cons_of_mem _ hb
  · rw [e] at hb
    unfold frs at hb
    rw [List.filterMap_cons, hf] at hb
    exact hb
theorem Inv.stkFree (I : Inv X pins σ H s) : ∀ b ∈ frs X.stack, H b = none := fun b hb => by
  rcases List.mem_cons.mp (I.stkSub b hb) with e | hb
  · rw [e]; exact I.free
  · obtain ⟨_, o, ho, _⟩ := I.ok.funs.mem hb
    exact I.base.free b o ho (I.ok.frf b hb) fun z => I.ok.exfs b z hb

theorem Inv.step {g' : Array GenState} {t' : Nat} {d' : Drawn} {ch : List Addr} (I : Inv X pins σ H s)
    (hch : ∀ b ∈ ch, (b ∈ X.ex ∨ X.s₀.heap.objs.size ≤ b) ∧ b ≠ X.env.locals ∧ (∀ x c, X.env.cells.lookup x = some c → c ≠ b) ∧ ∀ p ∈ X.pn ++ pins, p.1 ≠ b)
    (keep : ∀ b o, b ≠ X.env.locals → b ∉ X.fs → b ∉ ch → s.heap.get? b = some o → H b = none → h'.get? b = some o)
    (slot : ∀ b o, b ≠ X.env.locals → b ∈ X.fs → b ∉ ch → s.heap.get? b = some o → H b = none → ∃ sl, h'.get? b = some { o with slots := sl }) (free : ∀ b o, b ∉ ch → s.heap.get? b = some o → H b = none → H' b = none)
    (there : ∀ b o, b ∉ ch → s.heap.get? b = some o → ∃ o', h'.get? b = some o')
    (tups : ∀ b xs, H b = some (.tup xs) → H' b = some (.tup xs)) (frzs : ∀ b o u, H b = some (.frz o u) → H' b = some (.frz o u)) (tbls : ∀ b ps, H b = some (.tbl ps) → ∃ more, H' b = some (.tbl (ps ++ more)))
    (ns : ∀ m, s.heap.Ns X.env.locals m → h'.Ns X.env.locals m) (hok : HOk X.prog X.w H' h') (hg : AllBare g') :
    Inv X pins σ H' { s with heap := h', gens := g', drawn := d', toks := t' } := by
  have neL : ∀ b o, X.s₀.heap.get? b = some o → b ≠ X.env.locals := fun b o e => Nat.ne_of_lt (Nat.lt_of_lt_of_le (Heap.lt_size e) I.ok.above)
  have neC : ∀ b o, X.s₀.heap.get? b = some o → b ∉ X.ex → b ∉ ch := fun b o e hx hb => by
    rcases (hch b hb).1 with z | z
    · exact hx z
    · exact absurd (Nat.lt_of_lt_of_le (Heap.lt_size e) z) (Nat.lt_irrefl _)
  have cellK : ∀ x c, X.env.cells.lookup x = some c → ∀ v, s.heap.IsCell c v → h'.IsCell c v := fun x c e v ⟨o, ho, hd⟩ => by
    have nch : c ∉ ch := fun z => (hch c z).2.2.1 x c e rfl
    by_cases hc : c ∈ X.fs
    · obtain ⟨sl, q⟩ := slot c o (I.cne x c e) hc nch ho (I.freeC x c e)
      exact ⟨_, q, hd⟩
    · exact ⟨o, keep c o (I.cne x c e) hc nch ho (I.freeC x c e), hd⟩
  refine ⟨I.ok, I.os, hg, ⟨fun b o e n hb hx => ?_, fun b o e n hb hx => ?_, fun b o e n hx => ?_, fun b o e hx => ?_, fun b xs e => tups b xs (I.base.tups b xs e), fun b o xs e => frzs b o xs (I.base.frzs b o xs e), fun b ps e => ?_⟩, ?_, fun x c e => ?_, ?_, fun x c e => ?_, fun p hp => ?_, hok, I.len⟩
  · exact keep b o (neL b o e) hb (neC b o e hx) (I.base.keep b o e n hb hx) (I.base.free b o e n hx)
  · obtain ⟨sl, e1⟩ := I.base.slot b o e n hb hx
    obtain ⟨sl', e2⟩ := slot b _ (neL b o e) hb (neC b o e hx) e1 (I.base.free b o e n hx)
    exact ⟨sl', e2⟩
  · obtain ⟨o', e1⟩ := I.base.there b o e hx
    exact free b o' (neC b o e hx) e1 (I.base.free b o e n hx)
  · obtain ⟨o', e1⟩ := I.base.there b o e hx
    exact there b o' (neC b o e hx) e1
  · obtain ⟨m1, e1⟩ := I.base.tbls b ps e
    obtain ⟨m2, e2⟩ := tbls b _ e1
    exact ⟨m1 ++ m2, by rw [e2, Array.append_assoc]⟩
  · obtain ⟨m, hn, hl⟩ := I.loc
    refine ⟨m, ns m hn, fun i x v e1 e2 e3 => ?_⟩
    obtain ⟨u, r, l⟩ := hl i x v e1 e2 e3
    refine ⟨u, r, ?_⟩
    rcases l with l | ⟨k, c, e, z⟩
    · exact .inl l
    · exact .inr ⟨k, c, e, cellK x c e _ z⟩
  · obtain ⟨v, z⟩ := I.cell x c e
    exact ⟨v, cellK x c e v z⟩
  · obtain ⟨m, ⟨o, _, _, ho, _⟩, _⟩ := I.loc
    exact free _ o (fun z => (hch _ z).2.1 rfl) ho I.free
  · obtain ⟨v, o, ho, hd⟩ := I.cell x c e
    exact free c o (fun z => (hch c z).2.2.1 x c e rfl) ho (I.freeC x c e)
  · obtain ⟨e, n, ne, nf, d⟩ := I.pin p hp
    have nch : p.1 ∉ ch := fun z => (hch p.1 z).2.2.2 p hp rfl
    exact ⟨keep p.1 p.2 ne nf nch e n, free p.1 p.2 nch e n, ne, nf, d⟩
theorem Inv.un {t' : Nat} (I : Inv X pins σ H s) (u : Un X.fs [] H H' s.heap h') (hok : HOk X.prog X.w H' h') : Inv X pins σ H' { s with heap := h', toks := t' } := by
  obtain ⟨m, ⟨o, es, ep, ho, r⟩, _⟩ := id I.loc
  obtain ⟨sl, hL⟩ := u.any ho I.free (by simp)
  exact I.step (g' := s.gens) (d' := s.drawn) (ch := []) (fun _ z => nomatch z) (fun b o _ hb _ e n => u.keep b o e n hb (by simp)) (fun b o _ hb _ e n => u.slot b o e n hb (by simp)) (fun b o _ e n => u.free b o e n (by simp)) (fun b o _ e => u.there b o e (by simp)) u.tups u.frzs u.tbls (fun m' hm => by
    obtain ⟨o', es', ep', ho', r'⟩ := hm
    rw [ho] at ho'; cases ho'
    exact ⟨_, es', ep', hL, r'⟩) hok I.bare
theorem Inv.call {g' : Array GenState} {t' : Nat} {d' : Drawn} {ch : List Addr} (I : Inv X pins σ H s) (u : Un (frs X.stack) ch H H' s.heap h') (hok : HOk X.prog X.w H' h') (hg : AllBare g')
    (hch : ∀ b ∈ ch, (b ∈ X.ex ∨ X.s₀.heap.objs.size ≤ b) ∧ b ≠ X.env.locals ∧ (∀ x c, X.env.cells.lookup x = some c → c ≠ b) ∧ ∀ p ∈ X.pn ++ pins, p.1 ≠ b) :
    Inv X pins σ H' { s with heap := h', gens := g', drawn := d', toks := t' } := by
  obtain ⟨m, ⟨o, es, ep, ho, r⟩, _⟩ := id I.loc
  obtain ⟨sl, hL⟩ := u.any ho I.free fun z => (hch _ z).2.1 rfl
  exact I.step (ch := ch) hch (fun b o hL hb hc e n => u.keep b o e n (fun z => (List.mem_cons.mp (I.stkSub b z)).elim hL hb) hc) (fun b o _ _ hc e n => u.any e n hc) (fun b o hc e n => u.free b o e n hc) (fun b o hc e => u.there b o e hc) u.tups u.frzs u.tbls (fun m' hm => by
    obtain ⟨o', es', ep', ho', r'⟩ := hm
    rw [ho] at ho'; cases ho'
    exact ⟨_, es', ep', hL, r'⟩) hok hg
theorem Inv.turned {t' : Nat} {it : Addr} (I : Inv X pins σ H s) (k : ∀ b o, b ≠ it → s.heap.get? b = some o → h'.get? b = some o) (hn : H it = none) (hL : it ≠ X.env.locals)
    (h1 : it ∈ X.ex ∨ X.s₀.heap.objs.size ≤ it) (h2 : ∀ x c, X.env.cells.lookup x = some c → c ≠ it) (h3 : ∀ p ∈ X.pn ++ pins, p.1 ≠ it) : Inv X pins σ H { s with heap := h', toks := t' } := by
  have nit : ∀ b u, H b = some u → b ≠ it := fun b u e z => by rw [z, hn] at e; cases e
  refine I.step (g' := s.gens) (d' := s.drawn) (ch := [it]) (fun b hb => ?_) (fun b o _ _ hc e _ => k b o (fun z => hc (by simp [z])) e) (fun b o _ _ hc e _ => ⟨o.slots, k b o (fun z => hc (by simp [z])) e⟩) (fun _ _ _ _ n => n)
    (fun b o hc e => ⟨o, k b o (fun z => hc (by simp [z])) e⟩) (fun _ _ e => e) (fun _ _ _ e => e) (fun b ps e => ⟨#[], by rw [e]; simp⟩) (fun m hm => ?_) (fun b u e => ?_) I.bare
  · have e : b = it := by simpa using hb
    subst e
    exact ⟨h1, hL, h2, h3⟩
  · obtain ⟨o, es, ep, ho, r⟩ := hm
    exact ⟨o, es, ep, k _ o (Ne.symm hL) ho, r⟩
  · refine (I.hok b u e).stay (fun c v hc q => k c v ?_ q) (fun _ q => q) fun _ _ q => q
    rcases hc with z | z
    · rw [z]; exact nit b u e
    · exact nit c _ z
theorem Inv.tok (I : Inv X pins σ H s) (t : Nat) : Inv X pins σ H { s with toks := t } := I.un (h' := s.heap) (t' := t) Un.refl I.hok
theorem Inv.kept {t' : Nat} (I : Inv X pins σ H s) (k : ∀ b u, s.heap.get? b = some u → h'.get? b = some u) : Inv X pins σ H { s with heap := h', toks := t' } := I.un (Un.kept k) (I.hok.kept k)
theorem Inv.laid {a : Addr} {o : HO} {t' : Nat} (I : Inv X pins σ H s) (k : ∀ b u, s.heap.get? b = some u → h'.get? b = some u) (hp : s.heap.objs.size ≤ a) (new : ObjOk X.prog X.w (upd H a o) h' a o) :
    Inv X pins σ (upd H a o) { s with heap := h', toks := t' } := I.un (Un.laid k hp (I.hok.fresh hp)) (I.hok.laid k hp new)
theorem Inv.write {x e : Addr} {o : HO} {t' : Nat} (I : Inv X pins σ H s) (mu : Mut (H x)) (he : e = x ∨ H e = some (.own x)) (k : ∀ b u, b ≠ e → s.heap.get? b = some u → h'.get? b = some u) (heo : ∃ u, h'.get? e = some u)
    (new : ObjOk X.prog X.w (upd H x o) h' x o) : Inv X pins σ (upd H x o) { s with heap := h', toks := t' } := I.un (Un.write mu he k heo) (I.hok.write mu he k heo new)
theorem Inv.pins_of {pins' : List (Addr × Obj)} (I : Inv X pins σ H s) (h : ∀ p ∈ pins', s.heap.get? p.1 = some p.2 ∧ H p.1 = none ∧ p.1 ≠ X.env.locals ∧ p.1 ∉ X.fs ∧ ∀ v, p.2.data ≠ .cell v) : Inv X pins' σ H s :=
  ⟨I.ok, I.os, I.bare, I.base, I.loc, I.cell, I.free, I.freeC, fun p hp => (List.mem_append.mp hp).elim (fun z => I.pin p (List.mem_append_left _ z)) (h p), I.hok, I.len⟩

theorem nodup_ix {N : List Str} (hN : N.Nodup) {i j : Nat} {x : Str} (a : N[i]? = some x) (b : N[j]? = some x) : i = j := by
  obtain ⟨h1, e1⟩ := List.getElem?_eq_some_iff.mp a
  obtain ⟨h2, e2⟩ := List.getElem?_eq_some_iff.mp b
  exact (List.getElem_inj hN).mp (e1.trans e2.symm)

theorem store_ok2 {M : Model} {A : Around} {E : Value → Shared → Prop} {i : Nat} {x : Str} {v : V} {u : Value} {Q : Unit → Shared → Prop} (I : Inv X pins σ H s) (hN : X.N.Nodup) (hi : X.N[i]? = some x) (hx : Loc X.env.scope x) (r : RelV v u)
    (h : ∀ s', Inv X pins (σ.set i (some v)) H s' → (∃ a, Heap.SameBut a s.heap s'.heap ∧ (a = X.env.locals ∨ X.env.cells.lookup x = some a)) → Q () s') (hf : X.fn x = true ∨ X.env.scope.names.lookup x = some .local := by first | exact .inl rfl | exact .inr rfl | assumption) : wpAny M A (storeName X.env x u) Q E s := by
  obtain ⟨m, hn, hl⟩ := id I.loc
  have hcls : (X.env.scope.kind == .class || (X.env.scope.kind == .module && X.env.locals != X.env.globals)) = false := by rw [I.ok.kind]; rfl
  have hiσ : i < σ.length := by rw [I.len]; exact (List.getElem?_eq_some_iff.mp hi).1
  have cne := I.cne
  have tracked : ∀ {a : Addr} {h' : Heap}, (∃ o, s.heap.get? a = some o ∧ H a = none) → Heap.SameBut a s.heap h' → HOk X.prog X.w H h' := fun {a h'} ha hs b ob e => by
    obtain ⟨_, _, hfree⟩ := ha
    refine (I.hok b ob e).stay (fun c w' hc q => (hs.2 c ?_).trans q) (fun _ q => q) fun _ _ q => q
    rintro rfl
    rcases hc with rfl | hc
    · rw [hfree] at e; cases e
    · rw [hfree] at hc; cases hc
  rcases hx with hk | hk
  · refine wpAny_storeName_local hk hn (fun h' hn' hs => ?_) hcls
    obtain ⟨oL, _, _, hoL, _⟩ := id hn
    refine h _ ⟨I.ok, I.os, I.bare, ⟨fun b o e n hb hx => ?_, fun b o e n hb hx => ?_, I.base.free, fun b o e hx => ?_, I.base.tups, I.base.frzs, I.base.tbls⟩, ⟨_, hn', fun j y v' e1 e2 e3 => ?_⟩, fun y c e => ?_, I.free, I.freeC, fun p hp => ?_, tracked ⟨oL, hoL, I.free⟩ hs, by simpa using I.len⟩ ⟨_, hs, .inl rfl⟩
    · exact (hs.2 b (Nat.ne_of_lt (Nat.lt_of_lt_of_le (Heap.lt_size e) I.ok.above))).trans (I.base.keep b o e n hb hx)
    · obtain ⟨sl, e1⟩ := I.base.slot b o e n hb hx
      exact ⟨sl, (hs.2 b (Nat.ne_of_lt (Nat.lt_of_lt_of_le (Heap.lt_size e) I.ok.above))).trans e1⟩
    · obtain ⟨o', e1⟩ := I.base.there b o e hx
      exact ⟨o', (hs.2 b (Nat.ne_of_lt (Nat.lt_of_lt_of_le (Heap.lt_size e) I.ok.above))).trans e1⟩
    · by_cases hj : j = i
      · subst hj
        rw [hi] at e1; cases e1
        rw [List.getElem?_set_self hiσ] at e2
        cases e2
        exact ⟨u, r, .inl ⟨hk, by simp⟩⟩
      · rw [List.getElem?_set_ne (Ne.symm hj)] at e2
        obtain ⟨u', r', q⟩ := hl j y v' e1 e2 e3
        refine ⟨u', r', ?_⟩
        rcases q with ⟨k, e⟩ | ⟨k, c, e, z⟩
        · refine .inl ⟨k, ?_⟩
          have : y ≠ x := fun e => hj (nodup_ix hN e1 (e ▸ hi))
          simp [this, e]
        · exact .inr ⟨k, c, e, z.sameBut hs (cne y c e)⟩
    · obtain ⟨w', z⟩ := I.cell y c e
      exact ⟨w', z.sameBut hs (cne y c e)⟩
    · obtain ⟨e, n, ne, nf, d⟩ := I.pin p hp
      exact ⟨(hs.2 p.1 ne).trans e, n, ne, nf, d⟩
  · have hfn : X.fn x = true := by
      rcases hf with z | z
      · exact z
      · rw [z] at hk; cases hk
    obtain ⟨c, hc⟩ := I.ok.has x (.inl hk)
    obtain ⟨w', z⟩ := I.cell x c hc
    refine wpAny_storeName_cell I.ok.kind hk hc z (fun h' hc' hs => ?_)
    obtain ⟨oc, hoc, hocd⟩ := id z
    refine h { s with heap := h' } ⟨I.ok, I.os, I.bare, ⟨fun b o e n hb hx => ?_, fun b o e n hb hx => ?_, I.base.free, fun b o e hx => ?_, I.base.tups, I.base.frzs, I.base.tbls⟩, ⟨m, hn.sameBut hs (Ne.symm (cne x c hc)), fun j y v' e1 e2 e3 => ?_⟩, fun y c' e => ?_, I.free, I.freeC, fun p hp => ?_, tracked ⟨oc, hoc, I.freeC x c hc⟩ hs, by simpa using I.len⟩ ⟨c, hs, .inr hc⟩
    · exact (hs.2 b (Nat.ne_of_lt (Nat.lt_of_lt_of_le (Heap.lt_size e) (I.ok.cab x c hfn hc)))).trans (I.base.keep b o e n hb hx)
    · obtain ⟨sl, e1⟩ := I.base.slot b o e n hb hx
      exact ⟨sl, (hs.2 b (Nat.ne_of_lt (Nat.lt_of_lt_of_le (Heap.lt_size e) (I.ok.cab x c hfn hc)))).trans e1⟩
    · obtain ⟨o', e1⟩ := I.base.there b o e hx
      exact ⟨o', (hs.2 b (Nat.ne_of_lt (Nat.lt_of_lt_of_le (Heap.lt_size e) (I.ok.cab x c hfn hc)))).trans e1⟩
    · by_cases hj : j = i
      · subst hj
        rw [hi] at e1; cases e1
        rw [List.getElem?_set_self hiσ] at e2
        cases e2
        exact ⟨u, r, .inr ⟨.inl hk, c, hc, hc'⟩⟩
      · rw [List.getElem?_set_ne (Ne.symm hj)] at e2
        obtain ⟨u', r', q⟩ := hl j y v' e1 e2 e3
        refine ⟨u', r', ?_⟩
        rcases q with q | ⟨k, c', e, z'⟩
        · exact .inl q
        · refine .inr ⟨k, c', e, z'.sameBut hs ?_⟩
          rintro rfl
          exact hj (nodup_ix hN e1 (I.ok.inj _ _ _ e hc ▸ hi))
    · by_cases hcc : c' = c
      · subst hcc; exact ⟨_, hc'⟩
      · obtain ⟨w2, z2⟩ := I.cell y c' e
        exact ⟨w2, z2.sameBut hs hcc⟩
    · obtain ⟨e, n, ne, nf, d⟩ := I.pin p hp
      refine ⟨(hs.2 p.1 ?_).trans e, n, ne, nf, d⟩
      intro q
      rw [q, hoc] at e
      have q' : oc = p.2 := Option.some.inj e
      exact d w' (by rw [← q']; exact hocd)
theorem store_ok {M : Model} {A : Around} {E : Value → Shared → Prop} {i : Nat} {x : Str} {v : V} {u : Value} {Q : Unit → Shared → Prop} (I : Inv X pins σ H s) (hN : X.N.Nodup) (hi : X.N[i]? = some x) (hx : Loc X.env.scope x) (r : RelV v u)
    (h : ∀ s', Inv X pins (σ.set i (some v)) H s' → Q () s') (hf : X.fn x = true ∨ X.env.scope.names.lookup x = some .local := by first | exact .inl rfl | exact .inr rfl | assumption) : wpAny M A (storeName X.env x u) Q E s :=
  store_ok2 I hN hi hx r (fun s' I' _ => h s' I') hf
theorem Inv.call' {s' : Shared} {ch : List Addr} (I : Inv X pins σ H s) (ho : s'.os = s.os) (u : Un (frs X.stack) ch H H' s.heap s'.heap) (hok : HOk X.prog X.w H' s'.heap) (hg : AllBare s'.gens)
    (hch : ∀ b ∈ ch, (b ∈ X.ex ∨ X.s₀.heap.objs.size ≤ b) ∧ b ≠ X.env.locals ∧ (∀ x c, X.env.cells.lookup x = some c → c ≠ b) ∧ ∀ p ∈ X.pn ++ pins, p.1 ≠ b) : Inv X pins σ H' s' := by
  obtain ⟨h', g', d', t', o'⟩ := s'
  have e : o' = s.os := ho
  subst e
  exact I.call (g' := g') (t' := t') (d' := d') u hok hg hch
end

abbrev XK := Value → Option Addr → Hp → Prop
abbrev St := List (Option V)
abbrev VK := V → Hp → Prop
abbrev TE := St → Hp → VK → Prop
abbrev TT := St → Hp → (Bool → Hp → Prop) → Prop
abbrev TA := St → Hp → (List V → Hp → Prop) → Prop
structure Ends where
  nx : St → Hp → Prop
  rt : VK
  bk : St → Hp → Prop := fun _ _ => False
  ct : St → Hp → Prop := fun _ _ => False
abbrev TS := Ends → St → Hp → Prop

def EP (X : Cx) (pins : List (Addr × Obj)) (σ : St) (Q : VK) (u : Value) (s' : Shared) : Prop := ∃ v H', Inv X pins σ H' s' ∧ RelV v u ∧ Q v H'
def TP (X : Cx) (pins : List (Addr × Obj)) (σ : St) (Q : Bool → Hp → Prop) (b : Bool) (s' : Shared) : Prop := ∃ H', Inv X pins σ H' s' ∧ Q b H'
def AP (X : Cx) (pins : List (Addr × Obj)) (σ : St) (Q : List V → Hp → Prop) (us : List Value) (s' : Shared) : Prop := ∃ vs H', Inv X pins σ H' s' ∧ Vals vs us ∧ Q vs H'
def SP (X : Cx) (pins : List (Addr × Obj)) (D : Ends) (f : Flow) (s' : Shared) : Prop :=
  match f with
  | .next => ∃ σ' H', Inv X pins σ' H' s' ∧ D.nx σ' H'
  | .brk => ∃ σ' H', Inv X pins σ' H' s' ∧ D.bk σ' H'
  | .cont => ∃ σ' H', Inv X pins σ' H' s' ∧ D.ct σ' H'
  | .ret u => ∃ v σ' H', Inv X pins σ' H' s' ∧ RelV v u ∧ D.rt v H'

def PE (X : Cx) (e : Expr) (t : TE) : Prop :=
  ∀ (pins : List (Addr × Obj)) (s : Shared) (σ : St) (H : Hp) (Q : VK), Inv X pins σ H s → t σ H Q → wpAny (model X.prog X.w) X.A (eval e X.env) (EP X pins σ Q) X.xe s
def PT (X : Cx) (e : Expr) (t : TT) : Prop :=
  ∀ (pins : List (Addr × Obj)) (s : Shared) (σ : St) (H : Hp) (Q : Bool → Hp → Prop), Inv X pins σ H s → t σ H Q → wpAny (model X.prog X.w) X.A (isTrue e X.env (eval e X.env)) (TP X pins σ Q) X.xe s
def PW (X : Cx) (e : Expr) (t : TT) : Prop :=
  ∀ (whole : Sem Value) (pins : List (Addr × Obj)) (s : Shared) (σ : St) (H : Hp) (Q : Bool → Hp → Prop), Inv X pins σ H s → t σ H Q → wpAny (model X.prog X.w) X.A (isTrue e X.env whole) (TP X pins σ Q) X.xe s
theorem PW.pt {X : Cx} {e : Expr} {t : TT} (h : PW X e t) : PT X e t := h _
def PA (X : Cx) (es : List Expr) (t : TA) : Prop :=
  ∀ (pos : Pos) (pins : List (Addr × Obj)) (s : Shared) (σ : St) (H : Hp) (Q : List V → Hp → Prop), Inv X pins σ H s → t σ H Q → wpAny (model X.prog X.w) X.A (spliced (backTo pos (starEach es X.env))) (AP X pins σ Q) X.xe s
def PS (X : Cx) (st : Stmt) (t : TS) : Prop :=
  ∀ (pins : List (Addr × Obj)) (s : Shared) (σ : St) (H : Hp) (D : Ends), Inv X pins σ H s → t D σ H → wpAny (model X.prog X.w) X.A (exec st X.env) (SP X pins D) X.xe s
def PSs (X : Cx) (st : List Stmt) (t : TS) : Prop :=
  ∀ (pins : List (Addr × Obj)) (s : Shared) (σ : St) (H : Hp) (D : Ends), Inv X pins σ H s → t D σ H → wpAny (model X.prog X.w) X.A (execs st X.env) (SP X pins D) X.xe s
theorem thn {α : Type} {t : Sem α} {Q Q' : α → Shared → Prop} {M : Model} {A : Around} {E : Value → Shared → Prop} {s : Shared} (h : wpAny M A t Q E s) (hQ : ∀ a s, Q a s → Q' a s) : wpAny M A t Q' E s := wpAny_mono h hQ fun _ _ x => x
end L2

namespace L2
open PySem PySem.Spec PyProof.Rows
section
variable {X : Cx}

theorem bin {a b : Expr} {ta tb : TE} (ha : PE X a ta) (hb : PE X b tb) {pins : List (Addr × Obj)} {s : Shared} {σ : St} {H : Hp} {R : V → V → Hp → Prop} (I : Inv X pins σ H s) (h : ta σ H fun x H1 => tb σ H1 fun y H2 => R x y H2)
    {α : Type} {Q : α → Shared → Prop} {f : Value → Value → Sem α}
    (hf : ∀ v u s2 x y H2, Inv X pins σ H2 s2 → RelV x v → RelV y u → R x y H2 → wpAny (model X.prog X.w) X.A (f v u) Q X.xe s2) :
    wpAny (model X.prog X.w) X.A (eval a X.env) (fun v s₁ => wpAny (model X.prog X.w) X.A (eval b X.env) (fun u s₂ => wpAny (model X.prog X.w) X.A (f v u) Q X.xe s₂) X.xe s₁) X.xe s := by
  refine thn (ha pins s σ H _ I h) fun v s1 ⟨x, H1, I1, r1, q1⟩ => ?_
  refine thn (hb pins s1 σ H1 _ I1 q1) fun u s2 ⟨y, H2, I2, r2, q2⟩ => ?_
  exact hf v u s2 x y H2 I2 r1 r2 q2

def tVar (i : Nat) : TE := fun σ H Q => ∃ v, σ[i]? = some (some v) ∧ Q v H
def tC (v : V) : TE := fun _ H Q => Q v H
theorem pe_var {i : Nat} {x : Str} {pos : Pos} (hN : X.N[i]? = some x) (hv : Vis X.env.scope x) (hd : (x == ("__debug__" : Str)) = false := by decide) (hcd : (x == ("__classdict__" : Str)) = false := by decide) : PE X (.Name x pos) (tVar i) := by
  intro pins s σ H Q I h
  obtain ⟨v, e, h⟩ := h
  obtain ⟨m, hn, hl⟩ := I.loc
  obtain ⟨u, r, l⟩ := hl i x v hN e hv
  have fin : EP X pins σ Q u s := ⟨v, H, I, r, h⟩
  rcases l with ⟨hk, hm⟩ | ⟨hk, c, hc, hcell⟩
  · exact wpAny_Name (wpAny_loadName_local I.ok.kind hk hn hm fin) hd
  · rcases hk with hk | hk
    · exact wpAny_Name (wpAny_loadName_cell I.ok.kind hk hc hcell fin) hd
    · exact wpAny_Name (wpAny_loadName_free I.ok.kind hk hc hcell fin hcd) hd
theorem pe_int {i j pos} : PE X (.Constant (.int i) j pos) (tC (.int i)) := fun _ _ _ H _ I h => wpAny_Constant_int ⟨.int i, H, I.tok _, ⟨_, rfl⟩, h⟩
theorem pe_bl {b j pos} : PE X (.Constant (.bool b) j pos) (tC (.bl b)) := fun _ _ _ H _ I h => Constant_bool ⟨.bl b, H, I, rfl, h⟩
theorem pe_non {j pos} : PE X (.Constant .none j pos) (tC .non) := fun _ _ _ H _ I h => Constant_none ⟨.non, H, I, rfl, h⟩
theorem pe_str {x j pos} : PE X (.Constant (.str x) j pos) (tC (.str x)) := fun _ _ _ H _ I h => Calls.Constant_str ⟨.str x, H, I.tok _, ⟨_, rfl⟩, h⟩

def Gl (X : Cx) (x : Str) : Prop := X.env.kindOf x = some .globalImplicit
theorem ld_glob {E : Value → Shared → Prop} {pins : List (Addr × Obj)} {s : Shared} {σ : St} {H : Hp} {x : Str} {u : Value} {pos : Pos} {Q : Value → Shared → Prop} (I : Inv X pins σ H s) (hg : Gl X x) (hm : X.mg x = some u) (h : Q u s)
    (hd : (x == ("__debug__" : Str)) = false := by decide) : wpAny (model X.prog X.w) X.A (eval (.Name x pos) X.env) Q E s :=
  Calls.Name_function_global I.ok.kind hg (Calls.loadGlobal_global (by rw [I.ok.glob]; exact I.mod.glob.keeps I.bk) hm h) hd
theorem ld_blt {E : Value → Shared → Prop} {pins : List (Addr × Obj)} {s : Shared} {σ : St} {H : Hp} {x : Str} {u : Value} {pos : Pos} {Q : Value → Shared → Prop} (I : Inv X pins σ H s) (hg : Gl X x) (hm : X.mg x = none) (hv : bootBuiltins x = some u) (h : Q u s)
    (hn : x ≠ "__name__" := by decide) (hd : (x == ("__debug__" : Str)) = false := by decide) : wpAny (model X.prog X.w) X.A (eval (.Name x pos) X.env) Q E s := by
  obtain ⟨mb, h1, h2⟩ := I.mod.blt
  exact Calls.Name_function_global I.ok.kind hg (Calls.loadGlobal_builtin (by rw [I.ok.glob]; exact I.mod.glob.keeps I.bk) hm (by rw [I.ok.blt]; exact h1.keeps I.bk) ((h2 x hn).trans hv) h) hd
theorem pe_glob {x : Str} {v : V} {u : Value} {pos : Pos} (hg : Gl X x) (hm : X.mg x = some u) (r : RelV v u) (hd : (x == ("__debug__" : Str)) = false := by decide) : PE X (.Name x pos) (tC v) :=
  fun _ _ _ H _ I h => ld_glob I hg hm ⟨v, H, I, r, h⟩ hd
theorem pe_bltn {x : Str} {v : V} {u : Value} {pos : Pos} (hg : Gl X x) (hm : X.mg x = none) (hv : bootBuiltins x = some u) (r : RelV v u) (hn : x ≠ "__name__" := by decide) (hd : (x == ("__debug__" : Str)) = false := by decide) : PE X (.Name x pos) (tC v) :=
  fun _ _ _ H _ I h => ld_blt I hg hm hv ⟨v, H, I, r, h⟩ hn hd

variable {a b : Expr} {ta tb : TE} {pos : Pos}
def PC (X : Cx) (op : CmpOp) (a b : Expr) (t : TE) : Prop :=
  ∀ (pins : List (Addr × Obj)) (s : Shared) (σ : St) (H : Hp) (Q : VK), Inv X pins σ H s → t σ H Q →
    wpAny (model X.prog X.w) X.A (eval a X.env) (fun v s₁ => wpAny (model X.prog X.w) X.A (eval b X.env) (fun u s₂ => wpAny (model X.prog X.w) X.A (compareOp op v u) (EP X pins σ Q) X.xe s₂) X.xe s₁) X.xe s
theorem nobehind (b : Expr) {op : CmpOp} (h : op ≠ .In) (h2 : op ≠ .NotIn) : behindInMarks op b = false := by
  have e1 : (op == CmpOp.In) = false := by cases op <;> first | rfl | exact absurd rfl h
  have e2 : (op == CmpOp.NotIn) = false := by cases op <;> first | rfl | exact absurd rfl h2
  cases b <;> simp [behindInMarks, e1, e2]
def tB (t : TE) : TT := fun σ H Q => t σ H fun x H1 => ∃ c, x = .bl c ∧ Q c H1
theorem pt_cmp {op : CmpOp} {t : TE} (h : PC X op a b t) (h1 : behindInMarks op b = false := by first | exact nobehind _ (by decide) (by decide) | rfl) : PT X (.Compare a [op] [b] pos) (tB t) := by
  intro pins s σ H Q I hw
  refine wpAny_isTrue_Compare1 (thn (h pins s σ H _ I hw) fun v s1 h1 => thn h1 fun u s2 h2 => thn h2 fun c s3 ⟨x, H1, I1, r1, q1⟩ => ?_) h1
  obtain ⟨d, rfl, q⟩ := q1
  cases r1
  exact wpAny_truthy_bool ⟨H1, I1, q⟩
theorem pt_val {e : Expr} {t : TE} (h : PE X e t) (he : ∀ whole, isTrue e X.env whole = (do let v ← whole; standAt e.pos; holding [v] (truthy v)) := by intro _; rfl) : PT X e (tB t) := by
  intro pins s σ H Q I hw
  refine isTrue_plain (thn (h pins s σ H _ I hw) fun v s1 ⟨x, H1, I1, r1, q1⟩ => ?_) (he _)
  obtain ⟨d, rfl, q⟩ := q1
  cases r1
  exact wpAny_truthy_bool ⟨H1, I1, q⟩

variable {tA tB' : TT} {rest : List Expr}
def tAnd (t u : TT) : TT := fun σ H Q => t σ H fun c H1 => if c = true then u σ H1 Q else Q false H1
def tOr (t u : TT) : TT := fun σ H Q => t σ H fun c H1 => if c = true then Q true H1 else u σ H1 Q
def tNot (t : TT) : TT := fun σ H Q => t σ H fun c H1 => Q (!c) H1
theorem pw_and1 (ha : PT X a tA) : PW X (.BoolOp .And [a] pos) tA := by
  intro wh pins s σ H Q I h
  refine isTrue_and (thn (ha pins s σ H Q I h) fun c s1 e => ?_)
  cases c with
  | true => exact isTrue_and_nil e
  | false => exact e
theorem pw_or1 (ha : PT X a tA) : PW X (.BoolOp .Or [a] pos) tA := by
  intro wh pins s σ H Q I h
  refine isTrue_or (thn (ha pins s σ H Q I h) fun c s1 e => ?_)
  cases c with
  | false => exact isTrue_or_nil e
  | true => exact e
theorem pw_and (ha : PT X a tA) (hb : PW X (.BoolOp .And (b :: rest) pos) tB') : PW X (.BoolOp .And (a :: b :: rest) pos) (tAnd tA tB') := by
  intro wh pins s σ H Q I h
  refine isTrue_and (thn (ha pins s σ H _ I h) fun c s1 ⟨H1, I1, q1⟩ => ?_)
  cases c with
  | true => exact hb wh pins s1 σ H1 Q I1 q1
  | false => exact ⟨H1, I1, q1⟩
theorem pw_or (ha : PT X a tA) (hb : PW X (.BoolOp .Or (b :: rest) pos) tB') : PW X (.BoolOp .Or (a :: b :: rest) pos) (tOr tA tB') := by
  intro wh pins s σ H Q I h
  refine isTrue_or (thn (ha pins s σ H _ I h) fun c s1 ⟨H1, I1, q1⟩ => ?_)
  cases c with
  | true => exact ⟨H1, I1, q1⟩
  | false => exact hb wh pins s1 σ H1 Q I1 q1
theorem pt_not (ha : PT X a tA) : PT X (.UnaryOp .Not a pos) (tNot tA) := by
  intro pins s σ H Q I h
  exact isTrue_not (ha pins s σ H (fun c H1 => Q (!c) H1) I h)
def tAndV (ta tb : TE) : TE := fun σ H Q => ta σ H fun x H1 => ∃ c, x = .bl c ∧ if c = true then tb σ H1 Q else Q (.bl false) H1
def tOrV (ta tb : TE) : TE := fun σ H Q => ta σ H fun x H1 => ∃ c, x = .bl c ∧ if c = true then Q (.bl true) H1 else tb σ H1 Q
theorem pe_one {op} {t : TE} (h : PE X a t) : PE X (.BoolOp op [a] pos) t := fun pins s σ H Q I hw => BoolOp_one (h pins s σ H Q I hw)
theorem pe_and (ha : PE X a ta) (hb : PE X (.BoolOp .And (b :: rest) pos) tb) : PE X (.BoolOp .And (a :: b :: rest) pos) (tAndV ta tb) := by
  intro pins s σ H Q I h
  refine BoolOp_and (thn (ha pins s σ H _ I h) fun v s1 ⟨x, H1, I1, r1, q1⟩ => ?_)
  obtain ⟨c, rfl, q1⟩ := q1
  cases r1
  refine wpAny_truthy_bool ?_
  cases c with
  | true => exact hb pins s1 σ H1 Q I1 q1
  | false => exact ⟨.bl false, H1, I1, rfl, q1⟩
theorem pe_or (ha : PE X a ta) (hb : PE X (.BoolOp .Or (b :: rest) pos) tb) : PE X (.BoolOp .Or (a :: b :: rest) pos) (tOrV ta tb) := by
  intro pins s σ H Q I h
  refine BoolOp_or (thn (ha pins s σ H _ I h) fun v s1 ⟨x, H1, I1, r1, q1⟩ => ?_)
  obtain ⟨c, rfl, q1⟩ := q1
  cases r1
  refine wpAny_truthy_bool ?_
  cases c with
  | false => exact hb pins s1 σ H1 Q I1 q1
  | true => exact ⟨.bl true, H1, I1, rfl, q1⟩
def tIf (t : TT) (ta tb : TE) : TE := fun σ H Q => t σ H fun c H1 => if c = true then ta σ H1 Q else tb σ H1 Q
theorem pe_ifExp {c : Expr} (hc : PT X c tA) (ha : PE X a ta) (hb : PE X b tb) : PE X (.IfExp c a b pos) (tIf tA ta tb) := by
  intro pins s σ H Q I h
  refine wpAny_IfExp (thn (hc pins s σ H _ I h) fun d s1 ⟨H1, I1, q1⟩ => ?_)
  cases d with
  | true => exact ha pins s1 σ H1 Q I1 q1
  | false => exact hb pins s1 σ H1 Q I1 q1
end
end L2

namespace L2
open PySem PySem.Spec PyProof.Rows

def SqL (K : PySem.W.Frag) (H : Hp) (a : Addr) (xs : List V) : Prop :=
  Rd H a (.lst xs) ∨
    ∃ (o : Obj) (its : Array Value) (n : Nat), K.lookup a = some o ∧ o.cls = .type "list" ∧ o.dict = none ∧ o.data = .seq its n ∧ its.size ≤ sizeLine ∧ Vals xs its.toList
def SqT (K : PySem.W.Frag) (H : Hp) (a : Addr) (xs : List V) : Prop :=
  Rd H a (.tup xs) ∨
    ∃ (o : Obj) (its : Array Value) (n : Nat), K.lookup a = some o ∧ o.cls = .type "tuple" ∧ o.data = .seq its n ∧ its.size ≤ sizeLine ∧ Vals xs its.toList
def absV : Value → Option V
  | .none => some .non
  | .bool b => some (.bl b)
  | .int i _ => some (.int i)
  | .str x _ => some (.str x)
  | .bytes b _ => some (.byt b)
  | .float b _ => some (.flt b)
  | .ref a => some (.ref a)
  | .type n => some (.ty n)
  | _ => none
theorem RelV.abs {x : V} {u : Value} (r : RelV x u) : absV u = some x := by
  cases x with
  | non => cases r; rfl
  | bl _ => cases r; rfl
  | int _ => obtain ⟨t, rfl⟩ := r; rfl
  | str _ => obtain ⟨t, rfl⟩ := r; rfl
  | byt _ => obtain ⟨t, rfl⟩ := r; rfl
  | flt _ => obtain ⟨t, rfl⟩ := r; rfl
  | ref _ => cases r; rfl
  | ty _ => cases r; rfl
theorem RelV.inj {x y : V} {u : Value} (r : RelV x u) (q : RelV y u) : x = y := Option.some.inj (r.abs.symm.trans q.abs)
theorem Vals.inj : ∀ {xs ys : List V} {us : List Value}, Vals xs us → Vals ys us → xs = ys
  | _, _, _, .nil, .nil => rfl
  | _, _, _, .cons r t, .cons r' t' => by rw [r.inj r', Vals.inj t t']
section
variable {X : Cx} {pins : List (Addr × Obj)} {σ : St} {H : Hp} {s : Shared} {a : Addr} {xs ys : List V}
theorem SqL.of {K : PySem.W.Frag} (h : H a = some (.lst xs)) : SqL K H a xs := .inl (.inl h)
theorem SqT.of {K : PySem.W.Frag} (h : H a = some (.tup xs)) : SqT K H a xs := .inl (.inl h)
theorem Inv.list (I : Inv X pins σ H s) (h : SqL X.K H a xs) : ∃ its : List Value, Vals xs its ∧ PlainL s.heap a its.toArray ∧ xs.length ≤ sizeLine := by
  rcases h with h | ⟨o, its, n, hk, hc, hd, hs, hz, r⟩
  · obtain ⟨z, its, n, r, e⟩ := h.ok I.hok
    exact ⟨its, r, ⟨_, n, e, rfl, rfl, rfl⟩, z⟩
  · refine ⟨its.toList, r, ⟨o, n, I.kIn a o hk, hc, hd, by simpa using hs⟩, ?_⟩
    have e := r.length
    simp only [Array.length_toList] at e
    omega
theorem Inv.tuple (I : Inv X pins σ H s) (h : SqT X.K H a xs) : ∃ its : List Value, Vals xs its ∧ IsTup s.heap a its.toArray ∧ xs.length ≤ sizeLine := by
  rcases h with h | ⟨o, its, n, hk, hc, hs, hz, r⟩
  · obtain ⟨z, its, r, p⟩ := h.ok I.hok
    exact ⟨its, r, p, z⟩
  · refine ⟨its.toList, r, ⟨o, I.kIn a o hk, hc, n, by simpa using hs⟩, ?_⟩
    have e := r.length
    simp only [Array.length_toList] at e
    omega
theorem Inv.list_inj (I : Inv X pins σ H s) (h : SqL X.K H a xs) (h' : SqL X.K H a ys) : xs = ys := by
  obtain ⟨its, r, ⟨o, n, e, _, _, d⟩, _⟩ := I.list h
  obtain ⟨its', r', ⟨o', n', e', _, _, d'⟩, _⟩ := I.list h'
  rw [e] at e'; cases e'
  rw [d] at d'
  injection d' with d1 _
  have : its = its' := by simpa using congrArg Array.toList d1
  subst this
  exact r.inj r'
theorem Inv.tuple_inj (I : Inv X pins σ H s) (h : SqT X.K H a xs) (h' : SqT X.K H a ys) : xs = ys := by
  obtain ⟨its, r, ⟨o, e, _, n, d⟩, _⟩ := I.tuple h
  obtain ⟨its', r', ⟨o', e', _, n', d'⟩, _⟩ := I.tuple h'
  rw [e] at e'; cases e'
  rw [d] at d'
  injection d' with d1 _
  have : its = its' := by simpa using congrArg Array.toList d1
  subst this
  exact r.inj r'
end

abbrev Cx.wish (X : Cx) (E : Value → Shared → Prop) : Cx := { X with xe := E }
abbrev Cx.nox (X : Cx) : Cx := X.wish fun _ _ => False
theorem Cx.Ok.wish {X : Cx} (ok : X.Ok) (E : Value → Shared → Prop) : (X.wish E).Ok :=
  ⟨ok.mod, ok.kind, ok.glob, ok.blt, ok.above, ok.inj, ok.has, ok.cab, ok.hd, ok.frames, ok.stk, ok.exf, ok.bs, ok.bsz, ok.noex, ok.exfs, ok.funs, ok.frf⟩
theorem Cx.Ok.unwish {X : Cx} {E : Value → Shared → Prop} (ok : (X.wish E).Ok) : X.Ok :=
  ⟨ok.mod, ok.kind, ok.glob, ok.blt, ok.above, ok.inj, ok.has, ok.cab, ok.hd, ok.frames, ok.stk, ok.exf, ok.bs, ok.bsz, ok.noex, ok.exfs, ok.funs, ok.frf⟩
section
variable {X : Cx} {pins : List (Addr × Obj)} {σ : St} {H : Hp} {s : Shared} {E : Value → Shared → Prop}
theorem Inv.wish (I : Inv X pins σ H s) (E : Value → Shared → Prop) : Inv (X.wish E) pins σ H s := ⟨I.ok.wish E, I.os, I.bare, I.base, I.loc, I.cell, I.free, I.freeC, I.pin, I.hok, I.len⟩
theorem Inv.unwish (I : Inv (X.wish E) pins σ H s) : Inv X pins σ H s := ⟨I.ok.unwish, I.os, I.bare, I.base, I.loc, I.cell, I.free, I.freeC, I.pin, I.hok, I.len⟩
theorem SP.unwish {D : Ends} {f : Flow} {s' : Shared} (h : SP (X.wish E) pins D f s') : SP X pins D f s' := by
  cases f with
  | next => obtain ⟨σ', H', I, q⟩ := h; exact ⟨σ', H', I.unwish, q⟩
  | brk => obtain ⟨σ', H', I, q⟩ := h; exact ⟨σ', H', I.unwish, q⟩
  | cont => obtain ⟨σ', H', I, q⟩ := h; exact ⟨σ', H', I.unwish, q⟩
  | ret u => obtain ⟨v, σ', H', I, r, q⟩ := h; exact ⟨v, σ', H', I.unwish, r, q⟩
theorem PSs.nox {st : List Stmt} {t : TS} (h : PSs X.nox st t) : PSs X st t := fun pins s σ H D I hw =>
  wpAny_mono (h pins s σ H D (I.wish _) hw) (fun _ _ q => q.unwish) fun _ _ z => False.elim z
end

section
variable {X : Cx} {st : Stmt} {rest : List Stmt} {t u : TS} {e : Expr} {te : TE} {pos : Pos}
def tNext : TS := fun D σ H => D.nx σ H
def tSeq (t u : TS) : TS := fun D σ H => t { D with nx := u D } σ H
theorem pss_nil : PSs X [] tNext := fun _ _ σ H _ I h => wpAny_execs_nil ⟨σ, H, I, h⟩
theorem pss_cons (h1 : PS X st t) (h2 : PSs X rest u) : PSs X (st :: rest) (tSeq t u) := by
  intro pins s σ H D I h
  refine wpAny_execs_cons (thn (h1 pins s σ H { D with nx := u D } I h) fun f s1 q => ?_)
  cases f with
  | next =>
    obtain ⟨σ', H', I', q⟩ := q
    exact h2 pins s1 σ' H' D I' q
  | ret v => exact q
  | brk => exact q
  | cont => exact q
theorem pss_one (h1 : PS X st t) : PSs X [st] t := by
  intro pins s σ H D I h
  refine wpAny_execs_cons (thn (h1 pins s σ H D I h) fun f s1 q => ?_)
  cases f with
  | next => exact wpAny_execs_nil q
  | ret v => exact q
  | brk => exact q
  | cont => exact q
theorem Inv.quiet {pins : List (Addr × Obj)} {σ : St} {H : Hp} {s : Shared} (I : Inv X pins σ H s) : interactive X.env = false := by simp [interactive, I.ok.kind]
def tDrop (te : TE) : TS := fun D σ H => te σ H fun _ H1 => D.nx σ H1
theorem ps_expr (he : PE X e te) (hs : swapsWith e none pos.line X.env = pure false := by rfl) : PS X (.Expr e pos) (tDrop te) := by
  intro pins s σ H D I h
  exact wpAny_Expr_any (thn (he pins s σ H _ I h) fun v s1 ⟨x, H1, I1, r1, q1⟩ => ⟨σ, H1, I1, q1⟩) I.quiet hs
def tRet (te : TE) : TS := fun D σ H => te σ H D.rt
theorem ps_ret (he : PE X e te) : PS X (.Return (some e) pos) (tRet te) := by
  intro pins s σ H D I h
  exact wpAny_Return_some (thn (he pins s σ H _ I h) fun v s1 ⟨x, H1, I1, r1, q1⟩ => ⟨x, σ, H1, I1, r1, q1⟩)
def tIfS (c : TT) (t u : TS) : TS := fun D σ H => c σ H fun b H1 => if b = true then t D σ H1 else u D σ H1
theorem ps_if {c : Expr} {a b : List Stmt} {tc : TT} (hc : PT X c tc) (ha : PSs X a t) (hb : PSs X b u) : PS X (.If c a b pos) (tIfS tc t u) := by
  intro pins s σ H D I h
  refine wpAny_If (thn (hc pins s σ H _ I h) fun d s1 ⟨H1, I1, q1⟩ => ?_)
  cases d with
  | true => exact ha pins s1 σ H1 D I1 q1
  | false => exact hb pins s1 σ H1 D I1 q1
end

abbrev TG := V → St → Hp → (St → Hp → Prop) → Prop
abbrev TGs := List V → St → Hp → (St → Hp → Prop) → Prop
def PG (X : Cx) (target : Expr) (t : TG) : Prop :=
  ∀ (pins : List (Addr × Obj)) (s : Shared) (σ : St) (H : Hp) (v : V) (u : Value) (Q : St → Hp → Prop), Inv X pins σ H s → RelV v u → t v σ H Q →
    wpAny (model X.prog X.w) X.A (assign target X.env u) (fun _ s' => ∃ σ' H', Inv X pins σ' H' s' ∧ Q σ' H') X.xe s
def PGs (X : Cx) (ts : List Expr) (t : TGs) : Prop :=
  ∀ (pins : List (Addr × Obj)) (s : Shared) (σ : St) (H : Hp) (vs : List V) (us : List Value) (Q : St → Hp → Prop), Inv X pins σ H s → Vals vs us → t vs σ H Q →
    wpAny (model X.prog X.w) X.A (assignInOrder ((assignEach ts X.env).map (·.2)) us) (fun _ s' => ∃ σ' H', Inv X pins σ' H' s' ∧ Q σ' H') X.xe s
abbrev TSet := V → V → V → Hp → (Hp → Prop) → Prop
def PSet (X : Cx) (t : TSet) : Prop :=
  ∀ (pins : List (Addr × Obj)) (s : Shared) (σ : St) (H : Hp) (o i v : V) (ov iv u : Value) (Q : Hp → Prop), Inv X pins σ H s → RelV o ov → RelV i iv → RelV v u → t o i v H Q →
    wpAny (model X.prog X.w) X.A (setItem ov iv u) (fun _ s' => ∃ H', Inv X pins σ H' s' ∧ Q H') X.xe s
section
variable {X : Cx} {pos : Pos}
def gName (i : Nat) : TG := fun v σ H Q => Q (σ.set i (some v)) H
theorem pg_name {i : Nat} {x : Str} (hN : X.N.Nodup) (hi : X.N[i]? = some x) (hx : Loc X.env.scope x) (hf : X.fn x = true ∨ X.env.scope.names.lookup x = some .local := by first | exact .inl rfl | exact .inr rfl | assumption) : PG X (.Name x pos) (gName i) := by
  intro pins s σ H v u Q I r h
  exact wpAny_assign_Name (store_ok I hN hi hx r (fun s' I' => ⟨_, H, I', h⟩) hf)
def gNil : TGs := fun vs σ H Q => vs = [] ∧ Q σ H
def gCons (t : TG) (u : TGs) : TGs := fun vs σ H Q => ∃ v r, vs = v :: r ∧ t v σ H fun σ' H' => u r σ' H' Q
theorem pgs_nil : PGs X [] gNil := by
  intro pins s σ H vs us Q I r h
  obtain ⟨e, h⟩ := h
  subst e
  cases r
  exact assignInOrder_nil ⟨σ, H, I, h⟩
theorem pgs_cons {e : Expr} {es : List Expr} {t : TG} {u : TGs} (h1 : PG X e t) (h2 : PGs X es u)
    (hs : (assignEach (e :: es) X.env).map (·.2) = assign e X.env :: (assignEach es X.env).map (·.2) := by rfl) : PGs X (e :: es) (gCons t u) := by
  intro pins s σ H vs us Q I r h
  obtain ⟨v, vr, e1, h⟩ := h
  subst e1
  cases r with
  | cons r rr =>
    rw [hs]
    refine assignInOrder_cons (thn (h1 pins s σ H _ _ _ I r h) fun _ s1 ⟨σ1, H1, I1, q1⟩ => ?_)
    exact h2 pins s1 σ1 H1 _ _ Q I1 rr q1
def gTup (K : PySem.W.Frag) (n : Nat) (t : TGs) : TG := fun v σ H Q => ∃ a xs, v = .ref a ∧ SqT K H a xs ∧ xs.length = n ∧ t xs σ H Q
theorem pg_tup {es : List Expr} {k : Nat} {t : TGs} {n : Nat} (hc : X.calm = true) (h : PGs X es t)
    (hn : (assignEach es X.env).length = n := by rfl) (hst : (assignEach es X.env).findIdx? (·.1) = none := by rfl) : PG X (.Tuple es k pos) (gTup X.K n t) := by
  intro pins s σ H v u Q I r hw
  obtain ⟨a, xs, e1, hq, hl, hw⟩ := hw
  subst e1
  cases r
  obtain ⟨its, rv, ht, hz⟩ := I.tuple hq
  refine assign_Tuple_tuple (I.ok.hd hc) ht (by simp [hn, ← hl, rv.length]) hst fun h' hx => ?_
  have I1 : Inv X pins σ H { s with heap := h' } := I.kept (t' := s.toks) fun b o e => hx b o (Nat.ne_of_lt (Heap.lt_size e)) e
  exact h pins _ σ H xs _ Q I1 (by simpa using rv) hw
def tAsg (te : TE) (g : TG) : TS := fun D σ H => te σ H fun x H1 => g x σ H1 D.nx
theorem ps_asg {tg e : Expr} {te : TE} {g : TG} (he : PE X e te) (hg : PG X tg g) (hs : swapsWithSole [tg] e pos.line X.env = pure false := by rfl) (hw : swappedStores [tg] e X.env = pure none := by rfl)
    (h1 : (assignEach [tg] X.env).map (·.2) = [assign tg X.env] := by rfl) : PS X (.Assign [tg] e pos) (tAsg te g) := by
  intro pins s σ H D I h
  refine wpAny_Assign_stores (thn (he pins s σ H _ I h) fun v s1 ⟨x, H1, I1, r1, q1⟩ => ?_) hs hw
  rw [h1]
  exact thn (hg pins s1 σ H1 x v _ I1 r1 q1) fun _ s2 q => q
theorem ps_set {i : Nat} {x : Str} {e : Expr} {te : TE} {pos' : Pos} (hN : X.N.Nodup) (hi : X.N[i]? = some x) (hx : Loc X.env.scope x) (he : PE X e te) (hs : swapsWith e (some (.Name x pos')) pos.line X.env = pure false := by rfl) (hf : X.fn x = true ∨ X.env.scope.names.lookup x = some .local := by first | exact .inl rfl | exact .inr rfl | assumption) :
    PS X (.Assign [.Name x pos'] e pos) (tAsg te (gName i)) := by
  intro pins s σ H D I h
  refine wpAny_Assign_Name (thn (he pins s σ H _ I h) fun v s1 ⟨y, H1, I1, r1, q1⟩ => ?_) hs
  exact store_ok I1 hN hi hx r1 (fun s2 I2 => ⟨_, H1, I2, q1⟩) hf
end

section
variable {X : Cx} {pos : Pos}
def tWhile (c : TT) (tb : TS) : TS := fun D σ H => ∃ W : Nat → St → Hp → Prop, (∃ m, W m σ H) ∧ ∀ m σ H, W m σ H →
  c σ H fun b H1 => if b = true then ∃ N : St → Hp → Prop, (∀ σ' H', N σ' H' → ∃ m', m' < m ∧ W m' σ' H') ∧ tb { D with nx := N, ct := N, bk := D.nx } σ H1 else D.nx σ H1
theorem ps_while {c : Expr} {body : List Stmt} {tc : TT} {tb : TS} (hp : PassesOwn (model X.prog X.w) X.A X.env X.xe) (hc : PT X c tc) (hb : PSs X body tb) : PS X (.While c body [] pos) (tWhile tc tb) := by
  intro pins s σ H D I h
  obtain ⟨W, ⟨m0, w0⟩, turn⟩ := h
  refine wpAny_While (codeAny_whileLoop (fun n s' => ∃ σ' H', Inv X pins σ' H' s' ∧ W n σ' H') ?_ m0 ⟨σ, H, I, w0⟩)
  rintro n s1 ⟨σ1, H1, I1, w1⟩
  refine wpAny_passesOwn hp (thn (hc pins s1 σ1 H1 _ I1 (turn n σ1 H1 w1)) fun b s2 ⟨H2, I2, q2⟩ => ?_)
  cases b with
  | true =>
    obtain ⟨N, hN, q2⟩ := q2
    rw [if_pos rfl]
    refine wpAny_passesOwn hp (thn (hb pins s2 σ1 H2 _ I2 q2) fun f s3 q3 => ?_)
    cases f with
    | next =>
      obtain ⟨σ3, H3, I3, n3⟩ := q3
      obtain ⟨m', hm, w3⟩ := hN σ3 H3 n3
      exact ⟨m', hm, σ3, H3, I3, w3⟩
    | cont =>
      obtain ⟨σ3, H3, I3, n3⟩ := q3
      obtain ⟨m', hm, w3⟩ := hN σ3 H3 n3
      exact ⟨m', hm, σ3, H3, I3, w3⟩
    | brk => exact q3
    | ret v => exact q3
  | false =>
    rw [if_neg Bool.false_ne_true]
    exact wpAny_execs_nil ⟨σ1, H2, I2, q2⟩
end

structure It where
  go : Nat → Hp → Prop
  yld : Nat → Hp → V → Hp → Prop
  stop : Nat → Hp → Prop
def FpOk (X : Cx) (pins : List (Addr × Obj)) (H : Hp) (b : Addr) : Prop :=
  H b = none ∧ b ≠ X.env.locals ∧ b ∉ X.fs ∧ (b ∈ X.ex ∨ X.s₀.heap.objs.size ≤ b) ∧ (∀ x c, X.env.cells.lookup x = some c → c ≠ b) ∧ ∀ p ∈ X.pn ++ pins, p.1 ≠ b
theorem Inv.fpOk {X : Cx} {pins : List (Addr × Obj)} {σ : St} {H H' : Hp} {s : Shared} {b : Addr} (I : Inv X pins σ H s) (hb : s.heap.objs.size ≤ b) (hn : H' b = none) : FpOk X pins H' b := by
  refine ⟨hn, Nat.ne_of_gt (Nat.lt_of_lt_of_le I.lt hb), I.nofs hb, .inr (Nat.le_trans I.sz hb), fun x c e z => ?_, fun p hp z => ?_⟩
  · obtain ⟨v, q⟩ := I.cell x c e
    exact absurd (Nat.lt_of_lt_of_le q.lt (by rw [z]; exact hb)) (Nat.lt_irrefl _)
  · exact absurd (Nat.lt_of_lt_of_le (Heap.lt_size (I.pin p hp).1) (by rw [z]; exact hb)) (Nat.lt_irrefl _)
structure Turn (P : Program) (w : World) (K : PySem.W.Frag) (tg : Expr) (J : It) (fp : List Addr) (it : Addr) (tn : Nat → Heap → Prop) : Prop where
  mem : it ∈ fp
  obj : ∀ i h, tn i h → ∀ b ∈ fp, ∃ o, h.get? b = some o ∧ ∀ v, o.data ≠ .cell v
  keep : ∀ i h h', tn i h → (∀ b ∈ fp, ∀ o, h.get? b = some o → h'.get? b = some o) → tn i h'
  item : ∀ (X : Cx), X.prog = P → X.w = w → X.K = K → X.calm = true → ∀ (i : Nat) (pins : List (Addr × Obj)) (s : Shared) (σ : St) (H : Hp) (E : Value → Shared → Prop), Inv X pins σ H s → (∀ b ∈ fp, FpOk X pins H b) → tn i s.heap → J.go i H →
    wpAny (model P w) X.A (pyNext (.ref it)) (fun r s1 => ∃ u, r = some u ∧
      wpAny (model P w) X.A (letOwnedTupleGo tg (.ref it) u) (fun _ s2 => ∃ x H', Inv X pins σ H' s2 ∧ RelV x u ∧ J.yld i H x H' ∧ tn (i + 1) s2.heap ∧ ∀ b ∈ fp, H' b = none) E s1) E s
  done : ∀ (X : Cx), X.prog = P → X.w = w → X.K = K → X.calm = true → ∀ (i : Nat) (pins : List (Addr × Obj)) (s : Shared) (σ : St) (H : Hp) (E : Value → Shared → Prop), Inv X pins σ H s → (∀ b ∈ fp, FpOk X pins H b) → tn i s.heap → J.stop i H →
    wpAny (model P w) X.A (pyNext (.ref it)) (fun r s1 => r = none ∧ Inv X pins σ H s1) E s
  self : ∀ (A : Around) (i : Nat) (s : Shared) (Q : Value → Shared → Prop) (E : Value → Shared → Prop), tn i s.heap → Q (.ref it) s → wpAny (model P w) A (pyIter (.ref it)) Q E s
abbrev TI := St → Hp → (It → Hp → Prop) → Prop
def PIE (X : Cx) (pins : List (Addr × Obj)) (σ : St) (tg : Expr) (R : It → Hp → Prop) (itv : Value) (s2 : Shared) : Prop :=
  ∃ (it : Addr) (fp : List Addr) (tn : Nat → Heap → Prop) (J : It) (H' : Hp), itv = .ref it ∧ Inv X pins σ H' s2 ∧ Turn X.prog X.w X.K tg J fp it tn ∧ tn 0 s2.heap ∧ (∀ b ∈ fp, FpOk X pins H' b) ∧ R J H'
def PI (X : Cx) (tg iter : Expr) (wi : TI) : Prop :=
  ∀ (pins : List (Addr × Obj)) (s : Shared) (σ : St) (H : Hp) (R : It → Hp → Prop), Inv X pins σ H s → wi σ H R →
    wpAny (model X.prog X.w) X.A (eval iter X.env) (fun v s1 => wpAny (model X.prog X.w) X.A (pyIter v) (PIE X pins σ tg R) X.xe s1) X.xe s

theorem go_of {M : Model} {A : Around} {E : Value → Shared → Prop} {s : Shared} {tg : Expr} {it : Addr} {u : Value} {o : Obj} {n : String} {vs : Array Value} {Q : Unit → Shared → Prop} (ho : s.heap.get? it = some o) (hc : o.cls = .type n) (hd : o.data = .fields vs)
    (hn : ["enumerate", "zip", "dict_itemiterator", "dict_reverseitemiterator", "odict_iterator", "itertools.zip_longest", "itertools.pairwise"].contains n = false) (hQ : Q () s) : wpAny M A (letOwnedTupleGo tg (.ref it) u) Q E s := by
  unfold letOwnedTupleGo
  cases tg <;> first
    | exact wpAny_pure hQ
    | (cases u <;> first
        | exact wpAny_pure hQ
        | (refine wpAny_bind (wpAny_load ho ?_)
           rw [hc, hd]
           show wpAny M A (if (["enumerate", "zip", "dict_itemiterator", "dict_reverseitemiterator", "odict_iterator", "itertools.zip_longest", "itertools.pairwise"].contains n && vs[0]? == some (rawInt _)) = true then _ else _) Q E s
           rw [if_neg (by intro h; rw [hn, Bool.false_and] at h; cases h)]
           exact wpAny_pure hQ))

def Itl (K : PySem.W.Frag) (a : Addr) : It :=
  ⟨fun i H => ∃ xs x, SqL K H a xs ∧ xs[i]? = some x, fun i H x H' => H' = H ∧ ∀ xs, SqL K H a xs → xs[i]? = some x, fun i H => ∃ xs, SqL K H a xs ∧ xs.length ≤ i⟩
def Itt (K : PySem.W.Frag) (a : Addr) : It :=
  ⟨fun i H => ∃ xs x, SqT K H a xs ∧ xs[i]? = some x, fun i H x H' => H' = H ∧ ∀ xs, SqT K H a xs → xs[i]? = some x, fun i H => ∃ xs, SqT K H a xs ∧ xs.length ≤ i⟩
def Itr (lo : Int) (n : Nat) : It := ⟨fun i _ => i < n, fun i H x H' => H' = H ∧ x = .int (lo + i), fun i _ => n ≤ i⟩
theorem turn_list {P : Program} {w : World} {K : PySem.W.Frag} {tg : Expr} (a it : Addr) : Turn P w K tg (Itl K a) [it] it (fun i h => h.IsListIter it a i) where
  mem := by simp
  obj := fun i h st b hb => by
    have e : b = it := by simpa using hb
    subst e
    obtain ⟨o, e, c, d⟩ := st
    exact ⟨o, e, fun v z => by rw [d] at z; cases z⟩
  keep := fun i h h' st k => st.at fun o e => k it (by simp) o e
  item := by
    intro X hP hw hK hc i pins s σ H E I hf st hg
    subst hP hw hK
    obtain ⟨xs, x, hq, hx⟩ := hg
    obtain ⟨its, rv, p, hz⟩ := I.list hq
    obtain ⟨u, hu, ru⟩ := rv.get hx
    obtain ⟨f0, f1, f2, f3, f4, f5⟩ := hf it (by simp)
    refine wpAny_pyNext_list_item st p.isList (x := u) (by simpa using hu) fun h' st' sb => ?_
    have I1 : Inv X pins σ H { s with heap := h' } := I.turned (t' := s.toks) (fun b o hb e => (sb.2 b hb).trans e) f0 f1 f3 f4 f5
    obtain ⟨o, e, c, d⟩ := id st'
    exact ⟨u, rfl, go_of (s := { s with heap := h' }) e c d (by decide) ⟨x, H, I1, ru, ⟨rfl, fun ys hy => by rw [I.list_inj hy hq]; exact hx⟩, st', fun b hb => (hf b hb).1⟩⟩
  done := by
    intro X hP hw hK hc i pins s σ H E I hf st hg
    subst hP hw hK
    obtain ⟨xs, hq, hx⟩ := hg
    obtain ⟨its, rv, p, hz⟩ := I.list hq
    obtain ⟨f0, f1, f2, f3, f4, f5⟩ := hf it (by simp)
    have hl := rv.length
    exact wpAny_pyNext_list_end (I.ok.hd hc) st p.isList (by simp; omega) fun h' eb => ⟨rfl, I.turned (t' := s.toks) (fun b o hb e => eb b o hb e) f0 f1 f3 f4 f5⟩
  self := fun _ _ _ _ _ st h => wpAny_pyIter_listiter st h
theorem turn_tuple {P : Program} {w : World} {K : PySem.W.Frag} {tg : Expr} (a it : Addr) : Turn P w K tg (Itt K a) [it] it (fun i h => h.IsTupleIter it a i) where
  mem := by simp
  obj := fun i h st b hb => by
    have e : b = it := by simpa using hb
    subst e
    obtain ⟨o, e, c, d⟩ := st
    exact ⟨o, e, fun v z => by rw [d] at z; cases z⟩
  keep := fun i h h' st k => st.at fun o e => k it (by simp) o e
  item := by
    intro X hP hw hK hc i pins s σ H E I hf st hg
    subst hP hw hK
    obtain ⟨xs, x, hq, hx⟩ := hg
    obtain ⟨its, rv, p, hz⟩ := I.tuple hq
    obtain ⟨u, hu, ru⟩ := rv.get hx
    obtain ⟨f0, f1, f2, f3, f4, f5⟩ := hf it (by simp)
    refine wpAny_pyNext_tuple_item st (show s.heap.IsTuple a its.toArray from p) (x := u) (by simpa using hu) fun h' st' sb => ?_
    have I1 : Inv X pins σ H { s with heap := h' } := I.turned (t' := s.toks) (fun b o hb e => (sb.2 b hb).trans e) f0 f1 f3 f4 f5
    obtain ⟨o, e, c, d⟩ := id st'
    exact ⟨u, rfl, go_of (s := { s with heap := h' }) e c d (by decide) ⟨x, H, I1, ru, ⟨rfl, fun ys hy => by rw [I.tuple_inj hy hq]; exact hx⟩, st', fun b hb => (hf b hb).1⟩⟩
  done := by
    intro X hP hw hK hc i pins s σ H E I hf st hg
    subst hP hw hK
    obtain ⟨xs, hq, hx⟩ := hg
    obtain ⟨its, rv, p, hz⟩ := I.tuple hq
    obtain ⟨f0, f1, f2, f3, f4, f5⟩ := hf it (by simp)
    have hl := rv.length
    exact wpAny_pyNext_tuple_end (I.ok.hd hc) st (show s.heap.IsTuple a its.toArray from p) (by simp; omega) fun h' eb => ⟨rfl, I.turned (t' := s.toks) (fun b o hb e => eb b o hb e) f0 f1 f3 f4 f5⟩
  self := fun _ _ _ _ _ st h => wpAny_pyIter_tupleiter st h
theorem turn_range {P : Program} {w : World} {K : PySem.W.Frag} {tg : Expr} (it : Addr) (lo : Int) (n : Nat) : Turn P w K tg (Itr lo n) [it] it (fun i h => IsRangeIter h it (lo + (i : Nat) * 1) ((n : Int) - (i : Nat)) 1) where
  mem := by simp
  obj := fun i h st b hb => by
    have e : b = it := by simpa using hb
    subst e
    exact ⟨_, st, fun v z => by
      have z' : Data.fields _ = Data.cell v := z
      cases z'⟩
  keep := fun i h h' st k => k it (by simp) _ st
  item := by
    intro X hP hw hK hc i pins s σ H E I hf st hg
    subst hP hw hK
    obtain ⟨f0, f1, f2, f3, f4, f5⟩ := hf it (by simp)
    have W := Walks.range (prog := X.prog) (w := X.w) (I.ok.hd hc) it lo 1 n
    refine W.item i s _ _ hg st fun v h' tk hv st' kk => ?_
    obtain ⟨t, rfl⟩ := hv
    have I1 : Inv X pins σ H { s with heap := h', toks := tk } := I.turned (fun b o hb e => kk b o (by simpa using hb) e) f0 f1 f3 f4 f5
    refine ⟨_, rfl, go_of (s := { s with heap := h', toks := tk }) (n := "range_iterator") st' rfl rfl (by decide) ⟨.int (lo + i), H, I1, ⟨t, ?_⟩, ⟨rfl, rfl⟩, st', fun b hb => (hf b hb).1⟩⟩
    rw [Int.mul_one]
  done := by
    intro X hP hw hK hc i pins s σ H E I hf st hg
    subst hP hw hK
    obtain ⟨f0, f1, f2, f3, f4, f5⟩ := hf it (by simp)
    exact wpAny_pyNext_range_end (I.ok.hd hc) st (by have : n ≤ i := hg; omega) fun h' eb => ⟨rfl, I.turned (t' := s.toks) (fun b o hb e => eb b o hb e) f0 f1 f3 f4 f5⟩
  self := fun _ _ _ _ _ st h => wpAny_pyIter_rangeiter st h
end L2

namespace L2
open PySem PySem.Spec PyProof.Rows
section
variable {X : Cx} {tg : Expr}
theorem range_it {pins : List (Addr × Obj)} {σ : St} {H : Hp} {s : Shared} {R : It → Hp → Prop} {E : Value → Shared → Prop} {lo hi : Int} {t u v : Tok} {tk : Nat} (I : Inv X pins σ H s) (h1 : -(2 ^ 62) ≤ lo) (h2 : lo < 2 ^ 62) (h3 : -(2 ^ 62) ≤ hi) (h4 : hi < 2 ^ 62)
    (q : R (Itr lo (hi - lo).toNat) H) : wpAny (model X.prog X.w) X.A (pyIter (.ref s.heap.objs.size)) (PIE X pins σ tg R) E { s with heap := s.heap.push { cls := .type "range", data := .fields #[.int lo t, .int hi u, .int 1 v] }, toks := tk } := by
  refine wpAny_pyIter_range (IsRange.new ..) (small_one h1 h2 h3 h4) ?_
  have I1 : Inv X pins σ H { s with heap := s.heap.push { cls := .type "range", data := .fields #[.int lo t, .int hi u, .int 1 v] }, toks := tk } := I.kept fun b o e => Heap.get?_push_of_some _ e
  refine ⟨(s.heap.push { cls := .type "range", data := .fields #[.int lo t, .int hi u, .int 1 v] }).objs.size, [(s.heap.push { cls := .type "range", data := .fields #[.int lo t, .int hi u, .int 1 v] }).objs.size], _, _, H, rfl,
    I1.kept (t' := tk) fun b o e => Heap.get?_push_of_some _ e, turn_range _ lo (hi - lo).toNat, ?_, fun b hb => ?_, q⟩
  · have e1 : lo + ((0 : Nat) : Int) * 1 = lo := by simp
    have e2 : (((hi - lo).toNat : Nat) : Int) - ((0 : Nat) : Int) = Builtin.Range.rangeSize lo hi 1 := by rw [rangeSize_one]; split <;> omega
    show IsRangeIter _ _ (lo + ((0 : Nat) : Int) * 1) ((((hi - lo).toNat : Nat) : Int) - ((0 : Nat) : Int)) 1
    rw [e1, e2]
    exact Heap.get?_push_size _ rfl
  · have e : b = (s.heap.push { cls := .type "range", data := .fields #[.int lo t, .int hi u, .int 1 v] }).objs.size := by simpa using hb
    subst e
    exact I1.fpOk (Nat.le_refl _) (I1.hok.fresh (Nat.le_refl _))
def iRng1 (ta : TA) : TI := fun σ H R => ta σ H fun vs H1 => ∃ j : Int, vs = [.int j] ∧ -(2 ^ 62) ≤ j ∧ j < 2 ^ 62 ∧ R (Itr 0 j.toNat) H1
theorem pi_range1 {a : Expr} {ta : TA} {p pos : Pos} (hg : Gl X "range") (hm : X.mg "range" = none) (ha : PA X [a] ta) (hs : starEach [a] X.env = [(false, eval a X.env)] := by rfl) : PI X tg (.Call (.Name "range" p) [a] [] pos) (iRng1 ta) := by
  intro pins s σ H R I h
  refine Call_ (ld_blt I hg hm boot_range (PyProof.Rows.callWith_type1 (thn (ha pos pins s σ H _ I h) fun us s1 ⟨vs, H1, I1, r1, q1⟩ => ?_) hs rfl))
  obtain ⟨j, e, q1, q2, q⟩ := q1
  subst e
  cases r1 with
  | cons r rr =>
    cases rr
    obtain ⟨t, rfl⟩ := r
    exact call_range_1 (range_it I1 (by omega) (by omega) q1 q2 (by simpa using q))
def tFor (wi : TI) (g : TG) (tb : TS) : TS := fun D σ H => wi σ H fun J H1 => ∃ W : Nat → Nat → St → Hp → Prop, (∃ m, W 0 m σ H1) ∧ ∀ i m σ H, W i m σ H →
  (J.stop i H ∧ D.nx σ H) ∨ (J.go i H ∧ ∃ N : St → Hp → Prop, (∀ σ' H', N σ' H' → ∃ m', m' < m ∧ W (i + 1) m' σ' H') ∧ ∀ x H', J.yld i H x H' → g x σ H' fun σ2 H2 => tb { D with nx := N, ct := N, bk := D.nx } σ2 H2)
def pinsAt (fp : List Addr) (h : Heap) : List (Addr × Obj) := fp.filterMap fun b => (h.get? b).map fun o => (b, o)
theorem mem_pinsAt {fp : List Addr} {h : Heap} {b : Addr} {o : Obj} (hb : b ∈ fp) (e : h.get? b = some o) : (b, o) ∈ pinsAt fp h := List.mem_filterMap.mpr ⟨b, hb, by rw [e]; rfl⟩
theorem of_pinsAt {fp : List Addr} {h : Heap} {p : Addr × Obj} (hp : p ∈ pinsAt fp h) : p.1 ∈ fp ∧ h.get? p.1 = some p.2 := by
  obtain ⟨b, hb, e⟩ := List.mem_filterMap.mp hp
  cases q : h.get? b with
  | none => rw [q] at e; cases e
  | some o =>
    rw [q] at e
    have e' : (b, o) = p := Option.some.inj e
    subst e'
    exact ⟨hb, q⟩
theorem Inv.pinned {pins : List (Addr × Obj)} {σ : St} {H : Hp} {s : Shared} {fp : List Addr} (I : Inv X pins σ H s) (hf : ∀ b ∈ fp, FpOk X pins H b) (ho : ∀ b ∈ fp, ∃ o, s.heap.get? b = some o ∧ ∀ v, o.data ≠ .cell v) : Inv X (pins ++ pinsAt fp s.heap) σ H s :=
  I.pins_of fun p hp => (List.mem_append.mp hp).elim (fun z => I.pin p (List.mem_append_right _ z)) fun z => by
    obtain ⟨hb, e⟩ := of_pinsAt z
    obtain ⟨f0, f1, f2, _⟩ := hf p.1 hb
    obtain ⟨o, e', d⟩ := ho p.1 hb
    rw [e] at e'; cases e'
    exact ⟨e, f0, f1, f2, d⟩
theorem Inv.unpinned {pins pl : List (Addr × Obj)} {σ : St} {H : Hp} {s : Shared} (I : Inv X (pins ++ pl) σ H s) : Inv X pins σ H s := I.pins_of fun p hp => I.pin p (List.mem_append_right _ (List.mem_append_left _ hp))
theorem ps_for {iter : Expr} {body : List Stmt} {wi : TI} {g : TG} {tb : TS} {pos : Pos} (hp : PassesOwn (model X.prog X.w) X.A X.env X.xe) (hc : X.calm = true) (hi : PI X tg iter wi) (hg : PG X tg g) (hb : PSs X body tb)
    (hs : ∀ x, foldedSetIterable iter X.env x = pure x := by intro _; rfl) : PS X (.For tg iter body [] pos) (tFor wi g tb) := by
  intro pins s σ H D I h
  refine wpAny_For (thn (hi pins s σ H _ I h) fun v s1 h1 => thn h1 fun itv s2 h2 => ?_) hs
  obtain ⟨it, fp, tn, J, H2, e, I2, T, st2, f2, W, ⟨m0, w0⟩, turn⟩ := h2
  subst e
  -- what stays true of the iterator's objects through the loop
  have stat : ∀ {H' : Hp}, (∀ b ∈ fp, H' b = none) → ∀ b ∈ fp, FpOk X pins H' b := fun hn b hb => ⟨hn b hb, (f2 b hb).2⟩
  refine codeAny_forLoop_any (fun n s' => ∃ i σ' H', Inv X pins σ' H' s' ∧ tn i s'.heap ∧ (∀ b ∈ fp, H' b = none) ∧ W i n σ' H') ?_ m0 ⟨0, σ, H2, I2, st2, fun b hb => (f2 b hb).1, w0⟩
  rintro n s3 ⟨i, σ3, H3, I3, st3, fr3, w3⟩
  rcases turn i n σ3 H3 w3 with ⟨stop, qn⟩ | ⟨go, N, hN, step⟩
  · refine wpAny_passesOwn hp (thn (T.done X rfl rfl rfl hc i pins s3 σ3 H3 X.xe I3 (stat fr3) st3 stop) fun r s4 ⟨hr, I4⟩ => ?_)
    subst hr
    exact wpAny_execs_nil ⟨σ3, H3, I4, qn⟩
  · refine wpAny_passesOwn hp (thn (T.item X rfl rfl rfl hc i pins s3 σ3 H3 X.xe I3 (stat fr3) st3 go) fun r s4 ⟨u, hr, h4⟩ => ?_)
    subst hr
    refine wpAny_passesOwn hp (thn h4 fun _ s5 ⟨x, H5, I5, r5, y5, st5, fr5⟩ => ?_)
    have I5' := I5.pinned (stat fr5) (T.obj _ _ st5)
    refine wpAny_passesOwn hp (thn (hg _ s5 σ3 H5 x u _ I5' r5 (step x H5 y5)) fun _ s6 ⟨σ6, H6, I6, q6⟩ => ?_)
    refine wpAny_passesOwn hp (thn (hb _ s6 σ6 H6 _ I6 q6) fun f s7 q7 => ?_)
    have again : ∀ {σ7 : St} {H7 : Hp}, Inv X (pins ++ pinsAt fp s5.heap) σ7 H7 s7 → N σ7 H7 → ∃ m, m < n ∧ ∃ i σ' H', Inv X pins σ' H' s7 ∧ tn i s7.heap ∧ (∀ b ∈ fp, H' b = none) ∧ W i m σ' H' := fun {σ7 H7} I7 n7 => by
      obtain ⟨m', hm, w7⟩ := hN σ7 H7 n7
      refine ⟨m', hm, i + 1, σ7, H7, I7.unpinned, T.keep _ _ _ st5 fun b hb o e => (I7.pin (b, o) (List.mem_append_right _ (List.mem_append_right _ (mem_pinsAt hb e)))).1, fun b hb => ?_, w7⟩
      obtain ⟨o, e, d⟩ := T.obj _ _ st5 b hb
      exact (I7.pin (b, o) (List.mem_append_right _ (List.mem_append_right _ (mem_pinsAt hb e)))).2.1
    cases f with
    | next => obtain ⟨σ7, H7, I7, n7⟩ := q7; exact again I7 n7
    | cont => obtain ⟨σ7, H7, I7, n7⟩ := q7; exact again I7 n7
    | brk => obtain ⟨σ7, H7, I7, q7⟩ := q7; exact ⟨σ7, H7, I7.unpinned, q7⟩
    | ret v => obtain ⟨x7, σ7, H7, I7, r7, q7⟩ := q7; exact ⟨x7, σ7, H7, I7.unpinned, r7, q7⟩
end

theorem while_by {c : TT} {tb : TS} {D : Ends} {σ : St} {H : Hp} (Pv : St → Hp → Prop) (μ : St → Hp → Nat) (h0 : Pv σ H)
    (hs : ∀ σ H, Pv σ H → c σ H fun b H1 => if b = true then tb { D with nx := fun σ' H' => Pv σ' H' ∧ μ σ' H' < μ σ H, ct := fun σ' H' => Pv σ' H' ∧ μ σ' H' < μ σ H, bk := D.nx } σ H1 else D.nx σ H1)
    (mono : ∀ σ H Q Q', (∀ b H1, Q b H1 → Q' b H1) → c σ H Q → c σ H Q') : tWhile c tb D σ H := by
  refine ⟨fun m σ H => m = μ σ H ∧ Pv σ H, ⟨_, rfl, h0⟩, ?_⟩
  rintro m σ H ⟨rfl, p⟩
  refine mono σ H _ _ (fun b H1 q => ?_) (hs σ H p)
  cases b with
  | true => exact ⟨_, fun σ' H' ⟨p', l⟩ => ⟨_, l, rfl, p'⟩, q⟩
  | false => exact q
end L2

namespace L2
open PySem PySem.Spec PyProof.Rows

abbrev R2 := V → V → Hp → VK → Prop
def OpR (X : Cx) (f : Value → Value → Sem Value) (r : R2) : Prop :=
  ∀ (pins : List (Addr × Obj)) (s : Shared) (σ : St) (H : Hp) (x y : V) (v u : Value) (Q : VK), Inv X pins σ H s → RelV x v → RelV y u → r x y H Q →
    wpAny (model X.prog X.w) X.A (f v u) (EP X pins σ Q) X.xe s
def UnR (X : Cx) (f : Value → Sem Value) (r : V → Hp → VK → Prop) : Prop :=
  ∀ (pins : List (Addr × Obj)) (s : Shared) (σ : St) (H : Hp) (x : V) (v : Value) (Q : VK), Inv X pins σ H s → RelV x v → r x H Q →
    wpAny (model X.prog X.w) X.A (f v) (EP X pins σ Q) X.xe s
def CallR (X : Cx) (f : Value) (r : List V → Hp → VK → Prop) : Prop :=
  ∀ (pins : List (Addr × Obj)) (s : Shared) (σ : St) (H : Hp) (xs : List V) (us : List Value) (Q : VK), Inv X pins σ H s → Vals xs us → r xs H Q →
    wpAny (model X.prog X.w) X.A (call f us) (EP X pins σ Q) X.xe s
def tOp (r : R2) (ta tb : TE) : TE := fun σ H Q => ta σ H fun x H1 => tb σ H1 fun y H2 => r x y H2 Q
def tUn (r : V → Hp → VK → Prop) (ta : TE) : TE := fun σ H Q => ta σ H fun x H1 => r x H1 Q
def rI (C : Int → Int → Prop) (g : Int → Int → V) : R2 := fun x y H Q => ∃ i j, x = .int i ∧ y = .int j ∧ C i j ∧ Q (g i j) H
def rI0 (g : Int → Int → V) : R2 := fun x y H Q => ∃ i j, x = .int i ∧ y = .int j ∧ Q (g i j) H
def rU (g : Int → V) : V → Hp → VK → Prop := fun x H Q => ∃ i, x = .int i ∧ Q (g i) H

section
variable {X : Cx} {a b c : Expr} {ta tb tc : TE} {pos : Pos}

theorem binT (ha : PE X a ta) (hb : PE X b tb) {pins : List (Addr × Obj)} {s : Shared} {σ : St} {H : Hp} {R : V → V → Hp → Prop} (I : Inv X pins σ H s)
    (h : ta σ H fun x H1 => tb σ H1 fun y H2 => R x y H2) {Q : Value → Shared → Prop} {f : Value → Value → Sem Value}
    (hf : ∀ v u s2 x y H2, Inv X pins σ H2 s2 → RelV x v → RelV y u → R x y H2 → wpAny (model X.prog X.w) X.A (f v u) Q X.xe s2) :
    wpAny (model X.prog X.w) X.A (eval a X.env) (fun v s₁ => wpAny (model X.prog X.w) X.A (eval b X.env) (fun u s₂ => wpAny (model X.prog X.w) X.A (f v u) Q X.xe s₂) X.xe s₁) X.xe s := by
  refine thn (ha pins s σ H _ I h) fun v s1 ⟨x, H1, I1, r1, q1⟩ => ?_
  refine thn (hb pins s1 σ H1 _ I1 q1) fun u s2 ⟨y, H2, I2, r2, q2⟩ => ?_
  exact hf v u s2 x y H2 I2 r1 r2 q2

theorem pe_op {op : Operator} {r : R2} (ho : OpR X (binaryOp op) r) (ha : PE X a ta) (hb : PE X b tb) : PE X (.BinOp a op b pos) (tOp r ta tb) := by
  intro pins s σ H Q I h
  exact wpAny_BinOp (binT ha hb I h fun v u s2 x y H2 I2 rx ry q => ho pins s2 σ H2 x y v u Q I2 rx ry q)
theorem pe_un {op : UnaryOp} {r : V → Hp → VK → Prop} (ho : UnR X (unaryOp op) r) (ha : PE X a ta) : PE X (.UnaryOp op a pos) (tUn r ta) := by
  intro pins s σ H Q I h
  exact UnaryOp_ (thn (ha pins s σ H _ I h) fun v s1 ⟨x, H1, I1, r1, q1⟩ => ho pins s1 σ H1 x v Q I1 r1 q1)
theorem opI {f : Value → Value → Sem Value} {C : Int → Int → Prop} {g : Int → Int → Int}
    (rule : ∀ (i j : Int) (t u : Tok) (s : Shared) (Q : Value → Shared → Prop) (E : Value → Shared → Prop), C i j → Q (.int (g i j) s.toks) { s with toks := s.toks + 1 } → wpAny (model X.prog X.w) X.A (f (.int i t) (.int j u)) Q E s) :
    OpR X f (rI C fun i j => .int (g i j)) := by
  intro pins s σ H x y v u Q I rx ry h
  obtain ⟨i, j, rfl, rfl, hc, q⟩ := h
  obtain ⟨t, rfl⟩ := rx
  obtain ⟨t', rfl⟩ := ry
  exact rule i j t t' s _ _ hc ⟨.int (g i j), H, I.tok _, ⟨_, rfl⟩, q⟩
theorem opI0 {f : Value → Value → Sem Value} {g : Int → Int → Int}
    (rule : ∀ (i j : Int) (t u : Tok) (s : Shared) (Q : Value → Shared → Prop) (E : Value → Shared → Prop), Q (.int (g i j) s.toks) { s with toks := s.toks + 1 } → wpAny (model X.prog X.w) X.A (f (.int i t) (.int j u)) Q E s) :
    OpR X f (rI0 fun i j => .int (g i j)) := by
  intro pins s σ H x y v u Q I rx ry h
  obtain ⟨i, j, rfl, rfl, q⟩ := h
  obtain ⟨t, rfl⟩ := rx
  obtain ⟨t', rfl⟩ := ry
  exact rule i j t t' s _ _ ⟨.int (g i j), H, I.tok _, ⟨_, rfl⟩, q⟩
theorem opB0 {f : Value → Value → Sem Value} {g : Int → Int → Bool}
    (rule : ∀ (i j : Int) (t u : Tok) (s : Shared) (Q : Value → Shared → Prop) (E : Value → Shared → Prop), Q (.bool (g i j)) s → wpAny (model X.prog X.w) X.A (f (.int i t) (.int j u)) Q E s) :
    OpR X f (rI0 fun i j => .bl (g i j)) := by
  intro pins s σ H x y v u Q I rx ry h
  obtain ⟨i, j, rfl, rfl, q⟩ := h
  obtain ⟨t, rfl⟩ := rx
  obtain ⟨t', rfl⟩ := ry
  exact rule i j t t' s _ _ ⟨.bl (g i j), H, I, rfl, q⟩

def CPow (i j : Int) : Prop := 0 ≤ j ∧ j ≤ 1000000 ∧ i.natAbs < 2 ^ 64
def CMul (i j : Int) : Prop := (-(2 ^ 64) < i ∧ i < 2 ^ 64) ∨ (-(2 ^ 64) < j ∧ j < 2 ^ 64)
theorem CMul.ok {i j : Int} (h : CMul i j) : IntMulOk i j := by
  rcases h with ⟨h1, h2⟩ | ⟨h1, h2⟩
  · exact .of_left (intBits_le_64 h1 h2)
  · exact .of_right (intBits_le_64 h1 h2)
theorem two_pow_nn (k : Nat) : (0 : Int) ≤ 2 ^ k := by
  rw [two_pow_cast]
  exact Int.natCast_nonneg _

theorem op_add : OpR X (binaryOp .Add) (rI0 fun i j => .int (i + j)) := opI0 fun _ _ _ _ _ _ _ q => add_int q
theorem op_sub : OpR X (binaryOp .Sub) (rI0 fun i j => .int (i - j)) := opI0 fun _ _ _ _ _ _ _ q => sub_int q
theorem op_modN : OpR X (binaryOp .Mod) (rI (fun _ j => j ≠ 0) fun i j => .int (i.fmod j)) := opI fun _ _ _ _ _ _ _ hc q => mod_int' hc q
theorem op_pow : OpR X (binaryOp .Pow) (rI CPow fun i j => .int (i ^ j.toNat)) := opI fun _ _ _ _ _ _ _ hc q => pow_int_small hc.1 hc.2.1 hc.2.2 q
theorem op_shr : OpR X (binaryOp .RShift) (rI (fun _ j => 0 ≤ j) fun i j => .int (i / 2 ^ j.toNat)) := opI fun i j _ _ _ _ _ hc q =>
  rshift_int hc (by rw [Int.fdiv_eq_ediv_of_nonneg i (two_pow_nn _)]; exact q)
theorem unI {f : Value → Sem Value} {g : Int → Int}
    (rule : ∀ (i : Int) (t : Tok) (s : Shared) (Q : Value → Shared → Prop) (E : Value → Shared → Prop), Q (.int (g i) s.toks) { s with toks := s.toks + 1 } → wpAny (model X.prog X.w) X.A (f (.int i t)) Q E s) :
    UnR X f (rU fun i => .int (g i)) := by
  intro pins s σ H x v Q I rx h
  obtain ⟨i, rfl, q⟩ := h
  obtain ⟨t, rfl⟩ := rx
  exact rule i t s _ _ ⟨.int (g i), H, I.tok _, ⟨_, rfl⟩, q⟩
theorem un_neg : UnR X (unaryOp .USub) (rU fun i => .int (-i)) := unI fun _ _ _ _ _ q => neg_int q
end

section
variable {X : Cx} {a b c : Expr} {ta tb tc : TE} {pos : Pos}
theorem fin_bl {pins : List (Addr × Obj)} {σ : St} {H : Hp} {s : Shared} {Q : VK} {k k' : Bool} (I : Inv X pins σ H s) (q : Q (.bl k) H) (e : k = k') : EP X pins σ Q (.bool k') s := by
  subst e
  exact ⟨.bl k, H, I, rfl, q⟩
theorem op_lt : OpR X (compareOp .Lt) (rI0 fun i j => .bl (decide (i < j))) := opB0 fun _ _ _ _ _ _ _ q => lt_int q
theorem op_le : OpR X (compareOp .LtE) (rI0 fun i j => .bl (decide (i ≤ j))) := opB0 fun _ _ _ _ _ _ _ q => le_int q
theorem op_gt : OpR X (compareOp .Gt) (rI0 fun i j => .bl (decide (j < i))) := opB0 fun _ _ _ _ _ _ _ q => gt_int q
theorem op_ge : OpR X (compareOp .GtE) (rI0 fun i j => .bl (decide (j ≤ i))) := opB0 fun _ _ _ _ _ _ _ q => ge_int q
theorem op_isN : OpR X (compareOp .Is) (fun x y H Q => y = .non ∧ Q (.bl (decide (x = .non))) H) := by
  intro pins s σ H x y v u Q I rx ry h
  obtain ⟨rfl, q⟩ := h
  cases ry
  refine is_none_gen (fin_bl I q ?_)
  cases x <;> first
    | (cases rx; rfl)
    | (obtain ⟨t, rfl⟩ := rx; rfl)
theorem op_notN : OpR X (compareOp .IsNot) (fun x y H Q => y = .non ∧ Q (.bl (!decide (x = .non))) H) := by
  intro pins s σ H x y v u Q I rx ry h
  obtain ⟨rfl, q⟩ := h
  cases ry
  refine isnot_none_gen (fin_bl I q ?_)
  cases x <;> first
    | (cases rx; rfl)
    | (obtain ⟨t, rfl⟩ := rx; rfl)

theorem nomark (b : Expr) {op : CmpOp} (h : op ≠ .In := by decide) (h2 : op ≠ .NotIn := by decide) : behindInMarks op b = false := by
  have e1 : (op == CmpOp.In) = false := by cases op <;> first | rfl | exact absurd rfl h
  have e2 : (op == CmpOp.NotIn) = false := by cases op <;> first | rfl | exact absurd rfl h2
  cases b <;> simp [behindInMarks, e1, e2]
theorem pe_cmpR {op : CmpOp} {r : R2} (ho : OpR X (compareOp op) r) (ha : PE X a ta) (hb : PE X b tb) (hm : behindInMarks op b = false) : PE X (.Compare a [op] [b] pos) (tOp r ta tb) := by
  intro pins s σ H Q I h
  exact wpAny_Compare1 (binT ha hb I h fun v u s2 x y H2 I2 rx ry q => ho pins s2 σ H2 x y v u Q I2 rx ry q) hm
def tTest (t : TE) : TT := fun σ H Q => t σ H fun x H' => ∃ k, x = .bl k ∧ Q k H'
theorem pt_cmpR {op : CmpOp} {r : R2} (ho : OpR X (compareOp op) r) (ha : PE X a ta) (hb : PE X b tb) (hm : behindInMarks op b = false) : PT X (.Compare a [op] [b] pos) (tTest (tOp r ta tb)) := by
  intro pins s σ H Q I h
  refine wpAny_isTrue_Compare1 (thn (ha pins s σ H _ I h) fun v s1 ⟨x, H1, I1, r1, q1⟩ => thn (hb pins s1 σ H1 _ I1 q1) fun u s2 ⟨y, H2, I2, r2, q2⟩ =>
    thn (ho pins s2 σ H2 x y v u _ I2 r1 r2 q2) fun c s3 ⟨z, H3, I3, r3, k, e, q3⟩ => ?_) hm
  subst e
  cases r3
  exact wpAny_truthy_bool ⟨H3, I3, q3⟩
theorem line63 : (sizeLine : Nat) < 2 ^ 63 := by rw [sizeLine_eq]; decide
theorem vals1 {x : V} {us : List Value} (r : Vals [x] us) : ∃ u, us = [u] ∧ RelV x u := by
  cases r with
  | cons r1 r2 => cases r2; exact ⟨_, rfl, r1⟩
theorem vals2 {x y : V} {us : List Value} (r : Vals [x, y] us) : ∃ u w', us = [u, w'] ∧ RelV x u ∧ RelV y w' := by
  cases r with
  | cons r1 r2 =>
    cases r2 with
    | cons r3 r4 => cases r4; exact ⟨_, _, rfl, r1, r3⟩
theorem call_min2 (hc : X.calm = true) : CallR X (.builtin "min") (fun xs H Q => ∃ i j, xs = [.int i, .int j] ∧ Q (.int (if j < i then j else i)) H) := by
  intro pins s σ H xs us Q I r h
  obtain ⟨i, j, rfl, q⟩ := h
  obtain ⟨u, w', rfl, ⟨t, rfl⟩, ⟨t', rfl⟩⟩ := vals2 r
  refine min_two_ints (I.ok.hd hc) fun h' tk k => ⟨_, H, I.kept k, ?_, q⟩
  by_cases hj : j < i
  · rw [if_pos hj, if_pos hj]; exact ⟨_, rfl⟩
  · rw [if_neg hj, if_neg hj]; exact ⟨_, rfl⟩
theorem call_int1 : CallR X (.type "int") (fun xs H Q => (∃ i, xs = [.int i] ∧ Q (.int i) H) ∨ ∃ k, xs = [.bl k] ∧ Q (.int (if k then 1 else 0)) H) := by
  intro pins s σ H xs us Q I r h
  rcases h with ⟨i, rfl, q⟩ | ⟨k, rfl, q⟩
  · obtain ⟨u, rfl, t, rfl⟩ := vals1 r
    exact call_int_int ⟨.int i, H, I, ⟨_, rfl⟩, q⟩
  · obtain ⟨u, rfl, r1⟩ := vals1 r
    cases r1
    exact call_int_bool ⟨.int (if k then 1 else 0), H, I.tok _, ⟨_, rfl⟩, q⟩
end
end L2

namespace L2
open PySem PySem.Spec PyProof.Rows

structure ObjM (h : Heap) (x dx C : Addr) (mA : Str → Option Value) : Prop where
  obj : h.get? x = some (PySem.W.instObj C dx)
  ns : h.Ns1 dx mA
  ne : dx ≠ x

theorem lookIn_ns {h : Heap} {dx : Addr} {mA : Str → Option Value} (n : h.Ns1 dx mA) : ∃ od, h.get? dx = some od ∧ ∀ name, PySem.W.lookIn name od = some (mA name) := by
  obtain ⟨o, es, ep, ho, hd, hk, _, hm⟩ := n
  refine ⟨o, ho, fun name => ?_⟩
  have e := hm name
  unfold nsFind findBy at e
  rw [← Array.find?_toList] at e
  unfold PySem.W.lookIn
  rw [hd]
  dsimp only
  split
  · rename_i y q
    rw [q] at e
    exact congrArg some e
  · rename_i q
    rw [q] at e
    have a : es.toList.any (·.refKey) = false := by
      rw [List.any_eq_false]
      intro y hy
      obtain ⟨z, t, hkey⟩ := hk y (Array.mem_toList_iff.mp hy)
      simp [DictEntry.refKey, hkey]
    have a' : ¬ es.toList.any (·.refKey) = true := by rw [a]; exact Bool.false_ne_true
    rw [if_neg a']
    exact congrArg some e

theorem ObjM.look {h : Heap} {x dx C : Addr} {mA : Str → Option Value} (I : ObjM h x dx C mA) : ∃ od, PySem.W.InstAt h x (PySem.W.instObj C dx) C (some od) ∧ ∀ name, PySem.W.lookIn name od = some (mA name) :=
  let ⟨od, ho, hl⟩ := lookIn_ns I.ns
  ⟨od, ⟨I.obj, rfl, rfl, ho⟩, hl⟩

section
variable {prog : Program} {w : World} {A : Around} {E : Value → Shared → Prop} {s : Shared} {K : PySem.W.Frag} {x dx C f : Addr} {mA : Str → Option Value} {name : Str} {v : Value}

theorem get_map {expr : Bool} {Q : Value → Shared → Prop} (X : K.In s.heap) (I : ObjM s.heap x dx C mA) (hg : PySem.W.plainGet K C name = true) (hh : PySem.W.hasDictIn K C = true)
    (ha : PySem.W.findIn K (.ref C) name = some none) (hv : mA name = some v) (hv' : PySem.W.handedIn v = true) (h : Q v { s with toks := s.toks + 1 }) :
    wpAny (model prog w) A (getAttr (.ref x) name expr) Q E s := by
  obtain ⟨od, J, hl⟩ := I.look
  exact PySem.W.get_value X J (PySem.W.plainGet_of hg).1 (PySem.W.findObj_own hh ha rfl (by rw [hl, hv])) hv' h

theorem get_meth {pl : Sem Bool} {Q : Value × List Value → Shared → Prop} (X : K.In s.heap) (I : ObjM s.heap x dx C mA) (hg : PySem.W.plainGet K C name = true)
    (hf : PySem.W.findIn K (.ref C) name = some (some (.ref f))) (ht : PySem.W.isFn K (.ref f) = true) (hv : mA name = none) (h : Q (.ref f, [.ref x]) s) :
    wpAny (model prog w) A (getMethod (.ref x) name pl) Q E s := by
  obtain ⟨od, J, hl⟩ := I.look
  exact PySem.W.method_fn X J (PySem.W.plainGet_of hg).1 (PySem.W.plainGet_of hg).2 hf (beq_iff_eq.mp ht) (by show (PySem.W.lookIn name od).map (·.isSome) = some false; rw [hl, hv]; rfl) h

theorem set_map {ns : List Str} {Q : Unit → Shared → Prop} (X : K.In s.heap) (I : ObjM s.heap x dx C mA)
    (hs : PySem.W.findIn K (.ref C) "__setattr__" = some (some (.builtin "object.__setattr__"))) (hp : PySem.W.plainOver K C = true) (ht : PySem.W.takerIn K C name = some none) (hh : PySem.W.hasDictIn K C = true)
    (hw : PySem.Within mA ns) (hsz : ns.length ≤ sizeLine)
    (h : ∀ h', ObjM h' x dx C (fun y => if y = name then some v else mA y) → Heap.SameBut dx s.heap h' → Q () { s with heap := h', toks := s.toks + 2 }) :
    wpAny (model prog w) A (setAttr (.ref x) name v) Q E s := by
  obtain ⟨od, J, hl⟩ := I.look
  refine PySem.W.set_plain X J hs (PySem.W.osa_open (s := { s with toks := s.toks + 1 }) (r := none) X J hp ht fun b => ?_)
  obtain ⟨cd, hc, hd'⟩ := PySem.W.any_some hh
  have hx : s.heap.get? x = some ⟨.ref C, some dx, .plain, #[]⟩ := I.obj
  refine wpAny_bind (wpAny_pure (wpAny_bind (wpAny_bind (wpAny_loadPart hx (wpAny_bind (PySem.W.Looks.here (s := { s with toks := s.toks + 1 }) (PySem.W.looks_clsIn X hc) ?_))))))
  rw [hd']
  refine wpAny_pure (a := some dx) (wpAny_bind (wpAny_pure (wpAny_bind ?_)))
  refine wpAny_nsSet1 (s := { s with toks := s.toks + 1 }) I.ns fun h' hn2 hs2 => ?_
  obtain ⟨oD, esD, epD, hoD, hdD, hcD⟩ := hn2.count (PySem.Within.cons name v hw)
  refine wpAny_bind (wpAny_lookBehind hoD (by rw [hdD]; exact pastItsLine_dict (Nat.le_trans hcD (by rw [List.length_cons]; omega))) ?_)
  exact wpAny_pure (h _ ⟨(hs2.2 _ (Ne.symm I.ne)).trans I.obj, hn2, I.ne⟩ hs2)

theorem make_map {R : Result → Shared → Prop} {vs : List Value} {kw : List (Str × Value)} (X : K.In s.heap) (hm : PySem.W.makesIn K C = true)
    (hi : PySem.W.findIn K (.ref C) "__init__" = some (some (.ref f))) (hf : PySem.W.typeIn K (.ref f) = some (.type "function"))
    (h : codeAny (model prog w) (A.under (.builtin "type.__call__" ⟨.ref C :: vs, kw⟩)) (.call (.ref f) ⟨.ref (s.heap.objs.size + 1) :: vs, kw⟩) (PySem.W.InitBack (s.heap.objs.size + 1) R)
      { s with heap := (s.heap.push PySem.W.emptyDict).push (PySem.W.instObj C s.heap.objs.size) }) :
    codeAny (model prog w) A (.call (.ref C) ⟨vs, kw⟩) R s := by
  obtain ⟨hh, g, d, t, os⟩ := s
  exact PySem.W.make_core (PySem.W.makes_of X hm) (PySem.W.looks_findIn X hi) (fun self => PySem.W.bind_fn X self hf) (.inl rfl) h
end

def putF (f : Str) (v : V) : List (Str × V) → List (Str × V)
  | [] => [(f, v)]
  | (g, x) :: r => if g = f then (g, v) :: r else (g, x) :: putF f v r
theorem lookup_putF (f g : Str) (v : V) : ∀ fs : List (Str × V), (putF f v fs).lookup g = if g = f then some v else fs.lookup g
  | [] => by
    show List.lookup g [(f, v)] = _
    by_cases h : g = f
    · have hb : (g == f) = true := beq_iff_eq.mpr h
      simp only [List.lookup, hb, if_pos h]
    · have hb : (g == f) = false := beq_eq_false_iff_ne.mpr h
      simp only [List.lookup, hb, if_neg h]
  | (k, x) :: r => by
    have ih := lookup_putF f g v r
    rw [show putF f v ((k, x) :: r) = (if k = f then (k, v) :: r else (k, x) :: putF f v r) from rfl]
    by_cases hk : k = f
    · rw [if_pos hk]
      by_cases h : g = k
      · have hb : (g == k) = true := beq_iff_eq.mpr h
        simp only [List.lookup, hb, if_pos (h.trans hk)]
      · have hb : (g == k) = false := beq_eq_false_iff_ne.mpr h
        simp only [List.lookup, hb, if_neg (fun e : g = f => h (e.trans hk.symm))]
    · rw [if_neg hk]
      by_cases h : g = k
      · have hb : (g == k) = true := beq_iff_eq.mpr h
        simp only [List.lookup, hb, if_neg (fun e : g = f => hk (h.symm.trans e))]
      · have hb : (g == k) = false := beq_eq_false_iff_ne.mpr h
        simp only [List.lookup, hb]
        exact ih
theorem keys_putF (f : Str) (v : V) : ∀ fs : List (Str × V), f ∈ (putF f v fs).map (·.1) ∧ ∀ g, g ∈ fs.map (·.1) → g ∈ (putF f v fs).map (·.1)
  | [] => ⟨by simp [putF], fun g h => by simp at h⟩
  | (k, x) :: r => by
    obtain ⟨i1, i2⟩ := keys_putF f v r
    rw [show putF f v ((k, x) :: r) = (if k = f then (k, v) :: r else (k, x) :: putF f v r) from rfl]
    by_cases hk : k = f
    · rw [if_pos hk]
      subst hk
      exact ⟨by simp, fun g h => by simpa using h⟩
    · rw [if_neg hk]
      refine ⟨?_, fun g h => ?_⟩
      · rw [List.map_cons]
        exact List.mem_cons_of_mem _ i1
      · rw [List.map_cons] at h ⊢
        rcases List.mem_cons.mp h with e | e
        · exact List.mem_cons.mpr (.inl e)
        · exact List.mem_cons_of_mem _ (i2 g e)
theorem length_putF (f : Str) (v : V) : ∀ fs : List (Str × V), (putF f v fs).length ≤ fs.length + 1
  | [] => by simp [putF]
  | (k, x) :: r => by
    have ih := length_putF f v r
    rw [show putF f v ((k, x) :: r) = (if k = f then (k, v) :: r else (k, x) :: putF f v r) from rfl]
    by_cases hk : k = f
    · rw [if_pos hk, List.length_cons, List.length_cons]; omega
    · rw [if_neg hk, List.length_cons, List.length_cons]; omega

theorem RelO.some_of {v : V} {o : Option Value} (r : RelO (some v) o) : ∃ u, o = some u ∧ RelV v u := by
  cases o with
  | none => exact (show False from r).elim
  | some u => exact ⟨u, rfl, r⟩
theorem RelO.none_of {o : Option Value} (r : RelO none o) : o = none := by
  cases o with
  | none => rfl
  | some u => exact (show False from r).elim
theorem handed_of {v : V} {u : Value} (r : RelV v u) : PySem.W.handedIn u = true := by
  cases v with
  | non => cases (show u = Value.none from r); rfl
  | bl b => cases (show u = Value.bool b from r); rfl
  | int i => obtain ⟨t, e⟩ := (show ∃ t, u = Value.int i t from r); cases e; rfl
  | str x => obtain ⟨t, e⟩ := (show ∃ t, u = Value.str x t from r); cases e; rfl
  | byt b => obtain ⟨t, e⟩ := (show ∃ t, u = Value.bytes b t from r); cases e; rfl
  | flt b => obtain ⟨t, e⟩ := (show ∃ t, u = Value.float b t from r); cases e; rfl
  | ref a => cases (show u = Value.ref a from r); rfl
  | ty n => cases (show u = Value.type n from r); rfl

section
variable {P : Program} {w : World} {H H' : Hp} {h h' : Heap} {a C dx : Addr} {fs fs' : List (Str × V)}
theorem ins_get (hok : HOk P w H h) (e : H a = some (.ins C dx fs)) : ∃ mA, ObjM h a dx C mA ∧ (∀ f, RelO (fs.lookup f) (mA f)) ∧ PySem.Within mA (fs.map (·.1)) ∧ fs.length ≤ 1000 ∧ H dx = some (.own a) := by
  obtain ⟨d, z, ne, ob, mA, n, r, q⟩ := (show ObjOk P w H h a (.ins C dx fs) from hok a _ e)
  exact ⟨mA, ⟨ob, n, ne⟩, r, q, z, d⟩
end

structure Cls (K : PySem.W.Frag) (C : Addr) : Prop where
  pg : PySem.W.plainGet K C Str.empty = true
  hd : PySem.W.hasDictIn K C = true
  po : PySem.W.plainOver K C = true
  sa : PySem.W.findIn K (.ref C) "__setattr__" = some (some (.builtin "object.__setattr__"))
theorem Cls.get {K : PySem.W.Frag} {C : Addr} (c : Cls K C) (f : Str) : PySem.W.plainGet K C f = true := c.pg
def NoAttr (K : PySem.W.Frag) (C : Addr) (f : Str) : Prop := PySem.W.findIn K (.ref C) f = some none
theorem NoAttr.taker {K : PySem.W.Frag} {C : Addr} {f : Str} (n : NoAttr K C f) : PySem.W.takerIn K C f = some none := by
  unfold PySem.W.takerIn
  rw [show PySem.W.findIn K (.ref C) f = some none from n]
  rfl
structure Meth (K : PySem.W.Frag) (C : Addr) (m : Str) (f : Addr) : Prop where
  at_ : PySem.W.findIn K (.ref C) m = some (some (.ref f))
  fn : PySem.W.isFn K (.ref f) = true
  kp : PySem.W.keepIn K (.ref f) = true

section
variable {X : Cx} {pins : List (Addr × Obj)} {σ : St} {H : Hp} {s : Shared} {a C dx : Addr} {fs : List (Str × V)} {f : Str} {v : V} {A : Around} {E : Value → Shared → Prop}

theorem getattr_ok {b : Bool} {Q : Value → Shared → Prop} (I : Inv X pins σ H s) (e : H a = some (.ins C dx fs)) (c : Cls X.K C) (n : NoAttr X.K C f) (l : fs.lookup f = some v)
    (h : ∀ u s', Inv X pins σ H s' → RelV v u → Q u s') : wpAny (model X.prog X.w) A (getAttr (.ref a) f b) Q E s := by
  obtain ⟨mA, O, r, _, _, _⟩ := ins_get I.hok e
  obtain ⟨u, hu, ru⟩ := RelO.some_of (v := v) (o := mA f) (by rw [← l]; exact r f)
  exact get_map I.kIn O (c.get f) c.hd n hu (handed_of ru) (h u _ (I.tok _) ru)

theorem getmeth_ok {m : Str} {g : Addr} {pl : Sem Bool} {Q : Value × List Value → Shared → Prop} (I : Inv X pins σ H s) (e : H a = some (.ins C dx fs)) (c : Cls X.K C) (k : Meth X.K C m g) (l : fs.lookup m = none)
    (h : Q (.ref g, [.ref a]) s) : wpAny (model X.prog X.w) A (getMethod (.ref a) m pl) Q E s := by
  obtain ⟨mA, O, r, _, _, _⟩ := ins_get I.hok e
  have hn : mA m = none := RelO.none_of (by rw [← l]; exact r m)
  exact get_meth I.kIn O (c.get m) k.at_ k.fn hn h

theorem setattr_ok {y : V} {u : Value} {Q : Unit → Shared → Prop} (I : Inv X pins σ H s) (e : H a = some (.ins C dx fs)) (c : Cls X.K C) (n : NoAttr X.K C f) (hl : fs.length < 1000) (ry : RelV y u)
    (h : ∀ s', Inv X pins σ (upd H a (.ins C dx (putF f y fs))) s' → Q () s') : wpAny (model X.prog X.w) A (setAttr (.ref a) f u) Q E s := by
  obtain ⟨mA, O, r, wi, _, ho⟩ := ins_get I.hok e
  have hz : (fs.map (·.1)).length ≤ sizeLine := by rw [List.length_map, sizeLine_eq]; omega
  refine set_map I.kIn O c.sa c.po n.taker c.hd wi hz fun h' O' sb => h _ ?_
  have hd : ∃ o, h'.get? dx = some o := let ⟨o, _, _, e', _⟩ := O'.ns; ⟨o, e'⟩
  refine I.write (x := a) (e := dx) (by rw [e]; exact True.intro) (.inr ho) (fun b q hb z => (sb.2 b hb).trans z) hd ?_
  refine ⟨by rw [upd_ne O.ne]; exact ho, ?_, O.ne, O'.obj, _, O'.ns, fun g => ?_, fun g hg => ?_⟩
  · have := length_putF f y fs; omega
  · show RelO ((putF f y fs).lookup g) (if g = f then some u else mA g)
    rw [lookup_putF]
    by_cases q : g = f
    · rw [if_pos q, if_pos q]; exact ry
    · rw [if_neg q, if_neg q]; exact r g
  · by_cases q : g = f
    · rw [q]; exact (keys_putF f y fs).1
    · refine (keys_putF f y fs).2 g (wi g fun z => hg ?_)
      show (if g = f then some u else mA g) = none
      rw [if_neg q]; exact z

theorem Inv.made (I : Inv X pins σ H s) : Inv X pins σ (upd (upd H s.heap.objs.size (.own (s.heap.objs.size + 1))) (s.heap.objs.size + 1) (.ins C s.heap.objs.size []))
    { s with heap := (s.heap.push PySem.W.emptyDict).push (PySem.W.instObj C s.heap.objs.size) } := by
  have e1 : (s.heap.push PySem.W.emptyDict).get? s.heap.objs.size = some PySem.W.emptyDict := Heap.get?_push_size s.heap rfl
  have e2 : ((s.heap.push PySem.W.emptyDict).push (PySem.W.instObj C s.heap.objs.size)).get? (s.heap.objs.size + 1) = some (PySem.W.instObj C s.heap.objs.size) := by
    have := Heap.get?_push_size (s.heap.push PySem.W.emptyDict) (o := PySem.W.instObj C s.heap.objs.size) rfl
    rwa [Heap.size_push] at this
  have e3 : (s.heap.push PySem.W.emptyDict).Ns s.heap.objs.size (fun _ => none) := ⟨PySem.W.emptyDict, #[], _, e1, rfl, (fun e he => absurd he (by simp)), fun _ => rfl⟩
  have I1 := I.laid (a := s.heap.objs.size) (o := .own (s.heap.objs.size + 1)) (h' := s.heap.push PySem.W.emptyDict) (t' := s.toks) (fun b u q => Heap.get?_push_of_some _ q) (Nat.le_refl _) ⟨_, e1⟩
  refine I1.laid (a := s.heap.objs.size + 1) (o := .ins C s.heap.objs.size []) (t' := s.toks) (fun b u q => Heap.get?_push_of_some _ q) (Nat.le_of_eq (Heap.size_push _ _)) ?_
  have ne : s.heap.objs.size ≠ s.heap.objs.size + 1 := Nat.ne_of_lt (Nat.lt_succ_self _)
  refine ⟨by rw [upd_ne ne, upd_same], Nat.zero_le _, ne, e2, fun _ => none, (Heap.Ns1.of_empty e3).at fun o q => Heap.get?_push_of_some _ q, fun _ => True.intro, fun y hy => absurd rfl hy⟩

theorem attr_of {prog : Program} {w : World} {env : Env} {e : Expr} {f : Str} {pos : Pos} {s : Shared} {Q : Value → Shared → Prop} (hb : attributeBase e f env (eval e env) = eval e env)
    (h : wpAny (model prog w) A (eval e env) (fun o s₁ => wpAny (model prog w) A (getAttr o f true) Q E s₁) E s) : wpAny (model prog w) A (eval (.Attribute e f pos) env) Q E s :=
  Attribute_any_ h (by rw [arm_eval_Attribute, hb])
end

def tFld (K : PySem.W.Frag) (ta : TE) (f : Str) : TE := fun σ H Q => ta σ H fun x H1 => ∃ a C dx fs v, x = .ref a ∧ H1 a = some (.ins C dx fs) ∧ Cls K C ∧ NoAttr K C f ∧ fs.lookup f = some v ∧ Q v H1
def sFld (K : PySem.W.Frag) (ta tv : TE) (f : Str) : TS := fun D σ H => tv σ H fun y H1 => ta σ H1 fun x H2 => ∃ a C dx fs, x = .ref a ∧ H2 a = some (.ins C dx fs) ∧ Cls K C ∧ NoAttr K C f ∧ fs.length < 1000 ∧
  D.nx σ (upd H2 a (.ins C dx (putF f y fs)))
section
variable {X : Cx} {o e value : Expr} {f : Str} {pos pos' tpos : Pos} {ta tv : TE}
theorem pe_fld (he : PE X e ta) (hb : attributeBase e f X.env (eval e X.env) = eval e X.env) : PE X (.Attribute e f pos) (tFld X.K ta f) := by
  intro pins s σ H Q I h
  refine attr_of hb (thn (he pins s σ H _ I h) fun u s1 ⟨x, H1, I1, rx, a, C, dx, fs, v, ex, ea, c, n, l, q⟩ => ?_)
  subst ex
  obtain rfl : u = Value.ref a := rx
  exact getattr_ok I1 ea c n l fun u' s2 I2 ru => ⟨v, H1, I2, ru, q⟩
theorem ps_fld (ha : PE X o ta) (hv : PE X value tv) (hs : swapsWith value (some (.Attribute o f pos')) pos.line X.env = pure false) : PS X (.Assign [.Attribute o f pos'] value pos) (sFld X.K ta tv f) := by
  intro pins s σ H D I h
  refine plainObj_wpAny_Assign_Attribute (thn (hv pins s σ H _ I h) fun u s1 ⟨y, H1, I1, ry, q⟩ => thn (ha pins s1 σ H1 _ I1 q) fun ov s2 ⟨x, H2, I2, rx, a, C, dx, fs, ex, ea, c, n, l, q2⟩ => ?_) hs
  subst ex
  obtain rfl : ov = Value.ref a := rx
  exact setattr_ok I2 ea c n l ry fun s3 I3 => ⟨σ, _, I3, q2⟩
theorem methcall_of {pl : Sem Bool} {m : Str} {apos : Pos} {args : List Expr} {pins : List (Addr × Obj)} {s : Shared} {σ : St} {H : Hp} {Q : Value → Shared → Prop} {te : TE} (he : PE X e te) (I : Inv X pins σ H s)
    (h : te σ H fun x H1 => ∃ a C dx fs g, x = .ref a ∧ H1 a = some (.ins C dx fs) ∧ Cls X.K C ∧ Meth X.K C m g ∧ fs.lookup m = none ∧
      ∀ s1, Inv X pins σ H1 s1 → wpAny (model X.prog X.w) X.A (callWith pos (.ref g) [.ref a] (backTo pos (starEach args X.env)) (backToKw pos (keywordEach [] X.env))) Q X.xe s1)
    (ht : eval (.Call (.Attribute e m apos) args [] pos) X.env = (do
      let ov ← eval e X.env
      standAt apos.atName
      let (f, first) ← holding [ov] (getMethod ov m pl)
      callWith pos f first (backTo pos (starEach args X.env)) (backToKw pos (keywordEach [] X.env)))) :
    wpAny (model X.prog X.w) X.A (eval (.Call (.Attribute e m apos) args [] pos) X.env) Q X.xe s := by
  refine PySem.W.methodCall_KW (pl := pl) (thn (he pins s σ H _ I h) fun u s1 ⟨x, H1, I1, rx, a, C, dx, fs, g, ex, ea, c, k, l, q⟩ => ?_) ht
  subst ex
  obtain rfl : u = Value.ref a := rx
  exact getmeth_ok I1 ea c k l (q s1 I1)
end

section
variable {X : Cx} {pins : List (Addr × Obj)} {σ : St} {H : Hp} {s : Shared} {A : Around} {E : Value → Shared → Prop} {Q : Value → Shared → Prop} {c : Value} {b : Bool}
inductive TyOf (K : PySem.W.Frag) (H : Hp) : V → Value → Prop where
  | non : TyOf K H .non (.type "NoneType")
  | bl (x : Bool) : TyOf K H (.bl x) (.type "bool")
  | int (i : Int) : TyOf K H (.int i) (.type "int")
  | str (x : Str) : TyOf K H (.str x) (.type "str")
  | flt (x : UInt64) : TyOf K H (.flt x) (.type "float")
  | lst {a : Addr} {xs : List V} (e : H a = some (.lst xs)) : TyOf K H (.ref a) (.type "list")
  | frz {a : Addr} {o : Obj} {xs : List V} (e : H a = some (.frz o (.lst xs))) : TyOf K H (.ref a) (.type "list")
  | tup {a : Addr} {xs : List V} (e : H a = some (.tup xs)) : TyOf K H (.ref a) (.type "tuple")
  | dK {a : Addr} {kvs : List (Key × V)} (e : H a = some (.dK kvs)) : TyOf K H (.ref a) (.type "dict")
  | dT {a : Addr} {kvs : List (List Key × V)} (e : H a = some (.dT kvs)) : TyOf K H (.ref a) (.type "dict")
  | ins {a C dx : Addr} {fs : List (Str × V)} (e : H a = some (.ins C dx fs)) (cl : Cls K C) (ha : PySem.W.findIn K (.ref C) "__class__" = some (some (.builtin "object.__class__")))
      (hn : PySem.W.specialIn K (.builtin "object.__class__") "__get__" = some (some (.builtin "getset_descriptor.__get__"))) (htk : PySem.W.takesIn K (.builtin "object.__class__") = some true)
      (hm : PySem.W.mroIn K C (.type "object") = some true) : TyOf K H (.ref a) (.ref C)
theorem isinst_ok {x : V} {u t : Value} (I : Inv X pins σ H s) (rx : RelV x u) (ty : TyOf X.K H x t) (e : PySem.W.kitOne X.K t c = some b) (h : ∀ tk, Q (.bool b) { s with toks := tk }) :
    wpAny (model X.prog X.w) A (call (.builtin "isinstance") [u, c]) Q E s := by
  cases ty with
  | non => cases (show u = Value.none from rx); exact PySem.W.kia_one PySem.W.kitx_none I.kIn True.intro e (fun z => nomatch z) h
  | bl y => cases (show u = Value.bool y from rx); exact PySem.W.kia_one PySem.W.kitx_bool I.kIn True.intro e (fun z => nomatch z) h
  | int i => obtain ⟨t, q⟩ := (show ∃ t, u = Value.int i t from rx); cases q; exact PySem.W.kia_one PySem.W.kitx_int I.kIn True.intro e (fun z => nomatch z) h
  | str y => obtain ⟨t, q⟩ := (show ∃ t, u = Value.str y t from rx); cases q; exact PySem.W.kia_one PySem.W.kitx_str I.kIn True.intro e (fun z => nomatch z) h
  | flt y => obtain ⟨t, q⟩ := (show ∃ t, u = Value.float y t from rx); cases q; exact PySem.W.kia_one PySem.W.kitx_float I.kIn True.intro e (fun z => nomatch z) h
  | @lst a xs ea =>
    cases (show u = Value.ref a from rx)
    obtain ⟨_, _, n, _, h1⟩ := (show ObjOk X.prog X.w H s.heap a (.lst xs) from I.hok a _ ea)
    exact PySem.W.kia_one PySem.W.kitx_list I.kIn ⟨_, h1, rfl⟩ e (fun z => nomatch z) h
  | @frz a ob xs ea =>
    cases (show u = Value.ref a from rx)
    obtain ⟨_, _, _, n, _, h1⟩ := (show ObjOk X.prog X.w H s.heap a (.frz ob (.lst xs)) from I.hok a _ ea)
    exact PySem.W.kia_one PySem.W.kitx_list I.kIn ⟨_, h1, rfl⟩ e (fun z => nomatch z) h
  | @tup a xs ea =>
    cases (show u = Value.ref a from rx)
    obtain ⟨_, _, _, p⟩ := (show ObjOk X.prog X.w H s.heap a (.tup xs) from I.hok a _ ea)
    obtain ⟨o, h1, h2, _⟩ := p
    exact PySem.W.kia_one PySem.W.kitx_tuple I.kIn ⟨o, h1, h2⟩ e (fun z => nomatch z) h
  | @dK a kvs ea =>
    cases (show u = Value.ref a from rx)
    obtain ⟨_, _, vs, _, p⟩ := (show ObjOk X.prog X.w H s.heap a (.dK kvs) from I.hok a _ ea)
    obtain ⟨o, es, ep, h1, h2, _⟩ := p
    exact PySem.W.kia_one PySem.W.kitx_dict I.kIn ⟨o, h1, h2.1⟩ e (fun z => nomatch z) h
  | @dT a kvs ea =>
    cases (show u = Value.ref a from rx)
    obtain ⟨_, _, xs, _, o, es, ep, h1, h2, _⟩ := (show ObjOk X.prog X.w H s.heap a (.dT kvs) from I.hok a _ ea)
    exact PySem.W.kia_one PySem.W.kitx_dict I.kIn ⟨o, h1, h2.1⟩ e (fun z => nomatch z) h
  | @ins a C dx fs ea cl ha hn htk hm =>
    cases (show u = Value.ref a from rx)
    obtain ⟨mA, O, _⟩ := ins_get I.hok ea
    obtain ⟨od, J, _⟩ := O.look
    exact PySem.W.kia_one (PySem.W.kitx_own (cl.get _) cl.hd ha hn htk hm) I.kIn J e (fun z => nomatch z) h
end
end L2

namespace L2
open PySem PySem.Spec PyProof.Rows

structure Room (k : Nat) (A : Around) : Prop where
  hd : A.handled = none
  dp : A.depth + 3 * k + 5 < recursionLimit
  un : A.units + 16 * k + 200 < cLine
theorem Room.mono {j k : Nat} {A : Around} (r : Room k A) (h : j ≤ k) : Room j A := ⟨r.hd, by have := r.dp; omega, by have := r.un; omega⟩
theorem Room.deeper {k : Nat} {A : Around} (r : Room (k + 1) A) (env : Env) : Room k (A.deeper env) :=
  ⟨r.hd, by have := r.dp; show A.depth + 1 + 3 * k + 5 < _; omega, by have := r.un; show A.units + 3 + 16 * k + 200 < _; omega⟩
theorem make_depth {A : Around} {C : Addr} {us : List Value} {kw : List (Str × Value)} : (A.under (.builtin "type.__call__" ⟨.ref C :: us, kw⟩)).depth = A.depth + 1 := by
  first | rfl | simp [Around.under, Code.weight, Code.isCreation, Code.isGuard, Code.isCaller, Code.frames, Code.isFrame, guardIds]
theorem make_units {A : Around} {C : Addr} {us : List Value} {kw : List (Str × Value)} : (A.under (.builtin "type.__call__" ⟨.ref C :: us, kw⟩)).units = A.units + 1 := by
  first | rfl | simp [Around.under, Code.cUnits, Code.frames, Code.isFrame]
theorem Room.make {k : Nat} {A : Around} (r : Room (k + 1) A) (C : Addr) (us : List Value) (kw : List (Str × Value)) : Room k (A.under (.builtin "type.__call__" ⟨.ref C :: us, kw⟩)) :=
  ⟨r.hd, by have := r.dp; rw [make_depth]; omega, by have := r.un; rw [make_units]; omega⟩
theorem Room.depth {k : Nat} {A : Around} (r : Room k A) : A.depth < recursionLimit := by have := r.dp; omega
theorem Room.units {k : Nat} {A : Around} (r : Room k A) : A.units + 64 < cLine := by have := r.un; omega
def tNil : TA := fun _ H Q => Q [] H
def tCons (ta : TE) (tr : TA) : TA := fun σ H Q => ta σ H fun x H1 => tr σ H1 fun xs H2 => Q (x :: xs) H2
section
variable {X : Cx} {e : Expr} {es : List Expr} {te : TE} {t : TA} {pos : Pos}
theorem pa_nil : PA X [] tNil := fun _ _ _ _ H Q I h => Calls.spliced_nil ⟨[], H, I, .nil, h⟩
theorem pa_cons (ha : PE X e te) (hr : PA X es t) (hs : starEach (e :: es) X.env = (false, eval e X.env) :: starEach es X.env := by rfl) : PA X (e :: es) (tCons te t) := by
  intro pos pins s σ H Q I h
  rw [hs]
  show wpAny _ _ (spliced ((false, eval e X.env) :: backTo pos (starEach es X.env))) _ _ s
  refine Calls.spliced_cons (thn (ha pins s σ H _ I h) fun u s1 ⟨x, H1, I1, r1, q1⟩ => ?_)
  exact thn (hr pos pins s1 σ H1 _ I1 q1) fun us s2 ⟨xs, H2, I2, r2, q2⟩ => ⟨x :: xs, H2, I2, .cons r1 r2, q2⟩

def tTup (t : TA) : TE := fun σ H Q => t σ H fun xs H1 => xs.length ≤ sizeLine ∧ ∀ p, H1 p = none → Q (.ref p) (upd H1 p (.tup xs))
def tLst (t : TA) : TE := fun σ H Q => t σ H fun xs H1 => xs.length ≤ sizeLine ∧ ∀ p, H1 p = none → Q (.ref p) (upd H1 p (.lst xs))
theorem pe_tup {x1} (h : PA X es t) : PE X (.Tuple es x1 pos) (tTup t) := by
  intro pins s σ H Q I hq
  refine wpAny_Tuple_spliced (thn (h pos pins s σ H _ I hq) fun us s1 ⟨xs, H1, I1, r, z, q⟩ => ⟨by rw [← r.length]; exact z, ?_⟩)
  have hf : H1 s1.heap.objs.size = none := I1.hok.fresh (Nat.le_refl _)
  refine ⟨.ref s1.heap.objs.size, upd H1 s1.heap.objs.size (.tup xs), I1.laid (t' := s1.toks) (fun b u e => Heap.get?_push_of_some _ e) (Nat.le_refl _) ?_, rfl, q _ hf⟩
  exact ⟨z, us, r, ⟨_, Heap.get?_push_size _ rfl, rfl, _, rfl⟩⟩
theorem pe_lst (h : PA X es t) : PE X (.List es pos) (tLst t) := by
  intro pins s σ H Q I hq
  refine wpAny_List_spliced (thn (h pos pins s σ H _ I hq) fun us s1 ⟨xs, H1, I1, r, z, q⟩ => ⟨by rw [← r.length]; exact z, ?_⟩)
  have hf : H1 s1.heap.objs.size = none := I1.hok.fresh (Nat.le_refl _)
  refine ⟨.ref s1.heap.objs.size, upd H1 s1.heap.objs.size (.lst xs), I1.laid (t' := s1.toks) (fun b u e => Heap.get?_push_of_some _ e) (Nat.le_refl _) ?_, rfl, q _ hf⟩
  exact ⟨z, us, 0, r, Heap.get?_push_size _ rfl⟩
end

abbrev Sp := List V → Hp → VK → XK → Prop
abbrev CXT := List Env → Hp → Shared → XK → Value → Shared → Prop

structure Env0 (P : Program) (w : World) (K : PySem.W.Frag) (mg : Str → Option Value) (base : Heap) (A : Around) (outer : List Env) (s : Shared) (H : Hp) : Prop where
  frames : A.frames = some outer
  mod : Mod K mg base
  bs : ∀ b o, base.get? b = some o → s.heap.get? b = some o ∧ H b = none
  bsz : base.objs.size ≤ s.heap.objs.size
  funs : s.heap.FunFrames base outer
  frf : ∀ b ∈ frs outer, H b = none
  hok : HOk P w H s.heap
  bare : AllBare s.gens
def CE (outer : List Env) (P : Program) (w : World) (H : Hp) (s : Shared) (Q : VK) (u : Value) (s' : Shared) : Prop :=
  ∃ v H', s'.os = s.os ∧ AllBare s'.gens ∧ Un (frs outer) [] H H' s.heap s'.heap ∧ HOk P w H' s'.heap ∧ RelV v u ∧ Q v H'
def CR (CX : CXT) (outer : List Env) (P : Program) (w : World) (H : Hp) (s : Shared) (Q : VK) (E : XK) (r : Result) (s' : Shared) : Prop :=
  match r with
  | .ok (.ret u) => CE outer P w H s Q u s'
  | .ok _ => False
  | .error e => CX outer H s E e s'
structure FnOk (P : Program) (w : World) (K : PySem.W.Frag) (mg : Str → Option Value) (base : Heap) (CX : CXT) (k : Nat) (f : Addr) (fd : FuncData) (ps : List Str) (sp : Sp) : Prop where
  len : ∀ vs H Q E, sp vs H Q E → vs.length = ps.length
  run : ∀ (A : Around) (outer : List Env) (s : Shared) (H : Hp) (args : Args) (us : List Value) (vs : List V) (Q : VK) (E : XK), Room k A → Env0 P w K mg base A outer s H → BindsTo s fd args (ps.zip us) → Vals vs us → sp vs H Q E →
    codeAny (model P w) A (.call (.ref f) args) (CR CX outer P w H s Q E) s
theorem FnOk.mono {P : Program} {w : World} {K : PySem.W.Frag} {mg : Str → Option Value} {base : Heap} {CX : CXT} {j k : Nat} {f : Addr} {fd : FuncData} {ps : List Str} {sp : Sp} (F : FnOk P w K mg base CX j f fd ps sp) (h : j ≤ k) :
    FnOk P w K mg base CX k f fd ps sp := ⟨F.len, fun A outer s H args us vs Q E hr => F.run A outer s H args us vs Q E (hr.mono h)⟩
theorem Env0.make {P : Program} {w : World} {K : PySem.W.Frag} {mg : Str → Option Value} {base : Heap} {A : Around} {outer : List Env} {s : Shared} {H : Hp} (e : Env0 P w K mg base A outer s H) (C : Addr) (us : List Value) (kw : List (Str × Value)) :
    Env0 P w K mg base (A.under (.builtin "type.__call__" ⟨.ref C :: us, kw⟩)) outer s H := ⟨by first | exact e.frames | (simpa [Around.under, Code.envs, Code.isFrame, pushEnvs] using e.frames), e.mod, e.bs, e.bsz, e.funs, e.frf, e.hok, e.bare⟩
section
variable {X : Cx} {pins : List (Addr × Obj)} {σ : St} {H : Hp} {s s' : Shared}
theorem Inv.env0 (I : Inv X pins σ H s) : Env0 X.prog X.w X.K X.mg X.base X.A X.stack s H :=
  ⟨I.ok.frames, I.ok.mod, I.bs, Nat.le_trans I.ok.bsz I.sz, I.stack, I.stkFree, I.hok, I.bare⟩
theorem Inv.after {Q : VK} {u : Value} (I : Inv X pins σ H s) (h : CE X.stack X.prog X.w H s Q u s') : EP X pins σ Q u s' := by
  obtain ⟨v, H', os, bare, un, hok, r, q⟩ := h
  obtain ⟨hh, g, d, t, os'⟩ := s'
  obtain rfl : os' = s.os := os
  exact ⟨v, H', I.call (h' := hh) (g' := g) (d' := d) (t' := t) (ch := []) un hok bare (fun b z => absurd z (by simp)), r, q⟩
end

def tCall (sp : Sp) (dvs : List V) (E : XK) (t : TA) : TE := fun σ H Q => t σ H fun vs H1 => sp (vs ++ dvs) H1 Q E
def tMeth (C : Addr) (m : Str) (sp : Sp) (dvs : List V) (E : XK) (ta : TE) (t : TA) : TE := fun σ H Q => ta σ H fun x H1 => ∃ a dx fs, x = .ref a ∧ H1 a = some (.ins C dx fs) ∧ fs.lookup m = none ∧
  t σ H1 fun vs H2 => sp (x :: (vs ++ dvs)) H2 Q E
def tMake (C : Addr) (sp : Sp) (dvs : List V) (E : XK) (t : TA) : TE := fun σ H Q => t σ H fun vs H1 => ∀ x dx, H1 x = none → H1 dx = none → dx ≠ x →
  sp (.ref x :: (vs ++ dvs)) (upd (upd H1 dx (.own x)) x (.ins C dx [])) (fun v H2 => v = .non ∧ Q (.ref x) H2) E

def Binds (K : PySem.W.Frag) (fd : FuncData) (ps : List Str) (ds : List Value) : Prop :=
  ∀ (s : Shared) (us : List Value), K.In s.heap → (us ++ ds).length = ps.length → BindsTo s fd ⟨us, []⟩ (ps.zip (us ++ ds))
theorem Binds.all {K : PySem.W.Frag} {fd : FuncData} {ps : List Str} (h : ∀ us : List Value, us.length = ps.length → bindArgs fd ⟨us, []⟩ = pure (ps.zip us)) : Binds K fd ps [] := fun s us _ hl => by
  rw [List.append_nil] at hl ⊢
  exact .of_eq (h us hl)

def Passes (CX : CXT) (X : Cx) (E : XK) : Prop := ∀ (pins : List (Addr × Obj)) (σ : St) (H : Hp) (s : Shared) (e : Value) (s' : Shared), Inv X pins σ H s → CX X.stack H s E e s' → X.xe e s'

section
variable {X : Cx} {CX : CXT} {k : Nat} {f C : Addr} {fd : FuncData} {ps : List Str} {sp : Sp} {dvs : List V} {ds : List Value} {E : XK} {x m : Str} {p pos apos : Pos} {e o : Expr} {es : List Expr} {ta : TE} {t : TA}

theorem run_fn {pins : List (Addr × Obj)} {σ : St} {H : Hp} {s : Shared} {Q : VK} {us : List Value} {vs : List V} (F : FnOk X.prog X.w X.K X.mg X.base CX k f fd ps sp) (hr : Room k X.A) (hb : Binds X.K fd ps ds) (hd : Vals dvs ds) (hx : Passes CX X E)
    (I : Inv X pins σ H s) (r : Vals vs us) (h : sp (vs ++ dvs) H Q E) : wpAny (model X.prog X.w) X.A (call (.ref f) us) (EP X pins σ Q) X.xe s := by
  have r2 : Vals (vs ++ dvs) (us ++ ds) := r.append hd
  have hl : (us ++ ds).length = ps.length := by rw [← r2.length]; exact F.len _ _ _ _ h
  refine wpAny_call (codeAny_mono (F.run X.A X.stack s H ⟨us, []⟩ (us ++ ds) (vs ++ dvs) Q E hr I.env0 (hb s us I.kIn hl) r2 h) fun r s' hq => ?_)
  cases r with
  | error e => exact hx pins σ H s e s' I hq
  | ok fl =>
    cases fl with
    | ret u => exact I.after hq
    | next => exact False.elim hq
    | brk => exact False.elim hq
    | cont => exact False.elim hq

theorem pe_call (F : FnOk X.prog X.w X.K X.mg X.base CX k f fd ps sp) (hr : Room k X.A) (hg : Gl X x) (hm : X.mg x = some (.ref f)) (hk : PySem.W.keepIn X.K (.ref f) = true) (hb : Binds X.K fd ps ds) (hd : Vals dvs ds) (hx : Passes CX X E)
    (ha : PA X (e :: es) t) (hdb : (x == ("__debug__" : Str)) = false := by decide) (he : starEach (e :: es) X.env = (false, eval e X.env) :: starEach es X.env := by rfl) (hpl : (backTo pos (starEach es X.env)).any (·.1) = false := by rfl) :
    PE X (.Call (.Name x p) (e :: es) [] pos) (tCall sp dvs E t) := by
  intro pins s σ H Q I h
  refine wpAny_Call_Name_kw (ld_glob I hg hm ?_ hdb)
  refine PySem.W.callWith_K (h₀ := X.base) I.ok.mod.kin hk (thn (ha pos pins s σ H _ I h) fun us s1 ⟨vs, H1, I1, r, q⟩ => ⟨I1.kIn, ?_⟩) he hpl
  exact run_fn F hr hb hd hx I1 r q
theorem pe_meth {pl : Sem Bool} (he : PE X o ta) (c : Cls X.K C) (hm : Meth X.K C m f) (F : FnOk X.prog X.w X.K X.mg X.base CX k f fd ps sp) (hr : Room k X.A) (hb : Binds X.K fd ps ds) (hd : Vals dvs ds) (hx : Passes CX X E) (ha : PA X (e :: es) t)
    (hst : starEach (e :: es) X.env = (false, eval e X.env) :: starEach es X.env := by rfl) (hpl : (backTo pos (starEach es X.env)).any (·.1) = false := by rfl)
    (ht : eval (.Call (.Attribute o m apos) (e :: es) [] pos) X.env = (do
      let ov ← eval o X.env
      standAt apos.atName
      let (f, first) ← holding [ov] (getMethod ov m pl)
      callWith pos f first (backTo pos (starEach (e :: es) X.env)) (backToKw pos (keywordEach [] X.env))) := by rfl) :
    PE X (.Call (.Attribute o m apos) (e :: es) [] pos) (tMeth C m sp dvs E ta t) := by
  intro pins s σ H Q I h
  refine PySem.W.methodCall_KW (pl := pl) (thn (he pins s σ H _ I h) fun u s1 ⟨x, H1, I1, rx, a, dx, fs, ex, ea, l, q⟩ => ?_) ht
  subst ex
  obtain rfl : u = Value.ref a := rx
  refine getmeth_ok I1 ea c hm l ?_
  refine PySem.W.callWith_K (first := [.ref a]) (h₀ := X.base) I.ok.mod.kin hm.kp (thn (ha pos pins s1 σ H1 _ I1 q) fun us s2 ⟨vs, H2, I2, r, q2⟩ => ⟨I2.kIn, ?_⟩) hst hpl
  exact run_fn (us := .ref a :: us) (vs := .ref a :: vs) F hr hb hd hx I2 (.cons rfl r) q2
structure Mk (K : PySem.W.Frag) (C f : Addr) : Prop where
  makes : PySem.W.makesIn K C = true
  init : PySem.W.findIn K (.ref C) "__init__" = some (some (.ref f))
  fn : PySem.W.isFn K (.ref f) = true
  kp : PySem.W.keepIn K (.ref C) = true

theorem run_make {pins : List (Addr × Obj)} {σ : St} {H : Hp} {s : Shared} {Q : VK} {us : List Value} {vs : List V} (M : Mk X.K C f) (F : FnOk X.prog X.w X.K X.mg X.base CX k f fd ps sp) (hr : Room (k + 1) X.A) (hb : Binds X.K fd ps ds) (hd : Vals dvs ds)
    (hx : Passes CX X E) (I : Inv X pins σ H s) (r : Vals vs us)
    (h : ∀ x dx, H x = none → H dx = none → dx ≠ x → sp (.ref x :: (vs ++ dvs)) (upd (upd H dx (.own x)) x (.ins C dx [])) (fun v H2 => v = .non ∧ Q (.ref x) H2) E) :
    wpAny (model X.prog X.w) X.A (call (.ref C) us) (EP X pins σ Q) X.xe s := by
  have hq := h (s.heap.objs.size + 1) s.heap.objs.size (I.hok.fresh (Nat.le_succ _)) (I.hok.fresh (Nat.le_refl _)) (Nat.ne_of_lt (Nat.lt_succ_self _))
  have I2 := Inv.made (C := C) I
  have r2 : Vals (V.ref (s.heap.objs.size + 1) :: (vs ++ dvs)) (Value.ref (s.heap.objs.size + 1) :: (us ++ ds)) := .cons rfl (r.append hd)
  have hl : (Value.ref (s.heap.objs.size + 1) :: us ++ ds).length = ps.length := by
    have e := r2.length
    rw [F.len _ _ _ _ hq] at e
    exact e.symm
  refine wpAny_call (make_map (f := f) I.kIn M.makes M.init (beq_iff_eq.mp M.fn) (codeAny_mono (F.run _ X.stack _ _ ⟨Value.ref (s.heap.objs.size + 1) :: us, []⟩ (Value.ref (s.heap.objs.size + 1) :: (us ++ ds)) _ _ E (hr.make C us [])
    (I2.env0.make C us []) (hb _ (Value.ref (s.heap.objs.size + 1) :: us) I2.kIn hl) r2 hq) fun r s' hq' => ?_))
  cases r with
  | error e => exact hx pins σ _ _ e s' I2 hq'
  | ok fl =>
    cases fl with
    | ret u =>
      obtain ⟨v, H', I3, rv, ev, q3⟩ := I2.after hq'
      subst ev
      exact ⟨rv, ⟨V.ref (s.heap.objs.size + 1), H', I3, rfl, q3⟩⟩
    | next => exact False.elim hq'
    | brk => exact False.elim hq'
    | cont => exact False.elim hq'
theorem pe_make (M : Mk X.K C f) (F : FnOk X.prog X.w X.K X.mg X.base CX k f fd ps sp) (hr : Room (k + 1) X.A) (hg : Gl X x) (hm : X.mg x = some (.ref C)) (hb : Binds X.K fd ps ds) (hd : Vals dvs ds) (hx : Passes CX X E)
    (ha : PA X (e :: es) t) (hdb : (x == ("__debug__" : Str)) = false := by decide) (he : starEach (e :: es) X.env = (false, eval e X.env) :: starEach es X.env := by rfl) (hpl : (backTo pos (starEach es X.env)).any (·.1) = false := by rfl) :
    PE X (.Call (.Name x p) (e :: es) [] pos) (tMake C sp dvs E t) := by
  intro pins s σ H Q I h
  refine wpAny_Call_Name_kw (ld_glob I hg hm ?_ hdb)
  refine PySem.W.callWith_K (h₀ := X.base) I.ok.mod.kin M.kp (thn (ha pos pins s σ H _ I h) fun us s1 ⟨vs, H1, I1, r, q⟩ => ⟨I1.kIn, ?_⟩) he hpl
  exact run_make M F hr hb hd hx I1 r q
theorem pe_make0 (M : Mk X.K C f) (F : FnOk X.prog X.w X.K X.mg X.base CX k f fd ps sp) (hr : Room (k + 1) X.A) (hg : Gl X x) (hm : X.mg x = some (.ref C)) (hb : Binds X.K fd ps ds) (hd : Vals dvs ds) (hx : Passes CX X E)
    (hdb : (x == ("__debug__" : Str)) = false := by decide) : PE X (.Call (.Name x p) [] [] pos) (tMake C sp dvs E tNil) := by
  intro pins s σ H Q I h
  refine wpAny_Call_Name_kw (ld_glob I hg hm ?_ hdb)
  exact PySem.W.callWith_K0 I.kIn M.kp (run_make (us := []) M F hr hb hd hx I .nil h)
end

section
variable {X : Cx} {CX : CXT} {k : Nat} {f C : Addr} {fd : FuncData} {ps ks : List Str} {sp : Sp} {E : XK} {x m : Str} {p pos apos kpos : Pos} {e o : Expr} {es : List Expr} {kws : List Keyword} {te ta : TE} {t tk : TA} {nm : Option Str}
variable {g : List Value → List Value → List Value} {gV : List V → List V → List V}
end

structure FnScope (N P : List Str) (sc : Scope) : Prop where
  kind : sc.kind = .function
  co : sc.isCoroutine = false
  gen : sc.isGenerator = false
  nd : N.Nodup
  pre : N.take P.length = P
  par : ∀ x ∈ P, sc.names.lookup x = some .local ∨ sc.names.lookup x = some .cell
  nofree : ∀ y ∈ sc.names, y.2 ≠ .free

theorem bindL_out {kindOf : Str → Option NameKind} {x : Str} : ∀ {binds : List (Str × Value)} {m : Str → Option Value}, (∀ v, (x, v) ∉ binds) → bindL kindOf binds m x = m x
  | [], _, _ => rfl
  | (n, v) :: r, m, h => by
    unfold bindL
    rw [bindL_out fun w hw => h w (List.mem_cons_of_mem _ hw)]
    split
    · have : x ≠ n := by rintro rfl; exact h v List.mem_cons_self
      simp [this]
    · rfl
theorem bindC_out {kindOf : Str → Option NameKind} {x : Str} : ∀ {binds : List (Str × Value)} {m : Str → Option Value}, (∀ v, (x, v) ∉ binds) → bindC kindOf binds m x = m x
  | [], _, _ => rfl
  | (n, v) :: r, m, h => by
    unfold bindC
    rw [bindC_out fun w hw => h w (List.mem_cons_of_mem _ hw)]
    split
    · rfl
    · have : x ≠ n := by rintro rfl; exact h v List.mem_cons_self
      simp [this]
theorem bindL_get {kindOf : Str → Option NameKind} {x : Str} {v : Value} : ∀ {P : List Str} {vs : List Value} {i : Nat} {m : Str → Option Value}, P.Nodup → P[i]? = some x → vs[i]? = some v → kindOf x = some .local →
    bindL kindOf (P.zip vs) m x = some v
  | [], _, _, _, _, h, _, _ => by simp at h
  | _ :: _, [], _, _, _, _, h, _ => by simp at h
  | p :: P, w :: vs, 0, m, nd, h1, h2, hk => by
    simp at h1 h2; subst h1; subst h2
    show bindL kindOf ((p, w) :: P.zip vs) m p = _
    unfold bindL
    rw [bindL_out fun v hv => (List.nodup_cons.mp nd).1 (List.of_mem_zip hv).1, if_pos hk]
    simp
  | p :: P, w :: vs, i + 1, m, nd, h1, h2, hk => by
    show bindL kindOf ((p, w) :: P.zip vs) m x = _
    unfold bindL
    exact bindL_get (i := i) (List.nodup_cons.mp nd).2 (by simpa using h1) (by simpa using h2) hk
theorem bindC_get {kindOf : Str → Option NameKind} {x : Str} {v : Value} : ∀ {P : List Str} {vs : List Value} {i : Nat} {m : Str → Option Value}, P.Nodup → P[i]? = some x → vs[i]? = some v → kindOf x ≠ some .local →
    bindC kindOf (P.zip vs) m x = some v
  | [], _, _, _, _, h, _, _ => by simp at h
  | _ :: _, [], _, _, _, _, h, _ => by simp at h
  | p :: P, w :: vs, 0, m, nd, h1, h2, hk => by
    simp at h1 h2; subst h1; subst h2
    show bindC kindOf ((p, w) :: P.zip vs) m p = _
    unfold bindC
    rw [bindC_out fun v hv => (List.nodup_cons.mp nd).1 (List.of_mem_zip hv).1, if_neg hk]
    simp
  | p :: P, w :: vs, i + 1, m, nd, h1, h2, hk => by
    show bindC kindOf ((p, w) :: P.zip vs) m x = _
    unfold bindC
    exact bindC_get (i := i) (List.nodup_cons.mp nd).2 (by simpa using h1) (by simpa using h2) hk

def start (N : List Str) (vs : List V) : St := vs.map some ++ List.replicate (N.length - vs.length) none

def cxOf (CX : CXT) (P : Program) (w : World) (K : PySem.W.Frag) (mg : Str → Option Value) (base : Heap) (N : List Str) (qual : Str) (scope : Scope) (f : Addr) (cd : Value) (A : Around) (outer : List Env) (s : Shared) (H : Hp) (E : XK) : Cx where
  prog := P
  w := w
  K := K
  mg := mg
  base := base
  A := A.deeper (envOfC qual scope s.heap.objs.size f cd)
  N := N
  s₀ := s
  H₀ := H
  env := envOfC qual scope s.heap.objs.size f cd
  outer := outer
  stack := envOfC qual scope s.heap.objs.size f cd :: outer
  ex := []
  calm := true
  fn := fun _ => true
  pn := []
  xe := fun e s' => wpAny (model P w) (A.deeper (envOfC qual scope s.heap.objs.size f cd)) (leaving (envOfC qual scope s.heap.objs.size f cd) e) (fun _ s'' => CX outer H s E e s'') (fun e' s'' => CX outer H s E e' s'') s'

theorem cell_has {sc : Scope} {n : Nat} {x : Str} (h : sc.names.lookup x = some .cell) : ∃ c, (cellsFrom n sc.names []).lookup x = some c := by
  have q := PySem.W.cellsFrom_some sc.names n [] (.inl h)
  exact Option.isSome_iff_exists.mp q

theorem inv_start {CX : CXT} {P : Program} {w : World} {K : PySem.W.Frag} {mg : Str → Option Value} {base : Heap} {N ps : List Str} {qual : Str} {scope : Scope} {f : Addr} {cd : Value} {A : Around} {outer : List Env} {s s1 : Shared} {H : Hp} {E : XK} {us : List Value} {vs : List V}
    (S : FnScope N ps scope) (hd : A.handled = none) (e0 : Env0 P w K mg base A outer s H) (hl : vs.length = ps.length) (r : Vals vs us)
    (x : InCallC s s.heap.objs.size (bindL (envOfC qual scope s.heap.objs.size f cd).kindOf (ps.zip us) fun _ => none) (cellsFrom (s.heap.objs.size + 1) scope.names []) (bindC (envOfC qual scope s.heap.objs.size f cd).kindOf (ps.zip us) fun _ => none) s1) :
    Inv (cxOf CX P w K mg base N qual scope f cd A outer s H E) [] (start N vs) H s1 := by
  have hpl : ps.length ≤ N.length := by have := congrArg List.length S.pre; rw [List.length_take] at this; omega
  obtain ⟨h1, tk, rfl, hk⟩ := x.done
  have noA : ∀ b : Addr, b ∉ (cxOf CX P w K mg base N qual scope f cd A outer s H E).ex := fun b z => absurd (show b ∈ ([] : List Addr) from z) (by simp)
  refine ⟨⟨e0.mod, S.kind, rfl, rfl, Nat.le_refl _, fun y z c h1 h2 => ?_, fun y hy => ?_, fun y c _ h => ?_, fun _ => hd, Around.frames_deeper e0.frames, .inr ⟨rfl, rfl⟩, fun b z => absurd z (noA b), e0.bs, e0.bsz, fun b _ _ => noA b, fun b z => absurd z (noA b), e0.funs, e0.frf⟩,
    rfl, e0.bare, Un.kept hk, ⟨_, x.toInCall.ns, fun i y v h1 h2 h3 => ?_⟩, fun y c h => ⟨_, x.cell y c h⟩, e0.hok.fresh (Nat.le_refl _), fun y c h => ?_, fun p hp => absurd (show p ∈ ([] : List (Addr × Obj)) from hp) (by simp), e0.hok.kept hk, ?_⟩
  · exact name_of_addr x.apart (PySem.mem_of_lookup h1) (PySem.mem_of_lookup h2)
  · have hy : scope.names.lookup y = some .cell ∨ scope.names.lookup y = some .free := hy
    rcases hy with hy | hy
    · exact cell_has hy
    · exact absurd rfl (S.nofree _ (PySem.mem_of_lookup hy))
  · exact Nat.le_of_lt (x.above y c (PySem.mem_of_lookup h))
  · have hi : i < vs.length := by
      unfold start at h2
      by_cases hi : i < vs.length
      · exact hi
      · rw [List.getElem?_append_right (by simpa using hi)] at h2
        rw [List.getElem?_replicate] at h2
        split at h2 <;> cases h2
    have ha : vs[i]? = some v := by
      unfold start at h2
      rw [List.getElem?_append_left (by simpa using hi), List.getElem?_map] at h2
      cases e : vs[i]? with
      | none => rw [e] at h2; cases h2
      | some a => rw [e] at h2; cases h2; rfl
    obtain ⟨u, hu, rv⟩ := r.get ha
    have hp : ps[i]? = some y := by
      rw [← S.pre, List.getElem?_take_of_lt (by omega)]; exact h1
    have ndP : ps.Nodup := by rw [← S.pre]; exact S.nd.sublist (List.take_sublist _ _)
    refine ⟨u, rv, ?_⟩
    rcases S.par y (List.mem_of_getElem? hp) with k | k
    · exact .inl ⟨k, bindL_get ndP hp hu k⟩
    · obtain ⟨c, e⟩ := cell_has (n := s.heap.objs.size + 1) k
      refine .inr ⟨.inl k, c, e, ?_⟩
      have q := x.cell y c e
      rw [bindC_get ndP hp hu (by show scope.names.lookup y ≠ _; rw [k]; decide)] at q
      exact q
  · exact e0.hok.fresh (Nat.le_of_lt (x.above y c (PySem.mem_of_lookup h)))
  · unfold start
    show _ = N.length
    rw [List.length_append, List.length_map, List.length_replicate]
    omega

theorem fn_of {CX : CXT} {P : Program} {w : World} {K : PySem.W.Frag} {mg : Str → Option Value} {base : Heap} {k : Nat} {f : Addr} {name qual : Str} {params : Arguments} {body : List Stmt} {scope : Scope} {dV kV doc pm cdv ct oc : Value} {an od : Option Addr}
    {osl : Array (Option Value)} {N ps : List Str} {sp : Sp} (lk : K.lookup f = some ⟨oc, od, .func (PySem.W.fnOf name qual params body scope dV kV doc pm an cdv ct), osl⟩) (hcd : PySem.W.codeIn K cdv qual = true) (S : FnScope N ps scope)
    (len : ∀ vs H Q E, sp vs H Q E → vs.length = ps.length)
    (hbody : ∀ (A : Around) (outer : List Env) (s : Shared) (H : Hp) (vs : List V) (Q : VK) (E : XK), Room k (A.deeper (envOfC qual scope s.heap.objs.size f cdv)) → sp vs H Q E →
      ∃ t, PSs (cxOf CX P w K mg base N qual scope f cdv A outer s H E) body t ∧ t { nx := fun _ H' => Q .non H', rt := Q } (start N vs) H) :
    FnOk P w K mg base CX (k + 1) f (PySem.W.fnOf name qual params body scope dV kV doc pm an cdv ct) ps sp := by
  refine ⟨len, fun A outer s H args us vs Q E hr e0 hb r hsp => ?_⟩
  have hl := len _ _ _ _ hsp
  have KX : K.In s.heap := e0.mod.kin.keeps fun b o e => (e0.bs b o e).1
  have lim : s.heap.NoLimit := e0.mod.nolimit.keeps fun b o e => (e0.bs b o e).1
  have hkind : ∀ y ∈ ps.zip us, scope.names.lookup y.1 = some .local ∨ (scope.names.lookup y.1 = some .cell ∧ ((cellsFrom (s.heap.objs.size + 1) scope.names []).lookup y.1).isSome = true) := fun ⟨n, v⟩ hy => by
    rcases S.par n (List.of_mem_zip hy).1 with q | q
    · exact .inl q
    · exact .inr ⟨q, PySem.W.cellsFrom_some _ _ _ (.inl q)⟩
  refine codeAny_call_function hr.depth (KX _ _ lk) rfl S.co S.gen rfl (PySem.W.codeRec_of KX hcd) (hb _ _ _ _ ?_)
  refine wpAny_newFunctionEnv_cells S.kind hkind fun env he s1 x => ?_
  subst he
  refine ⟨lim.keeps x.toInCall.keep, codeAny_func ?_⟩
  obtain ⟨t, ht, hq⟩ := hbody A outer s H vs Q E (hr.deeper _) hsp
  have I : Inv (cxOf CX P w K mg base N qual scope f cdv A outer s H E) [] (start N vs) H s1 := inv_start S hr.hd e0 hl r x
  refine wpAny_mono (ht [] s1 (start N vs) H _ I hq) (fun fl s' hs => ?_) fun e s' hs => hs
  have fin : ∀ {σ' : St} {H' : Hp} {v : V} {u : Value}, Inv (cxOf CX P w K mg base N qual scope f cdv A outer s H E) [] σ' H' s' → RelV v u → Q v H' → CE outer P w H s Q u s' :=
    fun {σ' H' v u} J rv q => ⟨v, H', J.os, J.bare, J.base, J.hok, rv, q⟩
  cases fl with
  | ret u =>
    obtain ⟨v, σ', H', J, rv, q⟩ := hs
    exact fin J rv q
  | next =>
    obtain ⟨σ', H', J, q⟩ := hs
    exact fin (v := V.non) (u := Value.none) J rfl q
  | brk =>
    obtain ⟨_, _, _, q⟩ := hs
    exact False.elim q
  | cont =>
    obtain ⟨_, _, _, q⟩ := hs
    exact False.elim q
end L2

namespace L2
open PySem PySem.Spec PyProof.Rows
section
variable {X : Cx} {x : Str} {p pos : Pos} {e : Expr} {es : List Expr} {t : TA} {id T : String} {r : List V → Hp → VK → Prop}

def tCB (r : List V → Hp → VK → Prop) (t : TA) : TE := fun σ H Q => t σ H fun vs H1 => r vs H1 Q
theorem pe_callB (hc : CallR X (.builtin id) r) (hg : Gl X x) (hm : X.mg x = none) (hv : bootBuiltins x = some (.builtin id)) (ha : PA X (e :: es) t) (hn : x ≠ "__name__" := by decide) (hdb : (x == ("__debug__" : Str)) = false := by decide)
    (he : starEach (e :: es) X.env = (false, eval e X.env) :: starEach es X.env := by rfl) (hpl : (backTo pos (starEach es X.env)).any (·.1) = false := by rfl) : PE X (.Call (.Name x p) (e :: es) [] pos) (tCB r t) := by
  intro pins s σ H Q I h
  refine wpAny_Call_Name_kw (ld_blt I hg hm hv ?_ hn hdb)
  exact PyProof.Rows.callWith_builtin1 (thn (ha pos pins s σ H _ I h) fun us s1 ⟨vs, H1, I1, r1, q1⟩ => hc pins s1 σ H1 vs us Q I1 r1 q1) he hpl
theorem pe_callTy (hc : CallR X (.type T) r) (hg : Gl X x) (hm : X.mg x = none) (hv : bootBuiltins x = some (.type T)) (ha : PA X (e :: es) t) (hn : x ≠ "__name__" := by decide) (hdb : (x == ("__debug__" : Str)) = false := by decide)
    (he : starEach (e :: es) X.env = (false, eval e X.env) :: starEach es X.env := by rfl) (hpl : (backTo pos (starEach es X.env)).any (·.1) = false := by rfl) : PE X (.Call (.Name x p) (e :: es) [] pos) (tCB r t) := by
  intro pins s σ H Q I h
  refine wpAny_Call_Name_kw (ld_blt I hg hm hv ?_ hn hdb)
  exact PyProof.Rows.callWith_type1 (thn (ha pos pins s σ H _ I h) fun us s1 ⟨vs, H1, I1, r1, q1⟩ => hc pins s1 σ H1 vs us Q I1 r1 q1) he hpl
end
end L2

namespace HT
open PySem PyProof.Rows

section
open PySem.SeqAt
open PySem.AutoSeq1 (wpAny_loadPart')
open PySem.MeetsSeq PySem.MeetsSeq2 PySem.MeetsSeq3

end

section
variable {prog : Program} {w : World} {A : Around} {E : Value → Shared → Prop} {s : Shared}

theorem cat_tup {t b : Addr} {vs ws : List Value} {Q : Value → Shared → Prop} (ht : IsTup s.heap t vs.toArray) (hb : IsTup s.heap b ws.toArray) (hv : vs ≠ [])
    (h1 : ws = [] → Q (.ref t) s) (h2 : ws ≠ [] → Q (.ref s.heap.objs.size) { s with heap := s.heap.push { cls := .type "tuple", data := .seq (vs ++ ws).toArray } })
    (hsz : vs.length + ws.length ≤ sizeLine) : wpAny (model prog w) A (binaryOp .Add (.ref t) (.ref b)) Q E s := by
  obtain ⟨⟨cls, dd, data, sl⟩, ho, hc, n, hd⟩ := id ht
  obtain ⟨⟨cls2, dd2, data2, sl2⟩, ho2, hc2, n2, hd2⟩ := id hb
  simp only at hc hd hc2 hd2
  subst hc hd hc2 hd2
  have e : vs.toArray ++ ws.toArray = (vs ++ ws).toArray := by simp
  by_cases hw : ws = []
  · exact concat_meets ⟨_, ho, rfl⟩ ⟨_, ho2, rfl⟩ noFill_tuple_add seq_tuple_add PySem.F.slot_tuple_add PySem.F.entry_tuple_add (PySem.F.args_tuple_add_2 _ _)
      (tuple_addW1 t b vs.toArray ws.toArray n n2 dd dd2 sl sl2 (by simpa using hv) (by simp [hw])) ⟨ho, ho2, h1 hw⟩
  · refine concat_meets ⟨_, ho, rfl⟩ ⟨_, ho2, rfl⟩ noFill_tuple_add seq_tuple_add PySem.F.slot_tuple_add PySem.F.entry_tuple_add (PySem.F.args_tuple_add_2 _ _)
      (tuple_addW2 t b vs.toArray ws.toArray n n2 dd dd2 sl sl2 (by simpa using hv) (by simpa using hw) (by rw [List.size_toArray, List.size_toArray]; exact hsz)) ⟨ho, ho2, ?_⟩
    rw [e]
    exact h2 hw

def sIx (n d : Nat) : Option Int → Nat
  | none => d
  | some v => if v < 0 then (v + (n : Int)).toNat else min v.toNat n
theorem sIx_none (n d : Nat) : sIx n d none = d := rfl
theorem sIx_nat (n d k : Nat) : sIx n d (some (k : Int)) = min k n := by
  show (if (k : Int) < 0 then ((k : Int) + (n : Int)).toNat else min (k : Int).toNat n) = min k n
  rw [if_neg (by omega), Int.toNat_natCast]
theorem sIx_le (n d : Nat) (hd : d ≤ n) (o : Option Int) : sIx n d o ≤ n := by
  cases o with
  | none => exact hd
  | some v =>
    show (if v < 0 then (v + (n : Int)).toNat else min v.toNat n) ≤ n
    by_cases hv : v < 0
    · rw [if_pos hv]; omega
    · rw [if_neg hv]; exact Nat.min_le_right _ _
theorem clip_eq (v : Int) (n d : Nat) : (if v < 0 then max (v + (n : Int)) 0 else min v (n : Int)) = ((sIx n d (some v) : Nat) : Int) := by
  show (if v < 0 then max (v + (n : Int)) 0 else min v (n : Int)) = (((if v < 0 then (v + (n : Int)).toNat else min v.toNat n) : Nat) : Int)
  by_cases hv : v < 0
  · simp only [if_pos hv]; omega
  · simp only [if_neg hv]; omega
theorem adjust_gen (lo hi : Option Int) (n : Nat) : Builtin.Slice.sliceAdjust lo hi 1 (n : Int) = (((sIx n 0 lo : Nat) : Int), ((sIx n n hi : Nat) : Int)) := by
  have h1 : ¬ ((1 : Int) < 0) := by omega
  unfold Builtin.Slice.sliceAdjust
  simp only [h1, if_false]
  refine Prod.ext ?_ ?_
  · cases lo with
    | none => rfl
    | some v => exact clip_eq v n 0
  · cases hi with
    | none => rfl
    | some v => exact clip_eq v n n
theorem places_gen (i j : Nat) : Builtin.Slice.slicePlaces (i : Int) (j : Int) 1 = j - i := by
  unfold Builtin.Slice.slicePlaces
  have h1 : (1 : Int) > 0 := by omega
  simp only [h1, if_true, Int.ediv_one]
  split <;> omega
theorem slicePart_ {v : Value} {o : Option Int} {Q : Option Int → Shared → Prop} (p : IsPart v o) (h : Q o s) : wpAny (model prog w) A (Builtin.Slice.slicePartIndex v) Q E s := by
  cases p with
  | none => exact slicePart_none h
  | int i t => exact slicePart_int h
theorem sliceApplied_gen {sl : Addr} {vl vu : Value} {lo hi : Option Int} {n : Nat} {Q : Int × Int × Nat → Shared → Prop} (hs : s.heap.IsSliceOf sl vl vu .none) (pl : IsPart vl lo) (pu : IsPart vu hi)
    (h : Q (((sIx n 0 lo : Nat) : Int), 1, sIx n n hi - sIx n 0 lo) s) : wpAny (model prog w) A (Builtin.Slice.sliceApplied (.ref sl) (pure (n : Int))) Q E s := by
  obtain ⟨os, hos, hcs, hds⟩ := id hs
  unfold Builtin.Slice.sliceApplied Builtin.Slice.sliceFields
  refine wpAny_bind (wpAny_bind (wpAny_field hos hds (x := vl) rfl (wpAny_bind (wpAny_field hos hds (x := vu) rfl (wpAny_bind (wpAny_field hos hds (x := .none) rfl (wpAny_pure ?_)))))))
  refine wpAny_bind (slicePart_none ?_)
  show wpAny _ _ (if ((1 : Int) == 0) = true then _ else _) _ _ s
  rw [if_neg (by decide)]
  refine wpAny_bind (slicePart_ pl (wpAny_bind (slicePart_ pu (wpAny_bind (wpAny_pure ?_)))))
  show wpAny _ _ (match Builtin.Slice.sliceAdjust lo hi 1 (n : Int) with | (lo, hi) => pure (lo, (1 : Int), Builtin.Slice.slicePlaces lo hi 1)) _ _ s
  rw [adjust_gen lo hi n]
  show wpAny _ _ (pure (((sIx n 0 lo : Nat) : Int), (1 : Int), Builtin.Slice.slicePlaces ((sIx n 0 lo : Nat) : Int) ((sIx n n hi : Nat) : Int) 1)) _ _ s
  rw [places_gen]
  exact wpAny_pure h
theorem pick_gen (xs : Array Value) (i k : Nat) : ((List.range k).filterMap fun (m : Nat) => xs[((i : Int) + (m : Int) * 1).toNat]?).toArray = ((xs.toList.drop i).take k).toArray := by
  have e : (fun (m : Nat) => xs[((i : Int) + (m : Int) * 1).toNat]?) = fun m => xs[i + m]? := by
    funext m
    have : ((i : Int) + (m : Int) * 1).toNat = i + m := by omega
    rw [this]
  rw [e]
  have := pick_run xs i k
  rw [List.filterMap_map] at this
  have e2 : ((fun x => xs[x]?) ∘ fun x => i + x) = fun m => xs[i + m]? := rfl
  rw [e2] at this
  rw [this]

theorem getItem_tuple_cut {t sl : Addr} {items : Array Value} {vl vu : Value} {lo hi : Option Int} {Q : Value → Shared → Prop} (ht : IsTup s.heap t items) (hs : s.heap.IsSliceOf sl vl vu .none) (pl : IsPart vl lo) (pu : IsPart vu hi)
    (hw : ¬ (sIx items.size 0 lo = 0 ∧ sIx items.size items.size hi = items.size))
    (h : Q (.ref s.heap.objs.size) { s with heap := s.heap.push { cls := .type "tuple", data := .seq ((items.toList.drop (sIx items.size 0 lo)).take (sIx items.size items.size hi - sIx items.size 0 lo)).toArray } })
    (hsz : items.size ≤ sizeLine) : wpAny (model prog w) A (getItem (.ref t) (.ref sl)) Q E s := by
  have htake : sizeOk (.seq ((items.toList.drop (sIx items.size 0 lo)).take (sIx items.size items.size hi - sIx items.size 0 lo)).toArray) := by
    show ((items.toList.drop (sIx items.size 0 lo)).take (sIx items.size items.size hi - sIx items.size 0 lo)).toArray.size ≤ sizeLine
    rw [List.size_toArray, List.length_take, List.length_drop, Array.length_toList]
    omega
  have hj : sIx items.size items.size hi ≤ items.size := sIx_le _ _ (Nat.le_refl _) hi
  obtain ⟨os, hos, hcs, hds⟩ := id hs
  have hTs : s.TypeIs (.ref sl) "slice" := ⟨os, hos, hcs⟩
  unfold getItem
  try with_reducible refine wpAny_holding ?_
  first | refine wpAny_bind (wpAny_pure ?_) | skip
  refine wpAny_bind (wpAny_sequenceKey ht.typeIs (by decide) ?_)
  refine wpAny_bind (wpAny_callSpecial?_slot (name := Str.ofString "__getitem__") ht.typeIs PyProof.Rows.slot_tuple_getitem
    (wpAny_call_entry PyProof.Rows.slot_tuple_getitem ht.typeIs entry_tuple_getitem ?_ (args_tuple_getitem _ _)))
  show wpAny _ _ (Builtin.Tuple.tupleItemsOf (.ref t) >>= _) _ _ s
  refine wpAny_bind (tupleItemsOf_ ht ?_)
  refine wpAny_bind (wpAny_typeOf hTs ?_)
  rw [if_pos (by decide)]
  refine wpAny_bind (sliceApplied_gen hs pl pu ?_)
  have hno : ¬ ((((sIx items.size 0 lo : Nat) : Int) == 0 && (1 : Int) == 1 && (sIx items.size items.size hi - sIx items.size 0 lo) == items.size) = true) := by
    intro q
    rw [Bool.and_eq_true, Bool.and_eq_true] at q
    have q1 : ((sIx items.size 0 lo : Nat) : Int) = 0 := eq_of_beq q.1.1
    have q2 : sIx items.size items.size hi - sIx items.size 0 lo = items.size := eq_of_beq q.2
    exact hw ⟨by omega, by omega⟩
  show wpAny _ _ (if (((sIx items.size 0 lo : Nat) : Int) == 0 && (1 : Int) == 1 && (sIx items.size items.size hi - sIx items.size 0 lo) == items.size) = true then _ else _) _ _ s
  rw [if_neg hno, pick_gen]
  first
    | exact wpAny_bind (m := Builtin.Tuple.tupleExact _) (wpAny_newObj_type (wpAny_pure ⟨_, rfl, wpAny_pure h⟩) htake)
    | exact wpAny_bind (m := Builtin.Tuple.tupleExact _) (wpAny_newObj_type (wpAny_bind (wpAny_pure (wpAny_pure ⟨_, rfl, wpAny_pure h⟩))) htake)
    | exact wpAny_bind (wpAny_bind (m := Builtin.Tuple.tupleExact _) (wpAny_newObj_type (wpAny_pure (wpAny_pure ⟨_, rfl, wpAny_pure h⟩)) htake))
    | exact wpAny_bind (wpAny_bind (m := Builtin.Tuple.tupleExact _) (wpAny_newObj_type (wpAny_pure ⟨_, rfl, wpAny_pure h⟩) htake))
end
end HT

namespace L2
open PySem PySem.Spec PyProof.Rows

abbrev TO := St → Hp → (Option Int → Hp → Prop) → Prop
def PO (X : Cx) (e : Option Expr) (t : TO) : Prop :=
  ∀ (pins : List (Addr × Obj)) (s : Shared) (σ : St) (H : Hp) (Q : Option Int → Hp → Prop), Inv X pins σ H s → t σ H Q →
    wpAny (model X.prog X.w) X.A (evalPart e X.env) (fun u s' => ∃ o H', Inv X pins σ H' s' ∧ IsPart u o ∧ Q o H') X.xe s
def tNoPart : TO := fun _ H Q => Q none H
def tPart (t : TE) : TO := fun σ H Q => t σ H fun x H1 => ∃ i, x = .int i ∧ Q (some i) H1

section
variable {X : Cx} {e : Expr} {te : TE} {lo hi : Option Expr} {tl th : TO} {pos p2 : Pos}

theorem po_none : PO X none tNoPart := by
  intro pins s σ H Q I h
  rw [evalPart_none]
  exact wpAny_pure ⟨none, H, I, .none, h⟩
theorem po_some (h : PE X e te) : PO X (some e) (tPart te) := by
  intro pins s σ H Q I hw
  rw [evalPart_some]
  refine thn (h pins s σ H _ I hw) fun u s1 ⟨x, H1, I1, r1, q1⟩ => ?_
  obtain ⟨i, rfl, q⟩ := q1
  obtain ⟨t, rfl⟩ := r1
  exact ⟨some i, H1, I1, .int i t, q⟩

def SlR (X : Cx) (r : V → Option Int → Option Int → Hp → VK → Prop) : Prop :=
  ∀ (pins : List (Addr × Obj)) (s : Shared) (σ : St) (H : Hp) (x : V) (v vl vu : Value) (lo hi : Option Int) (sl : Addr) (Q : VK), Inv X pins σ H s → RelV x v → s.heap.IsSliceOf sl vl vu .none → IsPart vl lo → IsPart vu hi → r x lo hi H Q →
    ∃ T id, typeLookup (.type T) "__getitem__" = pure (some (.builtin id)) ∧ s.TypeIs v T ∧ wpAny (model X.prog X.w) X.A (getItem v (.ref sl)) (EP X pins σ Q) X.xe s
theorem SlR.or {r r' : V → Option Int → Option Int → Hp → VK → Prop} (h : SlR X r) (h' : SlR X r') : SlR X (fun x lo hi H Q => r x lo hi H Q ∨ r' x lo hi H Q) := by
  intro pins s σ H x v vl vu lo hi sl Q I rx hs pl pu q
  rcases q with q | q
  · exact h pins s σ H x v vl vu lo hi sl Q I rx hs pl pu q
  · exact h' pins s σ H x v vl vu lo hi sl Q I rx hs pl pu q
def tSl (r : V → Option Int → Option Int → Hp → VK → Prop) (te : TE) (tl th : TO) : TE := fun σ H Q => te σ H fun x H1 => tl σ H1 fun l H2 => th σ H2 fun u H3 => r x l u H3 Q
theorem pe_slice {r : V → Option Int → Option Int → Hp → VK → Prop} (hr : SlR X r) (he : PE X e te) (hl : PO X lo tl) (hu : PO X hi th) : PE X (.Subscript e (.Slice lo hi none p2) pos) (tSl r te tl th) := by
  intro pins s σ H Q I h
  refine Subscript_ (thn (he pins s σ H _ I h) fun v s1 ⟨x, H1, I1, r1, q1⟩ => ?_)
  refine wpAny_Slice (thn (hl pins s1 σ H1 _ I1 q1) fun vl s2 ⟨l, H2, I2, pl, q2⟩ => thn (hu pins s2 σ H2 _ I2 q2) fun vu s3 ⟨u, H3, I3, pu, q3⟩ => ?_)
  rw [evalPart_none]
  refine wpAny_pure ?_
  have I4 : Inv X pins σ H3 { s3 with heap := s3.heap.push { cls := .type "slice", data := .fields #[vl, vu, .none] } } := I3.kept (t' := s3.toks) fun b ob q => Heap.get?_push_of_some _ q
  obtain ⟨T, id, hT, ht, hg⟩ := hr pins { s3 with heap := s3.heap.push { cls := .type "slice", data := .fields #[vl, vu, .none] } } σ H3 x v vl vu l u s3.heap.objs.size Q I4 r1 (Heap.IsSliceOf.new ..) pl pu q3
  show wpAny (model X.prog X.w) X.A (subscriptTail e (.Slice lo hi none p2) v (.ref s3.heap.objs.size)) (EP X pins σ Q) X.xe { s3 with heap := s3.heap.push { cls := .type "slice", data := .fields #[vl, vu, .none] } }
  exact tail_any (ops := [.ref s3.heap.objs.size, v]) ht hT hg (by with_unfolding_all rfl)

def cutV (xs : List V) (lo hi : Option Int) : List V := (xs.drop (HT.sIx xs.length 0 lo)).take (HT.sIx xs.length xs.length hi - HT.sIx xs.length 0 lo)
theorem cutV_length (xs : List V) (lo hi : Option Int) : (cutV xs lo hi).length ≤ xs.length := by
  unfold cutV
  rw [List.length_take, List.length_drop]
  omega
def rSlT (K : PySem.W.Frag) : V → Option Int → Option Int → Hp → VK → Prop := fun x lo hi H Q => ∃ a xs, x = .ref a ∧ SqT K H a xs ∧
  ¬ (HT.sIx xs.length 0 lo = 0 ∧ HT.sIx xs.length xs.length hi = xs.length) ∧ ∀ p, H p = none → Q (.ref p) (upd H p (.tup (cutV xs lo hi)))
theorem sl_tup : SlR X (rSlT X.K) := by
  intro pins s σ H x v vl vu lo hi sl Q I rx hs pl pu h
  obtain ⟨a, xs, rfl, hx, hw, q⟩ := h
  cases rx
  obtain ⟨its, r, ht, hz⟩ := I.tuple hx
  have hlen : its.toArray.size = xs.length := by rw [List.size_toArray]; exact r.length.symm
  refine ⟨"tuple", _, PyProof.Rows.slot_tuple_getitem.lookup, ht.typeIs, ?_⟩
  refine HT.getItem_tuple_cut ht hs pl pu (by rw [hlen]; exact hw) ?_ (by rw [hlen]; exact hz)
  rw [hlen]
  refine ⟨.ref s.heap.objs.size, _, I.laid (t' := s.toks) (o := .tup (cutV xs lo hi)) (fun b ob q => Heap.get?_push_of_some _ q) (Nat.le_refl _) ?_, rfl, q _ (I.hok.fresh (Nat.le_refl _))⟩
  exact ⟨Nat.le_trans (cutV_length xs lo hi) hz, _, (r.drop (HT.sIx xs.length 0 lo)).take (HT.sIx xs.length xs.length hi - HT.sIx xs.length 0 lo), IsTup.new _ _⟩

def rCatT (K : PySem.W.Frag) : R2 := fun x y H Q => ∃ a b xs ys, x = .ref a ∧ y = .ref b ∧ SqT K H a xs ∧ SqT K H b ys ∧ xs ≠ [] ∧ xs.length + ys.length ≤ sizeLine ∧
  (ys = [] → Q (.ref a) H) ∧ (ys ≠ [] → ∀ p, H p = none → Q (.ref p) (upd H p (.tup (xs ++ ys))))
theorem Vals.nil_iff {xs : List V} {us : List Value} (r : Vals xs us) : us = [] ↔ xs = [] := by
  cases r with
  | nil => simp
  | cons _ _ => simp
theorem op_catT : OpR X (binaryOp .Add) (rCatT X.K) := by
  intro pins s σ H x y v u Q I rx ry h
  obtain ⟨a, b, xs, ys, rfl, rfl, ha, hb, hx, hz, q1, q2⟩ := h
  cases rx
  cases ry
  obtain ⟨its, r1, p1, _⟩ := I.tuple ha
  obtain ⟨its2, r2, p2, _⟩ := I.tuple hb
  refine HT.cat_tup p1 p2 (fun z => hx (r1.nil_iff.mp z)) (fun z => ⟨.ref a, H, I, rfl, q1 (r2.nil_iff.mp z)⟩) (fun z => ?_) (by rw [← r1.length, ← r2.length]; exact hz)
  refine ⟨.ref s.heap.objs.size, _, I.laid (t' := s.toks) (o := .tup (xs ++ ys)) (fun b ob q => Heap.get?_push_of_some _ q) (Nat.le_refl _) ?_, rfl, q2 (fun w => z (r2.nil_iff.mpr w)) _ (I.hok.fresh (Nat.le_refl _))⟩
  exact ⟨by rw [List.length_append]; exact hz, _, r1.append r2, IsTup.new _ _⟩
end
end L2

namespace L2
open PySem PySem.Spec PyProof.Rows

def ixN (n : Nat) (i : Int) : Option Nat := if 0 ≤ i then (if i < n then some i.toNat else none) else if -(n : Int) ≤ i then some (i + n).toNat else none
def atI {α : Type} (xs : List α) (i : Int) : Option α := (ixN xs.length i).bind fun j => xs[j]?
theorem ixN_seq {n : Nat} {i : Int} {j : Nat} (h : ixN n i = some j) : seqIndex? i n = some j ∧ j < n ∧ -(n : Int) ≤ i ∧ i < n := by
  unfold ixN at h
  by_cases h0 : 0 ≤ i
  · rw [if_pos h0] at h
    by_cases h1 : i < n
    · rw [if_pos h1] at h
      have e : i.toNat = j := Option.some.inj h
      exact ⟨by rw [seqIndex_of h0 h1, e], by omega, by omega, h1⟩
    · rw [if_neg h1] at h; cases h
  · rw [if_neg h0] at h
    by_cases h1 : -(n : Int) ≤ i
    · rw [if_pos h1] at h
      have e : (i + n).toNat = j := Option.some.inj h
      exact ⟨by rw [seqIndex_neg (by omega) h1, e], by omega, h1, by omega⟩
    · rw [if_neg h1] at h; cases h
theorem atI_get {α : Type} {xs : List α} {i : Int} {v : α} (h : atI xs i = some v) : ∃ j, seqIndex? i xs.length = some j ∧ xs[j]? = some v ∧ j < xs.length ∧ -(xs.length : Int) ≤ i ∧ i < xs.length := by
  unfold atI at h
  cases e : ixN xs.length i with
  | none => rw [e] at h; cases h
  | some j =>
    rw [e] at h
    obtain ⟨h1, h2, h3, h4⟩ := ixN_seq e
    exact ⟨j, h1, h, h2, h3, h4⟩
def PlainIx (b : Expr) : Prop := ∀ o i, subscripted b false o i = operate [o, i] (getItem o i)
def IxR (X : Cx) (r : R2) : Prop :=
  ∀ (value slice : Expr) (pins : List (Addr × Obj)) (s : Shared) (σ : St) (H : Hp) (x y : V) (v u : Value) (Q : VK), Inv X pins σ H s → RelV x v → RelV y u → r x y H Q →
    subscripted slice false v u = operate [v, u] (getItem v u) → wpAny (model X.prog X.w) X.A (subscriptTail value slice v u) (EP X pins σ Q) X.xe s
def MtR (X : Cx) (id : String) (r : V → List V → Hp → VK → Prop) : Prop :=
  ∀ (pins : List (Addr × Obj)) (s : Shared) (σ : St) (H : Hp) (x : V) (xs : List V) (v : Value) (us : List Value) (Q : VK), Inv X pins σ H s → RelV x v → Vals xs us → r x xs H Q →
    wpAny (model X.prog X.w) X.A (call (.builtin id) (v :: us)) (EP X pins σ Q) X.xe s
section
variable {X : Cx} {a b : Expr} {ta tb : TE} {pos : Pos}
theorem IxR.or {r r' : R2} (h : IxR X r) (h' : IxR X r') : IxR X (fun x y H Q => r x y H Q ∨ r' x y H Q) := by
  intro value slice pins s σ H x y v u Q I rx ry q hs
  rcases q with q | q
  · exact h value slice pins s σ H x y v u Q I rx ry q hs
  · exact h' value slice pins s σ H x y v u Q I rx ry q hs
theorem pe_ix {r : R2} (hr : IxR X r) (ha : PE X a ta) (hb : PE X b tb) (hs : PlainIx b) : PE X (.Subscript a b pos) (tOp r ta tb) := by
  intro pins s σ H Q I h
  exact Subscript_ (binT ha hb I h fun v u s2 x y H2 I2 rx ry q => hr a b pins s2 σ H2 x y v u Q I2 rx ry q (hs _ _))

def rIxL (K : PySem.W.Frag) : R2 := fun x y H Q => ∃ p xs i v, x = .ref p ∧ y = .int i ∧ SqL K H p xs ∧ atI xs i = some v ∧ Q v H
def rIxT (K : PySem.W.Frag) : R2 := fun x y H Q => ∃ p xs i v, x = .ref p ∧ y = .int i ∧ SqT K H p xs ∧ atI xs i = some v ∧ Q v H
theorem ix_list : IxR X (rIxL X.K) := by
  intro value slice pins s σ H x y v u Q I rx ry h hs
  obtain ⟨p, xs, i, z, rfl, rfl, hq, he, q⟩ := h
  cases rx
  obtain ⟨t, rfl⟩ := ry
  obtain ⟨its, r, pl, hz⟩ := I.list hq
  obtain ⟨j, h1, h2, h3, h4, h5⟩ := atI_get he
  obtain ⟨w, ew, rw'⟩ := r.get h2
  have hl := r.length
  have hn := line63
  have fin : EP X pins σ Q w s := ⟨z, H, I, rw', q⟩
  by_cases h0 : 0 ≤ i
  · have hj : i.toNat = j := by
      rw [seqIndex_of h0 h5] at h1
      exact Option.some.inj h1
    exact item_listR pl.isList h0 (by omega) (by rw [hj]; simpa using ew) fin hs
  · have hj : (i + (its.toArray.size : Int)).toNat = j := by
      rw [seqIndex_neg (by omega) h4] at h1
      rw [List.size_toArray, ← hl]
      exact Option.some.inj h1
    exact subscriptTail_builtinR (x := w) pl.isList.typeIs slot_list_getitem.lookup
      (wpAny_getItem_list_neg (Q := fun r s' => r = w ∧ EP X pins σ Q r s') pl.isList (by omega) (by rw [List.size_toArray] <;> omega) (by omega) (by rw [hj]; simpa using ew) ⟨rfl, fin⟩) hs
theorem ix_tup : IxR X (rIxT X.K) := by
  intro value slice pins s σ H x y v u Q I rx ry h hs
  obtain ⟨p, xs, i, z, rfl, rfl, hq, he, q⟩ := h
  cases rx
  obtain ⟨t, rfl⟩ := ry
  obtain ⟨its, r, pl, hz⟩ := I.tuple hq
  obtain ⟨j, h1, h2, h3, h4, h5⟩ := atI_get he
  obtain ⟨w, ew, rw'⟩ := r.get h2
  have hl := r.length
  have hn := line63
  have fin : EP X pins σ Q w s := ⟨z, H, I, rw', q⟩
  exact subscriptTail_builtinR (x := w) pl.typeIs slot_tuple_getitem.lookup
    (getItem_tuple (j := j) (Q := fun r s' => r = w ∧ EP X pins σ Q r s') pl (by omega) (by omega) (by rw [List.size_toArray, ← hl]; exact h1) (by simpa using ew) ⟨rfl, fin⟩) hs
theorem slice_bounds (lo hi : Option Int) (n : Nat) : (sliceBounds lo hi none n).1 = ((HT.sIx n 0 lo : Nat) : Int) ∧ (sliceBounds lo hi none n).2.1 = ((HT.sIx n n hi : Nat) : Int) ∧ (sliceBounds lo hi none n).2.2 = 1 := by
  refine ⟨?_, ?_, rfl⟩
  · cases lo with
    | none => simp [sliceBounds, HT.sIx]
    | some i =>
      simp only [sliceBounds, HT.sIx, Option.getD_none, show (1 : Int) > 0 by decide, if_true]
      by_cases h : i < 0
      · simp only [h, if_true] <;> omega
      · simp only [h, if_false] <;> omega
  · cases hi with
    | none => simp [sliceBounds, HT.sIx]
    | some i =>
      simp only [sliceBounds, HT.sIx, Option.getD_none, show (1 : Int) > 0 by decide, if_true]
      by_cases h : i < 0
      · simp only [h, if_true] <;> omega
      · simp only [h, if_false] <;> omega
theorem slicePick_cut (its : List Value) (lo hi : Option Int) : slicePick its.toArray lo hi none = ((its.drop (HT.sIx its.length 0 lo)).take (HT.sIx its.length its.length hi - HT.sIx its.length 0 lo)).toArray := by
  obtain ⟨h1, h2, h3⟩ := slice_bounds lo hi its.toArray.size
  unfold slicePick
  rw [h1, h2, h3]
  simp only [sliceRange_one, pick_run, List.size_toArray] <;> rfl
def rSlL (K : PySem.W.Frag) : V → Option Int → Option Int → Hp → VK → Prop := fun x lo hi H Q => ∃ a xs, x = .ref a ∧ SqL K H a xs ∧ ∀ p, H p = none → Q (.ref p) (upd H p (.lst (cutV xs lo hi)))
theorem sl_list : SlR X (rSlL X.K) := by
  intro pins s σ H x v vl vu lo hi sl Q I rx hs pl pu h
  obtain ⟨a, xs, rfl, hx, q⟩ := h
  cases rx
  obtain ⟨its, r, ht, hz⟩ := I.list hx
  have hlen := r.length
  refine ⟨"list", _, slot_list_getitem.lookup, ht.isList.typeIs, ?_⟩
  refine wpAny_getItem_list_slice ht.isList hs pl pu .none (by simp) ?_ (by rw [List.size_toArray] <;> omega)
  rw [slicePick_cut, ← hlen]
  refine ⟨.ref s.heap.objs.size, _, I.laid (t' := s.toks) (o := .lst (cutV xs lo hi)) (fun b ob q => Heap.get?_push_of_some _ q) (Nat.le_refl _) ?_, rfl, q _ (I.hok.fresh (Nat.le_refl _))⟩
  exact ⟨Nat.le_trans (cutV_length xs lo hi) hz, _, 0, (r.drop (HT.sIx xs.length 0 lo)).take (HT.sIx xs.length xs.length hi - HT.sIx xs.length 0 lo), Heap.get?_push_size _ rfl⟩

theorem call_len_seq : CallR X (.builtin "len") (fun xs H Q => ∃ p ys, xs = [.ref p] ∧ (SqL X.K H p ys ∨ SqT X.K H p ys) ∧ Q (.int ys.length) H) := by
  intro pins s σ H xs us Q I r h
  obtain ⟨p, ys, rfl, hq, q⟩ := h
  obtain ⟨u, rfl, rx⟩ := vals1 r
  cases rx
  have hn := line63
  rcases hq with hq | hq
  · obtain ⟨its, r', pl, hz⟩ := I.list hq
    have hlen := r'.length
    exact Calls.call_len_list pl.isList (by simp only [List.size_toArray] <;> omega) ⟨.int ys.length, H, I.tok _, ⟨s.toks + 1, by rw [List.size_toArray, hlen]⟩, q⟩
  · obtain ⟨its, r', pl, hz⟩ := I.tuple hq
    have hlen := r'.length
    exact len_tuple pl (by simp only [List.size_toArray] <;> omega) ⟨.int ys.length, H, I.tok _, ⟨s.toks + 1, by rw [List.size_toArray, hlen]⟩, q⟩
theorem call_tuple_of : CallR X (.type "tuple") (fun xs H Q => ∃ p ys, xs = [.ref p] ∧ ((SqL X.K H p ys ∧ ∀ l, H l = none → Q (.ref l) (upd H l (.tup ys))) ∨ (SqT X.K H p ys ∧ Q (.ref p) H))) := by
  intro pins s σ H xs us Q I r h
  obtain ⟨p, ys, rfl, h⟩ := h
  obtain ⟨u, rfl, rx⟩ := vals1 r
  cases rx
  rcases h with ⟨hq, q⟩ | ⟨hq, q⟩
  · obtain ⟨its, r', pl, hz⟩ := I.list hq
    have hlen := r'.length
    refine call_tuple_list pl.isList (fun h' kp => ?_) (by simp only [List.size_toArray] <;> omega)
    have I1 : Inv X pins σ H { s with heap := h' } := I.kept (t' := s.toks) kp
    have I2 : Inv X pins σ (upd H h'.objs.size (.tup ys)) { s with heap := h'.push { cls := .type "tuple", data := .seq its.toArray } } :=
      I1.laid (t' := s.toks) (fun b o e => Heap.get?_push_of_some _ e) (Nat.le_refl _) (show ObjOk X.prog X.w _ _ _ (.tup ys) from ⟨hz, its, r', IsTup.new _ _⟩)
    exact ⟨.ref h'.objs.size, _, I2, rfl, q _ (I1.hok.fresh (Nat.le_refl _))⟩
  · obtain ⟨its, r', pl, hz⟩ := I.tuple hq
    exact call_tuple_same pl ⟨.ref p, H, I, rfl, q⟩

def tyV (K : PySem.W.Frag) (T : String) (x : V) (H : Hp) : Prop := match x with
  | .str _ => T = "str"
  | .int _ => T = "int"
  | .ref p => (T = "list" ∧ ∃ xs, SqL K H p xs) ∨ (T = "tuple" ∧ ∃ o, K.lookup p = some o ∧ o.cls = .type "tuple" ∧ o.dict = none) ∨
      (T = "dict" ∧ ((∃ kvs, H p = some (.dK kvs)) ∨ ∃ kvs, H p = some (.dT kvs))) ∨ (T = "set" ∧ ∃ S n, H p = some (.set S n))
  | _ => False
theorem tyV_is {pins : List (Addr × Obj)} {σ : St} {H : Hp} {s : Shared} {T : String} {x : V} {v : Value} (I : Inv X pins σ H s) (r : RelV x v) (ty : tyV X.K T x H) :
    s.TypeIs v T ∧ ∀ a, v = .ref a → ∃ ob, s.heap.get? a = some ob ∧ ob.dict = none := by
  cases x with
  | str z =>
    obtain ⟨t, rfl⟩ := r
    cases (show T = "str" from ty)
    exact ⟨typeIs_str s z t, fun _ e => nomatch e⟩
  | int i =>
    obtain ⟨t, rfl⟩ := r
    cases (show T = "int" from ty)
    exact ⟨typeIs_int s i t, fun _ e => nomatch e⟩
  | ref p =>
    cases r
    rcases ty with ⟨rfl, xs, hq⟩ | ⟨rfl, o, hk, hc, hd⟩ | ⟨rfl, hk⟩ | ⟨rfl, S, n, hk⟩
    · obtain ⟨its, _, pl, _⟩ := I.list hq
      refine ⟨pl.isList.typeIs, fun a e => ?_⟩
      cases e
      obtain ⟨o, n, e, c, hd, _⟩ := pl
      exact ⟨o, e, hd⟩
    · refine ⟨⟨o, I.kIn p o hk, hc⟩, fun a e => ?_⟩
      cases e
      exact ⟨o, I.kIn _ o hk, hd⟩
    · have z : ∃ o, s.heap.get? p = some o ∧ o.ExactDict := by
        rcases hk with ⟨kvs, hk⟩ | ⟨kvs, hk⟩
        · obtain ⟨_, _, _, _, o, _, _, e, ex, _⟩ := I.hok p _ hk
          exact ⟨o, e, ex⟩
        · obtain ⟨_, _, _, _, o, _, _, e, ex, _⟩ := I.hok p _ hk
          exact ⟨o, e, ex⟩
      obtain ⟨o, e, ex⟩ := z
      refine ⟨⟨o, e, ex.1⟩, fun a e2 => ?_⟩
      cases e2
      exact ⟨o, e, ex.2.1⟩
    · obtain ⟨o, _, _, _, e, ex, _⟩ := I.hok p _ hk
      refine ⟨⟨o, e, ex.1⟩, fun a e2 => ?_⟩
      cases e2
      exact ⟨o, e, ex.2.1⟩
  | _ => exact False.elim ty
def tBM0 (K : PySem.W.Frag) (T : String) (r : V → List V → Hp → VK → Prop) (to : TE) : TE := fun σ H Q => to σ H fun x H1 => tyV K T x H1 ∧ r x [] H1 Q
def tBM (K : PySem.W.Frag) (T : String) (r : V → List V → Hp → VK → Prop) (to : TE) (t : TA) : TE := fun σ H Q => to σ H fun x H1 => tyV K T x H1 ∧ t σ H1 fun xs H2 => r x xs H2 Q
variable {o e : Expr} {es : List Expr} {to : TE} {t : TA} {name : Str} {apos cpos : Pos} {T id : String} {r : V → List V → Hp → VK → Prop}
theorem pe_bm0 (pa : PlainAttrs T) (slot : Slot T name id) (hty : typeOf (.builtin id) = pure (.type "method_descriptor")) (hm : MtR X id r) (ho : PE X o to)
    (hbase : attributeBase o name X.env (eval o X.env) = eval o X.env := by rfl) (hline : (apos.endLine == cpos.line) = true := by rfl) : PE X (.Call (.Attribute o name apos) [] [] cpos) (tBM0 X.K T r to) := by
  intro pins s σ H Q I h
  refine wpAny_Call_method0_late hbase hline (thn (ho pins s σ H _ I h) fun v s1 ⟨x, H1, I1, r1, ty, q1⟩ => ?_)
  obtain ⟨h1, h2⟩ := tyV_is I1 r1 ty
  exact ⟨T, id, pa, slot, hty, h1, h2, Calls.callWith_builtin rfl (PySem.evalArgs_none (hm pins s1 σ H1 x [] v [] Q I1 r1 .nil q1))⟩
theorem pe_bm (pa : PlainAttrs T) (slot : Slot T name id) (hty : typeOf (.builtin id) = pure (.type "method_descriptor")) (hm : MtR X id r) (ho : PE X o to) (ha : PA X (e :: es) t)
    (hbase : attributeBase o name X.env (eval o X.env) = eval o X.env := by rfl)
    (hfew : ((backTo cpos (starEach (e :: es) X.env)).all (fun x => !x.1) && (backToKw cpos (keywordEach [] X.env)).all (fun x => x.1.isSome)
      && decide ((e :: es).length + ([] : List Keyword).length + (if ([] : List Keyword).isEmpty then 0 else 1) < 30)) = true := by rfl)
    (hline : (apos.endLine == cpos.line) = true := by rfl) (hs : starEach (e :: es) X.env = (false, eval e X.env) :: starEach es X.env := by rfl) (hplain : (backTo cpos (starEach es X.env)).any (·.1) = false := by rfl) :
    PE X (.Call (.Attribute o name apos) (e :: es) [] cpos) (tBM X.K T r to t) := by
  intro pins s σ H Q I h
  refine wpAny_Call_method_late hbase hfew hline rfl (thn (ho pins s σ H _ I h) fun v s1 ⟨x, H1, I1, r1, ty, q1⟩ => ?_)
  obtain ⟨h1, h2⟩ := tyV_is I1 r1 ty
  refine ⟨T, id, pa, slot, hty, h1, h2, ?_⟩
  have hA := ha cpos pins s1 σ H1 _ I1 q1
  rw [hs] at hA ⊢
  refine Calls.callWith_builtin (by show (false || (backTo cpos (starEach es X.env)).any (·.1)) = false; rw [hplain] <;> rfl) (Calls.evalArgs_plain ?_)
  exact thn hA fun us s2 ⟨vs, H2, I2, r2, q2⟩ => hm pins s2 σ H2 x vs v us Q I2 r1 r2 q2
/- xs.append(e), list.index on a module's tuple .. are MtR facts of 06m -/
end
end L2

namespace L2
open PySem PySem.Spec PyProof.Rows

def MtM (X : Cx) (id : String) (r : V → List V → Hp → VK → Prop) : Prop :=
  ∀ (pins : List (Addr × Obj)) (s : Shared) (σ : St) (H : Hp) (x : V) (xs : List V) (v : Value) (us : List Value) (Q : VK), Inv X pins σ H s → RelV x v → Vals xs us → r x xs H Q →
    wpAny (model X.prog X.w) X.A (call (.builtin id) (v :: us)) (EP X pins σ Q) X.xe s

theorem Vals.one : ∀ {x : V} {us : List Value}, Vals [x] us → ∃ u, us = [u] ∧ RelV x u
  | _, _, .cons r .nil => ⟨_, rfl, r⟩
theorem Vals.zero : ∀ {us : List Value}, Vals [] us → us = []
  | _, .nil => rfl
theorem Vals.dropLast {xs : List V} {us : List Value} (h : Vals xs us) : Vals xs.dropLast us.dropLast := by
  induction h with
  | nil => exact .nil
  | cons r t ih =>
    cases t with
    | nil => exact .nil
    | cons q t' => exact .cons r ih
theorem erase_last {α : Type} (l : List α) : l.eraseIdx (l.length - 1) = l.dropLast := by
  induction l with
  | nil => rfl
  | cons a r ih =>
    cases r with
    | nil => rfl
    | cons b r =>
      have e : (a :: b :: r).length - 1 = ((b :: r).length - 1) + 1 := by
        have h1 : (a :: b :: r).length = r.length + 2 := rfl
        have h2 : (b :: r).length = r.length + 1 := rfl
        omega
      rw [e, List.eraseIdx_cons_succ, ih]
      all_goals rfl
section
variable {X : Cx} {pins : List (Addr × Obj)} {σ : St} {H : Hp} {s : Shared} {l b : Addr} {xs ys zs : List V}

theorem Inv.lset {its its' : List Value} {n : Nat} {f : Array Value → Array Value} {t' : Nat} (I : Inv X pins σ H s) (hH : H l = some (.lst xs))
    (e : s.heap.get? l = some { cls := .type "list", data := .seq its.toArray n }) (hf : f its.toArray = its'.toArray) (hv : Vals ys its') (hz : ys.length ≤ sizeLine) :
    Inv X pins σ (upd H l (.lst ys)) { s with heap := s.heap.update l (Obj.mapSeq f), toks := t' } := by
  have q := PySem.IsL.update e f
  rw [hf] at q
  refine I.write (x := l) (e := l) (by rw [hH]; exact trivial) (.inl rfl) (fun b' u hb hu => (Heap.get?_update_other s.heap (Obj.mapSeq f) (Ne.symm hb)).trans hu) ⟨_, q⟩ ?_
  exact ⟨hz, its', _, hv, q⟩
theorem Inv.lnew {its : List Value} {t' : Nat} (I : Inv X pins σ H s) (hv : Vals ys its) (hz : ys.length ≤ sizeLine) :
    Inv X pins σ (upd H s.heap.objs.size (.lst ys)) { s with heap := s.heap.push { cls := .type "list", data := .seq its.toArray }, toks := t' } :=
  I.laid (fun _ _ q => Heap.get?_push_of_some _ q) (Nat.le_refl _) ⟨hz, its, 0, hv, Heap.get?_push_size _ rfl⟩
theorem Inv.fresh (I : Inv X pins σ H s) : H s.heap.objs.size = none := I.hok.fresh (Nat.le_refl _)
theorem Inv.lstM (I : Inv X pins σ H s) (hH : H l = some (.lst xs)) : xs.length ≤ sizeLine ∧ ∃ (its : List Value) (n : Nat), Vals xs its ∧ xs.length = its.length ∧ s.heap.get? l = some { cls := .type "list", data := .seq its.toArray n } := by
  obtain ⟨z, its, n, r, e⟩ := I.hok l _ hH
  exact ⟨z, its, n, r, r.length, e⟩

theorem notLongL {n : Nat} (h : n ≤ sizeLine) : Builtin.List.listTooLong n = false := by
  unfold Builtin.List.listTooLong
  exact decide_eq_false (by omega)
end

section
variable {X : Cx}

def rAppend : V → List V → Hp → VK → Prop := fun x vs H Q => ∃ l xs y, x = .ref l ∧ vs = [y] ∧ H l = some (.lst xs) ∧ xs.length < sizeLine ∧ Q .non (upd H l (.lst (xs ++ [y])))
theorem mt_append : MtM X "list.append" rAppend := by
  intro pins s σ H x vs v us Q I rx rv h
  obtain ⟨l, xs, y, rfl, rfl, hH, hz, q⟩ := h
  cases rx
  obtain ⟨u, rfl, ru⟩ := rv.one
  obtain ⟨z, its, n, r, hl, e⟩ := I.lstM hH
  refine call_meets F.slot_list_append ⟨_, e, rfl⟩ F.entry_list_append (F.args_list_append_2 _ _) (PySem.list_append l its.toArray n u (by rw [List.size_toArray]; omega)) ⟨e, ?_⟩
  refine ⟨.non, _, I.lset (its' := its ++ [u]) hH e (by simp) (r.append (.cons ru .nil)) ?_, rfl, q⟩
  rw [List.length_append, List.length_singleton]
  omega

def rExtend : V → List V → Hp → VK → Prop := fun x vs H Q => ∃ l b xs zs, x = .ref l ∧ vs = [.ref b] ∧ H l = some (.lst xs) ∧ H b = some (.lst zs) ∧ xs.length + zs.length ≤ sizeLine ∧ Q .non (upd H l (.lst (xs ++ zs)))
theorem mt_extend : MtM X "list.extend" rExtend := by
  intro pins s σ H x vs v us Q I rx rv h
  obtain ⟨l, b, xs, zs, rfl, rfl, hH, hB, hz, q⟩ := h
  cases rx
  obtain ⟨u, rfl, ru⟩ := rv.one
  cases ru
  obtain ⟨z, its, n, r, hl, e⟩ := I.lstM hH
  obtain ⟨z2, its2, n2, r2, hl2, e2⟩ := I.lstM hB
  have hsz : its.toArray.size + its2.toArray.size ≤ sizeLine := by rw [List.size_toArray, List.size_toArray]; omega
  have hlong : ¬ (!its.toArray.isEmpty && Builtin.List.listTooLong (its.toArray.size + its2.toArray.size)) = true := by
    rw [notLongL hsz, Bool.and_false]
    exact Bool.false_ne_true
  refine call_meets F.slot_list_extend ⟨_, e, rfl⟩ F.entry_list_extend (F.args_list_extend_2 _ _)
    (AutoSeq1.list_extend_list_list_0 l its.toArray n b its2.toArray n2 hlong (by rw [List.size_toArray]; omega) (by omega)) ⟨e, e2, ?_⟩
  refine ⟨.non, _, I.lset (its' := its ++ its2) hH e (by simp) (r.append r2) ?_, rfl, q⟩
  rw [List.length_append]
  omega

def rPop : V → List V → Hp → VK → Prop := fun x vs H Q => ∃ l xs y, x = .ref l ∧ vs = [] ∧ H l = some (.lst xs) ∧ xs[xs.length - 1]? = some y ∧ Q y (upd H l (.lst xs.dropLast))
theorem mt_pop : MtM X "list.pop" rPop := by
  intro pins s σ H x vs v us Q I rx rv h
  obtain ⟨l, xs, y, rfl, rfl, hH, hy, q⟩ := h
  cases rx
  have hus := rv.zero
  subst hus
  obtain ⟨z, its, n, r, hl, e⟩ := I.lstM hH
  obtain ⟨u, hu, ru⟩ := r.get hy
  have hy' : its.toArray[its.toArray.size - 1]? = some u := by
    show its.toArray[its.length - 1]? = some u
    rw [← Array.getElem?_toList, ← hl]
    exact hu
  refine call_meets F.slot_list_pop ⟨_, e, rfl⟩ F.entry_list_pop (F.args_list_pop_1 _) (MeetsSeq.list_pop_last l its.toArray n u hy' (by rw [List.size_toArray]; omega)) ⟨e, ?_⟩
  refine ⟨y, _, I.lset (its' := its.dropLast) hH e ?_ r.dropLast ?_, ru, q⟩
  · show its.toArray.eraseIdxIfInBounds (its.toArray.size - 1) = its.dropLast.toArray
    rw [List.size_toArray, List.eraseIdxIfInBounds_toArray, erase_last]
  · rw [List.length_dropLast]
    omega

def rClear : V → List V → Hp → VK → Prop := fun x vs H Q => ∃ l xs, x = .ref l ∧ vs = [] ∧ H l = some (.lst xs) ∧ Q .non (upd H l (.lst []))
theorem mt_clear : MtM X "list.clear" rClear := by
  intro pins s σ H x vs v us Q I rx rv h
  obtain ⟨l, xs, rfl, rfl, hH, q⟩ := h
  cases rx
  have hus := rv.zero
  subst hus
  obtain ⟨z, its, n, r, hl, e⟩ := I.lstM hH
  refine call_meets F.slot_list_clear ⟨_, e, rfl⟩ F.entry_list_clear (F.args_list_clear_1 _) (AutoSeq1.list_clear_list_0 l its.toArray n (by rw [List.size_toArray]; omega)) ⟨e, ?_⟩
  exact ⟨.non, _, I.lset (its' := []) (ys := []) hH e rfl .nil (Nat.zero_le _), rfl, q⟩

def rCat : R2 := fun x y H Q => ∃ l b xs zs, x = .ref l ∧ y = .ref b ∧ H l = some (.lst xs) ∧ H b = some (.lst zs) ∧ xs.length + zs.length ≤ sizeLine ∧ ∀ p, H p = none → Q (.ref p) (upd H p (.lst (xs ++ zs)))
theorem op_cat : OpR X (binaryOp .Add) rCat := by
  intro pins s σ H x y v u Q I rx ry h
  obtain ⟨l, b, xs, zs, rfl, rfl, hH, hB, hz, q⟩ := h
  cases rx
  cases ry
  obtain ⟨z, its, n, r, hl, e⟩ := I.lstM hH
  obtain ⟨z2, its2, n2, r2, hl2, e2⟩ := I.lstM hB
  refine PySem.P.add_list e e2 ?_ (by rw [List.size_toArray, List.size_toArray]; omega)
  have ea : its.toArray ++ its2.toArray = (its ++ its2).toArray := by simp
  rw [ea]
  exact ⟨.ref _, _, I.lnew (t' := s.toks) (r.append r2) (by rw [List.length_append]; omega), rfl, q _ I.fresh⟩
end

section
variable {prog : Program} {w : World} {A : Around} {E : Value → Shared → Prop} {s : Shared}
end

section
variable {X : Cx}
end
end L2

namespace Att
open PySem PySem.W PySem.Calls PyProof.Rows

theorem ints_of_wellAll {P : Params} {h : Heap} : ∀ (ns : List Int) (vs : List Value), WellAll P h vs (ns.map WData.int) → IntsAre vs ns := by
  intro ns
  induction ns with
  | nil =>
    intro vs w
    rw [List.map_nil] at w
    cases w
    exact .nil
  | cons n ns ih =>
    intro vs w
    rw [List.map_cons] at w
    cases w with
    | cons a b =>
      cases a
      exact .cons _ _ (ih _ b)

theorem script_of {l : OpenLaw} {n : Nat} (hn : l.most = some n) {P : Params} {h : Heap} {args : List WData} {vals : List Value}
    (hpre : l.row.toRowW.claim.pre args = true) (hwl : WellAll P h vals args) :
    ∃ a vs ns, vals = [Value.ref a] ∧ args = [WData.list (ns.map WData.int)] ∧ h.get? a = some { cls := .type "list", data := .seq vs.toArray } ∧ IntsAre vs ns ∧ ns.length ≤ n := by
  have hsh : WShape.hasAll [] args [.list .int] = true := (pre_splitW hpre).1
  have hc : l.pre.holds [] { args := args } = true := (pre_splitW hpre).2
  obtain ⟨d, r, rfl, h1, h2⟩ := hasAllW_cons hsh
  obtain rfl := hasAllW_nil h2
  obtain ⟨xs, rfl, h3⟩ := hasW_list h1
  obtain ⟨ns, rfl⟩ := items_int h3
  have hlen : ns.length ≤ n := by
    unfold OpenLaw.pre at hc
    have h4 : (WTm.not (.lt (.lit (.int (n : Int))) (.len (.arg 0)))).holds [] { args := [.list (ns.map .int)] } = true := by
      have h4 := (holds_andW hc).1
      rw [hn] at h4
      exact h4
    have h5 := condW_of h4 (w_not (w_lt w_lit (w_len_list (w_arg rfl))))
    rw [List.length_map] at h5
    refine Nat.le_of_not_lt fun q => ?_
    have q' : (n : Int) < ((ns.length : Nat) : Int) := by omega
    first
      | (rw [decide_eq_true q'] at h5; exact absurd h5 (by decide))
      | (simp at h5; omega)
  cases hwl with
  | cons w1 w2 =>
    cases w2
    cases w1 with
    | list ho hall => exact ⟨_, _, ns, rfl, rfl, ho, ints_of_wellAll ns _ hall, hlen⟩

theorem post_true (l : OpenLaw) (args : List WData) : l.row.toRowW.claim.post args (.bool true) args = true :=
  postW_of (r := l.row.toRowW) (X := (true == true))
    (show WShape.has [] (.bool true) .bool = true by first | rfl | decide | simp [WShape.has, WShape.arms, WShape.armsAll])
    (show (WTm.eq .res (.lit (.bool true))).value [] { args := args, res := some (.bool true), after := args } = some (.bool (true == true)) from w_eq_bool (w_res rfl) w_lit) rfl

theorem attach_call {l : OpenLaw} {n : Nat} {q : Program} {loose : List Str} {XP : (Str → Option Value) → Heap → Prop} {YP : World → Heap → Prop} {d : DefRec}
    (hn : l.most = some n) (hdf : d.params.defaults = [])
    (call : ∀ (w : World) (s₀ s₁ : Shared) (mg mb : Str → Option Value) (fa : Addr) (o : Obj) (pm cd doc : Value) (a : Addr) (vs : List Value) (ns : List Int),
      Ground q loose [] XP w s₀ mg mb s₁.heap → YP w s₁.heap →
      s₁.heap.get? fa = some o → o.data = .func (docDef d.name d.params d.body d.scope pm cd doc) → s₁.heap.CodeRec cd d.name → mg d.name = some (.ref fa) →
      s₁.heap.get? a = some { cls := .type "list", data := .seq vs.toArray } → IntsAre vs ns → ns.length ≤ n → s₁.gens = #[] →
      codeAny (model l.prog w) callerA (.call (.ref fa) ⟨[.ref a], []⟩) (fun r s' => r = .ok (.ret (.bool true)) ∧ OldK s₁.heap s'.heap ∧ s'.os = s₁.os ∧ AllBare s'.gens) s₁) :
    WalkO q loose XP YP l.row.toRowW d [] (fun f vs => PySem.call f vs) := by
  intro w s₀ s₁ mg mb G Y fa o pm cd doc dV kV ho hd hcd hD hmg hg args vals as hpre hlay hrd hwl hlo
  obtain rfl : dV = .none := Dflts.none hD hdf
  obtain rfl : kV = .none := Dflts.noKw hD
  obtain ⟨a, vs, ns, rfl, rfl, hobj, hints, hlen⟩ := script_of hn hpre hwl
  refine enter_call (codeAny_mono (call w s₀ s₁ mg mb fa o pm cd doc a vs ns G Y ho (fd_plain hd) hcd hmg hobj hints hlen hg) fun r s' hq => ?_)
  obtain ⟨rfl, h2, h3, h4⟩ := hq
  exact ⟨.inl ⟨.bool true, .bool true, [], rfl, fun _ => rfl, .bool true, post_true l _, fun _ => ⟨List.Pairwise.nil, fun _ hm => (nomatch hm)⟩⟩, h2, h3, h4⟩

section
variable {prog : Program} {w : World} {A : Around} {E : Value → Shared → Prop} {s : Shared} {K : Frag}

def ledger (h : Heap) (L d : Addr) : List (Addr × Obj) := (List.range h.objs.size).filterMap fun a => if a = L ∨ a = d then none else (h.get? a).map fun o => (a, o)
end
end Att

namespace L2
open PySem PySem.Spec PyProof.Rows

theorem vals_ints : ∀ {vs : List Value} {ns : List Int}, IntsAre vs ns → Vals (ns.map V.int) vs
  | _, _, .nil => .nil
  | _, _, .cons n t h => .cons ⟨t, rfl⟩ (vals_ints h)

def Only (H : Hp) : Prop := ∀ b, H b = none ∨ ∃ o xs, H b = some (.frz o (.lst xs))

theorem law_call {P : Program} {w : World} {K : PySem.W.Frag} {mg mb : Str → Option Value} {CX : CXT} {k : Nat} {fa a : Addr} {fd : FuncData} {x : Str} {sp : Sp} {s₁ : Shared} {vs : List Value} {ns : List Int}
    (KX : K.In s₁.heap) (hns : s₁.heap.Ns mainGlobals mg) (hb : s₁.heap.Ns builtinsNs mb) (hbb : ∀ x : Str, x ≠ "__name__" → mb x = bootBuiltins x) (hlim : s₁.heap.NoLimit) (hg : s₁.gens = #[])
    (ha : s₁.heap.get? a = some { cls := .type "list", data := .seq vs.toArray }) (hi : IntsAre vs ns) (hl : ns.length ≤ sizeLine) (hr : Room k callerA)
    (F : ∀ base : Heap, K.In base → base.Ns mainGlobals mg → FnOk P w K mg base CX k fa fd [x] sp) (hbind : ∀ (s : Shared) (u : Value), BindsTo s fd ⟨[u], []⟩ [(x, u)])
    (hsp : ∀ H : Hp, Only H → SqL K H a (ns.map V.int) → sp [.ref a] H (fun v _ => v = .bl true) fun _ _ _ => False)
    (hCX : ∀ H e s', CX [] H s₁ (fun _ _ _ => False) e s' → False) :
    codeAny (model P w) callerA (.call (.ref fa) ⟨[.ref a], []⟩) (fun r s' => r = .ok (.ret (.bool true)) ∧ OldK s₁.heap s'.heap ∧ s'.os = s₁.os ∧ AllBare s'.gens) s₁ := by
  have rv := vals_ints hi
  have lenV := hi.length
  -- from an abstract heap in which nothing but the script may be tracked
  have core : ∀ H : Hp, Only H → SqL K H a (ns.map V.int) → HOk P w H s₁.heap → (∀ b, H b ≠ none → b = a) → (H a ≠ none → K.lookup a = none) →
      codeAny (model P w) callerA (.call (.ref fa) ⟨[.ref a], []⟩) (fun r s' => r = .ok (.ret (.bool true)) ∧ OldK s₁.heap s'.heap ∧ s'.os = s₁.os ∧ AllBare s'.gens) s₁ := by
    intro H hO hS hok hA hK
    have base_of : ∀ {b : Addr} {o : Obj}, s₁.heap.get? b = some o → H b = none → (hidT s₁.heap H).get? b = some o := fun e n => hidT_get e n
    have noA : ∀ {b : Addr} {o : Obj} {es : Array DictEntry} {ep : Nat}, s₁.heap.get? b = some o → o.data = .dict es ep → H b = none := fun {b o es ep} e d => by
      cases q : H b with
      | none => rfl
      | some u =>
        have e' : b = a := hA b (by rw [q]; simp)
        subst e'
        rw [ha] at e; cases e
        have d' : Data.seq vs.toArray _ = Data.dict es ep := d
        cases d'
    have nsK : ∀ {b : Addr} {m : Str → Option Value}, s₁.heap.Ns b m → (hidT s₁.heap H).Ns b m := fun {b m} ⟨o, es, ep, e, d, r⟩ => ⟨o, es, ep, base_of e (noA e d), d, r⟩
    have hKb : K.In (hidT s₁.heap H) := fun b o e => base_of (KX b o e) (by
      cases q : H b with
      | none => rfl
      | some u =>
        have e' : b = a := hA b (by rw [q]; simp)
        subst e'
        rw [hK (by rw [q]; simp)] at e; cases e)
    have hM : Mod K mg (hidT s₁.heap H) := ⟨hKb, nsK hns, ⟨mb, nsK hb, hbb⟩, let ⟨mc, h1, h2⟩ := hlim; ⟨mc, nsK h1, h2⟩⟩
    have e0 : Env0 P w K mg (hidT s₁.heap H) callerA [] s₁ H := ⟨rfl, hM, fun b o e => of_hidT e, Nat.le_of_eq (hidT_size _ _), trivial, fun b hb => absurd (show b ∈ ([] : List Addr) from hb) (by simp), hok, .of_eq hg⟩
    refine codeAny_mono ((F _ hKb (nsK hns)).run callerA [] s₁ H ⟨[.ref a], []⟩ [.ref a] [.ref a] _ _ hr e0 (hbind s₁ (.ref a)) (.cons rfl .nil) (hsp H hO hS)) fun r s' h => ?_
    cases r with
    | error e => exact (hCX H e s' h).elim
    | ok fl =>
      cases fl with
      | next => exact False.elim h
      | brk => exact False.elim h
      | cont => exact False.elim h
      | ret u =>
        obtain ⟨v, H', os, bare, un, hok', r', q⟩ := h
        have q' : v = .bl true := q
        subst q'
        obtain rfl : u = Value.bool true := r'
        refine ⟨rfl, OldK.of_keep fun b o e => ?_, os, bare⟩
        cases q : H b with
        | none => exact un.keep b o e q (by intro z; exact absurd (show b ∈ ([] : List Addr) from z) (by simp)) (by simp)
        | some u =>
          rcases hO b with z | ⟨ob, xs, z⟩
          · rw [q] at z; cases z
          · have z2 := un.frzs b ob _ z
            obtain ⟨e1, _⟩ := hok b _ z
            obtain ⟨e2, _⟩ := hok' b _ z2
            rw [e] at e1; cases e1
            exact e2
  cases hk : K.lookup a with
  | some o =>
    -- the script is one of the module's own objects
    have e := KX a o hk
    rw [ha] at e
    cases e
    refine core (fun _ => none) (fun _ => .inl rfl) (.inr ⟨_, vs.toArray, _, hk, rfl, rfl, rfl, by rw [List.size_toArray, lenV]; exact hl, by simpa using rv⟩) (fun b u z => by have z' : (none : Option HO) = some u := z; cases z') (fun b z => absurd rfl z) fun z => absurd rfl z
  | none =>
    refine core (fun b => if b = a then some (.frz { cls := .type "list", data := .seq vs.toArray } (.lst (ns.map V.int))) else none) (fun b => ?_) (.inl (.inr ⟨{ cls := .type "list", data := .seq vs.toArray }, if_pos rfl⟩)) (fun b u z => ?_) (fun b z => ?_) fun _ => hk
    · by_cases hb : b = a
      · exact .inr ⟨_, _, if_pos hb⟩
      · exact .inl (if_neg hb)
    · by_cases hb : b = a
      · have z' := (if_pos hb).symm.trans z
        cases z'
        subst hb
        exact ⟨ha, by rw [List.length_map]; exact hl, vs, _, rv, ha⟩
      · have z' := (if_neg hb).symm.trans z
        cases z'
    · by_cases hb : b = a
      · exact hb
      · exact absurd (if_neg hb) z
end L2

namespace L2
open PySem PySem.Spec PyProof.Rows

abbrev KOf {K : PySem.W.Frag} {h : Heap} (_ : K.In h) : PySem.W.Frag := K

theorem walk_of {l : PySem.W.OpenLaw} {n k : Nat} {q : Program} {loose : List Str} {XP : (Str → Option Value) → Heap → Prop} {YP : World → Heap → Prop} {d : DefRec} {K : Params → PySem.W.Frag} {CX : World → CXT} {sp : World → Sp} {x : Str}
    (hn : l.most = some n) (hn2 : n ≤ sizeLine) (hdf : d.params.defaults = []) (hr : Room k callerA)
    (hY : ∀ (w : World) (h : Heap), YP w h → (K w.params).In h)
    (F : ∀ (w : World) (mg : Str → Option Value) (fa : Addr) (h : Heap), (K w.params).In h → h.Ns mainGlobals mg → mg d.name = some (.ref fa) →
      ∃ fd : FuncData, (∀ (s : Shared) (u : Value), BindsTo s fd ⟨[u], []⟩ [(x, u)]) ∧
        ∀ base : Heap, (K w.params).In base → base.Ns mainGlobals mg → FnOk l.prog w (K w.params) mg base (CX w) k fa fd [x] (sp w))
    (hsp : ∀ (w : World) (H : Hp) (a : Addr) (ns : List Int), ns.length ≤ n → Only H → SqL (K w.params) H a (ns.map V.int) → sp w [.ref a] H (fun v _ => v = .bl true) fun _ _ _ => False)
    (hCX : ∀ (w : World) (H : Hp) (s : Shared) (e : Value) (s' : Shared), CX w [] H s (fun _ _ _ => False) e s' → False) :
    PySem.W.WalkO q loose XP YP l.row.toRowW d [] (fun f vs => PySem.call f vs) := by
  refine Att.attach_call hn hdf fun w s₀ s₁ mg mb fa o pm cd doc a vs ns G Y ho hd hcd hmg hobj hints hlen hg => ?_
  have KX := hY w _ Y
  obtain ⟨fd, hb, hF⟩ := F w mg fa _ KX G.T.g hmg
  exact law_call KX G.T.g G.T.b G.T.builtins G.T.nolimit hg hobj hints (Nat.le_trans hlen hn2) hr hF hb (fun H hO hS => hsp w H a ns hlen hO hS) fun H e s' => hCX w H s₁ e s'
theorem walk_ofK {l : PySem.W.OpenLaw} {n k : Nat} {q : Program} {loose : List Str} {XP : (Str → Option Value) → Heap → Prop} {YP : World → Heap → Prop} {d : DefRec} {K : Params → PySem.W.Frag} {CX : CXT} {sp : PySem.W.Frag → Sp} {x : Str}
    (hn : l.most = some n) (hn2 : n ≤ sizeLine) (hdf : d.params.defaults = []) (hr : Room k callerA)
    (hY : ∀ (w : World) (h : Heap), YP w h → (K w.params).In h)
    (F : ∀ (w : World) (mg : Str → Option Value) (fa : Addr) (h : Heap), (K w.params).In h → h.Ns mainGlobals mg → mg d.name = some (.ref fa) →
      ∃ fd : FuncData, (∀ (s : Shared) (u : Value), BindsTo s fd ⟨[u], []⟩ [(x, u)]) ∧
        ∀ base : Heap, (K w.params).In base → base.Ns mainGlobals mg → FnOk l.prog w (K w.params) mg base CX k fa fd [x] (sp (K w.params)))
    (hsp : ∀ (K : PySem.W.Frag) (H : Hp) (a : Addr) (ns : List Int), ns.length ≤ n → Only H → SqL K H a (ns.map V.int) → sp K [.ref a] H (fun v _ => v = .bl true) fun _ _ _ => False)
    (hCX : ∀ (H : Hp) (s : Shared) (e : Value) (s' : Shared), CX [] H s (fun _ _ _ => False) e s' → False) :
    PySem.W.WalkO q loose XP YP l.row.toRowW d [] (fun f vs => PySem.call f vs) :=
  walk_of (K := K) (CX := fun _ => CX) (sp := fun w => sp (K w.params)) hn hn2 hdf hr hY F (fun w H a ns h1 h2 h3 => hsp (K w.params) H a ns h1 h2 h3) fun _ H s e s' => hCX H s e s'
end L2

/- THE LAST THEOREM (shape; LID, My.* are yours):
   My.Adr: a structure of the addresses that your layer names (classes, functions); My.Txt K t: a structure (Prop) of the equations over K;
   My.txt_mk : {K} {implicit addresses ..} (e1 : nsIn K mainGlobals "law" = some (some (.ref f))) (e2 : K.lookup f = some ⟨oc, od, .func (fnOf "law" "law" params body scope dV kV doc pm an cdv ct), sl⟩) (e3 : codeIn K cdv "law" = true) .. : ∃ t, My.Txt K t

set_option maxRecDepth 100000 in
set_option maxHeartbeats 0 in
theorem PySem.Challenge.cw_LID_holds : PySem.Challenge.rw_LID.Holds := by
  w_on; o_law; k_head; (case hw => w_witness2)
  k_fill
  refine L2.walk_of (l := PySem.Challenge.rw_LID) (n := 63) (k := 40) (x := "script") (CX := fun w => ..) (sp := fun _ => My.sp_law) rfl (by decide) rfl ⟨rfl, by decide, by decide⟩ (fun w h Y => PySem.W.kIn_of Y) ?F ?S ?C
  case F =>
    intro w mg fa h KX G hmg
    have T : ∃ t, My.Txt (L2.KOf KX) t := by
      dsimp only [L2.KOf]                          -- K must stand as «<heap const> w.params» for k_is
      refine' My.txt_mk ?e1 ?e2 ?e3 ..
      (case e1 => PySem.W.k_is)                    -- in the order: a name -> its address -> its object -> its parts
      (case e2 => PySem.W.k_is)
      ..
    obtain ⟨t, T⟩ := T
    have e0 := hmg.symm.trans (PySem.W.mg_of KX G T.law)
    cases e0                                       -- fa is the law's own address
    exact ⟨_, fun s u => .of_eq rfl, fun base kb nb => My.law_fn T kb nb⟩     -- if «.of_eq rfl» comes too early: refine' ⟨_, ?b, fun base kb nb => My.law_fn T kb nb⟩; exact fun s u => .of_eq rfl
  case S => exact fun w H a ns hl hO hS => ..
  case C => exact ..
(the tactic k_is has no namespace: write k_is) -/

namespace L2
open PySem PySem.Spec PyProof.Rows

def inClass (s : Stmt) (j : Nat) : Stmt := match s with
  | .ClassDef _ _ _ body _ _ _ _ _ _ _ => body.getD j (.Pass ⟨0, 0, 0, 0⟩)
  | _ => .Pass ⟨0, 0, 0, 0⟩
def defArgs (s : Stmt) : Arguments := match s with
  | .FunctionDef _ a _ _ _ _ _ _ _ _ => a
  | _ => { posonlyargs := [], args := [], vararg := none, kwonlyargs := [], kw_defaults := [], kwarg := none, defaults := [] }
def defBody (s : Stmt) : List Stmt := match s with
  | .FunctionDef _ _ b _ _ _ _ _ _ _ => b
  | _ => []
def defScope (s : Stmt) : Scope := match s with
  | .FunctionDef _ _ _ _ _ _ sc _ _ _ => sc
  | _ => { kind := .function, names := [], isGenerator := false, isCoroutine := false }

abbrev CX0 : CXT := fun _ _ _ _ _ _ => False
abbrev E0 : XK := fun _ _ _ => False
theorem pass0 {X : Cx} : Passes CX0 X E0 := fun _ _ _ _ _ _ _ h => h.elim

structure Fun (K : PySem.W.Frag) (x qual : Str) (st : Stmt) (f : Addr) (fd : FuncData) : Prop where
  ex : ∃ (oc : Value) (od : Option Addr) (kV doc pm : Value) (an : Option Addr) (cdv ct : Value) (osl : Array (Option Value)),
    fd = PySem.W.fnOf x qual (defArgs st) (defBody st) (defScope st) .none kV doc pm an cdv ct ∧ K.lookup f = some ⟨oc, od, .func fd, osl⟩ ∧ PySem.W.codeIn K cdv qual = true
  kp : PySem.W.keepIn K (.ref f) = true
section
variable {P : Program} {w : World} {K : PySem.W.Frag} {mg : Str → Option Value} {base : Heap}
theorem Fun.ok {x qual : Str} {st : Stmt} {f : Addr} {fd : FuncData} {N ps : List Str} {k : Nat} {sp : Sp} (F : Fun K x qual st f fd) (S : FnScope N ps (defScope st)) (len : ∀ vs H Q E, sp vs H Q E → vs.length = ps.length)
    (hbody : ∀ (cdv : Value) (A : Around) (outer : List Env) (s : Shared) (H : Hp) (vs : List V) (Q : VK) (E : XK), Room k (A.deeper (envOfC qual (defScope st) s.heap.objs.size f cdv)) → sp vs H Q E →
      ∃ t, PSs (cxOf CX0 P w K mg base N qual (defScope st) f cdv A outer s H E).nox (defBody st) t ∧ t { nx := fun _ H' => Q .non H', rt := Q } (start N vs) H) : FnOk P w K mg base CX0 (k + 1) f fd ps sp := by
  obtain ⟨oc, od, kV, doc, pm, an, cdv, ct, osl, rfl, lk, hcd⟩ := F.ex
  refine fn_of lk hcd S len fun A outer s H vs Q E hr hsp => ?_
  obtain ⟨t, h, q⟩ := hbody cdv A outer s H vs Q E hr hsp
  exact ⟨t, h.nox, q⟩
theorem Fun.binds {x qual : Str} {st : Stmt} {f : Addr} {fd : FuncData} {ps : List Str} (F : Fun K x qual st f fd)
    (h : ∀ (kV doc pm : Value) (an : Option Addr) (cdv ct : Value) (us : List Value), us.length = ps.length → bindArgs (PySem.W.fnOf x qual (defArgs st) (defBody st) (defScope st) .none kV doc pm an cdv ct) ⟨us, []⟩ = pure (ps.zip us)) : Binds K fd ps [] := by
  obtain ⟨oc, od, kV, doc, pm, an, cdv, ct, osl, rfl, lk, hcd⟩ := F.ex
  exact .all (h kV doc pm an cdv ct)
theorem fun_mk {x qual : Str} {st : Stmt} {f : Addr} {oc : Value} {od an : Option Addr} {osl : Array (Option Value)} {kV doc pm cdv ct : Value} (l : K.lookup f = some ⟨oc, od, .func (PySem.W.fnOf x qual (defArgs st) (defBody st) (defScope st) .none kV doc pm an cdv ct), osl⟩)
    (c : PySem.W.codeIn K cdv qual = true) (k : PySem.W.keepIn K (.ref f) = true) : Fun K x qual st f (PySem.W.fnOf x qual (defArgs st) (defBody st) (defScope st) .none kV doc pm an cdv ct) := ⟨⟨oc, od, kV, doc, pm, an, cdv, ct, osl, rfl, l, c⟩, k⟩
end
theorem small1000 {n : Nat} (h : n ≤ 1000) : n < sizeLine := Nat.lt_of_le_of_lt h (by decide)

section
variable {X : Cx}
theorem pv (i : Nat) {x : Str} {pos : Pos} (hN : X.N[i]? = some x := by rfl) (hv : Vis X.env.scope x := by first | exact Or.inl rfl | exact Or.inr (Or.inl rfl) | exact Or.inr (Or.inr rfl)) (hd : (x == ("__debug__" : Str)) = false := by decide)
    (hcd : (x == ("__classdict__" : Str)) = false := by decide) : PE X (.Name x pos) (tVar i) := pe_var hN hv hd hcd
end

theorem iteF {A B : Prop} (h : B) : if false = true then A else B := by
  rw [if_neg Bool.false_ne_true]
  exact h
theorem iteT {A B : Prop} (h : A) : if true = true then A else B := by
  rw [if_pos rfl]
  exact h
end L2


set_option linter.all false
set_option maxRecDepth 1000000
set_option maxHeartbeats 4000000
namespace U
open PySem PySem.Spec PyProof.Rows L2
inductive PV where
  | non | bl (b : Bool) | int (i : Int) | str (x : Str) | ref (a : Addr) | tup (l : List PV) | fls (l : List PV) | oth (v : V)
def FzL (K : PySem.W.Frag) (H : Hp) (a : Addr) (xs : List V) : Prop :=
  (∃ o, H a = some (.frz o (.lst xs))) ∨
    ∃ (o : Obj) (its : Array Value) (n : Nat), K.lookup a = some o ∧ o.cls = .type "list" ∧ o.dict = none ∧ o.data = .seq its n ∧ its.size ≤ sizeLine ∧ Vals xs its.toList
theorem FzL.sq {K : PySem.W.Frag} {H : Hp} {a : Addr} {xs : List V} (h : FzL K H a xs) : SqL K H a xs := by
  rcases h with h | h
  · exact .inl (.inr h)
  · exact .inr h
structure Kp (H H1 : Hp) : Prop where
  t : ∀ a us, H a = some (.tup us) → H1 a = some (.tup us)
  z : ∀ a o u, H a = some (.frz o u) → H1 a = some (.frz o u)
theorem Kp.sqT {K : PySem.W.Frag} {H H1 : Hp} (k : Kp H H1) {a : Addr} {us : List V} (h : SqT K H a us) : SqT K H1 a us := by
  rcases h with (h | ⟨o, h⟩) | h
  · exact .inl (.inl (k.t _ _ h))
  · exact .inl (.inr ⟨o, k.z _ _ _ h⟩)
  · exact .inr h
theorem Kp.fzL {K : PySem.W.Frag} {H H1 : Hp} (k : Kp H H1) {a : Addr} {us : List V} (h : FzL K H a us) : FzL K H1 a us := by
  rcases h with ⟨o, h⟩ | h
  · exact .inl ⟨o, k.z _ _ _ h⟩
  · exact .inr h
section
variable (K : PySem.W.Frag)
mutual
def RP (H : Hp) : PV → V → Prop
  | .non, v => v = .non
  | .bl b, v => v = .bl b
  | .int i, v => v = .int i
  | .str x, v => v = .str x
  | .ref a, v => v = .ref a
  | .oth w, v => v = w
  | .tup l, v => ∃ a us, v = .ref a ∧ SqT K H a us ∧ RPs H l us
  | .fls l, v => ∃ a us, v = .ref a ∧ FzL K H a us ∧ RPs H l us
def RPs (H : Hp) : List PV → List V → Prop
  | [], us => us = []
  | x :: l, us => ∃ u r, us = u :: r ∧ RP H x u ∧ RPs H l r
end
mutual
theorem RP.kp {H H1 : Hp} (k : Kp H H1) : ∀ {x : PV} {v : V}, RP K H x v → RP K H1 x v
  | .non, _, h => h
  | .bl _, _, h => h
  | .int _, _, h => h
  | .str _, _, h => h
  | .ref _, _, h => h
  | .oth _, _, h => h
  | .tup l, v, h => by
    simp only [RP] at h ⊢
    obtain ⟨a, us, e, q, r⟩ := h
    exact ⟨a, us, e, k.sqT q, RPs.kp k r⟩
  | .fls l, v, h => by
    simp only [RP] at h ⊢
    obtain ⟨a, us, e, q, r⟩ := h
    exact ⟨a, us, e, k.fzL q, RPs.kp k r⟩
theorem RPs.kp {H H1 : Hp} (k : Kp H H1) : ∀ {l : List PV} {us : List V}, RPs K H l us → RPs K H1 l us
  | [], _, h => h
  | x :: l, us, h => by
    simp only [RPs] at h ⊢
    obtain ⟨u, r, e, a, b⟩ := h
    exact ⟨u, r, e, RP.kp k a, RPs.kp k b⟩
end
theorem RPs.nil {H : Hp} : RPs K H [] [] := by simp [RPs]
theorem RPs.cons {H : Hp} {x : PV} {l : List PV} {u : V} {us : List V} (a : RP K H x u) (b : RPs K H l us) : RPs K H (x :: l) (u :: us) := by
  simp only [RPs]; exact ⟨u, us, rfl, a, b⟩
theorem RPs.length {H : Hp} : ∀ {l : List PV} {us : List V}, RPs K H l us → us.length = l.length
  | [], us, h => by simp only [RPs] at h; subst h; rfl
  | x :: l, us, h => by
    simp only [RPs] at h
    obtain ⟨u, r, rfl, _, b⟩ := h
    simp [RPs.length b]
theorem RPs.get {H : Hp} : ∀ {l : List PV} {us : List V} {i : Nat} {x : PV}, RPs K H l us → l[i]? = some x → ∃ u, us[i]? = some u ∧ RP K H x u
  | [], _, _, _, _, e => by simp at e
  | y :: l, us, i, x, h, e => by
    simp only [RPs] at h
    obtain ⟨u, r, rfl, a, b⟩ := h
    cases i with
    | zero => simp at e; subst e; exact ⟨u, by simp, a⟩
    | succ i => obtain ⟨w, e1, e2⟩ := RPs.get (i := i) (x := x) b (by simpa using e); exact ⟨w, by simpa using e1, e2⟩
theorem RPs.append {H : Hp} : ∀ {l m : List PV} {us ws : List V}, RPs K H l us → RPs K H m ws → RPs K H (l ++ m) (us ++ ws)
  | [], m, us, ws, h, g => by simp only [RPs] at h; subst h; simpa using g
  | x :: l, m, us, ws, h, g => by
    simp only [RPs] at h
    obtain ⟨u, r, rfl, a, b⟩ := h
    exact RPs.cons K a (RPs.append b g)
theorem RPs.take {H : Hp} : ∀ {l : List PV} {us : List V} (n : Nat), RPs K H l us → RPs K H (l.take n) (us.take n)
  | [], us, n, h => by simp only [RPs] at h; subst h; simp [RPs]
  | x :: l, us, 0, h => by simp [RPs]
  | x :: l, us, n + 1, h => by
    simp only [RPs] at h
    obtain ⟨u, r, rfl, a, b⟩ := h
    exact RPs.cons K a (RPs.take n b)
theorem RPs.drop {H : Hp} : ∀ {l : List PV} {us : List V} (n : Nat), RPs K H l us → RPs K H (l.drop n) (us.drop n)
  | [], us, n, h => by simp only [RPs] at h; subst h; simp [RPs]
  | x :: l, us, 0, h => h
  | x :: l, us, n + 1, h => by
    simp only [RPs] at h
    obtain ⟨u, r, rfl, a, b⟩ := h
    exact RPs.drop n b
theorem RPs.dropLast {H : Hp} {l : List PV} {us : List V} (h : RPs K H l us) : RPs K H l.dropLast us.dropLast := by
  rw [List.dropLast_eq_take, List.dropLast_eq_take, RPs.length K h]
  exact RPs.take K _ h
theorem RPs.ints {H : Hp} : ∀ (ns : List Int), RPs K H (ns.map PV.int) (ns.map V.int)
  | [] => by simp [RPs]
  | n :: ns => RPs.cons K (by simp [RP]) (RPs.ints ns)
end
def ExcA (a C : Addr) (h : Heap) : Prop := ∃ o, h.get? a = some o ∧ o.cls = .ref C
inductive PO where
  | exc (C : Addr)
  | lst (l : List PV)
  | ins (C dx : Addr) (fs : List (Str × PV))
  | dK (kvs : List (Key × PV))
  | dT (kvs : List (List Key × PV))
abbrev PHp := Addr → Option PO
def put (H : PHp) (a : Addr) (o : PO) : PHp := fun b => if b = a then some o else H b
theorem put_same {H : PHp} {a : Addr} {o : PO} : put H a o a = some o := by unfold put; rw [if_pos rfl]
theorem put_ne {H : PHp} {a b : Addr} {o : PO} (h : b ≠ a) : put H a o b = H b := by unfold put; rw [if_neg h]
theorem put_put {H : PHp} {a : Addr} {o u : PO} : put (put H a o) a u = put H a u := by
  funext b; unfold put; split <;> rfl
theorem ne_none {H : PHp} {a b : Addr} {o : PO} (h : H a = some o) (h' : H b = none) : a ≠ b := by
  intro e; subst e; rw [h] at h'; cases h'
abbrev FRel (K : PySem.W.Frag) (H : Hp) {κ : Type} : List (κ × PV) → List (κ × V) → Prop := Paired fun p q => p.1 = q.1 ∧ RP K H p.2 q.2
def OAt (K : PySem.W.Frag) (H : Hp) (a : Addr) : PO → Prop
  | .exc C => H a = some (.ext (ExcA a C))
  | .lst l => ∃ us, H a = some (.lst us) ∧ RPs K H l us
  | .ins C dx fs => ∃ gs, H a = some (.ins C dx gs) ∧ FRel K H fs gs
  | .dK kvs => ∃ ws, H a = some (.dK ws) ∧ FRel K H kvs ws
  | .dT kvs => ∃ ws, H a = some (.dT ws) ∧ FRel K H kvs ws
abbrev HR (K : PySem.W.Frag) (H' : PHp) (H : Hp) : Prop := ∀ a o, H' a = some o → OAt K H a o
abbrev St' := List (Option PV)
abbrev Bs := PHp × Hp
def Ev (H' : PHp) (H : Hp) (H1' : PHp) (H1 : Hp) : Prop := ∀ a o, H a = some o → H' a = none → H1 a = some o ∧ H1' a = none
structure SR (K : PySem.W.Frag) (B : Bs) (σ' : St') (H' : PHp) (σ : L2.St) (H : Hp) : Prop where
  len : σ'.length = σ.length
  loc : ∀ (i : Nat) (v' : PV), σ'[i]? = some (some v') → ∃ v, σ[i]? = some (some v) ∧ RP K H v' v
  hp : HR K H' H
  ev : Ev B.1 B.2 H' H
theorem Ev.refl (H' : PHp) (H : Hp) : Ev H' H H' H := fun _ _ h h' => ⟨h, h'⟩
theorem Ev.trans {H' : PHp} {H : Hp} {H1' : PHp} {H1 : Hp} {H2' : PHp} {H2 : Hp} (a : Ev H' H H1' H1) (b : Ev H1' H1 H2' H2) : Ev H' H H2' H2 := fun c o h h' => by
  obtain ⟨p, q⟩ := a c o h h'
  exact b c o p q
section
variable {K : PySem.W.Frag}
theorem FRel.kp {κ : Type} {H H1 : Hp} (k : Kp H H1) {fs : List (κ × PV)} {gs : List (κ × V)} (h : FRel K H fs gs) : FRel K H1 fs gs := Paired.mapP h fun _ _ ⟨a, b⟩ => ⟨a, RP.kp K k b⟩
theorem OAt.some {H : Hp} {a : Addr} : ∀ {o : PO}, OAt K H a o → ∃ u, H a = Option.some u ∧ (∀ us, u ≠ .tup us) ∧ (∀ o us, u ≠ .frz o us) ∧ (∀ x, u ≠ .own x)
  | .exc C, e => ⟨_, e, (fun _ => by nofun), (fun _ _ => by nofun), (fun _ => by nofun)⟩
  | .lst l, ⟨us, e, _⟩ => ⟨_, e, (fun _ => by nofun), (fun _ _ => by nofun), (fun _ => by nofun)⟩
  | .ins C dx fs, ⟨us, e, _⟩ => ⟨_, e, (fun _ => by nofun), (fun _ _ => by nofun), (fun _ => by nofun)⟩
  | .dK l, ⟨us, e, _⟩ => ⟨_, e, (fun _ => by nofun), (fun _ _ => by nofun), (fun _ => by nofun)⟩
  | .dT l, ⟨us, e, _⟩ => ⟨_, e, (fun _ => by nofun), (fun _ _ => by nofun), (fun _ => by nofun)⟩
theorem OAt.keep {H H1 : Hp} {a : Addr} (k : Kp H H1) (e : H1 a = H a) : ∀ {o : PO}, OAt K H a o → OAt K H1 a o
  | .exc C, h => e.trans h
  | .lst l, ⟨us, h, r⟩ => ⟨us, e.trans h, RPs.kp K k r⟩
  | .ins C dx fs, ⟨us, h, r⟩ => ⟨us, e.trans h, FRel.kp k r⟩
  | .dK l, ⟨us, h, r⟩ => ⟨us, e.trans h, FRel.kp k r⟩
  | .dT l, ⟨us, h, r⟩ => ⟨us, e.trans h, FRel.kp k r⟩
theorem HR.tup {H' : PHp} {H : Hp} (h : HR K H' H) {a : Addr} {us : List V} (e : H a = some (.tup us)) : H' a = none := by
  cases q : H' a with
  | none => rfl
  | some o => obtain ⟨u, e1, n, _⟩ := (h a o q).some; rw [e] at e1; exact absurd (Option.some.inj e1).symm (n us)
theorem HR.frz {H' : PHp} {H : Hp} (h : HR K H' H) {a : Addr} {o : Obj} {u : HO} (e : H a = some (.frz o u)) : H' a = none := by
  cases q : H' a with
  | none => rfl
  | some o' => obtain ⟨u', e1, _, n, _⟩ := (h a o' q).some; rw [e] at e1; exact absurd (Option.some.inj e1).symm (n o u)
theorem HR.free {H' : PHp} {H : Hp} (h : HR K H' H) {a : Addr} (e : H a = none) : H' a = none := by
  cases q : H' a with
  | none => rfl
  | some o => obtain ⟨u, e1, _⟩ := (h a o q).some; rw [e] at e1; cases e1
theorem Ev.kp {H' : PHp} {H : Hp} {H1' : PHp} {H1 : Hp} (e : Ev H' H H1' H1) (h : HR K H' H) : Kp H H1 :=
  ⟨fun a us q => (e a _ q (h.tup q)).1, fun a o u q => (e a _ q (h.frz q)).1⟩
theorem kp_fresh {H : Hp} {p : Addr} {o : HO} (e : H p = none) : Kp H (upd H p o) :=
  ⟨fun a us q => by rw [upd_ne (ne_of_none q e)]; exact q, fun a o u q => by rw [upd_ne (ne_of_none q e)]; exact q⟩
theorem kp_write {H : Hp} {p : Addr} {o u : HO} (e : H p = some u) (n1 : ∀ us, u ≠ .tup us) (n2 : ∀ o us, u ≠ .frz o us) : Kp H (upd H p o) :=
  ⟨fun a us q => by rw [upd_ne (ne_of q e fun z => n1 us z.symm)]; exact q, fun a o' u' q => by rw [upd_ne (ne_of q e fun z => n2 o' u' z.symm)]; exact q⟩
theorem SR.kp {B : Bs} {σ' : St'} {H' H1' : PHp} {σ : L2.St} {H H1 : Hp} (s : SR K B σ' H' σ H) (e : Ev H' H H1' H1) (h : HR K H1' H1) : SR K B σ' H1' σ H1 :=
  ⟨s.len, fun i v' q => by obtain ⟨v, a, b⟩ := s.loc i v' q; exact ⟨v, a, RP.kp K (e.kp s.hp) b⟩, h, s.ev.trans e⟩
theorem HR.hid {H' : PHp} {H : Hp} {p : Addr} {o : HO} (h : HR K H' H) (e : H p = none) : HR K H' (upd H p o) := fun a u q => by
  have na : a ≠ p := by rintro rfl; rw [h.free e] at q; cases q
  exact (h a u q).keep (kp_fresh e) (upd_ne na)
theorem Ev.hid {H' : PHp} {H : Hp} {p : Addr} {o : HO} (e : H p = none) : Ev H' H H' (upd H p o) := fun a u q n => ⟨by rw [upd_ne (ne_of_none q e)]; exact q, n⟩
theorem HR.new {H' : PHp} {H : Hp} {p : Addr} {o : HO} {o' : PO} (h : HR K H' H) (e : H p = none) (new : OAt K (upd H p o) p o') : HR K (put H' p o') (upd H p o) := fun a u q => by
  by_cases hp : a = p
  · subst hp; rw [put_same] at q; cases q; exact new
  · rw [put_ne hp] at q; exact (h a u q).keep (kp_fresh e) (upd_ne hp)
theorem Ev.new {H' : PHp} {H : Hp} {p : Addr} {o : HO} {o' : PO} (e : H p = none) : Ev H' H (put H' p o') (upd H p o) := fun a u q n => by
  have na := ne_of_none q e
  exact ⟨by rw [upd_ne na]; exact q, by rw [put_ne na]; exact n⟩
theorem HR.wr {H' : PHp} {H : Hp} {p : Addr} {o : HO} {o' u' : PO} (h : HR K H' H) (e : H' p = some u') (new : OAt K (upd H p o) p o') : HR K (put H' p o') (upd H p o) := fun a u q => by
  obtain ⟨v, e1, n1, n2, _⟩ := (h p u' e).some
  by_cases hp : a = p
  · subst hp; rw [put_same] at q; cases q; exact new
  · rw [put_ne hp] at q; exact (h a u q).keep (kp_write e1 n1 n2) (upd_ne hp)
theorem HR.kpw {H' : PHp} {H : Hp} {p : Addr} {o : HO} {u' : PO} (h : HR K H' H) (e : H' p = some u') : Kp H (upd H p o) := by
  obtain ⟨v, e1, n1, n2, _⟩ := (h p u' e).some
  exact kp_write e1 n1 n2
theorem Ev.wr {H' : PHp} {H : Hp} {p : Addr} {o : HO} {o' u' : PO} (e : H' p = some u') : Ev H' H (put H' p o') (upd H p o) := fun a u q n => by
  have na : a ≠ p := by rintro rfl; rw [e] at n; cases n
  exact ⟨by rw [upd_ne na]; exact q, by rw [put_ne na]; exact n⟩
def Sub (A B : PHp) : Prop := ∀ a o, A a = some o → B a = some o
theorem Sub.refl (A : PHp) : Sub A A := fun _ _ h => h
theorem Sub.trans {A B C : PHp} (a : Sub A B) (b : Sub B C) : Sub A C := fun c o h => b c o (a c o h)
theorem Sub.put {A B : PHp} {p : Addr} {o : PO} (a : Sub A B) (n : A p = none) : Sub A (put B p o) := fun c u h => by rw [put_ne (ne_none h n)]; exact a c u h
theorem Sub.free {A B : PHp} (a : Sub A B) {p : Addr} (n : B p = none) : A p = none := by
  cases q : A p with
  | none => rfl
  | some o => rw [a p o q] at n; cases n
theorem HR.sub {A B : PHp} {H : Hp} (h : HR K B H) (s : Sub A B) : HR K A H := fun a o e => h a o (s a o e)
theorem Ev.sub {H' : PHp} {H : Hp} {A B : PHp} {H1 : Hp} (e : Ev H' H B H1) (s : Sub A B) : Ev H' H A H1 := fun a o q n => by
  obtain ⟨x, y⟩ := e a o q n
  exact ⟨x, s.free y⟩
end
end U


set_option linter.all false
set_option maxRecDepth 1000000
set_option maxHeartbeats 4000000
namespace U
open PySem PySem.Spec PyProof.Rows L2
variable {B : Bs}
abbrev VK' := PV → PHp → Prop
abbrev TE' := St' → PHp → VK' → Prop
abbrev TT' := St' → PHp → (Bool → PHp → Prop) → Prop
abbrev TA' := St' → PHp → (List PV → PHp → Prop) → Prop
abbrev XK' := Value → Option Addr → PHp → Prop
structure Ends' where
  nx : St' → PHp → Prop
  rt : VK'
  bk : St' → PHp → Prop := fun _ _ => False
  ct : St' → PHp → Prop := fun _ _ => False
abbrev TS' := Ends' → St' → PHp → Prop
abbrev TG' := PV → St' → PHp → (St' → PHp → Prop) → Prop
abbrev TGs' := List PV → St' → PHp → (St' → PHp → Prop) → Prop
structure It' where
  items : List PV
  ok : PHp → Prop
abbrev TI' := St' → PHp → (It' → PHp → Prop) → Prop
section
variable (K : PySem.W.Frag) (B : Bs)
def low (t : TE') : TE := fun σ H Q => ∃ σ' H' Q', SR K B σ' H' σ H ∧ t σ' H' Q' ∧ ∀ v' H1' v H1, Q' v' H1' → RP K H1 v' v → SR K B σ' H1' σ H1 → Ev H' H H1' H1 → Q v H1
def lowT (t : TT') : TT := fun σ H Q => ∃ σ' H' Q', SR K B σ' H' σ H ∧ t σ' H' Q' ∧ ∀ b H1' H1, Q' b H1' → SR K B σ' H1' σ H1 → Ev H' H H1' H1 → Q b H1
def lowA (t : TA') : TA := fun σ H Q => ∃ σ' H' Q', SR K B σ' H' σ H ∧ t σ' H' Q' ∧ ∀ vs' H1' vs H1, Q' vs' H1' → RPs K H1 vs' vs → SR K B σ' H1' σ H1 → Ev H' H H1' H1 → Q vs H1
structure DR (D' : Ends') (D : Ends) (H' : PHp) (H : Hp) : Prop where
  nx : ∀ σ1' H1' σ1 H1, D'.nx σ1' H1' → SR K B σ1' H1' σ1 H1 → Ev H' H H1' H1 → D.nx σ1 H1
  rt : ∀ v' H1' v H1, D'.rt v' H1' → RP K H1 v' v → HR K H1' H1 → Ev H' H H1' H1 → D.rt v H1
  bk : ∀ σ1' H1' σ1 H1, D'.bk σ1' H1' → SR K B σ1' H1' σ1 H1 → Ev H' H H1' H1 → D.bk σ1 H1
  ct : ∀ σ1' H1' σ1 H1, D'.ct σ1' H1' → SR K B σ1' H1' σ1 H1 → Ev H' H H1' H1 → D.ct σ1 H1
theorem DR.ev {D' : Ends'} {D : Ends} {H' : PHp} {H : Hp} {H1' : PHp} {H1 : Hp} (d : DR K B D' D H' H) (e : Ev H' H H1' H1) : DR K B D' D H1' H1 :=
  ⟨fun a b c f p q r => d.nx a b c f p q (e.trans r), fun a b c f p q r s => d.rt a b c f p q r (e.trans s), fun a b c f p q r => d.bk a b c f p q (e.trans r), fun a b c f p q r => d.ct a b c f p q (e.trans r)⟩
def lowS (t : TS') : TS := fun D σ H => ∃ σ' H' D', SR K B σ' H' σ H ∧ t D' σ' H' ∧ DR K B D' D H' H
def lowG (t : TG') : TG := fun v σ H Q => ∃ v' σ' H' Q', RP K H v' v ∧ SR K B σ' H' σ H ∧ t v' σ' H' Q' ∧ ∀ σ1' H1' σ1 H1, Q' σ1' H1' → SR K B σ1' H1' σ1 H1 → Ev H' H H1' H1 → Q σ1 H1
def lowGs (t : TGs') : TGs := fun vs σ H Q => ∃ vs' σ' H' Q', RPs K H vs' vs ∧ SR K B σ' H' σ H ∧ t vs' σ' H' Q' ∧ ∀ σ1' H1' σ1 H1, Q' σ1' H1' → SR K B σ1' H1' σ1 H1 → Ev H' H H1' H1 → Q σ1 H1
structure Walks (H1 : Hp) (J : It) (J' : It') : Prop where
  go : ∀ H' H i, Kp H1 H → HR K H' H → J'.ok H' → i < J'.items.length → J.go i H
  yld : ∀ H' H i x H2, Kp H1 H → HR K H' H → J'.ok H' → J.yld i H x H2 → H2 = H ∧ ∀ x', J'.items[i]? = some x' → RP K H x' x
  stop : ∀ H' H i, Kp H1 H → HR K H' H → J'.ok H' → J'.items.length ≤ i → J.stop i H
def lowI (t : TI') : TI := fun σ H R => ∃ σ' H' R', SR K B σ' H' σ H ∧ t σ' H' R' ∧ ∀ J' H1' J H1, R' J' H1' → Walks K H1 J J' → SR K B σ' H1' σ H1 → Ev H' H H1' H1 → R J H1
end
section
variable {X : Cx}
theorem pe_imp {e : Expr} {t1 t2 : TE} (h : PE X e t2) (i : ∀ σ H Q, t1 σ H Q → t2 σ H Q) : PE X e t1 := fun pins s σ H Q I q => h pins s σ H Q I (i σ H Q q)
theorem pt_imp {e : Expr} {t1 t2 : TT} (h : PT X e t2) (i : ∀ σ H Q, t1 σ H Q → t2 σ H Q) : PT X e t1 := fun pins s σ H Q I q => h pins s σ H Q I (i σ H Q q)
theorem pw_imp {e : Expr} {t1 t2 : TT} (h : PW X e t2) (i : ∀ σ H Q, t1 σ H Q → t2 σ H Q) : PW X e t1 := fun w pins s σ H Q I q => h w pins s σ H Q I (i σ H Q q)
theorem pa_imp {e : List Expr} {t1 t2 : TA} (h : PA X e t2) (i : ∀ σ H Q, t1 σ H Q → t2 σ H Q) : PA X e t1 := fun p pins s σ H Q I q => h p pins s σ H Q I (i σ H Q q)
theorem ps_imp {e : Stmt} {t1 t2 : TS} (h : PS X e t2) (i : ∀ D σ H, t1 D σ H → t2 D σ H) : PS X e t1 := fun pins s σ H D I q => h pins s σ H D I (i D σ H q)
theorem pss_imp {e : List Stmt} {t1 t2 : TS} (h : PSs X e t2) (i : ∀ D σ H, t1 D σ H → t2 D σ H) : PSs X e t1 := fun pins s σ H D I q => h pins s σ H D I (i D σ H q)
theorem pg_imp {e : Expr} {t1 t2 : TG} (h : PG X e t2) (i : ∀ v σ H Q, t1 v σ H Q → t2 v σ H Q) : PG X e t1 := fun pins s σ H v u Q I r q => h pins s σ H v u Q I r (i v σ H Q q)
theorem pgs_imp {e : List Expr} {t1 t2 : TGs} (h : PGs X e t2) (i : ∀ v σ H Q, t1 v σ H Q → t2 v σ H Q) : PGs X e t1 := fun pins s σ H v u Q I r q => h pins s σ H v u Q I r (i v σ H Q q)
theorem pi_imp {tg e : Expr} {t1 t2 : TI} (h : PI X tg e t2) (i : ∀ σ H Q, t1 σ H Q → t2 σ H Q) : PI X tg e t1 := fun pins s σ H Q I q => h pins s σ H Q I (i σ H Q q)
abbrev PE' (X : Cx) (B : Bs) (e : Expr) (t : TE') : Prop := PE X e (low X.K B t)
abbrev PT' (X : Cx) (B : Bs) (e : Expr) (t : TT') : Prop := PT X e (lowT X.K B t)
abbrev PW' (X : Cx) (B : Bs) (e : Expr) (t : TT') : Prop := PW X e (lowT X.K B t)
abbrev PA' (X : Cx) (B : Bs) (e : List Expr) (t : TA') : Prop := PA X e (lowA X.K B t)
abbrev PS' (X : Cx) (B : Bs) (e : Stmt) (t : TS') : Prop := PS X e (lowS X.K B t)
abbrev PSs' (X : Cx) (B : Bs) (e : List Stmt) (t : TS') : Prop := PSs X e (lowS X.K B t)
abbrev PG' (X : Cx) (B : Bs) (e : Expr) (t : TG') : Prop := PG X e (lowG X.K B t)
abbrev PGs' (X : Cx) (B : Bs) (e : List Expr) (t : TGs') : Prop := PGs X e (lowGs X.K B t)
abbrev PI' (X : Cx) (B : Bs) (tg e : Expr) (t : TI') : Prop := PI X tg e (lowI X.K B t)
structure WalksH (K : PySem.W.Frag) (H1 : Hp) (J : It) (J' : It') : Prop where
  go : ∀ H' H i, Kp H1 H → HR K H' H → J'.ok H' → i < J'.items.length → J.go i H
  yld : ∀ H' H i x H2, Kp H1 H → HR K H' H → J'.ok H' → J.yld i H x H2 → HR K H' H2 ∧ Ev H' H H' H2 ∧ ∀ x', J'.items[i]? = some x' → RP K H2 x' x
  stop : ∀ H' H, Kp H1 H → HR K H' H → J'.ok H' → J.stop J'.items.length H
def lowIH (K : PySem.W.Frag) (B : Bs) (t : TI') : TI := fun σ H R => ∃ σ' H' R', SR K B σ' H' σ H ∧ t σ' H' R' ∧ ∀ J' H1' J H1, R' J' H1' → WalksH K H1 J J' → SR K B σ' H1' σ H1 → Ev H' H H1' H1 → R J H1
abbrev PIH (X : Cx) (B : Bs) (tg e : Expr) (t : TI') : Prop := PI X tg e (lowIH X.K B t)
theorem Walks.toH {K : PySem.W.Frag} {H1 : Hp} {J : It} {J' : It'} (w : Walks K H1 J J') : WalksH K H1 J J' := ⟨w.go, fun H' H i x H2 k hr o y => by
  obtain ⟨e, r⟩ := w.yld H' H i x H2 k hr o y
  subst e
  exact ⟨hr, Ev.refl _ _, r⟩, fun H' H k hr o => w.stop H' H _ k hr o (Nat.le_refl _)⟩
theorem pi_toH {X : Cx} {tg e : Expr} {t : TI'} (h : PI' X B tg e t) : PIH X B tg e t := pi_imp h fun σ H R q => by
  obtain ⟨σ', H', R', s, h, k⟩ := q
  exact ⟨σ', H', R', s, h, fun J' H1' J H1 r w => k J' H1' J H1 r w.toH⟩
def withV (o : Option (Option PV)) (k : PV → Prop) : Prop := match o with
  | some (some v) => k v
  | _ => False
theorem withV.ex {o : Option (Option PV)} {k : PV → Prop} (h : withV o k) : ∃ v, o = some (some v) ∧ k v := by
  unfold withV at h; split at h
  · exact ⟨_, rfl, h⟩
  · exact h.elim
def uVar (i : Nat) : TE' := fun σ H Q => withV σ[i]? fun v => Q v H
def uC (v : PV) : TE' := fun _ H Q => Q v H
theorem qv (i : Nat) {x : Str} {pos : Pos} (hN : X.N[i]? = some x := by rfl) (hv : Vis X.env.scope x := by first | exact Or.inl rfl | exact Or.inr (Or.inl rfl) | exact Or.inr (Or.inr rfl)) (hd : (x == ("__debug__" : Str)) = false := by decide)
    (hcd : (x == ("__classdict__" : Str)) = false := by decide) : PE' X B (.Name x pos) (uVar i) := pe_imp (pv i hN hv hd hcd) fun σ H Q ⟨σ', H', Q', s, h, k⟩ => by
  obtain ⟨v', e, q⟩ := h.ex
  obtain ⟨v, a, b⟩ := s.loc i v' e
  exact ⟨v, a, k v' H' v H q b s (Ev.refl _ _)⟩
theorem lowC {K : PySem.W.Frag} {v' : PV} {v : V} (r : ∀ H, RP K H v' v) {σ : L2.St} {H : Hp} {Q : VK} (h : low K B (uC v') σ H Q) : tC v σ H Q := by
  obtain ⟨σ', H', Q', s, h, k⟩ := h
  exact k v' H' v H h (r H) s (Ev.refl _ _)
theorem qe_int {i j pos} : PE' X B (.Constant (.int i) j pos) (uC (.int i)) := pe_imp pe_int fun _ _ _ h => lowC (fun _ => by simp [RP]) h
theorem qe_bl {i j pos} : PE' X B (.Constant (.bool i) j pos) (uC (.bl i)) := pe_imp pe_bl fun _ _ _ h => lowC (fun _ => by simp [RP]) h
theorem qe_str {i j pos} : PE' X B (.Constant (.str i) j pos) (uC (.str i)) := pe_imp pe_str fun _ _ _ h => lowC (fun _ => by simp [RP]) h
theorem qe_non {j pos} : PE' X B (.Constant .none j pos) (uC .non) := pe_imp pe_non fun _ _ _ h => lowC (fun _ => by simp [RP]) h
theorem qe_glob {x : Str} {v' : PV} {v : V} {u : Value} {pos : Pos} (hg : Gl X x) (hm : X.mg x = some u) (r : RelV v u) (r' : ∀ H, RP X.K H v' v) (hd : (x == ("__debug__" : Str)) = false := by decide) : PE' X B (.Name x pos) (uC v') :=
  pe_imp (pe_glob hg hm r hd) fun _ _ _ h => lowC r' h
abbrev R2' := PV → PV → PHp → VK' → Prop
def VR (K : PySem.W.Frag) (B : Bs) (r' : R2') (r : R2) : Prop := ∀ (σ' : St') (σ : L2.St) (H' : PHp) (H : Hp) x' y' x y (Q' : VK') (Q : VK), SR K B σ' H' σ H → RP K H x' x → RP K H y' y → r' x' y' H' Q' →
  (∀ v' H1' v H1, Q' v' H1' → RP K H1 v' v → SR K B σ' H1' σ H1 → Ev H' H H1' H1 → Q v H1) → r x y H Q
def uOp (r : R2') (ta tb : TE') : TE' := fun σ H Q => ta σ H fun x H1 => tb σ H1 fun y H2 => r x y H2 Q
theorem low_op {K : PySem.W.Frag} {r' : R2'} {r : R2} {ta tb : TE'} (v : VR K B r' r) {σ : L2.St} {H : Hp} {Q : VK} (h : low K B (uOp r' ta tb) σ H Q) : tOp r (low K B ta) (low K B tb) σ H Q := by
  obtain ⟨σ', H', Q', s, h, k⟩ := h
  refine ⟨σ', H', _, s, h, fun x' H1' x H1 h1 rx s1 e1 => ⟨σ', H1', _, s1, h1, fun y' H2' y H2 h2 ry s2 e2 => ?_⟩⟩
  exact v σ' σ H2' H2 x' y' x y Q' Q s2 (RP.kp K (e2.kp s1.hp) rx) ry h2 fun v' H3' v H3 q rv s3 e3 => k v' H3' v H3 q rv s3 (e1.trans (e2.trans e3))
variable {a b c : Expr} {ta tb tc : TE'} {pos : Pos}
theorem qe_op {op : Operator} {r' : R2'} {r : R2} (ho : OpR X (binaryOp op) r) (v : VR X.K B r' r) (ha : PE' X B a ta) (hb : PE' X B b tb) : PE' X B (.BinOp a op b pos) (uOp r' ta tb) := pe_imp (pe_op ho ha hb) fun _ _ _ h => low_op v h
theorem qe_cmp {op : CmpOp} {r' : R2'} {r : R2} (ho : OpR X (compareOp op) r) (v : VR X.K B r' r) (ha : PE' X B a ta) (hb : PE' X B b tb) (hm : behindInMarks op b = false) : PE' X B (.Compare a [op] [b] pos) (uOp r' ta tb) :=
  pe_imp (pe_cmpR ho ha hb hm) fun _ _ _ h => low_op v h
def cif (b : Bool) (A B : Prop) : Prop := match b with
  | true => A
  | false => B
theorem cif_t {A B : Prop} : cif true A B = A := rfl
theorem cif_f {A B : Prop} : cif false A B = B := rfl
theorem cif_by {b : Bool} {A B : Prop} (h1 : b = true → A) (h2 : b = false → B) : cif b A B := by
  cases b
  · exact h2 rfl
  · exact h1 rfl
theorem cif_pos {b : Bool} {A B : Prop} (h : b = true) (h1 : A) : cif b A B := by subst h; exact h1
theorem cif_neg {b : Bool} {A B : Prop} (h : b = false) (h1 : B) : cif b A B := by subst h; exact h1
def withB (x : PV) (k : Bool → Prop) : Prop := match x with
  | .bl b => k b
  | _ => False
theorem withB.ex {x : PV} {k : Bool → Prop} (h : withB x k) : ∃ v, x = .bl v ∧ k v := by
  unfold withB at h; split at h
  · exact ⟨_, rfl, h⟩
  · exact h.elim
def withI (x : PV) (k : Int → Prop) : Prop := match x with
  | .int i => k i
  | _ => False
theorem withI.ex {x : PV} {k : Int → Prop} (h : withI x k) : ∃ v, x = .int v ∧ k v := by
  unfold withI at h; split at h
  · exact ⟨_, rfl, h⟩
  · exact h.elim
def uTest (t : TE') : TT' := fun σ H Q => t σ H fun x H1 => withB x fun b => Q b H1
theorem low_test {K : PySem.W.Frag} {t : TE'} {σ : L2.St} {H : Hp} {Q : Bool → Hp → Prop} (h : lowT K B (uTest t) σ H Q) : tTest (low K B t) σ H Q := by
  obtain ⟨σ', H', Q', s, h, k⟩ := h
  refine ⟨σ', H', _, s, h, fun x' H1' x H1 h1 rx s1 e1 => ?_⟩
  obtain ⟨b, rfl, q⟩ := h1.ex
  simp only [RP] at rx
  exact ⟨b, rx, k b H1' H1 q s1 e1⟩
theorem qt_val {e : Expr} {t : TE'} (h : PE' X B e t) (he : ∀ whole, isTrue e X.env whole = (do let v ← whole; standAt e.pos; holding [v] (truthy v)) := by intro _; rfl) : PT' X B e (uTest t) := pt_imp (pt_val h he) fun _ _ _ h => low_test h
theorem qt_cmp {op : CmpOp} {r' : R2'} {r : R2} (ho : OpR X (compareOp op) r) (v : VR X.K B r' r) (ha : PE' X B a ta) (hb : PE' X B b tb) (hm : behindInMarks op b = false) : PT' X B (.Compare a [op] [b] pos) (uTest (uOp r' ta tb)) :=
  pt_imp (pt_cmpR ho ha hb hm) fun _ _ _ h => by
    obtain ⟨σ', H', Q', s, h, k⟩ := low_test h
    exact low_op v ⟨σ', H', Q', s, h, k⟩
def uChain (r r' : R2') (ta tb tc : TE') : TE' := fun σ H Q => ta σ H fun x H1 => tb σ H1 fun y H2 => r x y H2 fun z H3 => withB z fun k => cif k (tc σ H3 fun w' H4 => r' y w' H4 Q) (Q (.bl false) H3)
def uI (C : Int → Int → Prop) (g : Int → Int → PV) : R2' := fun x y H Q => withI x fun i => withI y fun j => C i j ∧ Q (g i j) H
def uI0 (g : Int → Int → PV) : R2' := fun x y H Q => withI x fun i => withI y fun j => Q (g i j) H
theorem vr_I {K : PySem.W.Frag} {C : Int → Int → Prop} {g' : Int → Int → PV} {g : Int → Int → V} (r : ∀ i j H, RP K H (g' i j) (g i j)) : VR K B (uI C g') (rI C g) := by
  intro σ' σ H' H x' y' x y Q' Q s rx ry h k
  obtain ⟨i, rfl, h1⟩ := withI.ex h
  obtain ⟨j, rfl, hc, h⟩ := withI.ex h1
  simp only [RP] at rx ry
  exact ⟨i, j, rx, ry, hc, k _ H' _ H h (r i j H) s (Ev.refl _ _)⟩
theorem vr_I0 {K : PySem.W.Frag} {g' : Int → Int → PV} {g : Int → Int → V} (r : ∀ i j H, RP K H (g' i j) (g i j)) : VR K B (uI0 g') (rI0 g) := by
  intro σ' σ H' H x' y' x y Q' Q s rx ry h k
  obtain ⟨i, rfl, h1⟩ := withI.ex h
  obtain ⟨j, rfl, h⟩ := withI.ex h1
  simp only [RP] at rx ry
  exact ⟨i, j, rx, ry, k _ H' _ H h (r i j H) s (Ev.refl _ _)⟩
abbrev uAdd : R2' := uI0 fun i j => .int (i + j)
abbrev uSub : R2' := uI0 fun i j => .int (i - j)
abbrev uLt : R2' := uI0 fun i j => .bl (decide (i < j))
abbrev uLe : R2' := uI0 fun i j => .bl (decide (i ≤ j))
abbrev uGt : R2' := uI0 fun i j => .bl (decide (j < i))
abbrev uGe : R2' := uI0 fun i j => .bl (decide (j ≤ i))
def Fit (i : Int) : Prop := i.natAbs.log2 < 9000
def CMulN (i j : Int) : Prop := CMul i j ∨ (Fit i ∧ Fit j)
def CDivB (i j : Int) : Prop := j ≠ 0 ∧ Fit j
theorem CMulN.ok {i j : Int} (h : CMulN i j) : IntMulOk i j := by
  rcases h with h | ⟨h1, h2⟩
  · exact h.ok
  · unfold IntMulOk
    have e : ∀ x : Int, Fit x → Builtin.Int.intBits x ≤ 9000 := fun x hx => by
      unfold Builtin.Int.intBits Fit at *
      split <;> omega
    have e1 := e i h1
    have e2 := e j h2
    have e3 : Builtin.Int.intTooBig (Builtin.Int.intBits i + Builtin.Int.intBits j) = false := by
      unfold Builtin.Int.intTooBig
      refine decide_eq_false ?_
      show ¬ (bitsLine : Int) < _
      have hb : (18000 : Nat) ≤ bitsLine := by decide +kernel
      omega
    rw [e3]
    simp
abbrev uMul : R2' := uI CMulN fun i j => .int (i * j)
abbrev uFdiv : R2' := uI CDivB fun i j => .int (i.fdiv j)
theorem op_mulB {X : Cx} : OpR X (binaryOp .Mult) (rI CMulN fun i j => .int (i * j)) := opI fun _ _ _ _ _ _ _ hc q => mul_int q hc.ok
theorem op_fdivB {X : Cx} : OpR X (binaryOp .FloorDiv) (rI CDivB fun i j => .int (i.fdiv j)) := opI fun _ _ _ _ _ _ _ hc q => floordiv_int hc.1 q (.inl (PyProof.noPylong_of_log2 hc.2))
abbrev uMod : R2' := uI (fun _ j => j ≠ 0) fun i j => .int (i.fmod j)
abbrev uPow : R2' := uI CPow fun i j => .int (i ^ j.toNat)
theorem qe_add (ha : PE' X B a ta) (hb : PE' X B b tb) : PE' X B (.BinOp a .Add b pos) (uOp uAdd ta tb) := qe_op op_add (vr_I0 fun _ _ _ => by simp [RP]) ha hb
theorem qe_sub (ha : PE' X B a ta) (hb : PE' X B b tb) : PE' X B (.BinOp a .Sub b pos) (uOp uSub ta tb) := qe_op op_sub (vr_I0 fun _ _ _ => by simp [RP]) ha hb
theorem qe_mul (ha : PE' X B a ta) (hb : PE' X B b tb) : PE' X B (.BinOp a .Mult b pos) (uOp uMul ta tb) := qe_op op_mulB (vr_I fun _ _ _ => by simp [RP]) ha hb
theorem qe_fdiv (ha : PE' X B a ta) (hb : PE' X B b tb) : PE' X B (.BinOp a .FloorDiv b pos) (uOp uFdiv ta tb) := qe_op op_fdivB (vr_I fun _ _ _ => by simp [RP]) ha hb
theorem qe_mod (ha : PE' X B a ta) (hb : PE' X B b tb) : PE' X B (.BinOp a .Mod b pos) (uOp uMod ta tb) := qe_op op_modN (vr_I fun _ _ _ => by simp [RP]) ha hb
theorem qe_pow (ha : PE' X B a ta) (hb : PE' X B b tb) : PE' X B (.BinOp a .Pow b pos) (uOp uPow ta tb) := qe_op op_pow (vr_I fun _ _ _ => by simp [RP]) ha hb
theorem vr_lt {K : PySem.W.Frag} : VR K B uLt (rI0 fun i j => .bl (decide (i < j))) := vr_I0 fun _ _ _ => by simp [RP]
theorem vr_le {K : PySem.W.Frag} : VR K B uLe (rI0 fun i j => .bl (decide (i ≤ j))) := vr_I0 fun _ _ _ => by simp [RP]
theorem vr_gt {K : PySem.W.Frag} : VR K B uGt (rI0 fun i j => .bl (decide (j < i))) := vr_I0 fun _ _ _ => by simp [RP]
theorem vr_ge {K : PySem.W.Frag} : VR K B uGe (rI0 fun i j => .bl (decide (j ≤ i))) := vr_I0 fun _ _ _ => by simp [RP]
end
end U


set_option linter.all false
set_option maxRecDepth 1000000
set_option maxHeartbeats 4000000
namespace U
open PySem PySem.Spec PyProof.Rows L2
variable {B : Bs}
section
variable {X : Cx} {a b c e o : Expr} {es rest : List Expr} {ta tb tc : TE'} {tA tB : TT'} {t : TA'} {pos : Pos}
def uAnd (t u : TT') : TT' := fun σ H Q => t σ H fun c H1 => cif c (u σ H1 Q) (Q false H1)
def uOr (t u : TT') : TT' := fun σ H Q => t σ H fun c H1 => cif c (Q true H1) (u σ H1 Q)
def uNot (t : TT') : TT' := fun σ H Q => t σ H fun c H1 => Q (!c) H1
theorem qw_and1 (ha : PT' X B a tA) : PW' X B (.BoolOp .And [a] pos) tA := pw_and1 ha
theorem qw_or1 (ha : PT' X B a tA) : PW' X B (.BoolOp .Or [a] pos) tA := pw_or1 ha
theorem qw_and (ha : PT' X B a tA) (hb : PW' X B (.BoolOp .And (b :: rest) pos) tB) : PW' X B (.BoolOp .And (a :: b :: rest) pos) (uAnd tA tB) := pw_imp (pw_and ha hb) fun σ H Q ⟨σ', H', Q', s, h, k⟩ => by
  refine ⟨σ', H', _, s, h, fun x H1' H1 h1 s1 e1 => ?_⟩
  cases x with
  | true => exact iteT ⟨σ', H1', _, s1, h1, fun y H2' H2 h2 s2 e2 => k y H2' H2 h2 s2 (e1.trans e2)⟩
  | false => exact iteF (k false H1' H1 h1 s1 e1)
theorem qw_or (ha : PT' X B a tA) (hb : PW' X B (.BoolOp .Or (b :: rest) pos) tB) : PW' X B (.BoolOp .Or (a :: b :: rest) pos) (uOr tA tB) := pw_imp (pw_or ha hb) fun σ H Q ⟨σ', H', Q', s, h, k⟩ => by
  refine ⟨σ', H', _, s, h, fun x H1' H1 h1 s1 e1 => ?_⟩
  cases x with
  | false => exact iteF ⟨σ', H1', _, s1, h1, fun y H2' H2 h2 s2 e2 => k y H2' H2 h2 s2 (e1.trans e2)⟩
  | true => exact iteT (k true H1' H1 h1 s1 e1)
theorem qt_bool (h : PW' X B e tA) : PT' X B e tA := PW.pt h
theorem qt_not (ha : PT' X B a tA) : PT' X B (.UnaryOp .Not a pos) (uNot tA) := pt_imp (pt_not ha) fun σ H Q ⟨σ', H', Q', s, h, k⟩ => ⟨σ', H', _, s, h, fun x H1' H1 h1 s1 e1 => k _ H1' H1 h1 s1 e1⟩
def uAndV (ta tb : TE') : TE' := fun σ H Q => ta σ H fun x H1 => withB x fun c => cif c (tb σ H1 Q) (Q (.bl false) H1)
def uOrV (ta tb : TE') : TE' := fun σ H Q => ta σ H fun x H1 => withB x fun c => cif c (Q (.bl true) H1) (tb σ H1 Q)
def uNotV (ta : TE') : TE' := fun σ H Q => ta σ H fun x H1 => withB x fun c => Q (.bl (!c)) H1
theorem qe_one {op} (h : PE' X B a ta) : PE' X B (.BoolOp op [a] pos) ta := pe_one h
theorem qe_and (ha : PE' X B a ta) (hb : PE' X B (.BoolOp .And (b :: rest) pos) tb) : PE' X B (.BoolOp .And (a :: b :: rest) pos) (uAndV ta tb) := pe_imp (pe_and ha hb) fun σ H Q ⟨σ', H', Q', s, h, k⟩ => by
  refine ⟨σ', H', _, s, h, fun x H1' v H1 h1 r1 s1 e1 => ?_⟩
  obtain ⟨y, rfl, h1⟩ := h1.ex
  simp only [RP] at r1
  refine ⟨y, r1, ?_⟩
  cases y with
  | true => exact iteT ⟨σ', H1', _, s1, h1, fun y H2' v2 H2 h2 r2 s2 e2 => k y H2' v2 H2 h2 r2 s2 (e1.trans e2)⟩
  | false => exact iteF (k _ H1' _ H1 h1 (by simp [RP]) s1 e1)
theorem qe_or (ha : PE' X B a ta) (hb : PE' X B (.BoolOp .Or (b :: rest) pos) tb) : PE' X B (.BoolOp .Or (a :: b :: rest) pos) (uOrV ta tb) := pe_imp (pe_or ha hb) fun σ H Q ⟨σ', H', Q', s, h, k⟩ => by
  refine ⟨σ', H', _, s, h, fun x H1' v H1 h1 r1 s1 e1 => ?_⟩
  obtain ⟨y, rfl, h1⟩ := h1.ex
  simp only [RP] at r1
  refine ⟨y, r1, ?_⟩
  cases y with
  | false => exact iteF ⟨σ', H1', _, s1, h1, fun y H2' v2 H2 h2 r2 s2 e2 => k y H2' v2 H2 h2 r2 s2 (e1.trans e2)⟩
  | true => exact iteT (k _ H1' _ H1 h1 (by simp [RP]) s1 e1)
def uIf (t : TT') (ta tb : TE') : TE' := fun σ H Q => t σ H fun c H1 => cif c (ta σ H1 Q) (tb σ H1 Q)
theorem qe_ifExp (hc : PT' X B c tA) (ha : PE' X B a ta) (hb : PE' X B b tb) : PE' X B (.IfExp c a b pos) (uIf tA ta tb) := pe_imp (pe_ifExp hc ha hb) fun σ H Q ⟨σ', H', Q', s, h, k⟩ => by
  refine ⟨σ', H', _, s, h, fun x H1' H1 h1 s1 e1 => ?_⟩
  cases x with
  | true => exact iteT ⟨σ', H1', _, s1, h1, fun y H2' v2 H2 h2 r2 s2 e2 => k y H2' v2 H2 h2 r2 s2 (e1.trans e2)⟩
  | false => exact iteF ⟨σ', H1', _, s1, h1, fun y H2' v2 H2 h2 r2 s2 e2 => k y H2' v2 H2 h2 r2 s2 (e1.trans e2)⟩
def uUn (r : PV → PHp → VK' → Prop) (ta : TE') : TE' := fun σ H Q => ta σ H fun x H1 => r x H1 Q
theorem qe_neg (ha : PE' X B a ta) : PE' X B (.UnaryOp .USub a pos) (uUn (fun x H Q => withI x fun i => Q (.int (-i)) H) ta) := pe_imp (pe_un un_neg ha) fun σ H Q ⟨σ', H', Q', s, h, k⟩ => by
  refine ⟨σ', H', _, s, h, fun x H1' v H1 h1 r1 s1 e1 => ?_⟩
  obtain ⟨i, rfl, h1⟩ := withI.ex h1
  simp only [RP] at r1
  exact ⟨i, r1, k _ H1' _ H1 h1 (by simp [RP]) s1 e1⟩
def uNil : TA' := fun _ H Q => Q [] H
def uCons (ta : TE') (tr : TA') : TA' := fun σ H Q => ta σ H fun x H1 => tr σ H1 fun xs H2 => Q (x :: xs) H2
theorem qa_nil : PA' X B [] uNil := pa_imp pa_nil fun σ H Q ⟨σ', H', Q', s, h, k⟩ => k [] H' [] H h (RPs.nil _) s (Ev.refl _ _)
theorem qa_cons (ha : PE' X B e ta) (hr : PA' X B es t) (hs : starEach (e :: es) X.env = (false, eval e X.env) :: starEach es X.env := by rfl) : PA' X B (e :: es) (uCons ta t) := pa_imp (pa_cons ha hr hs) fun σ H Q ⟨σ', H', Q', s, h, k⟩ => by
  refine ⟨σ', H', _, s, h, fun x H1' v H1 h1 r1 s1 e1 => ⟨σ', H1', _, s1, h1, fun xs H2' vs H2 h2 r2 s2 e2 => ?_⟩⟩
  exact k _ H2' _ H2 h2 (RPs.cons _ (RP.kp _ (e2.kp s1.hp) r1) r2) s2 (e1.trans e2)
def uTup (t : TA') : TE' := fun σ H Q => t σ H fun xs H1 => xs.length ≤ sizeLine ∧ Q (.tup xs) H1
def uLst (t : TA') : TE' := fun σ H Q => t σ H fun xs H1 => xs.length ≤ sizeLine ∧ ∀ p, H1 p = none → Q (.ref p) (put H1 p (.lst xs))
theorem SR.hid {K : PySem.W.Frag} {σ' : St'} {σ : L2.St} {H' : PHp} {H : Hp} {p : Addr} {o : HO} (s : SR K B σ' H' σ H) (n : H p = none) : SR K B σ' H' σ (upd H p o) := s.kp (Ev.hid n) (s.hp.hid n)
theorem SR.new {K : PySem.W.Frag} {σ' : St'} {σ : L2.St} {H' : PHp} {H : Hp} {p : Addr} {o : HO} {o' : PO} (s : SR K B σ' H' σ H) (n : H p = none) (w : OAt K (upd H p o) p o') : SR K B σ' (put H' p o') σ (upd H p o) := s.kp (Ev.new n) (s.hp.new n w)
theorem SR.wr {K : PySem.W.Frag} {σ' : St'} {σ : L2.St} {H' : PHp} {H : Hp} {p : Addr} {o : HO} {o' u' : PO} (s : SR K B σ' H' σ H) (n : H' p = some u') (w : OAt K (upd H p o) p o') : SR K B σ' (put H' p o') σ (upd H p o) := s.kp (Ev.wr n) (s.hp.wr n w)
theorem newT {K : PySem.W.Frag} {H : Hp} {p : Addr} {xs : List PV} {us : List V} (n : H p = none) (r : RPs K H xs us) : RP K (upd H p (.tup us)) (.tup xs) (.ref p) := by
  simp only [RP]
  exact ⟨p, us, rfl, SqT.of upd_same, RPs.kp K (kp_fresh n) r⟩
theorem newL {K : PySem.W.Frag} {H : Hp} {p : Addr} {xs : List PV} {us : List V} (n : H p = none) (r : RPs K H xs us) : OAt K (upd H p (.lst us)) p (.lst xs) := ⟨us, upd_same, RPs.kp K (kp_fresh n) r⟩
theorem wrL {K : PySem.W.Frag} {H' : PHp} {H : Hp} {p : Addr} {u' : PO} {xs : List PV} {us : List V} (h : HR K H' H) (n : H' p = some u') (r : RPs K H xs us) : OAt K (upd H p (.lst us)) p (.lst xs) := ⟨us, upd_same, RPs.kp K (h.kpw n) r⟩
theorem qe_tup {x1} (h : PA' X B es t) : PE' X B (.Tuple es x1 pos) (uTup t) := pe_imp (pe_tup h) fun σ H Q ⟨σ', H', Q', s, h, k⟩ => by
  refine ⟨σ', H', _, s, h, fun xs H1' us H1 h1 r1 s1 e1 => ⟨by rw [RPs.length _ r1]; exact h1.1, fun p n => ?_⟩⟩
  exact k _ H1' _ _ h1.2 (newT n r1) (s1.hid n) (e1.trans (Ev.hid n))
theorem qe_lst (h : PA' X B es t) : PE' X B (.List es pos) (uLst t) := pe_imp (pe_lst h) fun σ H Q ⟨σ', H', Q', s, h, k⟩ => by
  refine ⟨σ', H', _, s, h, fun xs H1' us H1 h1 r1 s1 e1 => ⟨by rw [RPs.length _ r1]; exact h1.1, fun p n => ?_⟩⟩
  exact k _ _ _ _ (h1.2 p (s1.hp.free n)) (by simp [RP]) (s1.new n (newL n r1)) (e1.trans (Ev.new n))
def withS (x : PV) (H : PHp) (k : List PV → Prop) : Prop := match x with
  | .tup l => k l
  | .fls l => k l
  | .ref a => ∃ l, H a = some (.lst l) ∧ k l
  | _ => False
theorem withS.ex {K : PySem.W.Frag} {σ' : St'} {σ : L2.St} {x : PV} {v : V} {H' : PHp} {H : Hp} {k : List PV → Prop} (h : withS x H' k) (s : SR K B σ' H' σ H) (r : RP K H x v) : ∃ l us p, v = .ref p ∧ RPs K H l us ∧ (SqL K H p us ∨ SqT K H p us) ∧ k l := by
  unfold withS at h
  split at h
  · simp only [RP] at r; obtain ⟨a, us, e, q, r⟩ := r; exact ⟨_, us, a, e, r, .inr q, h⟩
  · simp only [RP] at r; obtain ⟨a, us, e, q, r⟩ := r; exact ⟨_, us, a, e, r, .inl q.sq, h⟩
  · simp only [RP] at r
    obtain ⟨l, e, h⟩ := h
    obtain ⟨us, q, r2⟩ := s.hp _ _ e
    exact ⟨l, us, _, r, r2, .inl (SqL.of q), h⟩
  · exact h.elim
theorem atI_ps {K : PySem.W.Frag} {H : Hp} {l : List PV} {us : List V} {i : Int} {x : PV} (r : RPs K H l us) (e : atI l i = some x) : ∃ u, atI us i = some u ∧ RP K H x u := by
  unfold atI at e ⊢
  rw [RPs.length _ r]
  cases q : ixN l.length i with
  | none => rw [q] at e; cases e
  | some j =>
    rw [q] at e
    obtain ⟨u, e1, e2⟩ := RPs.get _ r (show l[j]? = some x from e)
    exact ⟨u, e1, e2⟩
def withO (o : Option PV) (k : PV → Prop) : Prop := match o with
  | some v => k v
  | none => False
theorem withO.ex {o : Option PV} {k : PV → Prop} (h : withO o k) : ∃ v, o = some v ∧ k v := by
  unfold withO at h; split at h
  · exact ⟨_, rfl, h⟩
  · exact h.elim
def uIx : R2' := fun x y H Q => withS x H fun l => withI y fun i => withO (atI l i) fun v => Q v H
theorem ix_both {X : Cx} : IxR X (fun x y H Q => rIxL X.K x y H Q ∨ rIxT X.K x y H Q) := ix_list.or ix_tup
theorem vr_ix {K : PySem.W.Frag} : VR K B uIx (fun x y H Q => rIxL K x y H Q ∨ rIxT K x y H Q) := by
  intro σ' σ H' H x' y' x y Q' Q s rx ry h k
  obtain ⟨l, us, p, rfl, r, q, h1⟩ := withS.ex h s rx
  obtain ⟨i, rfl, h2⟩ := withI.ex h1
  obtain ⟨v, e, h3⟩ := withO.ex h2
  simp only [RP] at ry
  obtain ⟨u, e1, e2⟩ := atI_ps r e
  have := k v H' u H h3 e2 s (Ev.refl _ _)
  rcases q with q | q
  · exact .inl ⟨p, us, i, u, rfl, ry, q, e1, this⟩
  · exact .inr ⟨p, us, i, u, rfl, ry, q, e1, this⟩
theorem qe_ix (ha : PE' X B a ta) (hb : PE' X B b tb) (hs : PlainIx b) : PE' X B (.Subscript a b pos) (uOp uIx ta tb) := pe_imp (pe_ix ix_both ha hb hs) fun _ _ _ h => low_op vr_ix h
abbrev TO' := St' → PHp → (Option Int → PHp → Prop) → Prop
def lowO (K : PySem.W.Frag) (B : Bs) (t : TO') : TO := fun σ H Q => ∃ σ' H' Q', SR K B σ' H' σ H ∧ t σ' H' Q' ∧ ∀ b H1' H1, Q' b H1' → SR K B σ' H1' σ H1 → Ev H' H H1' H1 → Q b H1
abbrev PO' (X : Cx) (B : Bs) (e : Option Expr) (t : TO') : Prop := L2.PO X e (lowO X.K B t)
theorem po_imp {e : Option Expr} {t1 t2 : TO} (h : L2.PO X e t2) (i : ∀ σ H Q, t1 σ H Q → t2 σ H Q) : L2.PO X e t1 := fun pins s σ H Q I q => h pins s σ H Q I (i σ H Q q)
def uNoPart : TO' := fun _ H Q => Q none H
def uPart (t : TE') : TO' := fun σ H Q => t σ H fun x H1 => withI x fun i => Q (some i) H1
theorem qo_none : PO' X B none uNoPart := po_imp po_none fun σ H Q ⟨σ', H', Q', s, h, k⟩ => k none H' H h s (Ev.refl _ _)
theorem qo_some (h : PE' X B e ta) : PO' X B (some e) (uPart ta) := po_imp (po_some h) fun σ H Q ⟨σ', H', Q', s, h, k⟩ => by
  refine ⟨σ', H', _, s, h, fun x H1' v H1 h1 r1 s1 e1 => ?_⟩
  obtain ⟨i, rfl, h1⟩ := withI.ex h1
  simp only [RP] at r1
  exact ⟨i, r1, k _ H1' H1 h1 s1 e1⟩
def cutP (xs : List PV) (lo hi : Option Int) : List PV := (xs.drop (HT.sIx xs.length 0 lo)).take (HT.sIx xs.length xs.length hi - HT.sIx xs.length 0 lo)
theorem cut_ps {K : PySem.W.Frag} {H : Hp} {l : List PV} {us : List V} {lo hi : Option Int} (r : RPs K H l us) : RPs K H (cutP l lo hi) (cutV us lo hi) := by
  unfold cutP cutV
  rw [RPs.length _ r]
  exact RPs.take _ _ (RPs.drop _ _ r)
def sliceOf (x : PV) (lo hi : Option Int) (H3 : PHp) (Q : VK') : Prop := match x with
  | .fls l => ∀ p, H3 p = none → Q (.ref p) (put H3 p (.lst (cutP l lo hi)))
  | .ref a => ∃ l, H3 a = some (.lst l) ∧ ∀ p, H3 p = none → Q (.ref p) (put H3 p (.lst (cutP l lo hi)))
  | .tup l => ¬ (HT.sIx l.length 0 lo = 0 ∧ HT.sIx l.length l.length hi = l.length) ∧ Q (.tup (cutP l lo hi)) H3
  | _ => False
def uSlice (ta : TE') (tl th : TO') : TE' := fun σ H Q => ta σ H fun x H1 => tl σ H1 fun lo H2 => th σ H2 fun hi H3 => sliceOf x lo hi H3 Q
theorem qe_slice {lo hi : Option Expr} {tl th : TO'} {p2 : Pos} (he : PE' X B e ta) (hl : PO' X B lo tl) (hu : PO' X B hi th) : PE' X B (.Subscript e (.Slice lo hi none p2) pos) (uSlice ta tl th) :=
  pe_imp (pe_slice (sl_list.or sl_tup) he hl hu) fun σ H Q ⟨σ', H', Q', s, h, k⟩ => by
  refine ⟨σ', H', _, s, h, fun x H1' v H1 h1 r1 s1 e1 => ⟨σ', H1', _, s1, h1, fun l H2' H2 h2 s2 e2 => ⟨σ', H2', _, s2, h2, fun u H3' H3 h3 s3 e3 => ?_⟩⟩⟩
  have r3 := RP.kp _ (e3.kp s2.hp) (RP.kp _ (e2.kp s1.hp) r1)
  have e123 := e1.trans (e2.trans e3)
  cases x with
  | fls xs =>
    simp only [RP] at r3
    obtain ⟨a, us, e, q, r⟩ := r3
    refine .inl ⟨a, us, e, q.sq, fun p n => ?_⟩
    exact k _ _ _ _ (h3 p (s3.hp.free n)) (by simp [RP]) (s3.new n (newL n (cut_ps r))) (e123.trans (Ev.new n))
  | ref a =>
    simp only [RP] at r3
    obtain ⟨xs, q, h3⟩ := h3
    obtain ⟨us, q2, r⟩ := s3.hp _ _ q
    refine .inl ⟨a, us, r3, SqL.of q2, fun p n => ?_⟩
    exact k _ _ _ _ (h3 p (s3.hp.free n)) (by simp [RP]) (s3.new n (newL n (cut_ps r))) (e123.trans (Ev.new n))
  | tup xs =>
    simp only [RP] at r3
    obtain ⟨a, us, e, q, r⟩ := r3
    refine .inr ⟨a, us, e, q, by rw [RPs.length _ r]; exact h3.1, fun p n => ?_⟩
    exact k _ _ _ _ h3.2 (newT n (cut_ps r)) (s3.hid n) (e123.trans (Ev.hid n))
  | _ => exact h3.elim
def VC (K : PySem.W.Frag) (B : Bs) (r' : List PV → PHp → VK' → Prop) (r : List V → Hp → VK → Prop) : Prop := ∀ (σ' : St') (σ : L2.St) (H' : PHp) (H : Hp) xs' xs (Q' : VK') (Q : VK), SR K B σ' H' σ H → RPs K H xs' xs → r' xs' H' Q' →
  (∀ v' H1' v H1, Q' v' H1' → RP K H1 v' v → SR K B σ' H1' σ H1 → Ev H' H H1' H1 → Q v H1) → r xs H Q
def uCB (r : List PV → PHp → VK' → Prop) (t : TA') : TE' := fun σ H Q => t σ H fun vs H1 => r vs H1 Q
theorem low_cb {K : PySem.W.Frag} {r' : List PV → PHp → VK' → Prop} {r : List V → Hp → VK → Prop} {t : TA'} (v : VC K B r' r) {σ : L2.St} {H : Hp} {Q : VK} (h : low K B (uCB r' t) σ H Q) : tCB r (lowA K B t) σ H Q := by
  obtain ⟨σ', H', Q', s, h, k⟩ := h
  exact ⟨σ', H', _, s, h, fun xs' H1' xs H1 h1 rx s1 e1 => v σ' σ H1' H1 xs' xs Q' Q s1 rx h1 fun v' H3' v H3 q rv s3 e3 => k v' H3' v H3 q rv s3 (e1.trans e3)⟩
variable {x : Str} {p : Pos}
theorem qe_callB {id : String} {r' : List PV → PHp → VK' → Prop} {r : List V → Hp → VK → Prop} (hc : CallR X (.builtin id) r) (v : VC X.K B r' r) (hg : Gl X x) (hm : X.mg x = none) (hv : bootBuiltins x = some (.builtin id)) (ha : PA' X B (e :: es) t)
    (hn : x ≠ "__name__" := by decide) (hdb : (x == ("__debug__" : Str)) = false := by decide) (he : starEach (e :: es) X.env = (false, eval e X.env) :: starEach es X.env := by rfl) (hpl : (backTo pos (starEach es X.env)).any (·.1) = false := by rfl) :
    PE' X B (.Call (.Name x p) (e :: es) [] pos) (uCB r' t) := pe_imp (pe_callB hc hg hm hv ha hn hdb he hpl) fun _ _ _ h => low_cb v h
theorem qe_callTy {id : String} {r' : List PV → PHp → VK' → Prop} {r : List V → Hp → VK → Prop} (hc : CallR X (.type id) r) (v : VC X.K B r' r) (hg : Gl X x) (hm : X.mg x = none) (hv : bootBuiltins x = some (.type id)) (ha : PA' X B (e :: es) t)
    (hn : x ≠ "__name__" := by decide) (hdb : (x == ("__debug__" : Str)) = false := by decide) (he : starEach (e :: es) X.env = (false, eval e X.env) :: starEach es X.env := by rfl) (hpl : (backTo pos (starEach es X.env)).any (·.1) = false := by rfl) :
    PE' X B (.Call (.Name x p) (e :: es) [] pos) (uCB r' t) := pe_imp (pe_callTy hc hg hm hv ha hn hdb he hpl) fun _ _ _ h => low_cb v h
def arg1 (f : PV → PHp → VK' → Prop) : List PV → PHp → VK' → Prop := fun xs H Q => match xs with
  | [x] => f x H Q
  | _ => False
theorem arg1.ex {K : PySem.W.Frag} {H : Hp} {f : PV → PHp → VK' → Prop} {xs' : List PV} {xs : List V} {H' : PHp} {Q' : VK'} (h : arg1 f xs' H' Q') (r : RPs K H xs' xs) : ∃ x' x, xs' = [x'] ∧ xs = [x] ∧ RP K H x' x ∧ f x' H' Q' := by
  unfold arg1 at h
  split at h
  · simp only [RPs] at r
    obtain ⟨u, r, rfl, q, rfl⟩ := r
    exact ⟨_, u, rfl, rfl, q, h⟩
  · exact h.elim
def uLen : List PV → PHp → VK' → Prop := arg1 fun x H Q => withS x H fun l => Q (.int l.length) H
theorem vc_len {K : PySem.W.Frag} : VC K B uLen (fun xs H Q => ∃ p ys, xs = [.ref p] ∧ (SqL K H p ys ∨ SqT K H p ys) ∧ Q (.int ys.length) H) := by
  intro σ' σ H' H xs' xs Q' Q s r h k
  obtain ⟨x', x, rfl, rfl, rx, h⟩ := arg1.ex h r
  obtain ⟨l, us, p, rfl, r, q, h⟩ := withS.ex h s rx
  exact ⟨p, us, rfl, q, k _ H' _ H h (by simp [RP, RPs.length _ r]) s (Ev.refl _ _)⟩
def uAbs : List PV → PHp → VK' → Prop := arg1 fun x H Q => withI x fun i => Q (.int (if i < 0 then -i else i)) H
def b2n (b : Bool) : Int := if b then 1 else 0
def intOf (x : PV) (k : Int → Prop) : Prop := match x with
  | .int i => k i
  | .bl b => k (b2n b)
  | _ => False
def uInt : List PV → PHp → VK' → Prop := arg1 fun x H Q => intOf x fun i => Q (.int i) H
theorem vc_int {K : PySem.W.Frag} : VC K B uInt (fun xs H Q => (∃ i, xs = [.int i] ∧ Q (.int i) H) ∨ ∃ k, xs = [.bl k] ∧ Q (.int (if k then 1 else 0)) H) := by
  intro σ' σ H' H xs' xs Q' Q s r h k
  obtain ⟨x', x, rfl, rfl, rx, h⟩ := arg1.ex h r
  cases x' with
  | int i => simp only [RP] at rx; subst rx; exact .inl ⟨i, rfl, k _ H' _ H h (by simp [RP]) s (Ev.refl _ _)⟩
  | bl i => simp only [RP] at rx; subst rx; exact .inr ⟨i, rfl, k _ H' _ H h (by simp [RP, b2n]) s (Ev.refl _ _)⟩
  | _ => exact h.elim
def uList : List PV → PHp → VK' → Prop := arg1 fun x H Q => withS x H fun l => ∀ p, H p = none → Q (.ref p) (put H p (.lst l))
def uTuple : List PV → PHp → VK' → Prop := arg1 fun x H Q => withS x H fun l => Q (.tup l) H
theorem vc_tuple {K : PySem.W.Frag} : VC K B uTuple (fun xs H Q => ∃ p ys, xs = [.ref p] ∧ ((SqL K H p ys ∧ ∀ l, H l = none → Q (.ref l) (upd H l (.tup ys))) ∨ (SqT K H p ys ∧ Q (.ref p) H))) := by
  intro σ' σ H' H xs' xs Q' Q s r h k
  obtain ⟨x', x, rfl, rfl, rx, h⟩ := arg1.ex h r
  obtain ⟨l, us, p, rfl, r, q, h⟩ := withS.ex h s rx
  refine ⟨p, us, rfl, ?_⟩
  rcases q with q | q
  · exact .inl ⟨q, fun p n => k _ _ _ _ h (newT n r) (s.hid n) (Ev.hid n)⟩
  · exact .inr ⟨q, k _ _ _ _ h (by simp only [RP]; exact ⟨p, us, rfl, q, r⟩) s (Ev.refl _ _)⟩
end
end U


set_option linter.all false
set_option maxRecDepth 1000000
set_option maxHeartbeats 4000000
namespace U
open PySem PySem.Spec PyProof.Rows L2
variable {B : Bs}
section
variable {X : Cx} {a b c e o : Expr} {es : List Expr} {ta tb te : TE'} {tA tB : TT'} {st : Stmt} {sts : List Stmt} {t u : TS'} {pos : Pos}
def uNext : TS' := fun D σ H => D.nx σ H
def uSeq (t u : TS') : TS' := fun D σ H => t { D with nx := u D } σ H
theorem qss_nil : PSs' X B [] uNext := pss_imp pss_nil fun D σ H ⟨σ', H', D', s, h, d⟩ => d.nx _ _ _ _ h s (Ev.refl _ _)
theorem qss_cons (h1 : PS' X B st t) (h2 : PSs' X B sts u) : PSs' X B (st :: sts) (uSeq t u) := pss_imp (pss_cons h1 h2) fun D σ H ⟨σ', H', D', s, h, d⟩ =>
  ⟨σ', H', _, s, h, fun σ1' H1' σ1 H1 h1 s1 e1 => ⟨σ1', H1', D', s1, h1, d.ev _ _ e1⟩, d.rt, d.bk, d.ct⟩
theorem qss_one (h1 : PS' X B st t) : PSs' X B [st] t := pss_one h1
def uBreak : TS' := fun D σ H => D.bk σ H
def uCont : TS' := fun D σ H => D.ct σ H
def uDrop (te : TE') : TS' := fun D σ H => te σ H fun _ H1 => D.nx σ H1
theorem qs_expr (he : PE' X B e te) (hs : swapsWith e none pos.line X.env = pure false := by rfl) : PS' X B (.Expr e pos) (uDrop te) := ps_imp (ps_expr he hs) fun D σ H ⟨σ', H', D', s, h, d⟩ =>
  ⟨σ', H', _, s, h, fun v' H1' v H1 h1 r1 s1 e1 => d.nx _ _ _ _ h1 s1 e1⟩
def uRet (te : TE') : TS' := fun D σ H => te σ H D.rt
theorem qs_ret (he : PE' X B e te) : PS' X B (.Return (some e) pos) (uRet te) := ps_imp (ps_ret he) fun D σ H ⟨σ', H', D', s, h, d⟩ =>
  ⟨σ', H', _, s, h, fun v' H1' v H1 h1 r1 s1 e1 => d.rt _ _ _ _ h1 r1 s1.hp e1⟩
def uRetN : TS' := fun D _ H => D.rt .non H
def uIfS (c : TT') (t u : TS') : TS' := fun D σ H => c σ H fun b H1 => cif b (t D σ H1) (u D σ H1)
theorem qs_if {l1 l2 : List Stmt} (hc : PT' X B c tA) (ha : PSs' X B l1 t) (hb : PSs' X B l2 u) : PS' X B (.If c l1 l2 pos) (uIfS tA t u) := ps_imp (ps_if hc ha hb) fun D σ H ⟨σ', H', D', s, h, d⟩ => by
  refine ⟨σ', H', _, s, h, fun x H1' H1 h1 s1 e1 => ?_⟩
  cases x with
  | true => exact iteT ⟨σ', H1', D', s1, h1, d.ev _ _ e1⟩
  | false => exact iteF ⟨σ', H1', D', s1, h1, d.ev _ _ e1⟩
def uNever : TS' := fun _ _ _ => False
theorem qss_never : PSs' X B sts uNever := fun _ _ _ _ _ _ ⟨_, _, _, _, h, _⟩ => h.elim
def vName (i : Nat) : TG' := fun v σ H Q => Q (σ.set i (some v)) H
theorem SR.set {K : PySem.W.Frag} {σ' : St'} {H' : PHp} {σ : L2.St} {H : Hp} {v' : PV} {v : V} (s : SR K B σ' H' σ H) (r : RP K H v' v) (i : Nat) : SR K B (σ'.set i (some v')) H' (σ.set i (some v)) H := by
  refine ⟨by simp [s.len], fun j w e => ?_, s.hp, s.ev⟩
  by_cases hj : i = j
  · subst hj
    have hl : i < σ'.length := by
      rcases Nat.lt_or_ge i σ'.length with h | h
      · exact h
      · rw [List.getElem?_eq_none (by simpa using h)] at e; cases e
    rw [List.getElem?_set_self hl] at e
    cases e
    exact ⟨v, List.getElem?_set_self (by rw [← s.len]; exact hl), r⟩
  · rw [List.getElem?_set_ne hj] at e ⊢
    exact s.loc j w e
theorem qg_name {i : Nat} {x : Str} (hN : X.N.Nodup) (hi : X.N[i]? = some x) (hx : Loc X.env.scope x) (hf : X.fn x = true ∨ X.env.scope.names.lookup x = some .local := by first | exact .inl rfl | exact .inr rfl | assumption) : PG' X B (.Name x pos) (vName i) :=
  pg_imp (pg_name hN hi hx hf) fun v σ H Q ⟨v', σ', H', Q', r, s, h, k⟩ => k _ _ _ _ h (s.set r i) (Ev.refl _ _)
def vNil : TGs' := fun vs σ H Q => vs = [] ∧ Q σ H
def vCons (t : TG') (u : TGs') : TGs' := fun vs σ H Q => match vs with
  | v :: r => t v σ H fun σ' H' => u r σ' H' Q
  | [] => False
theorem qgs_nil : PGs' X B [] vNil := pgs_imp pgs_nil fun vs σ H Q ⟨v', σ', H', Q', r, s, h, k⟩ => by
  obtain ⟨rfl, h⟩ := h
  simp only [RPs] at r
  exact ⟨r, k _ _ _ _ h s (Ev.refl _ _)⟩
theorem qgs_cons {t : TG'} {u : TGs'} (h1 : PG' X B e t) (h2 : PGs' X B es u) (hs : (assignEach (e :: es) X.env).map (·.2) = assign e X.env :: (assignEach es X.env).map (·.2) := by rfl) : PGs' X B (e :: es) (vCons t u) :=
  pgs_imp (pgs_cons h1 h2 hs) fun vs σ H Q ⟨vs', σ', H', Q', r, s, h, k⟩ => by
  cases vs' with
  | nil => exact h.elim
  | cons v' r' =>
    simp only [RPs] at r
    obtain ⟨v, w, rfl, rv, rw'⟩ := r
    refine ⟨v, w, rfl, v', σ', H', _, rv, s, h, fun σ1' H1' σ1 H1 h1 s1 e1 => ⟨r', σ1', H1', Q', RPs.kp _ (e1.kp s.hp) rw', s1, h1, fun σ2' H2' σ2 H2 h2 s2 e2 => k _ _ _ _ h2 s2 (e1.trans e2)⟩⟩
def vTup (n : Nat) (t : TGs') : TG' := fun v σ H Q => match v with
  | .tup l => l.length = n ∧ t l σ H Q
  | _ => False
theorem qg_tup {k : Nat} {t : TGs'} {n : Nat} (hc : X.calm = true) (h : PGs' X B es t) (hn : (assignEach es X.env).length = n := by rfl) (hst : (assignEach es X.env).findIdx? (·.1) = none := by rfl) : PG' X B (.Tuple es k pos) (vTup n t) :=
  pg_imp (pg_tup hc h hn hst) fun v σ H Q ⟨v', σ', H', Q', r, s, h, k⟩ => by
  cases v' with
  | tup l =>
    obtain ⟨hl, h⟩ := h
    simp only [RP] at r
    obtain ⟨a, us, rfl, q, r⟩ := r
    exact ⟨a, us, rfl, q, by rw [RPs.length _ r]; exact hl, l, σ', H', Q', r, s, h, k⟩
  | _ => exact h.elim
def uAsg (te : TE') (g : TG') : TS' := fun D σ H => te σ H fun x H1 => g x σ H1 D.nx
theorem low_asg {K : PySem.W.Frag} {te : TE'} {g : TG'} {D : Ends} {σ : L2.St} {H : Hp} (h : lowS K B (uAsg te g) D σ H) : tAsg (low K B te) (lowG K B g) D σ H := by
  obtain ⟨σ', H', D', s, h, d⟩ := h
  exact ⟨σ', H', _, s, h, fun x H1' v H1 h1 r1 s1 e1 => ⟨x, σ', H1', _, r1, s1, h1, fun σ2' H2' σ2 H2 h2 s2 e2 => d.nx _ _ _ _ h2 s2 (e1.trans e2)⟩⟩
theorem qs_asg {tg : Expr} {g : TG'} (he : PE' X B e te) (hg : PG' X B tg g) (hs : swapsWithSole [tg] e pos.line X.env = pure false := by rfl) (hw : swappedStores [tg] e X.env = pure none := by rfl)
    (h1 : (assignEach [tg] X.env).map (·.2) = [assign tg X.env] := by rfl) : PS' X B (.Assign [tg] e pos) (uAsg te g) := ps_imp (ps_asg he hg hs hw h1) fun _ _ _ h => low_asg h
theorem qs_set {i : Nat} {x : Str} {pos' : Pos} (hN : X.N.Nodup) (hi : X.N[i]? = some x) (hx : Loc X.env.scope x) (he : PE' X B e te) (hs : swapsWith e (some (.Name x pos')) pos.line X.env = pure false := by rfl) (hf : X.fn x = true ∨ X.env.scope.names.lookup x = some .local := by first | exact .inl rfl | exact .inr rfl | assumption) :
    PS' X B (.Assign [.Name x pos'] e pos) (uAsg te (vName i)) := ps_imp (ps_set hN hi hx he hs hf) fun D σ H h => by
  obtain ⟨σ', H', D', s, h, d⟩ := h
  exact ⟨σ', H', _, s, h, fun x H1' v H1 h1 r1 s1 e1 => d.nx _ _ _ _ h1 (s1.set r1 i) e1⟩
def uWhile (c : TT') (tb : TS') : TS' := fun D σ H => ∃ W : Nat → St' → PHp → Prop, (∃ m, W m σ H) ∧ ∀ m σ H, W m σ H →
  c σ H fun b H1 => cif b (∃ N : St' → PHp → Prop, (∀ σ' H', N σ' H' → ∃ m', m' < m ∧ W m' σ' H') ∧ tb { D with nx := N, ct := N, bk := D.nx } σ H1) (D.nx σ H1)
theorem qs_while {body : List Stmt} (hp : PassesOwn (model X.prog X.w) X.A X.env X.xe) (hc : PT' X B c tA) (hb : PSs' X B body t) : PS' X B (.While c body [] pos) (uWhile tA t) := ps_imp (ps_while hp hc hb) fun D σ H ⟨σ', H', D', s, ⟨W, ⟨m0, w0⟩, turn⟩, d⟩ => by
  refine ⟨fun m σ1 H1 => ∃ σ1' H1', SR X.K B σ1' H1' σ1 H1 ∧ Ev H' H H1' H1 ∧ W m σ1' H1', ⟨m0, σ', H', s, Ev.refl _ _, w0⟩, ?_⟩
  rintro m σ1 H1 ⟨σ1', H1', s1, e1, w1⟩
  refine ⟨σ1', H1', _, s1, turn m σ1' H1' w1, fun x H2' H2 h2 s2 e2 => ?_⟩
  cases x with
  | false => exact iteF (d.nx _ _ _ _ h2 s2 (e1.trans e2))
  | true =>
    obtain ⟨N, hN, h2⟩ := (show ∃ N : St' → PHp → Prop, _ from h2)
    refine iteT ⟨fun σ3 H3 => ∃ σ3' H3', SR X.K B σ3' H3' σ3 H3 ∧ Ev H' H H3' H3 ∧ N σ3' H3', ?_, σ1', H2', _, s2, h2, ?_, ?_, ?_, ?_⟩
    · rintro σ3 H3 ⟨σ3', H3', s3, e3, n3⟩
      obtain ⟨m', hm, w'⟩ := hN _ _ n3
      exact ⟨m', hm, σ3', H3', s3, e3, w'⟩
    · intro σ3' H3' σ3 H3 n3 s3 e3
      exact ⟨σ3', H3', s3, (e1.trans e2).trans e3, n3⟩
    · intro v' H3' v H3 n3 r3 s3 e3
      exact d.rt _ _ _ _ n3 r3 s3 ((e1.trans e2).trans e3)
    · intro σ3' H3' σ3 H3 n3 s3 e3
      exact d.nx _ _ _ _ n3 s3 ((e1.trans e2).trans e3)
    · intro σ3' H3' σ3 H3 n3 s3 e3
      exact ⟨σ3', H3', s3, (e1.trans e2).trans e3, n3⟩
theorem while_by {c : TT'} {tb : TS'} {D : Ends'} {σ : St'} {H : PHp} (Pv : Nat → St' → PHp → Prop) (m0 : Nat) (h0 : Pv m0 σ H)
    (hs : ∀ m σ H, Pv m σ H → c σ H fun b H1 => cif b (∃ N : St' → PHp → Prop, (∀ σ' H', N σ' H' → ∃ m', m' < m ∧ Pv m' σ' H') ∧ tb { D with nx := N, ct := N, bk := D.nx } σ H1) (D.nx σ H1)) : uWhile c tb D σ H := ⟨Pv, ⟨m0, h0⟩, hs⟩
def uForL (ok : PHp → Prop) (g : TG') (tb : TS') (D : Ends') : List PV → St' → PHp → Prop
  | [], σ, H => ok H ∧ D.nx σ H
  | x :: r, σ, H => ok H ∧ g x σ H fun σ2 H2 => tb { D with nx := uForL ok g tb D r, ct := uForL ok g tb D r, bk := D.nx } σ2 H2
def uFor (wi : TI') (g : TG') (tb : TS') : TS' := fun D σ H => wi σ H fun J H1 => uForL J.ok g tb D J.items σ H1
theorem qs_forH {t : TS'} {iter tg : Expr} {body : List Stmt} {wi : TI'} {g : TG'} (hp : PassesOwn (model X.prog X.w) X.A X.env X.xe) (hc : X.calm = true) (hi : PIH X B tg iter wi) (hg : PG' X B tg g) (hb : PSs' X B body t)
    (hs : ∀ x, foldedSetIterable iter X.env x = pure x := by intro _; rfl) : PS' X B (.For tg iter body [] pos) (uFor wi g t) := ps_imp (ps_for hp hc hi hg hb hs) fun D σ H ⟨σ', H', D', s, h, d⟩ => by
  refine ⟨σ', H', _, s, h, fun J' H1' J H1 h1 wk s1 e1 => ?_⟩
  refine ⟨fun i m σ2 H2 => i ≤ J'.items.length ∧ m = J'.items.length - i ∧ ∃ σ2' H2', SR X.K B σ2' H2' σ2 H2 ∧ Ev H1' H1 H2' H2 ∧ uForL J'.ok g t D' (J'.items.drop i) σ2' H2', ⟨J'.items.length, Nat.zero_le _, by simp, σ', H1', s1, Ev.refl _ _, h1⟩, ?_⟩
  rintro i m σ2 H2 ⟨hi, rfl, σ2', H2', s2, e2, h2⟩
  have k2 := e2.kp s1.hp
  by_cases hlt : i < J'.items.length
  · obtain ⟨x', hx⟩ : ∃ x', J'.items[i]? = some x' := ⟨_, List.getElem?_eq_getElem hlt⟩
    have hd : J'.items.drop i = x' :: J'.items.drop (i + 1) := by
      rw [List.drop_eq_getElem_cons hlt]
      rw [List.getElem?_eq_getElem hlt] at hx
      cases hx; rfl
    rw [hd] at h2
    obtain ⟨ok2, h2⟩ := (show J'.ok H2' ∧ _ from h2)
    refine .inr ⟨wk.go H2' H2 i k2 s2.hp ok2 hlt, fun σ3 H3 => ∃ σ3' H3', SR X.K B σ3' H3' σ3 H3 ∧ Ev H1' H1 H3' H3 ∧ uForL J'.ok g t D' (J'.items.drop (i + 1)) σ3' H3', ?_, fun x H3 y => ?_⟩
    · rintro σ3 H3 ⟨σ3', H3', s3, e3, h3⟩
      exact ⟨J'.items.length - (i + 1), by omega, hlt, rfl, σ3', H3', s3, e3, h3⟩
    · obtain ⟨hr3, ev3, rx⟩ := wk.yld H2' H2 i x H3 k2 s2.hp ok2 y
      have s2b := s2.kp ev3 hr3
      have e2b := e2.trans ev3
      refine ⟨x', σ2', H2', _, rx x' hx, s2b, h2, fun σ3' H3' σ3 H3 h3 s3 e3 => ⟨σ3', H3', _, s3, h3, ?_, ?_, ?_, ?_⟩⟩
      · intro σ4' H4' σ4 H4 h4 s4 e4
        exact ⟨σ4', H4', s4, e2b.trans (e3.trans e4), h4⟩
      · intro v' H4' v H4 h4 r4 s4 e4
        exact d.rt _ _ _ _ h4 r4 s4 (e1.trans (e2b.trans (e3.trans e4)))
      · intro σ4' H4' σ4 H4 h4 s4 e4
        exact d.nx _ _ _ _ h4 s4 (e1.trans (e2b.trans (e3.trans e4)))
      · intro σ4' H4' σ4 H4 h4 s4 e4
        exact ⟨σ4', H4', s4, e2b.trans (e3.trans e4), h4⟩
  · have hi' : i = J'.items.length := by omega
    subst hi'
    rw [List.drop_length] at h2
    obtain ⟨ok2, h2⟩ := (show J'.ok H2' ∧ _ from h2)
    exact .inl ⟨wk.stop H2' H2 k2 s2.hp ok2, d.nx _ _ _ _ h2 s2 (e1.trans e2)⟩
theorem qs_for {iter tg : Expr} {body : List Stmt} {wi : TI'} {g : TG'} (hp : PassesOwn (model X.prog X.w) X.A X.env X.xe) (hc : X.calm = true) (hi : PI' X B tg iter wi) (hg : PG' X B tg g) (hb : PSs' X B body t)
    (hs : ∀ x, foldedSetIterable iter X.env x = pure x := by intro _; rfl) : PS' X B (.For tg iter body [] pos) (uFor wi g t) := qs_forH hp hc (pi_toH hi) hg hb hs
def itOf (x : PV) (H1 : PHp) (R : It' → PHp → Prop) : Prop := match x with
  | .tup l => R ⟨l, fun _ => True⟩ H1
  | .fls l => R ⟨l, fun _ => True⟩ H1
  | .ref a => ∃ l, H1 a = some (.lst l) ∧ R ⟨l, fun H => H a = some (.lst l)⟩ H1
  | _ => False
def uSeqI (ta : TE') : TI' := fun σ H R => ta σ H fun x H1 => itOf x H1 R
def iSeq (K : PySem.W.Frag) (tl : TE) : TI := fun σ H R => tl σ H fun x H1 => ∃ a, x = .ref a ∧ ((∃ xs, SqL K H1 a xs) ∧ R (Itl K a) H1 ∨ (∃ xs, SqT K H1 a xs) ∧ R (Itt K a) H1)
theorem pi_seq {tg l : Expr} {tl : TE} (hl : PE X l tl) : PI X tg l (iSeq X.K tl) := by
  intro pins s σ H R I h
  refine thn (hl pins s σ H _ I h) fun v s1 ⟨x, H1, I1, r1, q1⟩ => ?_
  obtain ⟨a, e, ⟨⟨xs, hq⟩, q⟩ | ⟨⟨xs, hq⟩, q⟩⟩ := q1
  · subst e
    cases r1
    obtain ⟨its, rv, p, hz⟩ := I1.list hq
    refine wpAny_pyIter_list p.isList ?_
    refine ⟨s1.heap.objs.size, [s1.heap.objs.size], _, _, H1, rfl, I1.kept (t' := s1.toks) fun b o e => Heap.get?_push_of_some _ e, turn_list a _, ⟨_, Heap.get?_push_size _ rfl, rfl, rfl⟩, fun b hb => ?_, q⟩
    have e : b = s1.heap.objs.size := by simpa using hb
    subst e
    exact I1.fpOk (Nat.le_refl _) (I1.hok.fresh (Nat.le_refl _))
  · subst e
    cases r1
    obtain ⟨its, rv, p, hz⟩ := I1.tuple hq
    refine wpAny_pyIter_tuple (show s1.heap.IsTuple a its.toArray from p) ?_
    refine ⟨s1.heap.objs.size, [s1.heap.objs.size], _, _, H1, rfl, I1.kept (t' := s1.toks) fun b o e => Heap.get?_push_of_some _ e, turn_tuple a _, ⟨_, Heap.get?_push_size _ rfl, rfl, rfl⟩, fun b hb => ?_, q⟩
    have e : b = s1.heap.objs.size := by simpa using hb
    subst e
    exact I1.fpOk (Nat.le_refl _) (I1.hok.fresh (Nat.le_refl _))
theorem walks_list {K : PySem.W.Frag} {H1 : Hp} {J' : It'} {a : Addr} (h : ∀ H' H, Kp H1 H → HR K H' H → J'.ok H' → ∃ us, SqL K H a us ∧ RPs K H J'.items us) : Walks K H1 (Itl K a) J' where
  go := fun H' H i k s o hi => by
    obtain ⟨us, q, r⟩ := h H' H k s o
    obtain ⟨u, e, _⟩ := RPs.get _ r (List.getElem?_eq_getElem hi)
    exact ⟨us, u, q, e⟩
  yld := fun H' H i x H2 k s o y => by
    obtain ⟨us, q, r⟩ := h H' H k s o
    refine ⟨y.1, fun x' hx => ?_⟩
    obtain ⟨u, e, ru⟩ := RPs.get _ r hx
    have := y.2 us q
    rw [e] at this; cases this; exact ru
  stop := fun H' H i k s o hi => by
    obtain ⟨us, q, r⟩ := h H' H k s o
    exact ⟨us, q, by rw [RPs.length _ r]; exact hi⟩
theorem walks_tup {K : PySem.W.Frag} {H1 : Hp} {J' : It'} {a : Addr} (h : ∀ H' H, Kp H1 H → HR K H' H → J'.ok H' → ∃ us, SqT K H a us ∧ RPs K H J'.items us) : Walks K H1 (Itt K a) J' where
  go := fun H' H i k s o hi => by
    obtain ⟨us, q, r⟩ := h H' H k s o
    obtain ⟨u, e, _⟩ := RPs.get _ r (List.getElem?_eq_getElem hi)
    exact ⟨us, u, q, e⟩
  yld := fun H' H i x H2 k s o y => by
    obtain ⟨us, q, r⟩ := h H' H k s o
    refine ⟨y.1, fun x' hx => ?_⟩
    obtain ⟨u, e, ru⟩ := RPs.get _ r hx
    have := y.2 us q
    rw [e] at this; cases this; exact ru
  stop := fun H' H i k s o hi => by
    obtain ⟨us, q, r⟩ := h H' H k s o
    exact ⟨us, q, by rw [RPs.length _ r]; exact hi⟩
theorem qi_seq {tg : Expr} (ha : PE' X B a ta) : PI' X B tg a (uSeqI ta) := pi_imp (pi_seq ha) fun σ H R ⟨σ', H', R', s, h, k⟩ => by
  refine ⟨σ', H', _, s, h, fun x' H1' x H1 h1 r1 s1 e1 => ?_⟩
  cases x' with
  | tup l =>
    simp only [RP] at r1
    obtain ⟨p, us, rfl, q, r⟩ := r1
    exact ⟨p, rfl, .inr ⟨⟨us, q⟩, k _ H1' _ H1 h1 (walks_tup fun _ H2 k2 _ _ => ⟨us, k2.sqT q, RPs.kp _ k2 r⟩) s1 e1⟩⟩
  | fls l =>
    simp only [RP] at r1
    obtain ⟨p, us, rfl, q, r⟩ := r1
    exact ⟨p, rfl, .inl ⟨⟨us, q.sq⟩, k _ H1' _ H1 h1 (walks_list fun _ H2 k2 _ _ => ⟨us, (k2.fzL q).sq, RPs.kp _ k2 r⟩) s1 e1⟩⟩
  | ref p =>
    simp only [RP] at r1
    obtain ⟨l, q, h1⟩ := h1
    obtain ⟨us, q2, r⟩ := s1.hp _ _ q
    refine ⟨p, r1, .inl ⟨⟨us, SqL.of q2⟩, k _ H1' _ H1 h1 (walks_list fun H2' H2 k2 s2 o2 => ?_) s1 e1⟩⟩
    obtain ⟨us2, q3, r3⟩ := s2 _ _ o2
    exact ⟨us2, SqL.of q3, r3⟩
  | _ => exact h1.elim
def rngL (lo : Int) (n : Nat) : List PV := (List.range n).map fun k => PV.int (lo + (k : Nat))
theorem walks_rng {K : PySem.W.Frag} {H1 : Hp} {lo : Int} {n : Nat} : Walks K H1 (Itr lo n) ⟨rngL lo n, fun _ => True⟩ where
  go := fun H' H i k s o hi => by
    have h : i < n := by simpa [rngL] using hi
    exact h
  yld := fun H' H i x H2 k s o y => by
    obtain ⟨e, rfl⟩ := y
    refine ⟨e, fun x' hx => ?_⟩
    simp only [rngL, List.getElem?_map] at hx
    cases q : (List.range n)[i]? with
    | none => rw [q] at hx; cases hx
    | some j =>
      rw [q] at hx
      obtain ⟨h1, h2⟩ := List.getElem?_eq_some_iff.mp q
      rw [List.getElem_range] at h2
      subst h2
      cases hx
      simp [RP]
  stop := fun H' H i k s o hi => by
    have h : n ≤ i := by simpa [rngL] using hi
    exact h
def rng1 (vs : List PV) (H1 : PHp) (R : It' → PHp → Prop) : Prop := match vs with
  | [.int j] => (-(2 ^ 62) ≤ j ∧ j < 2 ^ 62) ∧ R ⟨rngL 0 j.toNat, fun _ => True⟩ H1
  | _ => False
def uRng1 (t : TA') : TI' := fun σ H R => t σ H fun vs H1 => rng1 vs H1 R
def rng2 (vs : List PV) (H1 : PHp) (R : It' → PHp → Prop) : Prop := match vs with
  | [.int i, .int j] => (-(2 ^ 62) ≤ i ∧ i < 2 ^ 62 ∧ -(2 ^ 62) ≤ j ∧ j < 2 ^ 62) ∧ R ⟨rngL i (j - i).toNat, fun _ => True⟩ H1
  | _ => False
def uRng2 (t : TA') : TI' := fun σ H R => t σ H fun vs H1 => rng2 vs H1 R
theorem qi_range1 {tg : Expr} {t : TA'} {p : Pos} (hg : Gl X "range") (hm : X.mg "range" = none) (ha : PA' X B [a] t) (hs : starEach [a] X.env = [(false, eval a X.env)] := by rfl) : PI' X B tg (.Call (.Name "range" p) [a] [] pos) (uRng1 t) :=
  pi_imp (pi_range1 hg hm ha hs) fun σ H R ⟨σ', H', R', s, h, k⟩ => by
  refine ⟨σ', H', _, s, h, fun vs' H1' vs H1 h1 r1 s1 e1 => ?_⟩
  unfold rng1 at h1
  split at h1
  · rename_i j
    simp only [RPs, RP] at r1
    obtain ⟨u, r, rfl, rfl, rfl⟩ := r1
    exact ⟨j, rfl, h1.1.1, h1.1.2, k _ H1' _ H1 h1.2 walks_rng s1 e1⟩
  · exact h1.elim
end
end U


set_option linter.all false
set_option maxRecDepth 1000000
set_option maxHeartbeats 4000000
namespace U
open PySem PySem.Spec PyProof.Rows L2
variable {B : Bs}
abbrev Sp' := List PV → PHp → VK' → XK' → Prop
def lowSp (K : PySem.W.Frag) (sp : Sp') : Sp := fun vs H Q E => ∃ vs' H' Q' E', RPs K H vs' vs ∧ HR K H' H ∧ sp vs' H' Q' E' ∧ (∀ v' H1' v H1, Q' v' H1' → RP K H1 v' v → HR K H1' H1 → Ev H' H H1' H1 → Q v H1) ∧
  (∀ c d H1' H1, E' c d H1' → HR K H1' H1 → Ev H' H H1' H1 → E c d H1)
abbrev FnOk' (P : Program) (w : World) (K : PySem.W.Frag) (mg : Str → Option Value) (base : Heap) (CX : CXT) (k : Nat) (f : Addr) (fd : FuncData) (ps : List Str) (sp : Sp') : Prop := FnOk P w K mg base CX k f fd ps (lowSp K sp)
def start' (N : List Str) (vs : List PV) : St' := vs.map some ++ List.replicate (N.length - vs.length) none
theorem sr_start {K : PySem.W.Frag} {N : List Str} {vs' : List PV} {vs : List V} {H' : PHp} {H : Hp} (r : RPs K H vs' vs) (h : HR K H' H) : SR K (H', H) (start' N vs') H' (L2.start N vs) H := by
  have hl := RPs.length _ r
  refine ⟨by simp [start', L2.start, hl], fun i v' e => ?_, h, Ev.refl _ _⟩
  unfold start' at e
  unfold L2.start
  by_cases hi : i < vs'.length
  · rw [List.getElem?_append_left (by simpa using hi)] at e
    rw [List.getElem?_append_left (by simpa [hl] using hi)]
    rw [List.getElem?_map] at e ⊢
    cases q : vs'[i]? with
    | none => rw [q] at e; cases e
    | some w =>
      rw [q] at e
      cases e
      obtain ⟨u, e1, e2⟩ := RPs.get _ r q
      exact ⟨u, by rw [e1]; rfl, e2⟩
  · rw [List.getElem?_append_right (by simpa using hi)] at e
    rw [List.getElem?_replicate] at e
    split at e <;> cases e
def ends (Q : VK') : Ends' where
  nx := fun _ H => ∃ H3, Sub H3 H ∧ Q .non H3
  rt := fun v H => ∃ H3, Sub H3 H ∧ Q v H3
section
variable {P : Program} {w : World} {K : PySem.W.Frag} {mg : Str → Option Value} {base : Heap}
theorem okU {x qual : Str} {st : Stmt} {f : Addr} {fd : FuncData} {N ps : List Str} {k : Nat} {sp : Sp'} (F : Fun K x qual st f fd) (S : FnScope N ps (defScope st)) (len : ∀ vs H Q E, sp vs H Q E → vs.length = ps.length)
    (hbody : ∀ (cdv : Value) (A : Around) (outer : List Env) (s : Shared) (H : Hp) (E : XK) (B : Bs), Room k (A.deeper (envOfC qual (defScope st) s.heap.objs.size f cdv)) →
      ∃ t, PSs' (cxOf CX0 P w K mg base N qual (defScope st) f cdv A outer s H E).nox B (defBody st) t ∧ ∀ vs' H' Q' E', sp vs' H' Q' E' → t (ends Q') (start' N vs') H') : FnOk' P w K mg base CX0 (k + 1) f fd ps sp := by
  refine F.ok S (fun vs H Q E zz => ?_) (fun cdv A outer s H vs Q E hr h => ?_)
  · obtain ⟨vs', H', Q', E', r, hr, h, _⟩ := zz
    rw [RPs.length _ r]; exact len _ _ _ _ h
  · obtain ⟨vs', H', Q', E', r, hh, h, k1, k2⟩ := h
    obtain ⟨t, ht, hq⟩ := hbody cdv A outer s H E (H', H) hr
    refine ⟨_, ht, start' N vs', H', _, sr_start r hh, hq vs' H' Q' E' h, ?_, ?_, ?_, ?_⟩
    · rintro σ1' H1' σ1 H1 ⟨H3, sb, q⟩ s1 e1
      exact k1 _ H3 _ H1 q (by simp [RP]) (s1.hp.sub sb) (e1.sub sb)
    · rintro v' H1' v H1 ⟨H3, sb, q⟩ r1 s1 e1
      exact k1 _ H3 _ H1 q r1 (s1.sub sb) (e1.sub sb)
    · intro _ _ _ _ z; exact z.elim
    · intro _ _ _ _ z; exact z.elim
end
section
variable {X : Cx} {CX : CXT} {k : Nat} {f C : Addr} {fd : FuncData} {ps : List Str} {sp : Sp'} {E : XK} {E' : XK'} {x m : Str} {p pos apos : Pos} {e o : Expr} {es : List Expr} {ta : TE'} {t : TA'}
def uCall (sp : Sp') (E' : XK') (t : TA') : TE' := fun σ H Q => t σ H fun vs H1 => sp vs H1 Q E'
abbrev X0 : XK' := fun _ _ _ => False
theorem low_call0 {K : PySem.W.Frag} {σ : L2.St} {H : Hp} {Q : VK} (h : low K B (uCall sp X0 t) σ H Q) : tCall (lowSp K sp) [] E0 (lowA K B t) σ H Q := by
  obtain ⟨σ', H', Q', s, h, k⟩ := h
  refine ⟨σ', H', _, s, h, fun vs' H1' vs H1 h1 r1 s1 e1 => ?_⟩
  show lowSp K sp (vs ++ []) H1 Q E0
  rw [List.append_nil]
  exact ⟨vs', H1', Q', X0, r1, s1.hp, h1, fun v' H2' v H2 q r2 h2 e2 => k v' H2' v H2 q r2 (s1.kp e2 h2) (e1.trans e2), fun _ _ _ _ z => z.elim⟩
theorem qe_call (F : FnOk' X.prog X.w X.K X.mg X.base CX0 k f fd ps sp) (hr : Room k X.A) (hg : Gl X x) (hm : X.mg x = some (.ref f)) (hk : PySem.W.keepIn X.K (.ref f) = true) (hb : Binds X.K fd ps [])
    (ha : PA' X B (e :: es) t) (hdb : (x == ("__debug__" : Str)) = false := by decide) (he : starEach (e :: es) X.env = (false, eval e X.env) :: starEach es X.env := by rfl) (hpl : (backTo pos (starEach es X.env)).any (·.1) = false := by rfl) :
    PE' X B (.Call (.Name x p) (e :: es) [] pos) (uCall sp X0 t) := pe_imp (pe_call F hr hg hm hk hb .nil pass0 ha hdb he hpl) fun _ _ _ h => low_call0 h
theorem fz_of {K : PySem.W.Frag} {H : Hp} {a : Addr} {xs : List V} (o : Only H) (h : SqL K H a xs) : FzL K H a xs := by
  rcases h with (h | h) | h
  · rcases o a with z | ⟨ob, ys, z⟩
    · rw [z] at h; cases h
    · rw [z] at h; cases h
  · exact .inl h
  · exact .inr h
def spL : Sp' := fun vs H Q _ => match vs with
  | [.fls l] => ∃ ns : List Int, l = ns.map PV.int ∧ ns.length ≤ 63 ∧ Q (.bl true) H
  | _ => False
theorem spL_start {K : PySem.W.Frag} {H : Hp} {a : Addr} {ns : List Int} (hl : ns.length ≤ 63) (o : Only H) (h : SqL K H a (ns.map V.int)) : lowSp K spL [.ref a] H (fun v _ => v = .bl true) fun _ _ _ => False := by
  refine ⟨[.fls (ns.map PV.int)], fun _ => none, fun v _ => v = .bl true, X0, ?_, fun _ _ z => (nomatch z), ⟨ns, rfl, hl, rfl⟩, fun v' _ v _ q r _ _ => ?_, fun _ _ _ _ z => z.elim⟩
  · refine RPs.cons _ ?_ (RPs.nil _)
    simp only [RP]
    exact ⟨a, _, rfl, fz_of o h, RPs.ints _ _⟩
  · subst q
    simpa [RP] using r
end
end U


set_option linter.all false
set_option maxRecDepth 1000000
set_option maxHeartbeats 4000000
namespace U
open PySem PySem.Spec PyProof.Rows L2
variable {B : Bs}
mutual
def deq : PV → PV → Bool
  | .non, .non => true
  | .bl a, .bl b => a == b
  | .int a, .int b => a == b
  | .bl a, .int b => (if a then 1 else 0) == b
  | .int a, .bl b => a == (if b then 1 else 0)
  | .str a, .str b => a == b
  | .tup l, .tup m => deqs l m
  | .fls l, .fls m => deqs l m
  | _, _ => false
def deqs : List PV → List PV → Bool
  | [], [] => true
  | x :: l, y :: m => deq x y && deqs l m
  | _, _ => false
end
def flat : Nat → PV → Bool
  | _, .non => true
  | _, .bl _ => true
  | _, .int _ => true
  | _, .str _ => true
  | n + 1, .tup l => l.all (flat n)
  | n + 1, .fls l => l.all (flat n)
  | _, _ => false
theorem deqs_range : ∀ (l m : List PV), deqs l m = ((List.range (min l.length m.length)).all (fun i => deq (l.getD i .non) (m.getD i .non)) && l.length == m.length)
  | [], [] => by simp [deqs]
  | [], _ :: _ => by simp [deqs]
  | _ :: _, [] => by simp [deqs]
  | x :: l, y :: m => by
    simp only [deqs, deqs_range l m, List.length_cons]
    rw [show min (l.length + 1) (m.length + 1) = min l.length m.length + 1 by omega, List.range_succ_eq_map, List.all_cons, List.all_map]
    simp only [List.getD_cons_zero, Bool.and_assoc]
    congr 1
    congr 1
    simp
theorem deqs_refl {n : Nat} : ∀ (l : List PV), (∀ x ∈ l, deq x x = true) → deqs l l = true
  | [], _ => rfl
  | x :: l, h => by
    have h1 := h x (by simp)
    have h2 := deqs_refl (n := n) l fun y hy => h y (by simp [hy])
    simp only [deqs, h1, h2, Bool.and_self]
theorem deq_refl : ∀ {n : Nat} {x : PV}, flat n x = true → deq x x = true
  | _, .non, _ => by simp [deq]
  | _, .bl _, _ => by simp [deq]
  | _, .int _, _ => by simp [deq]
  | _, .str _, _ => by simp [deq]
  | n + 1, .tup l, h => by
    simp only [flat, List.all_eq_true] at h
    simp only [deq]
    exact deqs_refl (n := 0) l fun x hx => deq_refl (h x hx)
  | n + 1, .fls l, h => by
    simp only [flat, List.all_eq_true] at h
    simp only [deq]
    exact deqs_refl (n := 0) l fun x hx => deq_refl (h x hx)
  | 0, .tup _, h => by cases h
  | 0, .fls _, h => by cases h
  | n, .ref _, h => by cases n <;> cases h
  | n, .oth _, h => by cases n <;> cases h
section
variable {X : Cx} {pins : List (Addr × Obj)} {σ : L2.St} {H : Hp} {s : Shared}
def RR (K : PySem.W.Frag) (H : Hp) (x : PV) (u : Value) : Prop := ∃ v, RP K H x v ∧ RelV v u
def RL (K : PySem.W.Frag) (H : Hp) (l : List PV) (us : List Value) : Prop := ∃ vs, RPs K H l vs ∧ Vals vs us
def RD (K : PySem.W.Frag) (H : Hp) (x : PV) (u : Value) : Prop := match x with
  | .fls l => ∃ a vs, u = .ref a ∧ SqL K H a vs ∧ RPs K H l vs
  | x => RR K H x u
theorem RL.get {K : PySem.W.Frag} {l : List PV} {us : List Value} (r : RL K H l us) {i : Nat} {u : Value} (e : us[i]? = some u) : ∃ x, l[i]? = some x ∧ RR K H x u := by
  obtain ⟨vs, r1, r2⟩ := r
  have hl := r2.length
  have hl2 := RPs.length _ r1
  have hi : i < l.length := by
    have := (List.getElem?_eq_some_iff.mp e).1
    omega
  obtain ⟨v, e1, e2⟩ := RPs.get _ r1 (List.getElem?_eq_getElem hi)
  obtain ⟨w, e3, e4⟩ := r2.get e1
  rw [e] at e3; cases e3
  exact ⟨_, List.getElem?_eq_getElem hi, v, e2, e4⟩
theorem RL.length {K : PySem.W.Frag} {l : List PV} {us : List Value} (r : RL K H l us) : us.length = l.length := by
  obtain ⟨vs, r1, r2⟩ := r
  rw [← r2.length, RPs.length _ r1]
theorem RR.rd {K : PySem.W.Frag} {x : PV} {u : Value} (r : RR K H x u) : RD K H x u := by
  cases x with
  | fls l =>
    obtain ⟨v, r1, r2⟩ := r
    simp only [RP] at r1
    obtain ⟨a, us, rfl, q, rr⟩ := r1
    cases r2
    exact ⟨a, us, rfl, q.sq, rr⟩
  | _ => exact r
theorem rd_tup (I : Inv X pins σ H s) {l : List PV} {u : Value} (r : RD X.K H (.tup l) u) : ∃ a its, u = .ref a ∧ RL X.K H l its ∧ s.heap.IsTuple a its.toArray := by
  obtain ⟨v, r1, r2⟩ := r
  simp only [RP] at r1
  obtain ⟨a, us, rfl, q, rr⟩ := r1
  cases r2
  obtain ⟨its, rv, p, _⟩ := I.tuple q
  exact ⟨a, its, rfl, ⟨us, rr, rv⟩, p⟩
theorem rd_lst (I : Inv X pins σ H s) {l : List PV} {u : Value} (r : RD X.K H (.fls l) u) : ∃ a its, u = .ref a ∧ RL X.K H l its ∧ s.heap.IsList a its.toArray := by
  obtain ⟨a, us, rfl, q, rr⟩ := r
  obtain ⟨its, rv, p, _⟩ := I.list q
  exact ⟨a, its, rfl, ⟨us, rr, rv⟩, p.isList⟩
theorem isTuple_inj {a : Addr} {x y : Array Value} (h1 : s.heap.IsTuple a x) (h2 : s.heap.IsTuple a y) : x = y := by
  obtain ⟨o, e, c, n, d⟩ := h1
  obtain ⟨o', e', c', n', d'⟩ := h2
  rw [e] at e'; cases e'; rw [d] at d'; cases d'; rfl
theorem isList_inj {a : Addr} {x y : Array Value} (h1 : s.heap.IsList a x) (h2 : s.heap.IsList a y) : x = y := by
  obtain ⟨o, e, c, n, d⟩ := h1
  obtain ⟨o', e', c', n', d'⟩ := h2
  rw [e] at e'; cases e'; rw [d] at d'; cases d'; rfl
theorem not_both {a : Addr} {x y : Array Value} (h1 : s.heap.IsTuple a x) (h2 : s.heap.IsList a y) : False := by
  obtain ⟨o, e, c, n, d⟩ := h1
  obtain ⟨o', e', c', n', d'⟩ := h2
  rw [e] at e'; cases e'; rw [c] at c'; exact absurd c' (by decide)
theorem RL.list_inj {K : PySem.W.Frag} {n : Nat} (ih : ∀ {x y : PV} {u : Value}, flat n x = true → flat n y = true → RD K H x u → RD K H y u → x = y) {l m : List PV} {us : List Value} (h1 : l.all (flat n) = true) (h2 : m.all (flat n) = true)
    (r1 : RL K H l us) (r2 : RL K H m us) : l = m := by
  rw [List.all_eq_true] at h1 h2
  refine List.ext_getElem? fun i => ?_
  cases e : us[i]? with
  | none =>
    have := List.getElem?_eq_none_iff.mp e
    rw [List.getElem?_eq_none (by rw [← r1.length]; exact this), List.getElem?_eq_none (by rw [← r2.length]; exact this)]
  | some u =>
    obtain ⟨x, ex, rx⟩ := r1.get e
    obtain ⟨y, ey, ry⟩ := r2.get e
    rw [ex, ey, ih (h1 x (List.mem_of_getElem? ex)) (h2 y (List.mem_of_getElem? ey)) rx.rd ry.rd]
theorem rd_inj (I : Inv X pins σ H s) : ∀ (n : Nat) {x y : PV} {u : Value}, flat n x = true → flat n y = true → RD X.K H x u → RD X.K H y u → x = y := by
  have sc : ∀ {x : PV} {u : Value}, RD X.K H x u → (∀ l, x ≠ .fls l) → RR X.K H x u := fun {x u} r h => by
    cases x with
    | fls l => exact absurd rfl (h l)
    | _ => exact r
  intro n
  induction n with
  | zero =>
    intro x y u hx hy rx ry
    cases x <;> first | (cases hx; done) | skip
    all_goals cases y <;> first | (cases hy; done) | skip
    all_goals
      obtain ⟨v, r1, r2⟩ := sc rx (by intro l z; cases z)
      obtain ⟨v', r1', r2'⟩ := sc ry (by intro l z; cases z)
      simp only [RP] at r1 r1'
      subst r1; subst r1'
      have := RelV.inj r2 r2'
      first | rfl | (cases this; done) | (cases this; rfl)
  | succ n ih =>
    intro x y u hx hy rx ry
    cases x with
    | tup l =>
      obtain ⟨a, its, rfl, rl, p⟩ := rd_tup I rx
      cases y with
      | tup m =>
        obtain ⟨b, its', e, rl', p'⟩ := rd_tup I ry
        cases e
        have := isTuple_inj p p'
        have e2 : its = its' := by simpa using this
        subst e2
        rw [RL.list_inj (n := n) ih hx hy rl rl']
      | fls m =>
        obtain ⟨b, its', e, rl', p'⟩ := rd_lst I ry
        cases e
        exact (not_both p p').elim
      | ref a => cases hy
      | oth a => cases hy
      | _ =>
        obtain ⟨v', r1', r2'⟩ := sc ry (by intro l z; cases z)
        simp only [RP] at r1'
        subst r1'
        simp [L2.RelV] at r2'
    | fls l =>
      obtain ⟨a, its, rfl, rl, p⟩ := rd_lst I rx
      cases y with
      | tup m =>
        obtain ⟨b, its', e, rl', p'⟩ := rd_tup I ry
        cases e
        exact (not_both p' p).elim
      | fls m =>
        obtain ⟨b, its', e, rl', p'⟩ := rd_lst I ry
        cases e
        have := isList_inj p p'
        have e2 : its = its' := by simpa using this
        subst e2
        rw [RL.list_inj (n := n) ih hx hy rl rl']
      | ref a => cases hy
      | oth a => cases hy
      | _ =>
        obtain ⟨v', r1', r2'⟩ := sc ry (by intro l z; cases z)
        simp only [RP] at r1'
        subst r1'
        simp [L2.RelV] at r2'
    | ref a => cases hx
    | oth a => cases hx
    | _ =>
      cases y with
      | tup m =>
        obtain ⟨b, its', e, rl', p'⟩ := rd_tup I ry
        subst e
        obtain ⟨v', r1', r2'⟩ := sc rx (by intro l z; cases z)
        simp only [RP] at r1'
        subst r1'
        simp [L2.RelV] at r2'
      | fls m =>
        obtain ⟨b, its', e, rl', p'⟩ := rd_lst I ry
        subst e
        obtain ⟨v', r1', r2'⟩ := sc rx (by intro l z; cases z)
        simp only [RP] at r1'
        subst r1'
        simp [L2.RelV] at r2'
      | ref a => cases hy
      | oth a => cases hy
      | _ =>
        obtain ⟨v, r1, r2⟩ := sc rx (by intro l z; cases z)
        obtain ⟨v', r1', r2'⟩ := sc ry (by intro l z; cases z)
        simp only [RP] at r1 r1'
        subst r1; subst r1'
        have := RelV.inj r2 r2'
        first | rfl | (cases this; done) | (cases this; rfl)

open SeqAt in
theorem eq_core (I : Inv X pins σ H s) : ∀ (n : Nat) {A : Around} {x y : PV} {u w : Value}, A.units + n < cLine → flat n x = true → flat n y = true → RD X.K H x u → RD X.K H y w → EqAt A s u w (deq x y) ∧ RcAt A s u w (deq x y) := by
  have sc : ∀ {x : PV} {u : Value}, RD X.K H x u → (∀ l, x ≠ .fls l) → RR X.K H x u := fun {x u} r h => by
    cases x with
    | fls l => exact absurd rfl (h l)
    | _ => exact r
  have v_non : ∀ {u : Value}, RD X.K H .non u → u = .none := fun {u} r => by
    obtain ⟨v, r1, r2⟩ := sc r (by intro l z; cases z); simp only [RP] at r1; subst r1; exact r2
  have v_bl : ∀ {b : Bool} {u : Value}, RD X.K H (.bl b) u → u = .bool b := fun {b u} r => by
    obtain ⟨v, r1, r2⟩ := sc r (by intro l z; cases z); simp only [RP] at r1; subst r1; exact r2
  have v_int : ∀ {i : Int} {u : Value}, RD X.K H (.int i) u → ∃ t, u = .int i t := fun {b u} r => by
    obtain ⟨v, r1, r2⟩ := sc r (by intro l z; cases z); simp only [RP] at r1; subst r1; exact r2
  have v_str : ∀ {i : Str} {u : Value}, RD X.K H (.str i) u → ∃ t, u = .str i t := fun {b u} r => by
    obtain ⟨v, r1, r2⟩ := sc r (by intro l z; cases z); simp only [RP] at r1; subst r1; exact r2
  intro n
  induction n with
  | zero =>
    intro A x y u w hu hx hy rx ry
    cases x with
    | non =>
      rw [v_non rx]
      cases y with
      | non => rw [v_non ry]; exact ⟨EqAt.same _, RcAt.none_none⟩
      | bl b => rw [v_bl ry]; exact ⟨EqAt.none_bool b, RcAt.none_bool b⟩
      | int b => obtain ⟨t, rfl⟩ := v_int ry; exact ⟨EqAt.none_int b t, RcAt.none_int b t⟩
      | str b => obtain ⟨t, rfl⟩ := v_str ry; exact ⟨EqAt.none_str b t, RcAt.none_str b t⟩
      | _ => cases hy
    | bl a =>
      rw [v_bl rx]
      cases y with
      | non => rw [v_non ry]; exact ⟨EqAt.bool_none a, RcAt.bool_none a⟩
      | bl b => rw [v_bl ry]; exact ⟨EqAt.bool_bool a b, RcAt.bool_bool a b⟩
      | int b => obtain ⟨t, rfl⟩ := v_int ry; exact ⟨EqAt.bool_int a b t, RcAt.bool_int a b t⟩
      | str b => obtain ⟨t, rfl⟩ := v_str ry; exact ⟨EqAt.bool_str a b t, RcAt.bool_str a b t⟩
      | _ => cases hy
    | int a =>
      obtain ⟨t0, rfl⟩ := v_int rx
      cases y with
      | non => rw [v_non ry]; exact ⟨EqAt.int_none a t0, RcAt.int_none a t0⟩
      | bl b => rw [v_bl ry]; exact ⟨EqAt.int_bool a t0 b, RcAt.int_bool a t0 b⟩
      | int b => obtain ⟨t, rfl⟩ := v_int ry; exact ⟨EqAt.int_int a t0 b t, RcAt.int_int a t0 b t⟩
      | str b => obtain ⟨t, rfl⟩ := v_str ry; exact ⟨EqAt.int_str a t0 b t, RcAt.int_str a t0 b t⟩
      | _ => cases hy
    | str a =>
      obtain ⟨t0, rfl⟩ := v_str rx
      cases y with
      | non => rw [v_non ry]; exact ⟨EqAt.str_none a t0, RcAt.str_none a t0⟩
      | bl b => rw [v_bl ry]; exact ⟨EqAt.str_bool a t0 b, RcAt.str_bool a t0 b⟩
      | int b => obtain ⟨t, rfl⟩ := v_int ry; exact ⟨EqAt.str_int a t0 b t, RcAt.str_int a t0 b t⟩
      | str b => obtain ⟨t, rfl⟩ := v_str ry; exact ⟨EqAt.str_str a t0 b t, RcAt.str_str a t0 b t⟩
      | _ => cases hy
    | _ => cases hx
  | succ n ih =>
    intro A x y u w hu hx hy rx ry
    have hu0 : A.units < cLine := by omega
    have hu1 : A.in1.units + n < cLine := by show A.units + 1 + n < cLine; omega
    cases x with
    | tup l =>
      obtain ⟨a, its, rfl, rl, p⟩ := rd_tup I rx
      cases y with
      | non => rw [v_non ry]; exact ⟨EqAt.tuple_none p hu0, RcAt.tuple_none p hu0⟩
      | bl b => rw [v_bl ry]; exact ⟨EqAt.tuple_bool b p hu0, RcAt.tuple_bool b p hu0⟩
      | int b => obtain ⟨t, rfl⟩ := v_int ry; exact ⟨EqAt.tuple_int b t p hu0, RcAt.tuple_int b t p hu0⟩
      | str b => obtain ⟨t, rfl⟩ := v_str ry; exact ⟨EqAt.tuple_str b t p hu0, RcAt.tuple_str b t p hu0⟩
      | tup m =>
        obtain ⟨b, its', rfl, rl', p'⟩ := rd_tup I ry
        have key : RcAt A s (.ref a) (.ref b) (deq (.tup l) (.tup m)) := by
          have := RcAt.tuples (e := fun i => deq (l.getD i .non) (m.getD i .non)) p p' hu0 fun j h1 h2 => by
            have h1' : j < its.length := by simpa using h1
            have h2' : j < its'.length := by simpa using h2
            obtain ⟨x, ex, rx'⟩ := rl.get (List.getElem?_eq_getElem h1')
            obtain ⟨y, ey, ry'⟩ := rl'.get (List.getElem?_eq_getElem h2')
            have q := ih hu1 (List.all_eq_true.mp hx x (List.mem_of_getElem? ex)) (List.all_eq_true.mp hy y (List.mem_of_getElem? ey)) rx'.rd ry'.rd
            have e1 : l.getD j .non = x := by rw [List.getD_eq_getElem?_getD, ex]; rfl
            have e2 : m.getD j .non = y := by rw [List.getD_eq_getElem?_getD, ey]; rfl
            rw [e1, e2]
            simpa using q.1
          have e : deq (.tup l) (.tup m) = ((List.range (min its.toArray.size its'.toArray.size)).all (fun i => deq (l.getD i .non) (m.getD i .non)) && its.toArray.size == its'.toArray.size) := by
            simp only [deq, deqs_range, List.size_toArray, rl.length, rl'.length]
          rw [e]; exact this
        refine ⟨?_, key⟩
        by_cases hab : a = b
        · subst hab
          have := rd_inj I (n + 1) hx hy rx ry
          rw [← this, deq_refl hx]; exact EqAt.same _
        · exact EqAt.of_refs hab key
      | fls m =>
        obtain ⟨b, its', rfl, rl', p'⟩ := rd_lst I ry
        exact ⟨EqAt.tuple_list p p' hu0, RcAt.tuple_list p p' hu0⟩
      | _ => cases hy
    | fls l =>
      obtain ⟨a, its, rfl, rl, p⟩ := rd_lst I rx
      cases y with
      | non => rw [v_non ry]; exact ⟨EqAt.list_none p hu0, RcAt.list_none p hu0⟩
      | bl b => rw [v_bl ry]; exact ⟨EqAt.list_bool b p hu0, RcAt.list_bool b p hu0⟩
      | int b => obtain ⟨t, rfl⟩ := v_int ry; exact ⟨EqAt.list_int b t p hu0, RcAt.list_int b t p hu0⟩
      | str b => obtain ⟨t, rfl⟩ := v_str ry; exact ⟨EqAt.list_str b t p hu0, RcAt.list_str b t p hu0⟩
      | tup m =>
        obtain ⟨b, its', rfl, rl', p'⟩ := rd_tup I ry
        exact ⟨EqAt.list_tuple p p' hu0, RcAt.list_tuple p p' hu0⟩
      | fls m =>
        obtain ⟨b, its', rfl, rl', p'⟩ := rd_lst I ry
        have key : RcAt A s (.ref a) (.ref b) (deq (.fls l) (.fls m)) := by
          by_cases hs : its.length = its'.length
          · have := RcAt.lists (e := fun i => deq (l.getD i .non) (m.getD i .non)) p p' (by simpa using hs) hu0 fun j h1 h2 => by
              have h1' : j < its.length := by simpa using h1
              have h2' : j < its'.length := by simpa using h2
              obtain ⟨x, ex, rx'⟩ := rl.get (List.getElem?_eq_getElem h1')
              obtain ⟨y, ey, ry'⟩ := rl'.get (List.getElem?_eq_getElem h2')
              have q := ih hu1 (List.all_eq_true.mp hx x (List.mem_of_getElem? ex)) (List.all_eq_true.mp hy y (List.mem_of_getElem? ey)) rx'.rd ry'.rd
              have e1 : l.getD j .non = x := by rw [List.getD_eq_getElem?_getD, ex]; rfl
              have e2 : m.getD j .non = y := by rw [List.getD_eq_getElem?_getD, ey]; rfl
              rw [e1, e2]
              simpa using q.1
            have e : deq (.fls l) (.fls m) = (List.range its.toArray.size).all (fun i => deq (l.getD i .non) (m.getD i .non)) := by
              have e0 : l.length = m.length := by rw [← rl.length, ← rl'.length]; exact hs
              simp [deq, deqs_range, rl.length, e0]
            rw [e]; exact this
          · have e : deq (.fls l) (.fls m) = false := by
              have e0 : l.length ≠ m.length := by rw [← rl.length, ← rl'.length]; exact hs
              simp [deq, deqs_range, e0]
            rw [e]
            exact RcAt.lists_lengths p p' (by simpa using hs) hu0
        refine ⟨?_, key⟩
        by_cases hab : a = b
        · subst hab
          have := rd_inj I (n + 1) hx hy rx ry
          rw [← this, deq_refl hx]; exact EqAt.same _
        · exact EqAt.of_refs hab key
      | _ => cases hy
    | ref a => cases hx
    | oth a => cases hx
    | non =>
      cases y with
      | tup m => obtain ⟨b, its', rfl, rl', p'⟩ := rd_tup I ry; rw [v_non rx]; exact ⟨EqAt.none_tuple p' hu0, RcAt.none_tuple p' hu0⟩
      | fls m => obtain ⟨b, its', rfl, rl', p'⟩ := rd_lst I ry; rw [v_non rx]; exact ⟨EqAt.none_list p' hu0, RcAt.none_list p' hu0⟩
      | ref a => cases hy
      | oth a => cases hy
      | _ => exact ih (by omega) (by cases n <;> rfl) (by cases n <;> rfl) rx ry
    | bl i =>
      cases y with
      | tup m => obtain ⟨b, its', rfl, rl', p'⟩ := rd_tup I ry; rw [v_bl rx]; exact ⟨EqAt.bool_tuple i p' hu0, RcAt.bool_tuple i p' hu0⟩
      | fls m => obtain ⟨b, its', rfl, rl', p'⟩ := rd_lst I ry; rw [v_bl rx]; exact ⟨EqAt.bool_list i p' hu0, RcAt.bool_list i p' hu0⟩
      | ref a => cases hy
      | oth a => cases hy
      | _ => exact ih (by omega) (by cases n <;> rfl) (by cases n <;> rfl) rx ry
    | int i =>
      cases y with
      | tup m => obtain ⟨b, its', rfl, rl', p'⟩ := rd_tup I ry; obtain ⟨t, rfl⟩ := v_int rx; exact ⟨EqAt.int_tuple i t p' hu0, RcAt.int_tuple i t p' hu0⟩
      | fls m => obtain ⟨b, its', rfl, rl', p'⟩ := rd_lst I ry; obtain ⟨t, rfl⟩ := v_int rx; exact ⟨EqAt.int_list i t p' hu0, RcAt.int_list i t p' hu0⟩
      | ref a => cases hy
      | oth a => cases hy
      | _ => exact ih (by omega) (by cases n <;> rfl) (by cases n <;> rfl) rx ry
    | str i =>
      cases y with
      | tup m => obtain ⟨b, its', rfl, rl', p'⟩ := rd_tup I ry; obtain ⟨t, rfl⟩ := v_str rx; exact ⟨EqAt.str_tuple i t p' hu0, RcAt.str_tuple i t p' hu0⟩
      | fls m => obtain ⟨b, its', rfl, rl', p'⟩ := rd_lst I ry; obtain ⟨t, rfl⟩ := v_str rx; exact ⟨EqAt.str_list i t p' hu0, RcAt.str_list i t p' hu0⟩
      | ref a => cases hy
      | oth a => cases hy
      | _ => exact ih (by omega) (by cases n <;> rfl) (by cases n <;> rfl) rx ry
end
end U


set_option linter.all false
set_option maxRecDepth 1000000
set_option maxHeartbeats 4000000
namespace U
open PySem PySem.Spec PyProof.Rows L2
variable {B : Bs}
section
variable {X : Cx} {pins : List (Addr × Obj)} {σ : L2.St} {H : Hp} {s : Shared}
open SeqAt in
theorem ne_core (I : Inv X pins σ H s) : ∀ (n : Nat) {A : Around} {x y : PV} {u w : Value}, A.units + n < cLine → flat n x = true → flat n y = true → RD X.K H x u → RD X.K H y w → RcNeAt A s u w (!deq x y) := by
  have sc : ∀ {x : PV} {u : Value}, RD X.K H x u → (∀ l, x ≠ .fls l) → RR X.K H x u := fun {x u} r h => by
    cases x with
    | fls l => exact absurd rfl (h l)
    | _ => exact r
  have v_non : ∀ {u : Value}, RD X.K H .non u → u = .none := fun {u} r => by
    obtain ⟨v, r1, r2⟩ := sc r (by intro l z; cases z); simp only [RP] at r1; subst r1; exact r2
  have v_bl : ∀ {b : Bool} {u : Value}, RD X.K H (.bl b) u → u = .bool b := fun {b u} r => by
    obtain ⟨v, r1, r2⟩ := sc r (by intro l z; cases z); simp only [RP] at r1; subst r1; exact r2
  have v_int : ∀ {i : Int} {u : Value}, RD X.K H (.int i) u → ∃ t, u = .int i t := fun {b u} r => by
    obtain ⟨v, r1, r2⟩ := sc r (by intro l z; cases z); simp only [RP] at r1; subst r1; exact r2
  have v_str : ∀ {i : Str} {u : Value}, RD X.K H (.str i) u → ∃ t, u = .str i t := fun {b u} r => by
    obtain ⟨v, r1, r2⟩ := sc r (by intro l z; cases z); simp only [RP] at r1; subst r1; exact r2
  intro n
  induction n with
  | zero =>
    intro A x y u w hu hx hy rx ry
    cases x with
    | non =>
      rw [v_non rx]
      cases y with
      | non => rw [v_non ry]; exact RcNeAt.none_none
      | bl b => rw [v_bl ry]; exact RcNeAt.none_bool b
      | int b => obtain ⟨t, rfl⟩ := v_int ry; exact RcNeAt.none_int b t
      | str b => obtain ⟨t, rfl⟩ := v_str ry; exact RcNeAt.none_str b t
      | _ => cases hy
    | bl a =>
      rw [v_bl rx]
      cases y with
      | non => rw [v_non ry]; exact RcNeAt.bool_none a
      | bl b => rw [v_bl ry]; exact RcNeAt.bool_bool a b
      | int b => obtain ⟨t, rfl⟩ := v_int ry; exact RcNeAt.bool_int a b t
      | str b => obtain ⟨t, rfl⟩ := v_str ry; exact RcNeAt.bool_str a b t
      | _ => cases hy
    | int a =>
      obtain ⟨t0, rfl⟩ := v_int rx
      cases y with
      | non => rw [v_non ry]; exact RcNeAt.int_none a t0
      | bl b => rw [v_bl ry]; exact RcNeAt.int_bool a t0 b
      | int b => obtain ⟨t, rfl⟩ := v_int ry; exact RcNeAt.int_int a t0 b t
      | str b => obtain ⟨t, rfl⟩ := v_str ry; exact RcNeAt.int_str a t0 b t
      | _ => cases hy
    | str a =>
      obtain ⟨t0, rfl⟩ := v_str rx
      cases y with
      | non => rw [v_non ry]; exact RcNeAt.str_none a t0
      | bl b => rw [v_bl ry]; exact RcNeAt.str_bool a t0 b
      | int b => obtain ⟨t, rfl⟩ := v_int ry; exact RcNeAt.str_int a t0 b t
      | str b => obtain ⟨t, rfl⟩ := v_str ry; exact RcNeAt.str_str a t0 b t
      | _ => cases hy
    | _ => cases hx
  | succ n ih =>
    intro A x y u w hu hx hy rx ry
    have hu0 : A.units < cLine := by omega
    have hu1 : A.in1.units + n < cLine := by show A.units + 1 + n < cLine; omega
    cases x with
    | tup l =>
      obtain ⟨a, its, rfl, rl, p⟩ := rd_tup I rx
      cases y with
      | non => rw [v_non ry]; exact RcNeAt.tuple_none p hu0
      | bl b => rw [v_bl ry]; exact RcNeAt.tuple_bool b p hu0
      | int b => obtain ⟨t, rfl⟩ := v_int ry; exact RcNeAt.tuple_int b t p hu0
      | str b => obtain ⟨t, rfl⟩ := v_str ry; exact RcNeAt.tuple_str b t p hu0
      | tup m =>
        obtain ⟨b, its', rfl, rl', p'⟩ := rd_tup I ry
        have key : RcNeAt A s (.ref a) (.ref b) (!deq (.tup l) (.tup m)) := by
          have := RcNeAt.tuples (e := fun i => deq (l.getD i .non) (m.getD i .non)) p p' hu0 fun j h1 h2 => by
            have h1' : j < its.length := by simpa using h1
            have h2' : j < its'.length := by simpa using h2
            obtain ⟨x, ex, rx'⟩ := rl.get (List.getElem?_eq_getElem h1')
            obtain ⟨y, ey, ry'⟩ := rl'.get (List.getElem?_eq_getElem h2')
            have q := eq_core I n hu1 (List.all_eq_true.mp hx x (List.mem_of_getElem? ex)) (List.all_eq_true.mp hy y (List.mem_of_getElem? ey)) rx'.rd ry'.rd
            have e1 : l.getD j .non = x := by rw [List.getD_eq_getElem?_getD, ex]; rfl
            have e2 : m.getD j .non = y := by rw [List.getD_eq_getElem?_getD, ey]; rfl
            rw [e1, e2]
            simpa using q.1
          have e : deq (.tup l) (.tup m) = ((List.range (min its.toArray.size its'.toArray.size)).all (fun i => deq (l.getD i .non) (m.getD i .non)) && its.toArray.size == its'.toArray.size) := by
            simp only [deq, deqs_range, List.size_toArray, rl.length, rl'.length]
          rw [e]; exact this
        exact key
      | fls m =>
        obtain ⟨b, its', rfl, rl', p'⟩ := rd_lst I ry
        exact RcNeAt.tuple_list p p' hu0
      | _ => cases hy
    | fls l =>
      obtain ⟨a, its, rfl, rl, p⟩ := rd_lst I rx
      cases y with
      | non => rw [v_non ry]; exact RcNeAt.list_none p hu0
      | bl b => rw [v_bl ry]; exact RcNeAt.list_bool b p hu0
      | int b => obtain ⟨t, rfl⟩ := v_int ry; exact RcNeAt.list_int b t p hu0
      | str b => obtain ⟨t, rfl⟩ := v_str ry; exact RcNeAt.list_str b t p hu0
      | tup m =>
        obtain ⟨b, its', rfl, rl', p'⟩ := rd_tup I ry
        exact RcNeAt.list_tuple p p' hu0
      | fls m =>
        obtain ⟨b, its', rfl, rl', p'⟩ := rd_lst I ry
        have key : RcNeAt A s (.ref a) (.ref b) (!deq (.fls l) (.fls m)) := by
          by_cases hs : its.length = its'.length
          · have := RcNeAt.lists (e := fun i => deq (l.getD i .non) (m.getD i .non)) p p' (by simpa using hs) hu0 fun j h1 h2 => by
              have h1' : j < its.length := by simpa using h1
              have h2' : j < its'.length := by simpa using h2
              obtain ⟨x, ex, rx'⟩ := rl.get (List.getElem?_eq_getElem h1')
              obtain ⟨y, ey, ry'⟩ := rl'.get (List.getElem?_eq_getElem h2')
              have q := eq_core I n hu1 (List.all_eq_true.mp hx x (List.mem_of_getElem? ex)) (List.all_eq_true.mp hy y (List.mem_of_getElem? ey)) rx'.rd ry'.rd
              have e1 : l.getD j .non = x := by rw [List.getD_eq_getElem?_getD, ex]; rfl
              have e2 : m.getD j .non = y := by rw [List.getD_eq_getElem?_getD, ey]; rfl
              rw [e1, e2]
              simpa using q.1
            have e : deq (.fls l) (.fls m) = (List.range its.toArray.size).all (fun i => deq (l.getD i .non) (m.getD i .non)) := by
              have e0 : l.length = m.length := by rw [← rl.length, ← rl'.length]; exact hs
              simp [deq, deqs_range, rl.length, e0]
            rw [e]; exact this
          · have e : deq (.fls l) (.fls m) = false := by
              have e0 : l.length ≠ m.length := by rw [← rl.length, ← rl'.length]; exact hs
              simp [deq, deqs_range, e0]
            rw [e]
            exact RcNeAt.lists_lengths p p' (by simpa using hs) hu0
        exact key
      | _ => cases hy
    | ref a => cases hx
    | oth a => cases hx
    | non =>
      cases y with
      | tup m => obtain ⟨b, its', rfl, rl', p'⟩ := rd_tup I ry; rw [v_non rx]; exact RcNeAt.none_tuple p' hu0
      | fls m => obtain ⟨b, its', rfl, rl', p'⟩ := rd_lst I ry; rw [v_non rx]; exact RcNeAt.none_list p' hu0
      | ref a => cases hy
      | oth a => cases hy
      | _ => exact ih (by omega) (by cases n <;> rfl) (by cases n <;> rfl) rx ry
    | bl i =>
      cases y with
      | tup m => obtain ⟨b, its', rfl, rl', p'⟩ := rd_tup I ry; rw [v_bl rx]; exact RcNeAt.bool_tuple i p' hu0
      | fls m => obtain ⟨b, its', rfl, rl', p'⟩ := rd_lst I ry; rw [v_bl rx]; exact RcNeAt.bool_list i p' hu0
      | ref a => cases hy
      | oth a => cases hy
      | _ => exact ih (by omega) (by cases n <;> rfl) (by cases n <;> rfl) rx ry
    | int i =>
      cases y with
      | tup m => obtain ⟨b, its', rfl, rl', p'⟩ := rd_tup I ry; obtain ⟨t, rfl⟩ := v_int rx; exact RcNeAt.int_tuple i t p' hu0
      | fls m => obtain ⟨b, its', rfl, rl', p'⟩ := rd_lst I ry; obtain ⟨t, rfl⟩ := v_int rx; exact RcNeAt.int_list i t p' hu0
      | ref a => cases hy
      | oth a => cases hy
      | _ => exact ih (by omega) (by cases n <;> rfl) (by cases n <;> rfl) rx ry
    | str i =>
      cases y with
      | tup m => obtain ⟨b, its', rfl, rl', p'⟩ := rd_tup I ry; obtain ⟨t, rfl⟩ := v_str rx; exact RcNeAt.str_tuple i t p' hu0
      | fls m => obtain ⟨b, its', rfl, rl', p'⟩ := rd_lst I ry; obtain ⟨t, rfl⟩ := v_str rx; exact RcNeAt.str_list i t p' hu0
      | ref a => cases hy
      | oth a => cases hy
      | _ => exact ih (by omega) (by cases n <;> rfl) (by cases n <;> rfl) rx ry

def RDv (K : PySem.W.Frag) (H : Hp) (d : PV) (x : V) : Prop := match d with
  | .fls l => ∃ a vs, x = .ref a ∧ SqL K H a vs ∧ RPs K H l vs
  | d => RP K H d x
theorem RDv.rd {K : PySem.W.Frag} {d : PV} {x : V} {u : Value} (h : RDv K H d x) (r : L2.RelV x u) : RD K H d u := by
  cases d with
  | fls l => obtain ⟨a, vs, rfl, q, rr⟩ := h; cases r; exact ⟨a, vs, rfl, q, rr⟩
  | _ => exact ⟨x, h, r⟩
def withD (x : PV) (H : PHp) (k : PV → Prop) : Prop := match x with
  | .ref a => ∃ l, H a = some (.lst l) ∧ k (.fls l)
  | x => k x
theorem withD.ex {K : PySem.W.Frag} {σ' : St'} {x : PV} {v : V} {H' : PHp} {k : PV → Prop} (h : withD x H' k) (s : SR K B σ' H' σ H) (r : RP K H x v) : ∃ d, RDv K H d v ∧ k d := by
  cases x with
  | ref a =>
    obtain ⟨l, e, h⟩ := h
    obtain ⟨us, q, r2⟩ := s.hp _ _ e
    simp only [RP] at r
    exact ⟨.fls l, ⟨a, us, r, SqL.of q, r2⟩, h⟩
  | fls l =>
    simp only [RP] at r
    obtain ⟨a, us, e, q, r⟩ := r
    exact ⟨.fls l, ⟨a, us, e, q.sq, r⟩, h⟩
  | non => exact ⟨.non, r, h⟩
  | bl b => exact ⟨.bl b, r, h⟩
  | int b => exact ⟨.int b, r, h⟩
  | str b => exact ⟨.str b, r, h⟩
  | tup b => exact ⟨.tup b, r, h⟩
  | oth b => exact ⟨.oth b, r, h⟩
def rEqU (K : PySem.W.Frag) (g : Bool → Bool) : R2 := fun x y H Q => ∃ d1 d2, flat 9 d1 = true ∧ flat 9 d2 = true ∧ RDv K H d1 x ∧ RDv K H d2 y ∧ Q (.bl (g (deq d1 d2))) H
theorem op_eqU (hu : X.A.units + 64 < cLine) : OpR X (compareOp .Eq) (rEqU X.K fun b => b) := by
  intro pins s σ H x y v u Q I rx ry h
  obtain ⟨d1, d2, f1, f2, r1, r2, q⟩ := h
  exact (eq_core I 9 (by omega) f1 f2 (r1.rd rx) (r2.rd ry)).2 _ _ _ _ ⟨.bl _, H, I, rfl, q⟩
theorem op_neU (hu : X.A.units + 64 < cLine) : OpR X (compareOp .NotEq) (rEqU X.K fun b => !b) := by
  intro pins s σ H x y v u Q I rx ry h
  obtain ⟨d1, d2, f1, f2, r1, r2, q⟩ := h
  exact ne_core I 9 (by omega) f1 f2 (r1.rd rx) (r2.rd ry) _ _ _ _ ⟨.bl _, H, I, rfl, q⟩
def uEqG (g : Bool → Bool) : R2' := fun x y H Q => withD x H fun d1 => withD y H fun d2 => flat 9 d1 = true ∧ flat 9 d2 = true ∧ Q (.bl (g (deq d1 d2))) H
theorem vr_eq {K : PySem.W.Frag} {g : Bool → Bool} : VR K B (uEqG g) (rEqU K g) := by
  intro σ' σ H' H x' y' x y Q' Q s rx ry h k
  obtain ⟨d1, r1, h1⟩ := withD.ex h s rx
  obtain ⟨d2, r2, f1, f2, q⟩ := withD.ex h1 s ry
  exact ⟨d1, d2, f1, f2, r1, r2, k _ H' _ H q (by simp [RP]) s (Ev.refl _ _)⟩
def rInU (K : PySem.W.Frag) (g : Bool → Bool) : R2 := fun x y H Q => ∃ d p l us, flat 8 d = true ∧ RDv K H d x ∧ y = .ref p ∧ l.all (flat 8) = true ∧ RPs K H l us ∧ (SqL K H p us ∨ SqT K H p us) ∧ Q (.bl (g (l.any fun z => deq z d))) H
open Classical in
theorem in_items (I : Inv X pins σ H s) {A : Around} {d : PV} {v : Value} {l : List PV} {its : List Value} (hu : A.units + 20 < cLine) (fd : flat 8 d = true) (rd : RD X.K H d v) (fl : l.all (flat 8) = true) (rl : RL X.K H l its) :
    ∃ e : Value → Bool, (∀ y, y ∈ its.toArray → SeqAt.EqAt A.in1 s y v (e y)) ∧ its.toArray.any e = l.any fun z => deq z d := by
  refine ⟨fun u => decide (∃ z, flat 8 z = true ∧ RD X.K H z u ∧ deq z d = true), fun y hy => ?_, ?_⟩
  · have hy' : y ∈ its := by simpa using hy
    obtain ⟨i, hi⟩ := List.mem_iff_getElem?.mp hy'
    obtain ⟨z, ez, rz⟩ := rl.get hi
    have fz := List.all_eq_true.mp fl z (List.mem_of_getElem? ez)
    have q := (eq_core I 8 (A := A.in1) (by show A.units + 1 + 8 < cLine; omega) fz fd rz.rd rd).1
    have e : decide (∃ z, flat 8 z = true ∧ RD X.K H z y ∧ deq z d = true) = deq z d := by
      rw [Bool.eq_iff_iff, decide_eq_true_iff]
      constructor
      · rintro ⟨z', f', r', e'⟩
        rw [rd_inj I 8 fz f' rz.rd r']; exact e'
      · intro e; exact ⟨z, fz, rz.rd, e⟩
    show SeqAt.EqAt A.in1 s y v (decide _)
    rw [e]; exact q
  · rw [Bool.eq_iff_iff]
    simp only [List.any_toArray, List.any_eq_true, decide_eq_true_iff]
    constructor
    · rintro ⟨u, hu', z, fz, rz, ez⟩
      obtain ⟨i, hi⟩ := List.mem_iff_getElem?.mp hu'
      obtain ⟨z2, ez2, rz2⟩ := rl.get hi
      have fz2 := List.all_eq_true.mp fl z2 (List.mem_of_getElem? ez2)
      refine ⟨z2, List.mem_of_getElem? ez2, ?_⟩
      rw [rd_inj I 8 fz2 fz rz2.rd rz]; exact ez
    · rintro ⟨z, hz, ez⟩
      obtain ⟨i, hi⟩ := List.mem_iff_getElem?.mp hz
      have hlt : i < its.length := by
        have := (List.getElem?_eq_some_iff.mp hi).1
        rw [rl.length]; exact this
      obtain ⟨z2, ez2, rz2⟩ := rl.get (List.getElem?_eq_getElem hlt)
      rw [hi] at ez2; cases ez2
      exact ⟨_, List.getElem_mem hlt, z, List.all_eq_true.mp fl z hz, rz2.rd, ez⟩
theorem op_inU (hu : X.A.units + 64 < cLine) : OpR X (compareOp .In) (rInU X.K fun b => b) := by
  intro pins s σ H x y v u Q I rx ry h
  obtain ⟨d, p, l, us, fd, rd, rfl, fl, rl, hq, q⟩ := h
  cases ry
  rcases hq with hq | hq
  · obtain ⟨its, rv, pl, _⟩ := I.list hq
    obtain ⟨e, h1, h2⟩ := in_items I (A := X.A) (by omega) fd (rd.rd rx) fl ⟨us, rl, rv⟩
    exact SeqAt.in_listAt e pl.isList h1 (by rw [h2]; exact ⟨.bl _, H, I, rfl, q⟩)
  · obtain ⟨its, rv, pl, _⟩ := I.tuple hq
    obtain ⟨e, h1, h2⟩ := in_items I (A := X.A) (by omega) fd (rd.rd rx) fl ⟨us, rl, rv⟩
    exact SeqAt.in_tupleAt e pl h1 (by rw [h2]; exact ⟨.bl _, H, I, rfl, q⟩)
theorem op_notInU (hu : X.A.units + 64 < cLine) : OpR X (compareOp .NotIn) (rInU X.K fun b => !b) := by
  intro pins s σ H x y v u Q I rx ry h
  obtain ⟨d, p, l, us, fd, rd, rfl, fl, rl, hq, q⟩ := h
  cases ry
  rcases hq with hq | hq
  · obtain ⟨its, rv, pl, _⟩ := I.list hq
    obtain ⟨e, h1, h2⟩ := in_items I (A := X.A) (by omega) fd (rd.rd rx) fl ⟨us, rl, rv⟩
    exact SeqAt.notIn_listAt e pl.isList h1 (by rw [h2]; exact ⟨.bl _, H, I, rfl, q⟩)
  · obtain ⟨its, rv, pl, _⟩ := I.tuple hq
    obtain ⟨e, h1, h2⟩ := in_items I (A := X.A) (by omega) fd (rd.rd rx) fl ⟨us, rl, rv⟩
    exact SeqAt.notIn_tupleAt e pl h1 (by rw [h2]; exact ⟨.bl _, H, I, rfl, q⟩)
def uInG (g : Bool → Bool) : R2' := fun x y H Q => withD x H fun d => withS y H fun l => flat 8 d = true ∧ l.all (flat 8) = true ∧ Q (.bl (g (l.any fun z => deq z d))) H
theorem vr_in {K : PySem.W.Frag} {g : Bool → Bool} : VR K B (uInG g) (rInU K g) := by
  intro σ' σ H' H x' y' x y Q' Q s rx ry h k
  obtain ⟨d1, r1, h1⟩ := withD.ex h s rx
  obtain ⟨l, us, p, rfl, r2, hq, f1, f2, q⟩ := withS.ex h1 s ry
  exact ⟨d1, p, l, us, f1, r1, rfl, f2, r2, hq, k _ H' _ H q (by simp [RP]) s (Ev.refl _ _)⟩
def uIsN (g : Bool → Bool) : R2' := fun x y H Q => match y, x with
  | .non, .non => Q (.bl (g true)) H
  | .non, .oth _ => False
  | .non, _ => Q (.bl (g false)) H
  | _, _ => False
theorem isN_ex {K : PySem.W.Frag} {g : Bool → Bool} {x y : PV} {v w : V} {H' : PHp} {Q' : VK'} (h : uIsN g x y H' Q') (rx : RP K H x v) (ry : RP K H y w) : w = .non ∧ Q' (.bl (g (decide (v = .non)))) H' := by
  cases y with
  | non =>
    simp only [RP] at ry
    refine ⟨ry, ?_⟩
    cases x with
    | non => simp only [RP] at rx; subst rx; exact h
    | oth _ => exact h.elim
    | tup l =>
      simp only [RP] at rx
      obtain ⟨a, us, rfl, _⟩ := rx
      exact h
    | fls l =>
      simp only [RP] at rx
      obtain ⟨a, us, rfl, _⟩ := rx
      exact h
    | _ => simp only [RP] at rx; subst rx; exact h
  | _ => cases x <;> exact h.elim
theorem vr_isN {K : PySem.W.Frag} : VR K B (uIsN fun b => b) (fun x y H Q => y = .non ∧ Q (.bl (decide (x = .non))) H) := by
  intro σ' σ H' H x' y' x y Q' Q s rx ry h k
  obtain ⟨e, q⟩ := isN_ex h rx ry
  exact ⟨e, k _ H' _ H q (by simp [RP]) s (Ev.refl _ _)⟩
theorem vr_notN {K : PySem.W.Frag} : VR K B (uIsN fun b => !b) (fun x y H Q => y = .non ∧ Q (.bl (!decide (x = .non))) H) := by
  intro σ' σ H' H x' y' x y Q' Q s rx ry h k
  obtain ⟨e, q⟩ := isN_ex h rx ry
  exact ⟨e, k _ H' _ H q (by simp [RP]) s (Ev.refl _ _)⟩
inductive BT where | non | bool | int | str | list | tuple
def BT.nm : BT → String | .non => "NoneType" | .bool => "bool" | .int => "int" | .str => "str" | .list => "list" | .tuple => "tuple"
def BT.sub : BT → BT → Bool
  | .non, .non => true | .bool, .bool => true | .int, .int => true | .str, .str => true | .list, .list => true | .tuple, .tuple => true
  | .bool, .int => true
  | _, _ => false
theorem kit_bt (K : PySem.W.Frag) (t c : BT) : PySem.W.kitOne K (.type t.nm) (.type c.nm) = some (t.sub c) := by
  cases t <;> cases c <;> kernel_rfl
def btV (K : PySem.W.Frag) (H : Hp) (t : BT) (x : V) : Prop := match t with
  | .non => x = .non
  | .bool => ∃ b, x = .bl b
  | .int => ∃ b, x = .int b
  | .str => ∃ b, x = .str b
  | .list => ∃ a us, x = .ref a ∧ SqL K H a us
  | .tuple => ∃ a us, x = .ref a ∧ SqT K H a us
theorem call_isiB (c : BT) : CallR X (.builtin "isinstance") (fun xs H Q => ∃ x t, xs = [x, .ty c.nm] ∧ btV X.K H t x ∧ Q (.bl (t.sub c)) H) := by
  intro pins s σ H xs us Q I r h
  obtain ⟨x, t, rfl, ht, q⟩ := h
  obtain ⟨u, w', rfl, rx, rc⟩ := vals2 r
  have e1 : w' = Value.type c.nm := rc
  subst e1
  have k := kit_bt X.K t c
  have fin : ∀ tk, EP X pins σ Q (.bool (t.sub c)) { s with toks := tk } := fun tk => ⟨.bl _, H, I.tok _, rfl, q⟩
  cases t with
  | non => cases (show x = V.non from ht); exact isinst_ok I rx .non k fin
  | bool => obtain ⟨b, rfl⟩ := ht; exact isinst_ok I rx (.bl b) k fin
  | int => obtain ⟨b, rfl⟩ := ht; exact isinst_ok I rx (.int b) k fin
  | str => obtain ⟨b, rfl⟩ := ht; exact isinst_ok I rx (.str b) k fin
  | list =>
    obtain ⟨a, us, rfl, hq⟩ := ht
    cases rx
    obtain ⟨its, rv, pl, _⟩ := I.list hq
    obtain ⟨o, e, hc, _⟩ := pl.isList
    exact PySem.W.kia_one PySem.W.kitx_list I.kIn ⟨o, e, hc⟩ k (fun z => nomatch z) fin
  | tuple =>
    obtain ⟨a, us, rfl, hq⟩ := ht
    cases rx
    obtain ⟨its, rv, pl, _⟩ := I.tuple hq
    obtain ⟨o, e, hc, _⟩ := pl
    exact PySem.W.kia_one PySem.W.kitx_tuple I.kIn ⟨o, e, hc⟩ k (fun z => nomatch z) fin
def withTy (x : PV) (H : PHp) (k : BT → Prop) : Prop := match x with
  | .non => k .non
  | .bl _ => k .bool
  | .int _ => k .int
  | .str _ => k .str
  | .tup _ => k .tuple
  | .fls _ => k .list
  | .ref a => ∃ l, H a = some (.lst l) ∧ k .list
  | _ => False
theorem withTy.ex {K : PySem.W.Frag} {σ' : St'} {x : PV} {v : V} {H' : PHp} {k : BT → Prop} (h : withTy x H' k) (s : SR K B σ' H' σ H) (r : RP K H x v) : ∃ t, btV K H t v ∧ k t := by
  cases x with
  | non => simp only [RP] at r; exact ⟨.non, r, h⟩
  | bl b => simp only [RP] at r; exact ⟨.bool, ⟨b, r⟩, h⟩
  | int b => simp only [RP] at r; exact ⟨.int, ⟨b, r⟩, h⟩
  | str b => simp only [RP] at r; exact ⟨.str, ⟨b, r⟩, h⟩
  | tup l => simp only [RP] at r; obtain ⟨a, us, e, q, _⟩ := r; exact ⟨.tuple, ⟨a, us, e, q⟩, h⟩
  | fls l => simp only [RP] at r; obtain ⟨a, us, e, q, _⟩ := r; exact ⟨.list, ⟨a, us, e, q.sq⟩, h⟩
  | ref a =>
    simp only [RP] at r
    obtain ⟨l, e, h⟩ := h
    obtain ⟨us, q, _⟩ := s.hp _ _ e
    exact ⟨.list, ⟨a, us, r, SqL.of q⟩, h⟩
  | oth _ => exact h.elim
def uIsi (c : BT) : List PV → PHp → VK' → Prop := fun xs H Q => match xs with
  | [x, .oth (.ty n)] => n = c.nm ∧ withTy x H fun t => Q (.bl (t.sub c)) H
  | _ => False
theorem vc_isi {K : PySem.W.Frag} (c : BT) : VC K B (uIsi c) (fun xs H Q => ∃ x t, xs = [x, .ty c.nm] ∧ btV K H t x ∧ Q (.bl (t.sub c)) H) := by
  intro σ' σ H' H xs' xs Q' Q s r h k
  unfold uIsi at h
  split at h
  · rename_i x n
    obtain ⟨rfl, h⟩ := h
    simp only [RPs, RP] at r
    obtain ⟨u, r1, rfl, rx, w, r2, rfl, rfl, rfl⟩ := r
    obtain ⟨t, bt, h⟩ := withTy.ex h s rx
    exact ⟨u, t, rfl, bt, k _ H' _ H h (by simp [RP]) s (Ev.refl _ _)⟩
  · exact h.elim
theorem qe_bty {x : Str} {n : String} {pos : Pos} (hg : Gl X x) (hm : X.mg x = none) (hv : bootBuiltins x = some (.type n)) (hn : x ≠ "__name__" := by decide) (hd : (x == ("__debug__" : Str)) = false := by decide) : PE' X B (.Name x pos) (uC (.oth (.ty n))) :=
  pe_imp (pe_bltn (v := .ty n) hg hm hv rfl hn hd) fun _ _ _ h => lowC (fun _ => by simp [RP]) h
variable {e o : Expr} {es : List Expr} {to : TE'} {t : TA'} {name : Str} {apos cpos : Pos}
def isL (x : PV) (H1 : PHp) : Prop := match x with
  | .ref a => ∃ l, H1 a = some (.lst l)
  | _ => False
def uBM (r : PV → List PV → PHp → VK' → Prop) (to : TE') (t : TA') : TE' := fun σ H Q => to σ H fun x H1 => isL x H1 ∧ t σ H1 fun xs H2 => r x xs H2 Q
def uBM0 (r : PV → List PV → PHp → VK' → Prop) (to : TE') : TE' := fun σ H Q => to σ H fun x H1 => r x [] H1 Q
def VM (K : PySem.W.Frag) (B : Bs) (r' : PV → List PV → PHp → VK' → Prop) (r : V → List V → Hp → VK → Prop) : Prop := ∀ (σ' : St') (σ : L2.St) (H' : PHp) (H : Hp) x' xs' x xs (Q' : VK') (Q : VK), SR K B σ' H' σ H → RP K H x' x → RPs K H xs' xs → r' x' xs' H' Q' →
  (∀ v' H1' v H1, Q' v' H1' → RP K H1 v' v → SR K B σ' H1' σ H1 → Ev H' H H1' H1 → Q v H1) → r x xs H Q
theorem low_bm {K : PySem.W.Frag} {r' : PV → List PV → PHp → VK' → Prop} {r : V → List V → Hp → VK → Prop} (v : VM K B r' r) {σ : L2.St} {H : Hp} {Q : VK} (h : low K B (uBM r' to t) σ H Q) : tBM K "list" r (low K B to) (lowA K B t) σ H Q := by
  obtain ⟨σ', H', Q', s, h, k⟩ := h
  refine ⟨σ', H', _, s, h, fun x' H1' x H1 h1 rx s1 e1 => ?_⟩
  obtain ⟨ty, h1⟩ := h1
  constructor
  · cases x' with
    | ref a =>
      obtain ⟨l, e⟩ := ty
      obtain ⟨us, q, _⟩ := s1.hp _ _ e
      simp only [RP] at rx
      subst rx
      exact .inl ⟨rfl, us, SqL.of q⟩
    | _ => exact ty.elim
  · refine ⟨σ', H1', _, s1, h1, fun xs' H2' xs H2 h2 r2 s2 e2 => ?_⟩
    exact v σ' σ H2' H2 x' xs' x xs Q' Q s2 (RP.kp K (e2.kp s1.hp) rx) r2 h2 fun v' H3' v H3 q rv s3 e3 => k v' H3' v H3 q rv s3 (e1.trans (e2.trans e3))
theorem qe_bm {id : String} {r' : PV → List PV → PHp → VK' → Prop} {r : V → List V → Hp → VK → Prop} (slot : Slot "list" name id) (hty : typeOf (.builtin id) = pure (.type "method_descriptor")) (hm : MtR X id r) (v : VM X.K B r' r) (ho : PE' X B o to) (ha : PA' X B (e :: es) t)
    (hbase : attributeBase o name X.env (eval o X.env) = eval o X.env := by rfl)
    (hfew : ((backTo cpos (starEach (e :: es) X.env)).all (fun x => !x.1) && (backToKw cpos (keywordEach [] X.env)).all (fun x => x.1.isSome)
      && decide ((e :: es).length + ([] : List Keyword).length + (if ([] : List Keyword).isEmpty then 0 else 1) < 30)) = true := by rfl)
    (hline : (apos.endLine == cpos.line) = true := by rfl) (hs : starEach (e :: es) X.env = (false, eval e X.env) :: starEach es X.env := by rfl) (hplain : (backTo cpos (starEach es X.env)).any (·.1) = false := by rfl) :
    PE' X B (.Call (.Attribute o name apos) (e :: es) [] cpos) (uBM r' to t) := pe_imp (pe_bm PySem.F.plainAttrs_list slot hty hm ho ha hbase hfew hline hs hplain) fun _ _ _ h => low_bm v h
theorem qe_bm0 {id : String} {r' : PV → List PV → PHp → VK' → Prop} {r : V → List V → Hp → VK → Prop} (slot : Slot "list" name id) (hty : typeOf (.builtin id) = pure (.type "method_descriptor")) (hm : MtR X id r) (v : VM X.K B r' r)
    (hl : ∀ x H Q, r' x [] H Q → match x with | .ref a => ∃ l, H a = some (.lst l) | _ => False) (ho : PE' X B o to)
    (hbase : attributeBase o name X.env (eval o X.env) = eval o X.env := by rfl) (hline : (apos.endLine == cpos.line) = true := by rfl) :
    PE' X B (.Call (.Attribute o name apos) [] [] cpos) (uBM0 r' to) := pe_imp (pe_bm0 PySem.F.plainAttrs_list slot hty hm ho hbase hline) fun σ H Q h => by
  obtain ⟨σ', H', Q', s, h, k⟩ := h
  refine ⟨σ', H', _, s, h, fun x' H1' x H1 h1 rx s1 e1 => ?_⟩
  constructor
  · have ty := hl _ _ _ h1
    cases x' with
    | ref a =>
      obtain ⟨l, e⟩ := ty
      obtain ⟨us, q, _⟩ := s1.hp _ _ e
      simp only [RP] at rx
      subst rx
      exact .inl ⟨rfl, us, SqL.of q⟩
    | _ => exact ty.elim
  · exact v σ' σ H1' H1 x' [] x [] Q' Q s1 rx (RPs.nil _) h1 fun v' H3' v H3 q rv s3 e3 => k v' H3' v H3 q rv s3 (e1.trans e3)
def uAppend : PV → List PV → PHp → VK' → Prop := fun x vs H Q => match x, vs with
  | .ref a, [y] => ∃ l, H a = some (.lst l) ∧ l.length < sizeLine ∧ Q .non (put H a (.lst (l ++ [y])))
  | _, _ => False
theorem vm_append {K : PySem.W.Frag} : VM K B uAppend rAppend := by
  intro σ' σ H' H x' xs' x xs Q' Q s rx r h k
  unfold uAppend at h
  split at h
  · rename_i a y
    obtain ⟨l, e, hl, h⟩ := h
    obtain ⟨us, q, r2⟩ := s.hp _ _ e
    simp only [RP, RPs] at rx r
    obtain ⟨u, r1, rfl, ru, rfl⟩ := r
    subst rx
    exact ⟨a, us, u, rfl, rfl, q, by rw [RPs.length _ r2]; exact hl, k _ _ _ _ h (by simp [RP]) (s.wr e (wrL s.hp e (RPs.append _ r2 (RPs.cons _ ru (RPs.nil _))))) (Ev.wr e)⟩
  · exact h.elim
def uExtend : PV → List PV → PHp → VK' → Prop := fun x vs H Q => match x, vs with
  | .ref a, [.ref b] => ∃ l m, H a = some (.lst l) ∧ H b = some (.lst m) ∧ l.length + m.length ≤ sizeLine ∧ Q .non (put H a (.lst (l ++ m)))
  | _, _ => False
def uPop : PV → List PV → PHp → VK' → Prop := fun x vs H Q => match x, vs with
  | .ref a, [] => ∃ l y, H a = some (.lst l) ∧ l[l.length - 1]? = some y ∧ Q y (put H a (.lst l.dropLast))
  | _, _ => False
theorem vm_pop {K : PySem.W.Frag} : VM K B uPop rPop := by
  intro σ' σ H' H x' xs' x xs Q' Q s rx r h k
  unfold uPop at h
  split at h
  · rename_i a
    obtain ⟨l, y, e, hl, h⟩ := h
    obtain ⟨us, q, r2⟩ := s.hp _ _ e
    simp only [RP, RPs] at rx r
    subst rx; subst r
    obtain ⟨u, e1, e2⟩ := RPs.get _ r2 hl
    exact ⟨a, us, u, rfl, rfl, q, by rw [RPs.length _ r2]; exact e1, k _ _ _ _ h (RP.kp _ (s.hp.kpw e) e2) (s.wr e (wrL s.hp e (RPs.dropLast _ r2))) (Ev.wr e)⟩
  · exact h.elim
end
end U


set_option linter.all false
set_option maxRecDepth 1000000
set_option maxHeartbeats 4000000
namespace U
open PySem L2
variable {B : Bs}
theorem rngL_drop (lo : Int) (n i : Nat) (h : i < n) : (rngL lo n).drop i = PV.int (lo + (i : Nat)) :: (rngL lo n).drop (i + 1) := by
  have hl : i < (rngL lo n).length := by simpa [rngL] using h
  rw [List.drop_eq_getElem_cons hl]
  simp [rngL]
theorem rngL_end (lo : Int) (n : Nat) : (rngL lo n).drop n = [] := by
  apply List.drop_of_length_le
  simp [rngL]
theorem for_rng {ok : PHp → Prop} {g : TG'} {tb : TS'} {D : Ends'} {lo : Int} {n : Nat} (Pv : Nat → St' → PHp → Prop) (hd : ∀ σ H, Pv n σ H → ok H ∧ D.nx σ H)
    (hs : ∀ (G : St' → PHp → Prop) i σ H, i < n → Pv i σ H → (∀ σ' H', Pv (i + 1) σ' H' → G σ' H') → ok H ∧ g (.int (lo + (i : Nat))) σ H fun σ2 H2 => tb { D with nx := G, ct := G, bk := D.nx } σ2 H2)
    {σ : St'} {H : PHp} (h0 : Pv 0 σ H) : uForL ok g tb D (rngL lo n) σ H := by
  have key : ∀ (k i : Nat) {σ : St'} {H : PHp}, i + k = n → Pv i σ H → uForL ok g tb D ((rngL lo n).drop i) σ H := by
    intro k
    induction k with
    | zero =>
      intro i σ H hk p
      have : i = n := hk
      subst this
      rw [rngL_end]
      exact hd σ H p
    | succ k ih =>
      intro i σ H hk p
      have hi : i < n := hk ▸ Nat.lt_add_of_pos_right (Nat.succ_pos k)
      rw [rngL_drop lo n i hi]
      exact hs _ i σ H hi p fun σ' H' p' => ih (i + 1) ((Nat.succ_add_eq_add_succ i k).trans hk) p'
  exact key n 0 (Nat.zero_add n) h0
theorem for_at {ok : PHp → Prop} {g : TG'} {tb : TS'} {D : Ends'} {xs : List PV} (Pv : Nat → St' → PHp → Prop) (hd : ∀ σ H, Pv xs.length σ H → ok H ∧ D.nx σ H)
    (hs : ∀ (G : St' → PHp → Prop) i x σ H, xs[i]? = some x → Pv i σ H → (∀ σ' H', Pv (i + 1) σ' H' → G σ' H') → ok H ∧ g x σ H fun σ2 H2 => tb { D with nx := G, ct := G, bk := D.nx } σ2 H2)
    {σ : St'} {H : PHp} (h0 : Pv 0 σ H) : uForL ok g tb D xs σ H := by
  have key : ∀ (k i : Nat) {σ : St'} {H : PHp}, xs.length - i = k → i ≤ xs.length → Pv i σ H → uForL ok g tb D (xs.drop i) σ H := by
    intro k
    induction k with
    | zero =>
      intro i σ H hk hi p
      have : i = xs.length := by omega
      subst this
      rw [List.drop_length]
      exact hd σ H p
    | succ k ih =>
      intro i σ H hk hi p
      have hl : i < xs.length := by omega
      rw [List.drop_eq_getElem_cons hl]
      exact hs _ i _ σ H (List.getElem?_eq_getElem hl) p fun σ' H' p' => ih (i + 1) (by omega) (by omega) p'
  have := key xs.length 0 (by omega) (by omega) h0
  simpa using this
theorem atI_int {m : List Int} {z : Int} (h0 : 0 ≤ z) (h1 : z < m.length) : atI (m.map PV.int) z = some (.int (m.getD z.toNat 0)) := by
  unfold atI ixN
  rw [if_pos h0, List.length_map, if_pos h1]
  show (m.map PV.int)[z.toNat]? = _
  rw [List.getElem?_map, List.getD_eq_getElem?_getD]
  have : z.toNat < m.length := by omega
  rw [List.getElem?_eq_getElem this]
  rfl
theorem w_V {v : PV} {k : PV → Prop} : withV (some (some v)) k = k v := rfl
theorem w_B {b : Bool} {k : Bool → Prop} : withB (.bl b) k = k b := rfl
theorem w_I {b : Int} {k : Int → Prop} : withI (.int b) k = k b := rfl
theorem w_O {b : PV} {k : PV → Prop} : withO (some b) k = k b := rfl
theorem w_St {l : List PV} {H : PHp} {k : List PV → Prop} : withS (.tup l) H k = k l := rfl
theorem w_Sf {l : List PV} {H : PHp} {k : List PV → Prop} : withS (.fls l) H k = k l := rfl
theorem w_Sr {a : Addr} {H : PHp} {k : List PV → Prop} : withS (.ref a) H k = ∃ l, H a = some (.lst l) ∧ k l := rfl
theorem w_Dr {a : Addr} {H : PHp} {k : PV → Prop} : withD (.ref a) H k = ∃ l, H a = some (.lst l) ∧ k (.fls l) := rfl
theorem w_Dn {H : PHp} {k : PV → Prop} : withD .non H k = k .non := rfl
theorem w_Db {b : Bool} {H : PHp} {k : PV → Prop} : withD (.bl b) H k = k (.bl b) := rfl
theorem w_Di {b : Int} {H : PHp} {k : PV → Prop} : withD (.int b) H k = k (.int b) := rfl
theorem w_Ds {b : Str} {H : PHp} {k : PV → Prop} : withD (.str b) H k = k (.str b) := rfl
theorem w_Dt {b : List PV} {H : PHp} {k : PV → Prop} : withD (.tup b) H k = k (.tup b) := rfl
theorem w_Df {b : List PV} {H : PHp} {k : PV → Prop} : withD (.fls b) H k = k (.fls b) := rfl
theorem w_Tn {H : PHp} {k : BT → Prop} : withTy .non H k = k .non := rfl
theorem w_Tb {b : Bool} {H : PHp} {k : BT → Prop} : withTy (.bl b) H k = k .bool := rfl
theorem w_Ti {b : Int} {H : PHp} {k : BT → Prop} : withTy (.int b) H k = k .int := rfl
theorem w_Ts {b : Str} {H : PHp} {k : BT → Prop} : withTy (.str b) H k = k .str := rfl
theorem w_Tt {b : List PV} {H : PHp} {k : BT → Prop} : withTy (.tup b) H k = k .tuple := rfl
theorem w_Tf {b : List PV} {H : PHp} {k : BT → Prop} : withTy (.fls b) H k = k .list := rfl
theorem w_Tr {a : Addr} {H : PHp} {k : BT → Prop} : withTy (.ref a) H k = ∃ l, H a = some (.lst l) ∧ k .list := rfl
theorem w_Ni {b : Int} {k : Int → Prop} : intOf (.int b) k = k b := rfl
theorem w_Nb {b : Bool} {k : Int → Prop} : intOf (.bl b) k = k (b2n b) := rfl
theorem w_Lf {l : List PV} {lo hi : Option Int} {H : PHp} {Q : VK'} : sliceOf (.fls l) lo hi H Q = ∀ p, H p = none → Q (.ref p) (put H p (.lst (cutP l lo hi))) := rfl
theorem w_Lr {a : Addr} {lo hi : Option Int} {H : PHp} {Q : VK'} : sliceOf (.ref a) lo hi H Q = ∃ l, H a = some (.lst l) ∧ ∀ p, H p = none → Q (.ref p) (put H p (.lst (cutP l lo hi))) := rfl
theorem w_Lt {l : List PV} {lo hi : Option Int} {H : PHp} {Q : VK'} : sliceOf (.tup l) lo hi H Q = (¬ (HT.sIx l.length 0 lo = 0 ∧ HT.sIx l.length l.length hi = l.length) ∧ Q (.tup (cutP l lo hi)) H) := rfl
theorem w_Xt {l : List PV} {H : PHp} {R : It' → PHp → Prop} : itOf (.tup l) H R = R ⟨l, fun _ => True⟩ H := rfl
theorem w_Xf {l : List PV} {H : PHp} {R : It' → PHp → Prop} : itOf (.fls l) H R = R ⟨l, fun _ => True⟩ H := rfl
theorem w_Xr {a : Addr} {H : PHp} {R : It' → PHp → Prop} : itOf (.ref a) H R = ∃ l, H a = some (.lst l) ∧ R ⟨l, fun H => H a = some (.lst l)⟩ H := rfl
theorem w_1 {f : PV → PHp → VK' → Prop} {x : PV} {H : PHp} {Q : VK'} : arg1 f [x] H Q = f x H Q := rfl
theorem w_isi {c : BT} {x : PV} {n : String} {H : PHp} {Q : VK'} : uIsi c [x, .oth (.ty n)] H Q = (n = c.nm ∧ withTy x H fun t => Q (.bl (t.sub c)) H) := rfl
theorem w_n0 {g : Bool → Bool} {H : PHp} {Q : VK'} : uIsN g .non .non H Q = Q (.bl (g true)) H := rfl
theorem w_n1 {g : Bool → Bool} {a : Addr} {H : PHp} {Q : VK'} : uIsN g (.ref a) .non H Q = Q (.bl (g false)) H := rfl
theorem w_n2 {g : Bool → Bool} {l : List PV} {H : PHp} {Q : VK'} : uIsN g (.tup l) .non H Q = Q (.bl (g false)) H := rfl
theorem w_n3 {g : Bool → Bool} {l : Int} {H : PHp} {Q : VK'} : uIsN g (.int l) .non H Q = Q (.bl (g false)) H := rfl
theorem w_n4 {g : Bool → Bool} {l : Bool} {H : PHp} {Q : VK'} : uIsN g (.bl l) .non H Q = Q (.bl (g false)) H := rfl
theorem w_vt {n : Nat} {t : TGs'} {l : List PV} {σ : St'} {H : PHp} {Q : St' → PHp → Prop} : vTup n t (.tup l) σ H Q = (l.length = n ∧ t l σ H Q) := rfl
theorem w_vc {t : TG'} {u : TGs'} {v : PV} {r : List PV} {σ : St'} {H : PHp} {Q : St' → PHp → Prop} : vCons t u (v :: r) σ H Q = t v σ H fun σ' H' => u r σ' H' Q := rfl
theorem w_vn {σ : St'} {H : PHp} {Q : St' → PHp → Prop} : vNil [] σ H Q = (True ∧ Q σ H) := by simp [vNil]
theorem w_r1 {t : TA'} {σ : St'} {H : PHp} {R : It' → PHp → Prop} : uRng1 t σ H R = t σ H fun vs H1 => rng1 vs H1 R := rfl
theorem w_r1' {j : Int} {H1 : PHp} {R : It' → PHp → Prop} : rng1 [.int j] H1 R = ((-(2 ^ 62) ≤ j ∧ j < 2 ^ 62) ∧ R ⟨rngL 0 j.toNat, fun _ => True⟩ H1) := rfl
theorem w_r2 {t : TA'} {σ : St'} {H : PHp} {R : It' → PHp → Prop} : uRng2 t σ H R = t σ H fun vs H1 => rng2 vs H1 R := rfl
theorem w_r2' {i j : Int} {H1 : PHp} {R : It' → PHp → Prop} : rng2 [.int i, .int j] H1 R = ((-(2 ^ 62) ≤ i ∧ i < 2 ^ 62 ∧ -(2 ^ 62) ≤ j ∧ j < 2 ^ 62) ∧ R ⟨rngL i (j - i).toNat, fun _ => True⟩ H1) := rfl
theorem w_ap {a : Addr} {y : PV} {H : PHp} {Q : VK'} : uAppend (.ref a) [y] H Q = ∃ l, H a = some (.lst l) ∧ l.length < sizeLine ∧ Q .non (put H a (.lst (l ++ [y]))) := rfl
theorem w_ex {a b : Addr} {H : PHp} {Q : VK'} : uExtend (.ref a) [.ref b] H Q = ∃ l m, H a = some (.lst l) ∧ H b = some (.lst m) ∧ l.length + m.length ≤ sizeLine ∧ Q .non (put H a (.lst (l ++ m))) := rfl
theorem w_po {a : Addr} {H : PHp} {Q : VK'} : uPop (.ref a) [] H Q = ∃ l y, H a = some (.lst l) ∧ l[l.length - 1]? = some y ∧ Q y (put H a (.lst l.dropLast)) := rfl
theorem w_bm {r : PV → List PV → PHp → VK' → Prop} {to : TE'} {t : TA'} {σ : St'} {H : PHp} {Q : VK'} : uBM r to t σ H Q = to σ H fun x H1 => isL x H1 ∧ t σ H1 fun xs H2 => r x xs H2 Q := rfl
theorem w_il {a : Addr} {H : PHp} : isL (.ref a) H = ∃ l, H a = some (.lst l) := rfl
theorem small_size {n : Nat} (h : n ≤ 1000) : n ≤ sizeLine := Nat.le_of_lt (small1000 h)
end U
namespace U
open PySem L2
theorem seq_abs {t u : TS'} {D : Ends'} {σ : St'} {H : PHp} (h : ∀ R : TS', R = u → uSeq t R D σ H) : uSeq t u D σ H := h u rfl
end U


set_option linter.all false
set_option maxRecDepth 1000000
set_option maxHeartbeats 4000000
namespace U
open PySem PySem.Spec PyProof.Rows L2
variable {B : Bs}
section
variable {X : Cx} {pins : List (Addr × Obj)} {σ : L2.St} {H H' : Hp} {s : Shared} {h' : Heap} {a C T : Addr} {fl : Value}
variable {M : Model} {E : Value → Shared → Prop} {Q : Unit → Shared → Prop}
end
end U


set_option linter.all false
set_option maxHeartbeats 4000000
set_option maxRecDepth 1000000
namespace U
open PySem PySem.Spec PyProof.Rows L2 PySem.W
section
variable {prog : Program} {w : World} {A : Around} {E : Value → Shared → Prop} {h : Heap} {g : Array GenState} {d : Drawn} {t : Nat} {os : OsState} {a C : Addr} {o : Obj} {K : Frag}
end
end U


set_option linter.all false
set_option maxRecDepth 1000000
set_option maxHeartbeats 4000000
namespace U
open PySem PySem.Spec PyProof.Rows L2
variable {B : Bs}
section
variable {P : Program} {w : World} {K : PySem.W.Frag} {mg : Str → Option Value} {base : Heap}
end
section
variable {X : Cx} {k : Nat} {f C D : Addr} {fd : FuncData} {ps : List Str} {sp : Sp'} {E : XK} {E' : XK'} {x m n : Str} {p np pos apos cpos : Pos} {e o : Expr} {es : List Expr} {ta : TE'} {t : TA'}
end
end U


set_option linter.all false
set_option maxRecDepth 1000000
set_option maxHeartbeats 4000000
namespace U
open PySem PySem.Spec PyProof.Rows L2
variable {B : Bs}
section
variable {X : Cx} {pins : List (Addr × Obj)} {σ : L2.St} {H : Hp} {s : Shared} {a C T : Addr} {fl : Value}
abbrev mk (X : Cx) (e : Value) : Cx := { X with A := X.A.mark (some e), calm := false, xe := fun _ _ => False }
end
end U


set_option linter.all false
set_option maxRecDepth 1000000
set_option maxHeartbeats 4000000
namespace U
open PySem PySem.Spec PyProof.Rows L2
variable {B : Bs}
section
variable {X : Cx} {k : Nat} {f C D : Addr} {fd : FuncData} {ps : List Str} {sp : Sp'} {x m n : Str} {p np pos apos cpos : Pos} {e o : Expr} {es : List Expr} {ta : TE'} {t : TA'}
end
end U


set_option linter.all false
set_option maxRecDepth 1000000
set_option maxHeartbeats 4000000
namespace U
open PySem L2
def pr (p : Str × Bool) : PV := .tup [.str p.1, .bl p.2]
end U
namespace U
open PySem L2
def pairs : List (Str × TE') → List Bool → List PV
  | (n, _) :: r, b :: bs => .tup [.str n, .bl b] :: pairs r bs
  | _, _ => []
end U
namespace U
open PySem
theorem len0 {P : List Value → Prop} (h : P []) (us : List Value) (hl : us.length = 0) : P us := by
  cases us with
  | nil => exact h
  | cons a r => exact absurd hl (Nat.succ_ne_zero _)
theorem len1 {P : List Value → Prop} (h : ∀ a, P [a]) (us : List Value) (hl : us.length = 1) : P us := by
  cases us with
  | nil => exact absurd hl.symm (Nat.succ_ne_zero _)
  | cons a r => exact len0 (P := fun r => P (a :: r)) (h a) r (Nat.succ.inj hl)
theorem len2 {P : List Value → Prop} (h : ∀ a b, P [a, b]) (us : List Value) (hl : us.length = 2) : P us := by
  cases us with
  | nil => exact absurd hl.symm (Nat.succ_ne_zero _)
  | cons a r => exact len1 (P := fun r => P (a :: r)) (h a) r (Nat.succ.inj hl)
theorem len3 {P : List Value → Prop} (h : ∀ a b c, P [a, b, c]) (us : List Value) (hl : us.length = 3) : P us := by
  cases us with
  | nil => exact absurd hl.symm (Nat.succ_ne_zero _)
  | cons a r => exact len2 (P := fun r => P (a :: r)) (h a) r (Nat.succ.inj hl)
theorem len4 {P : List Value → Prop} (h : ∀ a b c d, P [a, b, c, d]) (us : List Value) (hl : us.length = 4) : P us := by
  cases us with
  | nil => exact absurd hl.symm (Nat.succ_ne_zero _)
  | cons a r => exact len3 (P := fun r => P (a :: r)) (h a) r (Nat.succ.inj hl)
end U
namespace U
open PySem PySem.Spec PyProof.Rows L2
variable {B : Bs} {X : Cx}
end U


set_option linter.all false
set_option maxRecDepth 1000000
set_option maxHeartbeats 4000000
namespace L2
open PySem PySem.Spec PyProof.Rows
def compCx (X : Cx) (N2 : List Str) (scope : Scope) (cl : List (Str × Addr)) (s0 : Shared) (H0 : Hp) (fp : List Addr) (ps : List (Addr × Obj)) : Cx :=
  { X with N := N2, s₀ := s0, H₀ := H0, env := compEnvC scope cl s0.heap.objs.size X.env, outer := X.stack, stack := X.stack, ex := fp, fn := fun x => (cl.lookup x).isNone, pn := ps, xe := fun _ _ => False }
def sig0 (nt : Nat) (js : List Nat) (σ : St) : St := List.replicate nt none ++ js.map fun j => (σ[j]?).join
theorem lookup_relabel_free {env : Env} : ∀ {names : List (Str × NameKind)} {x : Str}, names.lookup x = some .free →
    (names.map fun (n, k) => if (k == NameKind.free && env.scope.kind == .function && env.kindOf n == some .cell) then (n, NameKind.cell) else (n, k)).lookup x = some .cell ∨
    (names.map fun (n, k) => if (k == NameKind.free && env.scope.kind == .function && env.kindOf n == some .cell) then (n, NameKind.cell) else (n, k)).lookup x = some .free
  | [], _, h => by simp at h
  | (n, k) :: r, x, h => by
    have ih := @lookup_relabel_free env r x
    show List.lookup x ((if (k == NameKind.free && env.scope.kind == .function && env.kindOf n == some .cell) = true then (n, NameKind.cell) else (n, k)) :: _) = _ ∨ List.lookup x ((if (k == NameKind.free && env.scope.kind == .function && env.kindOf n == some .cell) = true then (n, NameKind.cell) else (n, k)) :: _) = _
    cases hx : x == n with
    | true =>
      simp only [List.lookup_cons, hx] at h
      cases h
      by_cases hc : (NameKind.free == NameKind.free && env.scope.kind == .function && env.kindOf n == some .cell) = true
      · rw [if_pos hc]; simp [List.lookup_cons, hx]
      · rw [if_neg hc]; simp [List.lookup_cons, hx]
    | false =>
      simp only [List.lookup_cons, hx] at h
      by_cases hc : (k == NameKind.free && env.scope.kind == .function && env.kindOf n == some .cell) = true
      · rw [if_pos hc]; simp only [List.lookup_cons, hx]; exact ih h
      · rw [if_neg hc]; simp only [List.lookup_cons, hx]; exact ih h
structure CompOk (X : Cx) (N2 : List Str) (nt : Nat) (js : List Nat) (scope : Scope) (cl : List (Str × Addr)) (sc : Scope) : Prop where
  clos : closureFor scope X.env = pure cl
  sub : ∀ x c, cl.lookup x = some c → X.env.cells.lookup x = some c
  xsc : X.env.scope = sc
  kind : scope.kind = .function
  nocell : ∀ y ∈ scope.names, y.2 ≠ .cell
  loc : ∀ y ∈ scope.names, y.2 = .local → scope.names.lookup y.1 = some .local
  has : ∀ y ∈ scope.names, y.2 = .free → y.1 ∈ cl.map (·.1)
  frs : ∀ x ∈ N2.drop nt, scope.names.lookup x = some .free ∧ sc.names.lookup x = some .cell
  len : N2.length = nt + js.length
  pl : ∀ (k j : Nat), js[k]? = some j → X.N[j]? = N2[nt + k]?
theorem mem_lookup {α : Type} : ∀ {l : List (Str × α)} {x : Str}, x ∈ l.map (·.1) → ∃ c, l.lookup x = some c
  | [], _, h => by simp at h
  | (n, k) :: r, x, h => by
    cases hx : x == n with
    | true => exact ⟨k, by simp [List.lookup_cons, hx]⟩
    | false =>
      have h' : x = n ∨ x ∈ r.map (·.1) := by simpa using h
      have hn : x ≠ n := by intro e; subst e; simp at hx
      obtain ⟨c, e⟩ := mem_lookup (h'.resolve_left hn)
      exact ⟨c, by simp [List.lookup_cons, hx, e]⟩
theorem lookup_mem {α : Type} : ∀ {l : List (Str × α)} {x : Str} {c : α}, l.lookup x = some c → (x, c) ∈ l
  | [], _, _, h => by simp at h
  | (n, k) :: r, x, c, h => by
    cases hx : x == n with
    | true =>
      simp only [List.lookup_cons, hx] at h
      have e : x = n := by simpa using hx
      cases h; subst e; exact List.mem_cons_self
    | false =>
      simp only [List.lookup_cons, hx] at h
      exact List.mem_cons_of_mem _ (lookup_mem h)
section
variable {X : Cx} {pins : List (Addr × Obj)} {σ : St} {H : Hp} {s : Shared} {N2 : List Str} {nt : Nat} {js : List Nat} {scope sc : Scope} {cl : List (Str × Addr)} {fp : List Addr}
theorem CompOk.kindOf (O : CompOk X N2 nt js scope cl sc) {x : Str} {C : Addr} (h : (compEnvC scope cl C X.env).kindOf x = some .cell ∨ (compEnvC scope cl C X.env).kindOf x = some .free) : ∃ c, cl.lookup x = some c := by
  have h' : (relabel scope X.env).names.lookup x = some .cell ∨ (relabel scope X.env).names.lookup x = some .free := h
  have key : ∀ (k : NameKind), (relabel scope X.env).names.lookup x = some k → (k = .cell ∨ k = .free) → ∃ y ∈ scope.names, y.1 = x ∧ (y.2 = .cell ∨ y.2 = .free) := fun k e hk => by
    have m := lookup_mem e
    obtain ⟨⟨n, k'⟩, hm, e'⟩ := List.mem_map.mp m
    by_cases hc : (k' == NameKind.free && X.env.scope.kind == .function && X.env.kindOf n == some .cell) = true
    · simp only [hc, if_true] at e'
      have e1 : n = x := congrArg Prod.fst e'
      refine ⟨(n, k'), hm, e1, .inr ?_⟩
      rw [Bool.and_eq_true, Bool.and_eq_true] at hc
      exact beq_iff_eq.mp hc.1.1
    · have e'' : (n, k') = (x, k) := by
        dsimp only at e'
        rw [if_neg hc] at e'
        exact e'
      cases e''
      exact ⟨(x, k), hm, rfl, hk⟩
  obtain ⟨y, hy, rfl, hk⟩ := h'.elim (fun e => key _ e (.inl rfl)) fun e => key _ e (.inr rfl)
  rcases hk with hk | hk
  · exact absurd hk (O.nocell y hy)
  · exact mem_lookup (O.has y hy hk)
theorem compCx_ok (O : CompOk X N2 nt js scope cl sc) (I : Inv X pins σ H s) (hf : ∀ b ∈ fp, FpOk X pins H b) (hlt : ∀ b ∈ fp, b < s.heap.objs.size) : (compCx X N2 scope cl s H fp (X.pn ++ pins)).Ok where
  mod := I.ok.mod
  kind := O.kind
  glob := I.ok.glob
  blt := I.ok.blt
  above := Nat.le_refl _
  inj := fun x y c h1 h2 => I.ok.inj x y c (O.sub x c h1) (O.sub y c h2)
  has := fun x h => O.kindOf h
  cab := fun x c h1 h2 => by
    have h1' : (cl.lookup x).isNone = true := h1
    have h2' : cl.lookup x = some c := h2
    rw [h2'] at h1'; cases h1'
  hd := I.ok.hd
  frames := I.ok.frames
  stk := .inl rfl
  exf := fun b hb => ⟨Nat.ne_of_lt (hlt b hb), fun x c e => (hf b hb).2.2.2.2.1 x c (O.sub x c e)⟩
  bs := I.bs
  bsz := Nat.le_trans I.ok.bsz I.sz
  noex := fun b o e hb => by
    obtain ⟨_, _, _, h3, _⟩ := hf b hb
    rcases h3 with h3 | h3
    · exact I.ok.noex b o e h3
    · exact absurd (Nat.lt_of_lt_of_le (Heap.lt_size (I.ok.bs b o e).1) h3) (Nat.lt_irrefl _)
  exfs := fun b hb hs => by
    obtain ⟨_, h1, h2, _⟩ := hf b hb
    rcases List.mem_cons.mp (I.stkSub b hs) with e | e
    · exact h1 e
    · exact h2 e
  funs := I.stack
  frf := I.stkFree
theorem comp_start (O : CompOk X N2 nt js scope cl sc) (I : Inv X pins σ H s) (hf : ∀ b ∈ fp, FpOk X pins H b) (hlt : ∀ b ∈ fp, b < s.heap.objs.size) {h4 : Heap} {t4 : Nat} (hn : h4.Ns s.heap.objs.size fun _ => none)
    (hk : ∀ b o, s.heap.get? b = some o → h4.get? b = some o) : Inv (compCx X N2 scope cl s H fp (X.pn ++ pins)) [] (sig0 nt js σ) H { s with heap := h4, toks := t4 } := by
  refine ⟨compCx_ok O I hf hlt, rfl, I.bare, Un.kept hk, ⟨_, hn, fun i x v e1 e2 e3 => ?_⟩, fun x c e => ?_, I.hok.fresh (Nat.le_refl _), fun x c e => I.freeC x c (O.sub x c e), fun p hp => ?_, I.hok.kept hk, ?_⟩
  · unfold sig0 at e2
    by_cases hi : i < nt
    · rw [List.getElem?_append_left (by simpa using hi), List.getElem?_replicate] at e2
      split at e2 <;> cases e2
    · obtain ⟨k, rfl⟩ : ∃ k, i = nt + k := ⟨i - nt, by omega⟩
      rw [List.getElem?_append_right (by simp), List.length_replicate, Nat.add_sub_cancel_left, List.getElem?_map] at e2
      cases ej : js[k]? with
      | none => rw [ej] at e2; cases e2
      | some j =>
        rw [ej] at e2
        have e2' : (σ[j]?).join = some v := Option.some.inj e2
        have eσ : σ[j]? = some (some v) := by
          cases q : σ[j]? with
          | none => rw [q] at e2'; cases e2'
          | some o => rw [q] at e2'; exact congrArg some e2'
        have eN : X.N[j]? = some x := (O.pl k j ej).trans e1
        have hx : x ∈ N2.drop nt := by
          have : (N2.drop nt)[k]? = some x := by rw [List.getElem?_drop]; exact e1
          exact List.mem_of_getElem? this
        obtain ⟨f1, f2⟩ := O.frs x hx
        have vis : Vis X.env.scope x := .inr (.inl (by rw [O.xsc]; exact f2))
        obtain ⟨m, hnX, hl⟩ := I.loc
        obtain ⟨u, r, l⟩ := hl j x v eN eσ vis
        refine ⟨u, r, .inr ⟨?_, ?_⟩⟩
        · exact lookup_relabel_free f1
        · rcases l with ⟨k1, _⟩ | ⟨_, c, ec, ic⟩
          · have k2 : sc.names.lookup x = some .local := by rw [← O.xsc]; exact k1
            rw [f2] at k2; cases k2
          · obtain ⟨c', ec'⟩ := mem_lookup (O.has (x, .free) (lookup_mem f1) rfl)
            have := O.sub x c' ec'
            rw [ec] at this; cases this
            obtain ⟨o, ho, hd⟩ := ic
            exact ⟨c, ec', o, hk _ _ ho, hd⟩
  · obtain ⟨v, o, ho, hd⟩ := I.cell x c (O.sub x c e)
    exact ⟨v, o, hk _ _ ho, hd⟩
  · have hp' : p ∈ X.pn ++ pins := by
      have hp2 : p ∈ (X.pn ++ pins) ++ [] := hp
      rwa [List.append_nil] at hp2
    obtain ⟨e, n, ne, nf, d⟩ := I.pin p hp'
    refine ⟨hk _ _ e, n, Nat.ne_of_lt (Heap.lt_size e), fun hb => ?_, d⟩
    rcases List.mem_cons.mp (I.stkSub p.1 hb) with z | z
    · exact ne z
    · exact nf z
  · unfold sig0
    show _ = N2.length
    rw [List.length_append, List.length_replicate, List.length_map, O.len]
theorem comp_end {σ' : St} {H' : Hp} {s' : Shared} {pl : List (Addr × Obj)} (I : Inv X pins σ H s) (hf : ∀ b ∈ fp, FpOk X pins H b) (J : Inv (compCx X N2 scope cl s H fp (X.pn ++ pins)) pl σ' H' s') : Inv X pins σ H' s' :=
  I.call' (ch := fp) J.os J.base J.hok J.bare fun b hb => by
    obtain ⟨h0, h1, h2, h3, h4, h5⟩ := hf b hb
    exact ⟨h3, h1, h4, h5⟩
end
end L2
namespace L2
open PySem PySem.Spec PyProof.Rows
def PIf (Y : Cx) (ifs : List Expr) (t : TT) : Prop :=
  ∀ (pins : List (Addr × Obj)) (s : Shared) (σ : St) (H : Hp) (Q : Bool → Hp → Prop), Inv Y pins σ H s → t σ H Q →
    wpAny (model Y.prog Y.w) Y.A (forIn ifs true fun c r => if r = true then do let ok ← isTrue c Y.env (eval c Y.env); pure (ForInStep.yield ok) else pure (ForInStep.yield r)) (TP Y pins σ Q) Y.xe s
def tYes : TT := fun _ H Q => Q true H
theorem pif_nil {Y : Cx} : PIf Y [] tYes := fun _ _ _ H _ I h => wpAny_tests_nil ⟨H, I, h⟩
theorem pif_one {Y : Cx} {c : Expr} {t : TT} (h : PT Y c t) : PIf Y [c] t := fun pins s σ H Q I hw => wpAny_tests_one (h pins s σ H Q I hw)
def turnC (acc : Addr) (J : It) (g : TG) (tt : TT) (te : TE) (W : Nat → Nat → L2.St → Hp → Prop) (i m : Nat) (σ0 : L2.St) (H : Hp) : Prop :=
  J.go i H ∧ ∀ x H', J.yld i H x H' → g x σ0 H' fun σ3 H2 => tt σ3 H2 fun b H3 =>
    if b = true then te σ3 H3 fun y H4 => ∃ ys, H4 acc = some (.lst ys) ∧ ys.length < sizeLine ∧ ∃ m', m' < m ∧ W (i + 1) m' σ3 (upd H4 acc (.lst (ys ++ [y])))
    else ∃ m', m' < m ∧ W (i + 1) m' σ3 H3
def tComp (nt : Nat) (js : List Nat) (wi : TI) (g : TG) (tt : TT) (te : TE) : TE := fun σ H Q => wi σ H fun J H1 => ∀ acc, H1 acc = none →
  ∃ W : Nat → Nat → L2.St → Hp → Prop, (∃ m, W 0 m (sig0 nt js σ) (upd H1 acc (.lst []))) ∧ ∀ i m σ0 H, W i m σ0 H → (J.stop i H ∧ Q (.ref acc) H) ∨ turnC acc J g tt te W i m σ0 H
structure CompB (Y : Cx) (tg : Expr) (ifs : List Expr) (elt : Expr) (g : TG) (tt : TT) (te : TE) : Prop where
  tgt : PG Y tg g
  tst : PIf Y ifs tt
  elt : PE Y elt te
theorem compLoop_own {prog : Program} {w : World} {A : Around} {R : Result → Shared → Prop} {s : Shared} {elt target iter : Expr} {ifs : List Expr} {scope : Scope} {pos : Pos} {it acc : Value} {env : Env} (I : Nat → Shared → Prop)
    (turn : ∀ n s, I n s → wpAny (model prog w) A (pyNext it) (fun r s₁ => match r with
      | none => R (.ok .next) s₁
      | some v => wpAny (model prog w) A (letOwnedTupleGo target it v) (fun _ s₀ => wpAny (model prog w) A (assign target env v) (fun _ s₂ =>
          wpAny (model prog w) A (forIn ifs true fun c r => if r = true then do let ok ← isTrue c env (eval c env); pure (ForInStep.yield ok) else pure (ForInStep.yield r)) (fun ok s₃ =>
            if ok = true then wpAny (model prog w) A (eval elt env) (fun x s₄ =>
              wpAny (model prog w) A (call (.builtin "list.append") [acc, x]) (fun _ s₅ => ∃ m, m < n ∧ I m s₅) (fun _ _ => False) s₄) (fun _ _ => False) s₃
            else ∃ m, m < n ∧ I m s₃) (fun _ _ => False) s₂) (fun _ _ => False) s₀) (fun _ _ => False) s₁) (fun _ _ => False) s)
    (n : Nat) (h : I n s) :
    codeAny (model prog w) A (.compLoop (.ListComp elt [⟨target, iter, ifs, 0⟩] scope pos) 0 it acc env) R s := by
  refine codeAny_loop rfl I (fun n s hI => ?_) n h
  show wpAny _ A ((compTurn (.ListComp elt [⟨target, iter, ifs, 0⟩] scope pos) 0 it acc env).onRaise (fun x => do noteFrame x env; theTreesLotGoes x)) _ _ s
  refine wpAny_noted ?_
  rw [compTurn_list]
  refine wpAny_bind (wpAny_standAt (wpAny_bind (wpAny_mono (turn n s hI) (fun r s₁ h₁ => ?_) fun _ _ h' => h'.elim)))
  cases r with
  | none => exact wpAny_pure h₁
  | some v =>
    refine wpAny_bind (wpAny_mono h₁ (fun _ s₀ h₀ => ?_) fun _ _ h' => h'.elim)
    refine wpAny_bind (wpAny_mono h₀ (fun _ s₂ h₂ => wpAny_bind (wpAny_mono h₂ (fun ok s₃ h₃ => ?_) fun _ _ h' => h'.elim)) fun _ _ h' => h'.elim)
    cases ok with
    | false => exact wpAny_pure ⟨rfl, h₃⟩
    | true =>
      exact wpAny_bind (wpAny_bind (wpAny_mono h₃ (fun x s₄ h₄ => wpAny_bind (wpAny_mono h₄ (fun _ s₅ h₅ => wpAny_pure (wpAny_pure ⟨rfl, h₅⟩)) fun _ _ h' => h'.elim)) fun _ _ h' => h'.elim))
section
variable {X : Cx} {pins : List (Addr × Obj)} {σ : St} {H : Hp} {s : Shared} {N2 : List Str} {nt : Nat} {js : List Nat} {scope sc : Scope} {cl : List (Str × Addr)} {fp : List Addr} {elt iter tg : Expr} {ifs : List Expr} {pos : Pos}
  {wi : TI} {g : TG} {tt : TT} {te : TE}
theorem comp_run (O : CompOk X N2 nt js scope cl sc) (hc : X.calm = true) (B : ∀ (s0 : Shared) (H0 : Hp) (fp : List Addr) (ps : List (Addr × Obj)), CompB (compCx X N2 scope cl s0 H0 fp ps) tg ifs elt g tt te)
    {it : Addr} {tn : Nat → Heap → Prop} {J : It} {E : Value → Shared → Prop} {Q : VK} {RR : Value → Addr → Result → Shared → Prop}
    (I : Inv X pins σ H s) (T : Turn X.prog X.w X.K tg J fp it tn) (st : tn 0 s.heap) (hf : ∀ b ∈ fp, FpOk X pins H b)
    (h : ∀ acc, H acc = none → ∃ W : Nat → Nat → L2.St → Hp → Prop, (∃ m, W 0 m (sig0 nt js σ) (upd H acc (.lst []))) ∧ ∀ i m σ0 H, W i m σ0 H → (J.stop i H ∧ Q (.ref acc) H) ∨ turnC acc J g tt te W i m σ0 H)
    (hRR : ∀ (acc C : Addr) (s' : Shared) (H' : Hp) (m : Str → Option Value), s'.heap.Ns C m → Inv X pins σ H' s' → H' C = none → C ≠ X.env.locals → X.s₀.heap.objs.size ≤ C → (∀ x c, X.env.cells.lookup x = some c → c ≠ C) → (∀ p ∈ X.pn ++ pins, p.1 ≠ C) → Q (.ref acc) H' → RR (.ref acc) C (.ok .next) s') :
    wpAny (model X.prog X.w) X.A (newList []) (fun acc s₃ => wpAny (model X.prog X.w) X.A (newFunctionEnv scope X.env.globals cl [] X.env.qual none .none (some X.env)) (fun cenv s₄ =>
      codeAny (model X.prog X.w) X.A (.compStart (.ListComp elt [⟨tg, iter, ifs, 0⟩] scope pos) 0 (.ref it) acc { cenv with scope := relabel scope X.env }) (RR acc cenv.locals) s₄) E s₃) E s := by
  have hlt : ∀ b ∈ fp, b < s.heap.objs.size := fun b hb => by
    obtain ⟨o, e, _⟩ := T.obj _ _ st b hb
    exact Heap.lt_size e
  have hnA : H s.heap.objs.size = none := I.hok.fresh (Nat.le_refl _)
  obtain ⟨W, ⟨m0, w0⟩, turn⟩ := h s.heap.objs.size hnA
  refine wpAny_newObj_type (wpAny_newFunctionEnv O.nocell (by intro y hy; simp at hy) (fun h₁ hns₁ hsb₁ => ?_) O.kind)
  dsimp only at hns₁ hsb₁ ⊢
  have I3 : Inv X pins σ (upd H s.heap.objs.size (.lst [])) { s with heap := s.heap.push { cls := .type "list", dict := none, data := .seq ([] : List Value).toArray } } :=
    I.laid (t' := s.toks) (fun b u e => Heap.get?_push_of_some _ e) (Nat.le_refl _) ⟨by show 0 ≤ sizeLine; exact Nat.zero_le _, [], 0, .nil, Heap.get?_push_size _ rfl⟩
  generalize hs3 : ({ s with heap := s.heap.push { cls := .type "list", dict := none, data := .seq ([] : List Value).toArray } } : Shared) = s3 at I3
  have e3 : s3.heap = s.heap.push { cls := .type "list", dict := none, data := .seq ([] : List Value).toArray } := by rw [← hs3]
  rw [← e3] at hns₁ hsb₁ ⊢
  have et : s3.toks = s.toks := by rw [← hs3]
  have hf3 : ∀ b ∈ fp, FpOk X pins (upd H s.heap.objs.size (.lst [])) b := fun b hb => by
    obtain ⟨f0, f⟩ := hf b hb
    exact ⟨by rw [upd_ne (Nat.ne_of_lt (hlt b hb))]; exact f0, f⟩
  have hlt3 : ∀ b ∈ fp, b < s3.heap.objs.size := fun b hb => by rw [e3, Heap.size_push]; exact Nat.lt_succ_of_lt (hlt b hb)
  have hk4 : ∀ b o, s3.heap.get? b = some o → h₁.get? b = some o := fun b o e => hsb₁.extBut b o (Nat.ne_of_lt (Heap.lt_size e)) (Heap.get?_push_of_some _ e)
  have hns' : h₁.Ns s3.heap.objs.size fun _ => none := hns₁
  have I4 := comp_start (t4 := s3.toks + ([] : List (Str × Value)).length) O I3 hf3 hlt3 hns' hk4
  have st4 : tn 0 h₁ := T.keep _ _ _ st fun b hb o e => hk4 b o (by rw [e3]; exact Heap.get?_push_of_some _ e)
  have B4 := B s3 (upd H s.heap.objs.size (.lst [])) fp (X.pn ++ pins)
  generalize hY : compCx X N2 scope cl s3 (upd H s.heap.objs.size (.lst [])) fp (X.pn ++ pins) = Y at I4 B4
  have yP : Y.prog = X.prog := by rw [← hY]; rfl
  have yw : Y.w = X.w := by rw [← hY]; rfl
  have yK : Y.K = X.K := by rw [← hY]; rfl
  have yA : Y.A = X.A := by rw [← hY]; rfl
  have yc : Y.calm = true := by rw [← hY]; exact hc
  have yx : Y.xe = fun _ _ => False := by rw [← hY]; rfl
  have ye : Y.env = compEnvC scope cl s3.heap.objs.size X.env := by rw [← hY]; rfl
  have fpY : ∀ {H' : Hp}, (∀ b ∈ fp, H' b = none) → ∀ b ∈ fp, FpOk Y [] H' b := fun hn b hb => by
    obtain ⟨f0, f1, f2, f3, f4, f5⟩ := hf3 b hb
    rw [← hY]
    refine ⟨hn b hb, Nat.ne_of_lt (hlt3 b hb), fun hs => ?_, .inl hb, fun x c e => f4 x c (O.sub x c e), fun p hp => ?_⟩
    · rcases List.mem_cons.mp (I3.stkSub b hs) with e | e
      · exact f1 e
      · exact f2 e
    · have hp2 : p ∈ (X.pn ++ pins) ++ [] := hp
      rw [List.append_nil] at hp2
      exact f5 p hp2
  have fin : ∀ {σ' : St} {H' : Hp} {s' : Shared} {pl : List (Addr × Obj)}, Inv Y pl σ' H' s' → Q (.ref s.heap.objs.size) H' → RR (.ref s.heap.objs.size) s3.heap.objs.size (.ok .next) s' := fun {σ' H' s' pl} I' q => by
    have J' : Inv X pins σ H' s' := comp_end I3 hf3 (hY ▸ I')
    obtain ⟨m, hn, _⟩ := I'.loc
    have hfr := I'.free
    rw [ye] at hn hfr
    refine hRR _ _ s' H' m hn J' hfr (Nat.ne_of_gt I3.lt) I3.sz (fun x c e z => ?_) (fun p hp z => ?_) q
    · obtain ⟨v, q⟩ := I3.cell x c e
      exact absurd (Nat.lt_of_lt_of_le q.lt (by rw [z]; exact Nat.le_refl _)) (Nat.lt_irrefl _)
    · exact absurd (Nat.lt_of_lt_of_le (Heap.lt_size (I3.pin p hp).1) (by rw [z]; exact Nat.le_refl _)) (Nat.lt_irrefl _)
  have loop : ∀ s4 : Shared, s4 = { s3 with heap := h₁, toks := s3.toks + ([] : List (Str × Value)).length } →
      codeAny (model X.prog X.w) X.A (.compLoop (.ListComp elt [⟨tg, iter, ifs, 0⟩] scope pos) 0 (.ref it) (.ref s.heap.objs.size) (compEnvC scope cl s3.heap.objs.size X.env)) (RR (.ref s.heap.objs.size) s3.heap.objs.size) s4 := by
    rintro s4 rfl
    refine compLoop_own (fun n s' => ∃ i σ0 H', Inv Y [] σ0 H' s' ∧ tn i s'.heap ∧ (∀ b ∈ fp, H' b = none) ∧ W i n σ0 H') ?_ m0
      ⟨0, _, _, I4, st4, fun b hb => (hf3 b hb).1, w0⟩
    rintro n s5 ⟨i, σ5, H5, I5, st5, fr5, w5⟩
    rcases turn i n σ5 H5 w5 with ⟨stop, q⟩ | ⟨go, step⟩
    · have r := T.done Y yP yw yK yc i [] s5 _ H5 (fun _ _ => False) I5 (fpY fr5) st5 stop
      rw [yA] at r
      refine thn r fun r s6 ⟨hr, I6⟩ => ?_
      subst hr
      exact fin I6 q
    · have r := T.item Y yP yw yK yc i [] s5 _ H5 (fun _ _ => False) I5 (fpY fr5) st5 go
      rw [yA] at r
      refine thn r fun r s6 ⟨u, hr, h6⟩ => ?_
      subst hr
      refine thn h6 fun _ s7 ⟨x, H7, I7, r7, y7, st7, fr7⟩ => ?_
      have I7' := I7.pinned (fpY fr7) (T.obj _ _ st7)
      have r := B4.tgt _ s7 _ H7 x u _ I7' r7 (step x H7 y7)
      rw [yP, yw, yA, yx, ye] at r
      refine thn r fun _ s8 ⟨σ8, H8, I8, q8⟩ => ?_
      have r := B4.tst _ s8 σ8 H8 _ I8 q8
      rw [yP, yw, yA, yx, ye] at r
      refine thn r fun ok s9 ⟨H9, I9, q9⟩ => ?_
      have back : ∀ {s' : Shared} {H' : Hp}, Inv Y ([] ++ pinsAt fp s7.heap) σ8 H' s' → (Inv Y [] σ8 H' s' ∧ tn (i + 1) s'.heap ∧ ∀ b ∈ fp, H' b = none) := fun {s' H'} I' => by
        refine ⟨I'.unpinned, T.keep _ _ _ st7 fun b hb o e => (I'.pin (b, o) (List.mem_append_right _ (List.mem_append_right _ (mem_pinsAt hb e)))).1, fun b hb => ?_⟩
        obtain ⟨o, e, d⟩ := T.obj _ _ st7 b hb
        exact (I'.pin (b, o) (List.mem_append_right _ (List.mem_append_right _ (mem_pinsAt hb e)))).2.1
      cases ok with
      | false =>
        have q9' : ∃ m', m' < n ∧ W (i + 1) m' σ8 H9 := q9
        obtain ⟨m', hm, w9⟩ := q9'
        obtain ⟨b1, b2, b3⟩ := back I9
        show ∃ m, m < n ∧ _
        exact ⟨m', hm, i + 1, σ8, H9, b1, b2, b3, w9⟩
      | true =>
        have q9' : te σ8 H9 fun y H4 => ∃ ys, H4 s.heap.objs.size = some (.lst ys) ∧ ys.length < sizeLine ∧ ∃ m', m' < n ∧ W (i + 1) m' σ8 (upd H4 s.heap.objs.size (.lst (ys ++ [y]))) := q9
        have r := B4.elt _ s9 σ8 H9 _ I9 q9'
        rw [yP, yw, yA, yx, ye] at r
        show wpAny _ _ (eval elt _) _ _ s9
        refine thn r fun y s10 ⟨yv, H10, I10, r10, q10⟩ => ?_
        obtain ⟨ys, a1, a2, m', hm, w10⟩ := q10
        have r := mt_append (X := Y) _ s10 σ8 H10 (.ref s.heap.objs.size) [yv] (.ref s.heap.objs.size) [y] (fun _ H' => H' = upd H10 s.heap.objs.size (.lst (ys ++ [yv]))) I10 rfl (.cons r10 .nil) ⟨_, ys, yv, rfl, rfl, a1, a2, rfl⟩
        rw [yP, yw, yA, yx] at r
        refine thn r fun _ s11 ⟨_, H11, I11, _, e11⟩ => ?_
        subst e11
        obtain ⟨b1, b2, b3⟩ := back I11
        exact ⟨m', hm, i + 1, σ8, _, b1, b2, b3, w10⟩
  have st4' : tn 0 ({ s3 with heap := h₁, toks := s3.toks + ([] : List (Str × Value)).length } : Shared).heap := st4
  have hs4 : ({ s with heap := h₁, toks := s.toks + ([] : List (Str × Value)).length } : Shared) = { s3 with heap := h₁, toks := s3.toks + ([] : List (Str × Value)).length } := by rw [← hs3]
  exact codeAny_compStart_list (loop _ hs4) (T.self _ 0 _ _ _ st4 (loop _ hs4))
theorem pe_compO (O : CompOk X N2 nt js scope cl sc) (hc : X.calm = true) (hi : PI X tg iter wi) (B : ∀ (s0 : Shared) (H0 : Hp) (fp : List Addr) (ps : List (Addr × Obj)), CompB (compCx X N2 scope cl s0 H0 fp ps) tg ifs elt g tt te)
    (hs : ∀ x, foldedSetIterable iter X.env x = pure x := by intro _; rfl) : PE X (.ListComp elt [⟨tg, iter, ifs, 0⟩] scope pos) (tComp nt js wi g tt te) := by
  intro pins s σ H Q I h
  rw [eval_ListComp]
  refine wpAny_comprehension_free (use := none) rfl hs O.clos O.kind O.loc (thn (hi pins s σ H _ I h) fun xv s1 h1 => thn h1 fun itv s2 h2 => ?_)
  obtain ⟨it, fp, tn, J, H2, e, I2, T, st2, f2, q⟩ := h2
  subst e
  refine comp_run (RR := fun acc C => compPost (model X.prog X.w) X.A X.xe none (EP X pins σ Q) acc C) O hc B I2 T st2 f2 q ?_
  intro acc C s' H' m hn J' c1 c2 c3 c4 c5 q'
  refine ⟨m, hn, fun h' hsb => ⟨.ref acc, H', ?_, rfl, q'⟩⟩
  exact J'.turned (t' := s'.toks) (fun b o hb e => hsb.extBut b o hb e) c1 (Ne.symm c2 |> fun z => fun y => z y.symm) (.inr c3) c4 c5
theorem ps_setCO {i : Nat} {y : Str} {py spos : Pos} (hN : X.N.Nodup) (hy : X.N[i]? = some y) (hl : Loc X.env.scope y) (O : CompOk X N2 nt js scope cl sc) (hc : X.calm = true) (hi : PI X tg iter wi)
    (B : ∀ (s0 : Shared) (H0 : Hp) (fp : List Addr) (ps : List (Addr × Obj)), CompB (compCx X N2 scope cl s0 H0 fp ps) tg ifs elt g tt te)
    (hsw : swapsWith (.ListComp elt [⟨tg, iter, ifs, 0⟩] scope pos) (some (.Name y py)) spos.line X.env = pure true := by rfl)
    (hs : ∀ x, foldedSetIterable iter X.env x = pure x := by intro _; rfl) (hfn : X.fn y = true ∨ X.env.scope.names.lookup y = some .local := by first | exact .inl rfl | exact .inr rfl | assumption) :
    PS X (.Assign [.Name y py] (.ListComp elt [⟨tg, iter, ifs, 0⟩] scope pos) spos) (tAsg (tComp nt js wi g tt te) (gName i)) := by
  intro pins s σ H D I h
  rw [exec_Assign_Name_used _ _ _ _ hsw]
  refine wpAny_bind (wpAny_standAt (wpAny_bind ?_))
  show wpAny _ X.A (do let _ ← comprehension (.ListComp elt [⟨tg, iter, ifs, 0⟩] scope pos) scope X.env _ (newList []) false (eval iter X.env) (some (assign (.Name y py) X.env))) _ _ s
  refine wpAny_bind (wpAny_mono (wpAny_comprehension_free (use := some (assign (.Name y py) X.env)) (Q := fun _ s' => SP X pins D .next s') rfl hs O.clos O.kind O.loc
    (thn (hi pins s σ H _ I h) fun xv s1 h1 => thn h1 fun itv s2 h2 => ?_)) (fun _ s' hq => wpAny_pure (wpAny_pure hq)) fun _ _ e => e)
  obtain ⟨it, fp, tn, J, H2, e, I2, T, st2, f2, q⟩ := h2
  subst e
  refine comp_run (Q := fun v H1 => gName i v σ H1 D.nx) (RR := fun acc C => compPost (model X.prog X.w) X.A X.xe (some (assign (.Name y py) X.env)) (fun _ s' => SP X pins D .next s') acc C) O hc B I2 T st2 f2 q ?_
  intro acc C s' H' m hn J' c1 c2 c3 c4 c5 q'
  show wpAny _ X.A (assign (.Name y py) X.env (.ref acc)) _ _ _
  refine wpAny_assign_Name (store_ok2 (v := .ref acc) J' hN hy hl rfl (fun s2 I2' ⟨a, sb, ha⟩ => ?_) hfn)
  have hCa : C ≠ a := by
    rcases ha with ha | ha
    · rw [ha]; exact c2
    · exact fun z => c4 y a ha z.symm
  refine ⟨m, hn.sameBut sb hCa, fun h' hsb => ⟨_, H', ?_, q'⟩⟩
  exact I2'.turned (t' := s2.toks) (fun b o hb e => hsb.extBut b o hb e) c1 c2 (.inr c3) c4 c5
end
end L2


set_option linter.all false
set_option maxRecDepth 1000000
set_option maxHeartbeats 4000000
namespace U
open PySem PySem.Spec PyProof.Rows L2
variable {B : Bs} {X : Cx} {pos : Pos}
def sigU (nt : Nat) (js : List Nat) (σ : St') : St' := List.replicate nt none ++ js.map fun j => (σ[j]?).join
theorem SR.sig {K : PySem.W.Frag} {σ' : St'} {H' : PHp} {σ : L2.St} {H : Hp} (s : SR K B σ' H' σ H) (nt : Nat) (js : List Nat) : SR K B (sigU nt js σ') H' (sig0 nt js σ) H := by
  refine ⟨by simp [sigU, sig0], fun i v' e => ?_, s.hp, s.ev⟩
  unfold sigU at e
  unfold sig0
  by_cases hi : i < nt
  · rw [List.getElem?_append_left (by simpa using hi), List.getElem?_replicate] at e
    split at e <;> cases e
  · rw [List.getElem?_append_right (by simp; omega), List.length_replicate, List.getElem?_map] at e ⊢
    cases ej : js[i - nt]? with
    | none => rw [ej] at e; cases e
    | some j =>
      rw [ej] at e
      have e2 : (σ'[j]?).join = some v' := Option.some.inj e
      cases q : σ'[j]? with
      | none => rw [q] at e2; cases e2
      | some o =>
        rw [q] at e2
        have e3 : σ'[j]? = some (some v') := by rw [q]; exact congrArg some e2
        obtain ⟨v, a, b⟩ := s.loc j v' e3
        exact ⟨v, by show some ((σ[j]?).join) = _; rw [a]; rfl, b⟩
def uCompL (ok : PHp → Prop) (g : TG') (tt : TT') (te : TE') (acc : Addr) (Q : VK') : List PV → St' → PHp → Prop
  | [], σ, H => ok H ∧ Q (.ref acc) H
  | x :: r, σ, H => ok H ∧ g x σ H fun σ3 H2 => tt σ3 H2 fun b H3 => cif b (te σ3 H3 fun y H4 => ∃ l, H4 acc = some (.lst l) ∧ l.length < sizeLine ∧ uCompL ok g tt te acc Q r σ3 (put H4 acc (.lst (l ++ [y])))) (uCompL ok g tt te acc Q r σ3 H3)
def uComp (nt : Nat) (js : List Nat) (wi : TI') (g : TG') (tt : TT') (te : TE') : TE' := fun σ H Q => wi σ H fun J H1 => ∀ acc, H1 acc = none → uCompL J.ok g tt te acc Q J.items (sigU nt js σ) (put H1 acc (.lst []))
def PIf' (Y : Cx) (B : Bs) (ifs : List Expr) (t : TT') : Prop := PIf Y ifs (lowT Y.K B t)
def uYes : TT' := fun _ H Q => Q true H
theorem qif_nil {Y : Cx} : PIf' Y B [] uYes := fun pins s σ H Q I ⟨σ', H', Q', sr, h, k⟩ => pif_nil pins s σ H Q I (k true H' H h sr (Ev.refl _ _))
theorem qif_one {Y : Cx} {c : Expr} {t : TT'} (h : PT' Y B c t) : PIf' Y B [c] t := pif_one h
theorem low_compH {K : PySem.W.Frag} {nt : Nat} {js : List Nat} {wi : TI'} {g : TG'} {tt : TT'} {te : TE'} {σ : L2.St} {H : Hp} {Q : VK} (h : low K B (uComp nt js wi g tt te) σ H Q) :
    tComp nt js (lowIH K B wi) (lowG K B g) (lowT K B tt) (low K B te) σ H Q := by
  obtain ⟨σ', H', Q', s, h, k⟩ := h
  refine ⟨σ', H', _, s, h, fun J' H1' J H1 h1 wk s1 e1 acc ha => ?_⟩
  have h1 := h1 acc (s1.hp.free ha)
  have sn : SR K B σ' (put H1' acc (.lst [])) σ (upd H1 acc (.lst [])) := s1.new ha ⟨[], upd_same, RPs.nil _⟩
  have en : Ev H1' H1 (put H1' acc (.lst [])) (upd H1 acc (.lst [])) := Ev.new ha
  refine ⟨fun i m σ2 H2 => i ≤ J'.items.length ∧ m = J'.items.length - i ∧ ∃ σ2' H2', SR K B σ2' H2' σ2 H2 ∧ SR K B σ' H2' σ H2 ∧ Ev H1' H1 H2' H2 ∧ uCompL J'.ok g tt te acc Q' (J'.items.drop i) σ2' H2',
    ⟨J'.items.length, Nat.zero_le _, by simp, _, _, sn.sig nt js, sn, en, h1⟩, ?_⟩
  rintro i m σ2 H2 ⟨hi, rfl, σ2', H2', s2, so, e2, h2⟩
  have k2 := e2.kp s1.hp
  by_cases hlt : i < J'.items.length
  · obtain ⟨x', hx⟩ : ∃ x', J'.items[i]? = some x' := ⟨_, List.getElem?_eq_getElem hlt⟩
    have hd : J'.items.drop i = x' :: J'.items.drop (i + 1) := by
      rw [List.drop_eq_getElem_cons hlt]
      rw [List.getElem?_eq_getElem hlt] at hx
      cases hx; rfl
    rw [hd] at h2
    obtain ⟨ok2, h2⟩ := (show J'.ok H2' ∧ _ from h2)
    refine .inr ⟨wk.go H2' H2 i k2 s2.hp ok2 hlt, fun x H3 y => ?_⟩
    obtain ⟨hr3, ev3, rx⟩ := wk.yld H2' H2 i x H3 k2 s2.hp ok2 y
    have s2b := s2.kp ev3 hr3
    have sob := so.kp ev3 hr3
    have e2b := e2.trans ev3
    refine ⟨x', σ2', H2', _, rx x' hx, s2b, h2, fun σ3' H3' σ3 H3 h3 s3 e3 => ⟨σ3', H3', _, s3, h3, fun b H4' H4 h4 s4 e4 => ?_⟩⟩
    cases b with
    | false =>
      have e24 := e3.trans e4
      exact iteF ⟨J'.items.length - (i + 1), by omega, hlt, rfl, σ3', H4', s4, sob.kp e24 s4.hp, e2b.trans e24, h4⟩
    | true =>
      refine iteT ⟨σ3', H4', _, s4, h4, fun y' H5' y H5 h5 ry5 s5 e5 => ?_⟩
      obtain ⟨l, a1, a2, h5⟩ := h5
      have e25 := (e3.trans e4).trans e5
      obtain ⟨us, q1, q2⟩ := s5.hp _ _ a1
      have wr := wrL s5.hp a1 (RPs.append _ q2 (RPs.cons _ ry5 (RPs.nil _)))
      refine ⟨us, q1, by rw [RPs.length _ q2]; exact a2, J'.items.length - (i + 1), by omega, hlt, rfl, σ3', _, s5.wr a1 wr, (sob.kp e25 s5.hp).wr a1 wr, (e2b.trans e25).trans (Ev.wr a1), h5⟩
  · have hi' : i = J'.items.length := by omega
    subst hi'
    rw [List.drop_length] at h2
    obtain ⟨ok2, h2⟩ := (show J'.ok H2' ∧ _ from h2)
    exact .inl ⟨wk.stop H2' H2 k2 s2.hp ok2, k _ _ _ _ h2 (by simp [RP]) so (e1.trans e2)⟩
section
variable {N2 : List Str} {nt : Nat} {js : List Nat} {scope sc : Scope} {cl : List (Str × Addr)} {elt iter tg : Expr} {ifs : List Expr} {wi : TI'} {g : TG'} {tt : TT'} {te : TE'}
structure CompB' (Y : Cx) (B : Bs) (tg : Expr) (ifs : List Expr) (elt : Expr) (g : TG') (tt : TT') (te : TE') : Prop where
  tgt : PG' Y B tg g
  tst : PIf' Y B ifs tt
  elt : PE' Y B elt te
theorem qe_compH (O : CompOk X N2 nt js scope cl sc) (hc : X.calm = true) (hi : PIH X B tg iter wi) (b : ∀ (s0 : Shared) (H0 : Hp) (fp : List Addr) (ps : List (Addr × Obj)), CompB' (compCx X N2 scope cl s0 H0 fp ps) B tg ifs elt g tt te)
    (hs : ∀ x, foldedSetIterable iter X.env x = pure x := by intro _; rfl) : PE' X B (.ListComp elt [⟨tg, iter, ifs, 0⟩] scope pos) (uComp nt js wi g tt te) :=
  pe_imp (pe_compO (g := lowG X.K B g) (tt := lowT X.K B tt) (te := low X.K B te) O hc hi (fun s0 H0 fp ps => ⟨(b s0 H0 fp ps).tgt, (b s0 H0 fp ps).tst, (b s0 H0 fp ps).elt⟩) hs) fun _ _ _ h => low_compH h
theorem qe_comp (O : CompOk X N2 nt js scope cl sc) (hc : X.calm = true) (hi : PI' X B tg iter wi) (b : ∀ (s0 : Shared) (H0 : Hp) (fp : List Addr) (ps : List (Addr × Obj)), CompB' (compCx X N2 scope cl s0 H0 fp ps) B tg ifs elt g tt te)
    (hs : ∀ x, foldedSetIterable iter X.env x = pure x := by intro _; rfl) : PE' X B (.ListComp elt [⟨tg, iter, ifs, 0⟩] scope pos) (uComp nt js wi g tt te) := qe_compH O hc (pi_toH hi) b hs
theorem qs_setCH {i : Nat} {y : Str} {py spos : Pos} (hN : X.N.Nodup) (hy : X.N[i]? = some y) (hl : Loc X.env.scope y) (O : CompOk X N2 nt js scope cl sc) (hc : X.calm = true) (hi : PIH X B tg iter wi)
    (b : ∀ (s0 : Shared) (H0 : Hp) (fp : List Addr) (ps : List (Addr × Obj)), CompB' (compCx X N2 scope cl s0 H0 fp ps) B tg ifs elt g tt te)
    (hsw : swapsWith (.ListComp elt [⟨tg, iter, ifs, 0⟩] scope pos) (some (.Name y py)) spos.line X.env = pure true := by rfl)
    (hs : ∀ x, foldedSetIterable iter X.env x = pure x := by intro _; rfl) (hfn : X.fn y = true ∨ X.env.scope.names.lookup y = some .local := by first | exact .inl rfl | exact .inr rfl | assumption) :
    PS' X B (.Assign [.Name y py] (.ListComp elt [⟨tg, iter, ifs, 0⟩] scope pos) spos) (uAsg (uComp nt js wi g tt te) (vName i)) :=
  ps_imp (ps_setCO (g := lowG X.K B g) (tt := lowT X.K B tt) (te := low X.K B te) hN hy hl O hc hi (fun s0 H0 fp ps => ⟨(b s0 H0 fp ps).tgt, (b s0 H0 fp ps).tst, (b s0 H0 fp ps).elt⟩) hsw hs hfn) fun D σ H ⟨σ', H', D', s, h, d⟩ => by
    refine low_compH ⟨σ', H', _, s, h, fun v' H1' v H1 q r s1 e1 => ?_⟩
    exact d.nx _ _ _ _ q (s1.set r i) e1
theorem qs_setC {i : Nat} {y : Str} {py spos : Pos} (hN : X.N.Nodup) (hy : X.N[i]? = some y) (hl : Loc X.env.scope y) (O : CompOk X N2 nt js scope cl sc) (hc : X.calm = true) (hi : PI' X B tg iter wi)
    (b : ∀ (s0 : Shared) (H0 : Hp) (fp : List Addr) (ps : List (Addr × Obj)), CompB' (compCx X N2 scope cl s0 H0 fp ps) B tg ifs elt g tt te)
    (hsw : swapsWith (.ListComp elt [⟨tg, iter, ifs, 0⟩] scope pos) (some (.Name y py)) spos.line X.env = pure true := by rfl)
    (hs : ∀ x, foldedSetIterable iter X.env x = pure x := by intro _; rfl) (hfn : X.fn y = true ∨ X.env.scope.names.lookup y = some .local := by first | exact .inl rfl | exact .inr rfl | assumption) :
    PS' X B (.Assign [.Name y py] (.ListComp elt [⟨tg, iter, ifs, 0⟩] scope pos) spos) (uAsg (uComp nt js wi g tt te) (vName i)) := qs_setCH hN hy hl O hc (pi_toH hi) b hsw hs hfn
end
end U
namespace U
open PySem PySem.Spec PyProof.Rows L2
def AllL (cs : List (Str × Addr)) : List (Str × Addr) → Prop
  | [] => True
  | p :: r => cs.lookup p.1 = some p.2 ∧ AllL cs r
theorem AllL.mem {cs : List (Str × Addr)} : ∀ {l : List (Str × Addr)} {p : Str × Addr}, AllL cs l → p ∈ l → cs.lookup p.1 = some p.2
  | q :: r, p, h, m => by
    rcases List.mem_cons.mp m with rfl | m
    · exact h.1
    · exact AllL.mem h.2 m
theorem cok {X : Cx} {N2 : List Str} {nt : Nat} {js : List Nat} {scope sc : Scope} {cl : List (Str × Addr)} (clos : closureFor scope X.env = pure cl) (sub : AllL X.env.cells cl) (xsc : X.env.scope = sc) (kind : scope.kind = .function)
    (nocell : ∀ y ∈ scope.names, y.2 ≠ .cell) (loc : ∀ y ∈ scope.names, y.2 = .local → scope.names.lookup y.1 = some .local) (names : cl.map (·.1) = ((scope.names.filter (·.2 == .free)).map (·.1)).reverse)
    (frs : ∀ x ∈ N2.drop nt, scope.names.lookup x = some .free ∧ sc.names.lookup x = some .cell) (len : N2.length = nt + js.length) (pl : js.map (fun j => X.N[j]?) = (N2.drop nt).map some) : CompOk X N2 nt js scope cl sc :=
  ⟨clos, fun x c e => sub.mem (lookup_mem e), xsc, kind, nocell, loc, fun y m f => by rw [names]; exact List.mem_reverse.mpr (List.mem_map_of_mem (List.mem_filter.mpr ⟨m, by rw [f]; rfl⟩)), frs, len, fun k j e => by
    have h : (js.map (fun j => X.N[j]?))[k]? = ((N2.drop nt).map some)[k]? := by rw [pl]
    rw [List.getElem?_map, List.getElem?_map, e, List.getElem?_drop] at h
    cases q : N2[nt + k]? with
    | none => rw [q] at h; cases h
    | some x => rw [q] at h; exact Option.some.inj h⟩
end U
namespace U
open PySem PySem.Spec PyProof.Rows L2
end U


set_option linter.all false
set_option maxRecDepth 1000000
set_option maxHeartbeats 4000000
namespace L2
open PySem PySem.Spec PyProof.Rows
variable {X : Cx} {a b c d : Expr} {pos : Pos} {ta tb tc td : TE}
def tChain3 (r r' r'' : R2) (ta tb tc td : TE) : TE := fun σ H Q => ta σ H fun x H1 => tb σ H1 fun y H2 => r x y H2 fun z H3 => ∃ k, z = .bl k ∧
  (if k = true then tc σ H3 fun w' H4 => r' y w' H4 fun z' H5 => ∃ k', z' = .bl k' ∧ (if k' = true then td σ H5 fun v' H6 => r'' w' v' H6 Q else Q (.bl false) H5) else Q (.bl false) H3)
theorem pe_chain3 {op op' op'' : CmpOp} {r r' r'' : R2} (ho : OpR X (compareOp op) r) (ho' : OpR X (compareOp op') r') (ho'' : OpR X (compareOp op'') r'') (ha : PE X a ta) (hb : PE X b tb) (hc : PE X c tc) (hd : PE X d td)
    (hm : lastMarks [op, op', op''] [b, c, d] = false := by with_unfolding_all rfl) : PE X (.Compare a [op, op', op''] [b, c, d] pos) (tChain3 r r' r'' ta tb tc td) := by
  intro pins s σ H Q I h
  refine Compare_chain (thn (ha pins s σ H _ I h) fun v s1 ⟨x, H1, I1, r1, q1⟩ => chain_link (thn (hb pins s1 σ H1 _ I1 q1) fun u s2 ⟨y, H2, I2, r2, q2⟩ =>
    thn (ho pins s2 σ H2 x y v u _ I2 r1 r2 q2) fun d s3 ⟨z, H3, I3, r3, k, e, q3⟩ => ?_)) hm
  subst e
  cases r3
  refine wpAny_truthy_bool ?_
  cases k with
  | false => exact ite_ff ⟨.bl false, H3, I3, rfl, q3⟩
  | true =>
    refine ite_tt (chain_link (thn (hc pins s3 σ H3 _ I3 q3) fun w' s4 ⟨z', H4, I4, r4, q4⟩ => thn (ho' pins s4 σ H4 y z' u w' _ I4 r2 r4 q4) fun d' s5 ⟨z5, H5, I5, r5, k5, e5, q5⟩ => ?_))
    subst e5
    cases r5
    refine wpAny_truthy_bool ?_
    cases k5 with
    | false => exact ite_ff ⟨.bl false, H5, I5, rfl, q5⟩
    | true => exact ite_tt (chain_last (thn (hd pins s5 σ H5 _ I5 q5) fun w6 s6 ⟨z6, H6, I6, r6, q6⟩ => ho'' pins s6 σ H6 z' z6 w' w6 Q I6 r4 r6 q6))
end L2
namespace U
open PySem PySem.Spec PyProof.Rows L2
variable {B : Bs} {X : Cx} {a b c d e o value : Expr} {pos pos' apos p : Pos} {ta tb tc td tv : TE'} {f m x : Str} {C g : Addr}
def uChain3 (r r' r'' : R2') (ta tb tc td : TE') : TE' := fun σ H Q => ta σ H fun x H1 => tb σ H1 fun y H2 => r x y H2 fun z H3 => withB z fun k => cif k (tc σ H3 fun w' H4 => r' y w' H4 fun z' H5 => withB z' fun k' => cif k' (td σ H5 fun v' H6 => r'' w' v' H6 Q) (Q (.bl false) H5)) (Q (.bl false) H3)
theorem qe_chain3 {op op' op'' : CmpOp} {r1' r2' r3' : R2'} {r1 r2 r3 : R2} (ho : OpR X (compareOp op) r1) (v1 : VR X.K B r1' r1) (ho' : OpR X (compareOp op') r2) (v2 : VR X.K B r2' r2) (ho'' : OpR X (compareOp op'') r3) (v3 : VR X.K B r3' r3)
    (ha : PE' X B a ta) (hb : PE' X B b tb) (hc : PE' X B c tc) (hd : PE' X B d td)
    (hm : lastMarks [op, op', op''] [b, c, d] = false := by with_unfolding_all rfl) : PE' X B (.Compare a [op, op', op''] [b, c, d] pos) (uChain3 r1' r2' r3' ta tb tc td) := pe_imp (pe_chain3 ho ho' ho'' ha hb hc hd hm) fun σ H Q ⟨σ', H', Q', s, h, k⟩ => by
  refine ⟨σ', H', _, s, h, fun x' H1' x H1 h1 rx s1 e1 => ⟨σ', H1', _, s1, h1, fun y' H2' y H2 h2 ry s2 e2 => ?_⟩⟩
  refine v1 σ' σ H2' H2 x' y' x y _ _ s2 (RP.kp X.K (e2.kp s1.hp) rx) ry h2 fun z' H3' z H3 q rz s3 e3 => ?_
  obtain ⟨b, rfl, q⟩ := q.ex
  simp only [RP] at rz
  refine ⟨b, rz, ?_⟩
  cases b with
  | false => exact iteF (k _ _ _ _ q (by simp [RP]) s3 ((e1.trans e2).trans e3))
  | true =>
    refine iteT ⟨σ', H3', _, s3, q, fun w' H4' w H4 h4 rw4 s4 e4 => ?_⟩
    refine v2 σ' σ H4' H4 y' w' y w _ _ s4 (RP.kp X.K ((e3.trans e4).kp s2.hp) ry) rw4 h4 fun z5' H5' z5 H5 q5 rz5 s5 e5 => ?_
    obtain ⟨b5, rfl, q5⟩ := q5.ex
    simp only [RP] at rz5
    refine ⟨b5, rz5, ?_⟩
    cases b5 with
    | false => exact iteF (k _ _ _ _ q5 (by simp [RP]) s5 ((((e1.trans e2).trans e3).trans e4).trans e5))
    | true =>
      refine iteT ⟨σ', H5', _, s5, q5, fun v' H6' v H6 h6 rv s6 e6 => ?_⟩
      exact v3 σ' σ H6' H6 w' v' w v _ _ s6 (RP.kp X.K ((e5.trans e6).kp s4.hp) rw4) rv h6 fun z7' H7' z7 H7 q7 rz7 s7 e7 => k _ _ _ _ q7 rz7 s7 ((((((e1.trans e2).trans e3).trans e4).trans e5).trans e6).trans e7)
def fldOf (C : Addr) (f : Str) (x : PV) (H : PHp) (Q : VK') : Prop := match x with
  | .ref a => ∃ dx fs v, H a = some (.ins C dx fs) ∧ fs.lookup f = some v ∧ Q v H
  | _ => False
def uFld (C : Addr) (f : Str) (ta : TE') : TE' := fun σ H Q => ta σ H fun x H1 => fldOf C f x H1 Q
theorem frel_lookup {K : PySem.W.Frag} {H : Hp} {f : Str} {v : PV} {fs : List (Str × PV)} {gs : List (Str × V)} (h : FRel K H fs gs) (e : fs.lookup f = some v) : ∃ u, gs.lookup f = some u ∧ RP K H v u := by
  induction h with
  | nil => simp at e
  | @cons a b _ _ h t ih =>
    obtain ⟨n, y⟩ := a
    obtain ⟨m, z⟩ := b
    obtain ⟨rfl, hr⟩ := h
    dsimp only at hr
    cases hx : f == n with
    | true =>
      simp only [List.lookup_cons, hx] at e ⊢
      cases e
      exact ⟨z, rfl, hr⟩
    | false =>
      simp only [List.lookup_cons, hx] at e ⊢
      exact ih e
theorem frel_none {K : PySem.W.Frag} {H : Hp} {f : Str} {fs : List (Str × PV)} {gs : List (Str × V)} (h : FRel K H fs gs) (e : fs.lookup f = none) : gs.lookup f = none := by
  induction h with
  | nil => rfl
  | @cons a b _ _ h t ih =>
    obtain ⟨n, y⟩ := a
    obtain ⟨m, z⟩ := b
    obtain ⟨rfl, hr⟩ := h
    cases hx : f == n with
    | true => simp only [List.lookup_cons, hx] at e; cases e
    | false =>
      simp only [List.lookup_cons, hx] at e ⊢
      exact ih e
theorem frel_len {K : PySem.W.Frag} {H : Hp} {fs : List (Str × PV)} {gs : List (Str × V)} (h : FRel K H fs gs) : gs.length = fs.length := by
  induction h with
  | nil => rfl
  | cons _ _ ih => simp [ih]
theorem qe_fld (ha : PE' X B e ta) (cl : Cls X.K C) (n : NoAttr X.K C f) (hb : attributeBase e f X.env (eval e X.env) = eval e X.env) : PE' X B (.Attribute e f pos) (uFld C f ta) := pe_imp (pe_fld ha hb) fun σ H Q ⟨σ', H', Q', s, h, k⟩ => by
  refine ⟨σ', H', _, s, h, fun x' H1' x H1 h1 rx s1 e1 => ?_⟩
  cases x' with
  | ref a =>
    obtain ⟨dx, fs, v, ea, l, q⟩ := h1
    simp only [RP] at rx
    subst rx
    obtain ⟨gs, eg, fr⟩ := s1.hp _ _ ea
    obtain ⟨u, lu, ru⟩ := frel_lookup fr l
    exact ⟨a, C, dx, gs, u, rfl, eg, cl, n, lu, k _ _ _ _ q ru s1 e1⟩
  | _ => exact h1.elim
def putU (f : Str) (v : PV) : List (Str × PV) → List (Str × PV)
  | [] => [(f, v)]
  | (g, x) :: r => if g = f then (g, v) :: r else (g, x) :: putU f v r
theorem frel_put {K : PySem.W.Frag} {H : Hp} {f : Str} {v : PV} {u : V} (rv : RP K H v u) {fs : List (Str × PV)} {gs : List (Str × V)} (h : FRel K H fs gs) : FRel K H (putU f v fs) (putF f u gs) := by
  induction h with
  | nil => exact .cons ⟨rfl, rv⟩ .nil
  | @cons a b _ _ h t ih =>
    obtain ⟨n, y⟩ := a
    obtain ⟨m, z⟩ := b
    obtain ⟨rfl, hr⟩ := h
    unfold putU putF
    by_cases hn : n = f
    · rw [if_pos hn, if_pos hn]; exact .cons ⟨rfl, rv⟩ t
    · rw [if_neg hn, if_neg hn]; exact .cons ⟨rfl, hr⟩ ih
def stFld (C : Addr) (f : Str) (x y : PV) (H : PHp) (Q : PHp → Prop) : Prop := match x with
  | .ref a => ∃ dx fs, H a = some (.ins C dx fs) ∧ fs.length < 1000 ∧ Q (put H a (.ins C dx (putU f y fs)))
  | _ => False
def uStFld (C : Addr) (f : Str) (ta tv : TE') : TS' := fun D σ H => tv σ H fun y H1 => ta σ H1 fun x H2 => stFld C f x y H2 fun H3 => D.nx σ H3
theorem qs_fld (ha : PE' X B o ta) (hv : PE' X B value tv) (cl : Cls X.K C) (n : NoAttr X.K C f) (hs : swapsWith value (some (.Attribute o f pos')) pos.line X.env = pure false) : PS' X B (.Assign [.Attribute o f pos'] value pos) (uStFld C f ta tv) := ps_imp (ps_fld ha hv hs) fun D σ H ⟨σ', H', D', s, h, dd⟩ => by
  refine ⟨σ', H', _, s, h, fun y' H1' y H1 h1 ry s1 e1 => ⟨σ', H1', _, s1, h1, fun x' H2' x H2 h2 rx s2 e2 => ?_⟩⟩
  cases x' with
  | ref a =>
    obtain ⟨dx, fs, ea, l, q⟩ := h2
    simp only [RP] at rx
    subst rx
    obtain ⟨gs, eg, fr⟩ := s2.hp _ _ ea
    have ry2 := RP.kp X.K (e2.kp s1.hp) ry
    have new : OAt X.K (upd H2 a (.ins C dx (putF f y gs))) a (.ins C dx (putU f y' fs)) := ⟨_, upd_same, FRel.kp (s2.hp.kpw ea) (frel_put ry2 fr)⟩
    exact ⟨a, C, dx, gs, rfl, eg, cl, n, by rw [frel_len fr]; exact l, dd.nx _ _ _ _ q (s2.wr ea new) ((e1.trans e2).trans (Ev.wr ea))⟩
  | _ => exact h2.elim
def isIn (C : Addr) (m : Str) (x : PV) (H : PHp) : Prop := match x with
  | .ref a => ∃ dx fs, H a = some (.ins C dx fs) ∧ fs.lookup m = none
  | _ => False
def uMeth (C : Addr) (m : Str) (sp : Sp') (E' : XK') (ta : TE') (t : TA') : TE' := fun σ H Q => ta σ H fun x H1 => isIn C m x H1 ∧ t σ H1 fun vs H2 => sp (x :: vs) H2 Q E'
section
variable {k : Nat} {fd : FuncData} {ps : List Str} {sp : Sp'} {es : List Expr} {t : TA'}
theorem low_meth0 {K : PySem.W.Frag} {σ : L2.St} {H : Hp} {Q : VK} (h : low K B (uMeth C m sp X0 ta t) σ H Q) : tMeth C m (lowSp K sp) [] E0 (low K B ta) (lowA K B t) σ H Q := by
  obtain ⟨σ', H', Q', s, h, k⟩ := h
  refine ⟨σ', H', _, s, h, fun x' H1' x H1 h1 rx s1 e1 => ?_⟩
  obtain ⟨hi, h1⟩ := h1
  cases x' with
  | ref a =>
    obtain ⟨dx, fs, ea, l⟩ := hi
    simp only [RP] at rx
    subst rx
    obtain ⟨gs, eg, fr⟩ := s1.hp _ _ ea
    refine ⟨a, dx, gs, rfl, eg, frel_none fr l, σ', H1', _, s1, h1, fun vs' H2' vs H2 h2 r2 s2 e2 => ?_⟩
    show lowSp K sp (V.ref a :: (vs ++ [])) H2 Q E0
    rw [List.append_nil]
    exact ⟨.ref a :: vs', H2', Q', X0, RPs.cons _ (by simp [RP]) r2, s2.hp, h2, fun v' H3' v H3 q r3 h3 e3 => k v' H3' v H3 q r3 (s2.kp e3 h3) ((e1.trans e2).trans e3), fun _ _ _ _ z => z.elim⟩
  | _ => exact hi.elim
theorem qe_meth {pl : Sem Bool} (he : PE' X B o ta) (cl : Cls X.K C) (hm : Meth X.K C m g) (F : FnOk' X.prog X.w X.K X.mg X.base CX0 k g fd ps sp) (hr : Room k X.A) (hb : Binds X.K fd ps []) (ha : PA' X B (e :: es) t)
    (hst : starEach (e :: es) X.env = (false, eval e X.env) :: starEach es X.env := by rfl) (hpl : (backTo pos (starEach es X.env)).any (·.1) = false := by rfl)
    (ht : eval (.Call (.Attribute o m apos) (e :: es) [] pos) X.env = (do
      let ov ← eval o X.env
      standAt apos.atName
      let (f, first) ← holding [ov] (getMethod ov m pl)
      callWith pos f first (backTo pos (starEach (e :: es) X.env)) (backToKw pos (keywordEach [] X.env))) := by rfl) :
    PE' X B (.Call (.Attribute o m apos) (e :: es) [] pos) (uMeth C m sp X0 ta t) := pe_imp (pe_meth he cl hm F hr hb .nil pass0 ha hst hpl ht) fun _ _ _ h => low_meth0 h
def uMake (C : Addr) (sp : Sp') (E' : XK') (t : TA') : TE' := fun σ H Q => t σ H fun vs H1 => ∀ x dx, H1 x = none → H1 dx = none → dx ≠ x → sp (.ref x :: vs) (put H1 x (.ins C dx [])) (fun v H2 => v = .non ∧ Q (.ref x) H2) E'
theorem qe_make (M : Mk X.K C g) (F : FnOk' X.prog X.w X.K X.mg X.base CX0 k g fd ps sp) (hr : Room (k + 1) X.A) (hg : Gl X x) (hm : X.mg x = some (.ref C)) (hb : Binds X.K fd ps [])
    (ha : PA' X B (e :: es) t) (hdb : (x == ("__debug__" : Str)) = false := by decide) (he : starEach (e :: es) X.env = (false, eval e X.env) :: starEach es X.env := by rfl) (hpl : (backTo pos (starEach es X.env)).any (·.1) = false := by rfl) :
    PE' X B (.Call (.Name x p) (e :: es) [] pos) (uMake C sp X0 t) := pe_imp (pe_make M F hr hg hm hb .nil pass0 ha hdb he hpl) fun σ H Q ⟨σ', H', Q', s, h, k⟩ => by
  refine ⟨σ', H', _, s, h, fun vs' H1' vs H1 h1 r1 s1 e1 => ?_⟩
  intro x dx nx nd ne
  have h2 := h1 x dx (s1.hp.free nx) (s1.hp.free nd) ne
  have nx2 : upd H1 dx (.own x) x = none := by rw [upd_ne (Ne.symm ne)]; exact nx
  have sd := s1.hid (o := .own x) nd
  have new : OAt X.K (upd (upd H1 dx (.own x)) x (.ins C dx [])) x (.ins C dx []) := ⟨[], upd_same, .nil⟩
  have s2 := sd.new nx2 new
  have e2 : Ev H1' H1 (put H1' x (.ins C dx [])) (upd (upd H1 dx (.own x)) x (.ins C dx [])) := (Ev.hid nd).trans (Ev.new nx2)
  show lowSp X.K sp (.ref x :: (vs ++ [])) _ _ E0
  rw [List.append_nil]
  refine ⟨.ref x :: vs', _, _, X0, RPs.cons _ (by simp [RP]) (RPs.kp X.K (e2.kp s1.hp) r1), s2.hp, h2, fun v' H3' v H3 q r3 h3 e3 => ?_, fun _ _ _ _ z => z.elim⟩
  obtain ⟨rfl, q⟩ := q
  simp only [RP] at r3
  exact ⟨r3, k _ _ _ _ q (by simp [RP]) (s2.kp e3 h3) ((e1.trans e2).trans e3)⟩
end
end U


set_option linter.all false
set_option maxRecDepth 1000000
set_option maxHeartbeats 4000000
namespace L2
open PySem PySem.Spec PyProof.Rows
variable {X : Cx}
def rAll (K : PySem.W.Frag) : List V → Hp → VK → Prop := fun xs H Q => ∃ (p : Addr) (bs : List Bool), xs = [.ref p] ∧ SqL K H p (bs.map V.bl) ∧ Q (.bl (bs.all id)) H
theorem vals_bools : ∀ {bs : List Bool} {us : List Value}, Vals (bs.map V.bl) us → us = bs.map Value.bool
  | [], _, .nil => rfl
  | b :: bs, _, .cons r t => by rw [vals_bools t]; cases r; rfl
theorem call_all (hc : X.calm = true) : CallR X (.builtin "all") (rAll X.K) := by
  intro pins s σ H xs us Q I r h
  obtain ⟨a, bs, rfl, hq, q⟩ := h
  obtain ⟨u, rfl, ru⟩ := Vals.one r
  cases ru
  obtain ⟨its, rv, p, hz⟩ := I.list hq
  have e := vals_bools rv
  subst e
  have hl : s.heap.IsList a (bs.map Value.bool).toArray := p.isList
  have llt : a < s.heap.objs.size := by obtain ⟨o, e, _⟩ := hl; exact Heap.lt_size e
  have hne : a ≠ s.heap.objs.size := Nat.ne_of_lt llt
  refine call_all_walk (wpAny_pyIter_list hl ?_)
  refine ⟨s.heap.objs.size, [s.heap.objs.size, a], [s.heap.objs.size], (bs.map Value.bool).toArray.size, _, _, fun i => bs.getD i false, rfl, Walks.list (by simpa using I.ok.hd hc) _ a hne _, ⟨⟨_, Heap.get?_push_size _ rfl, rfl, rfl⟩, hl.at fun o e => Heap.get?_push_of_some _ e⟩, ?_, ?_⟩
  · intro i v s' Q' E' hv hQ
    have : v = Value.bool (bs.getD i false) := by
      have hv' : (bs.map Value.bool)[i]? = some v := by simpa using hv
      rw [List.getElem?_map] at hv'
      cases hb : bs[i]? with
      | none => rw [hb] at hv'; cases hv'
      | some b => rw [hb] at hv'; cases hv'; rw [List.getD_eq_getElem?_getD, hb]; rfl
    subst this
    exact wpAny_truthy_bool hQ
  · intro h' tk kp
    have e : (List.range (bs.map Value.bool).toArray.size).all (fun i => bs.getD i false) = bs.all id := by
      have hs : (bs.map Value.bool).toArray.size = bs.length := by simp
      rw [hs]
      rw [Bool.eq_iff_iff, List.all_eq_true, List.all_eq_true]
      constructor
      · intro h b hb
        obtain ⟨i, hi, e⟩ := List.getElem_of_mem hb
        have := h i (List.mem_range.mpr hi)
        rw [List.getD_eq_getElem?_getD, List.getElem?_eq_getElem hi, e] at this
        exact this
      · intro h i hi
        have hi := List.mem_range.mp hi
        rw [List.getD_eq_getElem?_getD, List.getElem?_eq_getElem hi]
        exact h _ (List.getElem_mem hi)
    rw [e]
    refine ⟨.bl (bs.all id), H, I.kept (t' := tk) fun b o e => ?_, rfl, q⟩
    exact kp b o (by simpa using Nat.ne_of_lt (Heap.lt_size e)) (Heap.get?_push_of_some _ e)
theorem ints_vals : ∀ {ns : List Int} {us : List Value}, Vals (ns.map V.int) us → IntsAre us ns
  | [], _, .nil => .nil
  | n :: ns, _, .cons r t => by obtain ⟨k, rfl⟩ := r; exact .cons n k (ints_vals t)
end L2
namespace U
open PySem PySem.Spec PyProof.Rows L2
variable {B : Bs} {X : Cx}
theorem rps_bools {K : PySem.W.Frag} {H : Hp} : ∀ {bs : List Bool} {us : List V}, RPs K H (bs.map PV.bl) us → us = bs.map V.bl
  | [], us, h => by simpa [RPs] using h
  | b :: bs, us, h => by
    simp only [List.map_cons, RPs, RP] at h
    obtain ⟨u, r, rfl, rfl, h2⟩ := h
    rw [rps_bools h2]; rfl
theorem rps_ints {K : PySem.W.Frag} {H : Hp} : ∀ {bs : List Int} {us : List V}, RPs K H (bs.map PV.int) us → us = bs.map V.int
  | [], us, h => by simpa [RPs] using h
  | b :: bs, us, h => by
    simp only [List.map_cons, RPs, RP] at h
    obtain ⟨u, r, rfl, rfl, h2⟩ := h
    rw [rps_ints h2]; rfl
theorem ints_rps {K : PySem.W.Frag} {H : Hp} : ∀ {bs : List Int}, RPs K H (bs.map PV.int) (bs.map V.int)
  | [] => RPs.nil _
  | b :: bs => RPs.cons _ (by simp [RP]) ints_rps
def uAll : List PV → PHp → VK' → Prop := arg1 fun x H Q => match x with
  | .ref a => ∃ bs : List Bool, H a = some (.lst (bs.map PV.bl)) ∧ Q (.bl (bs.all id)) H
  | _ => False
theorem vc_all {K : PySem.W.Frag} : VC K B uAll (rAll K) := by
  intro σ' σ H' H xs' xs Q' Q s r h k
  obtain ⟨x', x, rfl, rfl, rx, h⟩ := arg1.ex h r
  cases x' with
  | ref a =>
    obtain ⟨bs, ea, q⟩ := h
    simp only [RP] at rx
    subst rx
    obtain ⟨us, e, r2⟩ := s.hp _ _ ea
    rw [rps_bools r2] at e
    exact ⟨a, bs, rfl, .inl (.inl e), k _ _ _ _ q (by simp [RP]) s (Ev.refl _ _)⟩
  | _ => exact h.elim
def uSortI : List PV → PHp → VK' → Prop := arg1 fun x H Q => match x with
  | .ref a => ∃ ns : List Int, H a = some (.lst (ns.map PV.int)) ∧ ns.length < 64 ∧ ∀ (r : Addr) (ms : List Int), H r = none → ms.Perm ns → ms.Pairwise (· ≤ ·) → Q (.ref r) (put H r (.lst (ms.map PV.int)))
  | _ => False
end U


namespace SP
open PySem
def hs : List Int := [-1950498447580522560, 7204814214171964562, -3550055125485641917, -4734289103435588629, -1440771752368011620,
  8409376899596376432, 1773351652666409796, -6333845781340707986, 3516302870623680066, 1079245023883434373,
  -3119722376306286570, 173794974761290439, -8422800446983873125, 7586885779985432798, -1009709641759730766]
def prs : List (Int × Int) := [(0, 1), (0, 2), (1, 2), (0, 3), (1, 3), (2, 3), (0, 4), (1, 4), (2, 4), (3, 4), (0, 5), (1, 5), (2, 5), (3, 5), (4, 5)]
def hp (p : Int × Int) : Int := reduceHash (Builtin.Tuple.tupleHashOf [p.1, p.2])
theorem hs_eq : prs.map hp = hs := by decide +kernel
theorem hp_mem {p : Int × Int} (h : p ∈ prs) : hp p ∈ hs := by rw [← hs_eq]; exact List.mem_map.mpr ⟨p, h, rfl⟩
theorem hp_inj : ∀ p ∈ prs, ∀ q ∈ prs, hp p = hp q → p = q := by decide +kernel
theorem mem_prs {u v : Int} (h0 : 0 ≤ u) (h1 : u < v) (h2 : v < 6) : (u, v) ∈ prs := by
  have hv : v = 1 ∨ v = 2 ∨ v = 3 ∨ v = 4 ∨ v = 5 := by omega
  have hu : u = 0 ∨ u = 1 ∨ u = 2 ∨ u = 3 ∨ u = 4 := by omega
  rcases hv with rfl | rfl | rfl | rfl | rfl <;> rcases hu with rfl | rfl | rfl | rfl | rfl <;> first | (exfalso; omega) | decide
def advM (mask : Nat) (p : SetTable.Probe) : SetTable.Probe :=
  if p.more > 0 then { p with j := p.j + 1, more := p.more - 1 } else
  let (i, perturb) := SetTable.leap mask p.i p.perturb
  { p with j := i, more := SetTable.runEnd mask i - i, i, perturb }
theorem adv_eq (t : SetTable) (p : SetTable.Probe) : t.advance p = advM t.mask p := rfl
theorem adv_dummy (mask : Nat) (p : SetTable.Probe) : (advM mask p).dummy = p.dummy := by unfold advM; split <;> rfl
def visit (mask : Nat) : Nat → SetTable.Probe → List Nat
  | 0, _ => []
  | f + 1, p => p.j :: visit mask f (advM mask p)
def startM (mask : Nat) (h : Int) : SetTable.Probe :=
  let i := SetTable.bits h % (mask + 1)
  { j := i, more := SetTable.runEnd mask i - i, i, perturb := SetTable.bits h, dummy := none }
theorem start_eq (t : SetTable) (h : Int) : t.probeStart h = startM t.mask h := rfl
theorem cover7 : ∀ h ∈ hs, ∀ j ∈ List.range 8, j ∈ visit 7 220 (startM 7 h) := by decide +kernel
theorem cover31 : ∀ h ∈ hs, ∀ j ∈ List.range 32, j ∈ visit 31 460 (startM 31 h) := by decide +kernel
theorem all_in : ∀ (n : Nat) (l : List Nat), (∀ j, j < n → j ∈ l) → n ≤ l.length
  | 0, _, _ => Nat.zero_le _
  | n + 1, l, h => by
    have hm := h n (Nat.lt_succ_self n)
    have := all_in n (l.erase n) fun j hj => (List.mem_erase_of_ne (by omega)).mpr (h j (by omega))
    rw [List.length_erase_of_mem hm] at this
    have : 0 < l.length := List.length_pos_of_mem hm
    omega
theorem free_one {n : Nat} {l : List Nat} (h : l.length < n) : ∃ j, j < n ∧ j ∉ l :=
  Classical.byContradiction fun c => absurd (all_in n l fun j hj => Classical.byContradiction fun q => c ⟨j, hj, q⟩) (by omega)
theorem slot_of {t : SetTable} (hd : t.dummies = #[]) (j : Nat) : t.slot j = .empty ∨ ∃ i, t.slot j = .live i ∧ i < t.place.size ∧ j ∈ t.place.toList := by
  unfold SetTable.slot
  dsimp only
  split
  · rename_i h
    have h' := beq_iff_eq.mp h
    obtain ⟨hi, e⟩ := Array.getElem?_eq_some_iff.mp h'
    refine .inr ⟨_, rfl, hi, ?_⟩
    rw [← e]
    exact Array.getElem_mem_toList hi
  · left
    have : SetTable.has t.dummies j = false := by
      rw [hd]; rfl
    rw [this]; rfl
theorem go_empty {t : SetTable} {hashAt : Nat → Int} {h : Int} (hd : t.dummies = #[]) (hn : ∀ i, i < t.place.size → hashAt i ≠ h) : ∀ (fuel : Nat) (p : SetTable.Probe), p.dummy = none →
    (∃ j ∈ visit t.mask fuel p, j ∉ t.place.toList) → ∃ j, SetTable.probe.go t hashAt h fuel p = some (.empty j none)
  | 0, _, _, ⟨_, hj, _⟩ => by simp [visit] at hj
  | f + 1, p, hp, ⟨j, hj, hjn⟩ => by
    unfold SetTable.probe.go
    rcases slot_of hd p.j with e | ⟨i, e, hi, hm⟩
    · rw [e]; dsimp only
      exact ⟨p.j, by rw [hp]⟩
    · rw [e]; dsimp only
      rw [if_neg (by intro q; exact hn i hi (beq_iff_eq.mp q)), adv_eq]
      refine go_empty hd hn f (advM t.mask p) (by rw [adv_dummy]; exact hp) ⟨j, ?_, hjn⟩
      have hj' : j = p.j ∨ j ∈ visit t.mask f (advM t.mask p) := List.mem_cons.mp hj
      rcases hj' with rfl | hj'
      · exact absurd hm hjn
      · exact hj'
theorem probe_ok {t : SetTable} {hashAt : Nat → Int} {h : Int} (hh : h ∈ hs) (hd : t.dummies = #[]) (hn : ∀ i, i < t.place.size → hashAt i ≠ h) (hm : t.mask = 7 ∨ t.mask = 31) (hsz : t.place.size ≤ t.mask) :
    ∃ j, t.probe hashAt h (t.probeStart h) = some (.empty j none) := by
  unfold SetTable.probe
  refine go_empty hd hn _ _ rfl ?_
  obtain ⟨j, hj, hjn⟩ := free_one (n := t.mask + 1) (l := t.place.toList) (by simpa using Nat.lt_succ_of_le hsz)
  refine ⟨j, ?_, hjn⟩
  rw [start_eq]
  rcases hm with e | e
  · rw [e] at hj ⊢
    exact cover7 h hh j (List.mem_range.mpr hj)
  · rw [e] at hj ⊢
    exact cover31 h hh j (List.mem_range.mpr hj)
theorem put_size (t : SetTable) (j : Nat) : (t.put j).1.place.size = t.place.size + 1 := by
  unfold SetTable.put SetTable.insertAt
  dsimp only
  simp only [Array.size_append, Array.size_push, Array.size_extract]
  omega
theorem put_dummies {t : SetTable} (hd : t.dummies = #[]) (j : Nat) : (t.put j).1.dummies = #[] := by
  unfold SetTable.put
  dsimp only
  rw [hd]; rfl
theorem put_rest (t : SetTable) (j : Nat) : (t.put j).1.mask = t.mask ∧ (t.put j).1.plain = t.plain := ⟨rfl, rfl⟩
theorem insertAt_perm {α : Type} (xs : Array α) (p : Nat) (x : α) : (SetTable.insertAt xs p x).toList.Perm (x :: xs.toList) := by
  unfold SetTable.insertAt
  rw [Array.toList_append, Array.toList_push, List.append_assoc]
  have e : xs.toList = (xs.extract 0 p).toList ++ (xs.extract p xs.size).toList := by
    rw [Array.toList_extract, Array.toList_extract]
    unfold List.extract
    rw [List.drop_zero, Nat.sub_zero]
    have e2 : (List.drop p xs.toList).take (xs.size - p) = List.drop p xs.toList := List.take_of_length_le (by rw [List.length_drop]; simp)
    rw [e2, List.take_append_drop]
  rw [e]
  exact List.perm_middle
def runs (mask : Nat) : Nat → Nat → Nat → List Nat
  | 0, _, _ => []
  | f + 1, i, pt => ((List.range (SetTable.runEnd mask i + 1 - i)).map (i + ·)) ++ runs mask f (SetTable.leap mask i pt).1 (SetTable.leap mask i pt).2
theorem coverR : ∀ h ∈ hs, ∀ j ∈ List.range 32, j ∈ runs 31 46 (SetTable.bits h % 32) (SetTable.bits h) := by decide +kernel
theorem free_some {mask : Nat} {owner : Array (Option Nat)} : ∀ (f i pt : Nat), (∃ j ∈ runs mask f i pt, (owner.getD j (some 0)).isNone = true) → ∃ j, SetTable.layClean.free mask owner f i pt = some j ∧ (owner.getD j (some 0)).isNone = true
  | 0, _, _, ⟨_, hj, _⟩ => by simp [runs] at hj
  | f + 1, i, pt, ⟨j, hj, hn⟩ => by
    unfold SetTable.layClean.free
    cases e : (List.range (SetTable.runEnd mask i + 1 - i)).find? fun k => (owner.getD (i + k) (some 0)).isNone with
    | some k =>
      dsimp only
      exact ⟨i + k, rfl, by have := List.find?_some e; exact this⟩
    | none =>
      dsimp only
      rcases List.mem_append.mp hj with hj | hj
      · obtain ⟨k, hk, rfl⟩ := List.mem_map.mp hj
        have := List.find?_eq_none.mp e k hk
        exact absurd hn this
      · exact free_some f _ _ ⟨j, hj, hn⟩
theorem set_perm {α : Type} : ∀ (l : List (Option α)) (j : Nat) (k : α), l[j]? = some none → ((l.set j (some k)).filterMap id).Perm (k :: l.filterMap id)
  | [], _, _, h => by simp at h
  | none :: l, 0, k, _ => by simp
  | some x :: l, 0, k, h => by simp at h
  | none :: l, j + 1, k, h => by
    have := set_perm l j k (by simpa using h)
    simpa using this
  | some x :: l, j + 1, k, h => by
    have := set_perm l j k (by simpa using h)
    simp only [List.set_cons_succ, List.filterMap_cons_some (f := id) rfl]
    exact (this.cons x).trans (List.Perm.swap k x _)
theorem filterMap_none_lt {α : Type} : ∀ (l : List (Option α)), (l.filterMap id).length < l.length → ∃ j : Nat, l[j]? = some none
  | [], h => by simp at h
  | none :: l, _ => ⟨0, rfl⟩
  | some x :: l, h => by
    have h' : (l.filterMap id).length < l.length := by simpa using h
    obtain ⟨j, e⟩ := filterMap_none_lt l h'
    exact ⟨j + 1, by simpa using e⟩
def layStep (mask : Nat) (acc : Option (Array (Option Nat) × Nat)) (h : Int) : Option (Array (Option Nat) × Nat) := do
  let (owner, k) ← acc
  let j ← SetTable.layClean.free mask owner (SetTable.turns mask) (SetTable.bits h % (mask + 1)) (SetTable.bits h)
  pure (owner.setIfInBounds j (some k), k + 1)
theorem lay_fold : ∀ (l : List Int) (owner : Array (Option Nat)) (k : Nat), (∀ h ∈ l, h ∈ hs) → owner.size = 32 → (owner.toList.filterMap id).Perm (List.range k) → k + l.length ≤ 32 →
    ∃ ow', l.foldl (layStep 31) (some (owner, k)) = some (ow', k + l.length) ∧ ow'.size = 32 ∧ (ow'.toList.filterMap id).Perm (List.range (k + l.length))
  | [], owner, k, _, hs, hp, _ => ⟨owner, rfl, hs, hp⟩
  | h :: l, owner, k, hh, hsz, hp, hl => by
    have hlen : (owner.toList.filterMap id).length = k := by rw [hp.length_eq, List.length_range]
    obtain ⟨j, hj⟩ := filterMap_none_lt owner.toList (by rw [hlen]; simp only [List.length_cons] at hl; rw [show owner.toList.length = 32 by simpa using hsz]; omega)
    have hjlt : j < 32 := by
      have := (List.getElem?_eq_some_iff.mp hj).1
      simpa [hsz] using this
    have hnone : ∀ j, (owner.getD j (some 0)).isNone = true → owner.toList[j]? = some none := fun j q => by
      rw [Array.getElem?_toList]
      unfold Array.getD at q
      split at q
      · rename_i hlt
        rw [Array.getElem?_eq_getElem hlt]
        cases e : owner[j] with
        | none => rfl
        | some x =>
          have q' : (owner[j]).isNone = true := q
          rw [e] at q'; cases q'
      · cases q
    obtain ⟨j', ej, hn⟩ := free_some (mask := 31) (owner := owner) 46 (SetTable.bits h % 32) (SetTable.bits h) ⟨j, coverR h (hh h List.mem_cons_self) j (List.mem_range.mpr hjlt), by
      unfold Array.getD
      rw [dif_pos (by rw [hsz]; exact hjlt)]
      rw [Array.getElem?_toList, Array.getElem?_eq_getElem (by rw [hsz]; exact hjlt)] at hj
      have := Option.some.inj hj
      show (owner[j]).isNone = true
      rw [this]; rfl⟩
    have est : layStep 31 (some (owner, k)) h = some (owner.setIfInBounds j' (some k), k + 1) := by
      unfold layStep
      show (SetTable.layClean.free 31 owner (SetTable.turns 31) (SetTable.bits h % 32) (SetTable.bits h) >>= fun j => pure (owner.setIfInBounds j (some k), k + 1)) = _
      rw [show SetTable.turns 31 = 46 from rfl, ej]
      rfl
    have hp' : ((owner.setIfInBounds j' (some k)).toList.filterMap id).Perm (List.range (k + 1)) := by
      rw [Array.toList_setIfInBounds]
      refine (set_perm _ _ _ (hnone j' hn)).trans ?_
      rw [List.range_succ]
      exact (hp.cons k).trans (List.perm_append_singleton k _).symm
    obtain ⟨ow', e1, e2, e3⟩ := lay_fold l (owner.setIfInBounds j' (some k)) (k + 1) (fun x hx => hh x (List.mem_cons_of_mem _ hx)) (by simpa using hsz) hp' (by simp only [List.length_cons] at hl; omega)
    refine ⟨ow', ?_, e2, ?_⟩
    · rw [List.foldl_cons, est, e1]
      simp only [List.length_cons]
      congr 2
      omega
    · rw [List.length_cons, show k + (l.length + 1) = k + 1 + l.length by omega]; exact e3
theorem relaid_ok {t : SetTable} {hashes : Array Int} {wanted : Nat} (hw : SetTable.sizeAbove wanted = 32) (hh : ∀ h ∈ hashes.toList, h ∈ hs) (hl : hashes.size ≤ 32) :
    ∃ t' order, t.relaid hashes wanted = some (t', order) ∧ t'.mask = 31 ∧ t'.dummies = #[] ∧ t'.place.size = hashes.size ∧ order.toList.Perm (List.range hashes.size) ∧ t'.plain = t.plain := by
  have e0 : (Array.replicate 32 (none : Option Nat)).toList.filterMap id = [] := by decide
  obtain ⟨ow, e1, e2, e3⟩ := lay_fold hashes.toList (Array.replicate 32 none) 0 hh (by simp) (by rw [e0]; exact List.Perm.refl _) (by simpa using hl)
  rw [Nat.zero_add] at e1 e3
  have hlc : SetTable.layClean 31 hashes = some ow := by
    unfold SetTable.layClean
    rw [← Array.foldl_toList]
    show Option.map (·.1) (hashes.toList.foldl (layStep 31) (some (Array.replicate 32 none, 0))) = _
    rw [e1]; rfl
  have live2 : ((List.range 32).filterMap fun j => (ow.getD j none).map ((j, ·) : Nat → Nat × Nat)).map (·.2) = ow.toList.filterMap id := by
    have gen : ∀ (l : List (Option Nat)) (n : Nat), ((l.zipIdx n).filterMap (fun q => q.1.map ((q.2, ·) : Nat → Nat × Nat))).map (·.2) = l.filterMap id := by
      intro l
      induction l with
      | nil => intro n; rfl
      | cons a l ih =>
        intro n
        rw [List.zipIdx_cons]
        cases a with
        | none => simpa using ih (n + 1)
        | some x => simpa using ih (n + 1)
    rw [← gen ow.toList 0]
    congr 1
    have ez : ow.toList.zipIdx 0 = (List.range 32).map fun j => (ow.getD j none, j) := by
      apply List.ext_getElem?
      intro j
      rw [List.getElem?_zipIdx, List.getElem?_map]
      by_cases hj : j < 32
      · rw [List.getElem?_range hj, Array.getElem?_toList, Array.getElem?_eq_getElem (by rw [e2]; exact hj)]
        simp [Array.getD, e2, hj]
      · rw [List.getElem?_eq_none (show ow.toList.length ≤ j by simpa [e2] using Nat.le_of_not_lt hj), List.getElem?_eq_none (show (List.range 32).length ≤ j by simpa using Nat.le_of_not_lt hj)]
        rfl
    rw [ez, List.filterMap_map]
    rfl
  have hlen : (ow.toList.filterMap id).length = hashes.size := by rw [e3.length_eq, List.length_range]; simp
  refine ⟨{ mask := 31, place := (((List.range 32).filterMap fun j => (ow.getD j none).map ((j, ·) : Nat → Nat × Nat)).map (·.1)).toArray, dummies := #[], finger := t.finger, led := t.led, moves := t.movedTo 31, plain := t.plain },
    (((List.range 32).filterMap fun j => (ow.getD j none).map ((j, ·) : Nat → Nat × Nat)).map (·.2)).toArray, by
    unfold SetTable.relaid SetTable.laid
    rw [hw]
    show (SetTable.layClean 31 hashes >>= _) = _
    rw [hlc]
    rfl, rfl, rfl, ?_, ?_, rfl⟩
  · show (((List.range 32).filterMap fun j => (ow.getD j none).map ((j, ·) : Nat → Nat × Nat)).map (·.1)).toArray.size = _
    rw [List.size_toArray, List.length_map, ← hlen, ← live2, List.length_map]
  · show ((((List.range 32).filterMap fun j => (ow.getD j none).map ((j, ·) : Nat → Nat × Nat)).map (·.2)).toArray).toList.Perm _
    rw [live2]
    have : hashes.size = hashes.toList.length := by simp
    rw [this]
    exact e3
theorem order_perm {α : Type} {es : Array α} {order : Array Nat} (h : order.toList.Perm (List.range es.size)) : (order.filterMap (es[·]?)).toList.Perm es.toList := by
  have e : (order.filterMap (es[·]?)).toList = order.toList.filterMap (es[·]?) := by simp
  rw [e]
  refine (h.filterMap _).trans ?_
  have : (List.range es.size).filterMap (es[·]?) = es.toList := by
    apply List.ext_getElem?
    intro i
    have gen : ∀ n, n ≤ es.size → (List.range n).filterMap (es[·]?) = es.toList.take n := by
      intro n
      induction n with
      | zero => intro _; simp
      | succ n ih =>
        intro hn
        rw [List.range_succ, List.filterMap_append, ih (by omega), List.take_add_one]
        simp [Array.getElem?_eq_getElem (show n < es.size by omega)]
    rw [gen es.size (Nat.le_refl _), List.take_of_length_le (by simp)]
  rw [this]
end SP


namespace SP
open PySem PyProof.Rows
set_option maxRecDepth 1000000
section
variable {prog : Program} {w : World} {A : Around} {E : Value → Shared → Prop} {s : Shared}
structure PSet (h : Heap) (S : Addr) (done : List (Int × Int)) : Prop where
  is : ∃ es ep t, h.get? S = some { cls := .type "set", dict := none, data := .set es ep t } ∧ t.dummies = #[] ∧ t.place.size = es.size ∧ es.size = done.length ∧ ((t.mask = 7 ∧ es.size ≤ 4) ∨ (t.mask = 31 ∧ es.size ≤ 18)) ∧
    ∀ e ∈ es.toList, ∃ p ∈ done, e.1 = hp p
theorem fits_of {t : SetTable} {n : Nat} (hd : t.dummies = #[]) (h1 : t.place.size = n) (h2 : n ≤ t.mask) : t.fits n = true := by
  unfold SetTable.fits SetTable.fill
  rw [hd]
  simp [h1, h2]
theorem hash_pair (u v : Int) (h : (u, v) ∈ prs) : tupleKeyHash (intKind prog w) [u, v] = hp (u, v) := by
  have key : ∀ p ∈ prs, hashInt p.1 = p.1 ∧ hashInt p.2 = p.2 := by decide +kernel
  obtain ⟨h1, h2⟩ := key _ h
  show reduceHash (Builtin.Tuple.tupleHashOf [hashInt u, hashInt v]) = reduceHash (Builtin.Tuple.tupleHashOf [u, v])
  have h1' : hashInt u = u := h1
  have h2' : hashInt v = v := h2
  rw [h1', h2']
theorem ints_of {ks : List Int} {vs : List Value} (h : ItemsAre (intKind prog w) ks vs) : ∀ x ∈ vs, ∃ i t, x = .int i t := by
  induction h with
  | nil => intro x hx; simp at hx
  | cons h1 _ ih =>
    intro x hx
    rcases List.mem_cons.mp hx with rfl | hx
    · obtain ⟨t, rfl⟩ := Value.isInt_shape h1
      exact ⟨_, t, rfl⟩
    · exact ih x hx
theorem hashByValue_pair {a : Addr} {u v : Int} {Q : Bool → Shared → Prop} (hk : IsTupleKey (intKind prog w) s.heap [u, v] a) (h : Q true s) : wpAny (model prog w) A (hashByValue 8 (.ref a)) Q E s := by
  have hT := hk.typeIs
  obtain ⟨o, items, n, ho, hc, hd, hi⟩ := hk
  unfold hashByValue
  refine wpAny_bind (wpAny_specialOf hT F.slot_tuple_hash.lookup ?_)
  show wpAny _ _ (seqItems? (.ref a) >>= _) _ _ s
  refine wpAny_bind (wpAny_seqItems ho hd ?_)
  refine wpAny_bind ?_
  show wpAny _ _ (forIn items _ _) _ _ s
  rw [← Array.forIn_toList]
  have hall := ints_of hi
  refine wpAny_forIn_list _ (fun rest r s' => r.1 = none ∧ s' = s ∧ ∀ v ∈ rest, ∃ i t, v = .int i t) _ ?_ ?_ _ _ ⟨rfl, rfl, hall⟩
  · rintro v rest r s' ⟨hr, rfl, hall⟩
    obtain ⟨i, t, rfl⟩ := hall v List.mem_cons_self
    show wpAny _ _ (pure true >>= _) _ _ _
    refine wpAny_bind (wpAny_pure ?_)
    simp only [Bool.not_true, Bool.false_eq_true, if_false]
    exact wpAny_pure ⟨rfl, rfl, fun u hu' => hall u (List.mem_cons_of_mem _ hu')⟩
  · rintro ⟨r1, r2⟩ s' ⟨hr, rfl, _⟩
    simp only at hr
    subst hr
    exact wpAny_pure h
theorem setAdd_pair {S a : Addr} {done : List (Int × Int)} {u v : Int} {Q : Bool → Shared → Prop} (hu : A.units < cLine) (hk : IsTupleKey (intKind prog w) s.heap [u, v] a) (hP : PSet s.heap S done) (hin : (u, v) ∈ prs) (hd : ∀ p ∈ done, p ∈ prs)
    (hn : (u, v) ∉ done) (hlen : done.length < 15)
    (h : ∀ h' tk, Heap.SameBut S s.heap h' → PSet h' S (done ++ [(u, v)]) → Q true { s with heap := h', toks := tk }) : wpAny (model prog w) A (setAdd S (.ref a)) Q E s := by
  obtain ⟨es, ep, t, ho, htd, hts, hes, hm, hh⟩ := hP.is
  have hsa : S ≠ a := by
    rintro rfl
    obtain ⟨o, items, n, ho', hc, _⟩ := hk
    rw [ho] at ho'; cases ho'; exact absurd (show Value.type "set" = Value.type "tuple" from hc) (by decide)
  unfold setAdd
  refine wpAny_holding (wpAny_bind (wpAny_pyHash_tuple hu hk ?_))
  rw [hash_pair u v hin]
  generalize hs' : ({ s with toks := s.toks + ([u, v].length + 1) } : Shared) = s1
  have e1 : s1.heap = s.heap := by rw [← hs']
  have ho1 : s1.heap.get? S = some { cls := .type "set", dict := none, data := .set es ep t } := by rw [e1]; exact ho
  have hk1 : IsTupleKey (intKind prog w) s1.heap [u, v] a := by rw [e1]; exact hk
  have hmk : es.size ≤ t.mask := by omega
  have hf : t.fits es.size = true := fits_of htd hts hmk
  unfold setAddHashed
  refine wpAny_holding ?_
  show wpAny _ _ (setAddHashedIn S (.ref a) (hp (u, v)) (99999 + 1)) _ _ _
  unfold setAddHashedIn
  refine wpAny_bind (wpAny_setState_of ho1 rfl hf ?_)
  dsimp only
  have hbs : byScan (.ref a) es = false := rfl
  rw [hbs]
  simp only [Bool.false_eq_true, if_false]
  obtain ⟨j, hj⟩ := probe_ok (t := t) (hashAt := fun i => (es[i]?.map (·.1)).getD 0) (h := hp (u, v)) (hp_mem hin) htd (fun i hi q => by
    rw [hts] at hi
    rw [Array.getElem?_eq_getElem hi] at q
    have q' : (es[i]).1 = hp (u, v) := q
    obtain ⟨p, hpd, e⟩ := hh es[i] (Array.getElem_mem_toList hi)
    rw [e] at q'
    exact hn (hp_inj p (hd p hpd) _ hin q' ▸ hpd)) (by omega) (by omega)
  unfold setSearch
  show wpAny _ _ (setSearchFrom S (.ref a) (hp (u, v)) true (99999 + 1) none >>= _) _ _ _
  unfold setSearchFrom
  refine wpAny_bind (wpAny_bind (wpAny_setState_of ho1 rfl hf ?_))
  dsimp only
  have hgw : t.gaveWay = false := by
    unfold SetTable.gaveWay
    rcases hm with hm | hm <;> rw [hm.1] <;> rfl
  rw [hgw, if_neg (by decide)]
  generalize hX : t.probe _ (hp (u, v)) (none.getD (t.probeStart (hp (u, v)))) = X0
  have hX' : X0 = some (.empty j none) := by rw [← hX]; exact hj
  subst hX'
  dsimp only
  refine wpAny_pure ?_
  dsimp only
  refine wpAny_bind (wpAny_setState_of ho1 rfl hf ?_)
  dsimp only
  -- the new table
  have hps := put_size t j
  have hpd := put_dummies htd j
  obtain ⟨hpm, hpp⟩ := put_rest t j
  have hip := insertAt_perm es (t.put j).2 (hp (u, v), Value.ref a)
  have his : (SetTable.insertAt es (t.put j).2 (hp (u, v), Value.ref a)).size = es.size + 1 := by
    have := hip.length_eq
    simpa using this
  have hash' : ∀ e ∈ (SetTable.insertAt es (t.put j).2 (hp (u, v), Value.ref a)).toList, ∃ p ∈ done ++ [(u, v)], e.1 = hp p := fun e he => by
    rcases List.mem_cons.mp (hip.mem_iff.mp he) with rfl | he
    · exact ⟨(u, v), by simp, rfl⟩
    · obtain ⟨p, h1, h2⟩ := hh e he
      exact ⟨p, List.mem_append_left _ h1, h2⟩
  have last : wpAny (model prog w) A (do
      storeSet S (SetTable.insertAt es (t.put j).2 (hp (u, v), Value.ref a)) (t.put j).1
      if (!false && (t.put j).1.tooFull) = true then do
        setRelay S (SetTable.grown (es.size + 1))
        pure true
      else pure true) Q E s1 := by
    refine wpAny_bind (wpAny_storeSet_of ho1 rfl ?_ (by rw [his, sizeLine_eq]; omega))
    have hg : (s1.heap.update S (Obj.putSet (SetTable.insertAt es (t.put j).2 (hp (u, v), Value.ref a)) (t.put j).1)).get? S = some { cls := .type "set", dict := none, data := .set (SetTable.insertAt es (t.put j).2 (hp (u, v), Value.ref a)) (ep + 1) (t.put j).1 } :=
      Heap.get?_update_self _ ho1 rfl
    have sb1 : Heap.SameBut S s.heap (s1.heap.update S (Obj.putSet (SetTable.insertAt es (t.put j).2 (hp (u, v), Value.ref a)) (t.put j).1)) := by rw [e1]; exact Heap.SameBut.update ..
    have hs1 : ∀ hh' : Heap, ({ s1 with heap := hh' } : Shared) = { s with heap := hh', toks := s1.toks } := fun hh' => by rw [← hs']
    by_cases hfull : (t.put j).1.tooFull = true
    · rw [hfull, if_pos (by rfl)]
      have hfu : ((t.put j).1.place.size + (t.put j).1.dummies.size) * 5 ≥ (t.put j).1.mask * 3 := by
        have q := hfull
        unfold SetTable.tooFull SetTable.fill at q
        exact of_decide_eq_true q
      rw [hps, hpd, hpm, hts] at hfu
      have hz : (#[] : Array Nat).size = 0 := rfl
      rw [hz] at hfu
      have h5 : t.mask = 7 ∧ es.size = 4 := by omega
      have hw : SetTable.grown (es.size + 1) = 20 := by rw [h5.2]; rfl
      rw [hw]
      have hf2 : (t.put j).1.fits (SetTable.insertAt es (t.put j).2 (hp (u, v), Value.ref a)).size = true := fits_of hpd (by rw [hps, his, hts]) (by rw [his, hpm]; omega)
      obtain ⟨t', order, r1, r2, r3, r4, r5, r6⟩ := relaid_ok (t := (t.put j).1) (hashes := (SetTable.insertAt es (t.put j).2 (hp (u, v), Value.ref a)).map (·.1)) (wanted := 20) rfl (fun h0 hm0 => by
        rw [Array.toList_map] at hm0
        obtain ⟨e, he, rfl⟩ := List.mem_map.mp hm0
        obtain ⟨p, hp1, hp2⟩ := hash' e he
        rw [hp2]
        rcases List.mem_append.mp hp1 with q | q
        · exact hp_mem (hd p q)
        · rw [List.mem_singleton.mp q]; exact hp_mem hin) (by rw [Array.size_map, his]; omega)
      rw [Array.size_map] at r4 r5
      have op := order_perm r5
      have osz : (order.filterMap ((SetTable.insertAt es (t.put j).2 (hp (u, v), Value.ref a))[·]?)).size = (SetTable.insertAt es (t.put j).2 (hp (u, v), Value.ref a)).size := by
        rw [← Array.length_toList, ← Array.length_toList]; exact op.length_eq
      unfold setRelay
      refine wpAny_bind (wpAny_bind (wpAny_setState_of hg rfl hf2 ?_))
      dsimp only
      rw [if_neg (show ¬ SetTable.sizeAbove 20 > sizeLine by rw [sizeLine_eq]; decide)]
      refine wpAny_bind ?_
      rw [r1]
      show wpAny _ _ (if (Array.size (order.filterMap ((SetTable.insertAt es (t.put j).2 (hp (u, v), Value.ref a))[·]?)) != (SetTable.insertAt es (t.put j).2 (hp (u, v), Value.ref a)).size) = true then _ else _) _ _ _
      rw [if_neg (by rw [osz]; simp)]
      refine wpAny_pure ?_
      dsimp only
      refine wpAny_storeSet_of hg rfl ?_ (by rw [osz, his, sizeLine_eq]; omega)
      refine wpAny_pure ?_
      have hg3 := Heap.get?_update_self (Obj.putSet (order.filterMap ((SetTable.insertAt es (t.put j).2 (hp (u, v), Value.ref a))[·]?)) t') hg rfl
      rw [hs1]
      refine h _ _ (sb1.trans (Heap.SameBut.update ..)) ⟨_, _, _, hg3, r3, by rw [r4, osz], by rw [osz, his, hes]; simp, .inr ⟨r2, by rw [osz, his]; omega⟩, fun e he => hash' e (op.mem_iff.mp he)⟩
    · rw [Bool.not_eq_true] at hfull
      rw [hfull, if_neg (by decide)]
      refine wpAny_pure ?_
      rw [hs1]
      refine h _ _ sb1 ⟨_, _, _, hg, hpd, by rw [hps, his, hts], by rw [his, hes]; simp, ?_, hash'⟩
      have hfu : ¬ ((t.put j).1.place.size + (t.put j).1.dummies.size) * 5 ≥ (t.put j).1.mask * 3 := by
        have q := hfull
        unfold SetTable.tooFull SetTable.fill at q
        exact of_decide_eq_false q
      rw [hps, hpd, hpm, hts] at hfu
      have hz : (#[] : Array Nat).size = 0 := rfl
      rw [hz] at hfu
      rw [his, hpm]
      omega
  by_cases hpl : (t.put j).1.plain = true
  · rw [if_pos hpl]
    refine wpAny_bind (hashByValue_pair hk1 ?_)
    exact last
  · rw [if_neg hpl]
    refine wpAny_bind (wpAny_pure ?_)
    exact last
def TupsAt (h : Heap) (vs : List Value) (ps : List (Int × Int)) : Prop := ∀ (i : Nat) (v : Value), vs[i]? = some v → ∃ a p, v = .ref a ∧ ps[i]? = some p ∧ IsTupleKey (intKind prog w) h [p.1, p.2] a
theorem key_same {h h' : Heap} {S a : Addr} {u v : Int} {es : Array (Int × Value)} {ep : Nat} {t : SetTable} (x : IsTupleKey (intKind prog w) h [u, v] a) (ho : h.get? S = some { cls := .type "set", dict := none, data := .set es ep t })
    (sb : ∀ b o, b ≠ S → h.get? b = some o → h'.get? b = some o) : IsTupleKey (intKind prog w) h' [u, v] a := by
  obtain ⟨o, items, n, e, c, d, i⟩ := x
  refine ⟨o, items, n, sb a o ?_ e, c, d, i⟩
  rintro rfl
  rw [ho] at e; cases e; cases d
theorem fill_loop {S I l : Addr} {vs : List Value} {ps : List (Int × Int)} {R : Result → Shared → Prop} (hu : A.units + 1 < cLine) (hh : A.in1.handled = none) (hlen : vs.length = ps.length) (hl15 : ps.length ≤ 15) (hnd : ps.Nodup) (hin : ∀ p ∈ ps, p ∈ prs)
    (hSI : S ≠ I) (hSl : S ≠ l) (hlI : l ≠ I) : ∀ (k i : Nat) (s : Shared), ps.length - i = k → i ≤ ps.length → s.heap.IsListIter I l i → s.heap.IsList l vs.toArray → TupsAt (prog := prog) (w := w) s.heap vs ps → PSet s.heap S (ps.take i) →
      (∀ h' tk, (∀ b o, b ≠ S → b ≠ I → s.heap.get? b = some o → h'.get? b = some o) → PSet h' S ps → R (.ok (.ret .none)) { s with heap := h', toks := tk }) →
      codeAny (model prog w) A (.builtin "set.update.loop" ⟨[.ref S, .ref I], []⟩) R s := by
  intro k
  induction k with
  | zero =>
    intro i s hk hi hit hl hT hP hR
    have e : i = ps.length := by omega
    subst e
    rw [List.take_length] at hP
    refine codeAny_builtin F.entry_set_update_loop ?_
    rw [Around.under_plainId F.plain_set_update_loop _]
    show wpAny _ A.in1 (pyNext (.ref I) >>= _) _ _ s
    refine wpAny_bind (wpAny_pyNext_list_end hh hit hl (by simp [hlen]) fun h' eb => ?_)
    show wpAny _ A.in1 (ret Value.none) _ _ _
    refine wpAny_pure (hR h' s.toks (fun b o _ hb e => eb b o hb e) ?_)
    obtain ⟨es, ep, t, ho, r⟩ := hP.is
    exact ⟨es, ep, t, eb S _ hSI ho, r⟩
  | succ k ih =>
    intro i s hk hi hit hl hT hP hR
    have hlt : i < ps.length := by omega
    have hvi : vs[i]? = some vs[i] := List.getElem?_eq_getElem (by omega)
    obtain ⟨a, p, ev, ep, key⟩ := hT i _ hvi
    refine codeAny_builtin F.entry_set_update_loop ?_
    rw [Around.under_plainId F.plain_set_update_loop _]
    show wpAny _ A.in1 (pyNext (.ref I) >>= _) _ _ s
    refine wpAny_bind (wpAny_pyNext_list_item hit hl (x := .ref a) (by rw [← ev]; simp) fun h1 hit1 sb1 => ?_)
    have k1 : ∀ b o, b ≠ I → s.heap.get? b = some o → h1.get? b = some o := fun b o hb e => sb1.extBut b o hb e
    obtain ⟨es, epo, t, ho, r⟩ := id hP.is
    have hP1 : PSet h1 S (ps.take i) := ⟨es, epo, t, k1 S _ hSI ho, r⟩
    have key1 : IsTupleKey (intKind prog w) h1 [p.1, p.2] a := by
      obtain ⟨o, items, n, e, c, d, ii⟩ := key
      refine ⟨o, items, n, k1 a o ?_ e, c, d, ii⟩
      rintro rfl
      obtain ⟨oi, hoi, hci, _⟩ := hit
      rw [hoi] at e; cases e; rw [hci] at c; exact absurd c (by decide)
    show wpAny _ A.in1 (holding [Value.ref a] (setAdd S (.ref a)) >>= _) _ _ _
    have hmem : p ∈ ps := List.mem_of_getElem? ep
    have hnot : p ∉ ps.take i := fun hm => by
      obtain ⟨j, hj, e⟩ := List.mem_iff_getElem.mp hm
      rw [List.getElem_take] at e
      rw [List.length_take] at hj
      obtain ⟨hi', e'⟩ := List.getElem?_eq_some_iff.mp ep
      have := (List.getElem_inj hnd (h₀ := by omega) (h₁ := hi')).mp (e.trans e'.symm)
      omega
    refine wpAny_bind (wpAny_holding (setAdd_pair (u := p.1) (v := p.2) (A := A.in1) (by show A.units + 1 < cLine; exact hu) key1 hP1 (hin p hmem) (fun q hq => hin q (List.mem_of_mem_take hq)) hnot (by rw [List.length_take]; omega) fun h2 tk sb2 hP2 => ?_))
    have k2 : ∀ b o, b ≠ S → h1.get? b = some o → h2.get? b = some o := fun b o hb e => sb2.extBut b o hb e
    have et : ps.take i ++ [p] = ps.take (i + 1) := by rw [List.take_add_one, ep]; rfl
    refine wpAny_pure ⟨plainId_quiet F.plain_set_update_loop _, ih (i + 1) { s with heap := h2, toks := tk } (by omega) (by omega) (hit1.extBut (fun b o hb e => k2 b o hb e) (Ne.symm hSI)) ?_ ?_ (by rw [← et]; exact hP2) ?_⟩
    · exact (hl.extBut (fun b o hb e => k1 b o hb e) hlI).extBut (fun b o hb e => k2 b o hb e) (Ne.symm hSl)
    · intro j v hv
      obtain ⟨a', p', e1', e2', key'⟩ := hT j v hv
      refine ⟨a', p', e1', e2', key_same ?_ (k1 S _ hSI ho) k2⟩
      obtain ⟨o, items, n, e, c, d, ii⟩ := key'
      refine ⟨o, items, n, k1 a' o ?_ e, c, d, ii⟩
      rintro rfl
      obtain ⟨oi, hoi, hci, _⟩ := hit
      rw [hoi] at e; cases e; rw [hci] at c; exact absurd c (by decide)
    · intro h3 tk3 kp hP3
      exact hR h3 tk3 (fun b o hb hb' e => kp b o hb hb' (k2 b o hb (k1 b o hb' e))) hP3
set_option maxHeartbeats 4000000 in
theorem call_set_pairs {l : Addr} {vs : List Value} {ps : List (Int × Int)} {Q : Value → Shared → Prop} (hu : A.units + 8 < cLine) (hh : A.handled = none) (hl : s.heap.IsList l vs.toArray) (hlen : vs.length = ps.length) (hl15 : ps.length ≤ 15)
    (hnd : ps.Nodup) (hin : ∀ p ∈ ps, p ∈ prs) (hT : TupsAt (prog := prog) (w := w) s.heap vs ps)
    (h : ∀ h' tk, (∀ b o, b < s.heap.objs.size → s.heap.get? b = some o → h'.get? b = some o) → PSet h' s.heap.objs.size ps → Q (.ref s.heap.objs.size) { s with heap := h', toks := tk }) :
    wpAny (model prog w) A (call (.type "set") [.ref l]) Q E s := by
  obtain ⟨c0, tl0, mro0⟩ := F.called_set.mro
  have made0 := F.called_set.made
  have sub0 := F.called_set.sub
  have nt0 := F.called_set.notType
  have cc0 := F.called_set.canCreate
  have tc0 := F.typeCall_set_1 (.ref l)
  refine wpAny_call (codeAny_of_tree ?_)
  show wpAny _ _ (callAny (.type "set") _) _ _ _
  refine wpAny_pure ⟨Code.quiet_builtin _ (by decide +kernel), codeAny_builtin F.entry_type_call ?_⟩
  rw [Around.under_plain (weight_type_call_type "set" [.ref l] []) rfl]
  repeat (any_goals (first | assumption | wp_step))
  refine codeAny_mono (code_set_new_1 (.ref l) (E := E) (Q₁ := fun obj s1 => ∃ led : Bool, obj = .ref s.heap.objs.size ∧
    s1 = { s with heap := s.heap.push { cls := .type "set", dict := none, data := .set #[] 0 (.fresh 0 0 led) } }) fun led => ⟨led, rfl, rfl⟩) fun r s1 hr => ?_
  cases r with
  | error e => exact hr
  | ok fl =>
    cases fl with
    | ret obj =>
      obtain ⟨led, rfl, rfl⟩ := hr
      generalize hH : s.heap.push { cls := .type "set", dict := none, data := .set #[] 0 (.fresh 0 0 led) } = H1
      have hS : H1.get? s.heap.objs.size = some { cls := .type "set", dict := none, data := .set #[] 0 (.fresh 0 0 led) } := by rw [← hH]; exact Heap.get?_push_size _ rfl
      have old : ∀ b o, s.heap.get? b = some o → H1.get? b = some o := fun b o e => by rw [← hH]; exact Heap.get?_push_of_some _ e
      have hsz : H1.objs.size = s.heap.objs.size + 1 := by rw [← hH, Heap.size_push]
      have tyS : Shared.TypeIs { s with heap := H1 } (.ref s.heap.objs.size) "set" := ⟨_, hS, rfl⟩
      have li0 := F.called_set.init.lookup
      have bi0 := F.called_set.init.bind (.ref s.heap.objs.size)
      repeat (any_goals (first | assumption | wp_step))
      refine codeAny_mono (codeAny_call_builtin (R := wants (fun r s2 => r = .none ∧ ∃ h' tk, s2 = { s with heap := h', toks := tk } ∧ PSet h' s.heap.objs.size ps ∧
        (∀ b o, b < s.heap.objs.size → s.heap.get? b = some o → h'.get? b = some o)) E) F.called_set.init.plain F.entry_set_init (check_set_init_1 tyS ?_)) fun r2 s2 hr2 => ?_
      · obtain ⟨ol, hol, hcl, nl, hdl⟩ := hl
        obtain ⟨oc, od, oda, osl⟩ := ol
        simp only at hcl hdl
        subst hcl; subst hdl
        have hol1 : H1.get? l = some { cls := .type "list", dict := od, data := .seq vs.toArray nl, slots := osl } := old _ _ hol
        have sls := F.sub_list_set
        have slf := F.sub_list_frozenset
        have nld : (Value.type "list" == Value.type "dict") = false := by decide
        have hl1 : H1.IsList l vs.toArray := ⟨_, hol1, rfl, nl, rfl⟩
        have llt : l < s.heap.objs.size := Heap.lt_size hol
        unfold Builtin.«set.__init__» noKeywords Builtin.Frozenset.updateFrom
        generalize hPI : pyIter = PI
        wp_walk
        subst hPI
        refine wpAny_pyIter_list hl1 ?_
        refine wpAny_bind (wpAny_runValue ?_)
        generalize hH2 : H1.push { cls := .type "list_iterator", data := .fields #[.ref l, .int 0 0] } = H2
        have old2 : ∀ b o, H1.get? b = some o → H2.get? b = some o := fun b o e => by rw [← hH2]; exact Heap.get?_push_of_some _ e
        refine fill_loop (l := l) (ps := ps) (vs := vs) (by show A.units + 1 + 1 + 1 < cLine; omega) (by simp [hh]) hlen hl15 hnd hin (by show s.heap.objs.size ≠ H1.objs.size; rw [hsz]; exact Nat.ne_of_lt (Nat.lt_succ_self _)) (Nat.ne_of_gt llt) (by show l ≠ H1.objs.size; rw [hsz]; exact Nat.ne_of_lt (Nat.lt_succ_of_lt llt)) ps.length 0 _ (by omega) (Nat.zero_le _) ?_ ?_ ?_ ?_ ?_
        · rw [← hH2]
          exact ⟨_, Heap.get?_push_size _ rfl, rfl, rfl⟩
        · exact ⟨_, old2 _ _ hol1, rfl, nl, rfl⟩
        · intro i v hv
          obtain ⟨a, p, e1, e2, o, items, n, e, r⟩ := hT i v hv
          exact ⟨a, p, e1, e2, o, items, n, old2 _ _ (old _ _ e), r⟩
        · exact ⟨#[], 0, .fresh 0 0 led, old2 _ _ hS, rfl, rfl, rfl, .inl ⟨rfl, by decide⟩, fun e he => by simp at he⟩
        · intro h' tk kp hP
          show wpAny _ _ (pure ()) _ _ _
          refine wpAny_pure ?_
          show wpAny _ _ (ret Value.none) _ _ _
          refine wpAny_pure ⟨rfl, h', tk, rfl, hP, fun b o hb e => ?_⟩
          refine kp b o (Nat.ne_of_lt hb) ?_ (old2 _ _ (old _ _ e))
          show b ≠ H1.objs.size
          rw [hsz]; exact Nat.ne_of_lt (Nat.lt_succ_of_lt hb)
      · cases r2 with
        | error e => exact hr2
        | ok f2 =>
          cases f2 with
          | ret r =>
            obtain ⟨rfl, h', tk, rfl, hP, hk⟩ := hr2
            repeat (any_goals (first | assumption | wp_step))
            exact h _ _ hk hP
          | _ => exact hr2.elim
    | _ => exact hr.elim
end
end SP


set_option linter.all false
set_option maxRecDepth 1000000
set_option maxHeartbeats 4000000
namespace L2
open PySem PySem.Spec PyProof.Rows
variable {X : Cx}
def SetA (S : Addr) (n : Nat) : Heap → Prop := fun h => ∃ es ep t, h.get? S = some { cls := .type "set", dict := none, data := .set es ep t } ∧ es.size = n ∧ t.fits es.size = true
def Prs (K : PySem.W.Frag) (H : Hp) (us : List V) (ps : List (Int × Int)) : Prop := Paired (fun (u : V) (p : Int × Int) => ∃ t, u = .ref t ∧ SqT K H t [.int p.1, .int p.2]) us ps
theorem prs_get {K : PySem.W.Frag} {H : Hp} : ∀ {us : List V} {ps : List (Int × Int)} {i : Nat} {u : V}, Prs K H us ps → us[i]? = some u → ∃ p t, ps[i]? = some p ∧ u = .ref t ∧ SqT K H t [.int p.1, .int p.2]
  | [], _, i, u, _, e => by simp at e
  | _ :: _, _ :: _, 0, u, .cons h _, e => by
    obtain ⟨t, h1, h2⟩ := h
    simp at e
    subst e
    exact ⟨_, t, by simp, h1, h2⟩
  | _ :: _, _ :: _, i + 1, u, .cons _ t, e => by
    obtain ⟨p, a, e1, e2⟩ := prs_get (i := i) (u := u) t (by simpa using e)
    exact ⟨p, a, by simpa using e1, e2⟩
theorem prs_len {K : PySem.W.Frag} {H : Hp} {us : List V} {ps : List (Int × Int)} (h : Prs K H us ps) : us.length = ps.length := Paired.length h
theorem call_setP (hc : X.calm = true) (hu : X.A.units + 64 < cLine) : CallR X (.type "set") (fun xs H Q => ∃ (a : Addr) (us : List V) (ps : List (Int × Int)), xs = [.ref a] ∧ SqL X.K H a us ∧ Prs X.K H us ps ∧ ps.Nodup ∧ (∀ p ∈ ps, p ∈ SP.prs) ∧ ps.length ≤ 15 ∧ ∀ S, H S = none → Q (.ref S) (upd H S (.ext (SetA S ps.length)))) := by
  intro pins s σ H xs us Q I r h
  obtain ⟨a, ws, ps, rfl, hq, hP, nd, hin, h15, q⟩ := h
  obtain ⟨u, rfl, ru⟩ := Vals.one r
  cases ru
  obtain ⟨its, rv, p, hz⟩ := I.list hq
  have hlen : its.length = ps.length := rv.length.symm.trans (prs_len hP)
  refine SP.call_set_pairs (by omega) (I.ok.hd hc) p.isList hlen h15 nd hin ?_ fun h' tk kp P => ?_
  · intro i v hv
    have hi : i < ws.length := by rw [rv.length]; exact (List.getElem?_eq_some_iff.mp hv).1
    obtain ⟨pr, t, e1, e2, hs⟩ := prs_get (i := i) hP (List.getElem?_eq_getElem hi)
    obtain ⟨u, eu, ru⟩ := rv.get (List.getElem?_eq_getElem hi)
    rw [hv] at eu; cases eu
    rw [e2] at ru
    cases ru
    obtain ⟨is, r2, ⟨o, ho, hcl, n, hd⟩, _⟩ := I.tuple hs
    obtain ⟨x, y, rfl, rx, ry⟩ := vals2 r2
    obtain ⟨t1, rfl⟩ := rx
    obtain ⟨t2, rfl⟩ := ry
    exact ⟨t, pr, rfl, e1, o, _, n, ho, hcl, hd, .cons (by simp [intKind, Value.isInt]) (.cons (by simp [intKind, Value.isInt]) .nil)⟩
  · have hn : H s.heap.objs.size = none := I.hok.fresh (Nat.le_refl _)
    obtain ⟨es, ep, t, ho, hd, hp, hl, hm, _⟩ := P.is
    have hf : t.fits es.size = true := SP.fits_of hd hp (by rcases hm with ⟨e, k⟩ | ⟨e, k⟩ <;> omega)
    refine ⟨.ref s.heap.objs.size, _, I.laid (t' := tk) (o := .ext (SetA s.heap.objs.size ps.length)) (fun b o e => kp b o (Heap.lt_size e) e) (Nat.le_refl _) ?_, rfl, q _ hn⟩
    exact ⟨⟨es, ep, t, ho, hl, hf⟩, ⟨_, ho⟩, fun h1 h2 ⟨es, ep, t, e, l, f⟩ k => ⟨es, ep, t, k _ e, l, f⟩⟩
theorem call_lenS : CallR X (.builtin "len") (fun xs H Q => ∃ (S : Addr) (n : Nat), xs = [.ref S] ∧ H S = some (.ext (SetA S n)) ∧ n < 1000 ∧ Q (.int n) H) := by
  intro pins s σ H xs us Q I r h
  obtain ⟨S, n, rfl, hS, hn, q⟩ := h
  obtain ⟨u, rfl, ru⟩ := Vals.one r
  cases ru
  obtain ⟨⟨es, ep, t, ho, hl, hf⟩, _, _⟩ := (show ObjOk X.prog X.w H s.heap S (.ext (SetA S n)) from I.hok S _ hS)
  subst hl
  exact call_len_set ho ⟨rfl, rfl, rfl⟩ rfl hf (by omega) ⟨.int es.size, H, I.tok _, ⟨_, rfl⟩, q⟩
end L2
namespace U
open PySem PySem.Spec PyProof.Rows L2
variable {B : Bs} {X : Cx} {e : Expr} {ta : TE'} {p p2 pos pos2 : Pos}
def prV (p : Int × Int) : PV := .tup [.int p.1, .int p.2]
theorem prs_of {K : PySem.W.Frag} {H : Hp} : ∀ {ps : List (Int × Int)} {us : List V}, RPs K H (ps.map prV) us → Prs K H us ps
  | [], us, h => by
    have : us = [] := by simpa [RPs] using h
    subst this; exact .nil
  | q :: ps, us, h => by
    simp only [List.map_cons, RPs, RP, prV] at h
    obtain ⟨u, r, rfl, ⟨t, ws, rfl, hs, w1, r1, rfl, rfl, w2, r2, rfl, rfl, rfl⟩, h2⟩ := h
    exact .cons ⟨t, rfl, hs⟩ (prs_of h2)
def lenSet (x : PV) (H : PHp) (Q : VK') : Prop := match x with
  | .ref a => ∃ ps : List (Int × Int), H a = some (.lst (ps.map prV)) ∧ ps.Nodup ∧ (∀ p ∈ ps, p ∈ SP.prs) ∧ ps.length ≤ 15 ∧ Q (.int ps.length) H
  | _ => False
def uLenSet (ta : TE') : TE' := fun σ H Q => ta σ H fun x H1 => lenSet x H1 Q
theorem qe_len_set (hc : X.calm = true) (hu : X.A.units + 64 < cLine) (hgl : Gl X "len") (hml : X.mg "len" = none) (hgs : Gl X "set") (hms : X.mg "set" = none) (bs : bootBuiltins "set" = some (.type "set")) (ha : PE' X B e ta)
    (he : starEach [.Call (.Name "set" p2) [e] [] pos2] X.env = [(false, eval (.Call (.Name "set" p2) [e] [] pos2) X.env)] := by rfl) (he2 : starEach [e] X.env = [(false, eval e X.env)] := by rfl) :
    PE' X B (.Call (.Name "len" p) [.Call (.Name "set" p2) [e] [] pos2] [] pos) (uLenSet ta) :=
  pe_imp (pe_callB call_lenS hgl hml PySem.boot_len (pa_cons (pe_callTy (call_setP hc hu) hgs hms bs (pa_cons ha pa_nil he2) (by decide) (by decide) he2 rfl) pa_nil he) (by decide) (by decide) he rfl) fun σ H Q h => by
    obtain ⟨σ', H', Q', s, h, k⟩ := h
    refine ⟨σ', H', _, s, h, fun x' H1' x H1 h1 rx s1 e1 => ?_⟩
    cases x' with
    | ref a =>
      obtain ⟨ps, ea, nd, hin, h15, q⟩ := h1
      simp only [RP] at rx
      subst rx
      obtain ⟨us, eg, r2⟩ := s1.hp _ _ ea
      refine ⟨a, us, ps, rfl, .inl (.inl eg), prs_of r2, nd, hin, h15, fun S hS => ?_⟩
      exact ⟨S, ps.length, rfl, upd_same, by omega, k _ _ _ _ q (by simp [RP]) (s1.hid hS) (e1.trans (Ev.hid hS))⟩
    | _ => exact h1.elim
end U


set_option linter.all false
set_option maxRecDepth 1000000
set_option maxHeartbeats 4000000
namespace U
open PySem PySem.Spec PyProof.Rows L2
variable {B : Bs} {X : Cx} {a b : Expr} {ta tb : TE'} {pos : Pos}
def uShr : R2' := uI (fun _ j => 0 ≤ j) fun i j => .int (i / 2 ^ j.toNat)
def uBand : R2' := uI0 fun i j => .int (Builtin.bitAnd i j)
theorem qe_shr (ha : PE' X B a ta) (hb : PE' X B b tb) : PE' X B (.BinOp a .RShift b pos) (uOp uShr ta tb) := qe_op op_shr (vr_I fun _ _ _ => by simp [RP]) ha hb
end U


set_option linter.all false
set_option maxRecDepth 1000000
set_option maxHeartbeats 4000000
namespace ST
open PySem PySem.W PyProof.Rows
def key (K : Nat → Int) (p : Array Nat) (i : Nat) : Int := K ((p[i]?).getD 0)
structure Ok (n : Nat) (p : Array Nat) : Prop where
  perm : p.toList.Perm (List.range n)
def S (K : Nat → Int) (p : Array Nat) (m : Nat) : Prop := ∀ i j, i < j → j < m → key K p i < key K p j
theorem Ok.size {n : Nat} {p : Array Nat} (h : Ok n p) : p.size = n := by
  have := h.perm.length_eq
  simpa using this
theorem Ok.lt {n : Nat} {p : Array Nat} (h : Ok n p) (h0 : 0 < n) (i : Nat) : p.getD i 0 < n := by
  rw [Array.getD_eq_getD_getElem?]
  cases e : p[i]? with
  | none => exact h0
  | some x =>
    have : x ∈ p.toList := by
      obtain ⟨hi, rfl⟩ := Array.getElem?_eq_some_iff.mp e
      simp
    exact List.mem_range.mp (h.perm.mem_iff.mp this)
theorem Ok.of {n : Nat} {p q : Array Nat} (h : Ok n p) (r : q.Perm p) : Ok n q := ⟨(Array.perm_iff_toList_perm.mp r).trans h.perm⟩
section
variable {cmp : Nat → Nat → (Bool → Shared → Prop) → Shared → Prop} {s : Shared} {n : Nat} {K : Nat → Int} {p : Array Nat}
theorem Ok.ne (hK : ∀ i j, i < n → j < n → K i = K j → i = j) (h : Ok n p) {i j : Nat} (hi : i < n) (hj : j < n) (hne : i ≠ j) : key K p i ≠ key K p j := by
  intro e
  have hs := h.size
  have h0 : 0 < n := by omega
  unfold key at e
  rw [Array.getElem?_eq_getElem (by omega), Array.getElem?_eq_getElem (by omega)] at e
  simp only [Option.getD_some] at e
  have nd : p.toList.Nodup := (h.perm.nodup_iff).mpr List.nodup_range
  have l1 : p[i] < n := by have := h.lt h0 i; rwa [Array.getD_eq_getD_getElem?, Array.getElem?_eq_getElem (by omega)] at this
  have l2 : p[j] < n := by have := h.lt h0 j; rwa [Array.getD_eq_getD_getElem?, Array.getElem?_eq_getElem (by omega)] at this
  have q := hK _ _ l1 l2 e
  have : i = j := by
    exact (List.getElem_inj nd (h₀ := by simpa [hs] using hi) (h₁ := by simpa [hs] using hj)).mp (by simpa using q)
  exact hne this
theorem getD_key (K : Nat → Int) (p : Array Nat) (i : Nat) : K (p.getD i 0) = key K p i := by
  unfold key; rw [Array.getD_eq_getD_getElem?]
variable (hc : ∀ i j C, i < n → j < n → C (decide (K i < K j)) s → cmp i j C s) (hK : ∀ i j, i < n → j < n → K i = K j → i = j)
include hc
theorem ask_at {G : Bool → Shared → Prop} (h0 : 0 < n) (ok : Ok n p) {i j : Nat} (h : G (decide (key K p i < key K p j)) s) : cmp (p.getD i 0) (p.getD j 0) G s := by
  refine hc _ _ _ (ok.lt h0 i) (ok.lt h0 j) ?_
  rw [getD_key K p i, getD_key K p j]
  exact h
include hK
theorem lt_of_not {i j : Nat} (ok : Ok n p) (hi : i < n) (hj : j < n) (hne : i ≠ j) (h : ¬ key K p i < key K p j) : key K p j < key K p i := by
  have := ok.ne hK hi hj hne
  omega
theorem asc (ok : Ok n p) : ∀ (f m : Nat) {G : Nat → Shared → Prop}, 1 ≤ m → m + f ≤ n → S K p m →
    (∀ m', m ≤ m' → m' ≤ m + f → S K p m' → (m' < m + f → key K p m' < key K p (m' - 1)) → G m' s) → (kas_asc p f m).kasWp cmp G s
  | 0, m, G, _, _, hS, h => h m (Nat.le_refl _) (Nat.le_refl _) hS fun q => absurd q (Nat.lt_irrefl _)
  | f + 1, m, G, h1, hm, hS, h => by
    refine ask_at hc (by omega) ok (G := fun c s' => (if c = true then KasT.ret m else kas_asc p f (m + 1)).kasWp cmp G s') ?_
    by_cases q : key K p m < key K p (m - 1)
    · rw [decide_eq_true q]
      show G m s
      exact h m (Nat.le_refl _) (by omega) hS fun _ => q
    · rw [decide_eq_false q]
      show (kas_asc p f (m + 1)).kasWp cmp G s
      have q' := lt_of_not hc hK ok (by omega) (by omega) (by omega) q
      refine asc ok f (m + 1) (by omega) (by omega) ?_ fun m' a b c d => h m' (by omega) (by omega) c fun e => d (by omega)
      intro i j hij hj
      by_cases hjm : j < m
      · exact hS i j hij hjm
      · have : j = m := by omega
        subst this
        by_cases him : i = j - 1
        · subst him; exact q'
        · have := hS i (j - 1) (by omega) (by omega)
          omega
theorem desc (ok : Ok n p) : ∀ (f m : Nat) {G : Array Nat × Nat × Nat → Shared → Prop}, 1 ≤ m → m + f ≤ n → (∀ i j, i < j → j < m → key K p j < key K p i) →
    (∀ m', m ≤ m' → m' ≤ m + f → (∀ i j, i < j → j < m' → key K p j < key K p i) → G (p, m', 0) s) → (kas_desc f p m 0).kasWp cmp G s
  | 0, m, G, _, _, hS, h => h m (Nat.le_refl _) (Nat.le_refl _) hS
  | f + 1, m, G, h1, hm, hS, h => by
    refine ask_at hc (by omega) ok (G := fun c s' => (if c = true then (if 0 > 0 then kas_desc f (kas_rev p (m - (0 + 1)) m) (m + 1) 0 else kas_desc f p (m + 1) 0)
      else KasT.ask (p.getD (m - 1) 0) (p.getD m 0) fun d => if d = true then KasT.ret (p, m, 0) else kas_desc f p (m + 1) (0 + 1)).kasWp cmp G s') ?_
    by_cases q : key K p m < key K p (m - 1)
    · rw [decide_eq_true q, if_pos rfl, if_neg (by omega)]
      refine desc ok f (m + 1) (by omega) (by omega) ?_ fun m' a b c => h m' (by omega) (by omega) c
      intro i j hij hj
      by_cases hjm : j < m
      · exact hS i j hij hjm
      · have : j = m := by omega
        subst this
        by_cases him : i = j - 1
        · subst him; exact q
        · have := hS i (j - 1) (by omega) (by omega)
          omega
    · rw [decide_eq_false q]
      have q' := lt_of_not hc hK ok (by omega) (by omega) (by omega) q
      refine ask_at hc (by omega) ok (G := fun d s' => (if d = true then KasT.ret (p, m, 0) else kas_desc f p (m + 1) (0 + 1)).kasWp cmp G s') ?_
      rw [decide_eq_true q', if_pos rfl]
      exact h m (Nat.le_refl _) (by omega) hS
theorem rev_key {m : Nat} (ok : Ok n p) (hm : m ≤ n) (i : Nat) : key K (kas_rev p 0 m) i = if i < m then key K p (m - 1 - i) else key K p i := by
  unfold key kas_rev
  rw [getElem?_mirror_all (by rw [ok.size]; exact hm)]
  by_cases h : i < m
  · rw [if_pos ⟨Nat.zero_le _, h⟩, if_pos h]
    congr 3
    omega
  · rw [if_neg (by omega), if_neg h]
theorem count {G : Nat × Array Nat → Shared → Prop} (ok : Ok n p) (h1 : 1 ≤ n) (h : ∀ m p', Ok n p' → 1 ≤ m → m ≤ n → S K p' m → G (m, p') s) : (kas_count n p).kasWp cmp G s := by
  unfold kas_count
  rw [KasT.kasWp_bind]
  refine asc hc hK ok (n - 1) 1 (Nat.le_refl _) (by omega) (fun i j a b => by omega) fun m' a b hS st => ?_
  by_cases e : m' = n
  · subst e
    rw [if_pos (by simp)]
    exact h _ _ ok (by omega) (Nat.le_refl _) hS
  · rw [if_neg (by simpa using e)]
    by_cases e1 : m' > 1
    · rw [if_pos e1]
      refine ask_at hc (by omega) ok (G := fun c s' => (if c = true then KasT.ret (m', p) else kas_descPart m' n (kas_rev p 0 m')).kasWp cmp G s') ?_
      rw [decide_eq_true (hS 0 (m' - 1) (by omega) (by omega)), if_pos rfl]
      exact h _ _ ok (by omega) (by omega) hS
    · rw [if_neg e1]
      have : m' = 1 := by omega
      subst this
      unfold kas_descPart
      rw [KasT.kasWp_bind]
      have st1 := st (by omega)
      refine desc hc hK ok (n - (1 + 1)) (1 + 1) (by omega) (by omega) (fun i j hij hj => ?_) fun m' a b hD => ?_
      · have h1 : j = 1 := by omega
        have h2 : i = 0 := by omega
        subst h1; subst h2
        exact st1
      · rw [if_neg (by simp)]
        unfold kas_tail3
        rw [KasT.kasWp_bind]
        have ok2 : Ok n (kas_rev p 0 m') := ok.of (mirror_perm _ _ _ _)
        refine asc hc hK ok2 (n - m') m' (by omega) (by omega) (fun i j hij hj => ?_) fun m2 a2 b2 hS2 _ => ?_
        · rw [rev_key hc hK ok (by omega), rev_key hc hK ok (by omega), if_pos (by omega), if_pos hj]
          exact hD _ _ (by omega) (by omega)
        · exact h m2 _ ok2 (by omega) (by omega) hS2
theorem place (ok : Ok n p) {k : Nat} (hk : k < n) (hS : S K p k) : ∀ (f l r : Nat) {G : Nat → Shared → Prop}, l ≤ r → r ≤ k → r - l ≤ f → (∀ i, i < l → key K p i < key K p k) → (∀ i, r ≤ i → i < k → key K p k < key K p i) →
    (∀ l', l' ≤ k → (∀ i, i < l' → key K p i < key K p k) → (∀ i, l' ≤ i → i < k → key K p k < key K p i) → G l' s) → (kas_place p k f l r).kasWp cmp G s
  | 0, l, r, G, h1, h2, h3, ha, hb, h => h l (by omega) ha fun i x y => hb i (by omega) y
  | f + 1, l, r, G, h1, h2, h3, ha, hb, h => by
    unfold kas_place
    by_cases e : l ≥ r
    · rw [if_pos e]
      exact h l (by omega) ha fun i x y => hb i (by omega) y
    · rw [if_neg e]
      refine ask_at hc (by omega) ok (G := fun c s' => (if c = true then kas_place p k f l ((l + r) / 2) else kas_place p k f ((l + r) / 2 + 1) r).kasWp cmp G s') ?_
      have hmid : (l + r) / 2 < k := by omega
      generalize hm : (l + r) / 2 = mid at *
      by_cases q : key K p k < key K p mid
      · rw [decide_eq_true q, if_pos rfl]
        refine place ok hk hS f l mid (by omega) (by omega) (by omega) ha (fun i x y => ?_) h
        by_cases z : i = mid
        · subst z; exact q
        · have := hS mid i (by omega) y
          omega
      · rw [decide_eq_false q, if_neg (by simp)]
        have q' := lt_of_not hc hK ok hk (by omega) (by omega) q
        refine place ok hk hS f (mid + 1) r (by omega) h2 (by omega) (fun i x => ?_) hb h
        by_cases z : i = mid
        · subst z; exact q'
        · have := hS i mid (by omega) hmid
          omega
theorem bub_key {k l : Nat} (ok : Ok n p) (hk : k < n) (hl : l ≤ k) (i : Nat) : key K (bubble p k (k - l)) i = if i = l then key K p k else if l < i ∧ i ≤ k then key K p (i - 1) else key K p i := by
  unfold key
  rw [getElem?_bubble (by rw [ok.size]; exact hk) _ (Nat.sub_le _ _)]
  rw [show k - (k - l) = l by omega]
  split
  · rfl
  · split <;> rfl
theorem bin : ∀ (f k : Nat) (p : Array Nat) {G : Array Nat → Shared → Prop}, Ok n p → 1 ≤ k → k + f = n → S K p k → (∀ p', Ok n p' → S K p' n → G p' s) → (kas_bin f p k).kasWp cmp G s
  | 0, k, p, G, ok, h1, h2, hS, h => h p ok (by have : k = n := by omega
                                                subst this; exact hS)
  | f + 1, k, p, G, ok, h1, h2, hS, h => by
    unfold kas_bin
    rw [KasT.kasWp_bind]
    refine place hc hK ok (by omega) hS k 0 k (by omega) (Nat.le_refl _) (by omega) (fun i x => by omega) (fun i x y => by omega) fun l hl ha hb => ?_
    refine bin f (k + 1) _ (ok.of (bubble_perm _ _ _)) (by omega) (by omega) (fun i j hij hj => ?_) h
    rw [bub_key hc hK ok (by omega) hl, bub_key hc hK ok (by omega) hl]
    by_cases c1 : i = l
    · rw [if_pos c1]
      rw [if_neg (by omega), if_pos (by omega)]
      exact hb _ (by omega) (by omega)
    · rw [if_neg c1]
      by_cases c2 : j = l
      · rw [if_pos c2, if_neg (by omega)]
        exact ha _ (by omega)
      · rw [if_neg c2]
        by_cases c3 : l < i ∧ i ≤ k
        · rw [if_pos c3, if_pos (by omega)]
          exact hS _ _ (by omega) (by omega)
        · rw [if_neg c3]
          by_cases c4 : l < j ∧ j ≤ k
          · rw [if_pos c4]
            by_cases c5 : i = j - 1
            · omega
            · exact hS _ _ (by omega) (by omega)
          · rw [if_neg c4]
            exact hS _ _ hij (by omega)
theorem sorts {G : Array Nat → Shared → Prop} (h1 : 1 ≤ n) (h : ∀ p, Ok n p → S K p n → G p s) : (kas_sort n).kasWp cmp G s := by
  unfold kas_sort
  rw [KasT.kasWp_bind]
  refine count hc hK (p := (List.range n).toArray) ⟨by simp⟩ h1 fun m p' ok a b hS => ?_
  show (if m < n then kas_bin (n - max m 1) p' (max m 1) else KasT.ret p').kasWp cmp G s
  by_cases e : m < n
  · rw [if_pos e, show max m 1 = m by omega]
    exact bin hc hK (n - m) m p' ok a (by omega) hS h
  · rw [if_neg e]
    have : m = n := by omega
    subst this
    exact h p' ok hS
end
end ST


set_option linter.all false
set_option maxRecDepth 1000000
set_option maxHeartbeats 4000000
namespace ST
open PySem PySem.W PyProof.Rows
def pk (p : Int × Int) : Int := 6 * p.1 + p.2
def Tp (h : Heap) (v : Value) (p : Int × Int) : Prop := ∃ t o k u1 u2, v = .ref t ∧ h.get? t = some o ∧ o.cls = .type "tuple" ∧ o.data = .seq #[.int p.1 u1, .int p.2 u2] k
def Tps (h : Heap) (vs : List Value) (ps : List (Int × Int)) : Prop := vs.length = ps.length ∧ ∀ i v, vs[i]? = some v → Tp h v (ps.getD i (0, 0))
theorem Tp.kp {h h' : Heap} {v : Value} {p : Int × Int} (x : Tp h v p) (k : ∀ b o, o.cls = .type "tuple" → h.get? b = some o → h'.get? b = some o) : Tp h' v p := by
  obtain ⟨t, o, n, u1, u2, e, ho, hc, hd⟩ := x
  exact ⟨t, o, n, u1, u2, e, k _ _ hc ho, hc, hd⟩
section
variable {prog : Program} {w : World} {A : Around} {E : Value → Shared → Prop} {s : Shared}
theorem lt_pair {x y : Value} {p q : Int × Int} {C : Bool → Shared → Prop} (hx : Tp s.heap x p) (hy : Tp s.heap y q) (bp : 0 ≤ p.2 ∧ p.2 < 6) (bq : 0 ≤ q.2 ∧ q.2 < 6) (h : C (decide (pk p < pk q)) s) :
    wpAny (model prog w) A (keyLt' (tuples' true) x y) C E s := by
  obtain ⟨t, o, n, u1, u2, rfl, ho, hc, hd⟩ := hx
  obtain ⟨t', o', n', w1, w2, rfl, ho', hc', hd'⟩ := hy
  refine kat_lt ho hd ho' hd' ?_
  show KatLex prog w A true (decide (2 < 2)) C [(.int p.1 u1, .int q.1 w1), (.int p.2 u2, .int q.2 w2)] 0 s
  refine kat_cons (wpAny_eqBool_int ?_)
  refine kat_go (fun e1 => kat_yes (kat_cons (wpAny_eqBool_int ?_))) (fun e1 => kat_no ?_)
  · have e1 : p.1 = q.1 := by simpa using e1
    refine kat_go (fun e2 => kat_yes (kat_nil ?_)) (fun e2 => kat_no ?_)
    · have e2 : p.2 = q.2 := by simpa using e2
      have : decide (pk p < pk q) = decide (2 < 2) := by unfold pk; rw [e1, e2]; simp
      rw [← this]; exact h
    · refine kat_one _ _ (PyProof.Rows.lt_int ?_)
      have : decide (pk p < pk q) = decide (p.2 < q.2) := by
        rw [decide_eq_decide]; unfold pk; omega
      show C (decide (p.2 < q.2)) s
      rw [← this]; exact h
  · have e1 : ¬ p.1 = q.1 := by simpa using e1
    refine oneLt_int ?_
    have : decide (pk p < pk q) = decide (p.1 < q.1) := by
      rw [decide_eq_decide]; unfold pk; omega
    rw [← this]; exact h
theorem tups_of {h : Heap} : ∀ {vs : List Value} {ps : List (Int × Int)}, Tps h vs ps → ∃ fs, KatTups h vs fs ∧ fs.length = vs.length ∧ ∀ v ∈ fs, ∃ i t, v = .int i t
  | [], ps, _ => ⟨[], KatTups.nil, rfl, by simp⟩
  | v :: vs, [], x => by have := x.1; simp at this
  | v :: vs, p :: ps, x => by
    obtain ⟨fs, t, l, q⟩ := tups_of (h := h) (vs := vs) (ps := ps) ⟨by have := x.1; simpa using this, fun i v e => by simpa using x.2 (i + 1) v (by simpa using e)⟩
    obtain ⟨t0, o, n, u1, u2, rfl, ho, hc, hd⟩ := x.2 0 v (by simp)
    refine ⟨.int _ u1 :: fs, KatTups.cons ho hc hd rfl t, by simp [l], ?_⟩
    intro z hz
    rcases List.mem_cons.mp hz with rfl | hz
    · exact ⟨_, _, rfl⟩
    · exact q z hz
theorem list_sort_pairs {a : Addr} {vs : List Value} {ps : List (Int × Int)} {n : Nat} {P : PySem.Fin → Shared → Prop} (ho : s.heap.get? a = some (seqObj "list" vs.toArray n)) (hT : Tps s.heap vs ps) (nd : ps.Nodup)
    (hb : ∀ p ∈ ps, 0 ≤ p.2 ∧ p.2 < 6) (h64 : vs.length < 64)
    (h : ∀ q : List Nat, q.Perm (List.range vs.length) → (q.map fun i => ps.getD i (0, 0)).Pairwise (fun x y => pk x < pk y) → P (.done (.ret .none)) { s with heap := sortedHeap s.heap a vs (q.map fun i => vs.getD i Value.none).toArray }) :
    wpAny (model prog w) A (Builtin.«list.sort» ⟨[.ref a], []⟩) P E s := by
  rw [list_sort_plain]
  have hls : vs.length ≤ sizeLine := by rw [sizeLine_eq]; omega
  refine wpAny_bind (listItems_at ho rfl (wpAny_bind ?_))
  refine (listUpdate_at ho rfl ?_ (by rw [List.size_toArray]; omega) (Nat.zero_le _))
  obtain ⟨ea0, oa0⟩ : ∃ ea0, (s.heap.update a (Obj.mapSeq fun _ => #[])).get? a = some (seqObj "list" #[] ea0) := ⟨_, get?_update_seq ho (fun _ => #[])⟩
  refine wpAny_bind (seqEpoch_at oa0 rfl ?_)
  refine wpAny_bind (wpAny_newTuple ?_ (by show vs.length ≤ _; omega))
  refine wpAny_bind (wpAny_newList ?_ (Nat.zero_le _))
  refine wpAny_holding ?_
  have kq0 : ∀ b o, b ≠ a → s.heap.get? b = some o → (((s.heap.update a (Obj.mapSeq fun _ => #[])).push (seqObj "tuple" vs.toArray 0)).push (seqObj "list" #[] 0)).get? b = some o := fun b o hne q =>
    Heap.get?_push_of_some _ (Heap.get?_push_of_some _ (by rw [Heap.get?_update_ne _ _ _ _ hne]; exact q))
  have og0 : (((s.heap.update a (Obj.mapSeq fun _ => #[])).push (seqObj "tuple" vs.toArray 0)).push (seqObj "list" #[] 0)).get? a = some (seqObj "list" #[] ea0) :=
    Heap.get?_push_of_some _ (Heap.get?_push_of_some _ oa0)
  have hT6 : Tps (((s.heap.update a (Obj.mapSeq fun _ => #[])).push (seqObj "tuple" vs.toArray 0)).push (seqObj "list" #[] 0)) vs ps := ⟨hT.1, fun i v e => (hT.2 i v e).kp fun b o hcl q => kq0 b o (fun z => by
    subst z; rw [ho] at q; cases q; exact absurd hcl (by simp [seqObj])) q⟩
  show wpAny (model prog w) _ _ P _ { s with heap := ((s.heap.update a (Obj.mapSeq fun _ => #[])).push (seqObj "tuple" vs.toArray 0)).push (seqObj "list" #[] 0) }
  dsimp only
  have zq0 : vs.toArray.size = vs.length := by simp
  by_cases hq2 : vs.toArray.size < 2
  · rw [if_pos hq2, if_pos hq2]
    refine wpAny_bind (wpAny_pure ?_)
    rw [StateT.run_pure]
    refine wpAny_bind (wpAny_pure ?_)
    dsimp only
    refine wpAny_bind (seqEpoch_at og0 rfl ?_)
    refine wpAny_bind (listUpdate_at og0 rfl ?_ (Nat.zero_le _) (by rw [Array.size_map]; show (pairsOf vs).size ≤ _; rw [pairsOf_size]; omega))
    simp only [bne_self_eq_false, Bool.false_eq_true, if_false]
    have hq := h (List.range vs.length) (List.Perm.refl _) ?_
    · have e : (arrOf (SortSt.mk' general' (vs.toArray.zip vs.toArray) #[] 7 none)).map (·.2) = ((List.range vs.length).map fun i => vs.getD i Value.none).toArray := by
        show (vs.toArray.zip vs.toArray).map (·.2) = _
        match vs, hq2 with
        | [], _ => apply Array.toList_inj.mp; simp
        | [v], _ => apply Array.toList_inj.mp; simp [List.range_succ]
        | _ :: _ :: _, hq2 => exact absurd hq2 (by simp)
      refine wpAny_pure ?_
      rw [e]
      exact hq
    · match vs, hq2 with
      | [], _ => exact List.Pairwise.nil
      | [v], _ => exact List.pairwise_singleton _ _
      | _ :: _ :: _, hq2 => exact absurd hq2 (by simp)
  · rw [if_neg hq2, if_neg hq2]
    obtain ⟨fs, hfs, hfl, hfi⟩ := tups_of hT6
    rw [zq0] at hq2
    refine wpAny_bind (kat_kind hfs (by omega) (T := .type "int") (fun v hv => ?_) rfl ?_)
    · obtain ⟨i, t, rfl⟩ := hfi v hv
      exact Looks.of_pure rfl
    · show wpAny (model prog w) A _ P E _
      have hinj : ∀ i j, i < vs.length → j < vs.length → pk (ps.getD i (0, 0)) = pk (ps.getD j (0, 0)) → i = j := by
        intro i j hi hj e
        have hi' : i < ps.length := by rw [← hT.1]; exact hi
        have hj' : j < ps.length := by rw [← hT.1]; exact hj
        have g1 : ps.getD i (0, 0) = ps[i] := by rw [List.getD_eq_getElem?_getD, List.getElem?_eq_getElem hi']; rfl
        have g2 : ps.getD j (0, 0) = ps[j] := by rw [List.getD_eq_getElem?_getD, List.getElem?_eq_getElem hj']; rfl
        rw [g1, g2] at e
        have b1 := hb _ (List.getElem_mem hi')
        have b2 := hb _ (List.getElem_mem hj')
        unfold pk at e
        have e2 : ps[i] = ps[j] := Prod.ext (by omega) (by omega)
        exact (List.getElem_inj nd).mp e2
      refine wpAny_bind (wpAny_mono (kat_run (ks := vs) (vs := vs) (κ := tuples' true)
        (Q := fun st' s' => s' = { s with heap := ((s.heap.update a (Obj.mapSeq fun _ => #[])).push (seqObj "tuple" vs.toArray 0)).push (seqObj "list" #[] 0) } ∧ ∃ p : Array Nat, Ok vs.length p ∧ S (fun i => pk (ps.getD i (0, 0))) p vs.length ∧ arrOf st' = p.map (kas_item (vs.toArray.zip vs.toArray)) ∧ failedOf st' = none)
        (G := fun p s' => s' = { s with heap := ((s.heap.update a (Obj.mapSeq fun _ => #[])).push (seqObj "tuple" vs.toArray 0)).push (seqObj "list" #[] 0) } ∧ Ok vs.length p ∧ S (fun i => pk (ps.getD i (0, 0))) p vs.length)
        rfl (by omega) h64 (fun p st' s' a1 a2 a3 a4 => ⟨a4.1, p, a4.2.1, a4.2.2, a2, a3⟩) ?run) ?post fun _ _ e => e)
      case run =>
        refine sorts (n := vs.length) (K := fun i => pk (ps.getD i (0, 0))) (fun i j C hi hj hC => ?_) hinj (by omega) fun p ok sS => ⟨rfl, ok, sS⟩
        unfold kas_ask
        have hi' : i < ps.length := by rw [← hT.1]; exact hi
        have hj' : j < ps.length := by rw [← hT.1]; exact hj
        refine lt_pair (hT6.2 i _ ?_) (hT6.2 j _ ?_) (hb _ ?_) (hb _ ?_) hC
        · rw [List.getD_eq_getElem?_getD, List.getElem?_eq_getElem hi]; rfl
        · rw [List.getD_eq_getElem?_getD, List.getElem?_eq_getElem hj]; rfl
        · rw [List.getD_eq_getElem?_getD, List.getElem?_eq_getElem hi']; exact List.getElem_mem hi'
        · rw [List.getD_eq_getElem?_getD, List.getElem?_eq_getElem hj']; exact List.getElem_mem hj'
      case post =>
        rintro ⟨⟨⟩, st'⟩ s' ⟨rfl, p, ok, sS, har, hf⟩
        dsimp only
        have hout := kat_snds (ks := vs) (vs := vs) rfl har
        have hpz : (List.toArray (p.toList.map fun i => vs.getD i Value.none)).size = vs.length := by rw [List.size_toArray, List.length_map, Array.length_toList, ok.size]
        rw [hout]
        refine wpAny_bind (seqEpoch_at og0 rfl ?_)
        refine wpAny_bind (listUpdate_at og0 rfl ?_ (Nat.zero_le _) (by omega))
        rw [hf]
        simp only [bne_self_eq_false, Bool.false_eq_true, if_false]
        refine wpAny_pure (h p.toList ok.perm ?_)
        rw [List.pairwise_map, List.pairwise_iff_getElem]
        intro i j hi hj hij
        have := sS i j hij (by rw [← ok.size]; simpa using hj)
        unfold key at this
        have hi2 : i < p.size := by simpa using hi
        have hj2 : j < p.size := by simpa using hj
        rw [Array.getElem?_eq_getElem hi2, Array.getElem?_eq_getElem hj2] at this
        simpa using this
theorem sorted_pairs {l : Addr} {vs : List Value} {ps : List (Int × Int)} {Q : Value → Shared → Prop} (hl : s.heap.IsList l vs.toArray) (hT : Tps s.heap vs ps) (nd : ps.Nodup) (hb : ∀ p ∈ ps, 0 ≤ p.2 ∧ p.2 < 6) (h64 : vs.length < 64)
    (h : ∀ q : List Nat, q.Perm (List.range vs.length) → (q.map fun i => ps.getD i (0, 0)).Pairwise (fun x y => pk x < pk y) → Q (.ref (s.heap.objs.size + 1)) { s with heap := sortedAll s.heap vs (q.map fun i => vs.getD i Value.none).toArray }) :
    wpAny (model prog w) A (call (.builtin "sorted") [.ref l]) Q E s := by
  refine Calls.call_function_entry kind_sorted plain_sorted entry_sorted (args_sorted1 _) ?_
  unfold Builtin.«sorted»
  refine wpAny_bind (m := checkCount "sorted" 1 1 _) (wpAny_pure (wpAny_bind (collect_list hl (wpAny_bind (wpAny_newList ?_ (by rw [sizeLine_eq]; omega))) (by rw [sizeLine_eq]; omega))))
  have zq0 : ((s.heap.push (seqObj "list" #[] 0)).update s.heap.objs.size (Obj.mapSeq (· ++ vs.toArray))).objs.size = s.heap.objs.size + 1 := by
    rw [Heap.size_update, size_push']
  have oq0 : (((s.heap.push (seqObj "list" #[] 0)).update s.heap.objs.size (Obj.mapSeq (· ++ vs.toArray))).push (seqObj "list" vs.toArray 0)).get? (s.heap.objs.size + 1) = some (seqObj "list" vs.toArray 0) := by
    rw [← zq0]; exact Heap.get?_push_size _ rfl
  have kq0 : ∀ b o, s.heap.get? b = some o → (((s.heap.push (seqObj "list" #[] 0)).update s.heap.objs.size (Obj.mapSeq (· ++ vs.toArray))).push (seqObj "list" vs.toArray 0)).get? b = some o := fun b o q => by
    have lq0 : b < s.heap.objs.size := Heap.lt_size q
    rw [Heap.get?_push_ne _ _ _ (by rw [zq0]; exact Nat.ne_of_lt (Nat.lt_succ_of_lt lq0)), Heap.get?_update_ne _ _ _ _ (Nat.ne_of_lt lq0), Heap.get?_push_ne _ _ _ (Nat.ne_of_lt lq0)]
    exact q
  show wpAny (model prog w) _ _ _ _ { s with heap := ((s.heap.push (seqObj "list" #[] 0)).update s.heap.objs.size (Obj.mapSeq (· ++ vs.toArray))).push (seqObj "list" vs.toArray 0) }
  rw [zq0]
  refine wpAny_bind (wpAny_holding (wpAny_call_entry slot_list_sort ⟨_, oq0, rfl⟩ entry_list_sort (list_sort_pairs (ps := ps) oq0 ⟨hT.1, fun i v e => (hT.2 i v e).kp fun b o _ q => kq0 b o q⟩ nd hb h64 fun q a1 a2 => ⟨_, rfl, ?_⟩) (args_list_sort _)))
  exact wpAny_pure ⟨_, rfl, h q a1 a2⟩
end
end ST


set_option linter.all false
set_option maxRecDepth 1000000
set_option maxHeartbeats 4000000
namespace L2
open PySem PySem.Spec PyProof.Rows
variable {X : Cx}
def rSortP (K : PySem.W.Frag) : List V → Hp → VK → Prop := fun xs H Q => ∃ (a : Addr) (us : List V) (ps : List (Int × Int)), xs = [.ref a] ∧ SqL K H a us ∧ Prs K H us ps ∧ ps.Nodup ∧ (∀ p ∈ ps, 0 ≤ p.2 ∧ p.2 < 6) ∧ ps.length < 64 ∧
  ∀ (r : Addr) (q : List Nat), H r = none → q.Perm (List.range ps.length) → (q.map fun i => ps.getD i (0, 0)).Pairwise (fun x y => ST.pk x < ST.pk y) → Q (.ref r) (upd H r (.lst (q.map fun i => us.getD i .non)))
theorem vals_pick {us : List V} {vs : List Value} (r : Vals us vs) : ∀ (q : List Nat), (∀ i ∈ q, i < us.length) → Vals (q.map fun i => us.getD i .non) (q.map fun i => vs.getD i Value.none)
  | [], _ => .nil
  | i :: q, h => by
    have hi := h i List.mem_cons_self
    obtain ⟨u, eu, ru⟩ := r.get (List.getElem?_eq_getElem hi)
    refine .cons ?_ (vals_pick r q fun j hj => h j (List.mem_cons_of_mem _ hj))
    dsimp only
    rw [List.getD_eq_getElem?_getD, List.getElem?_eq_getElem hi, List.getD_eq_getElem?_getD, eu]
    exact ru
theorem call_sortP : CallR X (.builtin "sorted") (rSortP X.K) := by
  intro pins s σ H xs us Q I r h
  obtain ⟨a, ws, ps, rfl, hq, hP, nd, hb, h64, q⟩ := h
  obtain ⟨u, rfl, ru⟩ := Vals.one r
  cases ru
  obtain ⟨its, rv, p, hz⟩ := I.list hq
  have hlen : its.length = ps.length := rv.length.symm.trans (prs_len hP)
  refine ST.sorted_pairs (ps := ps) p.isList ⟨hlen, fun i v hv => ?_⟩ nd hb (by omega) fun qs h1 h2 => ?_
  · have hi : i < ws.length := by rw [rv.length]; exact (List.getElem?_eq_some_iff.mp hv).1
    obtain ⟨pr, t, e1, e2, hs⟩ := prs_get (i := i) hP (List.getElem?_eq_getElem hi)
    obtain ⟨u, eu, ru⟩ := rv.get (List.getElem?_eq_getElem hi)
    rw [hv] at eu; cases eu
    rw [e2] at ru
    cases ru
    obtain ⟨is, r2, ⟨o, ho, hcl, n, hd⟩, _⟩ := I.tuple hs
    obtain ⟨x, y, rfl, rx, ry⟩ := vals2 r2
    obtain ⟨t1, rfl⟩ := rx
    obtain ⟨t2, rfl⟩ := ry
    refine ⟨t, o, n, t1, t2, rfl, ho, hcl, ?_⟩
    rw [List.getD_eq_getElem?_getD, e1]
    exact hd
  · have hn : H (s.heap.objs.size + 1) = none := I.hok.fresh (Nat.le_succ _)
    obtain ⟨e, he⟩ := sortedAll_at s.heap its (qs.map fun i => its.getD i Value.none).toArray
    rw [hlen] at h1
    have hin : ∀ i ∈ qs, i < ws.length := fun i hi => by
      have := List.mem_range.mp (h1.mem_iff.mp hi)
      rw [prs_len hP]; exact this
    have hv := vals_pick rv qs hin
    have hz2 : (qs.map fun i => ws.getD i V.non).length ≤ sizeLine := by rw [List.length_map, h1.length_eq, List.length_range, sizeLine_eq]; omega
    refine ⟨.ref (s.heap.objs.size + 1), _, I.laid (t' := s.toks) (o := .lst (qs.map fun i => ws.getD i V.non)) (fun b o e => sortedAll_old e) (Nat.le_succ _) ?_, rfl, q _ qs hn h1 h2⟩
    exact ⟨hz2, _, e, hv, he⟩
end L2
namespace U
open PySem PySem.Spec PyProof.Rows L2
variable {B : Bs} {X : Cx} {a b : Expr} {ta tb : TE'} {pos : Pos}
def uSortP : List PV → PHp → VK' → Prop := arg1 fun x H Q => match x with
  | .ref a => ∃ ps : List (Int × Int), H a = some (.lst (ps.map prV)) ∧ ps.Nodup ∧ (∀ p ∈ ps, 0 ≤ p.2 ∧ p.2 < 6) ∧ ps.length < 64 ∧ ∀ (r : Addr) (qs : List (Int × Int)), H r = none → qs.Perm ps → qs.Pairwise (fun x y => ST.pk x < ST.pk y) → Q (.ref r) (put H r (.lst (qs.map prV)))
  | _ => False
theorem rps_pick {K : PySem.W.Frag} {H : Hp} {ps : List (Int × Int)} {us : List V} (r : RPs K H (ps.map prV) us) : ∀ (q : List Nat), (∀ i ∈ q, i < ps.length) → RPs K H ((q.map fun i => ps.getD i (0, 0)).map prV) (q.map fun i => us.getD i V.non)
  | [], _ => RPs.nil _
  | i :: q, h => by
    have hi := h i List.mem_cons_self
    obtain ⟨u, eu, ru⟩ := RPs.get _ (i := i) (x := prV ps[i]) r (by rw [List.getElem?_map, List.getElem?_eq_getElem hi]; rfl)
    refine RPs.cons _ ?_ (rps_pick r q fun j hj => h j (List.mem_cons_of_mem _ hj))
    dsimp only
    rw [List.getD_eq_getElem?_getD, List.getElem?_eq_getElem hi, List.getD_eq_getElem?_getD, eu]
    exact ru
theorem pick_perm {α : Type} (l : List α) (d : α) {q : List Nat} (h : q.Perm (List.range l.length)) : (q.map fun i => l.getD i d).Perm l := by
  refine (h.map _).trans ?_
  have : (List.range l.length).map (fun i => l.getD i d) = l := by
    apply List.ext_getElem
    · simp
    · intro i h1 h2
      simp [List.getD_eq_getElem?_getD, List.getElem?_eq_getElem h2]
  rw [this]
theorem vc_sortP {K : PySem.W.Frag} : VC K B uSortP (rSortP K) := by
  intro σ' σ H' H xs' xs Q' Q s r h k
  obtain ⟨x', x, rfl, rfl, rx, h⟩ := arg1.ex h r
  cases x' with
  | ref a =>
    obtain ⟨ps, ea, nd, hb, h64, q⟩ := h
    simp only [RP] at rx
    subst rx
    obtain ⟨us, e, r2⟩ := s.hp _ _ ea
    refine ⟨a, us, ps, rfl, .inl (.inl e), prs_of r2, nd, hb, h64, fun r qs hr h1 h2 => ?_⟩
    have hin : ∀ i ∈ qs, i < ps.length := fun i hi => List.mem_range.mp (h1.mem_iff.mp hi)
    exact k _ _ _ _ (q r _ (s.hp.free hr) (pick_perm ps (0, 0) h1) h2) (by simp [RP]) (s.new hr (newL hr (rps_pick r2 qs hin))) (Ev.new hr)
  | _ => exact h.elim
def uReverse : PV → List PV → PHp → VK' → Prop := fun x vs H Q => match x, vs with
  | .ref a, [] => ∃ l, H a = some (.lst l) ∧ Q .non (put H a (.lst l.reverse))
  | _, _ => False
def uClear : PV → List PV → PHp → VK' → Prop := fun x vs H Q => match x, vs with
  | .ref a, [] => ∃ l, H a = some (.lst l) ∧ Q .non (put H a (.lst []))
  | _, _ => False
theorem vm_clear {K : PySem.W.Frag} : VM K B uClear rClear := by
  intro σ' σ H' H x' xs' x xs Q' Q s rx r h k
  unfold uClear at h
  split at h
  · rename_i a
    obtain ⟨l, e, h⟩ := h
    obtain ⟨us, q, r2⟩ := s.hp _ _ e
    simp only [RP, RPs] at rx r
    subst rx; subst r
    exact ⟨a, us, rfl, rfl, q, k _ _ _ _ h (by simp [RP]) (s.wr e (wrL s.hp e (RPs.nil _))) (Ev.wr e)⟩
  · exact h.elim
theorem hl_clear : ∀ x H Q, uClear x [] H Q → match x with | .ref a => ∃ l, H a = some (.lst l) | _ => False := by
  intro x H Q h
  cases x with
  | ref a => obtain ⟨l, e, _⟩ := h; exact ⟨l, e⟩
  | _ => exact h
def uInsert : PV → List PV → PHp → VK' → Prop := fun x vs H Q => match x, vs with
  | .ref a, [.int i, y] => ∃ l, H a = some (.lst l) ∧ 0 ≤ i ∧ i.toNat ≤ l.length ∧ l.length < 1000 ∧ Q .non (put H a (.lst (l.take i.toNat ++ y :: l.drop i.toNat)))
  | _, _ => False
theorem w_rv {a : Addr} {H : PHp} {Q : VK'} : uReverse (.ref a) [] H Q = ∃ l, H a = some (.lst l) ∧ Q .non (put H a (.lst l.reverse)) := rfl
theorem w_cl {a : Addr} {H : PHp} {Q : VK'} : uClear (.ref a) [] H Q = ∃ l, H a = some (.lst l) ∧ Q .non (put H a (.lst [])) := rfl
theorem w_in {a : Addr} {i : Int} {y : PV} {H : PHp} {Q : VK'} : uInsert (.ref a) [.int i, y] H Q = ∃ l, H a = some (.lst l) ∧ 0 ≤ i ∧ i.toNat ≤ l.length ∧ l.length < 1000 ∧ Q .non (put H a (.lst (l.take i.toNat ++ y :: l.drop i.toNat))) := rfl
end U
namespace U
open PySem PySem.Spec PyProof.Rows L2
theorem qe_globE {B : Bs} {X : Cx} {x : Str} {v' : PV} {v : V} {pos : Pos} (hg : Gl X x) (h : ∃ u, X.mg x = some u ∧ RelV v u) (r' : ∀ H, RP X.K H v' v) (hd : (x == ("__debug__" : Str)) = false := by decide) : PE' X B (.Name x pos) (uC v') := by
  obtain ⟨u, hm, r⟩ := h
  exact qe_glob hg hm r r' hd
theorem comp_pure {ok : PHp → Prop} {g : TG'} {tt : TT'} {te : TE'} {acc : Addr} {Q : VK'} {H1 : PHp} {xs : List PV} (f : PV → PV) (pz : PV → Bool) (Iv : St' → Prop) (hlen : xs.length ≤ 1000) (hok : ∀ l, ok (put H1 acc (.lst l)))
    (hs : ∀ x ∈ xs, ∀ (l : List PV) (σ : St') (R : St' → PHp → Prop), Iv σ → l.length < sizeLine → (pz x = true → ∀ σ3, Iv σ3 → R σ3 (put H1 acc (.lst (l ++ [f x])))) → (pz x = false → ∀ σ3, Iv σ3 → R σ3 (put H1 acc (.lst l))) →
      g x σ (put H1 acc (.lst l)) fun σ3 H2 => tt σ3 H2 fun b H3 => cif b (te σ3 H3 fun y H4 => ∃ l', H4 acc = some (.lst l') ∧ l'.length < sizeLine ∧ R σ3 (put H4 acc (.lst (l' ++ [y])))) (R σ3 H3))
    (hq : Q (.ref acc) (put H1 acc (.lst ((xs.filter pz).map f)))) {σ : St'} (h0 : Iv σ) : uCompL ok g tt te acc Q xs σ (put H1 acc (.lst [])) := by
  have key : ∀ (r d : List PV) (σ : St'), xs = d ++ r → Iv σ → uCompL ok g tt te acc Q r σ (put H1 acc (.lst ((d.filter pz).map f))) := by
    intro r
    induction r with
    | nil =>
      intro d σ e hv
      have : d = xs := by rw [e, List.append_nil]
      subst this
      exact ⟨hok _, hq⟩
    | cons x r ih =>
      intro d σ e hv
      have hd : ((d.filter pz).map f).length < sizeLine := by
        have h1 : d.length + (r.length + 1) = xs.length := by rw [e, List.length_append, List.length_cons]
        have h2 := List.length_filter_le pz d
        have := small1000 (n := 1000) (by decide)
        rw [List.length_map]
        omega
      refine ⟨hok _, hs x (by rw [e]; simp) _ σ _ hv hd (fun hp σ3 h3 => ?_) (fun hp σ3 h3 => ?_)⟩
      · have := ih (d ++ [x]) σ3 (by rw [e]; simp) h3
        rw [List.filter_append, List.map_append] at this
        simpa [hp] using this
      · have := ih (d ++ [x]) σ3 (by rw [e]; simp) h3
        rw [List.filter_append, List.map_append] at this
        simpa [hp] using this
  exact key xs [] σ rfl h0
end U
namespace U
open PySem PySem.Spec PyProof.Rows L2
theorem w_fl {C : Addr} {f : Str} {a : Addr} {H : PHp} {Q : VK'} : fldOf C f (.ref a) H Q = ∃ dx fs v, H a = some (.ins C dx fs) ∧ fs.lookup f = some v ∧ Q v H := rfl
theorem w_sf {C : Addr} {f : Str} {a : Addr} {y : PV} {H : PHp} {Q : PHp → Prop} : stFld C f (.ref a) y H Q = ∃ dx fs, H a = some (.ins C dx fs) ∧ fs.length < 1000 ∧ Q (put H a (.ins C dx (putU f y fs))) := rfl
theorem w_ii {C : Addr} {m : Str} {a : Addr} {H : PHp} : isIn C m (.ref a) H = ∃ dx fs, H a = some (.ins C dx fs) ∧ fs.lookup m = none := rfl
theorem w_al {a : Addr} {H : PHp} {Q : VK'} : uAll [.ref a] H Q = ∃ bs : List Bool, H a = some (.lst (bs.map PV.bl)) ∧ Q (.bl (bs.all id)) H := rfl
theorem w_ls {a : Addr} {H : PHp} {Q : VK'} : lenSet (.ref a) H Q = ∃ ps : List (Int × Int), H a = some (.lst (ps.map prV)) ∧ ps.Nodup ∧ (∀ p ∈ ps, p ∈ SP.prs) ∧ ps.length ≤ 15 ∧ Q (.int ps.length) H := rfl
theorem w_sp {a : Addr} {H : PHp} {Q : VK'} : uSortP [.ref a] H Q = ∃ ps : List (Int × Int), H a = some (.lst (ps.map prV)) ∧ ps.Nodup ∧ (∀ p ∈ ps, 0 ≤ p.2 ∧ p.2 < 6) ∧ ps.length < 64 ∧ ∀ (r : Addr) (qs : List (Int × Int)), H r = none → qs.Perm ps → qs.Pairwise (fun x y => ST.pk x < ST.pk y) → Q (.ref r) (put H r (.lst (qs.map prV))) := rfl
end U


set_option linter.all false
set_option maxRecDepth 1000000
set_option maxHeartbeats 4000000
namespace SI
open PySem
def tb (led : Bool) (L : List Nat) : SetTable := { mask := if L.length ≤ 4 then 7 else 31, place := L.toArray, dummies := #[], finger := 0, led := led, moves := if L.length ≤ 4 then 0 else 1, plain := true }
def pos (L : List Nat) (x : Nat) : Nat := (L.filter (· < x)).length
def ins (L : List Nat) (x : Nat) : List Nat := L.take (pos L x) ++ x :: L.drop (pos L x)
section
variable {prog : Program} {w : World} {A : Around} {E : Value → Shared → Prop} {s : Shared}
end
end SI


set_option linter.all false
set_option maxRecDepth 1000000
set_option maxHeartbeats 4000000
namespace SI
open PySem
theorem erase_perm {α : Type} : ∀ (l : List α) (i : Nat) (h : i < l.length), (l[i] :: l.eraseIdx i).Perm l
  | x :: l, 0, _ => List.Perm.refl _
  | x :: l, i + 1, h => by
    have ih := erase_perm l i (by simpa using h)
    have h' : i < l.length := by simpa using h
    show (l[i] :: x :: l.eraseIdx i).Perm (x :: l)
    exact (List.Perm.swap _ _ _).trans (ih.cons x)
theorem pick_perm {α : Type} (next : Nat → Nat) : ∀ (f k : Nat) (l : List α) (out : Array α), f = l.length → (pickOrder.go next f k l out).toList.Perm (out.toList ++ l)
  | 0, k, l, out, h => by
    have : l = [] := List.length_eq_zero_iff.mp h.symm
    subst this
    show out.toList.Perm _
    rw [List.append_nil]
  | f + 1, k, l, out, h => by
    have hlt : next k % l.length < l.length := Nat.mod_lt _ (by omega)
    unfold pickOrder.go
    rw [List.getElem?_eq_getElem hlt]
    dsimp only
    refine (pick_perm next f (k + 1) _ _ (by rw [List.length_eraseIdx_of_lt hlt]; omega)).trans ?_
    rw [Array.toList_push, List.append_assoc]
    refine List.Perm.append_left _ ?_
    exact erase_perm l _ hlt
def walk (w : World) (S : Addr) (es : Array (Int × Value)) (ep : Nat) : Array (Int × Value) := if w.params.followText "set-order" = true then pickOrder (w.params.setOrder S ep) es else es
section
variable {prog : Program} {w : World} {A : Around} {E : Value → Shared → Prop} {s : Shared}
end
end SI


set_option linter.all false
set_option maxRecDepth 1000000
set_option maxHeartbeats 4000000
namespace SI
open PySem PyProof.Rows
section
variable {prog : Program} {w : World} {A : Around} {E : Value → Shared → Prop} {s : Shared}
end
end SI


set_option linter.all false
set_option maxRecDepth 1000000
set_option maxHeartbeats 4000000
namespace L2
open PySem PySem.Spec PyProof.Rows
variable {X : Cx}
end L2
namespace U
open PySem PySem.Spec PyProof.Rows L2
variable {B : Bs} {X : Cx} {e : Expr} {ta : TE'} {p p2 pos pos2 : Pos}
end U
namespace L2
open PySem PySem.Spec PyProof.Rows
variable {X : Cx} {tg : Expr}
end L2
namespace U
open PySem PySem.Spec PyProof.Rows L2
variable {B : Bs} {X : Cx} {a b c : Expr} {pos : Pos}
def uExtT : PV → List PV → PHp → VK' → Prop := fun x vs H Q => match x, vs with
  | .ref a, [.tup m] => ∃ l, H a = some (.lst l) ∧ l.length + m.length ≤ sizeLine ∧ Q .non (put H a (.lst (l ++ m)))
  | _, _ => False
theorem w_et {a : Addr} {m : List PV} {H : PHp} {Q : VK'} : uExtT (.ref a) [.tup m] H Q = ∃ l, H a = some (.lst l) ∧ l.length + m.length ≤ sizeLine ∧ Q .non (put H a (.lst (l ++ m))) := rfl
end U


set_option linter.all false
set_option maxRecDepth 1000000
set_option maxHeartbeats 4000000 -- own
namespace L2
open PySem PySem.Spec PyProof.Rows
variable {X : Cx} {tg : Expr}
def ItS (st lo : Int) (n : Nat) : It := ⟨fun i _ => i < n, fun i H x H' => H' = H ∧ x = .int (lo + st * i), fun i _ => n ≤ i⟩
theorem turn_by3 {P : Program} {w : World} {K : PySem.W.Frag} (it : Addr) (st lo : Int) (n : Nat) : Turn P w K tg (ItS st lo n) [it] it (fun i h => IsRangeIter h it (lo + (i : Nat) * st) ((n : Int) - (i : Nat)) st) where
  mem := by simp
  obj := fun i h sw b hb => by
    have q : b = it := by simpa using hb
    subst q
    exact ⟨_, sw, fun v z => by
      have z' : Data.fields _ = Data.cell v := z
      cases z'⟩
  keep := fun i h h' sw k => k it (by simp) _ sw
  item := by
    intro X hP hw hK hc i pins s σ H E I hf sw hg
    subst hP hw hK
    obtain ⟨f0, f1, f2, f3, f4, f5⟩ := hf it (by simp)
    have W := Walks.range (prog := X.prog) (w := X.w) (I.ok.hd hc) it lo st n
    refine W.item i s _ _ hg sw fun v h' tk hv sw' kk => ?_
    obtain ⟨t, rfl⟩ := hv
    have J : Inv X pins σ H { s with heap := h', toks := tk } := I.turned (fun b o hb e => kk b o (by simpa using hb) e) f0 f1 f3 f4 f5
    refine ⟨_, rfl, go_of (s := { s with heap := h', toks := tk }) (n := "range_iterator") sw' rfl rfl (by decide) ⟨.int (lo + st * i), H, J, ⟨t, ?_⟩, ⟨rfl, rfl⟩, sw', fun b hb => (hf b hb).1⟩⟩
    rw [Int.mul_comm]
  done := by
    intro X hP hw hK hc i pins s σ H E I hf sw hg
    subst hP hw hK
    obtain ⟨f0, f1, f2, f3, f4, f5⟩ := hf it (by simp)
    exact wpAny_pyNext_range_end (I.ok.hd hc) sw (by have q : n ≤ i := hg; omega) fun h' eb => ⟨rfl, I.turned (t' := s.toks) (fun b o hb e => eb b o hb e) f0 f1 f3 f4 f5⟩
  self := fun _ _ _ _ _ sw h => wpAny_pyIter_rangeiter sw h
def byS (st lo hi : Int) : Nat := ((hi - lo + (st - 1)) / st).toNat
def iBy3 (ta : TA) : TI := fun σ H R => ta σ H fun vs H1 => ∃ lo hi st : Int, vs = [.int lo, .int hi, .int st] ∧ (st = 2 ∨ st = 3) ∧ 0 ≤ lo ∧ lo < 1000 ∧ 0 ≤ hi ∧ hi < 1000 ∧ R (ItS st lo (byS st lo hi)) H1
theorem by3_size {st lo hi : Int} (z : st = 2 ∨ st = 3) : Builtin.Range.rangeSize lo hi st = (byS st lo hi : Nat) := by
  rcases z with rfl | rfl <;> unfold Builtin.Range.rangeSize byS <;> rw [if_pos (by decide)] <;> split <;> omega
theorem by3_small {st lo hi : Int} (z : st = 2 ∨ st = 3) (h1 : 0 ≤ lo) (h2 : lo < 1000) (h3 : 0 ≤ hi) (h4 : hi < 1000) : Builtin.Range.small lo hi st = true := by
  unfold Builtin.Range.small
  rw [by3_size z]
  have : byS st lo hi ≤ 600 := by rcases z with rfl | rfl <;> unfold byS <;> omega
  generalize byS st lo hi = n at this
  simp only [Builtin.Range.rangeFitsLong, Bool.and_eq_true, Bool.or_eq_true, decide_eq_true_eq, beq_iff_eq]
  rcases z with rfl | rfl
  all_goals
   refine ⟨⟨⟨⟨by omega, by omega⟩, by decide⟩, by omega⟩, ?_⟩
   refine .inr ?_
   rw [if_pos (by decide), Bool.and_eq_true, decide_eq_true_eq, decide_eq_true_eq]
   exact ⟨by omega, by omega⟩
theorem pi_by3 {a b c : Expr} {ta : TA} {p pos : Pos} (hg : Gl X "range") (hm : X.mg "range" = none) (ha : PA X [a, b, c] ta) (hs : starEach [a, b, c] X.env = [(false, eval a X.env), (false, eval b X.env), (false, eval c X.env)] := by rfl)
    (hs2 : starEach [b, c] X.env = [(false, eval b X.env), (false, eval c X.env)] := by rfl) : PI X tg (.Call (.Name "range" p) [a, b, c] [] pos) (iBy3 ta) := by
  intro pins s σ H R I h
  refine Call_ (ld_blt I hg hm boot_range (PyProof.Rows.callWith_type1 (thn (ha pos pins s σ H _ I h) fun us s1 ⟨vs, H1, I1, r1, q1⟩ => ?_) (by rw [hs, hs2]) (by rw [hs2]; rfl)))
  obtain ⟨lo, hi, st, e, z, q1, q2, q3, q4, q⟩ := q1
  subst e
  cases r1 with
  | cons r rr =>
    cases rr with
    | cons r' rr =>
      cases rr with
      | cons r'' rr =>
        cases rr
        obtain ⟨t, rfl⟩ := r
        obtain ⟨t', rfl⟩ := r'
        obtain ⟨t'', rfl⟩ := r''
        refine call_range_3 (by rcases z with rfl | rfl <;> decide) ?_ (Or.inl (PyProof.noPylong_of_log2 (by rcases z with rfl | rfl <;> decide +kernel)))
        generalize hh : s1.heap.push { cls := .type "range", data := .fields #[.int lo t, .int hi t', .int st t''] } = h2
        have I2 : Inv X pins σ H1 { s1 with heap := h2 } := by rw [← hh]; exact I1.kept (t' := s1.toks) fun b o e => Heap.get?_push_of_some _ e
        refine wpAny_pyIter_range (s := { s1 with heap := h2, toks := s1.toks }) (by rw [← hh]; exact IsRange.new ..) (by3_small z q1 q2 q3 q4) ?_
        refine ⟨h2.objs.size, [h2.objs.size], _, _, H1, rfl, I2.kept (t' := s1.toks) fun b o e => Heap.get?_push_of_some _ e, turn_by3 _ st lo (byS st lo hi), ?_, fun b hb => ?_, q⟩
        · show IsRangeIter _ _ (lo + ((0 : Nat) : Int) * st) (((byS st lo hi : Nat) : Int) - ((0 : Nat) : Int)) st
          have e1 : lo + ((0 : Nat) : Int) * st = lo := by simp
          have e2 : ((byS st lo hi : Nat) : Int) - ((0 : Nat) : Int) = Builtin.Range.rangeSize lo hi st := by rw [by3_size z]; omega
          rw [e1, e2]
          exact Heap.get?_push_size _ rfl
        · have e : b = h2.objs.size := by simpa using hb
          subst e
          exact I2.fpOk (Nat.le_refl _) (I2.hok.fresh (Nat.le_refl _))
end L2
namespace U
open PySem PySem.Spec PyProof.Rows L2
variable {B : Bs} {X : Cx} {a b c : Expr} {pos : Pos}
def by3L (st lo : Int) (n : Nat) : List PV := (List.range n).map fun k => PV.int (lo + st * (k : Nat))
theorem walks_by3 {K : PySem.W.Frag} {H1 : Hp} {st lo : Int} {n : Nat} : Walks K H1 (ItS st lo n) ⟨by3L st lo n, fun _ => True⟩ where
  go := fun H' H i _ _ _ hi => by
    have q : i < n := by simpa [by3L] using hi
    exact q
  yld := fun H' H i x H2 _ _ _ y => by
    obtain ⟨rfl, rfl⟩ := y
    refine ⟨rfl, fun x' hx => ?_⟩
    unfold by3L at hx
    rw [List.getElem?_map] at hx
    cases q : (List.range n)[i]? with
    | none => rw [q] at hx; cases hx
    | some j =>
      rw [q] at hx
      have : j = i := by
        have := (List.getElem?_eq_some_iff.mp q).2
        simpa using this.symm
      subst this
      cases hx
      simp [RP]
  stop := fun H' H i _ _ _ hi => by
    have q : n ≤ i := by simpa [by3L] using hi
    exact q
def step3 (vs : List PV) (H1 : PHp) (R : It' → PHp → Prop) : Prop := match vs with
  | [.int lo, .int hi, .int f] => (f = 2 ∨ f = 3) ∧ 0 ≤ lo ∧ lo < 1000 ∧ 0 ≤ hi ∧ hi < 1000 ∧ R ⟨by3L f lo (byS f lo hi), fun _ => True⟩ H1
  | _ => False
theorem w_s3 {lo hi f : Int} {H1 : PHp} {R : It' → PHp → Prop} : step3 [.int lo, .int hi, .int f] H1 R = ((f = 2 ∨ f = 3) ∧ 0 ≤ lo ∧ lo < 1000 ∧ 0 ≤ hi ∧ hi < 1000 ∧ R ⟨by3L f lo (byS f lo hi), fun _ => True⟩ H1) := rfl
def uBy3 (t : TA') : TI' := fun σ H R => t σ H fun vs H1 => step3 vs H1 R
theorem qi_by3 {tg : Expr} {t : TA'} {p : Pos} (hg : Gl X "range") (hm : X.mg "range" = none) (ha : PA' X B [a, b, c] t) (hs : starEach [a, b, c] X.env = [(false, eval a X.env), (false, eval b X.env), (false, eval c X.env)] := by rfl)
    (hs2 : starEach [b, c] X.env = [(false, eval b X.env), (false, eval c X.env)] := by rfl) : PI' X B tg (.Call (.Name "range" p) [a, b, c] [] pos) (uBy3 t) :=
  pi_imp (pi_by3 hg hm ha hs hs2) fun σ H R ⟨σ', H', R', s, h, k⟩ => by
    refine ⟨σ', H', _, s, h, fun vs' H1' vs H1 h1 r1 s1 e1 => ?_⟩
    unfold step3 at h1
    split at h1
    · rename_i lo hi f
      obtain ⟨z, h2, h3, h4, h5, q⟩ := h1
      simp only [RPs, RP] at r1
      obtain ⟨u, r, rfl, rfl, u2, r2, rfl, rfl, u3, r3, rfl, rfl, rfl⟩ := r1
      exact ⟨lo, hi, f, rfl, z, h2, h3, h4, h5, k _ _ _ _ q walks_by3 s1 e1⟩
    · exact h1.elim
end U


set_option linter.all false
set_option maxRecDepth 1000000
set_option maxHeartbeats 4000000 -- own
namespace L2
open PySem PySem.Spec PyProof.Rows
variable {X : Cx}
theorem pre_take (ns : List Int) : ∀ i, i ≤ ns.length → preSum (fun j => ns.getD j 0) i = (ns.take i).sum
  | 0, _ => by simp [preSum]
  | i + 1, h => by
    have hi : i < ns.length := by omega
    rw [preSum, pre_take ns i (by omega), List.take_succ, List.getElem?_eq_getElem hi, List.sum_append]
    simp [List.getD_eq_getElem?_getD, List.getElem?_eq_getElem hi]
theorem call_sumI (hc : X.calm = true) : CallR X (.builtin "sum") (fun xs H Q => ∃ (a : Addr) (ns : List Int), xs = [.ref a] ∧ SqL X.K H a (ns.map V.int) ∧ Q (.int ns.sum) H) := by
  intro pins s σ H xs us Q I r h
  obtain ⟨a, ns, rfl, hq, q⟩ := h
  obtain ⟨u, rfl, ru⟩ := Vals.one r
  cases ru
  obtain ⟨its, rv, p, hz⟩ := I.list hq
  have hl : s.heap.IsList a its.toArray := p.isList
  have llt : a < s.heap.objs.size := by obtain ⟨o, e, _⟩ := hl; exact Heap.lt_size e
  have hne : a ≠ s.heap.objs.size := Nat.ne_of_lt llt
  have hlen : its.length = ns.length := by have := Paired.length rv; rw [List.length_map] at this; exact this.symm
  refine call_sum_walkAnyS (wpAny_pyIter_list hl ?_)
  refine ⟨s.heap.objs.size, [s.heap.objs.size, a], [s.heap.objs.size], _, its.toArray.size, _, _, fun i => ns.getD i 0, rfl, (Walks.list (by simpa using I.ok.hd hc) _ a hne _).toS, ⟨⟨_, Heap.get?_push_size _ rfl, rfl, rfl⟩, hl.at fun o e => Heap.get?_push_of_some _ e⟩, fun b hb => ?_, fun i v hv => ?_, fun s' t' hm => ?_⟩
  · rw [Heap.size_push]
    simp only [List.mem_cons, List.not_mem_nil, or_false] at hb
    rcases hb with e | e
    · rw [e]; exact Nat.lt_succ_self _
    · rw [e]; exact Nat.lt_succ_of_lt llt
  · have hv' : its[i]? = some v := by simpa using hv
    have hi : i < ns.length := by rw [← hlen]; exact (List.getElem?_eq_some_iff.mp hv').1
    obtain ⟨u, eu, ru⟩ := rv.get (List.getElem?_eq_getElem (by rw [List.length_map]; exact hi))
    rw [hv'] at eu
    cases eu
    rw [List.getElem_map] at ru
    obtain ⟨tk, rfl⟩ := ru
    refine ⟨tk, ?_⟩
    show _ = Value.int (ns.getD i 0) tk
    rw [List.getD_eq_getElem?_getD, List.getElem?_eq_getElem hi]
    rfl
  · have e : preSum (fun i => ns.getD i 0) its.toArray.size = ns.sum := by
      rw [List.size_toArray, hlen, pre_take ns ns.length (Nat.le_refl _), List.take_length]
    rw [e, Moved.eq_with hm]
    refine ⟨.int ns.sum, H, I.kept (t' := s'.toks) fun b o e => ?_, ⟨_, rfl⟩, q⟩
    exact hm.heap b o (by simpa using Nat.ne_of_lt (Heap.lt_size e)) (Heap.get?_push_of_some _ e)
end L2
namespace U
open PySem PySem.Spec PyProof.Rows L2
variable {B : Bs} {X : Cx} {a b : Expr} {ta tb : TE'} {pos : Pos}
def uSum : List PV → PHp → VK' → Prop := arg1 fun x H Q => match x with
  | .ref a => ∃ ns : List Int, H a = some (.lst (ns.map PV.int)) ∧ Q (.int ns.sum) H
  | _ => False
theorem w_su {a : Addr} {H : PHp} {Q : VK'} : uSum [.ref a] H Q = ∃ ns : List Int, H a = some (.lst (ns.map PV.int)) ∧ Q (.int ns.sum) H := rfl
theorem vc_sum {K : PySem.W.Frag} : VC K B uSum (fun xs H Q => ∃ (a : Addr) (ns : List Int), xs = [.ref a] ∧ SqL K H a (ns.map V.int) ∧ Q (.int ns.sum) H) := by
  intro σ' σ H' H xs' xs Q' Q s r h k
  obtain ⟨x', x, rfl, rfl, rx, h⟩ := arg1.ex h r
  cases x' with
  | ref a =>
    obtain ⟨ns, ea, q⟩ := h
    simp only [RP] at rx
    subst rx
    obtain ⟨us, e, r2⟩ := s.hp _ _ ea
    rw [rps_ints r2] at e
    exact ⟨a, ns, rfl, .inl (.inl e), k _ _ _ _ q (by simp [RP]) s (Ev.refl _ _)⟩
  | _ => exact h.elim
def uMin : List PV → PHp → VK' → Prop := fun xs H Q => match xs with
  | [.int i, .int j] => Q (.int (if j < i then j else i)) H
  | _ => False
theorem w_mi {i j : Int} {H : PHp} {Q : VK'} : uMin [.int i, .int j] H Q = Q (.int (if j < i then j else i)) H := rfl
theorem vc_min {K : PySem.W.Frag} : VC K B uMin (fun xs H Q => ∃ i j, xs = [.int i, .int j] ∧ Q (.int (if j < i then j else i)) H) := by
  intro σ' σ H' H xs' xs Q' Q s r h k
  unfold uMin at h
  split at h
  · rename_i i j
    simp only [RPs, RP] at r
    obtain ⟨_, _, rfl, rfl, _, _, rfl, rfl, rfl⟩ := r
    exact ⟨i, j, rfl, k _ _ _ _ h (by simp [RP]) s (Ev.refl _ _)⟩
  · exact h.elim
end U


set_option linter.all false
set_option maxRecDepth 1000000
set_option maxHeartbeats 4000000 -- own
namespace L2
open PySem PySem.Spec PyProof.Rows
variable {X : Cx}
theorem cat_none {prog : Program} {w : World} {A : Around} {E : Value → Shared → Prop} {s : Shared} {t b : Addr} {ws : List Value} {Q : Value → Shared → Prop} (ht : IsTup s.heap t ([] : List Value).toArray) (hb : IsTup s.heap b ws.toArray) (h : Q (.ref b) s) : wpAny (model prog w) A (binaryOp .Add (.ref t) (.ref b)) Q E s := by
  obtain ⟨⟨cls, dd, data, sl⟩, g, hc, n, g2⟩ := id ht
  obtain ⟨⟨cls2, dd2, data2, sl2⟩, k, hc2, n2, k2⟩ := id hb
  simp only at hc g2 hc2 k2
  subst hc g2 hc2 k2
  exact concat_meets ⟨_, g, rfl⟩ ⟨_, k, rfl⟩ noFill_tuple_add seq_tuple_add PySem.F.slot_tuple_add PySem.F.entry_tuple_add (PySem.F.args_tuple_add_2 _ _) (tuple_addW0 t b _ ws.toArray n n2 dd dd2 sl sl2 rfl) ⟨g, k, h⟩
def rCatA (K : PySem.W.Frag) : R2 := fun x y H Q => ∃ a b xs ys, x = .ref a ∧ y = .ref b ∧ SqT K H a xs ∧ SqT K H b ys ∧ xs.length + ys.length ≤ sizeLine ∧ (xs = [] → Q (.ref b) H) ∧ (ys = [] → Q (.ref a) H) ∧ (ys ≠ [] → ∀ p, H p = none → Q (.ref p) (upd H p (.tup (xs ++ ys))))
theorem op_catA : OpR X (binaryOp .Add) (rCatA X.K) := by
  intro pins s σ H x y v u Q I rx ry h
  obtain ⟨a, b, xs, ys, rfl, rfl, ha, hb, hz, q0, q1, q2⟩ := h
  by_cases e : xs = []
  · cases rx
    cases ry
    subst e
    obtain ⟨its, r1, p1, _⟩ := I.tuple ha
    obtain ⟨its2, r2, p2, _⟩ := I.tuple hb
    cases r1
    exact cat_none p1 p2 ⟨.ref b, H, I, rfl, q0 rfl⟩
  · exact op_catT pins s σ H _ _ v u Q I rx ry ⟨a, b, xs, ys, rfl, rfl, ha, hb, e, hz, q1, q2⟩
end L2
namespace U
open PySem PySem.Spec PyProof.Rows L2
variable {B : Bs} {X : Cx} {a b : Expr} {ta tb : TE'} {pos : Pos}
def uCatT : R2' := fun x y H Q => match x, y with
  | .tup l, .tup m => l.length + m.length ≤ sizeLine ∧ Q (.tup (l ++ m)) H
  | _, _ => False
theorem w_cT {l m : List PV} {H : PHp} {Q : VK'} : uCatT (.tup l) (.tup m) H Q = (l.length + m.length ≤ sizeLine ∧ Q (.tup (l ++ m)) H) := rfl
theorem vr_catT {K : PySem.W.Frag} : VR K B uCatT (rCatA K) := by
  intro σ' σ H' H x' y' x y Q' Q s rx ry h k
  unfold uCatT at h
  split at h
  · rename_i l m
    obtain ⟨hl, q⟩ := h
    have rx' := rx
    have ry' := ry
    simp only [RP] at rx ry
    obtain ⟨a, us, rfl, ha, r1⟩ := rx
    obtain ⟨b, ws, rfl, hb, r2⟩ := ry
    have l1 := RPs.length _ r1
    have l2 := RPs.length _ r2
    refine ⟨a, b, us, ws, rfl, rfl, ha, hb, by rw [l1, l2]; exact hl, fun e => ?_, fun e => ?_, fun e p hp => ?_⟩
    · have : l = [] := List.length_eq_zero_iff.mp (by rw [← l1, e]; rfl)
      rw [this, List.nil_append] at q
      exact k _ _ _ _ q ry' s (Ev.refl _ _)
    · have : m = [] := List.length_eq_zero_iff.mp (by rw [← l2, e]; rfl)
      rw [this, List.append_nil] at q
      exact k _ _ _ _ q rx' s (Ev.refl _ _)
    · exact k _ _ _ _ q (newT hp (RPs.append _ r1 r2)) (s.hid hp) (Ev.hid hp)
  · exact h.elim
theorem qe_catT (ha : PE' X B a ta) (hb : PE' X B b tb) : PE' X B (.BinOp a .Add b pos) (uOp uCatT ta tb) := qe_op op_catA vr_catT ha hb
end U


set_option linter.all false
set_option maxRecDepth 1000000
set_option maxHeartbeats 4000000 -- own
namespace RL
open PySem PyProof.Rows
variable {prog : Program} {w : World} {A : Around} {E : Value → Shared → Prop} {s : Shared} {it l : Addr} {items : Array Value}
theorem no_len : typeLookup (.type "list_reverseiterator") "__len__" = pure none := by rw [typeLookup_type, builtinLookup_eq_fast]; kernel_rfl
theorem has_hint : typeLookup (.type "list_reverseiterator") "__length_hint__" = pure (some (.builtin "list_reverseiterator.__length_hint__")) := by rw [typeLookup_type, builtinLookup_eq_fast]; kernel_rfl
theorem hint {Q : Bool → Shared → Prop} (ty : s.TypeIs (.ref it) "list_reverseiterator") (h : Q false s) : wpAny (model prog w) A (Builtin.List.listLengthHint (.ref it)) Q E s := by
  unfold Builtin.List.listLengthHint
  refine wpAny_bind (wpAny_specialOf ty no_len ?_)
  dsimp only
  refine wpAny_ite_split (fun hab => absurd hab (by decide +kernel)) (fun _ => ?_)
  refine wpAny_ite_split (fun hab => absurd hab (by decide +kernel)) (fun _ => ?_)
  refine wpAny_bind (wpAny_specialOf ty has_hint ?_)
  generalize hid : ("list_reverseiterator.__length_hint__" : String) = id0
  wp_delta
  rw [show splitId id0 = some ("list_reverseiterator", "__length_hint__") from by subst hid; decide +kernel]
  subst hid
  refine wpAny_bind (wpAny_isInstance (T := "list_reverseiterator") (b := true) ty (by rw [isSubtype_type]; kernel_rfl) ?_)
  refine wpAny_ite_split (fun hab => absurd hab (by decide)) (fun _ => ?_)
  refine wpAny_ite_split (fun _ => ?_) (fun hab => absurd (by decide +kernel) hab)
  refine wpAny_ite_split (fun hab => absurd hab (by decide +kernel)) (fun _ => ?_)
  exact wpAny_pure h
theorem extend {R : Result → Shared → Prop} (hh : A.handled = none) (hit : s.heap.IsRevIter it l ((items.size : Int) - 1)) (hl : s.heap.IsList l items) (hne : l ≠ it) (S : Addr) (hSi : S ≠ it) (hSl : S ≠ l) (res : Value) (c₀ : Nat) (hS : s.heap.get? S = some { cls := .type "list", data := .seq #[] c₀ }) (hn : items.size ≤ sizeLine)
    (hR : ∀ h' tk acc c', (∀ b o, b ≠ S → b ≠ it → s.heap.get? b = some o → h'.get? b = some o) → h'.get? S = some { cls := .type "list", dict := none, data := .seq acc c', slots := #[] } → ItemsOf (fun i v => items[items.size - 1 - i]? = some v) acc items.size → R (.ok (.ret res)) { s with heap := h', toks := tk }) :
    wpAny (model prog w) A.in1 (Builtin.List.listExtendWith (.ref S) (.ref it) res)
      (fun fin s' => match fin with | .done f => R (.ok f) s' | .again c' => c'.quiet = true ∧ codeAny (model prog w) A c' R s') (fun e s' => R (.error e) s') s := by
  have W := Walks.listRev (prog := prog) (w := w) (A := A.in1) hh it l hne items
  have hSf : S ∉ [it, l] := by simp only [List.mem_cons, List.not_mem_nil, or_false, not_or]; exact ⟨hSi, hSl⟩
  have st : (0 : Nat) ≤ items.size ∧ s.heap.IsRevIter it l ((items.size : Int) - 1 - ((0 : Nat) : Int)) ∧ s.heap.IsList l items := ⟨Nat.zero_le _, by simpa using hit, hl⟩
  have ty := hit.typeIs
  have key : ∀ (h : Heap) (c₁ tk : Nat), ((0 : Nat) ≤ items.size ∧ h.IsRevIter it l ((items.size : Int) - 1 - ((0 : Nat) : Int)) ∧ h.IsList l items) → (∀ b o, b ≠ S → s.heap.get? b = some o → h.get? b = some o) →
      h.get? S = some { cls := .type "list", data := .seq #[] c₁ } → codeAny (model prog w) A (.builtin "list.extend.loop" ⟨[.ref S, .ref it, res], []⟩) R { s with heap := h, toks := tk } := by
    intro h c₁ tk hst hk hS₁
    refine codeAny_extend_loopS W.toS hn S hSf res items.size 0 _ #[] c₁ rfl (Nat.zero_le _) hst hS₁ (ItemsOf.nil _) fun s' acc' c' hm hS' hacc => ?_
    rw [Moved.eq_with hm]
    refine hR s'.heap s'.toks acc' c' (fun b o hb hb2 e => hm.heap b o (fun hmem => ?_) (hk b o hb e)) hS' hacc
    rcases List.mem_cons.mp hmem with e' | q
    · exact hb e'
    · exact hb2 (List.mem_singleton.mp q)
  unfold Builtin.List.listExtendWith
  refine wpAny_bind (wpAny_typeOf (T := "list_reverseiterator") ty ?_)
  have h1 : Builtin.List.listSameRef (.ref S) (.ref it) = false := by simp [Builtin.List.listSameRef, hSi]
  simp only [h1, show (Value.type "list_reverseiterator" == Value.type "list") = false by decide, show (Value.type "list_reverseiterator" == Value.type "tuple") = false by decide, Bool.or_false, Bool.false_eq_true, if_false]
  refine wpAny_bind (wpAny_pyIter_revIter hit ?_)
  refine wpAny_bind (wpAny_holding (hint ty ?_))
  refine wpAny_ite_split (fun hab => ?_) (fun _ => wpAny_pure ⟨plainId_quiet PySem.F.plain_extend_loop _, key s.heap c₀ s.toks st (fun b o _ e => e) hS⟩)
  exact absurd hab (by decide +kernel)
theorem init {R : Result → Shared → Prop} (hh : A.handled = none) (hit : s.heap.IsRevIter it l ((items.size : Int) - 1)) (hl : s.heap.IsList l items) (hne : l ≠ it) (S : Addr) (hSi : S ≠ it) (hSl : S ≠ l) (hS : s.heap.get? S = some { cls := .type "list", data := .seq #[] }) (hn : items.size ≤ sizeLine)
    (hR : ∀ h' tk acc c', (∀ b o, b ≠ S → b ≠ it → s.heap.get? b = some o → h'.get? b = some o) → h'.get? S = some { cls := .type "list", dict := none, data := .seq acc c', slots := #[] } → ItemsOf (fun i v => items[items.size - 1 - i]? = some v) acc items.size → R (.ok (.ret .none)) { s with heap := h', toks := tk }) :
    wpAny (model prog w) A.in1 (Builtin.«list.__init__» ⟨[.ref S, .ref it], []⟩)
      (fun fin s' => match fin with | .done f => R (.ok f) s' | .again c' => c'.quiet = true ∧ codeAny (model prog w) A c' R s') (fun e s' => R (.error e) s') s := by
  show wpAny _ _ (do let old ← Builtin.List.listItems (.ref S); Builtin.List.listUpdate (.ref S) (fun _ => #[]); letGo old.toList.reverse; Builtin.List.listExtendWith (.ref S) (.ref it) .none) _ _ s
  refine wpAny_bind ?_
  unfold Builtin.List.listItems
  refine wpAny_bind (wpAny_seqItems hS rfl (wpAny_pure ?_))
  show wpAny _ _ (Bind.bind (updateSeq S (fun _ => #[])) fun _ => Bind.bind (letGo (#[] : Array Value).toList.reverse) fun _ => Builtin.List.listExtendWith (.ref S) (.ref it) .none) _ _ s
  refine wpAny_bind (wpAny_updateSeq hS rfl ?_)
  have g2 := Heap.get?_update_self (Obj.mapSeq (fun _ => (#[] : Array Value))) hS rfl
  have oth : ∀ b o, b ≠ S → s.heap.get? b = some o → (s.heap.update S (Obj.mapSeq (fun _ => (#[] : Array Value)))).get? b = some o := fun b o hb e => (Heap.get?_update_other _ _ (Ne.symm hb)).trans e
  refine wpAny_bind (wpAny_letGo ?_)
  refine extend hh (hit.at fun o e => oth it o hSi.symm e) (hl.at fun o e => oth l o hSl.symm e) hne S hSi hSl .none _ g2 hn fun h' tk acc c' hk hS' hacc => ?_
  exact hR h' tk acc c' (fun b o hb hb2 e => hk b o hb hb2 (oth b o hb e)) hS' hacc
theorem call_list_rev {Q : Value → Shared → Prop} (hh : A.handled = none) (hit : s.heap.IsRevIter it l ((items.size : Int) - 1)) (hl : s.heap.IsList l items) (hne : l ≠ it) (hlt : it < s.heap.objs.size) (hlt2 : l < s.heap.objs.size) (hn : items.size ≤ sizeLine)
    (hQ : ∀ h' tk acc c', (∀ b o, b ≠ it → s.heap.get? b = some o → h'.get? b = some o) → h'.get? s.heap.objs.size = some { cls := .type "list", dict := none, data := .seq acc c', slots := #[] } → ItemsOf (fun i v => items[items.size - 1 - i]? = some v) acc items.size → Q (.ref s.heap.objs.size) { s with heap := h', toks := tk }) :
    wpAny (model prog w) A (call (.type "list") [.ref it]) Q E s := by
  refine callType_codes (Q₁ := fun obj s₁ => obj = .ref s.heap.objs.size ∧ s₁ = { s with heap := s.heap.push { cls := .type "list", data := .seq #[] } }) PySem.F.called_list (PySem.F.typeCall_list_1 _) PySem.F.entry_list_init (code_list_new _ ⟨rfl, rfl⟩) fun obj s₁ h₁ => ?_
  obtain ⟨rfl, rfl⟩ := h₁
  have hS : (s.heap.push { cls := .type "list", data := .seq #[] }).get? s.heap.objs.size = some { cls := .type "list", data := .seq #[] } := Heap.get?_push_size _ rfl
  refine ⟨⟨_, hS, rfl⟩, PySem.F.args_list_init_2 _ _, init (A := A.in1) hh (hit.at fun o e => Heap.get?_push_of_some _ e) (hl.at fun o e => Heap.get?_push_of_some _ e) hne _ (Nat.ne_of_gt hlt) (Nat.ne_of_gt hlt2) hS hn fun h' tk acc c' hk hS' hacc => ?_⟩
  exact ⟨rfl, hQ h' tk acc c' (fun b o hb e => hk b o (Nat.ne_of_lt (Heap.lt_size e)) hb (Heap.get?_push_of_some _ e)) hS' hacc⟩
end RL


set_option linter.all false
set_option maxRecDepth 1000000
set_option maxHeartbeats 4000000 -- own
namespace L2
open PySem PySem.Spec PyProof.Rows
variable {X : Cx} {a : Expr} {ta : TE} {p p2 pos pos2 : Pos}
theorem pd_app {α β : Type} {R : α → β → Prop} {l l2 : List α} {m m2 : List β} (h : Paired R l m) (h2 : Paired R l2 m2) : Paired R (l ++ l2) (m ++ m2) := by
  induction h with
  | nil => exact h2
  | cons a _ ih => exact .cons a ih
theorem vals_rev {us : List V} {its : List Value} (h : Vals us its) : Vals us.reverse its.reverse := by
  induction h with
  | nil => exact .nil
  | cons h t ih =>
    rw [List.reverse_cons, List.reverse_cons]
    exact pd_app ih (.cons h .nil)
theorem items_rev {its : List Value} {acc : Array Value} (h : ItemsOf (fun i v => its.toArray[its.toArray.size - 1 - i]? = some v) acc its.toArray.size) : acc.toList = its.reverse := by
  have h2 := h.2
  have h1 : acc.size = its.length := by have := h.1; simpa using this
  apply List.ext_getElem?
  intro j
  rw [Array.getElem?_toList]
  by_cases hj : j < acc.size
  · have e := h2 j _ (Array.getElem?_eq_getElem hj)
    rw [Array.getElem?_eq_getElem hj, List.getElem?_reverse (by omega), ← e, List.size_toArray]
    simp
  · rw [Array.getElem?_eq_none (by omega), List.getElem?_eq_none (by rw [List.length_reverse]; omega)]
def tRev (K : PySem.W.Frag) (ta : TE) : TE := fun σ H Q => ta σ H fun x H1 => ∃ b us, [x] = [V.ref b] ∧ SqL K H1 b us ∧ ∀ r, H1 r = none → Q (.ref r) (upd H1 r (.lst us.reverse))
theorem pe_rev (hc : X.calm = true) (hg : Gl X "list") (hm : X.mg "list" = none) (hg2 : Gl X "reversed") (hm2 : X.mg "reversed" = none) (b1 : bootBuiltins "list" = some (.type "list")) (b2 : bootBuiltins "reversed" = some (.type "reversed")) (ha : PE X a ta)
    (he : starEach [.Call (.Name "reversed" p2) [a] [] pos2] X.env = [(false, eval (.Call (.Name "reversed" p2) [a] [] pos2) X.env)] := by rfl) (he2 : starEach [a] X.env = [(false, eval a X.env)] := by rfl) (hpl : (backTo pos (starEach [] X.env)).any (·.1) = false := by rfl) (hpl2 : (backTo pos2 (starEach [] X.env)).any (·.1) = false := by rfl) :
    PE X (.Call (.Name "list" p) [.Call (.Name "reversed" p2) [a] [] pos2] [] pos) (tRev X.K ta) := by
  intro pins s σ H Q I h
  refine wpAny_Call_Name_kw (ld_blt I hg hm b1 ?_ (by decide) (by decide))
  refine PyProof.Rows.callWith_type1 ?_ he hpl
  rw [he]
  show wpAny _ _ (spliced ((false, eval (.Call (.Name "reversed" p2) [a] [] pos2) X.env) :: [])) _ _ s
  refine Calls.spliced_cons ?_
  refine wpAny_Call_Name_kw (ld_blt I hg2 hm2 b2 ?_ (by decide) (by decide))
  refine PyProof.Rows.callWith_type1 ?_ he2 hpl2
  refine thn (pa_cons ha pa_nil he2 pos2 pins s σ H (fun xs H1 => ∃ b us, xs = [.ref b] ∧ SqL X.K H1 b us ∧ ∀ r, H1 r = none → Q (.ref r) (upd H1 r (.lst us.reverse))) I ?_) fun us s1 ⟨vs, H1, I1, r1, q1⟩ => ?_
  · exact h
  obtain ⟨b, ws, rfl, hq, q⟩ := q1
  obtain ⟨u, rfl, ru⟩ := vals1 r1
  cases ru
  obtain ⟨its, rv, pl, hz⟩ := I1.list hq
  have hl : s1.heap.IsList b its.toArray := pl.isList
  have hb : b < s1.heap.objs.size := by obtain ⟨o, e, _⟩ := hl; exact Heap.lt_size e
  refine call_reversed_list hl ?_
  refine Calls.spliced_nil ?_
  have hlen := rv.length
  have lt : s1.heap.objs.size < (s1.heap.push (revObj b ((its.toArray.size : Int) - 1))).objs.size := by rw [Heap.size_push]; exact Nat.lt_succ_self _
  refine RL.call_list_rev (l := b) (items := its.toArray) (I.ok.hd hc) ⟨_, Heap.get?_push_size _ rfl, rfl, rfl⟩ (hl.at fun o e => Heap.get?_push_of_some _ e) (Nat.ne_of_lt hb) lt (Nat.lt_trans hb lt) (by simp only [List.size_toArray]; omega) fun h' tk acc c kp hS hacc => ?_
  have hle : s1.heap.objs.size ≤ (s1.heap.push (revObj b ((its.toArray.size : Int) - 1))).objs.size := Nat.le_of_lt lt
  refine ⟨.ref _, _, I1.laid (t' := tk) (o := .lst ws.reverse) (fun b o e => kp b o (Nat.ne_of_lt (Heap.lt_size e)) (Heap.get?_push_of_some _ e)) hle ?_, rfl, q _ (I1.hok.fresh hle)⟩
  refine ⟨by rw [List.length_reverse]; exact hz, its.reverse, c, vals_rev rv, ?_⟩
  rw [hS, ← items_rev hacc]
end L2
namespace U
open PySem PySem.Spec PyProof.Rows L2
variable {B : Bs} {X : Cx} {a : Expr} {ta : TE'} {p p2 pos pos2 : Pos}
def revA (x : PV) (H1 : PHp) (k : List PV → Prop) : Prop := match x with
  | .ref b => ∃ l, H1 b = some (.lst l) ∧ k l
  | _ => False
theorem w_rA {b : Addr} {H1 : PHp} {k : List PV → Prop} : revA (.ref b) H1 k = ∃ l, H1 b = some (.lst l) ∧ k l := rfl
def uRev (ta : TE') : TE' := fun σ H Q => ta σ H fun x H1 => revA x H1 fun l => ∀ r, H1 r = none → Q (.ref r) (put H1 r (.lst l.reverse))
theorem rps_rev {K : PySem.W.Frag} {H : Hp} : ∀ {l : List PV} {us : List V}, RPs K H l us → RPs K H l.reverse us.reverse
  | [], _, h => by simp only [RPs] at h; subst h; simp [RPs]
  | x :: l, _, h => by
    simp only [RPs] at h
    obtain ⟨u, r, rfl, a, b⟩ := h
    rw [List.reverse_cons, List.reverse_cons]
    exact RPs.append K (rps_rev b) (RPs.cons K a (RPs.nil K))
theorem qe_rev (hc : X.calm = true) (hg : Gl X "list") (hm : X.mg "list" = none) (hg2 : Gl X "reversed") (hm2 : X.mg "reversed" = none) (b1 : bootBuiltins "list" = some (.type "list")) (b2 : bootBuiltins "reversed" = some (.type "reversed")) (ha : PE' X B a ta)
    (he : starEach [.Call (.Name "reversed" p2) [a] [] pos2] X.env = [(false, eval (.Call (.Name "reversed" p2) [a] [] pos2) X.env)] := by rfl) (he2 : starEach [a] X.env = [(false, eval a X.env)] := by rfl) (hpl : (backTo pos (starEach [] X.env)).any (·.1) = false := by rfl) (hpl2 : (backTo pos2 (starEach [] X.env)).any (·.1) = false := by rfl) :
    PE' X B (.Call (.Name "list" p) [.Call (.Name "reversed" p2) [a] [] pos2] [] pos) (uRev ta) :=
  pe_imp (pe_rev hc hg hm hg2 hm2 b1 b2 ha he he2 hpl hpl2) fun σ H Q h => by
    obtain ⟨σ', H', Q', s, h, k⟩ := h
    refine ⟨σ', H', _, s, h, fun x' H1' x H1 h1 rx s1 e1 => ?_⟩
    cases x' with
    | ref b =>
      obtain ⟨l, eb, q⟩ := h1
      simp only [RP] at rx
      subst rx
      obtain ⟨us, e, r⟩ := s1.hp _ _ eb
      exact ⟨b, us, rfl, .inl (.inl e), fun r' hr => k _ _ _ _ (q r' (s1.hp.free hr)) (by simp [RP]) (s1.new hr (newL hr (rps_rev r))) (e1.trans (Ev.new hr))⟩
    | _ => exact h1.elim
end U


set_option linter.all false
set_option maxRecDepth 1000000
set_option maxHeartbeats 4000000
namespace U
open PySem PySem.Spec PyProof.Rows L2
variable {B : Bs} {X : Cx} {a b : Expr} {ta tb : TE'} {pos : Pos}
def uCat : R2' := fun x y H Q => match x, y with
  | .ref a, .ref b => ∃ l m, H a = some (.lst l) ∧ H b = some (.lst m) ∧ l.length + m.length ≤ sizeLine ∧ ∀ p, H p = none → Q (.ref p) (put H p (.lst (l ++ m)))
  | _, _ => False
theorem w_ca {a b : Addr} {H : PHp} {Q : VK'} : uCat (.ref a) (.ref b) H Q = ∃ l m, H a = some (.lst l) ∧ H b = some (.lst m) ∧ l.length + m.length ≤ sizeLine ∧ ∀ p, H p = none → Q (.ref p) (put H p (.lst (l ++ m))) := rfl
theorem vr_cat {K : PySem.W.Frag} : VR K B uCat rCat := by
  intro σ' σ H' H x' y' x y Q' Q s rx ry h k
  unfold uCat at h
  split at h
  · rename_i a b
    obtain ⟨l, m, e1, e2, hl, h⟩ := h
    simp only [RP] at rx ry
    subst rx; subst ry
    obtain ⟨us, q1, r1⟩ := s.hp _ _ e1
    obtain ⟨ws, q2, r2⟩ := s.hp _ _ e2
    refine ⟨a, b, us, ws, rfl, rfl, q1, q2, by rw [RPs.length _ r1, RPs.length _ r2]; exact hl, fun p hp => ?_⟩
    exact k _ _ _ _ (h p (s.hp.free hp)) (by simp [RP]) (s.new hp (newL hp (RPs.append _ r1 r2))) (Ev.new hp)
  · exact h.elim
theorem qe_cat (ha : PE' X B a ta) (hb : PE' X B b tb) : PE' X B (.BinOp a .Add b pos) (uOp uCat ta tb) := qe_op op_cat vr_cat ha hb
theorem w_si {a : Addr} {H : PHp} {Q : VK'} : uSortI [.ref a] H Q = ∃ ns : List Int, H a = some (.lst (ns.map PV.int)) ∧ ns.length < 64 ∧ ∀ (r : Addr) (ms : List Int), H r = none → ms.Perm ns → ms.Pairwise (· ≤ ·) → Q (.ref r) (put H r (.lst (ms.map PV.int))) := rfl
theorem cut_from (xs : List PV) (k : Nat) : cutP xs (some (k : Int)) none = xs.drop k := by
  unfold cutP
  rw [HT.sIx_nat, HT.sIx_none]
  rw [List.take_of_length_le (by rw [List.length_drop]; omega)]
  by_cases h : k ≤ xs.length
  · rw [Nat.min_eq_left h]
  · rw [Nat.min_eq_right (by omega), List.drop_length, List.drop_eq_nil_of_le (by omega)]
end U


set_option linter.all false
set_option maxRecDepth 1000000
set_option maxHeartbeats 4000000 -- own
namespace EN
open PySem
section
variable {prog : Program} {w : World} {A : Around} {E : Value → Shared → Prop} {s : Shared}
end
end EN


set_option linter.all false
set_option maxRecDepth 1000000
set_option maxHeartbeats 4000000 -- own
namespace L2
open PySem PySem.Spec PyProof.Rows
theorem cls_ne {h : Heap} {a b : Addr} {n m : String} {o u : Obj} (ha : h.get? a = some o) (hb : h.get? b = some u) (ca : o.cls = .type n) (cb : u.cls = .type m) (ne : (Value.type n : Value) ≠ .type m) : a ≠ b := by
  rintro rfl
  rw [ha] at hb; cases hb
  exact ne (ca.symm.trans cb)
section
variable {X : Cx}
theorem boot_en : bootBuiltins "enumerate" = some (.type "enumerate") := by decide +kernel
end
end L2
namespace U
open PySem PySem.Spec PyProof.Rows L2
variable {B : Bs} {X : Cx} {pos : Pos}
def numL (l : List PV) : List PV := l.mapIdx fun i x => .tup [.int (i : Nat), x]
def en1 (vs : List PV) (H1 : PHp) (R : It' → PHp → Prop) : Prop := match vs with
  | [.tup l] => R ⟨numL l, fun _ => True⟩ H1
  | _ => False
theorem w_en {l : List PV} {H : PHp} {R : It' → PHp → Prop} : en1 [.tup l] H R = R ⟨numL l, fun _ => True⟩ H := rfl
def uEn (t : TA') : TI' := fun σ H R => t σ H fun vs H1 => en1 vs H1 R
end U


set_option linter.all false
set_option maxRecDepth 1000000
set_option maxHeartbeats 4000000 -- own
namespace L2
open PySem PySem.Spec PyProof.Rows
section
variable {X : Cx} {pins : List (Addr × Obj)} {σ : St} {H : Hp} {s : Shared} {h' : Heap}
end
section
variable {X : Cx}
end
end L2
namespace U
open PySem PySem.Spec PyProof.Rows L2
variable {B : Bs} {X : Cx} {pos : Pos}
end U


set_option linter.all false
set_option maxRecDepth 1000000
set_option maxHeartbeats 4000000 -- own
namespace L2
open PySem PySem.Spec PyProof.Rows
def Itel (K : PySem.W.Frag) (a : Addr) : It :=
  ⟨fun i H => ∃ xs x, SqL K H a xs ∧ xs[i]? = some x, fun i H x H' => ∃ T y, H T = none ∧ x = .ref T ∧ H' = upd H T (.tup [.int (i : Nat), y]) ∧ ∀ xs, SqL K H a xs → xs[i]? = some y, fun i H => ∃ xs, SqL K H a xs ∧ xs.length = i⟩
theorem turn_enL {P : Program} {w : World} {K : PySem.W.Frag} {elts : List Expr} {k1} {tpos : Pos} (a it e : Addr) : Turn P w K (.Tuple elts k1 tpos) (Itel K a) [e, it] e (fun i h => (∃ old, IsEnum h e it (i : Nat) old) ∧ h.IsListIter it a i) where
  mem := by simp
  obj := fun i h st b hb => by
    obtain ⟨⟨old, he⟩, o, ho, hc, hd⟩ := st
    rcases List.mem_cons.mp hb with rfl | hb
    · exact ⟨_, he, fun v z => by
        have z' : Data.fields _ = Data.cell v := z
        cases z'⟩
    · rw [List.mem_singleton.mp hb]
      exact ⟨o, ho, fun v z => by rw [hd] at z; cases z⟩
  keep := fun i h h' st k => by
    obtain ⟨⟨old, he⟩, hi⟩ := st
    exact ⟨⟨old, k e (by simp) _ he⟩, hi.at fun o x => k it (by simp) o x⟩
  item := by
    intro X hP hw hK hc i pins s σ H E I hf st hg
    subst hP hw hK
    obtain ⟨xs, x, hq, hx⟩ := hg
    obtain ⟨its, rv, p, hz⟩ := I.list hq
    obtain ⟨u, hu, ru⟩ := rv.get hx
    obtain ⟨⟨old, he⟩, hi⟩ := st
    have p' : s.heap.IsList a its.toArray := p.isList
    obtain ⟨oa, ha, ca, _⟩ := id p'
    obtain ⟨oi, hoi, ci, _⟩ := id hi
    have nai : a ≠ it := cls_ne ha hoi ca ci (by decide)
    have nei : e ≠ it := cls_ne he hoi rfl ci (by decide)
    have nea : e ≠ a := cls_ne he ha rfl ca (by decide)
    refine wpAny_pyNext_enum_item (x := u) he hi p' (by simpa using hu) nei fun h1 ho hs1 hT hsz hk => ?_
    refine ⟨_, rfl, wpAny_letOwnedTupleGo_enum (s := { s with heap := h1, toks := s.toks + 1 }) ho fun h2 he2 sb => ?_⟩
    have sb2 : Heap.SameBut e h1 h2 := sb
    have hlte : e < s.heap.objs.size := Heap.lt_size he
    have hT2 : h2.get? s.heap.objs.size = some { cls := .type "tuple", data := .seq #[.int i s.toks, u] } := (sb2.2 _ (Nat.ne_of_gt hlte)).trans hT
    have kk : ∀ b o, b ≠ e → b ≠ it → s.heap.get? b = some o → h2.get? b = some o := fun b o n1 n2 q => (sb2.2 b n1).trans (hk b o n1 n2 q)
    have hn : H s.heap.objs.size = none := I.hok.fresh (Nat.le_refl _)
    have fe := hf e (by simp)
    have fi := hf it (by simp)
    have nit : ∀ b v, H b = some v → b ≠ e ∧ b ≠ it := fun b v q => ⟨fun z => (by rw [z, fe.1] at q; cases q), fun z => (by rw [z, fi.1] at q; cases q)⟩
    refine ⟨.ref s.heap.objs.size, upd H s.heap.objs.size (.tup [.int (i : Nat), x]), ?_, rfl, ⟨_, x, hn, rfl, rfl, fun ys hy' => by rw [I.list_inj hy' hq]; exact hx⟩, ⟨⟨u, by simpa using he2⟩, ?_⟩, fun b hb => ?_⟩
    · show Inv X pins σ _ { s with heap := h2, toks := s.toks + 1 }
      refine I.step (h' := h2) (g' := s.gens) (d' := s.drawn) (t' := s.toks + 1) (ch := [e, it]) (fun b hb => ?_) (fun b o _ _ hc q _ => kk b o (fun z => hc (by simp [z])) (fun z => hc (by simp [z])) q) (fun b o _ _ hc q _ => ⟨o.slots, kk b o (fun z => hc (by simp [z])) (fun z => hc (by simp [z])) q⟩)
        (fun b o _ q n => by rw [upd_ne (Nat.ne_of_lt (Heap.lt_size q))]; exact n) (fun b o hc q => ⟨o, kk b o (fun z => hc (by simp [z])) (fun z => hc (by simp [z])) q⟩) (fun b ys q => by rw [upd_ne (ne_of_none q hn)]; exact q) (fun b o v q => by rw [upd_ne (ne_of_none q hn)]; exact q)
        (fun b ps q => ⟨#[], by rw [upd_ne (ne_of_none q hn), q]; simp⟩) (fun m hm => ?_) (fun b v q => ?_) I.bare
      · rcases List.mem_cons.mp hb with rfl | hb
        · exact ⟨fe.2.2.2.1, fe.2.1, fe.2.2.2.2.1, fe.2.2.2.2.2⟩
        · rw [List.mem_singleton.mp hb]
          exact ⟨fi.2.2.2.1, fi.2.1, fi.2.2.2.2.1, fi.2.2.2.2.2⟩
      · obtain ⟨o, es, ep, q, r⟩ := hm
        exact ⟨o, es, ep, kk _ o (Ne.symm fe.2.1) (Ne.symm fi.2.1) q, r⟩
      · by_cases hb : b = s.heap.objs.size
        · subst hb
          rw [upd_same] at q; cases q
          exact ⟨by show 2 ≤ sizeLine; rw [sizeLine_eq]; omega, [.int i s.toks, u], .cons ⟨s.toks, rfl⟩ (.cons ru .nil), ⟨_, hT2, rfl, _, rfl⟩⟩
        · rw [upd_ne hb] at q
          refine (I.hok b v q).stay (fun c z hc q2 => ?_) (fun c q2 => by rw [upd_ne (ne_of_none q2 hn)]; exact q2) fun c ys q2 => by rw [upd_ne (ne_of_none q2 hn)]; exact q2
          have nn : c ≠ e ∧ c ≠ it := by
            rcases hc with z | z
            · rw [z]; exact nit b v q
            · exact nit c _ z
          exact kk c z nn.1 nn.2 q2
    · obtain ⟨o, q, r⟩ := hs1
      exact ⟨o, (sb2.2 _ (Ne.symm nei)).trans q, r⟩
    · have hb2 : b < s.heap.objs.size := by
        rcases List.mem_cons.mp hb with rfl | hb
        · exact hlte
        · rw [List.mem_singleton.mp hb]; exact Heap.lt_size hoi
      rw [upd_ne (Nat.ne_of_lt hb2)]
      exact (hf b hb).1
  done := by
    intro X hP hw hK hc i pins s σ H E I hf st hg
    subst hP hw hK
    obtain ⟨xs, hq, rfl⟩ := hg
    obtain ⟨its, rv, p, hz⟩ := I.list hq
    obtain ⟨⟨old, he⟩, hi⟩ := st
    have p' : s.heap.IsList a its.toArray := p.isList
    obtain ⟨oa, ha, ca, _⟩ := id p'
    obtain ⟨oi, hoi, ci, _⟩ := id hi
    have nai : a ≠ it := cls_ne ha hoi ca ci (by decide)
    have hl := rv.length
    have es : xs.length = its.toArray.size := by simp; omega
    obtain ⟨f0, f1, f2, f3, f4, f5⟩ := hf it (by simp)
    refine wpAny_pyNext_enum_end (I.ok.hd hc) he hi p' (by simp; omega) fun h1 eb => ⟨rfl, I.turned (t' := s.toks) (fun b o hb q => eb b o hb q) f0 f1 f3 f4 f5⟩
  self := fun _ _ _ _ _ st h => let ⟨⟨_, he⟩, _⟩ := st; wpAny_pyIter_enum he h
section
variable {X : Cx}
def iEnL (K : PySem.W.Frag) (ta : TA) : TI := fun σ H R => ta σ H fun vs H1 => ∃ a, vs = [.ref a] ∧ (∃ xs, SqL K H1 a xs) ∧ R (Itel K a) H1
theorem pi_enL {elts : List Expr} {k1} {tpos : Pos} {c : Expr} {ta : TA} {p pos : Pos} (hg : Gl X "enumerate") (hm : X.mg "enumerate" = none) (ha : PA X [c] ta) (hs : starEach [c] X.env = [(false, eval c X.env)] := by rfl) :
    PI X (.Tuple elts k1 tpos) (.Call (.Name "enumerate" p) [c] [] pos) (iEnL X.K ta) := by
  intro pins s σ H R I h
  refine Call_ (ld_blt I hg hm boot_en (PyProof.Rows.callWith_type1 (thn (ha pos pins s σ H _ I h) fun us s1 ⟨vs, H1, I1, r1, q1⟩ => ?_) hs rfl))
  obtain ⟨a, e, ⟨xs, hq⟩, q⟩ := q1
  subst e
  cases r1 with
  | cons r rr =>
    cases rr
    cases r
    obtain ⟨its, rv, p, hz⟩ := I1.list hq
    refine call_enumerate_list p.isList fun h1 he hi hsz kk => wpAny_pyIter_enum he ?_
    refine ⟨s1.heap.objs.size + 1, [s1.heap.objs.size + 1, s1.heap.objs.size], _, _, H1, rfl, I1.kept (t' := s1.toks) kk, turn_enL a _ _, ⟨⟨_, he⟩, hi⟩, fun b hb => ?_, q⟩
    have hb2 : s1.heap.objs.size ≤ b := by
      rcases List.mem_cons.mp hb with rfl | hb
      · exact Nat.le_succ _
      · rw [List.mem_singleton.mp hb]; exact Nat.le_refl _
    exact I1.fpOk hb2 (I1.hok.fresh hb2)
end
end L2
namespace U
open PySem PySem.Spec PyProof.Rows L2
variable {B : Bs} {X : Cx} {pos : Pos}
def enL1 (vs : List PV) (H1 : PHp) (R : It' → PHp → Prop) : Prop := match vs with
  | [.ref a] => ∃ l, H1 a = some (.lst l) ∧ R ⟨numL l, fun H => H a = some (.lst l)⟩ H1
  | _ => False
theorem w_enL {a : Addr} {H : PHp} {R : It' → PHp → Prop} : enL1 [.ref a] H R = (∃ l, H a = some (.lst l) ∧ R ⟨numL l, fun H => H a = some (.lst l)⟩ H) := rfl
def uEnL (t : TA') : TI' := fun σ H R => t σ H fun vs H1 => enL1 vs H1 R
theorem qi_enL {elts : List Expr} {k1} {tpos : Pos} {c : Expr} {t : TA'} {p : Pos} (hg : Gl X "enumerate") (hm : X.mg "enumerate" = none) (ha : PA' X B [c] t) (hs : starEach [c] X.env = [(false, eval c X.env)] := by rfl) :
    PIH X B (.Tuple elts k1 tpos) (.Call (.Name "enumerate" p) [c] [] pos) (uEnL t) := pi_imp (pi_enL hg hm ha hs) fun σ H R ⟨σ', H', R', s, h, k⟩ => by
  refine ⟨σ', H', _, s, h, fun vs' H1' vs H1 h1 r1 s1 e1 => ?_⟩
  unfold enL1 at h1
  split at h1
  · rename_i a
    simp only [RPs, RP] at r1
    obtain ⟨u, r, rfl, rfl, rfl⟩ := r1
    obtain ⟨l, ha, h1⟩ := h1
    obtain ⟨us, q1, _⟩ := s1.hp _ _ ha
    have lk : ∀ H2' H2, HR X.K H2' H2 → H2' a = some (.lst l) → ∃ us, SqL X.K H2 a us ∧ RPs X.K H2 l us := fun H2' H2 hr o => by
      obtain ⟨us, a1, a2⟩ := hr _ _ o
      exact ⟨us, SqL.of a1, a2⟩
    refine ⟨a, rfl, ⟨us, SqL.of q1⟩, k _ H1' _ H1 h1 ⟨fun H2' H2 i k2 hr o hi => ?_, fun H2' H2 i x H3 k2 hr o y => ?_, fun H2' H2 k2 hr o => ?_⟩ s1 e1⟩
    · obtain ⟨us, c1, d1⟩ := lk _ _ hr o
      have hi' : i < l.length := by simpa [numL] using hi
      obtain ⟨u, e, _⟩ := RPs.get _ d1 (List.getElem?_eq_getElem hi')
      exact ⟨us, u, c1, e⟩
    · obtain ⟨T, y1, hT, rfl, rfl, hy⟩ := y
      obtain ⟨us, c1, d1⟩ := lk _ _ hr o
      refine ⟨hr.hid hT, Ev.hid hT, fun x' hx => ?_⟩
      obtain ⟨z, hz, rfl⟩ : ∃ z, l[i]? = some z ∧ x' = .tup [.int (i : Nat), z] := by
        unfold numL at hx
        rw [List.getElem?_mapIdx] at hx
        cases e : l[i]? with
        | none => rw [e] at hx; cases hx
        | some z => rw [e] at hx; exact ⟨z, rfl, (Option.some.inj hx).symm⟩
      obtain ⟨u, e, ru⟩ := RPs.get _ d1 hz
      have ey := hy us c1
      rw [e] at ey; cases ey
      exact newT hT (RPs.cons _ (by simp [RP]) (RPs.cons _ ru (RPs.nil _)))
    · obtain ⟨us, c1, d1⟩ := lk _ _ hr o
      refine ⟨us, c1, ?_⟩
      rw [RPs.length _ d1]
      simp [numL]
  · exact h1.elim
end U


set_option linter.all false
set_option maxRecDepth 1000000
set_option maxHeartbeats 4000000 -- own
namespace TR
open PySem PyProof.Rows
section
variable {prog : Program} {w : World} {A : Around} {E : Value → Shared → Prop} {s : Shared}
theorem collect_range {Q : List Value → Shared → Prop} {r : Addr} {a b c : Int} {t u v : Tok} {n : Nat} (hh : A.handled = none) (hr : IsRange s.heap r a b c t u v) (hs : Builtin.Range.small a b c = true) (hn : Builtin.Range.rangeSize a b c = n) (hl : n ≤ 2 ^ 24)
    (q : ∀ (h' : Heap) tk acc, (∀ b o, s.heap.get? b = some o → h'.get? b = some o) → ItemsOf (fun i v => ∃ t, v = .int (a + i * c) t) acc n → Q acc.toList { s with heap := h', toks := tk }) : wpAny (model prog w) A (collect (.ref r)) Q E s := by
  unfold collect
  refine wpAny_bind (wpAny_runValue (codeAny_builtin F.entry_proto_collect ?go))
  case go =>
    rw [Around.under_plainId F.plain_proto_collect _]
    show wpAny _ A.in1 (newList [] >>= fun l => again (.builtin "list.__iadd__" ⟨[l, .ref r], []⟩)) _ _ s
    refine wpAny_bind (wpAny_newObj_type (wpAny_pure ⟨plainId_quiet F.plain_list_iadd _, codeAny_builtin F.entry_list_iadd ?_⟩))
    rw [Around.under_plainId F.plain_list_iadd _]
    show wpAny _ A.in1 (Builtin.List.listExtendWith (.ref s.heap.objs.size) (.ref r) (.ref s.heap.objs.size)) _ _ _
    have hS0 : (s.heap.push { cls := .type "list", data := .seq ([] : List Value).toArray }).get? s.heap.objs.size = some { cls := .type "list", data := .seq #[] } := Heap.get?_push_size _ rfl
    refine wpAny_extend_range (R := fun r s' => match r with | .ok (.ret v) => wpAny (model prog w) A (match v with | .ref a => (do match (← load a).data with | .seq xs _ => pure xs.toList | _ => unsupported "internal:collect") | _ => unsupported "internal:collect") Q E s' | .ok _ => False | .error e => E e s') (s := { s with heap := s.heap.push { cls := .type "list", data := .seq ([] : List Value).toArray } }) hh (Heap.get?_push_of_some _ hr) hs hn hl _ _ 0 hS0 fun h' tk acc c' hk hS hacc => ?_
    show wpAny _ A (load s.heap.objs.size >>= _) _ _ _
    exact wpAny_bind (wpAny_load hS (wpAny_pure (q h' tk acc (fun b o e => hk b o (Nat.ne_of_lt (Heap.lt_size e)) (Heap.get?_push_of_some _ e)) hacc)))
end
open AutoSeq1 (wpAny_loadPart')
theorem meets_new {r : Addr} {a b c : Int} {t u v : Tok} {n : Nat} (hs : Builtin.Range.small a b c = true) (hn : Builtin.Range.rangeSize a b c = n) (hl : n ≤ 2 ^ 24) :
    Meets (Builtin.«tuple.__new__» ⟨[.type "tuple", .ref r], []⟩)
      (fun A R s => A.handled = none ∧ IsRange s.heap r a b c t u v ∧ ∀ (h' : Heap) tk acc, (∀ b o, s.heap.get? b = some o → h'.get? b = some o) → ItemsOf (fun i v => ∃ t, v = .int (a + i * c) t) acc n →
        R (.ok (.ret (.ref h'.objs.size))) { s with heap := h'.push { cls := .type "tuple", data := .seq acc }, toks := tk }) :=
  .of_wp fun prog w A R s h => by
    obtain ⟨hh, hr, h⟩ := h
    have hsub := sub_tuple_self
    have hinit := init_tuple_lookup
    have hmh := madeHere_tuple
    have hT : s.TypeIs (.ref r) "range" := ⟨_, hr, rfl⟩
    have hh1 : A.in1.handled = none := hh
    wp_walk using wpAny_typeOf hT, collect_range hh1 hr hs hn hl
    intro h' tk acc hk hacc
    show wpAny _ _ (Builtin.Tuple.tupleExact acc.toList.toArray >>= fun v => ret v) _ _ _
    unfold Builtin.Tuple.tupleExact
    have e : acc.toList.toArray = acc := by simp
    rw [e]
    refine wpAny_bind (wpAny_newObj_type (wpAny_pure ⟨_, rfl, h h' tk acc hk hacc⟩) (show acc.size ≤ sizeLine by rw [hacc.1, sizeLine_eq]; omega))
section
variable {prog : Program} {w : World} {A : Around} {E : Value → Shared → Prop} {s : Shared}
theorem call_tuple_range {Q : Value → Shared → Prop} {r : Addr} {a b c : Int} {t u v : Tok} {n : Nat} (hh : A.handled = none) (hr : IsRange s.heap r a b c t u v) (hs : Builtin.Range.small a b c = true) (hn : Builtin.Range.rangeSize a b c = n) (hl : n ≤ 2 ^ 24)
    (q : ∀ (h' : Heap) tk acc, (∀ b o, s.heap.get? b = some o → h'.get? b = some o) → ItemsOf (fun i v => ∃ t, v = .int (a + i * c) t) acc n → Q (.ref h'.objs.size) { s with heap := h'.push { cls := .type "tuple", data := .seq acc }, toks := tk }) :
    wpAny (model prog w) A (call (.type "tuple") [.ref r]) Q E s :=
  callType_new F.called_tuple (by decide) (F.typeCall_tuple_1 _) (F.newCall_tuple_1 _) (fun obj => F.args_object_init_2 obj _) F.entry_tuple_new
    (meets_new (r := r) (t := t) (u := u) (v := v) hs hn hl) ⟨hh, hr, fun h' tk acc hk hacc => ⟨⟨_, Heap.get?_push_size _ rfl, rfl⟩, q h' tk acc hk hacc⟩⟩
end
end TR
namespace L2
open PySem PySem.Spec PyProof.Rows
variable {X : Cx} {a : Expr} {ta : TE} {p p2 pos pos2 : Pos}
def rngV (n : Nat) : List V := (List.range n).map fun k => V.int ((k : Nat) : Int)
theorem small_up {n : Nat} (h : n < 1000) : Builtin.Range.rangeSize 0 (n : Int) 1 = (n : Nat) ∧ Builtin.Range.small 0 (n : Int) 1 = true := by
  have e : Builtin.Range.rangeSize 0 (n : Int) 1 = (n : Nat) := by
    unfold Builtin.Range.rangeSize
    rw [if_pos (by decide)]
    split <;> omega
  refine ⟨e, ?_⟩
  unfold Builtin.Range.small
  rw [e]
  have hn : ((n : Nat) : Int) ≤ 1000 := by omega
  have h0 : (0 : Int) ≤ ((n : Nat) : Int) := by omega
  generalize ((n : Nat) : Int) = m at *
  simp only [Builtin.Range.rangeFitsLong, Bool.and_eq_true, Bool.or_eq_true, decide_eq_true_eq, beq_iff_eq]
  refine ⟨⟨⟨⟨by omega, by omega⟩, by decide⟩, by omega⟩, ?_⟩
  refine .inr ?_
  rw [if_pos (by decide), Bool.and_eq_true, decide_eq_true_eq, decide_eq_true_eq]
  exact ⟨by omega, by omega⟩
theorem vals_rng {n : Nat} {acc : Array Value} (h : ItemsOf (fun i v => ∃ t, v = Value.int (0 + i * 1) t) acc n) : Vals (rngV n) acc.toList := by
  obtain ⟨h1, h2⟩ := h
  have key : ∀ (l : List Value) (k : Nat), (∀ j v, l[j]? = some v → ∃ t, v = Value.int ((k + j : Nat) : Int) t) → Vals ((List.range l.length).map fun j => V.int ((k + j : Nat) : Int)) l := by
    intro l
    induction l with
    | nil => intro k _; exact .nil
    | cons v l ih =>
      intro k hh
      rw [List.length_cons, List.range_succ_eq_map, List.map_cons, List.map_map]
      obtain ⟨t, e⟩ := hh 0 v rfl
      have := ih (k + 1) fun j v hj => by
        have := hh (j + 1) v (by simpa using hj)
        rw [show k + 1 + j = k + (j + 1) by omega]; exact this
      refine .cons ⟨t, e⟩ ?_
      have ee : ((fun j => V.int ((k + j : Nat) : Int)) ∘ Nat.succ) = fun j => V.int ((k + 1 + j : Nat) : Int) := by
        funext j; show V.int ((k + (j + 1) : Nat) : Int) = _; rw [show k + (j + 1) = k + 1 + j by omega]
      rw [ee]
      exact this
  have := key acc.toList 0 fun j v hj => by
    obtain ⟨t, e⟩ := h2 j v (by simpa using hj)
    exact ⟨t, by rw [e]; congr 1; omega⟩
  rw [Array.length_toList, h1] at this
  unfold rngV
  simpa using this
def tTupR (ta : TE) : TE := fun σ H Q => ta σ H fun x H1 => ∃ n : Nat, [x] = [V.int (n : Nat)] ∧ n < 1000 ∧ ∀ q, H1 q = none → Q (.ref q) (upd H1 q (.tup (rngV n)))
theorem pe_tupR (hc : X.calm = true) (hg : Gl X "tuple") (hm : X.mg "tuple" = none) (hg2 : Gl X "range") (hm2 : X.mg "range" = none) (b1 : bootBuiltins "tuple" = some (.type "tuple")) (ha : PE X a ta)
    (he : starEach [.Call (.Name "range" p2) [a] [] pos2] X.env = [(false, eval (.Call (.Name "range" p2) [a] [] pos2) X.env)] := by rfl) (he2 : starEach [a] X.env = [(false, eval a X.env)] := by rfl) (hpl : (backTo pos (starEach [] X.env)).any (·.1) = false := by rfl) (hpl2 : (backTo pos2 (starEach [] X.env)).any (·.1) = false := by rfl) :
    PE X (.Call (.Name "tuple" p) [.Call (.Name "range" p2) [a] [] pos2] [] pos) (tTupR ta) := by
  intro pins s σ H Q I h
  refine wpAny_Call_Name_kw (ld_blt I hg hm b1 ?_ (by decide) (by decide))
  refine PyProof.Rows.callWith_type1 ?_ he hpl
  rw [he]
  show wpAny _ _ (spliced ((false, eval (.Call (.Name "range" p2) [a] [] pos2) X.env) :: [])) _ _ s
  refine Calls.spliced_cons ?_
  refine wpAny_Call_Name_kw (ld_blt I hg2 hm2 boot_range ?_ (by decide) (by decide))
  refine PyProof.Rows.callWith_type1 ?_ he2 hpl2
  refine thn (pa_cons ha pa_nil he2 pos2 pins s σ H (fun xs H1 => ∃ n : Nat, xs = [.int (n : Nat)] ∧ n < 1000 ∧ ∀ q, H1 q = none → Q (.ref q) (upd H1 q (.tup (rngV n)))) I h) fun us s1 ⟨vs, H1, I1, r1, q1⟩ => ?_
  obtain ⟨n, rfl, hn, q⟩ := q1
  obtain ⟨u, rfl, t, rfl⟩ := vals1 r1
  obtain ⟨e1, e2⟩ := small_up hn
  refine call_range_1 ?_
  refine Calls.spliced_nil ?_
  refine TR.call_tuple_range (I.ok.hd hc) (IsRange.new ..) e2 e1 (by omega) fun h' tk acc kp hacc => ?_
  have k2 : ∀ b o, s1.heap.get? b = some o → h'.get? b = some o := fun b o e => kp b o (Heap.get?_push_of_some _ e)
  have I2 : Inv X pins σ H1 { s1 with heap := h', toks := tk } := I1.kept (t' := tk) k2
  refine ⟨.ref _, _, I2.laid (t' := tk) (o := .tup (rngV n)) (fun b o e => Heap.get?_push_of_some _ e) (Nat.le_refl _) ?_, rfl, q _ (I2.hok.fresh (Nat.le_refl _))⟩
  refine ⟨by unfold rngV; rw [List.length_map, List.length_range, sizeLine_eq]; omega, acc.toList, vals_rng hacc, ?_⟩
  have e : acc.toList.toArray = acc := by simp
  rw [e]
  exact IsTup.new _ _
end L2
namespace U
open PySem PySem.Spec PyProof.Rows L2
variable {B : Bs} {X : Cx} {a : Expr} {ta : TE'} {p p2 pos pos2 : Pos}
def tupR (x : PV) (H : PHp) (Q : VK') : Prop := match x with
  | .int i => 0 ≤ i ∧ i < 1000 ∧ Q (.tup (rngL 0 i.toNat)) H
  | _ => False
theorem w_tR {i : Int} {H : PHp} {Q : VK'} : tupR (.int i) H Q = (0 ≤ i ∧ i < 1000 ∧ Q (.tup (rngL 0 i.toNat)) H) := rfl
def uTupR (ta : TE') : TE' := fun σ H Q => ta σ H fun x H1 => tupR x H1 Q
theorem rps_rng {K : PySem.W.Frag} {H : Hp} {n : Nat} : RPs K H (rngL 0 n) (rngV n) := by
  have e1 : rngL 0 n = ((List.range n).map fun k => ((k : Nat) : Int)).map PV.int := by
    unfold rngL; rw [List.map_map]; refine List.map_congr_left fun k _ => ?_; show PV.int (0 + ((k : Nat) : Int)) = PV.int ((k : Nat) : Int); rw [Int.zero_add]
  have e2 : rngV n = ((List.range n).map fun k => ((k : Nat) : Int)).map V.int := by unfold rngV; rw [List.map_map]; rfl
  rw [e1, e2]
  exact RPs.ints K _
theorem qe_tupR (hc : X.calm = true) (hg : Gl X "tuple") (hm : X.mg "tuple" = none) (hg2 : Gl X "range") (hm2 : X.mg "range" = none) (b1 : bootBuiltins "tuple" = some (.type "tuple")) (ha : PE' X B a ta)
    (he : starEach [.Call (.Name "range" p2) [a] [] pos2] X.env = [(false, eval (.Call (.Name "range" p2) [a] [] pos2) X.env)] := by rfl) (he2 : starEach [a] X.env = [(false, eval a X.env)] := by rfl) (hpl : (backTo pos (starEach [] X.env)).any (·.1) = false := by rfl) (hpl2 : (backTo pos2 (starEach [] X.env)).any (·.1) = false := by rfl) :
    PE' X B (.Call (.Name "tuple" p) [.Call (.Name "range" p2) [a] [] pos2] [] pos) (uTupR ta) :=
  pe_imp (pe_tupR hc hg hm hg2 hm2 b1 ha he he2 hpl hpl2) fun σ H Q h => by
    obtain ⟨σ', H', Q', s, h, k⟩ := h
    refine ⟨σ', H', _, s, h, fun x' H1' x H1 h1 rx s1 e1 => ?_⟩
    cases x' with
    | int i =>
      obtain ⟨h0, h3, q⟩ := h1
      simp only [RP] at rx
      refine ⟨i.toNat, by rw [rx, Int.toNat_of_nonneg h0], by omega, fun q' hq => ?_⟩
      exact k _ _ _ _ q (newT hq rps_rng) (s1.hid hq) (e1.trans (Ev.hid hq))
    | _ => exact h1.elim
end U


set_option linter.all false
set_option maxRecDepth 1000000
set_option maxHeartbeats 4000000 -- own
namespace L2
open PySem PySem.Spec PyProof.Rows
variable {X : Cx} {a : Expr} {ta : TE} {p p2 pos pos2 : Pos}
end L2
namespace U
open PySem PySem.Spec PyProof.Rows L2
variable {B : Bs} {X : Cx} {a : Expr} {ta : TE'} {p p2 pos pos2 : Pos}
def lsR (x : PV) (H : PHp) (Q : VK') : Prop := match x with
  | .int i => 0 ≤ i ∧ i < 1000 ∧ ∀ r, H r = none → Q (.ref r) (put H r (.lst (rngL 0 i.toNat)))
  | _ => False
theorem w_lR {i : Int} {H : PHp} {Q : VK'} : lsR (.int i) H Q = (0 ≤ i ∧ i < 1000 ∧ ∀ r, H r = none → Q (.ref r) (put H r (.lst (rngL 0 i.toNat)))) := rfl
def uLsR (ta : TE') : TE' := fun σ H Q => ta σ H fun x H1 => lsR x H1 Q
end U


set_option linter.all false
set_option maxRecDepth 1000000
set_option maxHeartbeats 4000000
namespace L2
open PySem PySem.Spec PyProof.Rows
section
variable {prog : Program} {w : World} {A : Around} {E : Value → Shared → Prop} {s : Shared}
end
variable {X : Cx}
end L2
namespace U
open PySem PySem.Spec PyProof.Rows L2
variable {B : Bs} {X : Cx} {e : Expr} {ta : TE'} {pos : Pos}
def sliceT (x : PV) (lo hi : Option Int) (H3 : PHp) (Q : VK') : Prop := match x with
  | .tup l => Q (.tup (cutP l lo hi)) H3
  | _ => False
theorem w_sT {l : List PV} {lo hi : Option Int} {H : PHp} {Q : VK'} : sliceT (.tup l) lo hi H Q = Q (.tup (cutP l lo hi)) H := rfl
def uSliceT (ta : TE') (tl th : TO') : TE' := fun σ H Q => ta σ H fun x H1 => tl σ H1 fun lo H2 => th σ H2 fun hi H3 => sliceT x lo hi H3 Q
end U


set_option linter.all false
set_option maxRecDepth 1000000
set_option maxHeartbeats 4000000 -- own
namespace U
open PySem PySem.Spec PyProof.Rows L2
variable {B : Bs} {X : Cx}
end U


set_option linter.all false
set_option maxRecDepth 1000000
set_option maxHeartbeats 4000000
namespace U
open PySem PySem.Spec PyProof.Rows L2
variable {B : Bs} {X : Cx}
def rEqW (K : PySem.W.Frag) : R2 := fun x y H Q => ∃ d1 d2, flat 60 d1 = true ∧ flat 60 d2 = true ∧ RDv K H d1 x ∧ RDv K H d2 y ∧ Q (.bl (deq d1 d2)) H
theorem op_eqW (hu : X.A.units + 64 < cLine) : OpR X (compareOp .Eq) (rEqW X.K) := by
  intro pins s σ H x y v u Q I rx ry h
  obtain ⟨d1, d2, f1, f2, r1, r2, q⟩ := h
  exact (eq_core I 60 (by omega) f1 f2 (r1.rd rx) (r2.rd ry)).2 _ _ _ _ ⟨.bl _, H, I, rfl, q⟩
def uEqW : R2' := fun x y H Q => withD x H fun d1 => withD y H fun d2 => flat 60 d1 = true ∧ flat 60 d2 = true ∧ Q (.bl (deq d1 d2)) H
theorem vr_eqW {K : PySem.W.Frag} : VR K B uEqW (rEqW K) := by
  intro σ' σ H' H x' y' x y Q' Q s rx ry h k
  obtain ⟨d1, r1, h1⟩ := withD.ex h s rx
  obtain ⟨d2, r2, f1, f2, q⟩ := withD.ex h1 s ry
  exact ⟨d1, d2, f1, f2, r1, r2, k _ H' _ H q (by simp [RP]) s (Ev.refl _ _)⟩
def rNeW (K : PySem.W.Frag) : R2 := fun x y H Q => ∃ d1 d2, flat 60 d1 = true ∧ flat 60 d2 = true ∧ RDv K H d1 x ∧ RDv K H d2 y ∧ Q (.bl (!deq d1 d2)) H
theorem op_neW (hu : X.A.units + 64 < cLine) : OpR X (compareOp .NotEq) (rNeW X.K) := by
  intro pins s σ H x y v u Q I rx ry h
  obtain ⟨d1, d2, f1, f2, r1, r2, q⟩ := h
  exact ne_core I 60 (by omega) f1 f2 (r1.rd rx) (r2.rd ry) _ _ _ _ ⟨.bl _, H, I, rfl, q⟩
def uNeW : R2' := fun x y H Q => withD x H fun d1 => withD y H fun d2 => flat 60 d1 = true ∧ flat 60 d2 = true ∧ Q (.bl (!deq d1 d2)) H
theorem vr_neW {K : PySem.W.Frag} : VR K B uNeW (rNeW K) := by
  intro σ' σ H' H x' y' x y Q' Q s rx ry h k
  obtain ⟨d1, r1, h1⟩ := withD.ex h s rx
  obtain ⟨d2, r2, f1, f2, q⟩ := withD.ex h1 s ry
  exact ⟨d1, d2, f1, f2, r1, r2, k _ H' _ H q (by simp [RP]) s (Ev.refl _ _)⟩
end U


set_option Elab.async false
set_option linter.all false
set_option maxRecDepth 1000000
namespace L2
open PySem PySem.Spec PyProof.Rows

section
variable {κ : Type} [DecidableEq κ]
end


section
variable {P : Program} {w : World} {H : Hp} {h : Heap} {a : Addr}
end

section
variable {X : Cx} {pins : List (Addr × Obj)} {σ : St} {H : Hp} {s : Shared} {a : Addr} {y v : V} {u r : Value} {o : Option V} {A : Around} {E : Value → Shared → Prop}

end

section
variable {X : Cx} {pins : List (Addr × Obj)} {σ : St} {H : Hp} {s : Shared} {a : Addr} {kvs : List (Key × V)} {k : Key} {u : Value} {A : Around} {E : Value → Shared → Prop}
end


def NoSl (i : Expr) : Prop := ∀ ov iv, subscripted i false ov iv = operate [ov, iv] (getItem ov iv)
theorem subD_of {prog : Program} {w : World} {A : Around} {E : Value → Shared → Prop} {s : Shared} {env : Env} {value slice : Expr} {pos : Pos} {T id : String} {Q : Value → Shared → Prop}
    (hl : typeLookup (.type T) "__getitem__" = pure (some (.builtin id))) (hs : NoSl slice)
    (h : wpAny (model prog w) A (eval value env) (fun o s₁ => wpAny (model prog w) A (eval slice env) (fun i s₂ => s₂.TypeIs o T ∧ wpAny (model prog w) A (getItem o i) Q E s₂) E s₁) E s) :
    wpAny (model prog w) A (eval (.Subscript value slice pos) env) Q E s := by
  refine Subscript_ (wpAny_mono h (fun o s₁ h₁ => wpAny_mono h₁ (fun i s₂ h₂ => ?_) fun _ _ x => x) fun _ _ x => x)
  obtain ⟨hT, h₂⟩ := h₂
  unfold subscriptTail
  refine wpAny_bind ?_
  rw [getitemInPython_of_ne hT.not_modules]
  refine wpAny_bind (wpAny_specialOf hT hl ?_)
  have fin : wpAny (model prog w) A (subscripted slice false o i) (fun r s₃ => wpAny (model prog w) A (letTemporaryGo value o r >>= fun _ => pure r) Q E s₃) E s₂ := by
    rw [hs o i]
    exact wpAny_operating (wpAny_mono h₂ (fun r s₃ h₃ => wpAny_bind (wpAny_letTemporaryGo (wpAny_pure h₃))) fun _ _ x => x)
  first
    | exact wpAny_pure (wpAny_bind fin)
    | exact wpAny_bind (wpAny_pure (wpAny_bind fin))
    | exact wpAny_bind fin

section
variable {X : Cx} {o i e value : Expr} {pos pos' tpos : Pos} {td ty tv : TE}
end


section
variable {X : Cx} {pos : Pos}
end

end L2


set_option linter.all false
set_option maxRecDepth 1000000
set_option maxHeartbeats 4000000 -- own
namespace RD
open PySem PyProof.Rows
open Sem (wp)
def At (h : Heap) (d : Addr) (es : Array DictEntry) (ep : Nat) : Prop := ∃ o, h.get? d = some o ∧ o.ExactDict ∧ o.data = .dict es ep
variable {prog : Program} {w : World} {A : Around} {E : Value → Shared → Prop} {s : Shared} {d it : Addr} {es : Array DictEntry} {ep i : Nat}
theorem At.ty (x : At s.heap d es ep) : s.TypeIs (.ref d) "dict" := by
  obtain ⟨o, g, c, _⟩ := x
  exact ⟨o, g, c.1⟩
theorem iter {Q : Value → Shared → Prop} (lo : (d == sysModules) = false) (m : At s.heap d es ep) (q : Q (.ref s.heap.objs.size) { s with heap := s.heap.push { cls := .type "dict_keyiterator", data := .fields #[.ref d, .int 0 0, .int es.size 0, .int ep 0] } }) :
    wpAny (model prog w) A (PySem.pyIter (.ref d)) Q E s := by
  have ty := m.ty
  obtain ⟨o, g, c, g2⟩ := m
  refine wpAny_pyIter_slot ty F.slot_dict_iter (wpAny_call_entry F.slot_dict_iter ty F.entry_dict_iter ?_ (F.args_dict_iter_1 _))
  unfold Builtin.«dict.__iter__»; refine wpAny_bind ?_; unfold Builtin.Dict.dictSlotNone
  refine wpAny_bind (wpAny_notOrdered_dict ty ?_)
  show wpAny _ _ (Pure.pure (Value.ref d)) _ _ s
  refine wpAny_pure ?_
  show wpAny _ _ (Bind.bind (Builtin.Dict.showsAll d) _) _ _ s
  unfold Builtin.Dict.showsAll
  rw [if_neg (by rw [lo]; simp)]
  refine wpAny_bind (wpAny_pure (wpAny_bind (wpAny_dictEntries g g2 (wpAny_bind (wpAny_dictEpoch g g2 ?_)))))
  refine wpAny_bind (wpAny_newObj_type (wpAny_pure ⟨_, rfl, "dict_keyiterator", _, ⟨_, Heap.get?_push_size s.heap rfl, rfl⟩, F.slot_dict_keyiterator_next.lookup, ?_⟩))
  simpa [rawInt] using q
theorem item {Q : Option Value → Shared → Prop} (t : s.heap.IsKeyIter it d i es.size ep) (m : At s.heap d es ep) (hi : i < es.size) (q : ∀ h', h'.IsKeyIter it d (i + 1) es.size ep → Heap.SameBut it s.heap h' → Q (some es[i].key) { s with heap := h' }) :
    wpAny (model prog w) A (PySem.pyNext (.ref it)) Q E s := by
  obtain ⟨o, g, c, g2⟩ := id t
  obtain ⟨od, gd, cd, gd2⟩ := id m
  have ty := t.typeIs
  unfold pyNext
  refine wpAny_bind (wpAny_attempt (wpAny_callSpecial?_slot (name := Str.ofString "__next__") ty F.slot_dict_keyiterator_next (wpAny_call_entry F.slot_dict_keyiterator_next ty F.entry_dict_keyiterator_next ?_ (F.args_dict_keyiterator_next_1 _))))
  refine wpAny_bind (wpAny_pure (wpAny_bind (wpAny_bind ?_)))
  first | refine wpAny_bind (wpAny_typeNameOfWhole_keyiter ty (wpAny_pure ?_)) | refine wpAny_bind (wpAny_typeNameOf_keyiter ty (wpAny_pure ?_))
  refine wpAny_bind (wpAny_fieldsOf g g2 ?_)
  simp only [show Builtin.Dict_items.ownsTuple "dict_keyiterator" = false by decide, Bool.false_eq_true, if_false]
  show wpAny _ _ (ite ((Value.ref d == Value.none) = true) _ _) _ _ s
  rw [if_neg (show ¬ ((Value.ref d == Value.none) = true) by simp)]
  refine wpAny_bind (wpAny_pure (wpAny_bind (wpAny_dictEntries gd gd2 ?_)))
  rw [if_neg (by simp)]
  refine wpAny_bind (wpAny_pure (wpAny_bind (wpAny_dictEpoch gd gd2 ?_)))
  rw [if_neg (by simp)]
  refine wpAny_pure ?_
  simp only [show ¬ ((i : Int) < 0) by omega, if_false, Int.toNat_natCast, Array.getElem?_eq_getElem hi]
  refine wpAny_bind ?_
  first | refine wpAny_bind (wpAny_typeNameOfWhole_keyiter ty (wpAny_pure ?_)) | refine wpAny_bind (wpAny_typeNameOf_keyiter ty (wpAny_pure ?_))
  refine wpAny_bind (wpAny_isOneOf_keyiter ty ?_)
  show wpAny _ _ (Bind.bind (setField (.ref it) 1 (rawInt ((i : Int) + 1))) _) _ _ s
  refine wpAny_bind (wpAny_setField g g2 (by simp) ?_)
  have t' : (s.heap.update it (Obj.mapFields (·.setIfInBounds 1 (rawInt ((i : Int) + 1))))).IsKeyIter it d (i + 1) es.size ep := ⟨_, Heap.get?_update_self _ g (Obj.isFreed_of_fields (Obj.data_mapFields g2 _)), (Obj.cls_mapFields ..).trans c, by rw [Obj.data_mapFields g2]; simp [rawInt]⟩
  refine wpAny_bind (wpAny_holding (wpAny_bind (wpAny_isOneOf_keyiter (s := { s with heap := s.heap.update it (Obj.mapFields (·.setIfInBounds 1 (rawInt ((i : Int) + 1)))) }) t'.typeIs ?_)))
  show wpAny _ _ (Pure.pure es[i].key) _ _ _
  exact wpAny_pure (wpAny_pure ⟨_, rfl, wpAny_pure (q _ t' (Heap.SameBut.update ..))⟩)
theorem fin {Q : Option Value → Shared → Prop} (hh : A.handled = none) (t : s.heap.IsKeyIter it d es.size es.size ep) (m : At s.heap d es ep) (q : ∀ h', Heap.ExtBut it s.heap h' → Q none { s with heap := h' }) : wpAny (model prog w) A (pyNext (.ref it)) Q E s := by
  obtain ⟨o, g, c, g2⟩ := id t
  obtain ⟨od, gd, cd, gd2⟩ := id m
  have ty := t.typeIs
  unfold pyNext
  refine wpAny_bind (wpAny_attempt (wpAny_callSpecial?_slot (name := Str.ofString "__next__") ty F.slot_dict_keyiterator_next (wpAny_call_entry F.slot_dict_keyiterator_next ty F.entry_dict_keyiterator_next ?_ (F.args_dict_keyiterator_next_1 _))))
  refine wpAny_bind (wpAny_pure (wpAny_bind (wpAny_bind ?_)))
  first | refine wpAny_bind (wpAny_typeNameOfWhole_keyiter ty (wpAny_pure ?_)) | refine wpAny_bind (wpAny_typeNameOf_keyiter ty (wpAny_pure ?_))
  refine wpAny_bind (wpAny_fieldsOf g g2 ?_)
  simp only [show Builtin.Dict_items.ownsTuple "dict_keyiterator" = false by decide, Bool.false_eq_true, if_false]
  show wpAny _ _ (ite ((Value.ref d == Value.none) = true) _ _) _ _ s
  rw [if_neg (show ¬ ((Value.ref d == Value.none) = true) by simp)]
  refine wpAny_bind (wpAny_pure (wpAny_bind (wpAny_dictEntries gd gd2 ?_)))
  rw [if_neg (by simp)]
  refine wpAny_bind (wpAny_pure (wpAny_bind (wpAny_dictEpoch gd gd2 ?_)))
  rw [if_neg (by simp)]
  refine wpAny_pure ?_
  simp only [show ¬ ((es.size : Int) < 0) by omega, if_false, Int.toNat_natCast, Array.getElem?_eq_none (Nat.le_refl es.size)]
  refine wpAny_bind ?_
  first | refine wpAny_bind (wpAny_typeNameOfWhole_keyiter ty (wpAny_pure ?_)) | refine wpAny_bind (wpAny_typeNameOf_keyiter ty (wpAny_pure ?_))
  show wpAny _ _ (Bind.bind (setField (.ref it) 0 .none) _) _ _ s
  refine wpAny_bind (wpAny_setField g g2 (by simp) ?_)
  show wpAny _ _ (Bind.bind (newExc (.type "StopIteration") []) _) _ _ _
  refine wpAny_bind ?_
  simp only [newExc, newTuple]
  refine wpAny_bind (wpAny_newObj_type (wpAny_bind (m := firstArgMember _ _) (wpAny_of_eq (a := Value.none) (by first | rfl | (simp only [firstArgMember]; rfl)) (wpAny_newObj_type ?_ (by size_fits)))) (by size_fits))
  simp only [raiseNew]
  refine wpAny_bind (wpAny_handled ?_); rw [show A.in1.handled = none from hh]
  refine wpAny_bind (wpAny_pure (wpAny_throw ?_)); refine wpAny_bind (wpAny_isInstance (T := "StopIteration") (b := true) ⟨_, Heap.get?_push_size _ rfl, rfl⟩ isSubtype_stop ?_)
  exact wpAny_pure (q _ (((Heap.SameBut.update ..).extBut.push _).push _))
end RD


set_option linter.all false
set_option maxRecDepth 1000000
set_option maxHeartbeats 4000000 -- own
namespace L2
open PySem PySem.Spec PyProof.Rows
def ShE (w : World) : List (Str × Addr) → List DictEntry → Prop
  | [], es => es = []
  | (k, f) :: r, es => ∃ e q, es = e :: q ∧ (∃ t, e.key = .str k t) ∧ e.hash = hashStr w k ∧ e.val = .ref f ∧ ShE w r q
structure ShK (w : World) (K : PySem.W.Frag) (a : Addr) (kvs : List (Str × Addr)) : Prop where
  lo : (a == sysModules) = false
  at' : ∃ es ep, K.lookup a = some ⟨.type "dict", none, .dict es ep, #[]⟩ ∧ ShE w kvs es.toList
variable {X : Cx}
theorem ShE.len {w : World} : ∀ {kvs : List (Str × Addr)} {es : List DictEntry}, ShE w kvs es → es.length = kvs.length
  | [], es, h => by simp only [ShE] at h; subst h; rfl
  | (k, f) :: r, es, h => by
    simp only [ShE] at h
    obtain ⟨e, q, rfl, _, _, _, h⟩ := h
    rw [List.length_cons, List.length_cons, h.len]
theorem ShE.get {w : World} : ∀ {kvs : List (Str × Addr)} {es : List DictEntry} {i : Nat} {e : DictEntry}, ShE w kvs es → es[i]? = some e → ∃ k f t, kvs[i]? = some (k, f) ∧ e.key = .str k t
  | [], es, i, e, h, g => by simp only [ShE] at h; subst h; simp at g
  | (k, f) :: r, es, i, e, h, g => by
    simp only [ShE] at h
    obtain ⟨e0, q, rfl, ⟨t, h1⟩, _, _, h⟩ := h
    cases i with
    | zero => simp at g; subst g; exact ⟨k, f, t, rfl, h1⟩
    | succ i => exact ShE.get (i := i) h (by simpa using g)
theorem ShE.is {w : World} {prog : Program} : ∀ {kvs : List (Str × Addr)} {es : List DictEntry}, ShE w kvs es → ∀ e ∈ es, ∃ k, (strKind prog w).is k e.key = true ∧ e.hash = (strKind prog w).hash k
  | [], es, h, e, he => by simp only [ShE] at h; subst h; cases he
  | (k, f) :: r, es, h, e, he => by
    simp only [ShE] at h
    obtain ⟨e0, q, rfl, ⟨t, h1⟩, h2, _, h⟩ := h
    rcases List.mem_cons.mp he with rfl | he
    · exact ⟨k, by rw [h1]; simp [PySem.strKind, Value.isStrOf], h2⟩
    · exact ShE.is h e he
theorem ShE.find {w : World} {prog : Program} : ∀ {kvs : List (Str × Addr)} {es : List DictEntry} {k : Str} {f : Addr}, ShE w kvs es → kvs.find? (fun p => decide (p.1 = k)) = some (k, f) → (es.find? fun e => (strKind prog w).is k e.key).map (·.val) = some (.ref f)
  | [], es, k, f, h, g => by simp at g
  | (k0, f0) :: r, es, k, f, h, g => by
    simp only [ShE] at h
    obtain ⟨e0, q, rfl, ⟨t, h1⟩, h2, h3, h⟩ := h
    have hj : (strKind prog w).is k0 e0.key = true := by rw [h1]; simp [PySem.strKind, Value.isStrOf]
    rw [List.find?_cons, KeyKind.is_eq_decide hj k]
    rw [List.find?_cons] at g
    by_cases e : k0 = k
    · subst e
      simp at g
      simp [h3, g]
    · have e1 : decide ((k0, f0).1 = k) = false := decide_eq_false e
      rw [e1] at g
      have e2 : decide (k = k0) = false := decide_eq_false fun z => e z.symm
      rw [e2]
      exact ShE.find h g
theorem ShK.at {w : World} {K : PySem.W.Frag} {a : Addr} {kvs : List (Str × Addr)} (o : ShK w K a kvs) : ∃ es ep, ShE w kvs es.toList ∧ ∀ h, K.In h → RD.At h a es ep := by
  obtain ⟨es, ep, l, e⟩ := o.at'
  exact ⟨es, ep, e, fun h kin => ⟨_, kin _ _ l, ⟨rfl, rfl, rfl⟩, rfl⟩⟩
def ItSh (kvs : List (Str × Addr)) : It := ⟨fun i _ => i < kvs.length, fun i H x H' => H' = H ∧ ∃ k f, kvs[i]? = some (k, f) ∧ x = .str k, fun i _ => i = kvs.length⟩
theorem turn_sh {P : Program} {w : World} {K : PySem.W.Frag} {tg : Expr} {d : Addr} (it : Addr) {kvs : List (Str × Addr)} {es : Array DictEntry} {ep : Nat} (m : ∀ h, K.In h → RD.At h d es ep) (se : ShE w kvs es.toList) : Turn P w K tg (ItSh kvs) [it] it (fun i h => h.IsKeyIter it d i es.size ep) where
  mem := List.mem_singleton.mpr rfl
  obj := fun i h st b hb => by
    rw [List.mem_singleton.mp hb]
    obtain ⟨o, e, c, q⟩ := st
    exact ⟨o, e, fun v z => by rw [q] at z; cases z⟩
  keep := fun i h h' st k => st.at fun o e => k it (List.mem_singleton.mpr rfl) o e
  item := by
    intro X hP hw hK hc i pins s σ H E I hf st hg
    subst hP hw hK
    have hl : es.size = kvs.length := by rw [← se.len]; simp
    have hi : i < es.size := by rw [hl]; exact hg
    obtain ⟨f0, f1, f2, f3, f4, f5⟩ := hf it (List.mem_singleton.mpr rfl)
    refine RD.item st (m _ I.kIn) hi fun h' st' sb => ?_
    have I1 : Inv X pins σ H { s with heap := h' } := I.turned (t' := s.toks) (fun b o hb e => (sb.2 b hb).trans e) f0 f1 f3 f4 f5
    obtain ⟨o, e, c, dd⟩ := id st'
    obtain ⟨k, f, t, q1, q2⟩ := se.get (i := i) (e := es[i]) (by rw [Array.getElem?_toList, Array.getElem?_eq_getElem hi])
    exact ⟨es[i].key, rfl, go_of (s := { s with heap := h' }) e c dd (by decide) ⟨.str k, H, I1, by rw [q2]; exact ⟨t, rfl⟩, ⟨rfl, k, f, q1, rfl⟩, st', fun b hb => (hf b hb).1⟩⟩
  done := by
    intro X hP hw hK hc i pins s σ H E I hf st hg
    subst hP hw hK
    have hl : es.size = kvs.length := by rw [← se.len]; simp
    have hi : i = es.size := by rw [hl]; exact hg
    subst hi
    obtain ⟨f0, f1, f2, f3, f4, f5⟩ := hf it (List.mem_singleton.mpr rfl)
    exact RD.fin (I.ok.hd hc) st (m _ I.kIn) fun h' eb => ⟨rfl, I.turned (t' := s.toks) (fun b o hb e => eb b o hb e) f0 f1 f3 f4 f5⟩
  self := fun _ _ _ _ _ st h => wpAny_pyIter_keyiter st h
theorem pi_sh {tg l : Expr} {tl : TE} {a : Addr} {kvs : List (Str × Addr)} (o : ShK X.w X.K a kvs) (hl : PE X l tl) : PI X tg l (fun σ H R => tl σ H fun x H1 => x = .ref a ∧ R (ItSh kvs) H1) := by
  intro pins s σ H R I h
  refine thn (hl pins s σ H _ I h) fun v s1 ⟨x, H1, I1, r1, q1⟩ => ?_
  obtain ⟨rfl, q⟩ := q1
  cases r1
  obtain ⟨es, ep, se, m⟩ := o.at
  refine RD.iter o.lo (m _ I1.kIn) ?_
  refine ⟨s1.heap.objs.size, [s1.heap.objs.size], _, _, H1, rfl, I1.kept (t' := s1.toks) fun b o e => Heap.get?_push_of_some _ e, turn_sh _ m se, ⟨_, Heap.get?_push_size _ rfl, rfl, rfl⟩, fun b hb => ?_, q⟩
  rw [List.mem_singleton.mp hb]
  exact I1.fpOk (Nat.le_refl _) (I1.hok.fresh (Nat.le_refl _))
theorem pe_shget {o i : Expr} {td ty : TE} {a : Addr} {kvs : List (Str × Addr)} {pos : Pos} (ok : ShK X.w X.K a kvs) (ho : PE X o td) (hi : PE X i ty) (hs : NoSl i) : PE X (.Subscript o i pos) (fun σ H Q => td σ H fun x H1 => ty σ H1 fun y H2 => ∃ k f, x = .ref a ∧ y = .str k ∧ kvs.find? (fun p => decide (p.1 = k)) = some (k, f) ∧ Q (.ref f) H2) := by
  intro pins s σ H Q I h
  refine subD_of PySem.F.slot_dict_getitem.lookup hs (thn (ho pins s σ H _ I h) fun u s1 ⟨x, H1, I1, rx, q1⟩ => thn (hi pins s1 σ H1 _ I1 q1) fun iv s2 ⟨y, H2, I2, ry, k, f, ex, ey, hf, q2⟩ => ?_)
  subst ex
  subst ey
  obtain rfl : u = Value.ref a := rx
  obtain ⟨t, rfl⟩ := ry
  obtain ⟨es, ep, se, m⟩ := ok.at
  obtain ⟨od, g, c, dd⟩ := m _ I2.kIn
  have hm : s2.heap.MapOf (PySem.strKind X.prog X.w) a (fun k => findBy (PySem.strKind X.prog X.w).is es k) := ⟨od, es, ep, g, c, dd, fun e he => se.is e (by simpa using he), fun _ => rfl⟩
  refine ⟨hm.typeIs, wpAny_getItem_of (knd := PySem.strKind X.prog X.w) (k := k) (v := .ref f) (by simp [PySem.strKind, Value.isStrOf]) hm ?_ ⟨.ref f, H2, I2.tok _, rfl, q2⟩⟩
  have := se.find (prog := X.prog) hf
  simpa [findBy] using this
structure CalS (X : Cx) (CX : CXT) (k : Nat) (f : Addr) (sp : Sp) : Prop where
  ok : ∃ fd ps, FnOk X.prog X.w X.K X.mg X.base CX k f fd ps sp ∧ Binds X.K fd ps []
  kp : PySem.W.keepIn X.K (.ref f) = true
theorem pe_callS {CX : CXT} {k : Nat} {E : XK} {p pos : Pos} {o i e : Expr} {es : List Expr} {t : TA} {tf : TE} (hf : PE X (.Subscript o i p) tf) (hr : Room k X.A) (hx : Passes CX X E)
    (ha : PA X (e :: es) t) (he : starEach (e :: es) X.env = (false, eval e X.env) :: starEach es X.env := by rfl) (hpl : (backTo pos (starEach es X.env)).any (·.1) = false := by rfl) :
    PE X (.Call (.Subscript o i p) (e :: es) [] pos) (fun σ H Q => tf σ H fun v H1 => ∃ f sp, v = .ref f ∧ CalS X CX k f sp ∧ tCall sp [] E t σ H1 Q) := by
  intro pins s σ H Q I h
  have arm : eval (.Call (.Subscript o i p) (e :: es) [] pos) X.env = (do callWith pos (← eval (.Subscript o i p) X.env) [] (backTo pos (starEach (e :: es) X.env)) (backToKw pos (keywordEach [] X.env))) := rfl
  rw [arm]
  refine wpAny_bind (thn (hf pins s σ H _ I h) fun u s0 q0 => ?_)
  obtain ⟨v, H0, I0, rv, f, sp, rfl, ⟨⟨fd, ps, F, hb⟩, hk⟩, q⟩ := q0
  cases rv
  refine PySem.W.callWith_K (h₀ := X.base) I0.ok.mod.kin hk (thn (ha pos pins s0 σ _ _ I0 q) fun us s1 ⟨vs, H1, I1, r, q⟩ => ⟨I1.kIn, ?_⟩) he hpl
  exact run_fn F hr hb .nil hx I1 r q
end L2
namespace U
open PySem PySem.Spec PyProof.Rows L2
variable {B : Bs} {X : Cx}
def uItSh (a : Addr) (kvs : List (Str × Addr)) (ta : TE') : TI' := fun σ H R => ta σ H fun x H1 => x = .ref a ∧ R ⟨kvs.map fun p => .str p.1, fun _ => True⟩ H1
theorem qi_sh {tg l : Expr} {ta : TE'} {a : Addr} {kvs : List (Str × Addr)} (o : ShK X.w X.K a kvs) (ha : PE' X B l ta) : PIH X B tg l (uItSh a kvs ta) := pi_imp (pi_sh o ha) fun σ H R ⟨σ', H', R', s, h, k⟩ => by
  refine ⟨σ', H', _, s, h, fun x' H1' x H1 h1 rx s1 e1 => ?_⟩
  obtain ⟨rfl, h1⟩ := h1
  simp only [RP] at rx
  subst rx
  refine ⟨rfl, k _ H1' _ H1 h1 ⟨fun H2' H2 i k2 hr o hi => ?_, fun H2' H2 i x H3 k2 hr o y => ?_, fun H2' H2 k2 hr o => ?_⟩ s1 e1⟩
  · show i < kvs.length
    simpa using hi
  · obtain ⟨rfl, q, f, e1, rfl⟩ := y
    refine ⟨hr, Ev.refl _ _, fun x' hx => ?_⟩
    rw [List.getElem?_map, e1] at hx
    cases hx
    simp [RP]
  · simp [ItSh]
def uShG (a : Addr) (kvs : List (Str × Addr)) (td ty : TE') : TE' := fun σ H Q => td σ H fun x H1 => ty σ H1 fun y H2 => x = .ref a ∧ ∃ (k : Str) (f : Addr), y = .str k ∧ kvs.find? (fun p => decide (p.1 = k)) = some (k, f) ∧ Q (.ref f) H2
theorem qe_shG {o i : Expr} {td ty : TE'} {a : Addr} {kvs : List (Str × Addr)} {pos : Pos} (ok : ShK X.w X.K a kvs) (ho : PE' X B o td) (hi : PE' X B i ty) (hs : NoSl i) : PE' X B (.Subscript o i pos) (uShG a kvs td ty) := pe_imp (pe_shget ok ho hi hs) fun σ H Q ⟨σ', H', Q', s, h, k⟩ => by
  refine ⟨σ', H', _, s, h, fun x' H1' x H1 h1 rx s1 e1 => ⟨σ', H1', _, s1, h1, fun y' H2' y H2 h2 ry s2 e2 => ?_⟩⟩
  obtain ⟨rfl, kk, f, rfl, hf, q⟩ := h2
  simp only [RP] at rx ry
  exact ⟨kk, f, rx, ry, hf, k _ _ _ _ q (by simp [RP]) s2 (e1.trans e2)⟩
def uCallS (a : Addr) (kvs : List (Str × Addr)) (sel : Str → Sp') (td ty : TE') (t : TA') : TE' := fun σ H Q => uShG a kvs td ty σ H fun v H1 => ∃ (kk : Str) (f : Addr), v = .ref f ∧ kvs.find? (fun p => decide (p.1 = kk)) = some (kk, f) ∧ t σ H1 fun vs H3 => sel kk vs H3 Q X0
theorem qe_callS {n : Nat} {p pos : Pos} {o i e : Expr} {es : List Expr} {td ty : TE'} {t : TA'} {a : Addr} {kvs : List (Str × Addr)} {sel : Str → Sp'} (ok : ShK X.w X.K a kvs)
    (hS : ∀ k f, kvs.find? (fun p => decide (p.1 = k)) = some (k, f) → (∃ fd ps, FnOk' X.prog X.w X.K X.mg X.base CX0 n f fd ps (sel k) ∧ Binds X.K fd ps []) ∧ PySem.W.keepIn X.K (.ref f) = true) (hr : Room n X.A) (ho : PE' X B o td) (hi : PE' X B i ty) (hs : NoSl i)
    (ha : PA' X B (e :: es) t) (he : starEach (e :: es) X.env = (false, eval e X.env) :: starEach es X.env := by rfl) (hpl : (backTo pos (starEach es X.env)).any (·.1) = false := by rfl) :
    PE' X B (.Call (.Subscript o i p) (e :: es) [] pos) (uCallS a kvs sel td ty t) := pe_imp (pe_callS (qe_shG ok ho hi hs) hr pass0 ha he hpl) fun σ H Q ⟨σ', H', Q', s, h, k⟩ => by
  refine ⟨σ', H', fun v' H1' => ∃ (kk : Str) (f : Addr), v' = .ref f ∧ kvs.find? (fun p => decide (p.1 = kk)) = some (kk, f) ∧ t σ' H1' fun vs H3 => sel kk vs H3 Q' X0, s, h, fun v' H1' v H1 q rv s1 e1 => ?_⟩
  obtain ⟨kk, f, rfl, hf, q⟩ := q
  simp only [RP] at rv
  subst rv
  obtain ⟨⟨fd, ps, F, hb⟩, hk⟩ := hS kk f hf
  exact ⟨f, _, rfl, ⟨⟨fd, ps, F, hb⟩, hk⟩, low_call0 ⟨σ', H1', Q', s1, q, fun v' H2' v H2 q2 r2 s2 e2 => k v' H2' v H2 q2 r2 s2 (e1.trans e2)⟩⟩
section
variable {k : Nat} {g C : Addr} {fd : FuncData} {ps : List Str} {sp : Sp'} {x : Str} {p pos : Pos}
theorem qe_make0 (M : Mk X.K C g) (F : FnOk' X.prog X.w X.K X.mg X.base CX0 k g fd ps sp) (hr : Room (k + 1) X.A) (hg : Gl X x) (hm : X.mg x = some (.ref C)) (hb : Binds X.K fd ps []) (hdb : (x == ("__debug__" : Str)) = false := by decide) :
    PE' X B (.Call (.Name x p) [] [] pos) (uMake C sp X0 uNil) := pe_imp (pe_make0 M F hr hg hm hb .nil pass0 hdb) fun σ H Q ⟨σ', H', Q', s, h, k⟩ => by
  intro x dx nx nd ne
  have h2 := h x dx (s.hp.free nx) (s.hp.free nd) ne
  have nx2 : upd H dx (.own x) x = none := by rw [upd_ne (Ne.symm ne)]; exact nx
  have sd := s.hid (o := .own x) nd
  have new : OAt X.K (upd (upd H dx (.own x)) x (.ins C dx [])) x (.ins C dx []) := ⟨[], upd_same, .nil⟩
  have s2 := sd.new nx2 new
  have e2 : Ev H' H (put H' x (.ins C dx [])) (upd (upd H dx (.own x)) x (.ins C dx [])) := (Ev.hid nd).trans (Ev.new nx2)
  show lowSp X.K sp (.ref x :: ([] ++ [])) _ _ E0
  refine ⟨.ref x :: [], _, _, X0, RPs.cons _ (by simp [RP]) (RPs.nil _), s2.hp, h2, fun v' H3' v H3 q r3 h3 e3 => ?_, fun _ _ _ _ z => z.elim⟩
  obtain ⟨rfl, q⟩ := q
  simp only [RP] at r3
  exact ⟨r3, k _ _ _ _ q (by simp [RP]) (s2.kp e3 h3) (e2.trans e3)⟩
end
end U


set_option linter.all false
set_option maxRecDepth 1000000
set_option maxHeartbeats 4000000 -- own
namespace L2
open PySem PySem.Spec PyProof.Rows
variable {X : Cx} {pos : Pos}
end L2
namespace U
open PySem PySem.Spec PyProof.Rows L2
variable {B : Bs} {X : Cx} {es : List Expr} {pos : Pos}
def vUnl (n : Nat) (t : TGs') : TG' := fun v σ H Q => match v with
  | .ref a => ∃ l, H a = some (.lst l) ∧ l.length = n ∧ t l σ H Q
  | _ => False
theorem w_ul {n : Nat} {t : TGs'} {a : Addr} {σ : St'} {H : PHp} {Q : St' → PHp → Prop} : vUnl n t (.ref a) σ H Q = ∃ l, H a = some (.lst l) ∧ l.length = n ∧ t l σ H Q := rfl
end U


set_option linter.all false
set_option maxRecDepth 1000000
set_option maxHeartbeats 4000000 -- own
namespace U
open PySem PySem.Spec PyProof.Rows L2
variable {B : Bs} {X : Cx}
end U


set_option linter.all false
set_option maxRecDepth 1000000
set_option maxHeartbeats 4000000
namespace SI
open PySem PyProof.Rows
section
variable {prog : Program} {w : World} {A : Around} {E : Value → Shared → Prop} {s : Shared} {T : String} {r d : Addr} {n : Nat} {P : Nat → Value → Prop} {OK : Heap → Prop}
end
end SI


set_option linter.all false
set_option maxRecDepth 1000000
set_option maxHeartbeats 4000000
namespace L2
open PySem PySem.Spec PyProof.Rows
variable {X : Cx}
end L2
namespace U
open PySem PySem.Spec PyProof.Rows L2
variable {B : Bs} {X : Cx} {a b o i value : Expr} {ta tb td ty : TE'} {pos pos' : Pos}
def dkP (ks : List Int) : PO := .dK (ks.map fun n => (Sum.inl n, PV.bl true))
def notInD (y x : PV) (H : PHp) (Q : VK') : Prop := match y, x with
  | .int n, .ref a => ∃ ks, H a = some (dkP ks) ∧ Q (.bl (!decide (n ∈ ks))) H
  | _, _ => False
def uSortD : List PV → PHp → VK' → Prop := arg1 fun x H Q => match x with
  | .ref a => ∃ ks : List Int, H a = some (dkP ks) ∧ ks.length < 64 ∧ ∀ (r : Addr) (ms : List Int), H r = none → ms.Pairwise (· ≤ ·) → ms.Perm ks → Q (.ref r) (put H r (.lst (ms.map PV.int)))
  | _ => False
end U
namespace U
open PySem PySem.Spec PyProof.Rows L2
theorem hl_pop : ∀ x H Q, uPop x [] H Q → match x with | .ref a => ∃ l, H a = some (.lst l) | _ => False := by
  intro x H Q h
  cases x with
  | ref a => obtain ⟨l, y, e, _⟩ := h; exact ⟨l, e⟩
  | _ => exact h
end U


set_option linter.all false
set_option maxRecDepth 1000000
set_option maxHeartbeats 4000000
namespace L2
open PySem PySem.Spec PyProof.Rows
variable {X : Cx}
end L2
namespace U
open PySem PySem.Spec PyProof.Rows L2
variable {B : Bs} {X : Cx} {a b e : Expr} {ta tb : TE'} {p p2 pos pos2 : Pos}
end U


set_option linter.all false
set_option maxRecDepth 1000000
set_option maxHeartbeats 4000000 -- own
namespace L2
end L2
namespace U
open PySem PySem.Spec PyProof.Rows L2
variable {B : Bs} {X : Cx} {a b e : Expr} {ta tb : TE'} {p p2 pos pos2 : Pos}
end U


set_option linter.all false
set_option maxRecDepth 1000000
set_option maxHeartbeats 4000000 -- own
namespace SI
open PySem PyProof.Rows
section
variable {prog : Program} {w : World} {A : Around} {E : Value → Shared → Prop} {s : Shared}
end
end SI


set_option linter.all false
set_option maxRecDepth 1000000
set_option maxHeartbeats 4000000 -- own
namespace L2
open PySem PySem.Spec PyProof.Rows
variable {X : Cx}
end L2
namespace U
open PySem PySem.Spec PyProof.Rows L2
variable {B : Bs} {X : Cx} {a b e : Expr} {ta tb : TE'} {p p2 pos pos2 : Pos}
end U


set_option linter.all false
set_option maxRecDepth 1000000
set_option maxHeartbeats 4000000 -- own
namespace ST2
open PySem PyProof.Rows
section
variable {prog : Program} {w : World} {A : Around} {E : Value → Shared → Prop} {s : Shared}
theorem coll_tup {a : Addr} {us : List Value} {Q : List Value → Shared → Prop} (ht : s.heap.IsTuple a us.toArray)
    (k : Q us { s with heap := (s.heap.push (seqObj "list" #[] 0)).update s.heap.objs.size (Obj.mapSeq (· ++ us.toArray)) }) (hz : us.length ≤ sizeLine) :
    wpAny (model prog w) A (collect (.ref a)) Q E s := by
  obtain ⟨o, ho, hc, n, hd⟩ := id ht
  unfold collect; refine wpAny_bind (wpAny_runValue (codeAny_builtin entry_proto_collect' ?_))
  show wpAny _ _ (do again (.builtin "list.__iadd__" ⟨[← newList [], .ref a], []⟩)) _ _ s
  refine wpAny_bind (wpAny_newList (wpAny_pure ⟨Code.quiet_builtin _ (by decide +kernel), codeAny_builtin entry_list_iadd' ?_⟩) (by simp))
  show wpAny _ _ (Builtin.List.listExtendWith (.ref s.heap.objs.size) (.ref a) (.ref s.heap.objs.size)) _ _ { s with heap := s.heap.push (seqObj "list" #[] 0) }
  unfold Builtin.List.listExtendWith
  have ho2 : (s.heap.push (seqObj "list" #[] 0)).get? a = some o := Heap.get?_push_of_some _ ho
  refine wpAny_bind (wpAny_typeOf (T := "tuple") ⟨o, ho2, hc⟩ ?_)
  have et : (Value.type "tuple" == Value.type "tuple") = true := by rfl
  rw [if_pos (by rw [et]; simp)]
  refine wpAny_bind (listItems_at ho2 hd ?_); refine wpAny_bind (listItems_at (xs := #[]) (n := 0) (Heap.get?_push_size _ rfl) rfl ?_)
  rw [if_neg (by simp)]
  refine wpAny_bind (listUpdate_at (xs := #[]) (n := 0) (Heap.get?_push_size _ rfl) rfl ?_ (Nat.zero_le _) (by show (#[] ++ us.toArray).size ≤ sizeLine + 1; simp only [Array.size_append, List.size_toArray, List.length_nil]; omega)); refine wpAny_pure ?_
  show wpAny (model prog w) A (do
      let o ← load s.heap.objs.size
      match o.data with | .seq xs _ => pure xs.toList | _ => unsupported "internal:collect") Q E { s with heap := (s.heap.push (seqObj "list" #[] 0)).update s.heap.objs.size (Obj.mapSeq (· ++ us.toArray)) }
  refine wpAny_bind (wpAny_load (get?_update_seq (Heap.get?_push_size _ rfl) _) ?_); show wpAny _ _ (pure ((#[] : Array Value) ++ us.toArray).toList) Q E _
  rw [show ((#[] : Array Value) ++ us.toArray).toList = us by simp]
  exact wpAny_pure k
theorem sort_tup {a : Addr} {us : List Value} {ns : List Int} {Q : Value → Shared → Prop} (ht : s.heap.IsTuple a us.toArray) (hI : IntsAre us ns) (h6 : us.length < 64)
    (k : ∀ (out : Array Value) (ms : List Int), IntsAre out.toList ms → ms.Perm ns → ms.Pairwise (· ≤ ·) → Q (.ref (s.heap.objs.size + 1)) { s with heap := sortedAll s.heap us out }) :
    wpAny (model prog w) A (call (.builtin "sorted") [.ref a]) Q E s := by
  refine Calls.call_function_entry kind_sorted plain_sorted entry_sorted (args_sorted1 _) ?_; unfold Builtin.«sorted»
  refine wpAny_bind (m := checkCount "sorted" 1 1 _) (wpAny_pure ?_); refine wpAny_bind (coll_tup ht ?_ (by rw [sizeLine_eq]; omega))
  refine wpAny_bind (wpAny_newList ?_ (by rw [sizeLine_eq]; omega))
  have hq : ((s.heap.push (seqObj "list" #[] 0)).update s.heap.objs.size (Obj.mapSeq (· ++ us.toArray))).objs.size = s.heap.objs.size + 1 := by rw [Heap.size_update, size_push']
  have hL : (((s.heap.push (seqObj "list" #[] 0)).update s.heap.objs.size (Obj.mapSeq (· ++ us.toArray))).push (seqObj "list" us.toArray 0)).get? (s.heap.objs.size + 1) = some (seqObj "list" us.toArray 0) := by rw [← hq]; exact Heap.get?_push_size _ rfl
  show wpAny _ _ _ _ _ { s with heap := ((s.heap.push (seqObj "list" #[] 0)).update s.heap.objs.size (Obj.mapSeq (· ++ us.toArray))).push (seqObj "list" us.toArray 0) }; rw [hq]
  refine wpAny_bind (wpAny_holding (wpAny_call_entry slot_list_sort ⟨_, hL, rfl⟩ entry_list_sort (list_sort_tree hL hI h6 fun out ms a1 a2 a3 => ⟨_, rfl, ?_⟩) (args_list_sort _))); exact wpAny_pure ⟨_, rfl, k out ms a1 a2 a3⟩
end
end ST2
namespace L2
open PySem PySem.Spec PyProof.Rows
variable {X : Cx}
def rSortJ (K : PySem.W.Frag) : List V → Hp → VK → Prop := fun xs H Q => ∃ (p : Addr) (ns : List Int), xs = [.ref p] ∧ SqT K H p (ns.map V.int) ∧ ns.length < 64 ∧ ∀ (r : Addr) (ms : List Int), H r = none → ms.Perm ns → ms.Pairwise (· ≤ ·) → Q (.ref r) (upd H r (.lst (ms.map V.int)))
theorem call_sortJ : CallR X (.builtin "sorted") (rSortJ X.K) := by
  intro pins s σ H xs us Q I r h
  obtain ⟨a, ns, rfl, hq, h64, q⟩ := h
  obtain ⟨u, rfl, ru⟩ := Vals.one r
  cases ru
  obtain ⟨its, rv, p, hz⟩ := I.tuple hq
  have hl : its.length < 64 := by have := rv.length; rw [List.length_map] at this; omega
  refine ST2.sort_tup (show s.heap.IsTuple a its.toArray from p) (ints_vals rv) hl fun out ms h1 h2 h3 => ?_
  have hn : H (s.heap.objs.size + 1) = none := I.hok.fresh (Nat.le_succ _)
  obtain ⟨e, he⟩ := sortedAll_at s.heap its out
  have hv := vals_ints h1
  have hz2 : (ms.map V.int).length ≤ sizeLine := by rw [List.length_map, h2.length_eq, sizeLine_eq]; omega
  refine ⟨.ref (s.heap.objs.size + 1), _, I.laid (t' := s.toks) (o := .lst (ms.map V.int)) (fun b o e => sortedAll_old e) (Nat.le_succ _) ?_, rfl, q _ ms hn h2 h3⟩
  exact ⟨hz2, out.toList, e, hv, he⟩
end L2
namespace U
open PySem PySem.Spec PyProof.Rows L2
variable {B : Bs} {X : Cx}
def uSortJ : List PV → PHp → VK' → Prop := arg1 fun x H Q => match x with
  | .tup l => ∃ ns : List Int, l = ns.map PV.int ∧ ns.length < 64 ∧ ∀ (r : Addr) (ms : List Int), H r = none → ms.Perm ns → ms.Pairwise (· ≤ ·) → Q (.ref r) (put H r (.lst (ms.map PV.int)))
  | _ => False
theorem w_sj {l : List PV} {H : PHp} {Q : VK'} : uSortJ [.tup l] H Q = ∃ ns : List Int, l = ns.map PV.int ∧ ns.length < 64 ∧ ∀ (r : Addr) (ms : List Int), H r = none → ms.Perm ns → ms.Pairwise (· ≤ ·) → Q (.ref r) (put H r (.lst (ms.map PV.int))) := rfl
theorem vc_sortJ {K : PySem.W.Frag} : VC K B uSortJ (rSortJ K) := by
  intro σ' σ H' H xs' xs Q' Q s r h k
  obtain ⟨x', x, rfl, rfl, rx, h⟩ := arg1.ex h r
  cases x' with
  | tup l =>
    obtain ⟨ns, rfl, h64, q⟩ := h
    simp only [RP] at rx
    obtain ⟨a, us, rfl, hq, r2⟩ := rx
    rw [rps_ints r2] at hq
    refine ⟨a, ns, rfl, hq, h64, fun r ms hr h1 h2 => ?_⟩
    exact k _ _ _ _ (q r ms (s.hp.free hr) h1 h2) (by simp [RP]) (s.new hr (newL hr ints_rps)) (Ev.new hr)
  | _ => exact h.elim
end U


set_option linter.all false
namespace DM
abbrev P2 := Int × Int
def pk (p : P2) : Int := 6 * p.1 + p.2
structure Good (c : Int) (l : List P2) : Prop where
  nd : l.Nodup
  lo : ∀ p ∈ l, 0 ≤ p.1 ∧ p.1 < p.2 ∧ p.2 < c
theorem Good.prs {c : Int} {l : List P2} (g : Good c l) (hc : c ≤ 6) : ∀ p ∈ l, p ∈ SP.prs := fun p hp => by
  have := g.lo p hp
  exact SP.mem_prs (u := p.1) (v := p.2) this.1 this.2.1 (by omega)
theorem nodup_le {α : Type} [BEq α] [LawfulBEq α] {l m : List α} (nd : l.Nodup) (h : ∀ x ∈ l, x ∈ m) : l.length ≤ m.length := by
  induction l generalizing m with
  | nil => simp
  | cons x l ih =>
    obtain ⟨h1, h2⟩ := List.nodup_cons.mp nd
    have hx := h x List.mem_cons_self
    have := ih (m := m.erase x) h2 fun y hy => (List.mem_erase_of_ne (by rintro rfl; exact h1 hy)).mpr (h y (List.mem_cons_of_mem _ hy))
    have e := List.length_erase_of_mem hx
    have : 0 < m.length := List.length_pos_of_mem hx
    simp only [List.length_cons]
    omega
theorem Good.len {c : Int} {l : List P2} (g : Good c l) (hc : c ≤ 6) : l.length ≤ 15 := nodup_le g.nd (g.prs hc)
def tri : Nat → Nat
  | 0 => 0
  | n + 1 => tri n + n
theorem tri_le : ∀ v, v < 6 → tri v + v ≤ 15 := by decide
end DM


set_option linter.all false
namespace FM
inductive F where
  | one
  | seen (ns : List Int)
  | sum (ns : List Int) (f : F)
  | times (a b : F)
  | over (a b : F)
def sz : F → Nat
  | .one => 1
  | .seen _ => 1
  | .sum _ f => sz f + 1
  | .times a b => sz a + sz b + 1
  | .over a b => sz a + sz b + 1
def Nm (ns : List Int) : Prop := ns.Pairwise (· < ·) ∧ ∀ x ∈ ns, 0 ≤ x ∧ x < 6
def Ok : F → Prop
  | .one => True
  | .seen ns => Nm ns
  | .sum ns f => Nm ns ∧ Ok f
  | .times a b => Ok a ∧ Ok b
  | .over a b => Ok a ∧ Ok b
def dp : F → Nat
  | .one => 0
  | .seen _ => 0
  | .sum _ f => dp f + 1
  | .times a b => max (dp a) (dp b) + 1
  | .over a b => max (dp a) (dp b) + 1
def Op : F → Int → Prop
  | .one, _ => False
  | .seen ns, x => x ∈ ns
  | .sum ns f, x => Op f x ∧ x ∉ ns
  | .times a b, x => Op a x ∨ Op b x
  | .over a b, x => Op a x ∨ Op b x
def at' : F → List Int → Option F
  | f, [] => some f
  | .sum _ g, i :: q => if i = 0 then at' g q else none
  | .times a b, i :: q => if i = 0 then at' a q else if i = 1 then at' b q else none
  | .over a b, i :: q => if i = 0 then at' a q else if i = 1 then at' b q else none
  | .one, _ :: _ => none
  | .seen _, _ :: _ => none
def pt : F → List Int → F → F
  | _, [], g => g
  | .sum ns f, _ :: q, g => .sum ns (pt f q g)
  | .times a b, i :: q, g => if i = 0 then .times (pt a q g) b else .times a (pt b q g)
  | .over a b, i :: q, g => if i = 0 then .over (pt a q g) b else .over a (pt b q g)
  | .one, _ :: _, _ => .one
  | .seen ns, _ :: _, _ => .seen ns
theorem at_nil {f : F} : at' f [] = some f := by cases f <;> rfl
theorem pt_nil {f g : F} : pt f [] g = g := by cases f <;> rfl
theorem at_app {W f : F} {p q : List Int} (h : at' W p = some f) : at' W (p ++ q) = at' f q := by
  induction p generalizing W with
  | nil => rw [at_nil] at h; cases h; rfl
  | cons i p ih =>
    cases W with
    | one => cases h
    | seen ns => cases h
    | sum ns g =>
      simp only [at', List.cons_append] at h ⊢
      split at h
      · rename_i e; rw [if_pos e]; exact ih h
      · cases h
    | times a b =>
      simp only [at', List.cons_append] at h ⊢
      split at h
      · rename_i e; rw [if_pos e]; exact ih h
      · split at h
        · rename_i e e2; rw [if_neg e, if_pos e2]; exact ih h
        · cases h
    | over a b =>
      simp only [at', List.cons_append] at h ⊢
      split at h
      · rename_i e; rw [if_pos e]; exact ih h
      · split at h
        · rename_i e e2; rw [if_neg e, if_pos e2]; exact ih h
        · cases h
theorem pt_app {W f g : F} {p q : List Int} (h : at' W p = some f) : pt W (p ++ q) g = pt W p (pt f q g) := by
  induction p generalizing W with
  | nil => rw [at_nil] at h; cases h; rw [pt_nil]; rfl
  | cons i p ih =>
    cases W with
    | one => cases h
    | seen ns => cases h
    | sum ns k =>
      simp only [at', pt, List.cons_append] at h ⊢
      split at h
      · rw [ih h]
      · cases h
    | times a b =>
      simp only [at', pt, List.cons_append] at h ⊢
      split at h
      · rename_i e; rw [if_pos e, if_pos e, ih h]
      · rename_i e
        split at h
        · rw [if_neg e, if_neg e, ih h]
        · cases h
    | over a b =>
      simp only [at', pt, List.cons_append] at h ⊢
      split at h
      · rename_i e; rw [if_pos e, if_pos e, ih h]
      · rename_i e
        split at h
        · rw [if_neg e, if_neg e, ih h]
        · cases h
theorem at_pt {W f g : F} {p : List Int} (h : at' W p = some f) : at' (pt W p g) p = some g ∧ ∀ k, pt (pt W p g) p k = pt W p k := by
  induction p generalizing W with
  | nil => rw [pt_nil]; exact ⟨at_nil, fun k => by rw [pt_nil, pt_nil]⟩
  | cons i p ih =>
    cases W with
    | one => cases h
    | seen ns => cases h
    | sum ns k =>
      simp only [at', pt] at h ⊢
      split at h
      · rename_i e; rw [if_pos e]; exact ⟨(ih h).1, fun k => by rw [(ih h).2]⟩
      · cases h
    | times a b =>
      simp only [at', pt] at h ⊢
      split at h
      · rename_i e; rw [if_pos e]; simp only [at', pt, if_pos e]; exact ⟨(ih h).1, fun k => by rw [(ih h).2]⟩
      · rename_i e
        split at h
        · rename_i e2; rw [if_neg e]; simp only [at', pt, if_neg e, if_pos e2]; exact ⟨(ih h).1, fun k => by rw [(ih h).2]⟩
        · cases h
    | over a b =>
      simp only [at', pt] at h ⊢
      split at h
      · rename_i e; rw [if_pos e]; simp only [at', pt, if_pos e]; exact ⟨(ih h).1, fun k => by rw [(ih h).2]⟩
      · rename_i e
        split at h
        · rename_i e2; rw [if_neg e]; simp only [at', pt, if_neg e, if_pos e2]; exact ⟨(ih h).1, fun k => by rw [(ih h).2]⟩
        · cases h
theorem pt_at {W f : F} {p : List Int} (h : at' W p = some f) : pt W p f = W := by
  induction p generalizing W with
  | nil => rw [at_nil] at h; cases h; exact pt_nil
  | cons i p ih =>
    cases W with
    | one => cases h
    | seen ns => cases h
    | sum ns k =>
      simp only [at', pt] at h ⊢
      split at h
      · rw [ih h]
      · cases h
    | times a b =>
      simp only [at', pt] at h ⊢
      split at h
      · rename_i e; rw [if_pos e, ih h]
      · rename_i e
        split at h
        · rw [if_neg e, ih h]
        · cases h
    | over a b =>
      simp only [at', pt] at h ⊢
      split at h
      · rename_i e; rw [if_pos e, ih h]
      · rename_i e
        split at h
        · rw [if_neg e, ih h]
        · cases h
theorem pt_ok {g : F} : ∀ {W f : F} {p : List Int}, at' W p = some f → (Ok W → Ok f ∧ (Ok g → Ok (pt W p g))) ∧ dp (pt W p g) ≤ dp W + dp g ∧ sz (pt W p g) ≤ sz W + sz g ∧ dp f ≤ dp W ∧ sz f ≤ sz W ∧ ((∀ x, Op g x → Op f x) → ∀ x, Op (pt W p g) x → Op W x) ∧ (dp g ≤ dp f → dp (pt W p g) ≤ dp W) ∧ (sz g ≤ sz f → sz (pt W p g) ≤ sz W) := fun {W f p} h => by
  induction p generalizing W with
  | nil =>
    rw [at_nil] at h; cases h; rw [pt_nil]
    exact ⟨fun o => ⟨o, id⟩, by omega, by omega, Nat.le_refl _, Nat.le_refl _, id, id, id⟩
  | cons i p ih =>
    cases W with
    | one => cases h
    | seen ns => cases h
    | sum ns k =>
      simp only [at', pt] at h ⊢
      split at h
      · obtain ⟨h1, h2, h3, h4, h5, h6, h7, h8⟩ := ih h
        simp only [Ok, dp, sz, Op]
        exact ⟨fun o => ⟨(h1 o.2).1, fun og => ⟨o.1, (h1 o.2).2 og⟩⟩, by omega, by omega, by omega, by omega, fun q x hx => ⟨h6 q x hx.1, hx.2⟩, fun z => by have := h7 z; omega, fun z => by have := h8 z; omega⟩
      · cases h
    | times a b =>
      simp only [at', pt] at h ⊢
      split at h
      · rename_i e; rw [if_pos e]
        obtain ⟨h1, h2, h3, h4, h5, h6, h7, h8⟩ := ih h
        simp only [Ok, dp, sz, Op]
        exact ⟨fun o => ⟨(h1 o.1).1, fun og => ⟨(h1 o.1).2 og, o.2⟩⟩, by omega, by omega, by omega, by omega, fun q x hx => hx.imp (h6 q x) id, fun z => by have := h7 z; omega, fun z => by have := h8 z; omega⟩
      · rename_i e
        split at h
        · rw [if_neg e]
          obtain ⟨h1, h2, h3, h4, h5, h6, h7, h8⟩ := ih h
          simp only [Ok, dp, sz, Op]
          exact ⟨fun o => ⟨(h1 o.2).1, fun og => ⟨o.1, (h1 o.2).2 og⟩⟩, by omega, by omega, by omega, by omega, fun q x hx => hx.imp id (h6 q x), fun z => by have := h7 z; omega, fun z => by have := h8 z; omega⟩
        · cases h
    | over a b =>
      simp only [at', pt] at h ⊢
      split at h
      · rename_i e; rw [if_pos e]
        obtain ⟨h1, h2, h3, h4, h5, h6, h7, h8⟩ := ih h
        simp only [Ok, dp, sz, Op]
        exact ⟨fun o => ⟨(h1 o.1).1, fun og => ⟨(h1 o.1).2 og, o.2⟩⟩, by omega, by omega, by omega, by omega, fun q x hx => hx.imp (h6 q x) id, fun z => by have := h7 z; omega, fun z => by have := h8 z; omega⟩
      · rename_i e
        split at h
        · rw [if_neg e]
          obtain ⟨h1, h2, h3, h4, h5, h6, h7, h8⟩ := ih h
          simp only [Ok, dp, sz, Op]
          exact ⟨fun o => ⟨(h1 o.2).1, fun og => ⟨o.1, (h1 o.2).2 og⟩⟩, by omega, by omega, by omega, by omega, fun q x hx => hx.imp id (h6 q x), fun z => by have := h7 z; omega, fun z => by have := h8 z; omega⟩
        · cases h
end FM


namespace My
abbrev P2 := Int × Int
theorem nodup_le : ∀ (m : Nat) (f : List Int), f.Nodup → (∀ x ∈ f, 0 ≤ x ∧ x < (m : Int)) → f.length ≤ m
  | 0, f, _, h => by
    cases f with
    | nil => exact Nat.le_refl _
    | cons x f => have := h x List.mem_cons_self; omega
  | m + 1, f, hn, h => by
    have q := nodup_le m (f.erase (m : Int)) (hn.erase _) (fun x hx => by
      have hx' := List.mem_of_mem_erase hx
      have := h x hx'
      have ne : x ≠ (m : Int) := (List.Nodup.mem_erase_iff hn).mp hx |>.1
      omega)
    by_cases hm : (m : Int) ∈ f
    · rw [List.length_erase_of_mem hm] at q; omega
    · rw [List.erase_of_not_mem hm] at q; omega
theorem rising_one : ∀ {xs ys : List Int}, xs.Pairwise (· < ·) → ys.Pairwise (· < ·) → (∀ x, x ∈ xs ↔ x ∈ ys) → xs = ys
  | [], [], _, _, _ => rfl
  | [], y :: ys, _, _, h => absurd ((h y).mpr List.mem_cons_self) (by simp)
  | x :: xs, [], _, _, h => absurd ((h x).mp List.mem_cons_self) (by simp)
  | x :: xs, y :: ys, hx, hy, h => by
    rw [List.pairwise_cons] at hx hy
    have e : x = y := by
      have h1 := (h x).mp List.mem_cons_self
      have h2 := (h y).mpr List.mem_cons_self
      rcases List.mem_cons.mp h1 with h1 | h1
      · exact h1
      · rcases List.mem_cons.mp h2 with h2 | h2
        · exact h2.symm
        · have := hx.1 y h2; have := hy.1 x h1; omega
    subst e
    rw [rising_one hx.2 hy.2 fun z => ?_]
    constructor
    · intro hz
      rcases List.mem_cons.mp ((h z).mp (List.mem_cons_of_mem _ hz)) with q | q
      · have := hx.1 z hz; omega
      · exact q
    · intro hz
      rcases List.mem_cons.mp ((h z).mpr (List.mem_cons_of_mem _ hz)) with q | q
      · have := hy.1 z hz; omega
      · exact q
end My


namespace My
def gd (a b : Int) : Int := (Int.gcd a b : Nat)
end My


set_option linter.all false
namespace My
open U
def BN (n : Nat) (i : Int) : Prop := i.natAbs < 2 ^ n
theorem BN.fit {n : Nat} {i : Int} (h : BN n i) (hn : n ≤ 9000) : Fit i := by
  unfold Fit
  unfold BN at h
  rcases Nat.eq_zero_or_pos i.natAbs with h0 | hp
  · rw [h0, Nat.log2_zero]; omega
  · have := (Nat.log2_lt (Nat.ne_of_gt hp)).mpr h
    omega
end My


set_option linter.all false
set_option maxRecDepth 1000000
set_option maxHeartbeats 4000000
namespace Lw
open PySem L2 U PyProof.Rows
theorem boot_all : bootBuiltins "all" = some (.builtin "all") := by decide +kernel
theorem boot_sorted : bootBuiltins "sorted" = some (.builtin "sorted") := by decide +kernel
theorem boot_set : bootBuiltins "set" = some (.type "set") := by decide +kernel
theorem boot_sum : bootBuiltins "sum" = some (.builtin "sum") := by decide +kernel
theorem boot_min : bootBuiltins "min" = some (.builtin "min") := by decide +kernel
theorem boot_reversed : bootBuiltins "reversed" = some (.type "reversed") := by decide +kernel
theorem atI2_0 {x y : PV} : atI [x, y] 0 = some x := rfl
theorem atI2_1 {x y : PV} : atI [x, y] 1 = some y := rfl
def top (i : Nat) : Stmt := PySem.Challenge.pw_doingbook_k77_thinned_forms.main.body.getD i (.Pass ⟨0, 0, 0, 0⟩)
abbrev s_is_pair : Stmt := top 10
theorem sc_is_pair : FnScope ["count", "pair"] ["count", "pair"] (defScope s_is_pair) := ⟨rfl, rfl, rfl, by decide +kernel, rfl, by decide +kernel, by decide +kernel⟩
abbrev s_are_pairs : Stmt := top 11
theorem sc_are_pairs : FnScope ["count", "pairs"] ["count", "pairs"] (defScope s_are_pairs) := ⟨rfl, rfl, rfl, by decide +kernel, rfl, by decide +kernel, by decide +kernel⟩
abbrev s_without : Stmt := top 13
theorem sc_without : FnScope ["names", "others"] ["names", "others"] (defScope s_without) := ⟨rfl, rfl, rfl, by decide +kernel, rfl, by decide +kernel, by decide +kernel⟩
abbrev s_Drawing_init : Stmt := inClass (top 14) 0
theorem sc_Drawing_init : FnScope ["self", "count", "ties", "bows", "own_ties", "own_bows"] ["self", "count", "ties", "bows"] (defScope s_Drawing_init) := ⟨rfl, rfl, rfl, by decide +kernel, rfl, by decide +kernel, by decide +kernel⟩
abbrev s_parts_of : Stmt := top 16
theorem sc_parts_of : FnScope ["formula"] ["formula"] (defScope s_parts_of) := ⟨rfl, rfl, rfl, by decide +kernel, rfl, by decide +kernel, by decide +kernel⟩
abbrev s_has_all : Stmt := top 20
theorem sc_has_all : FnScope ["names", "others"] ["names", "others"] (defScope s_has_all) := ⟨rfl, rfl, rfl, by decide +kernel, rfl, by decide +kernel, by decide +kernel⟩
abbrev s_is_share_given : Stmt := top 21
theorem sc_is_share_given : FnScope ["formula"] ["formula"] (defScope s_is_share_given) := ⟨rfl, rfl, rfl, by decide +kernel, rfl, by decide +kernel, by decide +kernel⟩
abbrev s_by_gather : Stmt := top 22
theorem sc_by_gather : FnScope ["formula"] ["formula"] (defScope s_by_gather) := ⟨rfl, rfl, rfl, by decide +kernel, rfl, by decide +kernel, by decide +kernel⟩
abbrev s_by_all : Stmt := top 23
theorem sc_by_all : FnScope ["formula", "seen"] ["formula"] (defScope s_by_all) := ⟨rfl, rfl, rfl, by decide +kernel, rfl, by decide +kernel, by decide +kernel⟩
abbrev s_by_one : Stmt := top 24
theorem sc_by_one : FnScope ["formula"] ["formula"] (defScope s_by_one) := ⟨rfl, rfl, rfl, by decide +kernel, rfl, by decide +kernel, by decide +kernel⟩
abbrev s_by_same : Stmt := top 25
theorem sc_by_same : FnScope ["formula"] ["formula"] (defScope s_by_same) := ⟨rfl, rfl, rfl, by decide +kernel, rfl, by decide +kernel, by decide +kernel⟩
abbrev s_is_over_by : Stmt := top 26
theorem sc_is_over_by : FnScope ["formula", "below"] ["formula", "below"] (defScope s_is_over_by) := ⟨rfl, rfl, rfl, by decide +kernel, rfl, by decide +kernel, by decide +kernel⟩
abbrev s_by_back : Stmt := top 27
theorem sc_by_back : FnScope ["formula"] ["formula"] (defScope s_by_back) := ⟨rfl, rfl, rfl, by decide +kernel, rfl, by decide +kernel, by decide +kernel⟩
abbrev s_with_part : Stmt := top 29
theorem sc_with_part : FnScope ["formula", "number", "part"] ["formula", "number", "part"] (defScope s_with_part) := ⟨rfl, rfl, rfl, by decide +kernel, rfl, by decide +kernel, by decide +kernel⟩
abbrev s_shorter_words : Stmt := top 30
theorem sc_shorter_words : FnScope ["formula"] ["formula"] (defScope s_shorter_words) := ⟨rfl, rfl, rfl, by decide +kernel, rfl, by decide +kernel, by decide +kernel⟩
abbrev s_Thinner_init : Stmt := inClass (top 31) 0
theorem sc_Thinner_init : FnScope ["self"] ["self"] (defScope s_Thinner_init) := ⟨rfl, rfl, rfl, by decide +kernel, rfl, by decide +kernel, by decide +kernel⟩
abbrev s_Thinner_shorten : Stmt := inClass (top 31) 1
theorem sc_Thinner_shorten : FnScope ["self", "formula", "place", "told", "words"] ["self", "formula", "place"] (defScope s_Thinner_shorten) := ⟨rfl, rfl, rfl, by decide +kernel, rfl, by decide +kernel, by decide +kernel⟩
abbrev s_Thinner_thin : Stmt := inClass (top 31) 2
theorem sc_Thinner_thin : FnScope ["self", "formula", "place", "told", "number", "part"] ["self", "formula", "place"] (defScope s_Thinner_thin) := ⟨rfl, rfl, rfl, by decide +kernel, rfl, by decide +kernel, by decide +kernel⟩
abbrev s_thinned : Stmt := top 32
theorem sc_thinned : FnScope ["drawing", "formula", "thinner", "told"] ["drawing", "formula"] (defScope s_thinned) := ⟨rfl, rfl, rfl, by decide +kernel, rfl, by decide +kernel, by decide +kernel⟩
abbrev s_law_cell_at : Stmt := top 34
theorem sc_law_cell_at : FnScope ["_law_script", "_law_k"] ["_law_script", "_law_k"] (defScope s_law_cell_at) := ⟨rfl, rfl, rfl, by decide +kernel, rfl, by decide +kernel, by decide +kernel⟩
abbrev s_law_digits : Stmt := top 35
theorem sc_law_digits : FnScope ["_law_script", "_law_at", "_law_parts", "_law_unit", "_law_found", "_law_first", "_law_rest", "_law_k"] ["_law_script", "_law_at", "_law_parts"] (defScope s_law_digits) := ⟨rfl, rfl, rfl, by decide +kernel, rfl, by decide +kernel, by decide +kernel⟩
abbrev s_law_names_by : Stmt := top 36
theorem sc_law_names_by : FnScope ["_law_digit", "_law_count"] ["_law_digit", "_law_count"] (defScope s_law_names_by) := ⟨rfl, rfl, rfl, by decide +kernel, rfl, by decide +kernel, by decide +kernel⟩
abbrev s_law_grown : Stmt := top 37
theorem sc_law_grown : FnScope ["_law_purse", "_law_count", "_law_down", "_law_digit", "_law_way", "_law_names", "_law_one"] ["_law_purse", "_law_count", "_law_down"] (defScope s_law_grown) := ⟨rfl, rfl, rfl, by decide +kernel, rfl, by decide +kernel, by decide +kernel⟩
abbrev s_law_open : Stmt := top 38
theorem sc_law_open : FnScope ["_law_formula", "_law_both"] ["_law_formula"] (defScope s_law_open) := ⟨rfl, rfl, rfl, by decide +kernel, rfl, by decide +kernel, by decide +kernel⟩
abbrev s_law_shape_by : Stmt := top 39
theorem sc_law_shape_by : FnScope ["_law_purse", "_law_least", "_law_most", "_law_count", "_law_ties", "_law_bows", "_law_v", "_law_u", "_law_digit"] ["_law_purse", "_law_least", "_law_most"] (defScope s_law_shape_by) := ⟨rfl, rfl, rfl, by decide +kernel, rfl, by decide +kernel, by decide +kernel⟩
abbrev s_law_product : Stmt := top 41
theorem sc_law_product : FnScope ["_law_formulas", "_law_grown_here", "_law_formula"] ["_law_formulas"] (defScope s_law_product) := ⟨rfl, rfl, rfl, by decide +kernel, rfl, by decide +kernel, by decide +kernel⟩
abbrev s_law_shares_of : Stmt := top 42
theorem sc_law_shares_of : FnScope ["_law_purse", "_law_count", "_law_rows", "_law_name", "_law_formula", "_law_k", "_law_names"] ["_law_purse", "_law_count"] (defScope s_law_shares_of) := ⟨rfl, rfl, rfl, by decide +kernel, rfl, by decide +kernel, by decide +kernel⟩
abbrev s_law_less : Stmt := top 43
theorem sc_law_less : FnScope ["_law_names", "_law_others"] ["_law_names", "_law_others"] (defScope s_law_less) := ⟨rfl, rfl, rfl, by decide +kernel, rfl, by decide +kernel, by decide +kernel⟩
abbrev s_law_plain : Stmt := top 44
theorem sc_law_plain : FnScope ["_law_formula", "_law_word", "_law_one", "_law_other"] ["_law_formula", "_law_word"] (defScope s_law_plain) := ⟨rfl, rfl, rfl, by decide +kernel, rfl, by decide +kernel, by decide +kernel⟩
abbrev s_law_spots : Stmt := top 45
theorem sc_law_spots : FnScope ["_law_formula", "_law_found"] ["_law_formula"] (defScope s_law_spots) := ⟨rfl, rfl, rfl, by decide +kernel, rfl, by decide +kernel, by decide +kernel⟩
abbrev s_law_part : Stmt := top 46
theorem sc_law_part : FnScope ["_law_formula", "_law_spot", "_law_at"] ["_law_formula", "_law_spot"] (defScope s_law_part) := ⟨rfl, rfl, rfl, by decide +kernel, rfl, by decide +kernel, by decide +kernel⟩
abbrev s_law_put : Stmt := top 47
theorem sc_law_put : FnScope ["_law_formula", "_law_spot", "_law_other"] ["_law_formula", "_law_spot", "_law_other"] (defScope s_law_put) := ⟨rfl, rfl, rfl, by decide +kernel, rfl, by decide +kernel, by decide +kernel⟩
abbrev s_law_thin : Stmt := top 51
theorem sc_law_thin : FnScope ["_law_shape", "_law_formula", "_law_thinning", "_law_spot", "_law_word", "_law_names", "_law_part_here", "_law_made"] ["_law_shape", "_law_formula", "_law_thinning"] (defScope s_law_thin) := ⟨rfl, rfl, rfl, by decide +kernel, rfl, by decide +kernel, by decide +kernel⟩
abbrev s_law_like : Stmt := top 52
theorem sc_law_like : FnScope ["_law_purse", "_law_count", "_law_way", "_law_small", "_law_some", "_law_both", "_law_over_it", "_law_a", "_law_b", "_law_exact", "_law_less_here", "_law_some_ways", "_law_c", "_law_d"] ["_law_purse", "_law_count", "_law_way"] (defScope s_law_like) := ⟨rfl, rfl, rfl, by decide +kernel, rfl, by decide +kernel, by decide +kernel⟩
abbrev s_law_any_formula : Stmt := top 53
theorem sc_law_any_formula : FnScope ["_law_script", "_law_shape", "_law_purse", "_law_formula", "_law_k", "_law_spots_here", "_law_spot"] ["_law_script", "_law_shape"] (defScope s_law_any_formula) := ⟨rfl, rfl, rfl, by decide +kernel, rfl, by decide +kernel, by decide +kernel⟩
abbrev s_law_is_plain_thin : Stmt := top 54
theorem sc_law_is_plain_thin : FnScope ["_law_formula", "_law_spot", "_law_word"] ["_law_formula"] (defScope s_law_is_plain_thin) := ⟨rfl, rfl, rfl, by decide +kernel, rfl, by decide +kernel, by decide +kernel⟩
abbrev s_law_told_right : Stmt := top 55
theorem sc_law_told_right : FnScope ["_law_shape", "_law_formula", "_law_told", "_law_made", "_law_thinning"] ["_law_shape", "_law_formula", "_law_told"] (defScope s_law_told_right) := ⟨rfl, rfl, rfl, by decide +kernel, rfl, by decide +kernel, by decide +kernel⟩
abbrev s_law : Stmt := top 56
theorem sc_law : FnScope ["_law_script", "_law_shape", "_law_formula", "_law_drawing", "_law_told"] ["_law_script"] (defScope s_law) := ⟨rfl, rfl, rfl, by decide +kernel, rfl, by decide +kernel, by decide +kernel⟩
set_option genInjectivity false
structure Ad where
  a_is_pair : Addr
  d_is_pair : FuncData
  a_are_pairs : Addr
  d_are_pairs : FuncData
  a_without : Addr
  d_without : FuncData
  a_Drawing_init : Addr
  d_Drawing_init : FuncData
  a_parts_of : Addr
  d_parts_of : FuncData
  a_has_all : Addr
  d_has_all : FuncData
  a_is_share_given : Addr
  d_is_share_given : FuncData
  a_by_gather : Addr
  d_by_gather : FuncData
  a_by_all : Addr
  d_by_all : FuncData
  a_by_one : Addr
  d_by_one : FuncData
  a_by_same : Addr
  d_by_same : FuncData
  a_is_over_by : Addr
  d_is_over_by : FuncData
  a_by_back : Addr
  d_by_back : FuncData
  a_with_part : Addr
  d_with_part : FuncData
  a_shorter_words : Addr
  d_shorter_words : FuncData
  a_Thinner_init : Addr
  d_Thinner_init : FuncData
  a_Thinner_shorten : Addr
  d_Thinner_shorten : FuncData
  a_Thinner_thin : Addr
  d_Thinner_thin : FuncData
  a_thinned : Addr
  d_thinned : FuncData
  a_law_cell_at : Addr
  d_law_cell_at : FuncData
  a_law_digits : Addr
  d_law_digits : FuncData
  a_law_names_by : Addr
  d_law_names_by : FuncData
  a_law_grown : Addr
  d_law_grown : FuncData
  a_law_open : Addr
  d_law_open : FuncData
  a_law_shape_by : Addr
  d_law_shape_by : FuncData
  a_law_product : Addr
  d_law_product : FuncData
  a_law_shares_of : Addr
  d_law_shares_of : FuncData
  a_law_less : Addr
  d_law_less : FuncData
  a_law_plain : Addr
  d_law_plain : FuncData
  a_law_spots : Addr
  d_law_spots : FuncData
  a_law_part : Addr
  d_law_part : FuncData
  a_law_put : Addr
  d_law_put : FuncData
  a_law_thin : Addr
  d_law_thin : FuncData
  a_law_like : Addr
  d_law_like : FuncData
  a_law_any_formula : Addr
  d_law_any_formula : FuncData
  a_law_is_plain_thin : Addr
  d_law_is_plain_thin : FuncData
  a_law_told_right : Addr
  d_law_told_right : FuncData
  a_law : Addr
  d_law : FuncData
  a_Drawing : Addr
  a_Thinner : Addr
  a_ONE : Addr
  a_SH : Addr
structure Tx (w : World) (K : PySem.W.Frag) (mg : Str → Option Value) (t : Ad) : Prop where
  F_is_pair : Fun K "is_pair" "is_pair" s_is_pair t.a_is_pair t.d_is_pair
  B_is_pair : Binds K t.d_is_pair ["count", "pair"] []
  g_is_pair : mg "is_pair" = some (.ref t.a_is_pair)
  F_are_pairs : Fun K "are_pairs" "are_pairs" s_are_pairs t.a_are_pairs t.d_are_pairs
  B_are_pairs : Binds K t.d_are_pairs ["count", "pairs"] []
  g_are_pairs : mg "are_pairs" = some (.ref t.a_are_pairs)
  F_without : Fun K "without" "without" s_without t.a_without t.d_without
  B_without : Binds K t.d_without ["names", "others"] []
  g_without : mg "without" = some (.ref t.a_without)
  F_Drawing_init : Fun K "__init__" "Drawing.__init__" s_Drawing_init t.a_Drawing_init t.d_Drawing_init
  B_Drawing_init : Binds K t.d_Drawing_init ["self", "count", "ties", "bows"] []
  F_parts_of : Fun K "parts_of" "parts_of" s_parts_of t.a_parts_of t.d_parts_of
  B_parts_of : Binds K t.d_parts_of ["formula"] []
  g_parts_of : mg "parts_of" = some (.ref t.a_parts_of)
  F_has_all : Fun K "has_all" "has_all" s_has_all t.a_has_all t.d_has_all
  B_has_all : Binds K t.d_has_all ["names", "others"] []
  g_has_all : mg "has_all" = some (.ref t.a_has_all)
  F_is_share_given : Fun K "is_share_given" "is_share_given" s_is_share_given t.a_is_share_given t.d_is_share_given
  B_is_share_given : Binds K t.d_is_share_given ["formula"] []
  g_is_share_given : mg "is_share_given" = some (.ref t.a_is_share_given)
  F_by_gather : Fun K "by_gather" "by_gather" s_by_gather t.a_by_gather t.d_by_gather
  B_by_gather : Binds K t.d_by_gather ["formula"] []
  g_by_gather : mg "by_gather" = some (.ref t.a_by_gather)
  F_by_all : Fun K "by_all" "by_all" s_by_all t.a_by_all t.d_by_all
  B_by_all : Binds K t.d_by_all ["formula"] []
  g_by_all : mg "by_all" = some (.ref t.a_by_all)
  F_by_one : Fun K "by_one" "by_one" s_by_one t.a_by_one t.d_by_one
  B_by_one : Binds K t.d_by_one ["formula"] []
  g_by_one : mg "by_one" = some (.ref t.a_by_one)
  F_by_same : Fun K "by_same" "by_same" s_by_same t.a_by_same t.d_by_same
  B_by_same : Binds K t.d_by_same ["formula"] []
  g_by_same : mg "by_same" = some (.ref t.a_by_same)
  F_is_over_by : Fun K "is_over_by" "is_over_by" s_is_over_by t.a_is_over_by t.d_is_over_by
  B_is_over_by : Binds K t.d_is_over_by ["formula", "below"] []
  g_is_over_by : mg "is_over_by" = some (.ref t.a_is_over_by)
  F_by_back : Fun K "by_back" "by_back" s_by_back t.a_by_back t.d_by_back
  B_by_back : Binds K t.d_by_back ["formula"] []
  g_by_back : mg "by_back" = some (.ref t.a_by_back)
  F_with_part : Fun K "with_part" "with_part" s_with_part t.a_with_part t.d_with_part
  B_with_part : Binds K t.d_with_part ["formula", "number", "part"] []
  g_with_part : mg "with_part" = some (.ref t.a_with_part)
  F_shorter_words : Fun K "shorter_words" "shorter_words" s_shorter_words t.a_shorter_words t.d_shorter_words
  B_shorter_words : Binds K t.d_shorter_words ["formula"] []
  g_shorter_words : mg "shorter_words" = some (.ref t.a_shorter_words)
  F_Thinner_init : Fun K "__init__" "Thinner.__init__" s_Thinner_init t.a_Thinner_init t.d_Thinner_init
  B_Thinner_init : Binds K t.d_Thinner_init ["self"] []
  F_Thinner_shorten : Fun K "shorten" "Thinner.shorten" s_Thinner_shorten t.a_Thinner_shorten t.d_Thinner_shorten
  B_Thinner_shorten : Binds K t.d_Thinner_shorten ["self", "formula", "place"] []
  m_Thinner_shorten : Meth K t.a_Thinner "shorten" t.a_Thinner_shorten
  F_Thinner_thin : Fun K "thin" "Thinner.thin" s_Thinner_thin t.a_Thinner_thin t.d_Thinner_thin
  B_Thinner_thin : Binds K t.d_Thinner_thin ["self", "formula", "place"] []
  m_Thinner_thin : Meth K t.a_Thinner "thin" t.a_Thinner_thin
  F_thinned : Fun K "thinned" "thinned" s_thinned t.a_thinned t.d_thinned
  B_thinned : Binds K t.d_thinned ["drawing", "formula"] []
  g_thinned : mg "thinned" = some (.ref t.a_thinned)
  F_law_cell_at : Fun K "_law_cell_at" "_law_cell_at" s_law_cell_at t.a_law_cell_at t.d_law_cell_at
  B_law_cell_at : Binds K t.d_law_cell_at ["_law_script", "_law_k"] []
  g_law_cell_at : mg "_law_cell_at" = some (.ref t.a_law_cell_at)
  F_law_digits : Fun K "_law_digits" "_law_digits" s_law_digits t.a_law_digits t.d_law_digits
  B_law_digits : Binds K t.d_law_digits ["_law_script", "_law_at", "_law_parts"] []
  g_law_digits : mg "_law_digits" = some (.ref t.a_law_digits)
  F_law_names_by : Fun K "_law_names_by" "_law_names_by" s_law_names_by t.a_law_names_by t.d_law_names_by
  B_law_names_by : Binds K t.d_law_names_by ["_law_digit", "_law_count"] []
  g_law_names_by : mg "_law_names_by" = some (.ref t.a_law_names_by)
  F_law_grown : Fun K "_law_grown" "_law_grown" s_law_grown t.a_law_grown t.d_law_grown
  B_law_grown : Binds K t.d_law_grown ["_law_purse", "_law_count", "_law_down"] []
  g_law_grown : mg "_law_grown" = some (.ref t.a_law_grown)
  F_law_open : Fun K "_law_open" "_law_open" s_law_open t.a_law_open t.d_law_open
  B_law_open : Binds K t.d_law_open ["_law_formula"] []
  g_law_open : mg "_law_open" = some (.ref t.a_law_open)
  F_law_shape_by : Fun K "_law_shape_by" "_law_shape_by" s_law_shape_by t.a_law_shape_by t.d_law_shape_by
  B_law_shape_by : Binds K t.d_law_shape_by ["_law_purse", "_law_least", "_law_most"] []
  g_law_shape_by : mg "_law_shape_by" = some (.ref t.a_law_shape_by)
  F_law_product : Fun K "_law_product" "_law_product" s_law_product t.a_law_product t.d_law_product
  B_law_product : Binds K t.d_law_product ["_law_formulas"] []
  g_law_product : mg "_law_product" = some (.ref t.a_law_product)
  F_law_shares_of : Fun K "_law_shares_of" "_law_shares_of" s_law_shares_of t.a_law_shares_of t.d_law_shares_of
  B_law_shares_of : Binds K t.d_law_shares_of ["_law_purse", "_law_count"] []
  g_law_shares_of : mg "_law_shares_of" = some (.ref t.a_law_shares_of)
  F_law_less : Fun K "_law_less" "_law_less" s_law_less t.a_law_less t.d_law_less
  B_law_less : Binds K t.d_law_less ["_law_names", "_law_others"] []
  g_law_less : mg "_law_less" = some (.ref t.a_law_less)
  F_law_plain : Fun K "_law_plain" "_law_plain" s_law_plain t.a_law_plain t.d_law_plain
  B_law_plain : Binds K t.d_law_plain ["_law_formula", "_law_word"] []
  g_law_plain : mg "_law_plain" = some (.ref t.a_law_plain)
  F_law_spots : Fun K "_law_spots" "_law_spots" s_law_spots t.a_law_spots t.d_law_spots
  B_law_spots : Binds K t.d_law_spots ["_law_formula"] []
  g_law_spots : mg "_law_spots" = some (.ref t.a_law_spots)
  F_law_part : Fun K "_law_part" "_law_part" s_law_part t.a_law_part t.d_law_part
  B_law_part : Binds K t.d_law_part ["_law_formula", "_law_spot"] []
  g_law_part : mg "_law_part" = some (.ref t.a_law_part)
  F_law_put : Fun K "_law_put" "_law_put" s_law_put t.a_law_put t.d_law_put
  B_law_put : Binds K t.d_law_put ["_law_formula", "_law_spot", "_law_other"] []
  g_law_put : mg "_law_put" = some (.ref t.a_law_put)
  F_law_thin : Fun K "_law_thin" "_law_thin" s_law_thin t.a_law_thin t.d_law_thin
  B_law_thin : Binds K t.d_law_thin ["_law_shape", "_law_formula", "_law_thinning"] []
  g_law_thin : mg "_law_thin" = some (.ref t.a_law_thin)
  F_law_like : Fun K "_law_like" "_law_like" s_law_like t.a_law_like t.d_law_like
  B_law_like : Binds K t.d_law_like ["_law_purse", "_law_count", "_law_way"] []
  g_law_like : mg "_law_like" = some (.ref t.a_law_like)
  F_law_any_formula : Fun K "_law_any_formula" "_law_any_formula" s_law_any_formula t.a_law_any_formula t.d_law_any_formula
  B_law_any_formula : Binds K t.d_law_any_formula ["_law_script", "_law_shape"] []
  g_law_any_formula : mg "_law_any_formula" = some (.ref t.a_law_any_formula)
  F_law_is_plain_thin : Fun K "_law_is_plain_thin" "_law_is_plain_thin" s_law_is_plain_thin t.a_law_is_plain_thin t.d_law_is_plain_thin
  B_law_is_plain_thin : Binds K t.d_law_is_plain_thin ["_law_formula"] []
  g_law_is_plain_thin : mg "_law_is_plain_thin" = some (.ref t.a_law_is_plain_thin)
  F_law_told_right : Fun K "_law_told_right" "_law_told_right" s_law_told_right t.a_law_told_right t.d_law_told_right
  B_law_told_right : Binds K t.d_law_told_right ["_law_shape", "_law_formula", "_law_told"] []
  g_law_told_right : mg "_law_told_right" = some (.ref t.a_law_told_right)
  F_law : Fun K "law" "law" s_law t.a_law t.d_law
  B_law : Binds K t.d_law ["_law_script"] []
  g_law : mg "law" = some (.ref t.a_law)
  g_Drawing : mg "Drawing" = some (.ref t.a_Drawing)
  cl_Drawing : Cls K t.a_Drawing
  mk_Drawing : Mk K t.a_Drawing t.a_Drawing_init
  g_Thinner : mg "Thinner" = some (.ref t.a_Thinner)
  cl_Thinner : Cls K t.a_Thinner
  mk_Thinner : Mk K t.a_Thinner t.a_Thinner_init
  b_all : mg "all" = none
  b_enumerate : mg "enumerate" = none
  b_int : mg "int" = none
  b_isinstance : mg "isinstance" = none
  b_len : mg "len" = none
  b_list : mg "list" = none
  b_min : mg "min" = none
  b_range : mg "range" = none
  b_reversed : mg "reversed" = none
  b_set : mg "set" = none
  b_sorted : mg "sorted" = none
  b_sum : mg "sum" = none
  b_tuple : mg "tuple" = none
  c_MOST_BOWS : ∃ u, mg "MOST_BOWS" = some u ∧ RelV (.int 6) u
  c_MOST_NAMES : ∃ u, mg "MOST_NAMES" = some u ∧ RelV (.int 6) u
  c_MOST_THINNINGS : ∃ u, mg "MOST_THINNINGS" = some u ∧ RelV (.int 400) u
  nf_Drawing_bows : NoAttr K t.a_Drawing "bows"
  nf_Drawing_count : NoAttr K t.a_Drawing "count"
  nf_Drawing_ties : NoAttr K t.a_Drawing "ties"
  nf_Thinner_thinnings : NoAttr K t.a_Thinner "thinnings"
  c_ONE : ∃ u, mg "ONE" = some u ∧ RelV (.ref t.a_ONE) u
  o_ONE : ∀ H, RP K H (.tup [.str "one"]) (.ref t.a_ONE)
  c_SH : ∃ u, mg "SHORTER" = some u ∧ RelV (.ref t.a_SH) u
  o_SH : ShK w K t.a_SH [("gather", t.a_by_gather), ("all", t.a_by_all), ("one", t.a_by_one), ("same", t.a_by_same), ("back", t.a_by_back)]
section
variable {P : Program} {w : World} {K : PySem.W.Frag} {mg : Str → Option Value} {base : Heap} {t : Ad}
open FM (F Op Ok dp sz Nm at' pt)
open DM (P2 Good)

open DM (P2 Good)
def DF (c : Int) (ts bs : List P2) : List (Str × PV) := [("count", .int c), ("ties", .tup (ts.map prV)), ("bows", .tup (bs.map prV))]
def Srt (l : List P2) : Prop := l.Pairwise (fun x y => ST.pk x < ST.pk y)
def Row (H : PHp) (y : PV) (p : P2) : Prop := y = prV p ∨ ∃ r, y = .ref r ∧ H r = some (.lst [.int p.1, .int p.2])
abbrev Rows (H : PHp) : List PV → List P2 → Prop := Paired (Row H)
def sp_ispair : Sp' := fun vs H Q _ => match vs with
  | [.int c, .tup [.int u, .int v]] => (0 ≤ u ∧ u < v ∧ v < c) ∧ Q (.bl true) H
  | _ => False
theorem e_ispair {c u v : Int} {H : PHp} {Q : VK'} {E : XK'} : sp_ispair [.int c, .tup [.int u, .int v]] H Q E = ((0 ≤ u ∧ u < v ∧ v < c) ∧ Q (.bl true) H) := rfl
def sp_arepairs : Sp' := fun vs H Q _ => match vs with
  | [.int c, .ref a] => ∃ ps, H a = some (.lst (ps.map prV)) ∧ Good c ps ∧ c ≤ 6 ∧ Q (.bl true) H
  | _ => False
theorem e_arepairs {c : Int} {a : Addr} {H : PHp} {Q : VK'} {E : XK'} : sp_arepairs [.int c, .ref a] H Q E = ∃ ps, H a = some (.lst (ps.map prV)) ∧ Good c ps ∧ c ≤ 6 ∧ Q (.bl true) H := rfl
def sp_init (t : Ad) : Sp' := fun vs H Q _ => match vs with
  | [.ref x, .int c, .ref a, .ref b] => ∃ dx ys zs ps qs, H x = some (.ins t.a_Drawing dx []) ∧ H a = some (.lst ys) ∧ H b = some (.lst zs) ∧ Rows H ys ps ∧ Rows H zs qs ∧ Good c ps ∧ Good c qs ∧ (1 ≤ c ∧ c ≤ 6 ∧ qs.length ≤ 6) ∧
    ∀ ts bs, ts.Perm ps → Srt ts → bs.Perm qs → Srt bs → Q .non (put H x (.ins t.a_Drawing dx (DF c ts bs)))
  | _ => False
theorem e_init {x a b : Addr} {c : Int} {H : PHp} {Q : VK'} {E : XK'} : sp_init t [.ref x, .int c, .ref a, .ref b] H Q E = ∃ dx ys zs ps qs, H x = some (.ins t.a_Drawing dx []) ∧ H a = some (.lst ys) ∧ H b = some (.lst zs) ∧ Rows H ys ps ∧ Rows H zs qs ∧ Good c ps ∧ Good c qs ∧ (1 ≤ c ∧ c ≤ 6 ∧ qs.length ≤ 6) ∧
    ∀ ts bs, ts.Perm ps → Srt ts → bs.Perm qs → Srt bs → Q .non (put H x (.ins t.a_Drawing dx (DF c ts bs))) := rfl
def sp_cell : Sp' := fun vs H Q _ => match vs with
  | [.fls l, .int k] => (0 ≤ k ∧ k < 100) ∧ ∃ ns : List Int, l = ns.map PV.int ∧ Q (.int (ns.getD k.toNat 0)) H
  | _ => False
theorem e_cell {l : List PV} {k : Int} {H : PHp} {Q : VK'} {E : XK'} : sp_cell [.fls l, .int k] H Q E = ((0 ≤ k ∧ k < 100) ∧ ∃ ns : List Int, l = ns.map PV.int ∧ Q (.int (ns.getD k.toNat 0)) H) := rfl
theorem atI_at {l : List PV} {i : Nat} (h : i < l.length) : atI l ((i : Nat) : Int) = some l[i] := by
  unfold atI ixN
  rw [if_pos (by omega), if_pos (by omega)]
  show l[((i : Nat) : Int).toNat]? = _
  rw [Int.toNat_natCast, List.getElem?_eq_getElem h]
theorem pd_mem {α β : Type} {R : α → β → Prop} {x : α} {l : List α} {m : List β} (h : Paired R l m) (hx : x ∈ l) : ∃ y ∈ m, R x y := by
  induction h with
  | nil => cases hx
  | cons h t ih =>
    rcases List.mem_cons.mp hx with rfl | hx
    · exact ⟨_, List.mem_cons_self, h⟩
    · obtain ⟨y, hy, r⟩ := ih hx
      exact ⟨y, List.mem_cons_of_mem _ hy, r⟩
theorem fm {a b : Int} (h : 0 < b) : 0 ≤ a.fmod b ∧ a.fmod b < b := by
  rw [Int.fmod_eq_emod_of_nonneg _ (by omega)]
  exact ⟨Int.emod_nonneg _ (by omega), Int.emod_lt_of_pos _ h⟩
theorem sub_put {A B : PHp} {x : Addr} {o : PO} (s : U.Sub A B) (h : B x = some o) : U.Sub (put A x o) B := fun a u e => by
  by_cases q : a = x
  · subst q; rw [put_same] at e; cases e; exact h
  · rw [put_ne q] at e; exact s a u e
theorem sub_putx {A B : PHp} {x : Addr} {o : PO} (s : ∀ a u, a ≠ x → A a = some u → B a = some u) (h : B x = some o) : U.Sub (put A x o) B := fun a u e => by
  by_cases q : a = x
  · subst q; rw [put_same] at e; cases e; exact h
  · rw [put_ne q] at e; exact s a u q e
theorem putU_len {f : Str} {v : PV} : ∀ {fs : List (Str × PV)}, (putU f v fs).length ≤ fs.length + 1
  | [] => by simp [putU]
  | (g, y) :: r => by
    unfold putU
    split
    · simp
    · have := putU_len (f := f) (v := v) (fs := r); simp only [List.length_cons]; omega
theorem cdvB {i j : Int} (h : j ≠ 0) (f : j.natAbs < 2 ^ 64) : CDivB i j := ⟨h, (show My.BN 64 j from f).fit (by decide)⟩
def rowT (H : PHp) (y : PV) : PV := match y with
  | .ref r => (match H r with | some (.lst l) => .tup l | _ => .non)
  | y => y
theorem rowT_ref {H : PHp} {r : Addr} {l : List PV} (h : H r = some (.lst l)) : rowT H (.ref r) = .tup l := by
  unfold rowT; dsimp only; rw [h]
theorem rows_map {H : PHp} {ys : List PV} {ps : List P2} (h : Rows H ys ps) : ys.map (rowT H) = ps.map prV := by
  induction h with
  | nil => rfl
  | cons h t ih =>
    rw [List.map_cons, List.map_cons, ih]
    congr 1
    rcases h with rfl | ⟨r, rfl, hr⟩
    · rfl
    · exact rowT_ref hr
theorem Rows.up {H H1 : PHp} {ys : List PV} {ps : List P2} (h : Rows H ys ps) (s : U.Sub H H1) : Rows H1 ys ps := Paired.mapP h fun y p r => r.elim .inl fun ⟨q, e, hq⟩ => .inr ⟨q, e, s _ _ hq⟩
theorem rows_prV {H : PHp} : ∀ {ps : List P2}, Rows H (ps.map prV) ps
  | [] => .nil
  | _ :: _ => .cons (.inl rfl) rows_prV
def g0 (y : PV) : PV := match y with | .tup [u, _] => u | _ => .non
def g1 (y : PV) : PV := match y with | .tup [_, v] => v | _ => .non
structure GJ (v j : Int) (l : List P2) : Prop where
  nd : l.Nodup
  lo : ∀ p ∈ l, 0 ≤ p.1 ∧ p.1 < p.2 ∧ (p.2 < v ∨ (p.2 = v ∧ p.1 < j))
theorem GJ.app {v j : Int} {l : List P2} (h : GJ v j l) (h0 : 0 ≤ j) (hj : j < v) : GJ v (j + 1) (l ++ [(j, v)]) := by
  refine ⟨List.nodup_append.mpr ⟨h.nd, by simp, ?_⟩, fun p hp => ?_⟩
  · intro a ha b hb e
    rw [List.mem_singleton] at hb
    subst hb; subst e
    have := h.lo _ ha
    simp only at this
    omega
  · rcases List.mem_append.mp hp with hp | hp
    · have := h.lo p hp; omega
    · rw [List.mem_singleton] at hp; subst hp; exact ⟨h0, hj, .inr ⟨rfl, Int.lt_succ j⟩⟩
theorem GJ.up {v j : Int} {l : List P2} (h : GJ v j l) : GJ v (j + 1) l := ⟨h.nd, fun p hp => by have := h.lo p hp; omega⟩
theorem GJ.of {v : Int} {l : List P2} (h : Good v l) : GJ v 0 l := ⟨h.nd, fun p hp => by have := h.lo p hp; omega⟩
theorem GJ.good {v : Int} {l : List P2} (h : GJ v v l) : Good (v + 1) l := ⟨h.nd, fun p hp => by have := h.lo p hp; omega⟩
def wd : F → Str
  | .one => "one"
  | .seen _ => "seen"
  | .sum _ _ => "sum"
  | .times _ _ => "times"
  | .over _ _ => "over"
def kids : F → List F
  | .sum _ f => [f]
  | .times a b => [a, b]
  | .over a b => [a, b]
  | _ => []
def fV : F → PV
  | .one => .tup [.str "one"]
  | .seen ns => .tup [.str "seen", .tup (ns.map PV.int)]
  | .sum ns f => .tup [.str "sum", .tup (ns.map PV.int), fV f]
  | .times a b => .tup [.str "times", fV a, fV b]
  | .over a b => .tup [.str "over", fV a, fV b]
theorem fV_head : ∀ f : F, ∃ r, fV f = .tup (.str (wd f) :: r)
  | .one => ⟨_, rfl⟩
  | .seen _ => ⟨_, rfl⟩
  | .sum _ _ => ⟨_, rfl⟩
  | .times _ _ => ⟨_, rfl⟩
  | .over _ _ => ⟨_, rfl⟩
theorem atI_c0 {x : PV} {l : List PV} : atI (x :: l) 0 = some x := by
  unfold atI ixN
  rw [if_pos (by omega), if_pos (by simp only [List.length_cons]; omega)]
  rfl
theorem atI3_1 {x y z : PV} : atI [x, y, z] 1 = some y := rfl
theorem atI3_2 {x y z : PV} : atI [x, y, z] 2 = some z := rfl
def IsOp (f : F) (ms : List Int) : Prop := ms.Pairwise (· < ·) ∧ ∀ x, x ∈ ms ↔ Op f x
def Nn (xs : List Int) : Prop := ∀ x ∈ xs, 0 ≤ x
def sp_digits : Sp' := fun vs H Q _ => match vs with
  | [.fls l, .int k, .int n] => (n = 2 ∨ n = 3) ∧ (0 ≤ k ∧ k < 3) ∧ ∃ ns : List Int, l = ns.map PV.int ∧ ∀ p (xs : List Int), H p = none → xs.length = 90 → Nn xs → Q (.ref p) (put H p (.lst (xs.map PV.int)))
  | _ => False
theorem e_digits {l : List PV} {k n : Int} {H : PHp} {Q : VK'} {E : XK'} : sp_digits [.fls l, .int k, .int n] H Q E = ((n = 2 ∨ n = 3) ∧ (0 ≤ k ∧ k < 3) ∧ ∃ ns : List Int, l = ns.map PV.int ∧ ∀ p (xs : List Int), H p = none → xs.length = 90 → Nn xs → Q (.ref p) (put H p (.lst (xs.map PV.int)))) := rfl
def sp_nb : Sp' := fun vs H Q _ => match vs with
  | [.int d, .int c] => (0 ≤ d ∧ 1 ≤ c ∧ c ≤ 6) ∧ ∀ L : List Int, Nm L → Q (.tup (L.map PV.int)) H
  | _ => False
theorem e_nb {d c : Int} {H : PHp} {Q : VK'} {E : XK'} : sp_nb [.int d, .int c] H Q E = ((0 ≤ d ∧ 1 ≤ c ∧ c ≤ 6) ∧ ∀ L : List Int, Nm L → Q (.tup (L.map PV.int)) H) := rfl
def need : Nat → Nat
  | 0 => 0
  | n + 1 => 2 * need n + 1
def sp_grown (n : Nat) : Sp' := fun vs H Q _ => match vs with
  | [.ref p, .int c, .int d] => (d + 1 = (n : Nat) ∧ 0 ≤ d) ∧ (1 ≤ c ∧ c ≤ 6) ∧ ∃ xs : List Int, H p = some (.lst (xs.map PV.int)) ∧ Nn xs ∧ need n ≤ xs.length ∧
    ∀ f (ys : List Int), Ok f → dp f < n → sz f ≤ need n → Nn ys → xs.length ≤ ys.length + need n → Q (fV f) (put H p (.lst (ys.map PV.int)))
  | _ => False
theorem e_grown {n : Nat} {p : Addr} {c d : Int} {H : PHp} {Q : VK'} {E : XK'} : sp_grown n [.ref p, .int c, .int d] H Q E = ((d + 1 = (n : Nat) ∧ 0 ≤ d) ∧ (1 ≤ c ∧ c ≤ 6) ∧ ∃ xs : List Int, H p = some (.lst (xs.map PV.int)) ∧ Nn xs ∧ need n ≤ xs.length ∧
    ∀ f (ys : List Int), Ok f → dp f < n → sz f ≤ need n → Nn ys → xs.length ≤ ys.length + need n → Q (fV f) (put H p (.lst (ys.map PV.int)))) := rfl
def sp_open (n : Nat) : Sp' := fun vs H Q _ => match vs with
  | [v] => ∃ f, v = fV f ∧ dp f < n ∧ Ok f ∧ ∀ ms, IsOp f ms → (∀ x ∈ ms, 0 ≤ x ∧ x < 6) → Q (.tup (ms.map PV.int)) H
  | _ => False
theorem e_open {n : Nat} {v : PV} {H : PHp} {Q : VK'} {E : XK'} : sp_open n [v] H Q E = ∃ f, v = fV f ∧ dp f < n ∧ Ok f ∧ ∀ ms, IsOp f ms → (∀ x ∈ ms, 0 ≤ x ∧ x < 6) → Q (.tup (ms.map PV.int)) H := rfl
theorem fd {a b : Int} (h0 : 0 ≤ a) (h : 0 < b) : 0 ≤ a.fdiv b := by
  rw [Int.fdiv_eq_ediv_of_nonneg _ (by omega)]
  exact Int.ediv_nonneg h0 (by omega)
theorem flat_ints {l : List Int} : (l.map PV.int).all (flat 8) = true := by
  rw [List.all_eq_true]
  intro z hz
  obtain ⟨p, _, rfl⟩ := List.mem_map.mp hz
  rfl
theorem any_int {l : List Int} {n : Int} : ((l.map PV.int).any fun z => deq z (.int n)) = decide (n ∈ l) := by
  rw [Bool.eq_iff_iff, List.any_eq_true, decide_eq_true_eq]
  constructor
  · rintro ⟨z, hz, e⟩
    obtain ⟨p, hp, rfl⟩ := List.mem_map.mp hz
    have : p = n := by simpa [deq] using e
    rw [← this]; exact hp
  · intro h
    exact ⟨_, List.mem_map.mpr ⟨_, h, rfl⟩, by simp [deq]⟩
theorem op_lo {x : Int} : ∀ {f : F}, Ok f → Op f x → 0 ≤ x ∧ x < 6
  | .one, _, h => h.elim
  | .seen _, o, h => o.2 _ h
  | .sum _ _, o, h => op_lo o.2 h.1
  | .times _ _, o, h => h.elim (op_lo o.1) (op_lo o.2)
  | .over _ _, o, h => h.elim (op_lo o.1) (op_lo o.2)
theorem isop_len {f : F} {ms : List Int} (h : IsOp f ms) (ok : Ok f) : ms.length ≤ 6 := My.nodup_le 6 _ (h.1.imp fun h => by omega) fun x hx => op_lo ok ((h.2 x).mp hx)
theorem pop_int {xs : List Int} (h : 0 < xs.length) : ∃ y, (xs.map PV.int)[(xs.map PV.int).length - 1]? = some (.int y) ∧ y ∈ xs ∧ (xs.map PV.int).dropLast = xs.dropLast.map PV.int ∧ xs.dropLast.length + 1 = xs.length ∧ ∀ z ∈ xs.dropLast, z ∈ xs := by
  have hl : xs.length - 1 < xs.length := by omega
  refine ⟨xs[xs.length - 1], ?_, List.getElem_mem _, ?_, ?_, fun z hz => List.dropLast_subset _ hz⟩
  · rw [List.length_map, List.getElem?_map, List.getElem?_eq_getElem hl]; rfl
  · rw [List.map_dropLast]
  · rw [List.length_dropLast]; omega
theorem atI_last {l : List PV} {x : PV} (h : l[l.length - 1]? = some x) : atI l (-1) = some x := by
  have hl : 0 < l.length := by
    cases l with
    | nil => cases h
    | cons a b => simp
  unfold atI ixN
  rw [if_neg (by omega), if_pos (by omega)]
  show l[((-1 : Int) + (l.length : Int)).toNat]? = some x
  rw [show ((-1 : Int) + (l.length : Int)).toNat = l.length - 1 by omega]
  exact h
theorem for_atD {ok : PHp → Prop} {g : TG'} {tb : TS'} {D : Ends'} {xs : List PV} (Pv : Nat → St' → PHp → Prop) (hd : ∀ σ H, Pv xs.length σ H → ok H ∧ D.nx σ H)
    (hs : ∀ (D' : Ends') i x σ H, xs[i]? = some x → Pv i σ H → (∀ σ' H', Pv (i + 1) σ' H' → D'.nx σ' H') → ok H ∧ g x σ H fun σ2 H2 => tb D' σ2 H2)
    {σ : St'} {H : PHp} (h0 : Pv 0 σ H) : uForL ok g tb D xs σ H := for_at Pv hd (fun G i x σ H hx p k => hs _ i x σ H hx p k) h0
theorem for_rngD {ok : PHp → Prop} {g : TG'} {tb : TS'} {D : Ends'} {lo : Int} {n : Nat} (Pv : Nat → St' → PHp → Prop) (hd : ∀ σ H, Pv n σ H → ok H ∧ D.nx σ H)
    (hs : ∀ (D' : Ends') i σ H, i < n → Pv i σ H → (∀ σ' H', Pv (i + 1) σ' H' → D'.nx σ' H') → ok H ∧ g (.int (lo + (i : Nat))) σ H fun σ2 H2 => tb D' σ2 H2)
    {σ : St'} {H : PHp} (h0 : Pv 0 σ H) : uForL ok g tb D (rngL lo n) σ H := for_rng Pv hd (fun G i σ H hi p k => hs _ i σ H hi p k) h0
theorem mem_by3 {st lo hi : Int} (z : st = 2 ∨ st = 3) {y : PV} (h : y ∈ by3L st lo (byS st lo hi)) : ∃ u, y = .int u ∧ lo ≤ u ∧ u < hi := by
  unfold by3L at h
  obtain ⟨k, hk, rfl⟩ := List.mem_map.mp h
  rw [List.mem_range] at hk
  unfold byS at hk
  rcases z with rfl | rfl <;> exact ⟨_, rfl, by omega, by omega⟩
theorem by3L_len {st lo hi : Int} (z : st = 2 ∨ st = 3) (h0 : 0 ≤ lo) (h1 : hi ≤ 63) : (by3L st lo (byS st lo hi)).length ≤ 1000 := by
  unfold by3L byS
  rw [List.length_map, List.length_range]
  rcases z with rfl | rfl <;> omega
def gI (ns : List Int) (y : PV) : Int := match y with | .int u => ns.getD u.toNat 0 | _ => 0
theorem nn_app {xs : List Int} {x : Int} (h : Nn xs) (hx : 0 ≤ x) : Nn (xs ++ [x]) := fun z hz => by
  rcases List.mem_append.mp hz with hz | hz
  · exact h z hz
  · rw [List.mem_singleton.mp hz]; exact hx
theorem nm_one {x : Int} (h : 0 ≤ x ∧ x < 6) : Nm [x] := ⟨List.pairwise_singleton _ _, fun z hz => by rw [List.mem_singleton.mp hz]; exact h⟩
theorem ix2 {d : Int} (h0 : 0 ≤ d) (h : d < 2) : (d = 0 ∧ atI [PV.str "times", PV.str "over"] d = some (.str "times")) ∨ (d = 1 ∧ atI [PV.str "times", PV.str "over"] d = some (.str "over")) := by
  have : d = 0 ∨ d = 1 := by omega
  rcases this with rfl | rfl
  · exact .inl ⟨rfl, rfl⟩
  · exact .inr ⟨rfl, rfl⟩
theorem deqs_ints : ∀ ms : List Int, deqs (ms.map PV.int) (ms.map PV.int) = true
  | [] => by simp [deqs]
  | m :: ms => by simp [deqs, deq, deqs_ints ms]
def ulN (c : Int) : List Int := (List.range c.toNat).map fun k => ((k : Nat) : Int)
theorem ul_up (c : Int) : (ulN c).Pairwise (· < ·) := by
  unfold ulN
  rw [List.pairwise_map]
  exact List.pairwise_lt_range.imp fun h => by omega
theorem mem_ulN {c x : Int} : x ∈ ulN c ↔ 0 ≤ x ∧ x < c := by
  unfold ulN
  simp only [List.mem_map, List.mem_range]
  constructor
  · rintro ⟨k, hk, rfl⟩; omega
  · intro h; exact ⟨x.toNat, by omega, by omega⟩
theorem rng_ul {c : Int} : rngL 0 c.toNat = (ulN c).map PV.int := by
  unfold rngL ulN
  rw [List.map_map]
  refine List.map_congr_left fun k _ => ?_
  show PV.int (0 + ((k : Nat) : Int)) = PV.int ((k : Nat) : Int)
  rw [Int.zero_add]
theorem ul_len {c : Int} : (ulN c).length = c.toNat := by unfold ulN; rw [List.length_map, List.length_range]
def onI (q : Int → Bool) (y : PV) : Bool := match y with | .int u => q u | _ => false
theorem ints_filter {q : Int → Bool} {l : List Int} : ((l.map PV.int).filter (onI q)).map (fun y => y) = (l.filter q).map PV.int := by
  rw [List.map_id', List.filter_map]
  rfl
def les (a b : List Int) : List Int := a.filter fun y => !decide (y ∈ b)
theorem les_nm {a b : List Int} (h : Nm a) : Nm (les a b) := ⟨h.1.filter _, fun x hx => h.2 x (List.mem_filter.mp hx).1⟩
theorem nm_len {a : List Int} (h : Nm a) : a.length ≤ 6 := My.nodup_le 6 _ (h.1.imp fun h => by omega) h.2
theorem mem_les {a b : List Int} {x : Int} : x ∈ les a b ↔ x ∈ a ∧ x ∉ b := by unfold les; rw [List.mem_filter]; simp
def sp_without : Sp' := fun vs H Q _ => match vs with
  | [.tup l, .tup m] => ∃ A B : List Int, l = A.map PV.int ∧ m = B.map PV.int ∧ A.length ≤ 1000 ∧ Q (.tup ((les A B).map PV.int)) H
  | _ => False
theorem e_without {l m : List PV} {H : PHp} {Q : VK'} {E : XK'} : sp_without [.tup l, .tup m] H Q E = ∃ A B : List Int, l = A.map PV.int ∧ m = B.map PV.int ∧ A.length ≤ 1000 ∧ Q (.tup ((les A B).map PV.int)) H := rfl
def sp_hasall : Sp' := fun vs H Q _ => match vs with
  | [.tup l, .tup m] => ∃ A B : List Int, l = A.map PV.int ∧ m = B.map PV.int ∧ B.length ≤ 1000 ∧ Q (.bl (les B A).isEmpty) H
  | _ => False
theorem e_hasall {l m : List PV} {H : PHp} {Q : VK'} {E : XK'} : sp_hasall [.tup l, .tup m] H Q E = ∃ A B : List Int, l = A.map PV.int ∧ m = B.map PV.int ∧ B.length ≤ 1000 ∧ Q (.bl (les B A).isEmpty) H := rfl
def Gd (f : F) : Prop := Ok f ∧ dp f ≤ 50 ∧ sz f ≤ 900
def eqF (a b : F) : Bool := deq (fV a) (fV b)
def plG : F → Option F
  | .sum ns (.seen ms) => if (les ns ms).isEmpty then some (.seen (les ms ns)) else none
  | _ => none
def plA : F → Option F
  | .sum ns (.over (.seen ms) (.seen ks)) => if (les ns ms).isEmpty then (if deqs (ks.map PV.int) ((les ms ns).map PV.int) then some .one else none) else none
  | _ => none
def plO : F → Option F
  | .times a b => if eqF a .one then some b else if eqF b .one then some a else none
  | .over a b => if eqF b .one then some a else none
  | .seen ns => if ns.isEmpty then some .one else none
  | _ => none
def plS : F → Option F
  | .over a b => if eqF a b then some .one else none
  | _ => none
def ovB : F → F → Option F
  | .over x y, b => if eqF y b then some x else none
  | _, _ => none
def plB : F → Option F
  | .times a b => match ovB a b with
    | some x => some x
    | none => ovB b a
  | _ => none
def pl (k : Str) (f : F) : Option F := if k = "gather" then plG f else if k = "all" then plA f else if k = "one" then plO f else if k = "same" then plS f else if k = "back" then plB f else none
theorem pl_g {f : F} : pl "gather" f = plG f := rfl
theorem pl_a {f : F} : pl "all" f = plA f := by unfold pl; rw [if_neg (by decide), if_pos rfl]
theorem pl_o {f : F} : pl "one" f = plO f := by unfold pl; rw [if_neg (by decide), if_neg (by decide), if_pos rfl]
theorem pl_s {f : F} : pl "same" f = plS f := by unfold pl; rw [if_neg (by decide), if_neg (by decide), if_neg (by decide), if_pos rfl]
theorem pl_b {f : F} : pl "back" f = plB f := by unfold pl; rw [if_neg (by decide), if_neg (by decide), if_neg (by decide), if_neg (by decide), if_pos rfl]
def oV : Option F → PV
  | none => .non
  | some f => fV f
def sp_by (k : Str) : Sp' := fun vs H Q _ => match vs with
  | [v] => ∃ f, v = fV f ∧ Gd f ∧ Q (oV (pl k f)) H
  | _ => False
theorem e_by {k : Str} {v : PV} {H : PHp} {Q : VK'} {E : XK'} : sp_by k [v] H Q E = ∃ f, v = fV f ∧ Gd f ∧ Q (oV (pl k f)) H := rfl
def isS (f : F) : Bool := wd f == ("seen" : Str)
theorem isS_of {f : F} (h : isS f = true) : ∃ ns, f = .seen ns := by
  cases f with
  | seen ns => exact ⟨ns, rfl⟩
  | _ => exact absurd (show false = true from h) (by decide)
def shG : F → Bool
  | .over a b => isS a && isS b
  | _ => false
def sp_shg : Sp' := fun vs H Q _ => match vs with
  | [v] => ∃ f, v = fV f ∧ Q (.bl (shG f)) H
  | _ => False
theorem e_shg {v : PV} {H : PHp} {Q : VK'} {E : XK'} : sp_shg [v] H Q E = ∃ f, v = fV f ∧ Q (.bl (shG f)) H := rfl
def sp_ovb : Sp' := fun vs H Q _ => match vs with
  | [v, u] => ∃ f b, v = fV f ∧ u = fV b ∧ Gd f ∧ Gd b ∧ Q (.bl (ovB f b).isSome) H
  | _ => False
theorem e_ovb {v u : PV} {H : PHp} {Q : VK'} {E : XK'} : sp_ovb [v, u] H Q E = ∃ f b, v = fV f ∧ u = fV b ∧ Gd f ∧ Gd b ∧ Q (.bl (ovB f b).isSome) H := rfl
theorem flat_fV : ∀ {f : F} {n : Nat}, dp f + 2 ≤ n → flat n (fV f) = true
  | .one, n + 1, _ => by simp [fV, flat]
  | .seen ns, n + 2, _ => by simp [fV, flat]
  | .sum ns f, n + 2, h => by
    have := flat_fV (f := f) (n := n + 1) (by simp only [dp] at h; omega)
    simp [fV, flat, this]
  | .times a b, n + 2, h => by
    have h1 := flat_fV (f := a) (n := n + 1) (by simp only [dp] at h; omega)
    have h2 := flat_fV (f := b) (n := n + 1) (by simp only [dp] at h; omega)
    simp [fV, flat, h1, h2]
  | .over a b, n + 2, h => by
    have h1 := flat_fV (f := a) (n := n + 1) (by simp only [dp] at h; omega)
    have h2 := flat_fV (f := b) (n := n + 1) (by simp only [dp] at h; omega)
    simp [fV, flat, h1, h2]
theorem Gd.fl {f : F} (h : Gd f) : flat 60 (fV f) = true := flat_fV (by have := h.2.1; omega)
theorem Gd.sum {ns : List Int} {f : F} (h : Gd (.sum ns f)) : Nm ns ∧ Gd f := by
  obtain ⟨h1, h2, h3⟩ := h
  simp only [dp, sz] at h2 h3
  exact ⟨h1.1, h1.2, by omega, by omega⟩
theorem Gd.tm {a b : F} (h : Gd (.times a b)) : Gd a ∧ Gd b := by
  obtain ⟨h1, h2, h3⟩ := h
  simp only [dp, sz] at h2 h3
  exact ⟨⟨h1.1, by omega, by omega⟩, h1.2, by omega, by omega⟩
theorem Gd.ov {a b : F} (h : Gd (.over a b)) : Gd a ∧ Gd b := by
  obtain ⟨h1, h2, h3⟩ := h
  simp only [dp, sz] at h2 h3
  exact ⟨⟨h1.1, by omega, by omega⟩, h1.2, by omega, by omega⟩
theorem deq_refl : ∀ f : F, deq (fV f) (fV f) = true
  | .one => by simp [fV, deq, deqs]
  | .seen ns => by simp [fV, deq, deqs, deqs_ints]
  | .sum ns f => by simp [fV, deq, deqs, deqs_ints, deq_refl f]
  | .times a b => by simp [fV, deq, deqs, deq_refl a, deq_refl b]
  | .over a b => by simp [fV, deq, deqs, deq_refl a, deq_refl b]
theorem eqF_one {a : F} (h : eqF a .one = true) : a = .one := by
  cases a <;> first | rfl | (simp [eqF, fV, deq, deqs] at h)
theorem isE_len {l : List Int} : (((l.map PV.int).length : Int) == 0) = l.isEmpty := by
  cases l with
  | nil => rfl
  | cons a l =>
    have : ¬ ((((a :: l).map PV.int).length : Nat) : Int) = 0 := by simp only [List.map_cons, List.length_cons]; omega
    rw [show ((a :: l).isEmpty) = false from rfl]
    exact beq_eq_false_iff_ne.mpr this
theorem cif_bl {b : Bool} {X Y : Prop} (h1 : b = true → X) (h2 : b = false → Y) : cif b X Y := by
  cases b
  · exact cif_neg (by decide) (h2 rfl)
  · exact cif_pos rfl (h1 rfl)
theorem shG_o {a b : F} : shG (.over a b) = ((wd a == ("seen" : Str)) && (wd b == ("seen" : Str))) := rfl
theorem plG_s {ns ms : List Int} : plG (.sum ns (.seen ms)) = if (les ns ms).isEmpty then some (.seen (les ms ns)) else none := rfl
theorem plA_s {ns ms ks : List Int} : plA (.sum ns (.over (.seen ms) (.seen ks))) = if (les ns ms).isEmpty then (if deqs (ks.map PV.int) ((les ms ns).map PV.int) then some .one else none) else none := rfl
theorem plA_n {ns : List Int} {g : F} (q : shG g = false) : plA (.sum ns g) = none := by
  cases g with
  | over a b =>
    cases a with
    | seen ms => cases b with
      | seen ks => exact absurd (show true = false from q) (by decide)
      | _ => rfl
    | _ => rfl
  | _ => rfl
theorem plA_y {g : F} (q : shG g = true) : ∃ ms ks, g = .over (.seen ms) (.seen ks) := by
  cases g with
  | over a b =>
    rw [shG_o, Bool.and_eq_true] at q
    obtain ⟨ms, rfl⟩ := isS_of q.1
    obtain ⟨ks, rfl⟩ := isS_of q.2
    exact ⟨ms, ks, rfl⟩
  | _ => exact absurd (show false = true from q) (by decide)
theorem plO_t {a b : F} : plO (.times a b) = if eqF a .one then some b else if eqF b .one then some a else none := rfl
theorem plO_v {a b : F} : plO (.over a b) = if eqF b .one then some a else none := rfl
theorem plO_s {ns : List Int} : plO (.seen ns) = if ns.isEmpty then some .one else none := rfl
theorem plS_v {a b : F} : plS (.over a b) = if eqF a b then some .one else none := rfl
theorem ovB_v {x y b : F} : ovB (.over x y) b = if eqF y b then some x else none := rfl
theorem plB_t {a b : F} : plB (.times a b) = (match ovB a b with | some x => some x | none => ovB b a) := rfl
theorem ovB_some {f b : F} (h : (ovB f b).isSome = true) : ∃ x y, f = .over x y ∧ ovB f b = some x := by
  cases f with
  | over x y =>
    rw [ovB_v] at h ⊢
    by_cases e : eqF y b = true
    · rw [if_pos e]; exact ⟨x, y, rfl, rfl⟩
    · rw [if_neg e] at h; cases h
  | _ => exact absurd (show false = true from h) (by decide)
def wpt (f : F) (n : Int) (g : F) : F := match f with
  | .sum ns _ => .sum ns g
  | .times a b => if n = 0 then .times g b else .times a g
  | .over a b => if n = 0 then .over g b else .over a g
  | f => f
def sp_wp : Sp' := fun vs H Q _ => match vs with
  | [v, .int n, u] => ∃ f g, v = fV f ∧ u = fV g ∧ kids f ≠ [] ∧ Q (fV (wpt f n g)) H
  | _ => False
theorem e_wp {v u : PV} {n : Int} {H : PHp} {Q : VK'} {E : XK'} : sp_wp [v, .int n, u] H Q E = ∃ f g, v = fV f ∧ u = fV g ∧ kids f ≠ [] ∧ Q (fV (wpt f n g)) H := rfl
def sp_parts : Sp' := fun vs H Q _ => match vs with
  | [v] => ∃ f, v = fV f ∧ ∀ p, H p = none → Q (.ref p) (put H p (.lst ((kids f).map fV)))
  | _ => False
theorem e_parts {v : PV} {H : PHp} {Q : VK'} {E : XK'} : sp_parts [v] H Q E = ∃ f, v = fV f ∧ ∀ p, H p = none → Q (.ref p) (put H p (.lst ((kids f).map fV))) := rfl
def wds : List Str := ["gather", "all", "one", "same", "back"]
def wdsF (f : F) : List Str := wds.filter fun k => (pl k f).isSome
def sp_words : Sp' := fun vs H Q _ => match vs with
  | [v] => ∃ f, v = fV f ∧ Gd f ∧ ∀ p, H p = none → Q (.ref p) (put H p (.lst ((wdsF f).map PV.str)))
  | _ => False
theorem e_words {v : PV} {H : PHp} {Q : VK'} {E : XK'} : sp_words [v] H Q E = ∃ f, v = fV f ∧ Gd f ∧ ∀ p, H p = none → Q (.ref p) (put H p (.lst ((wdsF f).map PV.str))) := rfl
theorem w_DF {f : F} {H : PHp} {k : PV → Prop} : withD (fV f) H k = k (fV f) := by cases f <;> rfl
theorem eqF_at {a b : F} : deq (fV a) (fV b) = eqF a b := rfl
theorem eqF_1 {a : F} : deq (fV a) (PV.tup [PV.str (Str.ofString "one")]) = eqF a .one := rfl
theorem flatI {l : List Int} {n : Nat} : (l.map PV.int).all (flat n) = true := by
  rw [List.all_eq_true]
  intro z hz
  obtain ⟨p, _, rfl⟩ := List.mem_map.mp hz
  cases n <;> rfl
theorem deqs_nil {l : List Int} : deqs (l.map PV.int) [] = l.isEmpty := by cases l <;> rfl
def pzW (f : F) (y : PV) : Bool := match y with | .str k => (pl k f).isSome | _ => false
theorem wds_map {f : F} : ((wds.map PV.str).filter (pzW f)).map (fun y => y) = (wdsF f).map PV.str := by
  rw [List.map_id', List.filter_map]
  rfl
theorem mem_wds {y : PV} (h : y ∈ wds.map PV.str) : ∃ k ∈ wds, y = .str k := let ⟨k, hk, e⟩ := List.mem_map.mp h; ⟨k, hk, e.symm⟩
def shL (t : Ad) : List (Str × Addr) := [("gather", t.a_by_gather), ("all", t.a_by_all), ("one", t.a_by_one), ("same", t.a_by_same), ("back", t.a_by_back)]
theorem find_wds (t : Ad) {k : Str} (h : k ∈ wds) : ∃ f, (shL t).find? (fun p => decide (p.1 = k)) = some (k, f) := by
  simp only [wds, List.mem_cons, List.not_mem_nil, or_false] at h
  rcases h with rfl | rfl | rfl | rfl | rfl
  · exact ⟨_, rfl⟩
  · exact ⟨_, rfl⟩
  · exact ⟨_, rfl⟩
  · exact ⟨_, rfl⟩
  · exact ⟨_, rfl⟩
theorem w_NO {b : Bool → Bool} {o : Option F} {H : PHp} {Q : VK'} : uIsN b (oV o) .non H Q = Q (.bl (b (!o.isSome))) H := by
  cases o with
  | none => rfl
  | some f => cases f <;> rfl
theorem while_abs {c : TT'} {tb : TS'} {D : Ends'} {σ : St'} {H : PHp} (h : ∀ R : TS', R = tb → uWhile c R D σ H) : uWhile c tb D σ H := h tb rfl
theorem exN2 {tb : TS'} {rt : VK'} {bk : St' → PHp → Prop} {σ : St'} {H1 : PHp} {m : Nat} {Pv : Nat → St' → PHp → Prop} (h : ∀ (N bk : St' → PHp → Prop), (∀ σ' H', (∃ m', m' < m ∧ Pv m' σ' H') → N σ' H') → tb { nx := N, rt := rt, bk := bk, ct := N } σ H1) :
    ∃ N : St' → PHp → Prop, (∀ σ' H', N σ' H' → ∃ m', m' < m ∧ Pv m' σ' H') ∧ tb { nx := N, rt := rt, bk := bk, ct := N } σ H1 := ⟨fun σ' H' => ∃ m', m' < m ∧ Pv m' σ' H', fun _ _ h => h, h _ _ fun _ _ h => h⟩
def tI (u : List Int) : PV := .tup (u.map PV.int)
abbrev Th := List Int × Str
def thV (p : Th) : PV := .tup [tI p.1, .str p.2, .tup []]
def stp (f : F) (p : Th) : Option F := match at' f p.1 with
  | some g => match pl p.2 g with
    | some k => some (pt f p.1 k)
    | none => none
  | none => none
def rn : F → List Th → Option F
  | f, [] => some f
  | f, p :: l => match stp f p with
    | some g => rn g l
    | none => none
theorem rn_app {f g : F} {l m : List Th} (h : rn f l = some g) : rn f (l ++ m) = rn g m := by
  induction l generalizing f with
  | nil => cases h; rfl
  | cons p l ih =>
    simp only [rn, List.cons_append] at h ⊢
    cases e : stp f p with
    | none => rw [e] at h; cases h
    | some k => rw [e] at h; exact ih h
theorem rn_take {f g : F} {l : List Th} {i : Nat} (h : rn f l = some g) : ∃ m, rn f (l.take i) = some m := by
  induction l generalizing f i with
  | nil => exact ⟨f, by simp [rn]⟩
  | cons p l ih =>
    cases i with
    | zero => exact ⟨f, rfl⟩
    | succ i =>
      simp only [rn, List.take_succ_cons] at h ⊢
      cases e : stp f p with
      | none => rw [e] at h; cases h
      | some k => rw [e] at h; exact ih h
theorem rn_next {f g m : F} {l : List Th} {i : Nat} {p : Th} (h : rn f l = some g) (hi : l[i]? = some p) (hm : rn f (l.take i) = some m) : ∃ m', rn f (l.take (i + 1)) = some m' ∧ stp m p = some m' := by
  obtain ⟨m', e⟩ := rn_take (i := i + 1) h
  refine ⟨m', e, ?_⟩
  rw [List.take_add_one, hi, rn_app hm] at e
  simp only [Option.toList, rn] at e
  cases z : stp m p with
  | none => rw [z] at e; cases e
  | some k => rw [z] at e; exact e
theorem stp_of {f m : F} {p : Th} (h : stp f p = some m) : ∃ g k, at' f p.1 = some g ∧ pl p.2 g = some k ∧ m = pt f p.1 k := by
  unfold stp at h
  cases e : at' f p.1 with
  | none => rw [e] at h; cases h
  | some g =>
    simp only [e] at h
    cases q : pl p.2 g with
    | none => simp only [q] at h; cases h
    | some k => simp only [q] at h; cases h; exact ⟨g, k, rfl, q, rfl⟩
theorem stp_to {f g k : F} {p : Th} (h : at' f p.1 = some g) (q : pl p.2 g = some k) : stp f p = some (pt f p.1 k) := by
  unfold stp; rw [h]; simp only [q]
def T0 (f : F) : Prop := ∀ k ∈ wds, pl k f = none
def Tn : F → Prop
  | .sum ns f => T0 (.sum ns f) ∧ Tn f
  | .times a b => T0 (.times a b) ∧ Tn a ∧ Tn b
  | .over a b => T0 (.over a b) ∧ Tn a ∧ Tn b
  | .one => T0 .one
  | .seen ns => T0 (.seen ns)
def Tk : F → Prop
  | .sum _ f => Tn f
  | .times a b => Tn a ∧ Tn b
  | .over a b => Tn a ∧ Tn b
  | .one => True
  | .seen _ => True
theorem tn_iff {f : F} : Tn f ↔ T0 f ∧ Tk f := by cases f <;> simp [Tn, Tk]
theorem tn_at {f g : F} {p : List Int} (h : Tn f) (e : at' f p = some g) : Tn g := by
  induction p generalizing f with
  | nil => rw [FM.at_nil] at e; cases e; exact h
  | cons i p ih =>
    cases f with
    | one => cases e
    | seen ns => cases e
    | sum ns f => simp only [at'] at e; split at e; exact ih h.2 e; cases e
    | times a b =>
      simp only [at'] at e
      split at e
      · exact ih h.2.1 e
      · split at e
        · exact ih h.2.2 e
        · cases e
    | over a b =>
      simp only [at'] at e
      split at e
      · exact ih h.2.1 e
      · split at e
        · exact ih h.2.2 e
        · cases e
structure Ls (f g : F) : Prop where
  ok : Ok f → Ok g
  dp : dp g ≤ dp f
  sz : sz g ≤ sz f
  op : ∀ x, Op g x → Op f x
  tk : Tk f → Tk g
theorem Ls.refl (f : F) : Ls f f := ⟨id, Nat.le_refl _, Nat.le_refl _, fun _ h => h, id⟩
theorem Ls.trans {f g h : F} (a : Ls f g) (b : Ls g h) : Ls f h := ⟨fun o => b.ok (a.ok o), Nat.le_trans b.dp a.dp, Nat.le_trans b.sz a.sz, fun x q => a.op x (b.op x q), fun q => b.tk (a.tk q)⟩
theorem Ls.gd {f g : F} (h : Ls f g) (gd : Gd f) : Gd g := ⟨h.ok gd.1, Nat.le_trans h.dp gd.2.1, Nat.le_trans h.sz gd.2.2⟩
theorem ls_one {f : F} : Ls f .one := ⟨fun _ => trivial, Nat.zero_le _, by cases f <;> simp only [sz] <;> omega, fun x h => h.elim, fun _ => trivial⟩
theorem ls_t1 {a b : F} : Ls (.times a b) a := ⟨fun o => o.1, by simp only [dp]; omega, by simp only [sz]; omega, fun x h => .inl h, fun h => (tn_iff.mp h.1).2⟩
theorem ls_t2 {a b : F} : Ls (.times a b) b := ⟨fun o => o.2, by simp only [dp]; omega, by simp only [sz]; omega, fun x h => .inr h, fun h => (tn_iff.mp h.2).2⟩
theorem ls_v1 {a b : F} : Ls (.over a b) a := ⟨fun o => o.1, by simp only [dp]; omega, by simp only [sz]; omega, fun x h => .inl h, fun h => (tn_iff.mp h.1).2⟩
theorem ls_ov {f b x : F} (h : ovB f b = some x) : ∃ y, f = .over x y := by
  cases f with
  | over u y =>
    rw [ovB_v] at h
    split at h
    · cases h; exact ⟨y, rfl⟩
    · cases h
  | _ => exact absurd (show none = some x from h) (by intro z; cases z)
theorem ls_pl {k : Str} {f g : F} (h : pl k f = some g) : Ls f g := by
  unfold pl at h
  split at h
  · cases f with
    | sum ns e => cases e with
      | seen ms =>
        rw [plG_s] at h
        split at h
        · cases h
          exact ⟨fun o => les_nm o.2, by simp only [dp]; omega, by simp only [sz]; omega, fun x q => ⟨(mem_les.mp q).1, (mem_les.mp q).2⟩, fun _ => trivial⟩
        · cases h
      | _ => cases h
    | _ => cases h
  split at h
  · cases f with
    | sum ns e =>
      by_cases q : shG e = true
      · obtain ⟨ms, ks, rfl⟩ := plA_y q
        rw [plA_s] at h
        split at h
        · split at h
          · cases h; exact ls_one
          · cases h
        · cases h
      · rw [plA_n (by simpa using q)] at h; cases h
    | _ => cases h
  split at h
  · cases f with
    | times a b =>
      rw [plO_t] at h
      split at h
      · cases h; exact ls_t2
      · split at h
        · cases h; exact ls_t1
        · cases h
    | over a b =>
      rw [plO_v] at h
      split at h
      · cases h; exact ls_v1
      · cases h
    | seen ns =>
      rw [plO_s] at h
      split at h
      · cases h; exact ls_one
      · cases h
    | _ => cases h
  split at h
  · cases f with
    | over a b =>
      rw [plS_v] at h
      split at h
      · cases h; exact ls_one
      · cases h
    | _ => cases h
  split at h
  · cases f with
    | times a b =>
      rw [plB_t] at h
      have tk : ∀ {x y : F}, Tn (.over x y) → Tk x := fun h => (tn_iff.mp h.2.1).2
      cases e : ovB a b with
      | some x =>
        rw [e] at h; cases h
        obtain ⟨y, rfl⟩ := ls_ov e
        exact (Ls.trans ls_t1 ls_v1)
      | none =>
        rw [e] at h
        obtain ⟨y, rfl⟩ := ls_ov h
        exact (Ls.trans ls_t2 ls_v1)
    | _ => cases h
  · cases h
structure Res (p : List Int) (f g : F) (new : List Th) : Prop where
  run : ∀ W, at' W p = some f → rn W new = some (pt W p g)
  wd : ∀ x ∈ new, x.2 ∈ wds
  ok : Ok f → Ok g
  dp : dp g ≤ dp f
  sz : sz g ≤ sz f
  op : ∀ x, Op g x → Op f x
theorem Res.nil {p : List Int} {f : F} : Res p f f [] := ⟨fun W h => by rw [FM.pt_at h]; rfl, fun x h => (by cases h), id, Nat.le_refl _, Nat.le_refl _, fun _ h => h⟩
theorem Res.trans {p : List Int} {f g h : F} {l m : List Th} (a : Res p f g l) (b : Res p g h m) : Res p f h (l ++ m) := by
  refine ⟨fun W e => ?_, fun x hx => (List.mem_append.mp hx).elim (a.wd x) (b.wd x), fun o => b.ok (a.ok o), Nat.le_trans b.dp a.dp, Nat.le_trans b.sz a.sz, fun x q => a.op x (b.op x q)⟩
  obtain ⟨e1, e2⟩ := FM.at_pt (g := g) e
  rw [rn_app (a.run W e), b.run _ e1, e2]
theorem Res.one {p : List Int} {f g : F} {k : Str} (hk : k ∈ wds) (h : pl k f = some g) : Res p f g [(p, k)] := by
  have l := ls_pl h
  refine ⟨fun W e => ?_, fun x hx => by rw [List.mem_singleton.mp hx]; exact hk, l.ok, l.dp, l.sz, l.op⟩
  simp only [rn]
  rw [stp_to (p := (p, k)) e h]
theorem Res.gd {p : List Int} {f g : F} {l : List Th} (h : Res p f g l) (gd : Gd f) : Gd g := ⟨h.ok gd.1, Nat.le_trans h.dp gd.2.1, Nat.le_trans h.sz gd.2.2⟩
theorem Res.part {p q : List Int} {f a g : F} {l : List Th} (e : at' f q = some a) (h : Res (p ++ q) a g l) : Res p f (pt f q g) l := by
  obtain ⟨o1, o2, o3, o4, o5, o6, o7, o8⟩ := FM.pt_ok (g := g) e
  refine ⟨fun W w => ?_, h.wd, fun o => (o1 o).2 (h.ok (o1 o).1), o7 h.dp, o8 h.sz, o6 h.op⟩
  rw [h.run W (by rw [FM.at_app w]; exact e), FM.pt_app w]
def TF (a : Addr) : List (Str × PV) := [("thinnings", .ref a)]
def Cg (H H1 : PHp) (a : Addr) : Prop := ∀ b o, b ≠ a → H b = some o → H1 b = some o
def sp_tinit (t : Ad) : Sp' := fun vs H Q _ => match vs with
  | [.ref x] => ∃ dx, H x = some (.ins t.a_Thinner dx []) ∧ ∀ a, H a = none → Q .non (put (put H a (.lst [])) x (.ins t.a_Thinner dx (TF a)))
  | _ => False
theorem e_tinit {x : Addr} {H : PHp} {Q : VK'} {E : XK'} : sp_tinit t [.ref x] H Q E = ∃ dx, H x = some (.ins t.a_Thinner dx []) ∧ ∀ a, H a = none → Q .non (put (put H a (.lst [])) x (.ins t.a_Thinner dx (TF a))) := rfl
def sp_short (t : Ad) : Sp' := fun vs H Q _ => match vs with
  | [.ref x, v, .tup l] => ∃ f p dx a ths, v = fV f ∧ l = p.map PV.int ∧ Gd f ∧ p.length ≤ 100 ∧ H x = some (.ins t.a_Thinner dx (TF a)) ∧ H a = some (.lst (ths.map thV)) ∧ ths.length ≤ 400 ∧ ∀ g new H1, Res p f g new → (Tk f → Tk g) → (T0 g ∨ (ths ++ new).length = 400) → (ths ++ new).length ≤ 400 → Cg H H1 a → H1 a = some (.lst ((ths ++ new).map thV)) → Q (fV g) H1
  | _ => False
theorem e_short {x : Addr} {v : PV} {l : List PV} {H : PHp} {Q : VK'} {E : XK'} : sp_short t [.ref x, v, .tup l] H Q E = ∃ f p dx a ths, v = fV f ∧ l = p.map PV.int ∧ Gd f ∧ p.length ≤ 100 ∧ H x = some (.ins t.a_Thinner dx (TF a)) ∧ H a = some (.lst (ths.map thV)) ∧ ths.length ≤ 400 ∧ ∀ g new H1, Res p f g new → (Tk f → Tk g) → (T0 g ∨ (ths ++ new).length = 400) → (ths ++ new).length ≤ 400 → Cg H H1 a → H1 a = some (.lst ((ths ++ new).map thV)) → Q (fV g) H1 := rfl
theorem wdsF_nil {f : F} (h : wdsF f = []) : T0 f := fun k hk => by
  unfold wdsF at h
  have := List.filter_eq_nil_iff.mp h k hk
  cases e : pl k f with
  | none => rfl
  | some g => rw [e] at this; exact absurd rfl this
theorem wdsF_cons {f : F} {k : Str} {r : List Str} (h : wdsF f = k :: r) : k ∈ wds ∧ ∃ g, pl k f = some g := by
  have : k ∈ wdsF f := by rw [h]; exact List.mem_cons_self
  unfold wdsF at this
  obtain ⟨h1, h2⟩ := List.mem_filter.mp this
  cases e : pl k f with
  | none => rw [e] at h2; cases h2
  | some g => exact ⟨h1, g, rfl⟩
def sp_thin (t : Ad) (n : Nat) : Sp' := fun vs H Q _ => match vs with
  | [.ref x, v, .tup l] => ∃ f p dx a ths, v = fV f ∧ l = p.map PV.int ∧ Gd f ∧ dp f < n ∧ p.length + dp f ≤ 100 ∧ H x = some (.ins t.a_Thinner dx (TF a)) ∧ H a = some (.lst (ths.map thV)) ∧ ths.length ≤ 400 ∧ ∀ g new H1, Res p f g new → (Tn g ∨ (ths ++ new).length = 400) → (ths ++ new).length ≤ 400 → Cg H H1 a → H1 a = some (.lst ((ths ++ new).map thV)) → Q (fV g) H1
  | _ => False
theorem e_thin {n : Nat} {x : Addr} {v : PV} {l : List PV} {H : PHp} {Q : VK'} {E : XK'} : sp_thin t n [.ref x, v, .tup l] H Q E = ∃ f p dx a ths, v = fV f ∧ l = p.map PV.int ∧ Gd f ∧ dp f < n ∧ p.length + dp f ≤ 100 ∧ H x = some (.ins t.a_Thinner dx (TF a)) ∧ H a = some (.lst (ths.map thV)) ∧ ths.length ≤ 400 ∧ ∀ g new H1, Res p f g new → (Tn g ∨ (ths ++ new).length = 400) → (ths ++ new).length ≤ 400 → Cg H H1 a → H1 a = some (.lst ((ths ++ new).map thV)) → Q (fV g) H1 := rfl
theorem kid_at {f a : F} {i : Nat} (h : (kids f)[i]? = some a) : at' f [(i : Int)] = some a ∧ (∀ g, pt f [(i : Int)] g = wpt f (i : Int) g ∧ kids (wpt f (i : Int) g) = (kids f).set i g) ∧ dp a < dp f ∧ (Gd f → Gd a) := by
  cases f with
  | one => simp [kids] at h
  | seen ns => simp [kids] at h
  | sum ns e =>
    cases i with
    | zero => cases h; exact ⟨FM.at_nil, fun g => ⟨congrArg _ FM.pt_nil, rfl⟩, by simp only [dp]; omega, fun g => g.sum.2⟩
    | succ i => simp [kids] at h
  | times x y =>
    cases i with
    | zero => cases h; exact ⟨FM.at_nil, fun g => ⟨congrArg (fun z => F.times z y) FM.pt_nil, rfl⟩, by simp only [dp]; omega, fun g => g.tm.1⟩
    | succ i => cases i with
      | zero => cases h; exact ⟨FM.at_nil, fun g => ⟨congrArg (fun z => F.times x z) FM.pt_nil, rfl⟩, by simp only [dp]; omega, fun g => g.tm.2⟩
      | succ i => simp [kids] at h
  | over x y =>
    cases i with
    | zero => cases h; exact ⟨FM.at_nil, fun g => ⟨congrArg (fun z => F.over z y) FM.pt_nil, rfl⟩, by simp only [dp]; omega, fun g => g.ov.1⟩
    | succ i => cases i with
      | zero => cases h; exact ⟨FM.at_nil, fun g => ⟨congrArg (fun z => F.over x z) FM.pt_nil, rfl⟩, by simp only [dp]; omega, fun g => g.ov.2⟩
      | succ i => simp [kids] at h
theorem tk_kids {f : F} (h : ∀ g ∈ kids f, Tn g) : Tk f := by
  cases f with
  | one => trivial
  | seen ns => trivial
  | sum ns e => exact h e (by simp [kids])
  | times x y => exact ⟨h x (by simp [kids]), h y (by simp [kids])⟩
  | over x y => exact ⟨h x (by simp [kids]), h y (by simp [kids])⟩
theorem num_get {xs : List PV} {i : Nat} {y : PV} (h : (numL xs)[i]? = some y) : ∃ x, xs[i]? = some x ∧ y = .tup [.int (i : Nat), x] := by
  unfold numL at h
  rw [List.getElem?_mapIdx] at h
  cases e : xs[i]? with
  | none => rw [e] at h; cases h
  | some x => rw [e] at h; exact ⟨x, rfl, (Option.some.inj h).symm⟩
theorem num_len {xs : List PV} : (numL xs).length = xs.length := by unfold numL; rw [List.length_mapIdx]
structure Pt (p : List Int) (f k : F) (ths new : List Th) (i : Nat) : Prop where
  res : Res p f k new
  len : (kids k).length = (kids f).length
  rest : ∀ j, i ≤ j → (kids k)[j]? = (kids f)[j]?
  tn : (∀ j g, j < i → (kids k)[j]? = some g → Tn g) ∨ (ths ++ new).length = 400
theorem Pt.next {p : List Int} {f k a g : F} {ths new l : List Th} {i : Nat} (h : Pt p f k ths new i) (ha : (kids f)[i]? = some a) (r : Res (p ++ [(i : Int)]) a g l) (t : Tn g ∨ ((ths ++ new) ++ l).length = 400) (le : ((ths ++ new) ++ l).length ≤ 400) : Pt p f (wpt k (i : Int) g) ths (new ++ l) (i + 1) := by
  have hk : (kids k)[i]? = some a := (h.rest i (Nat.le_refl _)).trans ha
  obtain ⟨e1, e2, _, _⟩ := kid_at hk
  have il : i < (kids k).length := (List.getElem?_eq_some_iff.mp hk).1
  refine ⟨?_, by rw [(e2 g).2, List.length_set]; exact h.len, fun j hj => ?_, ?_⟩
  · rw [← (e2 g).1]; exact h.res.trans (.part e1 r)
  · rw [(e2 g).2, List.getElem?_set, if_neg (by omega)]; exact h.rest j (by omega)
  · rw [← List.append_assoc]
    rcases t with t | t
    · rcases h.tn with q | q
      · refine .inl fun j e hj he => ?_
        rw [(e2 g).2, List.getElem?_set] at he
        by_cases z : i = j
        · rw [if_pos z, if_pos il] at he; cases he; exact t
        · rw [if_neg z] at he; exact q j e (by omega) he
      · exact .inr (by rw [List.length_append] at le ⊢; omega)
    · exact .inr t
structure Tld (f g : F) (new : List Th) : Prop where
  run : rn f new = some g
  wd : ∀ x ∈ new, x.2 ∈ wds
  gd : Gd g
  op : ∀ x, Op g x → Op f x
  tn : Tn g ∨ new.length = 400
  len : new.length ≤ 400
def sp_thinned (t : Ad) : Sp' := fun vs H Q _ => match vs with
  | [_, v] => ∃ f, v = fV f ∧ Gd f ∧ ∀ g new a H1, Tld f g new → Sub H H1 → H a = none → H1 a = some (.lst (new.map thV)) → Q (.tup [fV g, .ref a]) H1
  | _ => False
theorem e_thinned {d v : PV} {H : PHp} {Q : VK'} {E : XK'} : sp_thinned t [d, v] H Q E = ∃ f, v = fV f ∧ Gd f ∧ ∀ g new a H1, Tld f g new → Sub H H1 → H a = none → H1 a = some (.lst (new.map thV)) → Q (.tup [fV g, .ref a]) H1 := rfl
def sp_lpart : Sp' := fun vs H Q _ => match vs with
  | [v, .tup l] => ∃ (f : F) (q : List Int), v = fV f ∧ l = q.map PV.int ∧ Q (oV (at' f q)) H
  | _ => False
theorem e_lpart {v : PV} {l : List PV} {H : PHp} {Q : VK'} {E : XK'} : sp_lpart [v, .tup l] H Q E = ∃ (f : F) (q : List Int), v = fV f ∧ l = q.map PV.int ∧ Q (oV (at' f q)) H := rfl
def sp_lput (n : Nat) : Sp' := fun vs H Q _ => match vs with
  | [v, .tup l, u] => ∃ (f g a : F) (q : List Int), v = fV f ∧ l = q.map PV.int ∧ u = fV g ∧ at' f q = some a ∧ q.length < n ∧ q.length ≤ 100 ∧ Q (fV (pt f q g)) H
  | _ => False
theorem e_lput {n : Nat} {v u : PV} {l : List PV} {H : PHp} {Q : VK'} {E : XK'} : sp_lput n [v, .tup l, u] H Q E = ∃ (f g a : F) (q : List Int), v = fV f ∧ l = q.map PV.int ∧ u = fV g ∧ at' f q = some a ∧ q.length < n ∧ q.length ≤ 100 ∧ Q (fV (pt f q g)) H := rfl
def sp_lplain : Sp' := fun vs H Q _ => match vs with
  | [v, .str k] => ∃ f, v = fV f ∧ Gd f ∧ k ∈ wds ∧ Q (oV (pl k f)) H
  | _ => False
theorem e_lplain {v : PV} {k : Str} {H : PHp} {Q : VK'} {E : XK'} : sp_lplain [v, .str k] H Q E = ∃ f, v = fV f ∧ Gd f ∧ k ∈ wds ∧ Q (oV (pl k f)) H := rfl
def Pls (f : F) (qs : List (List Int)) : Prop := qs ≠ [] ∧ qs.length ≤ sz f ∧ ∀ q ∈ qs, q.length ≤ dp f ∧ ∃ g, at' f q = some g
def sp_spots (n : Nat) : Sp' := fun vs H Q _ => match vs with
  | [v] => ∃ f, v = fV f ∧ dp f < n ∧ Gd f ∧ ∀ qs p H1, Pls f qs → Sub H H1 → H p = none → H1 p = some (.lst (qs.map tI)) → Q (.ref p) H1
  | _ => False
theorem e_spots {n : Nat} {v : PV} {H : PHp} {Q : VK'} {E : XK'} : sp_spots n [v] H Q E = ∃ f, v = fV f ∧ dp f < n ∧ Gd f ∧ ∀ qs p H1, Pls f qs → Sub H H1 → H p = none → H1 p = some (.lst (qs.map tI)) → Q (.ref p) H1 := rfl
def sp_lthin : Sp' := fun vs H Q _ => match vs with
  | [_, v, u] => ∃ f p g, v = fV f ∧ u = thV p ∧ Gd f ∧ p.2 ∈ wds ∧ stp f p = some g ∧ p.1.length ≤ 100 ∧ Q (fV g) H
  | _ => False
theorem e_lthin {s v u : PV} {H : PHp} {Q : VK'} {E : XK'} : sp_lthin [s, v, u] H Q E = ∃ f p g, v = fV f ∧ u = thV p ∧ Gd f ∧ p.2 ∈ wds ∧ stp f p = some g ∧ p.1.length ≤ 100 ∧ Q (fV g) H := rfl
theorem at_len {f g : F} {q : List Int} (h : at' f q = some g) : q.length ≤ dp f := by
  induction q generalizing f with
  | nil => exact Nat.zero_le _
  | cons i q ih =>
    cases f with
    | one => cases h
    | seen ns => cases h
    | sum ns e => simp only [at'] at h; split at h; have := ih h; simp only [dp, List.length_cons]; omega; cases h
    | times a b =>
      simp only [at'] at h
      split at h
      · have := ih h; simp only [dp, List.length_cons]; omega
      · split at h
        · have := ih h; simp only [dp, List.length_cons]; omega
        · cases h
    | over a b =>
      simp only [at'] at h
      split at h
      · have := ih h; simp only [dp, List.length_cons]; omega
      · split at h
        · have := ih h; simp only [dp, List.length_cons]; omega
        · cases h
theorem at_split {f k : F} {q : List Int} {i : Nat} {j : Int} (h : at' f (q.take i) = some k) (hj : q[i]? = some j) : at' f q = at' k (j :: q.drop (i + 1)) ∧ at' f (q.take (i + 1)) = at' k [j] := by
  have hi := (List.getElem?_eq_some_iff.mp hj).1
  constructor
  · have e : q = q.take i ++ j :: q.drop (i + 1) := by
      have : q.drop i = j :: q.drop (i + 1) := by
        rw [List.drop_eq_getElem_cons hi]
        rw [(List.getElem?_eq_some_iff.mp hj).2]
      rw [← this, List.take_append_drop]
    conv => lhs; rw [e]
    exact FM.at_app h
  · rw [List.take_add_one, hj]
    exact FM.at_app h
theorem deqs_dec : ∀ {a b : List Int}, deqs (a.map PV.int) (b.map PV.int) = decide (a = b)
  | [], [] => by simp [deqs]
  | [], y :: b => by simp [deqs]
  | x :: a, [] => by simp [deqs]
  | x :: a, y :: b => by
    rw [List.map_cons, List.map_cons]
    simp only [deqs, deq]
    rw [deqs_dec (a := a) (b := b), Bool.eq_iff_iff]
    simp
theorem cut1 {x : PV} {l : List PV} : cutP (x :: l) (some 1) none = l := cut_from (x :: l) 1
theorem atB {x : PV} {b : Bool} : atI [.non, x] (b2n b) = some (if b then x else .non) := by cases b <;> rfl
def fL : F → List PV
  | .one => [.str "one"]
  | .seen ns => [.str "seen", .tup (ns.map PV.int)]
  | .sum ns f => [.str "sum", .tup (ns.map PV.int), fV f]
  | .times a b => [.str "times", fV a, fV b]
  | .over a b => [.str "over", fV a, fV b]
theorem w_SF {f : F} {H : PHp} {k : List PV → Prop} : withS (fV f) H k = k (fL f) := by cases f <;> rfl
theorem fL_0 {f : F} : atI (fL f) 0 = some (.str (wd f)) := by cases f <;> rfl
theorem wd_ov {a : F} (h : (wd a == ("over" : Str)) = true) : ∃ x y, a = .over x y := by
  cases a with
  | over x y => exact ⟨x, y, rfl⟩
  | _ => exact absurd (show false = true from h) (by decide)
theorem ovB_n {a b : F} (h : (wd a == ("over" : Str)) = false) : ovB a b = none := by
  cases a with
  | over x y => exact absurd (show true = false from h) (by decide)
  | _ => rfl
theorem plS_n {a : F} (h : (wd a == ("over" : Str)) = false) : plS a = none := by
  cases a with
  | over x y => exact absurd (show true = false from h) (by decide)
  | _ => rfl
theorem w_NF {b : Bool → Bool} {f : F} {H : PHp} {Q : VK'} : uIsN b (fV f) .non H Q = Q (.bl (b false)) H := by cases f <;> rfl
theorem wds_b {k : Str} (h : k ∈ wds) : (k == ("barred" : Str)) = false := by
  simp only [wds, List.mem_cons, List.not_mem_nil, or_false] at h
  rcases h with rfl | rfl | rfl | rfl | rfl <;> rfl
def pre (j : Int) (qs : List (List Int)) : List (List Int) := qs.map fun u => j :: u
def fpre (j : Int) (y : PV) : PV := match y with | .tup l => .tup (.int j :: l) | y => y
theorem pre_map {j : Int} {qs : List (List Int)} : (((qs.map tI).filter fun _ => true).map (fpre j)) = (pre j qs).map tI := by
  rw [List.filter_eq_self.mpr (fun _ _ => rfl), List.map_map]
  unfold pre
  rw [List.map_map]
  rfl
theorem mem_pre {j : Int} {qs : List (List Int)} {q : List Int} (h : q ∈ pre j qs) : ∃ u ∈ qs, q = j :: u := let ⟨u, hu, e⟩ := List.mem_map.mp h; ⟨u, hu, e.symm⟩
theorem pre_len {j : Int} {qs : List (List Int)} : (pre j qs).length = qs.length := List.length_map ..
theorem line_ge {n : Nat} (h : n ≤ 100000) : n ≤ sizeLine := by rw [sizeLine_eq]; omega
def sp_ipt : Sp' := fun vs H Q _ => match vs with
  | [v] => ∃ f, v = fV f ∧ Gd f ∧ Tn f ∧ Q (.bl true) H
  | _ => False
theorem e_ipt {v : PV} {H : PHp} {Q : VK'} {E : XK'} : sp_ipt [v] H Q E = ∃ f, v = fV f ∧ Gd f ∧ Tn f ∧ Q (.bl true) H := rfl
def sp_product : Sp' := fun vs H Q _ => match vs with
  | [.ref p] => ∃ fs : List F, H p = some (.lst (fs.map fV)) ∧ fs ≠ [] ∧ fs.length ≤ 10 ∧ (∀ f ∈ fs, Ok f ∧ dp f ≤ 1 ∧ sz f ≤ 3) ∧ ∀ g, Ok g → dp g ≤ fs.length → sz g ≤ 4 * fs.length → Q (fV g) H
  | _ => False
theorem e_product {p : Addr} {H : PHp} {Q : VK'} {E : XK'} : sp_product [.ref p] H Q E = ∃ fs : List F, H p = some (.lst (fs.map fV)) ∧ fs ≠ [] ∧ fs.length ≤ 10 ∧ (∀ f ∈ fs, Ok f ∧ dp f ≤ 1 ∧ sz f ≤ 3) ∧ ∀ g, Ok g → dp g ≤ fs.length → sz g ≤ 4 * fs.length → Q (fV g) H := rfl
def sp_tright : Sp' := fun vs H Q _ => match vs with
  | [_, v, u] => ∃ f g new a, v = fV f ∧ u = .tup [fV g, .ref a] ∧ Gd f ∧ H a = some (.lst (new.map thV)) ∧ Tld f g new ∧ Q (.bl true) H
  | _ => False
theorem e_tright {s v u : PV} {H : PHp} {Q : VK'} {E : XK'} : sp_tright [s, v, u] H Q E = ∃ f g new a, v = fV f ∧ u = .tup [fV g, .ref a] ∧ Gd f ∧ H a = some (.lst (new.map thV)) ∧ Tld f g new ∧ Q (.bl true) H := rfl
def Shp (H : PHp) (r : Addr) (c : Int) (ts bs : List P2) : Prop := ∃ r1 r2, H r = some (.lst [.int c, .ref r1, .ref r2]) ∧ H r1 = some (.lst (ts.map prV)) ∧ H r2 = some (.lst (bs.map prV)) ∧ (1 ≤ c ∧ c ≤ 4) ∧ Good c ts ∧ Good c bs ∧ bs.length ≤ 6
theorem Shp.up {H H1 : PHp} {r : Addr} {c : Int} {ts bs : List P2} (h : Shp H r c ts bs) (s : U.Sub H H1) : Shp H1 r c ts bs := by
  obtain ⟨r1, r2, h1, h2, h3, h4⟩ := h
  exact ⟨r1, r2, s _ _ h1, s _ _ h2, s _ _ h3, h4⟩
def sp_shape : Sp' := fun vs H Q _ => match vs with
  | [.ref p, .int a, .int b] => a = 1 ∧ b = 4 ∧ ∃ xs : List Int, H p = some (.lst (xs.map PV.int)) ∧ Nn xs ∧ 20 ≤ xs.length ∧ ∀ c ts bs r H1, Cg H H1 p → Shp H1 r c ts bs → Q (.ref r) H1
  | _ => False
theorem e_shape {p : Addr} {a b : Int} {H : PHp} {Q : VK'} {E : XK'} : sp_shape [.ref p, .int a, .int b] H Q E = (a = 1 ∧ b = 4 ∧ ∃ xs : List Int, H p = some (.lst (xs.map PV.int)) ∧ Nn xs ∧ 20 ≤ xs.length ∧ ∀ c ts bs r H1, Cg H H1 p → Shp H1 r c ts bs → Q (.ref r) H1) := rfl
def sp_shares : Sp' := fun vs H Q _ => match vs with
  | [.ref p, .int c] => (1 ≤ c ∧ c ≤ 4) ∧ ∃ xs : List Int, H p = some (.lst (xs.map PV.int)) ∧ Nn xs ∧ 40 ≤ xs.length ∧ ∀ g H1, Gd g → Cg H H1 p → Q (fV g) H1
  | _ => False
theorem e_shares {p : Addr} {c : Int} {H : PHp} {Q : VK'} {E : XK'} : sp_shares [.ref p, .int c] H Q E = ((1 ≤ c ∧ c ≤ 4) ∧ ∃ xs : List Int, H p = some (.lst (xs.map PV.int)) ∧ Nn xs ∧ 40 ≤ xs.length ∧ ∀ g H1, Gd g → Cg H H1 p → Q (fV g) H1) := rfl
def sp_like : Sp' := fun vs H Q _ => match vs with
  | [.ref p, .int c, .int w] => (1 ≤ c ∧ c ≤ 4) ∧ (0 ≤ w ∧ w ≤ 6) ∧ ∃ xs : List Int, H p = some (.lst (xs.map PV.int)) ∧ Nn xs ∧ 16 ≤ xs.length ∧ ∀ g (ys : List Int) H1, Ok g → dp g ≤ 4 → sz g ≤ 20 → Nn ys → xs.length ≤ ys.length + 14 → Cg H H1 p → H1 p = some (.lst (ys.map PV.int)) → Q (fV g) H1
  | _ => False
theorem e_like {p : Addr} {c w : Int} {H : PHp} {Q : VK'} {E : XK'} : sp_like [.ref p, .int c, .int w] H Q E = ((1 ≤ c ∧ c ≤ 4) ∧ (0 ≤ w ∧ w ≤ 6) ∧ ∃ xs : List Int, H p = some (.lst (xs.map PV.int)) ∧ Nn xs ∧ 16 ≤ xs.length ∧ ∀ g (ys : List Int) H1, Ok g → dp g ≤ 4 → sz g ≤ 20 → Nn ys → xs.length ≤ ys.length + 14 → Cg H H1 p → H1 p = some (.lst (ys.map PV.int)) → Q (fV g) H1) := rfl
def sp_anyf : Sp' := fun vs H Q _ => match vs with
  | [.fls l, .ref r] => ∃ (ns : List Int) (c : Int) (ts bs : List P2), l = ns.map PV.int ∧ Shp H r c ts bs ∧ ∀ g H1, Gd g → Sub H H1 → Q (fV g) H1
  | _ => False
theorem e_anyf {l : List PV} {r : Addr} {H : PHp} {Q : VK'} {E : XK'} : sp_anyf [.fls l, .ref r] H Q E = ∃ (ns : List Int) (c : Int) (ts bs : List P2), l = ns.map PV.int ∧ Shp H r c ts bs ∧ ∀ g H1, Gd g → Sub H H1 → Q (fV g) H1 := rfl
theorem nm_ul {c : Int} (h : c ≤ 6) : Nm (ulN c) := ⟨ul_up c, fun x hx => by have := mem_ulN.mp hx; omega⟩
def rowF (i : Int) : F := .over (.seen (ulN (i + 1))) (.seen (ulN i))
theorem rowF_ok {i : Int} (h : i < 5) : Ok (rowF i) ∧ dp (rowF i) ≤ 1 ∧ sz (rowF i) ≤ 3 := ⟨⟨nm_ul (by omega), nm_ul (by omega)⟩, by simp [rowF, dp], by simp [rowF, sz]⟩
theorem ul_nm {c : Int} {q : Int → Bool} (h : c ≤ 6) : Nm ((ulN c).filter q) := ⟨(ul_up c).filter _, fun x hx => by have := mem_ulN.mp (List.mem_filter.mp hx).1; omega⟩
theorem ul_fil {c : Int} {q : Int → Bool} : (((rngL 0 c.toNat)).filter (onI q)).map (fun y => y) = ((ulN c).filter q).map PV.int := by rw [rng_ul, ints_filter]
theorem fn_or {P : Program} {w : World} {K : PySem.W.Frag} {mg : Str → Option Value} {base : Heap} {CX : CXT} {k : Nat} {f : Addr} {fd : FuncData} {ps : List Str} {sp1 sp2 : Sp'} (F : FnOk' P w K mg base CX k f fd ps sp1) (G : FnOk' P w K mg base CX k f fd ps sp2) : FnOk' P w K mg base CX k f fd ps (fun vs H Q E => sp1 vs H Q E ∨ sp2 vs H Q E) :=
  ⟨fun vs H Q E h => by
    obtain ⟨vs', H', Q', E', a, b, c, d, e⟩ := h
    rcases c with c | c
    · exact F.len vs H Q E ⟨vs', H', Q', E', a, b, c, d, e⟩
    · exact G.len vs H Q E ⟨vs', H', Q', E', a, b, c, d, e⟩, fun A outer s H args us vs Q E hr he hb hv h => by
    obtain ⟨vs', H', Q', E', a, b, c, d, e⟩ := h
    rcases c with c | c
    · exact F.run A outer s H args us vs Q E hr he hb hv ⟨vs', H', Q', E', a, b, c, d, e⟩
    · exact G.run A outer s H args us vs Q E hr he hb hv ⟨vs', H', Q', E', a, b, c, d, e⟩⟩
theorem at2B {x y : PV} {b : Bool} : atI [x, y] (b2n b) = some (if b then y else x) := by cases b <;> rfl
theorem sort_nm {B ms : List Int} {k : Int} (nB : Nm B) (hk : 0 ≤ k ∧ k < 6) (nk : k ∉ B) (p : ms.Perm (B ++ [k])) (s : ms.Pairwise (· ≤ ·)) : Nm ms := by
  have nd : (B ++ [k]).Nodup := List.nodup_append.mpr ⟨nB.1.imp fun h => by omega, by simp, fun a ha b hb e => nk (by rw [← List.mem_singleton.mp hb, ← e]; exact ha)⟩
  have nd2 : ms.Nodup := p.nodup_iff.mpr nd
  refine ⟨?_, fun x hx => ?_⟩
  · have := List.Pairwise.and s nd2
    exact this.imp fun h => by have := h.1; have := h.2; omega
  · rcases List.mem_append.mp (p.mem_iff.mp hx) with h | h
    · exact nB.2 x h
    · rw [List.mem_singleton.mp h]; exact hk
theorem one_rp {k : Addr} {tk : Tok} {n : Nat} (l : K.lookup k = some ⟨.type "tuple", none, .seq #[.str "one" tk] n, #[]⟩) (H : Hp) : RP K H (.tup [.str "one"]) (.ref k) := by
  simp only [RP]
  refine ⟨k, [.str "one"], rfl, .inr ⟨_, _, _, l, rfl, rfl, by rw [sizeLine_eq]; show 1 ≤ _; omega, .cons ⟨_, rfl⟩ .nil⟩, ?_⟩
  exact RPs.cons _ (by simp [RP]) (RPs.nil _)
theorem sh_k {a f1 f2 f3 f4 f5 : Addr} {t1 t2 t3 t4 t5 : Tok} {ep : Nat} (lo : (a == sysModules) = false) (l : K.lookup a = some ⟨.type "dict", none, .dict #[{ hash := PyData.keyHash w.params "gather", key := .str "gather" t1, val := .ref f1 }, { hash := PyData.keyHash w.params "all", key := .str "all" t2, val := .ref f2 }, { hash := PyData.keyHash w.params "one", key := .str "one" t3, val := .ref f3 }, { hash := PyData.keyHash w.params "same", key := .str "same" t4, val := .ref f4 }, { hash := PyData.keyHash w.params "back", key := .str "back" t5, val := .ref f5 }] ep, #[]⟩) : ShK w K a [("gather", f1), ("all", f2), ("one", f3), ("same", f4), ("back", f5)] :=
  ⟨lo, _, _, l, _, _, rfl, ⟨_, rfl⟩, rfl, rfl, _, _, rfl, ⟨_, rfl⟩, rfl, rfl, _, _, rfl, ⟨_, rfl⟩, rfl, rfl, _, _, rfl, ⟨_, rfl⟩, rfl, rfl, _, _, rfl, ⟨_, rfl⟩, rfl, rfl, rfl⟩

end
section
variable {P : Program} {w : World} {K : PySem.W.Frag} {mg : Str → Option Value} {base : Heap} {t : Ad}
open FM (F Op Ok dp sz Nm at' pt)
open DM (P2 Good)
local macro_rules | `(tactic| walk_at "rd") => `(tactic| simp only [uRet, uRetN, uOp, uI, uI0, uIx, uVar, uC, uSeq, uAsg, vName, uIfS, uNext, uDrop, uTest, uChain, uAnd, uOr, uNot, uAndV, uOrV, uNotV, uIf, uUn, uNil, uCons, uTup, uLst, uCB, uLen, uAbs, uInt, uList, uTuple, uSlice, uNoPart, uPart,
  uCall, uComp, uYes, uChain3, uFld, w_fl, uStFld, w_sf, uMeth, w_ii, uMake, w_al, w_ls, w_sp, uLenSet, w_rv, w_cl, w_in, uCat, w_ca, w_si, w_et, uShr, uBand, uTupR, w_tR, uLsR, w_lR, w_ul, uSliceT, w_sT, uCatT, w_cT, uEn, w_en, uSum, w_su, uEqW, uNeW, uBy3, w_s3, uRev, w_rA, atI_c0, atI3_1, atI3_2, w_mi, uEnL, w_sj, w_DF, w_SF, fL_0, w_NF, w_NO, uItSh, uShG, uCallS, uFor, uSeqI, uEqG, uInG, BT.sub, BT.nm, w_bm, w_il, uBM0, ends, uBreak, uCont, start', flat, deq, deqs, w_V, w_B, w_I, w_O, w_St, w_Sf, w_Sr, w_Dr, w_Dn, w_Db, w_Di, w_Ds, w_Dt, w_Df, w_Tn, w_Tb, w_Ti, w_Ts, w_Tt, w_Tf, w_Tr, w_Ni, w_Nb, w_Lf, w_Lr, w_Lt, w_Xt, w_Xf, w_Xr, w_1, w_isi, w_n0, w_n1, w_n2, w_n3, w_n4, w_vt, w_vc, w_vn, w_r1, w_r1', w_r2, w_r2', w_ap, w_ex, w_po, cif_t, cif_f,
  List.map_cons, List.map_nil, List.length_cons, List.length_nil, Nat.reduceAdd, Nat.reduceSub, Nat.add_sub_cancel, Nat.sub_self, Nat.zero_add, List.replicate_succ, List.replicate_zero, List.cons_append, List.nil_append, List.append_nil, List.getElem?_cons_zero, List.getElem?_cons_succ, List.set_cons_zero, List.set_cons_succ,
  atI2_0, atI2_1, List.all_cons, List.all_nil, Bool.and_self, Bool.and_true, Bool.true_and, Bool.not_true, Bool.not_false, true_and, and_true, put_same, Option.some.injEq, PO.lst.injEq, exists_eq_left', Int.zero_add , e_ispair, e_arepairs, e_init, e_cell, e_digits, e_nb, e_grown, e_open, e_without, e_hasall, e_by, e_shg, e_ovb, e_wp, e_parts, e_words, e_tinit, e_short, e_thin, e_thinned, e_lpart, e_lput, e_lplain, e_spots, e_lthin, e_ipt, e_product, e_tright, e_shape, e_shares, e_like, e_anyf])
local macro_rules | `(tactic| walk_at "st") => `(tactic| repeat (first | refine cif_pos rfl ?_ | refine cif_neg rfl ?_))
theorem G_is_pair (T : Tx w K mg t) : FnOk' P w K mg base CX0 1 t.a_is_pair t.d_is_pair ["count", "pair"] sp_ispair := by
  refine okU (k := 0) T.F_is_pair sc_is_pair (fun vs H Q E h => by
    unfold sp_ispair at h
    split at h
    · rfl
    · exact h.elim) (fun cdv A outer s H E B hr => ⟨_, (qss_one (qs_ret (qe_and (qe_cmp (op_eqU hr.units) vr_eq (qe_callB call_len_seq vc_len rfl T.b_len PySem.boot_len (qa_cons (qv 1) qa_nil)) qe_int (nomark _)) (qe_one (qe_chain3 op_le vr_le op_lt vr_lt op_lt vr_lt qe_int (qe_ix (qv 1) qe_int (fun _ _ => rfl)) (qe_ix (qv 1) qe_int (fun _ _ => rfl)) (qv 0)))))), ?_⟩)
  intro vs H Q E h
  unfold sp_ispair at h
  split at h
  · rename_i c u v
    obtain ⟨⟨h1, h2, h3⟩, h⟩ := h
    walk_at "rd"
    exact cif_pos rfl (cif_pos (by simpa using h1) (cif_pos (by simpa using h2) ⟨H, Sub.refl _, by rw [decide_eq_true h3]; exact h⟩))
  · exact h.elim

theorem G_are_pairs (T : Tx w K mg t) : FnOk' P w K mg base CX0 2 t.a_are_pairs t.d_are_pairs ["count", "pairs"] sp_arepairs := by
  refine okU (k := 1) T.F_are_pairs sc_are_pairs (fun vs H Q E h => by
    unfold sp_arepairs at h
    split at h
    · rfl
    · exact h.elim) (fun cdv A outer s H E B hr => ⟨_, (qss_one (qs_ret (qe_and (qe_callB (call_all rfl) vc_all rfl T.b_all boot_all (qa_cons (qe_comp (N2 := ["pair", "count"]) (nt := 1) (js := [0]) (cok (sc := defScope s_are_pairs) (by exact rfl) (by repeat (first | exact trivial | refine ⟨rfl, ?_⟩)) rfl (by rfl) (by decide +kernel) (by decide +kernel) (by rfl) (by decide +kernel) (by rfl) (by rfl)) rfl (qi_seq (qv 1)) (fun s0 H0 fp ps => ⟨(qg_name (i := 0) (show List.Nodup (["pair", "count"] : List Str) by decide +kernel) rfl (by first | exact Or.inl rfl | exact Or.inr rfl)), qif_nil, (qe_call (G_is_pair T) (hr.mono (by decide)) rfl T.g_is_pair T.F_is_pair.kp T.B_is_pair (qa_cons (qv 1) (qa_cons (qv 0) qa_nil)))⟩)) qa_nil)) (qe_one (qe_cmp (op_eqU hr.units) vr_eq (qe_len_set rfl hr.units rfl T.b_len rfl T.b_set boot_set (qv 1)) (qe_callB call_len_seq vc_len rfl T.b_len PySem.boot_len (qa_cons (qv 1) qa_nil)) (nomark _)))))), ?_⟩)
  intro vs H Q E h
  unfold sp_arepairs at h
  split at h
  · rename_i c a
    obtain ⟨ps, ha, gd, hc, h⟩ := h
    have h15 := gd.len hc
    walk_at "rd"
    refine ⟨_, ha, fun acc hacc => ?_⟩
    have hna := ne_none ha hacc
    refine comp_pure (fun _ => .bl true) (fun _ => true) (fun σ => ∃ x, σ = [x, some (.int c)]) (by rw [List.length_map]; omega) (fun l => (put_ne hna).trans ha) ?step ?fin ⟨_, rfl⟩
    case step =>
      rintro y hy l σ R ⟨x, rfl⟩ hl kT kF
      obtain ⟨p, hp, rfl⟩ := List.mem_map.mp hy
      have b := gd.lo p hp
      unfold prV
      walk_at "rd"
      exact ⟨b, hl, by rw [put_put]; exact kT rfl _ ⟨_, rfl⟩⟩
    case fin =>
      walk_at "rd"
      refine ⟨ps.map fun _ => true, by rw [List.filter_eq_self.mpr (fun _ _ => rfl), List.map_map, List.map_map]; rfl, cif_pos (by simp) ⟨ps, (put_ne hna).trans ha, gd.nd, gd.prs hc, h15, _, (put_ne hna).trans ha, H, Sub.put (Sub.refl _) hacc, ?_⟩⟩
      rw [List.length_map, beq_self_eq_true]
      exact h
  · exact h.elim

theorem G_Drawing_init (T : Tx w K mg t) : FnOk' P w K mg base CX0 3 t.a_Drawing_init t.d_Drawing_init ["self", "count", "ties", "bows"] (sp_init t) := by
  refine okU (k := 2) T.F_Drawing_init sc_Drawing_init (fun vs H Q E h => by
    unfold sp_init at h
    split at h
    · rfl
    · exact h.elim) (fun cdv A outer s H E B hr => ⟨_, (qss_cons (qs_if (qt_bool (qw_or (qt_cmp op_lt vr_lt (qv 1) qe_int (nomark _)) (qw_or1 (qt_cmp op_gt vr_gt (qv 1) (qe_globE (v' := .int 6) rfl T.c_MOST_NAMES (fun _ => by simp [RP])) (nomark _)))))
    qss_never
    qss_nil)
    (qss_cons (qs_setC (i := 4) sc_Drawing_init.nd rfl (by first | exact Or.inl rfl | exact Or.inr rfl) (N2 := ["tie"]) (nt := 1) (js := []) (cok (sc := defScope s_Drawing_init) (by exact rfl) (by repeat (first | exact trivial | refine ⟨rfl, ?_⟩)) rfl (by rfl) (by decide +kernel) (by decide +kernel) (by rfl) (by decide +kernel) (by rfl) (by rfl)) rfl (qi_seq (qv 2)) (fun s0 H0 fp ps => ⟨(qg_name (i := 0) (show List.Nodup (["tie"] : List Str) by decide +kernel) rfl (by first | exact Or.inl rfl | exact Or.inr rfl)), qif_nil, (qe_callTy call_tuple_of vc_tuple rfl T.b_tuple boot_tuple (qa_cons (qv 0) qa_nil))⟩))
    (qss_cons (qs_if (qt_not (qt_val (qe_call (G_are_pairs T) (hr.mono (by decide)) rfl T.g_are_pairs T.F_are_pairs.kp T.B_are_pairs (qa_cons (qv 1) (qa_cons (qv 4) qa_nil)))))
    qss_never
    qss_nil)
    (qss_cons (qs_setC (i := 5) sc_Drawing_init.nd rfl (by first | exact Or.inl rfl | exact Or.inr rfl) (N2 := ["bow"]) (nt := 1) (js := []) (cok (sc := defScope s_Drawing_init) (by exact rfl) (by repeat (first | exact trivial | refine ⟨rfl, ?_⟩)) rfl (by rfl) (by decide +kernel) (by decide +kernel) (by rfl) (by decide +kernel) (by rfl) (by rfl)) rfl (qi_seq (qv 3)) (fun s0 H0 fp ps => ⟨(qg_name (i := 0) (show List.Nodup (["bow"] : List Str) by decide +kernel) rfl (by first | exact Or.inl rfl | exact Or.inr rfl)), qif_nil, (qe_callTy call_tuple_of vc_tuple rfl T.b_tuple boot_tuple (qa_cons (qv 0) qa_nil))⟩))
    (qss_cons (qs_if (qt_not (qt_val (qe_call (G_are_pairs T) (hr.mono (by decide)) rfl T.g_are_pairs T.F_are_pairs.kp T.B_are_pairs (qa_cons (qv 1) (qa_cons (qv 5) qa_nil)))))
    qss_never
    qss_nil)
    (qss_cons (qs_if (qt_cmp op_gt vr_gt (qe_callB call_len_seq vc_len rfl T.b_len PySem.boot_len (qa_cons (qv 5) qa_nil)) (qe_globE (v' := .int 6) rfl T.c_MOST_BOWS (fun _ => by simp [RP])) (nomark _))
    qss_never
    qss_nil)
    (qss_cons (qs_fld (qv 0) (qv 1) T.cl_Drawing T.nf_Drawing_count rfl)
    (qss_cons (qs_fld (qv 0) (qe_callTy call_tuple_of vc_tuple rfl T.b_tuple boot_tuple (qa_cons (qe_callB call_sortP vc_sortP rfl T.b_sorted boot_sorted (qa_cons (qv 4) qa_nil)) qa_nil)) T.cl_Drawing T.nf_Drawing_ties rfl)
    (qss_one (qs_fld (qv 0) (qe_callTy call_tuple_of vc_tuple rfl T.b_tuple boot_tuple (qa_cons (qe_callB call_sortP vc_sortP rfl T.b_sorted boot_sorted (qa_cons (qv 5) qa_nil)) qa_nil)) T.cl_Drawing T.nf_Drawing_bows rfl)))))))))), ?_⟩)
  intro vs H Q E h
  unfold sp_init at h
  split at h
  · rename_i x c a b
    obtain ⟨dx, ys, zs, ps, qs, hx, ha, hb, ry, rz, gp, gq, ⟨c1, c6, q6⟩, h⟩ := h
    have hp15 := gp.len c6
    have hq15 := gq.len c6
    refine seq_abs fun R hR => ?_
    walk_at "rd"
    refine cif_neg (by simp; omega) (cif_neg (by simp; omega) ?_)
    subst hR
    refine seq_abs fun R hR => ?_
    walk_at "rd"
    refine ⟨_, ha, fun p1 hp1 => ?_⟩
    refine comp_pure (rowT H) (fun _ => true) (fun σ => ∃ z, σ = [z]) (by rw [ry.length]; omega) (fun l => (put_ne (ne_none ha hp1)).trans ha) ?_ ?_ ⟨_, rfl⟩
    · rintro y hy l σ R' ⟨z, rfl⟩ hl kT kF
      obtain ⟨p, hp, row⟩ := pd_mem ry hy
      rcases row with rfl | ⟨r, rfl, hr⟩
      · unfold prV
        walk_at "rd"
        exact ⟨hl, by rw [put_put]; exact kT rfl _ ⟨_, rfl⟩⟩
      · rw [rowT_ref hr] at kT
        walk_at "rd"
        exact ⟨_, (put_ne (ne_none hr hp1)).trans hr, hl, by rw [put_put]; exact kT rfl _ ⟨_, rfl⟩⟩
    rw [List.filter_eq_self.mpr (fun _ _ => rfl), rows_map ry]
    subst hR
    have sb1 : U.Sub H (put H p1 (.lst (ps.map prV))) := Sub.put (Sub.refl _) hp1
    refine seq_abs fun R hR => ?_
    walk_at "rd"
    refine ⟨ps, rfl, gp, c6, ?_⟩
    try walk_at "rd"
    subst hR
    have hp1s : put H p1 (.lst (ps.map prV)) p1 = some (.lst (ps.map prV)) := put_same
    have hx1 := sb1 _ _ hx
    have hb1 := sb1 _ _ hb
    have rz1 := rz.up sb1
    generalize put H p1 (.lst (ps.map prV)) = H1 at *
    refine seq_abs fun R hR => ?_
    walk_at "rd"
    refine ⟨_, hb1, fun p2 hp2 => ?_⟩
    refine comp_pure (rowT H1) (fun _ => true) (fun σ => ∃ z, σ = [z]) (by rw [rz1.length]; omega) (fun l => (put_ne (ne_none hb1 hp2)).trans hb1) ?_ ?_ ⟨_, rfl⟩
    · rintro y hy l σ R' ⟨z, rfl⟩ hl kT kF
      obtain ⟨p, hp, row⟩ := pd_mem rz1 hy
      rcases row with rfl | ⟨r, rfl, hr⟩
      · unfold prV
        walk_at "rd"
        exact ⟨hl, by rw [put_put]; exact kT rfl _ ⟨_, rfl⟩⟩
      · rw [rowT_ref hr] at kT
        walk_at "rd"
        exact ⟨_, (put_ne (ne_none hr hp2)).trans hr, hl, by rw [put_put]; exact kT rfl _ ⟨_, rfl⟩⟩
    rw [List.filter_eq_self.mpr (fun _ _ => rfl), rows_map rz1]
    subst hR
    have sb2 : U.Sub H1 (put H1 p2 (.lst (qs.map prV))) := Sub.put (Sub.refl _) hp2
    have hp1t := sb2 _ _ hp1s
    have hx2 := sb2 _ _ hx1
    have hp2s : put H1 p2 (.lst (qs.map prV)) p2 = some (.lst (qs.map prV)) := put_same
    refine seq_abs fun R hR => ?_
    walk_at "rd"
    refine ⟨qs, rfl, gq, c6, ?_⟩
    try walk_at "rd"
    subst hR
    have sb3 := sb1.trans sb2
    generalize put H1 p2 (.lst (qs.map prV)) = H2 at *
    refine seq_abs fun R hR => ?_
    walk_at "rd"
    refine ⟨_, hp2s, cif_neg (by rw [List.length_map]; simp; omega) ?_⟩
    subst hR
    refine seq_abs fun R hR => ?_
    walk_at "rd"
    refine ⟨_, _, hx2, by simp, ?_⟩
    subst hR
    have n1 : p1 ≠ x := fun e => by subst e; rw [hx2] at hp1t; cases hp1t
    have n2 : p2 ≠ x := fun e => by subst e; rw [hx2] at hp2s; cases hp2s
    refine seq_abs fun R hR => ?_
    walk_at "rd"
    refine ⟨ps, (put_ne n1).trans hp1t, gp.nd, fun p hp => ?_, by omega, fun r1 ts hr1 pt st => ?_⟩
    · have := gp.lo p hp; omega
    try walk_at "rd"
    have nx1 : x ≠ r1 := fun e => by subst e; rw [put_same] at hr1; cases hr1
    refine ⟨_, _, (put_ne nx1).trans put_same, Nat.lt_of_le_of_lt putU_len (by decide), ?_⟩
    subst hR
    have n3 : p2 ≠ r1 := fun e => by subst e; rw [put_ne n2, hp2s] at hr1; cases hr1
    walk_at "rd"
    refine ⟨qs, (put_ne n2).trans ((put_ne n3).trans ((put_ne n2).trans hp2s)), gq.nd, fun p hp => ?_, by omega, fun r2 bs hr2 pb sb => ?_⟩
    · have := gq.lo p hp; omega
    try walk_at "rd"
    have nx2 : x ≠ r2 := fun e => by subst e; rw [put_same] at hr2; cases hr2
    have ul := fun f v fs => @putU_len f v fs
    refine ⟨_, _, (put_ne nx2).trans put_same, ?_, put H x (.ins t.a_Drawing dx (DF c ts bs)), sub_putx ?_ put_same, h ts bs pt st pb sb⟩
    · have l1 := ul "ties" (.tup (ts.map prV)) (putU "count" (.int c) [])
      have l2 := ul "count" (.int c) []
      simp only [List.length_nil] at l2
      omega
    · intro z o hzx hz
      have hz2 := sb3 _ _ hz
      have z1 : z ≠ r1 := fun e => by subst e; rw [put_ne hzx, hz2] at hr1; cases hr1
      have z2 : z ≠ r2 := fun e => by subst e; rw [put_ne hzx, put_ne z1, put_ne hzx, hz2] at hr2; cases hr2
      rw [put_ne hzx, put_ne z2, put_ne hzx, put_ne z1, put_ne hzx]
      exact hz2
  · exact h.elim

theorem G_law_cell_at (T : Tx w K mg t) : FnOk' P w K mg base CX0 1 t.a_law_cell_at t.d_law_cell_at ["_law_script", "_law_k"] sp_cell := by
  refine okU (k := 0) T.F_law_cell_at sc_law_cell_at (fun vs H Q E h => by
    unfold sp_cell at h
    split at h
    · rfl
    · exact h.elim) (fun cdv A outer s H E B hr => ⟨_, (qss_cons (qs_if (qt_cmp op_lt vr_lt (qv 1) (qe_callB call_len_seq vc_len rfl T.b_len PySem.boot_len (qa_cons (qv 0) qa_nil)) (nomark _))
    (qss_one (qs_ret (qe_ix (qv 0) (qv 1) (fun _ _ => rfl))))
    qss_nil)
    (qss_one (qs_ret qe_int))), ?_⟩)
  intro vs H Q E h
  unfold sp_cell at h
  split at h
  · rename_i l k
    obtain ⟨⟨h0, h1⟩, ns, rfl, h⟩ := h
    walk_at "rd"
    by_cases hk : k < ns.length
    · refine cif_pos (by rw [List.length_map]; simpa using hk) ?_
      rw [atI_int h0 hk]
      exact ⟨H, Sub.refl _, h⟩
    · refine cif_neg (by rw [List.length_map]; simpa using hk) ⟨H, Sub.refl _, ?_⟩
      rw [List.getD_eq_getElem?_getD, List.getElem?_eq_none (by omega)] at h
      exact h
  · exact h.elim

theorem G_without (T : Tx w K mg t) : FnOk' P w K mg base CX0 1 t.a_without t.d_without ["names", "others"] sp_without := by
  refine okU (k := 0) T.F_without sc_without (fun vs H Q E h => by
    unfold sp_without at h
    split at h
    · rfl
    · exact h.elim) (fun cdv A outer s H E B hr => ⟨_, (qss_one (qs_ret (qe_callTy call_tuple_of vc_tuple rfl T.b_tuple boot_tuple (qa_cons (qe_comp (N2 := ["name", "others"]) (nt := 1) (js := [1]) (cok (sc := defScope s_without) (by exact rfl) (by repeat (first | exact trivial | refine ⟨rfl, ?_⟩)) rfl (by rfl) (by decide +kernel) (by decide +kernel) (by rfl) (by decide +kernel) (by rfl) (by rfl)) rfl (qi_seq (qv 0)) (fun s0 H0 fp ps => ⟨(qg_name (i := 0) (show List.Nodup (["name", "others"] : List Str) by decide +kernel) rfl (by first | exact Or.inl rfl | exact Or.inr rfl)), (qif_one (qt_cmp (op_notInU hr.units) vr_in (qv 0) (qv 1) (by with_unfolding_all rfl))), (qv 0)⟩)) qa_nil)))), ?_⟩)
  intro vs H Q E h
  unfold sp_without at h
  split at h
  · rename_i l m
    obtain ⟨A, B, rfl, rfl, hl, h⟩ := h
    walk_at "rd"
    show ∀ acc, H acc = none → _
    intro acc hacc
    refine comp_pure (fun y => y) (onI fun y => !decide (y ∈ B)) (fun σ => ∃ z, σ = [z, some (.tup (B.map PV.int))]) (by rw [List.length_map]; exact hl) (fun _ => trivial) ?_ ?_ ⟨_, rfl⟩
    · rintro y hy l σ R ⟨z, rfl⟩ hl kT kF
      obtain ⟨k, hk, rfl⟩ := List.mem_map.mp hy
      have e : onI (fun y => !decide (y ∈ B)) (PV.int k) = !decide (k ∈ B) := rfl
      rw [e] at kT kF
      walk_at "rd"
      refine ⟨flat_ints, ?_⟩
      simp only [any_int]
      by_cases m : k ∈ B
      · exact cif_neg (by simp [m]) (kF (by simp [m]) _ ⟨_, rfl⟩)
      · exact cif_pos (by simp [m]) ⟨hl, by rw [put_put]; exact kT (by simp [m]) _ ⟨_, rfl⟩⟩
    rw [ints_filter]
    exact ⟨_, put_same, H, Sub.put (Sub.refl _) hacc, h⟩
  · exact h.elim

theorem G_law_less (T : Tx w K mg t) : FnOk' P w K mg base CX0 1 t.a_law_less t.d_law_less ["_law_names", "_law_others"] sp_without := by
  refine okU (k := 0) T.F_law_less sc_law_less (fun vs H Q E h => by
    unfold sp_without at h
    split at h
    · rfl
    · exact h.elim) (fun cdv A outer s H E B hr => ⟨_, (qss_one (qs_ret (qe_callTy call_tuple_of vc_tuple rfl T.b_tuple boot_tuple (qa_cons (qe_comp (N2 := ["_law_name", "_law_others"]) (nt := 1) (js := [1]) (cok (sc := defScope s_law_less) (by exact rfl) (by repeat (first | exact trivial | refine ⟨rfl, ?_⟩)) rfl (by rfl) (by decide +kernel) (by decide +kernel) (by rfl) (by decide +kernel) (by rfl) (by rfl)) rfl (qi_seq (qv 0)) (fun s0 H0 fp ps => ⟨(qg_name (i := 0) (show List.Nodup (["_law_name", "_law_others"] : List Str) by decide +kernel) rfl (by first | exact Or.inl rfl | exact Or.inr rfl)), (qif_one (qt_cmp (op_notInU hr.units) vr_in (qv 0) (qv 1) (by with_unfolding_all rfl))), (qv 0)⟩)) qa_nil)))), ?_⟩)
  intro vs H Q E h
  unfold sp_without at h
  split at h
  · rename_i l m
    obtain ⟨A, B, rfl, rfl, hl, h⟩ := h
    walk_at "rd"
    show ∀ acc, H acc = none → _
    intro acc hacc
    refine comp_pure (fun y => y) (onI fun y => !decide (y ∈ B)) (fun σ => ∃ z, σ = [z, some (.tup (B.map PV.int))]) (by rw [List.length_map]; exact hl) (fun _ => trivial) ?_ ?_ ⟨_, rfl⟩
    · rintro y hy l σ R ⟨z, rfl⟩ hl kT kF
      obtain ⟨k, hk, rfl⟩ := List.mem_map.mp hy
      have e : onI (fun y => !decide (y ∈ B)) (PV.int k) = !decide (k ∈ B) := rfl
      rw [e] at kT kF
      walk_at "rd"
      refine ⟨flat_ints, ?_⟩
      simp only [any_int]
      by_cases m : k ∈ B
      · exact cif_neg (by simp [m]) (kF (by simp [m]) _ ⟨_, rfl⟩)
      · exact cif_pos (by simp [m]) ⟨hl, by rw [put_put]; exact kT (by simp [m]) _ ⟨_, rfl⟩⟩
    rw [ints_filter]
    exact ⟨_, put_same, H, Sub.put (Sub.refl _) hacc, h⟩
  · exact h.elim

theorem G_has_all (T : Tx w K mg t) : FnOk' P w K mg base CX0 2 t.a_has_all t.d_has_all ["names", "others"] sp_hasall := by
  refine okU (k := 1) T.F_has_all sc_has_all (fun vs H Q E h => by
    unfold sp_hasall at h
    split at h
    · rfl
    · exact h.elim) (fun cdv A outer s H E B hr => ⟨_, (qss_one (qs_ret (qe_cmp (op_eqU hr.units) vr_eq (qe_callB call_len_seq vc_len rfl T.b_len PySem.boot_len (qa_cons (qe_call (G_without T) (hr.mono (by decide)) rfl T.g_without T.F_without.kp T.B_without (qa_cons (qv 1) (qa_cons (qv 0) qa_nil))) qa_nil)) qe_int (nomark _)))), ?_⟩)
  intro vs H Q E h
  unfold sp_hasall at h
  split at h
  · rename_i l m
    obtain ⟨A, B, rfl, rfl, hl, h⟩ := h
    walk_at "rd"
    refine ⟨B, A, rfl, rfl, hl, H, Sub.refl _, ?_⟩
    rw [isE_len]
    exact h
  · exact h.elim

theorem G_is_share_given (T : Tx w K mg t) : FnOk' P w K mg base CX0 1 t.a_is_share_given t.d_is_share_given ["formula"] sp_shg := by
  refine okU (k := 0) T.F_is_share_given sc_is_share_given (fun vs H Q E h => by
    unfold sp_shg at h
    split at h
    · rfl
    · exact h.elim) (fun cdv A outer s H E B hr => ⟨_, (qss_one (qs_ret (qe_and (qe_cmp (op_eqU hr.units) vr_eq (qe_ix (qv 0) qe_int (fun _ _ => rfl)) qe_str (nomark _)) (qe_and (qe_cmp (op_eqU hr.units) vr_eq (qe_ix (qe_ix (qv 0) qe_int (fun _ _ => rfl)) qe_int (fun _ _ => rfl)) qe_str (nomark _)) (qe_one (qe_cmp (op_eqU hr.units) vr_eq (qe_ix (qe_ix (qv 0) qe_int (fun _ _ => rfl)) qe_int (fun _ _ => rfl)) qe_str (nomark _))))))), ?_⟩)
  intro vs H Q E h
  unfold sp_shg at h
  split at h
  · rename_i v
    obtain ⟨f, rfl, h⟩ := h
    cases f with
    | over a b =>
      obtain ⟨ra, ea⟩ := fV_head a
      obtain ⟨rb, eb⟩ := fV_head b
      simp only [fV, ea, eb]
      walk_at "rd"
      walk_at "st"
      refine cif_bl (fun q => ⟨H, Sub.refl _, ?_⟩) fun q => ⟨H, Sub.refl _, ?_⟩
      · rw [shG_o, q] at h; exact h
      · rw [shG_o, q] at h; exact h
    | _ =>
      simp only [fV]
      walk_at "rd"
      walk_at "st"
      exact ⟨H, Sub.refl _, h⟩
  · exact h.elim

theorem G_by_gather (T : Tx w K mg t) : FnOk' P w K mg base CX0 3 t.a_by_gather t.d_by_gather ["formula"] (sp_by "gather") := by
  refine okU (k := 2) T.F_by_gather sc_by_gather (fun vs H Q E h => by
    unfold sp_by at h
    split at h
    · rfl
    · exact h.elim) (fun cdv A outer s H E B hr => ⟨_, (qss_cons (qs_if (qt_bool (qw_or (qt_cmp (op_neU hr.units) vr_eq (qe_ix (qv 0) qe_int (fun _ _ => rfl)) qe_str (nomark _)) (qw_or (qt_cmp (op_neU hr.units) vr_eq (qe_ix (qe_ix (qv 0) qe_int (fun _ _ => rfl)) qe_int (fun _ _ => rfl)) qe_str (nomark _)) (qw_or1 (qt_not (qt_val (qe_call (G_has_all T) (hr.mono (by decide)) rfl T.g_has_all T.F_has_all.kp T.B_has_all (qa_cons (qe_ix (qe_ix (qv 0) qe_int (fun _ _ => rfl)) qe_int (fun _ _ => rfl)) (qa_cons (qe_ix (qv 0) qe_int (fun _ _ => rfl)) qa_nil)))))))))
    (qss_one (qs_ret qe_non))
    qss_nil)
    (qss_one (qs_ret (qe_tup (qa_cons qe_str (qa_cons (qe_call (G_without T) (hr.mono (by decide)) rfl T.g_without T.F_without.kp T.B_without (qa_cons (qe_ix (qe_ix (qv 0) qe_int (fun _ _ => rfl)) qe_int (fun _ _ => rfl)) (qa_cons (qe_ix (qv 0) qe_int (fun _ _ => rfl)) qa_nil))) qa_nil)))))), ?_⟩)
  intro vs H Q E h
  unfold sp_by at h
  split at h
  · rename_i v
    obtain ⟨f, rfl, gd, h⟩ := h
    rw [pl_g] at h
    cases f with
    | sum ns g =>
      obtain ⟨nm, gg⟩ := gd.sum
      cases g with
      | seen ms =>
        simp only [fV]
        refine seq_abs fun R hR => ?_
        walk_at "rd"
        walk_at "st"
        have l1 := nm_len nm
        have l2 := nm_len (show Nm ms from gg.1)
        refine ⟨ms, ns, rfl, rfl, by omega, ?_⟩
        rw [plG_s] at h
        refine cif_bl (fun q => ?_) fun q => ?_
        · have q : (les ns ms).isEmpty = false := by simpa using q
          rw [q] at h
          exact ⟨H, Sub.refl _, h⟩
        · have q : (les ns ms).isEmpty = true := by simpa using q
          rw [q] at h
          subst hR
          walk_at "rd"
          exact ⟨ms, ns, rfl, rfl, by omega, small_size (by decide), H, Sub.refl _, h⟩
      | _ =>
        simp only [fV]
        walk_at "rd"
        walk_at "st"
        exact ⟨H, Sub.refl _, h⟩
    | _ =>
      simp only [fV]
      walk_at "rd"
      walk_at "st"
      exact ⟨H, Sub.refl _, h⟩
  · exact h.elim

theorem G_by_all (T : Tx w K mg t) : FnOk' P w K mg base CX0 3 t.a_by_all t.d_by_all ["formula"] (sp_by "all") := by
  refine okU (k := 2) T.F_by_all sc_by_all (fun vs H Q E h => by
    unfold sp_by at h
    split at h
    · rfl
    · exact h.elim) (fun cdv A outer s H E B hr => ⟨_, (qss_cons (qs_if (qt_bool (qw_or (qt_cmp (op_neU hr.units) vr_eq (qe_ix (qv 0) qe_int (fun _ _ => rfl)) qe_str (nomark _)) (qw_or1 (qt_not (qt_val (qe_call (G_is_share_given T) (hr.mono (by decide)) rfl T.g_is_share_given T.F_is_share_given.kp T.B_is_share_given (qa_cons (qe_ix (qv 0) qe_int (fun _ _ => rfl)) qa_nil)))))))
    (qss_one (qs_ret qe_non))
    qss_nil)
    (qss_cons (qs_set (i := 1) sc_by_all.nd rfl (by first | exact Or.inl rfl | exact Or.inr rfl) (qe_ix (qe_ix (qe_ix (qv 0) qe_int (fun _ _ => rfl)) qe_int (fun _ _ => rfl)) qe_int (fun _ _ => rfl)))
    (qss_cons (qs_if (qt_bool (qw_or (qt_not (qt_val (qe_call (G_has_all T) (hr.mono (by decide)) rfl T.g_has_all T.F_has_all.kp T.B_has_all (qa_cons (qv 1) (qa_cons (qe_ix (qv 0) qe_int (fun _ _ => rfl)) qa_nil))))) (qw_or1 (qt_cmp (op_neU hr.units) vr_eq (qe_ix (qe_ix (qe_ix (qv 0) qe_int (fun _ _ => rfl)) qe_int (fun _ _ => rfl)) qe_int (fun _ _ => rfl)) (qe_call (G_without T) (hr.mono (by decide)) rfl T.g_without T.F_without.kp T.B_without (qa_cons (qv 1) (qa_cons (qe_ix (qv 0) qe_int (fun _ _ => rfl)) qa_nil))) (nomark _)))))
    (qss_one (qs_ret qe_non))
    qss_nil)
    (qss_one (qs_ret (qe_globE (v' := .tup [.str "one"]) rfl T.c_ONE T.o_ONE)))))), ?_⟩)
  intro vs H Q E h
  unfold sp_by at h
  split at h
  · rename_i v
    obtain ⟨f, rfl, gd, h⟩ := h
    rw [pl_a] at h
    cases f with
    | sum ns g =>
      obtain ⟨nm, gg⟩ := gd.sum
      simp only [fV]
      refine seq_abs fun R hR => ?_
      walk_at "rd"
      walk_at "st"
      refine ⟨g, rfl, cif_bl (fun q => ?_) fun q => ?_⟩
      · rw [plA_n (by simpa using q)] at h
        exact ⟨H, Sub.refl _, h⟩
      · obtain ⟨ms, ks, rfl⟩ := plA_y (by simpa using q)
        rw [plA_s] at h
        have l1 := nm_len nm
        have l2 := nm_len (show Nm ms from gg.1.1)
        subst hR
        simp only [fV]
        refine seq_abs fun R hR => ?_
        walk_at "rd"
        subst hR
        refine seq_abs fun R hR => ?_
        walk_at "rd"
        refine ⟨ms, ns, rfl, rfl, by omega, cif_bl (fun q => ?_) fun q => ⟨ms, ns, rfl, rfl, by omega, flat_ints, flat_ints, cif_bl (fun q2 => ?_) fun q2 => ?_⟩⟩
        · have q : (les ns ms).isEmpty = false := by simpa using q
          rw [q] at h
          exact ⟨H, Sub.refl _, h⟩
        · have q : (les ns ms).isEmpty = true := by simpa using q
          have q2 : deqs (ks.map PV.int) ((les ms ns).map PV.int) = false := by simpa using q2
          rw [q, q2] at h
          exact ⟨H, Sub.refl _, h⟩
        · have q : (les ns ms).isEmpty = true := by simpa using q
          have q2 : deqs (ks.map PV.int) ((les ms ns).map PV.int) = true := by simpa using q2
          rw [q, q2] at h
          subst hR
          walk_at "rd"
          exact ⟨H, Sub.refl _, h⟩
    | _ =>
      simp only [fV]
      walk_at "rd"
      walk_at "st"
      exact ⟨H, Sub.refl _, h⟩
  · exact h.elim

theorem G_by_one (T : Tx w K mg t) : FnOk' P w K mg base CX0 1 t.a_by_one t.d_by_one ["formula"] (sp_by "one") := by
  refine okU (k := 0) T.F_by_one sc_by_one (fun vs H Q E h => by
    unfold sp_by at h
    split at h
    · rfl
    · exact h.elim) (fun cdv A outer s H E B hr => ⟨_, (qss_cons (qs_if (qt_bool (qw_and (qt_cmp (op_eqU hr.units) vr_eq (qe_ix (qv 0) qe_int (fun _ _ => rfl)) qe_str (nomark _)) (qw_and1 (qt_cmp (op_eqW hr.units) vr_eqW (qe_ix (qv 0) qe_int (fun _ _ => rfl)) (qe_globE (v' := .tup [.str "one"]) rfl T.c_ONE T.o_ONE) (nomark _)))))
    (qss_one (qs_ret (qe_ix (qv 0) qe_int (fun _ _ => rfl))))
    qss_nil)
    (qss_cons (qs_if (qt_bool (qw_and (qt_bool (qw_or (qt_cmp (op_eqU hr.units) vr_eq (qe_ix (qv 0) qe_int (fun _ _ => rfl)) qe_str (nomark _)) (qw_or1 (qt_cmp (op_eqU hr.units) vr_eq (qe_ix (qv 0) qe_int (fun _ _ => rfl)) qe_str (nomark _))))) (qw_and1 (qt_cmp (op_eqW hr.units) vr_eqW (qe_ix (qv 0) qe_int (fun _ _ => rfl)) (qe_globE (v' := .tup [.str "one"]) rfl T.c_ONE T.o_ONE) (nomark _)))))
    (qss_one (qs_ret (qe_ix (qv 0) qe_int (fun _ _ => rfl))))
    qss_nil)
    (qss_one (qs_ret (qe_ifExp (qt_cmp (op_eqW hr.units) vr_eqW (qv 0) (qe_tup (qa_cons qe_str (qa_cons (qe_tup qa_nil) qa_nil))) (nomark _)) (qe_globE (v' := .tup [.str "one"]) rfl T.c_ONE T.o_ONE) qe_non))))), ?_⟩)
  intro vs H Q E h
  unfold sp_by at h
  split at h
  · rename_i v
    obtain ⟨f, rfl, gd, h⟩ := h
    rw [pl_o] at h
    cases f with
    | times a b =>
      obtain ⟨ga, gb⟩ := gd.tm
      rw [plO_t] at h
      simp only [fV]
      refine seq_abs fun R hR => ?_
      walk_at "rd"
      rw [eqF_1]
      refine cif_pos rfl ⟨ga.fl, cif_bl (fun q => ?_) fun q => ?_⟩
      · rw [q] at h; exact ⟨H, Sub.refl _, h⟩
      rw [q] at h
      subst hR
      refine seq_abs fun R hR => ?_
      walk_at "rd"
      rw [eqF_1]
      refine cif_pos rfl ⟨gb.fl, cif_bl (fun q => ?_) fun q => ?_⟩
      · rw [q] at h; exact ⟨H, Sub.refl _, h⟩
      rw [q] at h
      subst hR
      walk_at "rd"
      exact ⟨small_size (by decide), small_size (by decide), by rw [flat_fV (by have := ga.2.1; omega), flat_fV (by have := gb.2.1; omega)]; rfl, cif_neg rfl ⟨H, Sub.refl _, h⟩⟩
    | over a b =>
      obtain ⟨ga, gb⟩ := gd.ov
      rw [plO_v] at h
      simp only [fV]
      refine seq_abs fun R hR => ?_
      walk_at "rd"
      refine cif_neg rfl ?_
      subst hR
      refine seq_abs fun R hR => ?_
      walk_at "rd"
      rw [eqF_1]
      refine cif_neg rfl (cif_pos rfl ⟨gb.fl, cif_bl (fun q => ?_) fun q => ?_⟩)
      · rw [q] at h; exact ⟨H, Sub.refl _, h⟩
      rw [q] at h
      subst hR
      walk_at "rd"
      exact ⟨small_size (by decide), small_size (by decide), by rw [flat_fV (by have := ga.2.1; omega), flat_fV (by have := gb.2.1; omega)]; rfl, cif_neg rfl ⟨H, Sub.refl _, h⟩⟩
    | seen ns =>
      rw [plO_s] at h
      simp only [fV]
      refine seq_abs fun R hR => ?_
      walk_at "rd"
      refine cif_neg rfl ?_
      subst hR
      refine seq_abs fun R hR => ?_
      walk_at "rd"
      refine cif_neg rfl (cif_neg rfl ?_)
      subst hR
      walk_at "rd"
      rw [deqs_nil]
      refine ⟨small_size (by decide), small_size (by decide), flatI, cif_bl (fun q => ?_) fun q => ?_⟩
      · have q : ns.isEmpty = true := by simpa using q
        rw [q] at h; exact ⟨H, Sub.refl _, h⟩
      · have q : ns.isEmpty = false := by simpa using q
        rw [q] at h; exact ⟨H, Sub.refl _, h⟩
    | one =>
      simp only [fV]
      walk_at "rd"
      walk_at "st"
      exact ⟨small_size (by decide), small_size (by decide), cif_neg rfl ⟨H, Sub.refl _, h⟩⟩
    | sum ns f =>
      simp only [fV]
      walk_at "rd"
      walk_at "st"
      exact ⟨small_size (by decide), small_size (by decide), by rw [flatI, flat_fV (by have := gd.sum.2.2.1; omega)]; rfl, cif_neg rfl ⟨H, Sub.refl _, h⟩⟩
  · exact h.elim

theorem G_by_same (T : Tx w K mg t) : FnOk' P w K mg base CX0 1 t.a_by_same t.d_by_same ["formula"] (sp_by "same") := by
  refine okU (k := 0) T.F_by_same sc_by_same (fun vs H Q E h => by
    unfold sp_by at h
    split at h
    · rfl
    · exact h.elim) (fun cdv A outer s H E B hr => ⟨_, (qss_one (qs_ret (qe_ifExp (qt_bool (qw_and (qt_cmp (op_eqU hr.units) vr_eq (qe_ix (qv 0) qe_int (fun _ _ => rfl)) qe_str (nomark _)) (qw_and1 (qt_cmp (op_eqW hr.units) vr_eqW (qe_ix (qv 0) qe_int (fun _ _ => rfl)) (qe_ix (qv 0) qe_int (fun _ _ => rfl)) (nomark _))))) (qe_globE (v' := .tup [.str "one"]) rfl T.c_ONE T.o_ONE) qe_non))), ?_⟩)
  intro vs H Q E h
  unfold sp_by at h
  split at h
  · rename_i v
    obtain ⟨f, rfl, gd, h⟩ := h
    rw [pl_s] at h
    cases f with
    | over a b =>
      obtain ⟨ga, gb⟩ := gd.ov
      rw [plS_v] at h
      simp only [fV]
      walk_at "rd"
      rw [eqF_at]
      refine cif_pos rfl ⟨ga.fl, gb.fl, cif_bl (fun q => ?_) fun q => ?_⟩
      · rw [q] at h; exact ⟨H, Sub.refl _, h⟩
      · rw [q] at h; exact ⟨H, Sub.refl _, h⟩
    | one => simp only [fV]; walk_at "rd"; exact cif_neg rfl ⟨H, Sub.refl _, h⟩
    | seen ns => simp only [fV]; walk_at "rd"; exact cif_neg rfl ⟨H, Sub.refl _, h⟩
    | sum ns f => obtain ⟨r, e⟩ := fV_head (.sum ns f); rw [e]; simp only [wd]; walk_at "rd"; exact cif_neg rfl ⟨H, Sub.refl _, h⟩
    | times a b => simp only [fV]; walk_at "rd"; exact cif_neg rfl ⟨H, Sub.refl _, h⟩
  · exact h.elim

theorem G_parts_of (T : Tx w K mg t) : FnOk' P w K mg base CX0 1 t.a_parts_of t.d_parts_of ["formula"] sp_parts := by
  refine okU (k := 0) T.F_parts_of sc_parts_of (fun vs H Q E h => by
    unfold sp_parts at h
    split at h
    · rfl
    · exact h.elim) (fun cdv A outer s H E B hr => ⟨_, (qss_cons (qs_if (qt_bool (qw_or (qt_cmp (op_eqU hr.units) vr_eq (qe_ix (qv 0) qe_int (fun _ _ => rfl)) qe_str (nomark _)) (qw_or1 (qt_cmp (op_eqU hr.units) vr_eq (qe_ix (qv 0) qe_int (fun _ _ => rfl)) qe_str (nomark _)))))
    (qss_one (qs_ret (qe_lst (qa_cons (qe_ix (qv 0) qe_int (fun _ _ => rfl)) (qa_cons (qe_ix (qv 0) qe_int (fun _ _ => rfl)) qa_nil)))))
    qss_nil)
    (qss_cons (qs_if (qt_cmp (op_eqU hr.units) vr_eq (qe_ix (qv 0) qe_int (fun _ _ => rfl)) qe_str (nomark _))
    (qss_one (qs_ret (qe_lst (qa_cons (qe_ix (qv 0) qe_int (fun _ _ => rfl)) qa_nil))))
    qss_nil)
    (qss_one (qs_ret (qe_lst qa_nil))))), ?_⟩)
  intro vs H Q E h
  unfold sp_parts at h
  split at h
  · rename_i v
    obtain ⟨f, rfl, h⟩ := h
    cases f <;> simp only [fV] <;> walk_at "rd" <;> walk_at "st" <;> exact ⟨small_size (by decide), fun p hp => ⟨_, Sub.refl _, h p hp⟩⟩
  · exact h.elim

theorem G_with_part (T : Tx w K mg t) : FnOk' P w K mg base CX0 1 t.a_with_part t.d_with_part ["formula", "number", "part"] sp_wp := by
  refine okU (k := 0) T.F_with_part sc_with_part (fun vs H Q E h => by
    unfold sp_wp at h
    split at h
    · rfl
    · exact h.elim) (fun cdv A outer s H E B hr => ⟨_, (qss_cons (qs_if (qt_cmp (op_eqU hr.units) vr_eq (qe_ix (qv 0) qe_int (fun _ _ => rfl)) qe_str (nomark _))
    (qss_one (qs_ret (qe_tup (qa_cons qe_str (qa_cons (qe_ix (qv 0) qe_int (fun _ _ => rfl)) (qa_cons (qv 2) qa_nil))))))
    qss_nil)
    (qss_one (qs_ret (qe_ifExp (qt_cmp (op_eqU hr.units) vr_eq (qv 1) qe_int (nomark _)) (qe_tup (qa_cons (qe_ix (qv 0) qe_int (fun _ _ => rfl)) (qa_cons (qv 2) (qa_cons (qe_ix (qv 0) qe_int (fun _ _ => rfl)) qa_nil)))) (qe_tup (qa_cons (qe_ix (qv 0) qe_int (fun _ _ => rfl)) (qa_cons (qe_ix (qv 0) qe_int (fun _ _ => rfl)) (qa_cons (qv 2) qa_nil)))))))), ?_⟩)
  intro vs H Q E h
  unfold sp_wp at h
  split at h
  · rename_i v n u
    obtain ⟨f, g, rfl, rfl, hk, h⟩ := h
    cases f with
    | one => exact absurd rfl hk
    | seen ns => exact absurd rfl hk
    | sum ns f =>
      simp only [fV]
      walk_at "rd"
      exact cif_pos rfl ⟨small_size (by decide), H, Sub.refl _, h⟩
    | times a b =>
      simp only [fV]
      walk_at "rd"
      refine cif_neg rfl (cif_by (fun q => ⟨small_size (by decide), H, Sub.refl _, ?_⟩) fun q => ⟨small_size (by decide), H, Sub.refl _, ?_⟩)
      · rw [show wpt (.times a b) n g = .times g b from if_pos (by simpa using q)] at h; exact h
      · rw [show wpt (.times a b) n g = .times a g from if_neg (by simpa using q)] at h; exact h
    | over a b =>
      simp only [fV]
      walk_at "rd"
      refine cif_neg rfl (cif_by (fun q => ⟨small_size (by decide), H, Sub.refl _, ?_⟩) fun q => ⟨small_size (by decide), H, Sub.refl _, ?_⟩)
      · rw [show wpt (.over a b) n g = .over g b from if_pos (by simpa using q)] at h; exact h
      · rw [show wpt (.over a b) n g = .over a g from if_neg (by simpa using q)] at h; exact h
  · exact h.elim

theorem G_is_over_by (T : Tx w K mg t) : FnOk' P w K mg base CX0 1 t.a_is_over_by t.d_is_over_by ["formula", "below"] sp_ovb := by
  refine okU (k := 0) T.F_is_over_by sc_is_over_by (fun vs H Q E h => by
    unfold sp_ovb at h
    split at h
    · rfl
    · exact h.elim) (fun cdv A outer s H E B hr => ⟨_, (qss_one (qs_ret (qe_and (qe_cmp (op_eqU hr.units) vr_eq (qe_ix (qv 0) qe_int (fun _ _ => rfl)) qe_str (nomark _)) (qe_one (qe_cmp (op_eqW hr.units) vr_eqW (qe_ix (qv 0) qe_int (fun _ _ => rfl)) (qv 1) (nomark _)))))), ?_⟩)
  intro vs H Q E h
  unfold sp_ovb at h
  split at h
  · rename_i v u
    obtain ⟨f, b, rfl, rfl, gf, gb, h⟩ := h
    cases f with
    | over x y =>
      obtain ⟨gx, gy⟩ := gf.ov
      rw [ovB_v] at h
      simp only [fV]
      walk_at "rd"
      rw [eqF_at]
      refine cif_pos rfl ⟨gy.fl, gb.fl, H, Sub.refl _, ?_⟩
      cases q : eqF y b
      · rw [q] at h; exact h
      · rw [q] at h; exact h
    | one => simp only [fV]; walk_at "rd"; exact cif_neg rfl ⟨H, Sub.refl _, h⟩
    | seen ns => simp only [fV]; walk_at "rd"; exact cif_neg rfl ⟨H, Sub.refl _, h⟩
    | sum ns f => simp only [fV]; walk_at "rd"; exact cif_neg rfl ⟨H, Sub.refl _, h⟩
    | times a b => simp only [fV]; walk_at "rd"; exact cif_neg rfl ⟨H, Sub.refl _, h⟩
  · exact h.elim

theorem G_by_back (T : Tx w K mg t) : FnOk' P w K mg base CX0 2 t.a_by_back t.d_by_back ["formula"] (sp_by "back") := by
  refine okU (k := 1) T.F_by_back sc_by_back (fun vs H Q E h => by
    unfold sp_by at h
    split at h
    · rfl
    · exact h.elim) (fun cdv A outer s H E B hr => ⟨_, (qss_cons (qs_if (qt_cmp (op_neU hr.units) vr_eq (qe_ix (qv 0) qe_int (fun _ _ => rfl)) qe_str (nomark _))
    (qss_one (qs_ret qe_non))
    qss_nil)
    (qss_cons (qs_if (qt_val (qe_call (G_is_over_by T) (hr.mono (by decide)) rfl T.g_is_over_by T.F_is_over_by.kp T.B_is_over_by (qa_cons (qe_ix (qv 0) qe_int (fun _ _ => rfl)) (qa_cons (qe_ix (qv 0) qe_int (fun _ _ => rfl)) qa_nil))))
    (qss_one (qs_ret (qe_ix (qe_ix (qv 0) qe_int (fun _ _ => rfl)) qe_int (fun _ _ => rfl))))
    qss_nil)
    (qss_one (qs_ret (qe_ifExp (qt_val (qe_call (G_is_over_by T) (hr.mono (by decide)) rfl T.g_is_over_by T.F_is_over_by.kp T.B_is_over_by (qa_cons (qe_ix (qv 0) qe_int (fun _ _ => rfl)) (qa_cons (qe_ix (qv 0) qe_int (fun _ _ => rfl)) qa_nil)))) (qe_ix (qe_ix (qv 0) qe_int (fun _ _ => rfl)) qe_int (fun _ _ => rfl)) qe_non))))), ?_⟩)
  intro vs H Q E h
  unfold sp_by at h
  split at h
  · rename_i v
    obtain ⟨f, rfl, gd, h⟩ := h
    rw [pl_b] at h
    cases f with
    | times a b =>
      obtain ⟨ga, gb⟩ := gd.tm
      rw [plB_t] at h
      simp only [fV]
      refine seq_abs fun R hR => ?_
      walk_at "rd"
      refine cif_neg rfl ?_
      subst hR
      refine seq_abs fun R hR => ?_
      walk_at "rd"
      refine ⟨a, b, rfl, rfl, ga, gb, cif_bl (fun q => ?_) fun q => ?_⟩
      · obtain ⟨x, y, rfl, e⟩ := ovB_some q
        rw [e] at h
        simp only [fL]
        walk_at "rd"
        exact ⟨H, Sub.refl _, h⟩
      · have e : ovB a b = none := by cases z : ovB a b with | none => rfl | some x => rw [z] at q; cases q
        rw [e] at h
        subst hR
        walk_at "rd"
        refine ⟨b, a, rfl, rfl, gb, ga, cif_bl (fun q => ?_) fun q => ?_⟩
        · obtain ⟨x, y, rfl, e⟩ := ovB_some q
          rw [e] at h
          simp only [fL]
          walk_at "rd"
          exact ⟨H, Sub.refl _, h⟩
        · have e : ovB b a = none := by cases z : ovB b a with | none => rfl | some x => rw [z] at q; cases q
          rw [e] at h
          exact ⟨H, Sub.refl _, h⟩
    | one => simp only [fV]; walk_at "rd"; exact cif_pos rfl ⟨H, Sub.refl _, h⟩
    | seen ns => simp only [fV]; walk_at "rd"; exact cif_pos rfl ⟨H, Sub.refl _, h⟩
    | sum ns f => simp only [fV]; walk_at "rd"; exact cif_pos rfl ⟨H, Sub.refl _, h⟩
    | over a b => simp only [fV]; walk_at "rd"; exact cif_pos rfl ⟨H, Sub.refl _, h⟩
  · exact h.elim

theorem hsel (T : Tx w K mg t) : ∀ k f, ([("gather", t.a_by_gather), ("all", t.a_by_all), ("one", t.a_by_one), ("same", t.a_by_same), ("back", t.a_by_back)] : List (Str × Addr)).find? (fun p => decide (p.1 = k)) = some (k, f) → (∃ fd ps, FnOk' P w K mg base CX0 3 f fd ps (sp_by k) ∧ Binds K fd ps []) ∧ PySem.W.keepIn K (.ref f) = true := by
  intro k f h
  have e1 := List.mem_of_find?_eq_some h
  simp only [List.mem_cons, List.not_mem_nil, or_false, Prod.mk.injEq] at e1
  rcases e1 with ⟨rfl, rfl⟩ | ⟨rfl, rfl⟩ | ⟨rfl, rfl⟩ | ⟨rfl, rfl⟩ | ⟨rfl, rfl⟩
  · exact ⟨⟨_, _, G_by_gather T, T.B_by_gather⟩, T.F_by_gather.kp⟩
  · exact ⟨⟨_, _, G_by_all T, T.B_by_all⟩, T.F_by_all.kp⟩
  · exact ⟨⟨_, _, (G_by_one T).mono (by decide), T.B_by_one⟩, T.F_by_one.kp⟩
  · exact ⟨⟨_, _, (G_by_same T).mono (by decide), T.B_by_same⟩, T.F_by_same.kp⟩
  · exact ⟨⟨_, _, (G_by_back T).mono (by decide), T.B_by_back⟩, T.F_by_back.kp⟩

theorem G_shorter_words (T : Tx w K mg t) : FnOk' P w K mg base CX0 4 t.a_shorter_words t.d_shorter_words ["formula"] sp_words := by
  refine okU (k := 3) T.F_shorter_words sc_shorter_words (fun vs H Q E h => by
    unfold sp_words at h
    split at h
    · rfl
    · exact h.elim) (fun cdv A outer s H E B hr => ⟨_, (qss_one (qs_ret (qe_compH (N2 := ["word", "formula"]) (nt := 1) (js := [0]) (cok (sc := defScope s_shorter_words) (by exact rfl) (by repeat (first | exact trivial | refine ⟨rfl, ?_⟩)) rfl (by rfl) (by decide +kernel) (by decide +kernel) (by rfl) (by decide +kernel) (by rfl) (by rfl)) rfl (qi_sh T.o_SH (qe_globE (v' := .ref t.a_SH) rfl T.c_SH (fun _ => by simp [RP]))) (fun s0 H0 fp ps => ⟨(qg_name (i := 0) (show List.Nodup (["word", "formula"] : List Str) by decide +kernel) rfl (by first | exact Or.inl rfl | exact Or.inr rfl)), (qif_one (qt_cmp op_notN vr_notN (qe_callS T.o_SH (hsel T) (hr.mono (by decide)) (qe_globE (v' := .ref t.a_SH) rfl T.c_SH (fun _ => by simp [RP])) (qv 0) (fun _ _ => rfl) (qa_cons (qv 1) qa_nil)) qe_non (nomark _))), (qv 0)⟩)))), ?_⟩)
  intro vs H Q E h
  unfold sp_words at h
  split at h
  · rename_i v
    obtain ⟨f, rfl, gd, h⟩ := h
    walk_at "rd"
    intro acc hacc
    refine comp_pure (fun y => y) (pzW f) (fun σ => ∃ z, σ = [z, some (fV f)]) (by decide) (fun _ => trivial) ?_ ?_ ⟨_, rfl⟩
    · rintro y hy l σ R ⟨z, rfl⟩ hl kT kF
      obtain ⟨k, hk, rfl⟩ : ∃ k ∈ wds, y = .str k := mem_wds hy
      obtain ⟨fa, hfa⟩ := find_wds t hk
      walk_at "rd"
      refine ⟨k, fa, rfl, hfa, k, fa, rfl, hfa, f, rfl, gd, ?_⟩
      try walk_at "rd"
      refine cif_bl (fun q => ⟨hl, by rw [put_put]; exact kT (by show (pl k f).isSome = true; simpa using q) _ ⟨_, rfl⟩⟩) fun q => kF (by show (pl k f).isSome = false; simpa using q) _ ⟨_, rfl⟩
    show ∃ H3, U.Sub H3 (put H acc (.lst (((wds.map PV.str).filter (pzW f)).map fun y => y))) ∧ _
    rw [wds_map]
    exact ⟨_, Sub.refl _, h acc hacc⟩
  · exact h.elim

theorem G_Thinner_init (T : Tx w K mg t) : FnOk' P w K mg base CX0 1 t.a_Thinner_init t.d_Thinner_init ["self"] (sp_tinit t) := by
  refine okU (k := 0) T.F_Thinner_init sc_Thinner_init (fun vs H Q E h => by
    unfold sp_tinit at h
    split at h
    · rfl
    · exact h.elim) (fun cdv A outer s H E B hr => ⟨_, (qss_one (qs_fld (qv 0) (qe_lst qa_nil) T.cl_Thinner T.nf_Thinner_thinnings rfl)), ?_⟩)
  intro vs H Q E h
  unfold sp_tinit at h
  split at h
  · rename_i x
    obtain ⟨dx, hx, h⟩ := h
    walk_at "rd"
    refine ⟨small_size (by decide), fun a ha => ⟨dx, [], (put_ne (ne_none hx ha)).trans hx, by decide, _, Sub.refl _, h a ha⟩⟩
  · exact h.elim

theorem G_Thinner_shorten (T : Tx w K mg t) : FnOk' P w K mg base CX0 5 t.a_Thinner_shorten t.d_Thinner_shorten ["self", "formula", "place"] (sp_short t) := by
  refine okU (k := 4) T.F_Thinner_shorten sc_Thinner_shorten (fun vs H Q E h => by
    unfold sp_short at h
    split at h
    · rfl
    · exact h.elim) (fun cdv A outer s H E B hr => ⟨_, (qss_cons (qs_set (i := 3) sc_Thinner_shorten.nd rfl (by first | exact Or.inl rfl | exact Or.inr rfl) (qv 1))
    (qss_cons (qs_set (i := 4) sc_Thinner_shorten.nd rfl (by first | exact Or.inl rfl | exact Or.inr rfl) (qe_call (G_shorter_words T) (hr.mono (by decide)) rfl T.g_shorter_words T.F_shorter_words.kp T.B_shorter_words (qa_cons (qv 3) qa_nil)))
    (qss_cons (qs_while PassesOwn.never (qt_bool (qw_and (qt_cmp op_gt vr_gt (qe_callB call_len_seq vc_len rfl T.b_len PySem.boot_len (qa_cons (qv 4) qa_nil)) qe_int (nomark _)) (qw_and1 (qt_cmp op_lt vr_lt (qe_callB call_len_seq vc_len rfl T.b_len PySem.boot_len (qa_cons (qe_fld (qv 0) T.cl_Thinner T.nf_Thinner_thinnings rfl) qa_nil)) (qe_globE (v' := .int 400) rfl T.c_MOST_THINNINGS (fun _ => by simp [RP])) (nomark _)))))
    (qss_cons (qs_expr (qe_bm PySem.F.slot_list_append PySem.F.type_list_append mt_append vm_append (qe_fld (qv 0) T.cl_Thinner T.nf_Thinner_thinnings rfl) (qa_cons (qe_tup (qa_cons (qv 2) (qa_cons (qe_ix (qv 4) qe_int (fun _ _ => rfl)) (qa_cons (qe_tup qa_nil) qa_nil)))) qa_nil)))
      (qss_cons (qs_set (i := 3) sc_Thinner_shorten.nd rfl (by first | exact Or.inl rfl | exact Or.inr rfl) (qe_callS T.o_SH (hsel T) (hr.mono (by decide)) (qe_globE (v' := .ref t.a_SH) rfl T.c_SH (fun _ => by simp [RP])) (qe_ix (qv 4) qe_int (fun _ _ => rfl)) (fun _ _ => rfl) (qa_cons (qv 3) qa_nil)))
      (qss_one (qs_set (i := 4) sc_Thinner_shorten.nd rfl (by first | exact Or.inl rfl | exact Or.inr rfl) (qe_call (G_shorter_words T) (hr.mono (by decide)) rfl T.g_shorter_words T.F_shorter_words.kp T.B_shorter_words (qa_cons (qv 3) qa_nil)))))))
    (qss_one (qs_ret (qv 3)))))), ?_⟩)
  intro vs H Q E h
  unfold sp_short at h
  split at h
  · rename_i x v l
    obtain ⟨f, p, dx, a, ths, rfl, rfl, gd, pl1, hx, ha, tl, h⟩ := h
    refine seq_abs fun R hR => ?_
    walk_at "rd"
    subst hR
    refine seq_abs fun R hR => ?_
    walk_at "rd"
    refine ⟨f, rfl, gd, fun p1 hp1 => ?_⟩
    have na : a ≠ p1 := ne_none ha hp1
    have nx : x ≠ p1 := ne_none hx hp1
    have s1 := (Sub.refl H).put (o := .lst ((wdsF f).map PV.str)) hp1
    have e1 : put H p1 (.lst ((wdsF f).map PV.str)) p1 = some (.lst ((wdsF f).map PV.str)) := put_same
    generalize put H p1 (.lst ((wdsF f).map PV.str)) = H1 at *
    subst hR
    refine seq_abs fun R hR => ?_
    refine while_abs fun Rb hRb => ?_
    refine while_by (fun m σ H3 => ∃ g new pw, σ = [some (.ref x), some (fV f), some (.tup (p.map PV.int)), some (fV g), some (.ref pw)] ∧ Res p f g new ∧ (Tk f → Tk g) ∧ (ths ++ new).length ≤ 400 ∧ Cg H H3 a ∧ H3 a = some (.lst ((ths ++ new).map thV)) ∧ H3 pw = some (.lst ((wdsF g).map PV.str)) ∧ pw ≠ a ∧ m = 400 - (ths ++ new).length) _ ⟨f, [], p1, rfl, .nil, id, by rw [List.append_nil]; exact tl, fun b o _ e => s1 _ _ e, by rw [List.append_nil]; exact s1 _ _ ha, e1, na.symm, rfl⟩ ?_
    rintro m σ H3 ⟨g, new, pw, rfl, rs, tk, nl, cg, ea, ew, npa, rfl⟩
    have hxa : x ≠ a := fun z => by rw [z, ha] at hx; cases hx
    have hx3 := cg _ _ hxa hx
    walk_at "rd"
    refine ⟨_, ew, ?_⟩
    have fin : (T0 g ∨ (ths ++ new).length = 400) → R { nx := fun x H => ∃ H3, U.Sub H3 H ∧ Q PV.non H3, rt := fun v H => ∃ H3, U.Sub H3 H ∧ Q v H3 } [some (.ref x), some (fV f), some (.tup (p.map PV.int)), some (fV g), some (.ref pw)] H3 := fun q => by
      subst hR
      walk_at "rd"
      exact ⟨H3, Sub.refl _, h g new H3 rs tk q nl cg ea⟩
    cases hw : wdsF g with
    | nil =>
      refine cif_neg (by simp) (fin (.inl (wdsF_nil hw)))
    | cons k r =>
      obtain ⟨kin, g', hg'⟩ := wdsF_cons hw
      refine cif_pos (by simp) ⟨dx, _, _, hx3, rfl, ?_⟩
      rw [w_Sr]
      refine ⟨_, ea, ?_⟩
      rw [List.length_map]
      by_cases lt : (ths ++ new).length < 400
      · refine cif_pos (by simp only [decide_eq_true_eq]; omega) (exN2 fun N bk hN => ?_)
        rw [hw] at ew
        have gg := rs.gd gd
        subst hRb
        refine seq_abs fun R' hR' => ?_
        walk_at "rd"
        refine ⟨dx, _, _, hx3, rfl, ⟨_, ea⟩, _, ew, ?_⟩
        have e0 : atI ((k :: r).map PV.str) 0 = some (.str k) := atI_c0
        rw [e0]
        try walk_at "rd"
        refine ⟨small_size (by decide), small_size (by decide), ?_⟩
        refine ⟨_, ea, by rw [List.length_map, sizeLine_eq]; omega, ?_⟩
        have c4 : Cg H (put H3 a (.lst ((ths ++ new).map thV ++ [thV (p, k)]))) a := fun b o nb e => (put_ne nb).trans (cg b o nb e)
        have e4 : put H3 a (.lst ((ths ++ new).map thV ++ [thV (p, k)])) a = some (.lst ((ths ++ (new ++ [(p, k)])).map thV)) := by rw [put_same, ← List.append_assoc, List.map_append (l₁ := ths ++ new)]; rfl
        have w4 := (put_ne (o := .lst ((ths ++ new).map thV ++ [thV (p, k)])) npa).trans ew
        change R' _ _ (put H3 a (.lst ((ths ++ new).map thV ++ [thV (p, k)])))
        generalize put H3 a (.lst ((ths ++ new).map thV ++ [thV (p, k)])) = H4 at *
        subst hR'
        refine seq_abs fun R' hR' => ?_
        walk_at "rd"
        obtain ⟨fa, hfa⟩ := find_wds t kin
        refine ⟨_, w4, ?_⟩
        rw [e0]
        refine ⟨k, fa, rfl, hfa, k, fa, rfl, hfa, g, rfl, gg, ?_⟩
        rw [hg']
        subst hR'
        walk_at "rd"
        have r1 : Res p f g' (new ++ [(p, k)]) := rs.trans (.one kin hg')
        refine ⟨g', rfl, r1.gd gd, fun p5 hp5 => hN _ _ ⟨_, ?_, g', new ++ [(p, k)], p5, rfl, r1, fun z => (ls_pl hg').tk (tk z), ?_, ?_, ?_, put_same, (ne_none e4 hp5).symm, rfl⟩⟩
        · rw [← List.append_assoc, List.length_append (as := ths ++ new), List.length_singleton]; omega
        · rw [← List.append_assoc, List.length_append (as := ths ++ new), List.length_singleton]; omega
        · exact fun b o nb e => (put_ne (ne_none (c4 b o nb e) hp5)).trans (c4 b o nb e)
        · exact (put_ne (ne_none e4 hp5)).trans e4
      · exact cif_neg (decide_eq_false (by omega)) (fin (.inr (by omega)))
  · exact h.elim

theorem G_thin0 (T : Tx w K mg t) : FnOk' P w K mg base CX0 (6) t.a_Thinner_thin t.d_Thinner_thin ["self", "formula", "place"] (sp_thin t 0) := by
  refine okU (k := 5) T.F_Thinner_thin sc_Thinner_thin (fun vs H Q E h => by
    unfold sp_thin at h
    split at h
    · rfl
    · exact h.elim) (fun cdv A outer s H E B hr => ⟨_, qss_never, ?_⟩)
  intro vs H Q E h
  unfold sp_thin at h
  split at h
  · obtain ⟨f, p, dx, a, ths, _, _, _, z, _⟩ := h
    exact absurd z (Nat.not_lt_zero _)
  · exact h.elim
theorem G_thinS (T : Tx w K mg t) {n : Nat} (ih : FnOk' P w K mg base CX0 (n + 6) t.a_Thinner_thin t.d_Thinner_thin ["self", "formula", "place"] (sp_thin t n)) : FnOk' P w K mg base CX0 (n + 7) t.a_Thinner_thin t.d_Thinner_thin ["self", "formula", "place"] (sp_thin t (n + 1)) := by
  refine okU (k := n + 6) T.F_Thinner_thin sc_Thinner_thin (fun vs H Q E h => by
    unfold sp_thin at h
    split at h
    · rfl
    · exact h.elim) (fun cdv A outer s H E B hr => ⟨_, (qss_cons (qs_set (i := 3) sc_Thinner_thin.nd rfl (by first | exact Or.inl rfl | exact Or.inr rfl) (qv 1))
    (qss_cons (qs_forH PassesOwn.never rfl (qi_enL rfl T.b_enumerate (qa_cons (qe_call (G_parts_of T) (hr.mono (by omega)) rfl T.g_parts_of T.F_parts_of.kp T.B_parts_of (qa_cons (qv 1) qa_nil)) qa_nil)) (qg_tup (n := 2) rfl (qgs_cons (qg_name (i := 4) sc_Thinner_thin.nd rfl (by first | exact Or.inl rfl | exact Or.inr rfl)) (qgs_cons (qg_name (i := 5) sc_Thinner_thin.nd rfl (by first | exact Or.inl rfl | exact Or.inr rfl)) qgs_nil)))
    (qss_one (qs_set (i := 3) sc_Thinner_thin.nd rfl (by first | exact Or.inl rfl | exact Or.inr rfl) (qe_call (G_with_part T) (hr.mono (by omega)) rfl T.g_with_part T.F_with_part.kp T.B_with_part (qa_cons (qv 3) (qa_cons (qv 4) (qa_cons (qe_meth (qv 0) T.cl_Thinner T.m_Thinner_thin ih (hr.mono (by omega)) T.B_Thinner_thin (qa_cons (qv 5) (qa_cons (qe_catT (qv 2) (qe_tup (qa_cons (qv 4) qa_nil))) qa_nil))) qa_nil)))))))
    (qss_one (qs_ret (qe_meth (qv 0) T.cl_Thinner T.m_Thinner_shorten (G_Thinner_shorten T) (hr.mono (by omega)) T.B_Thinner_shorten (qa_cons (qv 3) (qa_cons (qv 2) qa_nil))))))), ?_⟩)
  intro vs H Q E h
  unfold sp_thin at h
  split at h
  · rename_i x v l
    obtain ⟨f, p, dx, a, ths, rfl, rfl, gd, dpn, pl1, hx, ha, tl, h⟩ := h
    have hxa : x ≠ a := fun z => by rw [z, ha] at hx; cases hx
    refine seq_abs fun R hR => ?_
    walk_at "rd"
    subst hR
    refine seq_abs fun R hR => ?_
    walk_at "rd"
    refine ⟨f, rfl, fun p1 hp1 => ?_⟩
    have na : a ≠ p1 := ne_none ha hp1
    have s1 := (Sub.refl H).put (o := .lst ((kids f).map fV)) hp1
    have e1 : put H p1 (.lst ((kids f).map fV)) p1 = some (.lst ((kids f).map fV)) := put_same
    generalize put H p1 (.lst ((kids f).map fV)) = H1 at *
    rw [w_enL]
    refine ⟨_, e1, ?_⟩
    refine for_atD (fun i σ H2 => ∃ z4 z5 k new, σ = [some (.ref x), some (fV f), some (.tup (p.map PV.int)), some (fV k), z4, z5] ∧ Pt p f k ths new i ∧ (ths ++ new).length ≤ 400 ∧ Cg H1 H2 a ∧ H2 a = some (.lst ((ths ++ new).map thV))) ?_ ?_ ⟨_, _, f, [], rfl, ⟨.nil, rfl, fun _ _ => rfl, .inl fun j g hj => absurd hj (Nat.not_lt_zero _)⟩, by rw [List.append_nil]; exact tl, fun b o _ e => e, by rw [List.append_nil]; exact s1 _ _ ha⟩
    · rintro σ H2 ⟨z4, z5, k, new, rfl, pt1, nl, cg, ea⟩
      refine ⟨cg _ _ na.symm e1, ?_⟩
      rw [num_len, List.length_map] at pt1
      subst hR
      walk_at "rd"
      have cgH : Cg H H2 a := fun b o nb e => cg b o nb (s1 _ _ e)
      refine ⟨⟨dx, TF a, cgH _ _ hxa hx, rfl⟩, k, p, dx, a, ths ++ new, rfl, rfl, pt1.res.gd gd, by omega, cgH _ _ hxa hx, ea, nl, fun g new2 H3 rs tk t0 nl2 cg2 ea2 => ⟨H3, Sub.refl _, ?_⟩⟩
      refine h g (new ++ new2) H3 (pt1.res.trans rs) ?_ (by rw [← List.append_assoc]; exact nl2) (fun b o nb e => cg2 b o nb (cgH b o nb e)) (by rw [← List.append_assoc]; exact ea2)
      rw [← List.append_assoc]
      rcases t0 with t0 | t0
      · rcases pt1.tn with q | q
        · refine .inl (tn_iff.mpr ⟨t0, tk (tk_kids fun e he => ?_)⟩)
          obtain ⟨j, hj, ej⟩ := List.mem_iff_getElem.mp he
          exact q j e (by rw [← pt1.len]; exact hj) (by rw [List.getElem?_eq_getElem hj, ej])
        · exact .inr (by rw [List.length_append] at nl2 ⊢; omega)
      · exact .inr t0
    · rintro D i y σ H2 hy ⟨z4, z5, k, new, rfl, pt1, nl, cg, ea⟩ kk
      refine ⟨cg _ _ na.symm e1, ?_⟩
      obtain ⟨y1, hy1, rfl⟩ := num_get hy
      rw [List.getElem?_map] at hy1
      cases hk : (kids f)[i]? with
      | none => rw [hk] at hy1; cases hy1
      | some b =>
        rw [hk] at hy1
        cases hy1
        have hkk : (kids k)[i]? = some b := (pt1.rest i (Nat.le_refl _)).trans hk
        obtain ⟨_, e2, dpb, gdb⟩ := kid_at hk
        have cgH : Cg H H2 a := fun b o nb e => cg b o nb (s1 _ _ e)
        simp only [vTup, vCons, vName, List.set_cons_zero, List.set_cons_succ]
        refine ⟨rfl, rfl, ?_⟩
        walk_at "rd"
        have kne : kids k ≠ [] := fun z => by rw [z] at hkk; cases hkk
        refine ⟨⟨dx, TF a, cgH _ _ hxa hx, rfl⟩, small_size (by decide), small_size (by rw [List.length_map]; omega), b, p ++ [(i : Int)], dx, a, ths ++ new, rfl, by rw [List.map_append]; rfl, gdb gd, by omega, by rw [List.length_append, List.length_singleton]; omega, cgH _ _ hxa hx, ea, nl, fun g l H3 rs tn nl2 cg2 ea2 => ⟨k, g, rfl, rfl, kne, kk _ _ ⟨_, _, _, new ++ l, rfl, pt1.next hk rs tn nl2, by rw [← List.append_assoc]; exact nl2, fun b o nb e => cg2 b o nb (cg b o nb e), by rw [← List.append_assoc]; exact ea2⟩⟩⟩
  · exact h.elim
theorem G_thin (T : Tx w K mg t) : ∀ n, FnOk' P w K mg base CX0 (n + 6) t.a_Thinner_thin t.d_Thinner_thin ["self", "formula", "place"] (sp_thin t n)
  | 0 => G_thin0 T
  | n + 1 => G_thinS T (G_thin T n)

theorem G_thinned (T : Tx w K mg t) : FnOk' P w K mg base CX0 58 t.a_thinned t.d_thinned ["drawing", "formula"] (sp_thinned t) := by
  refine okU (k := 57) T.F_thinned sc_thinned (fun vs H Q E h => by
    unfold sp_thinned at h
    split at h
    · rfl
    · exact h.elim) (fun cdv A outer s H E B hr => ⟨_, (qss_cons (qs_set (i := 2) sc_thinned.nd rfl (by first | exact Or.inl rfl | exact Or.inr rfl) (qe_make0 T.mk_Thinner (G_Thinner_init T) (hr.mono (by decide)) rfl T.g_Thinner T.B_Thinner_init))
    (qss_cons (qs_set (i := 3) sc_thinned.nd rfl (by first | exact Or.inl rfl | exact Or.inr rfl) (qe_meth (qv 2) T.cl_Thinner T.m_Thinner_thin (G_thin T 51) (hr.mono (by decide)) T.B_Thinner_thin (qa_cons (qv 1) (qa_cons (qe_tup qa_nil) qa_nil))))
    (qss_one (qs_ret (qe_tup (qa_cons (qv 3) (qa_cons (qe_fld (qv 2) T.cl_Thinner T.nf_Thinner_thinnings rfl) qa_nil))))))), ?_⟩)
  intro vs H Q E h
  unfold sp_thinned at h
  split at h
  · rename_i d v
    obtain ⟨f, rfl, gd, h⟩ := h
    refine seq_abs fun R hR => ?_
    walk_at "rd"
    intro x dx hx hdx ne
    refine ⟨dx, rfl, fun a ha => ?_⟩
    have nxa : x ≠ a := fun z => by rw [← z, put_same] at ha; cases ha
    have ha0 : H a = none := by rw [put_ne nxa.symm] at ha; exact ha
    have ex : put (put (put H x (.ins t.a_Thinner dx [])) a (.lst [])) x (.ins t.a_Thinner dx (TF a)) x = some (.ins t.a_Thinner dx (TF a)) := put_same
    have ea : put (put (put H x (.ins t.a_Thinner dx [])) a (.lst [])) x (.ins t.a_Thinner dx (TF a)) a = some (.lst (([] : List Th).map thV)) := by rw [put_ne nxa.symm, put_same]; rfl
    have s1 : U.Sub H (put (put (put H x (.ins t.a_Thinner dx [])) a (.lst [])) x (.ins t.a_Thinner dx (TF a))) := fun b o e => by rw [put_ne (ne_none e hx), put_ne (ne_none e ha0), put_ne (ne_none e hx)]; exact e
    generalize put (put (put H x (.ins t.a_Thinner dx [])) a (.lst [])) x (.ins t.a_Thinner dx (TF a)) = H1 at *
    subst hR
    refine seq_abs fun R hR => ?_
    walk_at "rd"
    have d50 := gd.2.1
    refine ⟨⟨dx, TF a, ex, rfl⟩, small_size (by decide), f, [], dx, a, [], rfl, rfl, gd, by omega, by simp; omega, ex, ea, by decide, fun g new H2 rs tn nl cg ea2 => ?_⟩
    have ex2 := cg _ _ nxa ex
    rw [List.nil_append] at tn nl ea2
    subst hR
    walk_at "rd"
    have td : Tld f g new := ⟨by rw [rs.run f FM.at_nil, FM.pt_nil], rs.wd, rs.gd gd, rs.op, tn, nl⟩
    exact ⟨dx, _, _, ex2, rfl, small_size (by decide), H2, Sub.refl _, h g new a H2 td (fun b o e => cg b o (ne_none e ha0) (s1 _ _ e)) ha0 ea2⟩
  · exact h.elim

theorem G_law_digits (T : Tx w K mg t) : FnOk' P w K mg base CX0 1 t.a_law_digits t.d_law_digits ["_law_script", "_law_at", "_law_parts"] sp_digits := by
  refine okU (k := 0) T.F_law_digits sc_law_digits (fun vs H Q E h => by
    unfold sp_digits at h
    split at h
    · rfl
    · exact h.elim) (fun cdv A outer s H E B hr => ⟨_, (qss_cons (qs_set (i := 3) sc_law_digits.nd rfl (by first | exact Or.inl rfl | exact Or.inr rfl) (qe_callB (call_sumI rfl) vc_sum rfl T.b_sum boot_sum (qa_cons (qe_comp (N2 := ["_law_k", "_law_script"]) (nt := 1) (js := [0]) (cok (sc := defScope s_law_digits) (by exact rfl) (by repeat (first | exact trivial | refine ⟨rfl, ?_⟩)) rfl (by rfl) (by decide +kernel) (by decide +kernel) (by rfl) (by decide +kernel) (by rfl) (by rfl)) rfl (qi_by3 rfl T.b_range (qa_cons (qv 1) (qa_cons (qe_callB (call_min2 rfl) vc_min rfl T.b_min boot_min (qa_cons (qe_callB call_len_seq vc_len rfl T.b_len PySem.boot_len (qa_cons (qv 0) qa_nil)) (qa_cons qe_int qa_nil))) (qa_cons (qv 2) qa_nil)))) (fun s0 H0 fp ps => ⟨(qg_name (i := 0) (show List.Nodup (["_law_k", "_law_script"] : List Str) by decide +kernel) rfl (by first | exact Or.inl rfl | exact Or.inr rfl)), qif_nil, (qe_ix (qv 1) (qv 0) (fun _ _ => rfl))⟩)) qa_nil)))
    (qss_cons (qs_set (i := 4) sc_law_digits.nd rfl (by first | exact Or.inl rfl | exact Or.inr rfl) (qe_lst qa_nil))
    (qss_cons (qs_set (i := 5) sc_law_digits.nd rfl (by first | exact Or.inl rfl | exact Or.inr rfl) (qe_mod (qv 3) qe_int))
    (qss_cons (qs_set (i := 6) sc_law_digits.nd rfl (by first | exact Or.inl rfl | exact Or.inr rfl) (qe_mul (qv 3) (qe_callTy call_int1 vc_int rfl T.b_int boot_int (qa_cons (qe_cmp op_ge vr_ge (qv 3) (qe_pow qe_int qe_int) (nomark _)) qa_nil))))
    (qss_cons (qs_for PassesOwn.never rfl (qi_range1 rfl T.b_range (qa_cons qe_int qa_nil)) (qg_name (i := 7) sc_law_digits.nd rfl (by first | exact Or.inl rfl | exact Or.inr rfl))
    (qss_cons (qs_set (i := 5) sc_law_digits.nd rfl (by first | exact Or.inl rfl | exact Or.inr rfl) (qe_mod (qe_add (qe_add (qe_mul (qv 5) (qv 5)) (qv 3)) (qv 7)) qe_int))
      (qss_cons (qs_if (qt_cmp op_gt vr_gt (qv 6) qe_int (nomark _))
      (qss_one (qs_expr (qe_bm PySem.F.slot_list_append PySem.F.type_list_append mt_append vm_append (qv 4) (qa_cons (qe_mod (qv 6) qe_int) qa_nil))))
      (qss_one (qs_expr (qe_bm PySem.F.slot_list_append PySem.F.type_list_append mt_append vm_append (qv 4) (qa_cons (qe_mod (qe_mod (qe_mul (qv 5) (qv 5)) qe_int) qe_int) qa_nil)))))
      (qss_one (qs_set (i := 6) sc_law_digits.nd rfl (by first | exact Or.inl rfl | exact Or.inr rfl) (qe_fdiv (qv 6) qe_int))))))
    (qss_one (qs_ret (qe_rev rfl rfl T.b_list rfl T.b_reversed boot_list boot_reversed (qv 4))))))))), ?_⟩)
  intro vs H Q E h
  unfold sp_digits at h
  split at h
  · rename_i l k n
    obtain ⟨zn, ⟨k0, k3⟩, ns, rfl, h⟩ := h
    refine seq_abs fun R hR => ?_
    walk_at "rd"
    rw [List.length_map]
    generalize hm : (if (63 : Int) < ((ns.length : Nat) : Int) then 63 else ((ns.length : Nat) : Int)) = m
    have m0 : 0 ≤ m ∧ m ≤ 63 ∧ m ≤ ns.length := by
      rw [← hm]
      split <;> omega
    refine ⟨zn, k0, by omega, m0.1, by omega, fun acc hacc => ?_⟩
    refine comp_pure (fun y => .int (gI ns y)) (fun _ => true) (fun σ => ∃ z, σ = [z, some (.fls (ns.map PV.int))]) (by3L_len zn k0 m0.2.1) (fun _ => trivial) ?_ ?_ ⟨_, rfl⟩
    · rintro y hy l σ R ⟨z, rfl⟩ hl kT kF
      obtain ⟨u, rfl, u0, u1⟩ := mem_by3 zn hy
      walk_at "rd"
      rw [atI_int (by omega) (by omega)]
      exact ⟨hl, by rw [put_put]; exact kT rfl _ ⟨_, rfl⟩⟩
    refine ⟨((by3L n k (byS n k m)).filter fun _ => true).map (gI ns), by rw [put_same, List.map_map]; rfl, ?_⟩
    generalize (((by3L n k (byS n k m)).filter fun _ => true).map (gI ns)).sum = u
    have sA := (Sub.refl H).put (o := .lst (List.map (fun y => .int (gI ns y)) ((by3L n k (byS n k m)).filter fun _ => true))) hacc
    generalize put H acc (.lst (List.map (fun y => .int (gI ns y)) ((by3L n k (byS n k m)).filter fun _ => true))) = H1 at *
    subst hR
    refine seq_abs fun R hR => ?_
    walk_at "rd"
    refine ⟨small_size (by decide), fun p hp => ?_⟩
    subst hR
    refine seq_abs fun R hR => ?_
    walk_at "rd"
    refine ⟨by decide, ?_⟩
    subst hR
    have f0 := fm (a := u) (b := 2147483629) (by decide)
    generalize u.fmod 2147483629 = fi at *
    refine seq_abs fun R hR => ?_
    walk_at "rd"
    refine ⟨⟨by decide, by decide, by decide⟩, ?_⟩
    have hb : ∀ b : Bool, CMulN u (b2n b) := fun b => .inl (.inr (by cases b <;> decide))
    refine ⟨hb _, ?_⟩
    generalize u * b2n _ = rs
    subst hR
    have hpH : H p = none := sA.free hp
    have sB := sA.put (o := .lst []) hpH
    refine seq_abs fun R hR => ?_
    walk_at "rd"
    refine ⟨⟨by decide, by decide⟩, ?_⟩
    refine for_rngD (fun i σ H2 => ∃ fi rs z xs, σ = [some (.fls (ns.map PV.int)), some (.int k), some (.int n), some (.int u), some (.ref p), some (.int fi), some (.int rs), z] ∧ (0 ≤ fi ∧ fi < 2147483629) ∧ U.Sub H H2 ∧ H2 p = some (.lst (xs.map PV.int)) ∧ xs.length = i ∧ Nn xs) ?_ ?_ ⟨fi, rs, none, [], rfl, f0, sB, put_same, rfl, fun x hx => by cases hx⟩
    · rintro σ H2 ⟨fi, rs, z, xs, rfl, hf, s2, hp2, hl, nn⟩
      refine ⟨trivial, ?_⟩
      subst hR
      walk_at "rd"
      refine ⟨_, hp2, fun r hr => ⟨put H r (.lst (xs.reverse.map PV.int)), ?_, h r xs.reverse (s2.free hr) (by rw [List.length_reverse, hl]; decide) fun x hx => nn x (List.mem_reverse.mp hx)⟩⟩
      rw [← List.map_reverse]
      exact sub_put (s2.put (s2.free hr)) put_same
    · rintro D i σ H2 hi ⟨fi, rs, z, xs, rfl, ⟨f0, f1⟩, s2, hp2, hl, nn⟩ kk
      refine ⟨trivial, ?_⟩
      simp only [vName, List.set_cons_zero, List.set_cons_succ]
      refine seq_abs fun R hR => ?_
      walk_at "rd"
      refine ⟨.inl (.inl ⟨by omega, by omega⟩), by decide, ?_⟩
      subst hR
      have g0 := fm (a := fi * fi + u + ((i : Nat) : Int)) (b := 2147483629) (by decide)
      generalize (fi * fi + u + ((i : Nat) : Int)).fmod 2147483629 = fj at *
      refine seq_abs fun R hR => ?_
      have lz : (xs.map PV.int).length < sizeLine := by rw [List.length_map]; exact small1000 (by omega)
      have last : ∀ x, 0 ≤ x → R D [some (.fls (ns.map PV.int)), some (.int k), some (.int n), some (.int u), some (.ref p), some (.int fj), some (.int rs), some (.int (i : Nat))] (put H2 p (.lst (xs.map PV.int ++ [.int x]))) := fun x hx => by
        subst hR
        walk_at "rd"
        refine ⟨cdvB (by decide) (by decide), kk _ _ ⟨fj, _, _, xs ++ [x], rfl, g0, s2.put hpH, by rw [put_same, List.map_append]; rfl, by rw [List.length_append, hl]; rfl, nn_app nn hx⟩⟩
      walk_at "rd"
      refine cif_by (fun q => ?_) (fun q => ?_)
      · exact ⟨⟨_, hp2⟩, by decide, _, hp2, lz, last _ (fm (by decide)).1⟩
      · exact ⟨⟨_, hp2⟩, .inl (.inl ⟨by omega, by omega⟩), by decide, by decide, _, hp2, lz, last _ (fm (by decide)).1⟩
  · exact h.elim

theorem G_law_names_by (T : Tx w K mg t) : FnOk' P w K mg base CX0 1 t.a_law_names_by t.d_law_names_by ["_law_digit", "_law_count"] sp_nb := by
  refine okU (k := 0) T.F_law_names_by sc_law_names_by (fun vs H Q E h => by
    unfold sp_nb at h
    split at h
    · rfl
    · exact h.elim) (fun cdv A outer s H E B hr => ⟨_, (qss_one (qs_ret (qe_callTy call_tuple_of vc_tuple rfl T.b_tuple boot_tuple (qa_cons (qe_comp (N2 := ["_law_name", "_law_digit"]) (nt := 1) (js := [0]) (cok (sc := defScope s_law_names_by) (by exact rfl) (by repeat (first | exact trivial | refine ⟨rfl, ?_⟩)) rfl (by rfl) (by decide +kernel) (by decide +kernel) (by rfl) (by decide +kernel) (by rfl) (by rfl)) rfl (qi_range1 rfl T.b_range (qa_cons (qv 1) qa_nil)) (fun s0 H0 fp ps => ⟨(qg_name (i := 0) (show List.Nodup (["_law_name", "_law_digit"] : List Str) by decide +kernel) rfl (by first | exact Or.inl rfl | exact Or.inr rfl)), (qif_one (qt_cmp (op_eqU hr.units) vr_eq (qe_mod (qe_shr (qv 1) (qv 0)) qe_int) qe_int (nomark _))), (qv 0)⟩)) qa_nil)))), ?_⟩)
  intro vs H Q E h
  unfold sp_nb at h
  split at h
  · rename_i n c
    obtain ⟨⟨n0, c1, c6⟩, h⟩ := h
    walk_at "rd"
    refine ⟨⟨by omega, by omega⟩, fun acc hacc => ?_⟩
    rw [rng_ul]
    refine comp_pure (fun y => y) (onI fun u => (n / 2 ^ u.toNat).fmod 2 == 1) (fun σ => ∃ z, σ = [z, some (.int n)]) (by rw [List.length_map, ul_len]; omega) (fun _ => trivial) ?_ ?_ ⟨_, rfl⟩
    · rintro y hy l σ R ⟨z, rfl⟩ hl kT kF
      obtain ⟨u, hu, rfl⟩ := List.mem_map.mp hy
      have u0 := (mem_ulN.mp hu).1
      dsimp only [onI] at kT kF
      walk_at "rd"
      refine ⟨u0, by decide, cif_by (fun q => ?_) (fun q => ?_)⟩
      · exact ⟨hl, by rw [put_put]; exact kT q _ ⟨_, rfl⟩⟩
      · exact kF q _ ⟨_, rfl⟩
    rw [ints_filter]
    refine ⟨_, put_same, H, Sub.put (Sub.refl _) hacc, h _ ⟨(ul_up c).filter _, fun x hx => ?_⟩⟩
    have := mem_ulN.mp (List.mem_filter.mp hx).1
    omega
  · exact h.elim

theorem G_law_grown0 (T : Tx w K mg t) : FnOk' P w K mg base CX0 (1) t.a_law_grown t.d_law_grown ["_law_purse", "_law_count", "_law_down"] (sp_grown 0) := by
  refine okU (k := 0) T.F_law_grown sc_law_grown (fun vs H Q E h => by
    unfold sp_grown at h
    split at h
    · rfl
    · exact h.elim) (fun cdv A outer s H E B hr => ⟨_, qss_never, ?_⟩)
  intro vs H Q E h
  unfold sp_grown at h
  split at h
  · obtain ⟨⟨hd, hd0⟩, _⟩ := h
    omega
  · exact h.elim
theorem G_law_grownS (T : Tx w K mg t) {n : Nat} (ih : FnOk' P w K mg base CX0 (n + 1) t.a_law_grown t.d_law_grown ["_law_purse", "_law_count", "_law_down"] (sp_grown n)) : FnOk' P w K mg base CX0 (n + 2) t.a_law_grown t.d_law_grown ["_law_purse", "_law_count", "_law_down"] (sp_grown (n + 1)) := by
  refine okU (k := n + 1) T.F_law_grown sc_law_grown (fun vs H Q E h => by
    unfold sp_grown at h
    split at h
    · rfl
    · exact h.elim) (fun cdv A outer s H E B hr => ⟨_, (qss_cons (qs_set (i := 3) sc_law_grown.nd rfl (by first | exact Or.inl rfl | exact Or.inr rfl) (qe_bm0 PySem.F.slot_list_pop PySem.F.type_list_pop mt_pop vm_pop hl_pop (qv 0)))
    (qss_cons (qs_set (i := 4) sc_law_grown.nd rfl (by first | exact Or.inl rfl | exact Or.inr rfl) (qe_mod (qv 3) qe_int))
    (qss_cons (qs_set (i := 5) sc_law_grown.nd rfl (by first | exact Or.inl rfl | exact Or.inr rfl) (qe_call (G_law_names_by T) (hr.mono (by omega)) rfl T.g_law_names_by T.F_law_names_by.kp T.B_law_names_by (qa_cons (qe_fdiv (qv 3) qe_int) (qa_cons (qv 1) qa_nil))))
    (qss_cons (qs_if (qt_bool (qw_or (qt_cmp (op_eqU hr.units) vr_eq (qv 2) qe_int (nomark _)) (qw_or1 (qt_cmp op_lt vr_lt (qv 4) qe_int (nomark _)))))
    (qss_cons (qs_if (qt_cmp (op_eqU hr.units) vr_eq (qe_mod (qe_fdiv (qv 3) qe_int) qe_int) qe_int (nomark _))
      (qss_one (qs_ret (qe_tup (qa_cons qe_str qa_nil))))
      qss_nil)
      (qss_one (qs_ret (qe_tup (qa_cons qe_str (qa_cons (qv 5) qa_nil))))))
    qss_nil)
    (qss_cons (qs_if (qt_cmp op_lt vr_lt (qv 4) qe_int (nomark _))
    (qss_cons (qs_if (qt_cmp (op_eqU hr.units) vr_eq (qv 5) (qe_tup qa_nil) (nomark _))
      (qss_one (qs_set (i := 5) sc_law_grown.nd rfl (by first | exact Or.inl rfl | exact Or.inr rfl) (qe_tup (qa_cons (qe_mod (qe_fdiv (qv 3) qe_int) (qv 1)) qa_nil))))
      qss_nil)
      (qss_one (qs_ret (qe_tup (qa_cons qe_str (qa_cons (qv 5) (qa_cons (qe_call ih (hr.mono (by omega)) rfl T.g_law_grown T.F_law_grown.kp T.B_law_grown (qa_cons (qv 0) (qa_cons (qv 1) (qa_cons (qe_sub (qv 2) qe_int) qa_nil)))) qa_nil)))))))
    qss_nil)
    (qss_cons (qs_set (i := 6) sc_law_grown.nd rfl (by first | exact Or.inl rfl | exact Or.inr rfl) (qe_call ih (hr.mono (by omega)) rfl T.g_law_grown T.F_law_grown.kp T.B_law_grown (qa_cons (qv 0) (qa_cons (qv 1) (qa_cons (qe_sub (qv 2) qe_int) qa_nil)))))
    (qss_one (qs_ret (qe_tup (qa_cons (qe_ix (qe_lst (qa_cons qe_str (qa_cons qe_str qa_nil))) (qe_mod (qe_fdiv (qv 3) qe_int) qe_int) (fun _ _ => rfl)) (qa_cons (qv 6) (qa_cons (qe_call ih (hr.mono (by omega)) rfl T.g_law_grown T.F_law_grown.kp T.B_law_grown (qa_cons (qv 0) (qa_cons (qv 1) (qa_cons (qe_sub (qv 2) qe_int) qa_nil)))) qa_nil)))))))))))), ?_⟩)
  intro vs H Q E h
  unfold sp_grown at h
  split at h
  · rename_i p c d
    obtain ⟨⟨hd, hd0⟩, ⟨c1, c6⟩, xs, hp, nn, hl, h⟩ := h
    have nl : need (n + 1) = 2 * need n + 1 := rfl
    obtain ⟨dg, e1, e2, e3, e4, e5⟩ := pop_int (xs := xs) (by omega)
    have dg0 := nn dg e2
    have nny : Nn xs.dropLast := fun z hz => nn z (e5 z hz)
    generalize xs.dropLast = ys at *
    refine seq_abs fun R hR => ?_
    walk_at "rd"
    refine ⟨_, _, hp, e1, ?_⟩
    rw [e3]
    subst hR
    refine seq_abs fun R hR => ?_
    walk_at "rd"
    refine ⟨by decide, ?_⟩
    subst hR
    generalize dg.fmod 8 = wy at *
    refine seq_abs fun R hR => ?_
    walk_at "rd"
    refine ⟨cdvB (by decide) (by decide), ⟨fd dg0 (by decide), c1, c6⟩, fun L hL => ?_⟩
    subst hR
    refine seq_abs fun R hR => ?_
    have hone : ∃ H3, U.Sub H3 (put H p (.lst (ys.map PV.int))) ∧ Q (.tup [.str "one"]) H3 := ⟨_, Sub.refl _, h .one ys trivial (by simp only [dp]; omega) (by simp only [sz]; omega) nny (by omega)⟩
    have hseen : ∃ H3, U.Sub H3 (put H p (.lst (ys.map PV.int))) ∧ Q (.tup [.str "seen", .tup (L.map PV.int)]) H3 := ⟨_, Sub.refl _, h (.seen L) ys hL (by simp only [dp]; omega) (by simp only [sz]; omega) nny (by omega)⟩
    walk_at "rd"
    have leaf := (⟨cdvB (by decide) (by decide), by decide, cif_by (fun _ => ⟨small_size (by decide), hone⟩) (fun _ => ⟨small_size (by decide), hseen⟩)⟩ : CDivB dg 8 ∧ (11 : Int) ≠ 0 ∧ cif (((dg.fdiv 8).fmod 11) == 5) (1 ≤ sizeLine ∧ ∃ H3, U.Sub H3 (put H p (.lst (ys.map PV.int))) ∧ Q (.tup [.str "one"]) H3) (2 ≤ sizeLine ∧ ∃ H3, U.Sub H3 (put H p (.lst (ys.map PV.int))) ∧ Q (.tup [.str "seen", .tup (L.map PV.int)]) H3))
    refine cif_by (fun _ => leaf) (fun q1 => cif_by (fun _ => leaf) (fun q2 => ?_))
    have dn : d ≠ 0 := by simpa using q1
    subst hR
    have fin : ∀ M f zs, Nm M → Ok f → dp f < n → sz f ≤ need n → Nn zs → ys.length ≤ zs.length + need n → ∃ H3, U.Sub H3 (put H p (.lst (zs.map PV.int))) ∧ Q (.tup [.str "sum", .tup (M.map PV.int), fV f]) H3 := fun M f zs hM of h1 h2 nz h3 =>
      ⟨_, Sub.refl _, h (.sum M f) zs ⟨hM, of⟩ (by simp only [dp]; omega) (by simp only [sz]; omega) nz (by omega)⟩
    refine seq_abs fun R hR => ?_
    walk_at "rd"
    refine cif_by (fun q3 => ?_) (fun q3 => ?_)
    · refine ⟨small_size (by decide), flat_ints, cif_by (fun _ => ?_) (fun _ => ?_)⟩
      · have fc := fm (a := dg.fdiv 512) (b := c) (by omega)
        refine ⟨cdvB (by decide) (by decide), by omega, small_size (by decide), ⟨by omega, by omega⟩, ⟨c1, c6⟩, ys, rfl, nny, by omega, fun f zs of h1 h2 nz h3 => ?_⟩
        try rw [put_put]
        exact ⟨small_size (by decide), fin [_] f zs (nm_one ⟨fc.1, by omega⟩) of h1 h2 nz h3⟩
      · refine ⟨⟨by omega, by omega⟩, ⟨c1, c6⟩, ys, rfl, nny, by omega, fun f zs of h1 h2 nz h3 => ?_⟩
        try rw [put_put]
        exact ⟨small_size (by decide), fin L f zs hL of h1 h2 nz h3⟩
    · subst hR
      refine seq_abs fun R hR => ?_
      walk_at "rd"
      refine ⟨⟨by omega, by omega⟩, ⟨c1, c6⟩, ys, rfl, nny, by omega, fun f1 zs of1 d1 z1 nz1 l1 => ?_⟩
      try rw [put_put]
      subst hR
      walk_at "rd"
      refine ⟨small_size (by decide), fun r hr => ?_⟩
      try walk_at "rd"
      refine ⟨cdvB (by decide) (by decide), by decide, ?_⟩
      have npr : p ≠ r := fun e => by subst e; rw [put_same] at hr; cases hr
      have hrH : H r = none := by rw [put_ne npr.symm] at hr; exact hr
      have f2 := fm (a := dg.fdiv 512) (b := 2) (by decide)
      have sx : ∀ zs2 : List Int, U.Sub (put H p (.lst (zs2.map PV.int))) (put (put (put H p (.lst (zs.map PV.int))) r (.lst [.str "times", .str "over"])) p (.lst (zs2.map PV.int))) := fun zs2 => sub_putx (fun a u ha hu => by
        have na : a ≠ r := ne_none hu hrH
        rw [put_ne ha, put_ne na, put_ne ha]; exact hu) put_same
      rcases ix2 f2.1 f2.2 with ⟨_, e⟩ | ⟨_, e⟩
      · rw [e]
        try walk_at "rd"
        refine ⟨⟨by omega, by omega⟩, ⟨c1, c6⟩, zs, (put_ne npr).trans put_same, nz1, by omega, fun f2 zs2 of2 d2 z2 nz2 l2 => ⟨small_size (by decide), _, sx zs2, ?_⟩⟩
        exact h (.times f1 f2) zs2 ⟨of1, of2⟩ (by simp only [dp]; omega) (by simp only [sz]; omega) nz2 (by omega)
      · rw [e]
        try walk_at "rd"
        refine ⟨⟨by omega, by omega⟩, ⟨c1, c6⟩, zs, (put_ne npr).trans put_same, nz1, by omega, fun f2 zs2 of2 d2 z2 nz2 l2 => ⟨small_size (by decide), _, sx zs2, ?_⟩⟩
        exact h (.over f1 f2) zs2 ⟨of1, of2⟩ (by simp only [dp]; omega) (by simp only [sz]; omega) nz2 (by omega)
  · exact h.elim
theorem G_law_grown (T : Tx w K mg t) : ∀ n, FnOk' P w K mg base CX0 (n + 1) t.a_law_grown t.d_law_grown ["_law_purse", "_law_count", "_law_down"] (sp_grown n)
  | 0 => G_law_grown0 T
  | n + 1 => G_law_grownS T (G_law_grown T n)

theorem G_law_open0 (T : Tx w K mg t) : FnOk' P w K mg base CX0 (1) t.a_law_open t.d_law_open ["_law_formula"] (sp_open 0) := by
  refine okU (k := 0) T.F_law_open sc_law_open (fun vs H Q E h => by
    unfold sp_open at h
    split at h
    · rfl
    · exact h.elim) (fun cdv A outer s H E B hr => ⟨_, qss_never, ?_⟩)
  intro vs H Q E h
  unfold sp_open at h
  split at h
  · obtain ⟨f, _, hd, _⟩ := h
    omega
  · exact h.elim
theorem G_law_openS (T : Tx w K mg t) {n : Nat} (ih : FnOk' P w K mg base CX0 (n + 1) t.a_law_open t.d_law_open ["_law_formula"] (sp_open n)) : FnOk' P w K mg base CX0 (n + 2) t.a_law_open t.d_law_open ["_law_formula"] (sp_open (n + 1)) := by
  refine okU (k := n + 1) T.F_law_open sc_law_open (fun vs H Q E h => by
    unfold sp_open at h
    split at h
    · rfl
    · exact h.elim) (fun cdv A outer s H E B hr => ⟨_, (qss_cons (qs_if (qt_cmp (op_eqU hr.units) vr_eq (qe_ix (qv 0) qe_int (fun _ _ => rfl)) qe_str (nomark _))
    (qss_one (qs_ret (qe_tup qa_nil)))
    qss_nil)
    (qss_cons (qs_if (qt_cmp (op_eqU hr.units) vr_eq (qe_ix (qv 0) qe_int (fun _ _ => rfl)) qe_str (nomark _))
    (qss_one (qs_ret (qe_ix (qv 0) qe_int (fun _ _ => rfl))))
    qss_nil)
    (qss_cons (qs_if (qt_cmp (op_eqU hr.units) vr_eq (qe_ix (qv 0) qe_int (fun _ _ => rfl)) qe_str (nomark _))
    (qss_one (qs_ret (qe_callTy call_tuple_of vc_tuple rfl T.b_tuple boot_tuple (qa_cons (qe_comp (N2 := ["_law_name", "_law_formula"]) (nt := 1) (js := [0]) (cok (sc := defScope s_law_open) (by exact rfl) (by repeat (first | exact trivial | refine ⟨rfl, ?_⟩)) rfl (by rfl) (by decide +kernel) (by decide +kernel) (by rfl) (by decide +kernel) (by rfl) (by rfl)) rfl (qi_seq (qe_call ih (hr.mono (by omega)) rfl T.g_law_open T.F_law_open.kp T.B_law_open (qa_cons (qe_ix (qv 0) qe_int (fun _ _ => rfl)) qa_nil))) (fun s0 H0 fp ps => ⟨(qg_name (i := 0) (show List.Nodup (["_law_name", "_law_formula"] : List Str) by decide +kernel) rfl (by first | exact Or.inl rfl | exact Or.inr rfl)), (qif_one (qt_cmp (op_notInU hr.units) vr_in (qv 0) (qe_ix (qv 1) qe_int (fun _ _ => rfl)) (by with_unfolding_all rfl))), (qv 0)⟩)) qa_nil))))
    qss_nil)
    (qss_cons (qs_set (i := 1) sc_law_open.nd rfl (by first | exact Or.inl rfl | exact Or.inr rfl) (qe_catT (qe_call ih (hr.mono (by omega)) rfl T.g_law_open T.F_law_open.kp T.B_law_open (qa_cons (qe_ix (qv 0) qe_int (fun _ _ => rfl)) qa_nil)) (qe_call ih (hr.mono (by omega)) rfl T.g_law_open T.F_law_open.kp T.B_law_open (qa_cons (qe_ix (qv 0) qe_int (fun _ _ => rfl)) qa_nil))))
    (qss_one (qs_ret (qe_callTy call_tuple_of vc_tuple rfl T.b_tuple boot_tuple (qa_cons (qe_comp (N2 := ["_law_name", "_law_both"]) (nt := 1) (js := [1]) (cok (sc := defScope s_law_open) (by exact rfl) (by repeat (first | exact trivial | refine ⟨rfl, ?_⟩)) rfl (by rfl) (by decide +kernel) (by decide +kernel) (by rfl) (by decide +kernel) (by rfl) (by rfl)) rfl (qi_range1 rfl T.b_range (qa_cons qe_int qa_nil)) (fun s0 H0 fp ps => ⟨(qg_name (i := 0) (show List.Nodup (["_law_name", "_law_both"] : List Str) by decide +kernel) rfl (by first | exact Or.inl rfl | exact Or.inr rfl)), (qif_one (qt_cmp (op_inU hr.units) vr_in (qv 0) (qv 1) (by with_unfolding_all rfl))), (qv 0)⟩)) qa_nil)))))))), ?_⟩)
  intro vs H Q E h
  unfold sp_open at h
  split at h
  · rename_i v
    obtain ⟨f, rfl, hd, ok, h⟩ := h
    cases f with
    | one =>
      unfold fV
      walk_at "rd"
      exact cif_pos (by decide) ⟨small_size (by decide), H, Sub.refl _, h [] ⟨.nil, fun x => by simp [Op]⟩ (by simp)⟩
    | seen ns =>
      unfold fV
      walk_at "rd"
      exact cif_neg (by decide) (cif_pos (by decide) ⟨H, Sub.refl _, h ns ⟨ok.1, fun x => Iff.rfl⟩ ok.2⟩)
    | sum ns f =>
      unfold fV
      refine seq_abs fun R hR => ?_
      walk_at "rd"
      refine cif_neg (by decide) ?_
      subst hR
      refine seq_abs fun R hR => ?_
      walk_at "rd"
      refine cif_neg (by decide) ?_
      subst hR
      walk_at "rd"
      refine cif_pos (by decide) ?_
      have da := hd
      simp only [dp] at da
      refine ⟨f, rfl, by omega, ok.2, fun ms o1 l1 acc hacc => ?_⟩
      have n1 := isop_len o1 ok.2
      refine comp_pure (fun y => y) (onI fun u => !decide (u ∈ ns)) (fun σ => ∃ z, σ = [z, some (.tup [.str "sum", .tup (ns.map PV.int), fV f])]) (by rw [List.length_map]; omega) (fun _ => trivial) ?_ ?_ ⟨_, rfl⟩
      · rintro y hy l σ R ⟨z, rfl⟩ hl kT kF
        obtain ⟨u, hu, rfl⟩ := List.mem_map.mp hy
        dsimp only [onI] at kT kF
        walk_at "rd"
        rw [any_int]
        refine ⟨flat_ints, cif_by (fun q => ?_) (fun q => ?_)⟩
        · exact ⟨hl, by rw [put_put]; exact kT q _ ⟨_, rfl⟩⟩
        · exact kF q _ ⟨_, rfl⟩
      rw [ints_filter]
      refine ⟨_, put_same, H, Sub.put (Sub.refl _) hacc, h _ ⟨o1.1.filter _, fun x => ?_⟩ fun x hx => l1 x (List.mem_filter.mp hx).1⟩
      rw [List.mem_filter, o1.2]
      simp [Op]
    | times a b =>
      unfold fV
      refine seq_abs fun R hR => ?_
      walk_at "rd"
      refine cif_neg (by decide) ?_
      subst hR
      refine seq_abs fun R hR => ?_
      walk_at "rd"
      refine cif_neg (by decide) ?_
      subst hR
      refine seq_abs fun R hR => ?_
      walk_at "rd"
      refine cif_neg (by decide) ?_
      subst hR
      refine seq_abs fun R hR => ?_
      walk_at "rd"
      have da := hd
      simp only [dp] at da
      refine ⟨a, rfl, by omega, ok.1, fun ms1 o1 l1 => ⟨b, rfl, by omega, ok.2, fun ms2 o2 l2 => ?_⟩⟩
      have n1 := isop_len o1 ok.1
      have n2 := isop_len o2 ok.2
      try walk_at "rd"
      rw [List.length_map, List.length_map]
      refine ⟨small_size (by omega), ?_⟩
      rw [← List.map_append]
      subst hR
      walk_at "rd"
      refine ⟨⟨by decide, by decide⟩, fun acc hacc => ?_⟩
      rw [rng_ul]
      refine comp_pure (fun y => y) (onI fun u => decide (u ∈ ms1 ++ ms2)) (fun σ => ∃ z, σ = [z, some (.tup ((ms1 ++ ms2).map PV.int))]) (by rw [List.length_map, ul_len]; decide) (fun _ => trivial) ?_ ?_ ⟨_, rfl⟩
      · rintro y hy l σ R ⟨z, rfl⟩ hl kT kF
        obtain ⟨u, hu, rfl⟩ := List.mem_map.mp hy
        dsimp only [onI] at kT kF
        walk_at "rd"
        rw [any_int]
        refine ⟨flat_ints, cif_by (fun q => ?_) (fun q => ?_)⟩
        · exact ⟨hl, by rw [put_put]; exact kT q _ ⟨_, rfl⟩⟩
        · exact kF q _ ⟨_, rfl⟩
      rw [ints_filter]
      refine ⟨_, put_same, H, Sub.put (Sub.refl _) hacc, h _ ⟨(ul_up 6).filter _, fun x => ?_⟩ fun x hx => ?_⟩
      · rw [List.mem_filter, mem_ulN, decide_eq_true_eq, List.mem_append, o1.2, o2.2]
        exact ⟨fun q => q.2, fun q => ⟨op_lo (f := .times a b) ok q, q⟩⟩
      · have := mem_ulN.mp (List.mem_filter.mp hx).1
        omega
    | over a b =>
      unfold fV
      refine seq_abs fun R hR => ?_
      walk_at "rd"
      refine cif_neg (by decide) ?_
      subst hR
      refine seq_abs fun R hR => ?_
      walk_at "rd"
      refine cif_neg (by decide) ?_
      subst hR
      refine seq_abs fun R hR => ?_
      walk_at "rd"
      refine cif_neg (by decide) ?_
      subst hR
      refine seq_abs fun R hR => ?_
      walk_at "rd"
      have da := hd
      simp only [dp] at da
      refine ⟨a, rfl, by omega, ok.1, fun ms1 o1 l1 => ⟨b, rfl, by omega, ok.2, fun ms2 o2 l2 => ?_⟩⟩
      have n1 := isop_len o1 ok.1
      have n2 := isop_len o2 ok.2
      try walk_at "rd"
      rw [List.length_map, List.length_map]
      refine ⟨small_size (by omega), ?_⟩
      rw [← List.map_append]
      subst hR
      walk_at "rd"
      refine ⟨⟨by decide, by decide⟩, fun acc hacc => ?_⟩
      rw [rng_ul]
      refine comp_pure (fun y => y) (onI fun u => decide (u ∈ ms1 ++ ms2)) (fun σ => ∃ z, σ = [z, some (.tup ((ms1 ++ ms2).map PV.int))]) (by rw [List.length_map, ul_len]; decide) (fun _ => trivial) ?_ ?_ ⟨_, rfl⟩
      · rintro y hy l σ R ⟨z, rfl⟩ hl kT kF
        obtain ⟨u, hu, rfl⟩ := List.mem_map.mp hy
        dsimp only [onI] at kT kF
        walk_at "rd"
        rw [any_int]
        refine ⟨flat_ints, cif_by (fun q => ?_) (fun q => ?_)⟩
        · exact ⟨hl, by rw [put_put]; exact kT q _ ⟨_, rfl⟩⟩
        · exact kF q _ ⟨_, rfl⟩
      rw [ints_filter]
      refine ⟨_, put_same, H, Sub.put (Sub.refl _) hacc, h _ ⟨(ul_up 6).filter _, fun x => ?_⟩ fun x hx => ?_⟩
      · rw [List.mem_filter, mem_ulN, decide_eq_true_eq, List.mem_append, o1.2, o2.2]
        exact ⟨fun q => q.2, fun q => ⟨op_lo (f := .times a b) ok q, q⟩⟩
      · have := mem_ulN.mp (List.mem_filter.mp hx).1
        omega
  · exact h.elim
theorem G_law_open (T : Tx w K mg t) : ∀ n, FnOk' P w K mg base CX0 (n + 1) t.a_law_open t.d_law_open ["_law_formula"] (sp_open n)
  | 0 => G_law_open0 T
  | n + 1 => G_law_openS T (G_law_open T n)

theorem G_law_part (T : Tx w K mg t) : FnOk' P w K mg base CX0 1 t.a_law_part t.d_law_part ["_law_formula", "_law_spot"] sp_lpart := by
  refine okU (k := 0) T.F_law_part sc_law_part (fun vs H Q E h => by
    unfold sp_lpart at h
    split at h
    · rfl
    · exact h.elim) (fun cdv A outer s H E B hr => ⟨_, (qss_cons (qs_for PassesOwn.never rfl (qi_seq (qv 1)) (qg_name (i := 2) sc_law_part.nd rfl (by first | exact Or.inl rfl | exact Or.inr rfl))
    (qss_one (qs_if (qt_bool (qw_and (qt_cmp (op_eqU hr.units) vr_eq (qe_ix (qv 0) qe_int (fun _ _ => rfl)) qe_str (nomark _)) (qw_and1 (qt_cmp (op_eqU hr.units) vr_eq (qv 2) qe_int (nomark _)))))
      (qss_one (qs_set (i := 0) sc_law_part.nd rfl (by first | exact Or.inl rfl | exact Or.inr rfl) (qe_ix (qv 0) qe_int (fun _ _ => rfl))))
      (qss_one (qs_if (qt_bool (qw_and (qt_cmp (op_inU hr.units) vr_in (qe_ix (qv 0) qe_int (fun _ _ => rfl)) (qe_tup (qa_cons qe_str (qa_cons qe_str qa_nil))) (by with_unfolding_all rfl)) (qw_and1 (qt_bool (qw_or (qt_cmp (op_eqU hr.units) vr_eq (qv 2) qe_int (nomark _)) (qw_or1 (qt_cmp (op_eqU hr.units) vr_eq (qv 2) qe_int (nomark _))))))))
        (qss_one (qs_set (i := 0) sc_law_part.nd rfl (by first | exact Or.inl rfl | exact Or.inr rfl) (qe_ix (qv 0) (qe_add qe_int (qv 2)) (fun _ _ => rfl))))
        (qss_one (qs_ret qe_non)))))))
    (qss_one (qs_ret (qv 0)))), ?_⟩)
  intro vs H Q E h
  unfold sp_lpart at h
  split at h
  · rename_i v l
    obtain ⟨f, q, rfl, rfl, h⟩ := h
    refine seq_abs fun R hR => ?_
    walk_at "rd"
    refine for_at (fun i σ H2 => ∃ z k, σ = [some (fV k), some (.tup (q.map PV.int)), z] ∧ H2 = H ∧ at' f (q.take i) = some k) ?_ ?_ ⟨_, f, rfl, rfl, FM.at_nil⟩
    · rintro σ H2 ⟨z, k, rfl, rfl, e⟩
      refine ⟨trivial, ?_⟩
      rw [List.length_map, List.take_length] at e
      rw [e] at h
      subst hR
      walk_at "rd"
      exact ⟨H2, Sub.refl _, h⟩
    · rintro G i y σ H2 hy ⟨z, k, rfl, rfl, e⟩ kk
      refine ⟨trivial, ?_⟩
      rw [List.getElem?_map] at hy
      cases hj : q[i]? with
      | none => rw [hj] at hy; cases hy
      | some j =>
        rw [hj] at hy
        cases hy
        obtain ⟨e1, e2⟩ := at_split e hj
        try simp only [Option.map_some]
        cases k with
        | sum ns g =>
          simp only [fV]
          walk_at "rd"
          refine cif_pos rfl (cif_by (fun j0 => kk _ _ ⟨_, g, rfl, rfl, ?_⟩) fun j0 => ⟨small_size (by decide), cif_neg rfl ⟨H2, Sub.refl _, ?_⟩⟩)
          · have j0 : j = 0 := by simpa using j0
            subst j0
            rw [e2]; exact FM.at_nil
          · rw [e1] at h; simp only [at'] at h; rw [if_neg (by simpa using j0)] at h; exact h
        | times a b =>
          simp only [fV]
          walk_at "rd"
          refine cif_neg rfl ⟨small_size (by decide), cif_pos rfl (cif_by (fun j0 => ?_) fun j0 => cif_by (fun j1 => ?_) fun j1 => ⟨H2, Sub.refl _, ?_⟩)⟩
          · have j0 : j = 0 := by simpa using j0
            subst j0
            exact kk _ _ ⟨_, a, rfl, rfl, by rw [e2]; exact FM.at_nil⟩
          · have j1 : j = 1 := by simpa using j1
            subst j1
            exact kk _ _ ⟨_, b, rfl, rfl, by rw [e2]; exact FM.at_nil⟩
          · rw [e1] at h; simp only [at'] at h; rw [if_neg (by simpa using j0), if_neg (by simpa using j1)] at h; exact h
        | over a b =>
          simp only [fV]
          walk_at "rd"
          refine cif_neg rfl ⟨small_size (by decide), cif_pos rfl (cif_by (fun j0 => ?_) fun j0 => cif_by (fun j1 => ?_) fun j1 => ⟨H2, Sub.refl _, ?_⟩)⟩
          · have j0 : j = 0 := by simpa using j0
            subst j0
            exact kk _ _ ⟨_, a, rfl, rfl, by rw [e2]; exact FM.at_nil⟩
          · have j1 : j = 1 := by simpa using j1
            subst j1
            exact kk _ _ ⟨_, b, rfl, rfl, by rw [e2]; exact FM.at_nil⟩
          · rw [e1] at h; simp only [at'] at h; rw [if_neg (by simpa using j0), if_neg (by simpa using j1)] at h; exact h
        | one =>
          simp only [fV]
          walk_at "rd"
          rw [e1] at h
          exact cif_neg rfl ⟨small_size (by decide), cif_neg rfl ⟨H2, Sub.refl _, h⟩⟩
        | seen ns =>
          simp only [fV]
          walk_at "rd"
          rw [e1] at h
          exact cif_neg rfl ⟨small_size (by decide), cif_neg rfl ⟨H2, Sub.refl _, h⟩⟩
  · exact h.elim

theorem G_law_plain (T : Tx w K mg t) : FnOk' P w K mg base CX0 2 t.a_law_plain t.d_law_plain ["_law_formula", "_law_word"] sp_lplain := by
  refine okU (k := 1) T.F_law_plain sc_law_plain (fun vs H Q E h => by
    unfold sp_lplain at h
    split at h
    · rfl
    · exact h.elim) (fun cdv A outer s H E B hr => ⟨_, (qss_cons (qs_if (qt_bool (qw_and (qt_cmp (op_eqU hr.units) vr_eq (qv 1) qe_str (nomark _)) (qw_and (qt_cmp (op_eqU hr.units) vr_eq (qe_ix (qv 0) qe_int (fun _ _ => rfl)) qe_str (nomark _)) (qw_and1 (qt_cmp (op_eqU hr.units) vr_eq (qe_ix (qe_ix (qv 0) qe_int (fun _ _ => rfl)) qe_int (fun _ _ => rfl)) qe_str (nomark _))))))
    (qss_one (qs_if (qt_cmp (op_eqU hr.units) vr_eq (qe_call (G_law_less T) (hr.mono (by decide)) rfl T.g_law_less T.F_law_less.kp T.B_law_less (qa_cons (qe_ix (qv 0) qe_int (fun _ _ => rfl)) (qa_cons (qe_ix (qe_ix (qv 0) qe_int (fun _ _ => rfl)) qe_int (fun _ _ => rfl)) qa_nil))) (qe_tup qa_nil) (nomark _))
      (qss_one (qs_ret (qe_tup (qa_cons qe_str (qa_cons (qe_call (G_law_less T) (hr.mono (by decide)) rfl T.g_law_less T.F_law_less.kp T.B_law_less (qa_cons (qe_ix (qe_ix (qv 0) qe_int (fun _ _ => rfl)) qe_int (fun _ _ => rfl)) (qa_cons (qe_ix (qv 0) qe_int (fun _ _ => rfl)) qa_nil))) qa_nil)))))
      qss_nil))
    qss_nil)
    (qss_cons (qs_if (qt_bool (qw_and (qt_cmp (op_eqU hr.units) vr_eq (qv 1) qe_str (nomark _)) (qw_and (qt_cmp (op_eqU hr.units) vr_eq (qe_ix (qv 0) qe_int (fun _ _ => rfl)) qe_str (nomark _)) (qw_and1 (qt_cmp (op_eqU hr.units) vr_eq (qe_ix (qe_ix (qv 0) qe_int (fun _ _ => rfl)) qe_int (fun _ _ => rfl)) qe_str (nomark _))))))
    (qss_cons (qs_asg (qe_slice (qe_ix (qv 0) qe_int (fun _ _ => rfl)) (qo_some qe_int) qo_none) (qg_tup (n := 2) rfl (qgs_cons (qg_name (i := 2) sc_law_plain.nd rfl (by first | exact Or.inl rfl | exact Or.inr rfl)) (qgs_cons (qg_name (i := 3) sc_law_plain.nd rfl (by first | exact Or.inl rfl | exact Or.inr rfl)) qgs_nil))))
      (qss_one (qs_if (qt_bool (qw_and (qt_cmp (op_eqU hr.units) vr_eq (qe_ix (qv 2) qe_int (fun _ _ => rfl)) qe_str (nomark _)) (qw_and (qt_cmp (op_eqU hr.units) vr_eq (qe_ix (qv 3) qe_int (fun _ _ => rfl)) qe_str (nomark _)) (qw_and1 (qt_cmp (op_eqU hr.units) vr_eq (qe_call (G_law_less T) (hr.mono (by decide)) rfl T.g_law_less T.F_law_less.kp T.B_law_less (qa_cons (qe_ix (qv 0) qe_int (fun _ _ => rfl)) (qa_cons (qe_ix (qv 2) qe_int (fun _ _ => rfl)) qa_nil))) (qe_tup qa_nil) (nomark _))))))
      (qss_one (qs_ret (qe_ix (qe_lst (qa_cons qe_non (qa_cons (qe_tup (qa_cons qe_str qa_nil)) qa_nil))) (qe_callTy call_int1 vc_int rfl T.b_int boot_int (qa_cons (qe_cmp (op_eqU hr.units) vr_eq (qe_call (G_law_less T) (hr.mono (by decide)) rfl T.g_law_less T.F_law_less.kp T.B_law_less (qa_cons (qe_ix (qv 2) qe_int (fun _ _ => rfl)) (qa_cons (qe_ix (qv 0) qe_int (fun _ _ => rfl)) qa_nil))) (qe_ix (qv 3) qe_int (fun _ _ => rfl)) (nomark _)) qa_nil)) (fun _ _ => rfl))))
      qss_nil)))
    qss_nil)
    (qss_cons (qs_if (qt_bool (qw_and (qt_cmp (op_eqU hr.units) vr_eq (qv 1) qe_str (nomark _)) (qw_and1 (qt_cmp (op_eqU hr.units) vr_eq (qe_ix (qv 0) qe_int (fun _ _ => rfl)) qe_str (nomark _)))))
    (qss_one (qs_ret (qe_ix (qe_lst (qa_cons qe_non (qa_cons (qe_tup (qa_cons qe_str qa_nil)) qa_nil))) (qe_callTy call_int1 vc_int rfl T.b_int boot_int (qa_cons (qe_cmp (op_eqU hr.units) vr_eq (qe_ix (qv 0) qe_int (fun _ _ => rfl)) (qe_tup qa_nil) (nomark _)) qa_nil)) (fun _ _ => rfl))))
    qss_nil)
    (qss_cons (qs_if (qt_bool (qw_and (qt_cmp (op_eqU hr.units) vr_eq (qv 1) qe_str (nomark _)) (qw_and1 (qt_cmp (op_inU hr.units) vr_in (qe_ix (qv 0) qe_int (fun _ _ => rfl)) (qe_tup (qa_cons qe_str (qa_cons qe_str qa_nil))) (by with_unfolding_all rfl)))))
    (qss_cons (qs_if (qt_cmp (op_eqW hr.units) vr_eqW (qe_ix (qv 0) qe_int (fun _ _ => rfl)) (qe_tup (qa_cons qe_str qa_nil)) (nomark _))
      (qss_one (qs_ret (qe_ix (qv 0) qe_int (fun _ _ => rfl))))
      qss_nil)
      (qss_one (qs_ret (qe_ix (qe_lst (qa_cons qe_non (qa_cons (qe_ix (qv 0) qe_int (fun _ _ => rfl)) qa_nil))) (qe_callTy call_int1 vc_int rfl T.b_int boot_int (qa_cons (qe_and (qe_cmp (op_eqU hr.units) vr_eq (qe_ix (qv 0) qe_int (fun _ _ => rfl)) qe_str (nomark _)) (qe_one (qe_cmp (op_eqW hr.units) vr_eqW (qe_ix (qv 0) qe_int (fun _ _ => rfl)) (qe_tup (qa_cons qe_str qa_nil)) (nomark _)))) qa_nil)) (fun _ _ => rfl)))))
    qss_nil)
    (qss_cons (qs_if (qt_bool (qw_and (qt_cmp (op_eqU hr.units) vr_eq (qv 1) qe_str (nomark _)) (qw_and1 (qt_cmp (op_eqU hr.units) vr_eq (qe_ix (qv 0) qe_int (fun _ _ => rfl)) qe_str (nomark _)))))
    (qss_one (qs_ret (qe_ix (qe_lst (qa_cons qe_non (qa_cons (qe_tup (qa_cons qe_str qa_nil)) qa_nil))) (qe_callTy call_int1 vc_int rfl T.b_int boot_int (qa_cons (qe_cmp (op_eqW hr.units) vr_eqW (qe_ix (qv 0) qe_int (fun _ _ => rfl)) (qe_ix (qv 0) qe_int (fun _ _ => rfl)) (nomark _)) qa_nil)) (fun _ _ => rfl))))
    qss_nil)
    (qss_cons (qs_if (qt_bool (qw_and (qt_cmp (op_eqU hr.units) vr_eq (qv 1) qe_str (nomark _)) (qw_and1 (qt_cmp (op_eqU hr.units) vr_eq (qe_ix (qv 0) qe_int (fun _ _ => rfl)) qe_str (nomark _)))))
    (qss_cons (qs_if (qt_bool (qw_and (qt_cmp (op_eqU hr.units) vr_eq (qe_ix (qe_ix (qv 0) qe_int (fun _ _ => rfl)) qe_int (fun _ _ => rfl)) qe_str (nomark _)) (qw_and1 (qt_cmp (op_eqW hr.units) vr_eqW (qe_ix (qe_ix (qv 0) qe_int (fun _ _ => rfl)) qe_int (fun _ _ => rfl)) (qe_ix (qv 0) qe_int (fun _ _ => rfl)) (nomark _)))))
      (qss_one (qs_ret (qe_ix (qe_ix (qv 0) qe_int (fun _ _ => rfl)) qe_int (fun _ _ => rfl))))
      qss_nil)
      (qss_one (qs_if (qt_bool (qw_and (qt_cmp (op_eqU hr.units) vr_eq (qe_ix (qe_ix (qv 0) qe_int (fun _ _ => rfl)) qe_int (fun _ _ => rfl)) qe_str (nomark _)) (qw_and1 (qt_cmp (op_eqW hr.units) vr_eqW (qe_ix (qe_ix (qv 0) qe_int (fun _ _ => rfl)) qe_int (fun _ _ => rfl)) (qe_ix (qv 0) qe_int (fun _ _ => rfl)) (nomark _)))))
      (qss_one (qs_ret (qe_ix (qe_ix (qv 0) qe_int (fun _ _ => rfl)) qe_int (fun _ _ => rfl))))
      qss_nil)))
    qss_nil)
    (qss_cons (qs_if (qt_bool (qw_and (qt_cmp (op_eqU hr.units) vr_eq (qv 1) qe_str (nomark _)) (qw_and (qt_cmp (op_eqU hr.units) vr_eq (qe_ix (qv 0) qe_int (fun _ _ => rfl)) qe_str (nomark _)) (qw_and1 (qt_cmp (op_eqU hr.units) vr_eq (qe_ix (qe_ix (qv 0) qe_int (fun _ _ => rfl)) qe_int (fun _ _ => rfl)) qe_str (nomark _))))))
    qss_never
    qss_nil)
    (qss_one (qs_ret qe_non))))))))), ?_⟩)
  intro vs H Q E h
  unfold sp_lplain at h
  split at h
  · rename_i v k
    obtain ⟨f, rfl, gd, hk, h⟩ := h
    simp only [wds, List.mem_cons, List.not_mem_nil, or_false] at hk
    rcases hk with rfl | rfl | rfl | rfl | rfl
    · rw [pl_g] at h
      refine seq_abs fun R hR => ?_
      have fall : ∀ z2 z3, Q .non H → R { nx := fun x H => ∃ H3, U.Sub H3 H ∧ Q PV.non H3, rt := fun v H => ∃ H3, U.Sub H3 H ∧ Q v H3 } [some (fV f), some (.str "gather"), z2, z3] H := fun z2 z3 hq => by
        subst hR
        refine seq_abs fun R hR => ?_
        walk_at "rd"
        refine cif_neg rfl ?_
        subst hR
        refine seq_abs fun R hR => ?_
        walk_at "rd"
        refine cif_neg rfl ?_
        subst hR
        refine seq_abs fun R hR => ?_
        walk_at "rd"
        refine cif_neg rfl ?_
        subst hR
        refine seq_abs fun R hR => ?_
        walk_at "rd"
        refine cif_neg rfl ?_
        subst hR
        refine seq_abs fun R hR => ?_
        walk_at "rd"
        refine cif_neg rfl ?_
        subst hR
        refine seq_abs fun R hR => ?_
        walk_at "rd"
        refine cif_neg rfl ?_
        subst hR
        walk_at "rd"
        exact ⟨H, Sub.refl _, hq⟩
      clear hR
      cases f with
      | sum ns g =>
        cases g with
        | seen ms =>
          obtain ⟨nm, gg⟩ := gd.sum
          have l1 := nm_len nm
          have l2 := nm_len (show Nm ms from gg.1)
          simp only [fV] at fall ⊢
          walk_at "rd"
          walk_at "st"
          rw [plG_s] at h
          refine ⟨ns, ms, rfl, rfl, by omega, small_size (by decide), flatI, ?_⟩
          rw [deqs_nil]
          refine cif_bl (fun q => ?_) fun q => ?_
          · rw [q] at h
            exact ⟨ms, ns, rfl, rfl, by omega, small_size (by decide), H, Sub.refl _, h⟩
          · rw [q] at h
            exact fall _ _ h
        | _ => simp only [fV] at fall ⊢; walk_at "rd"; walk_at "st"; exact fall _ _ h
      | _ => simp only [fV] at fall ⊢; walk_at "rd"; walk_at "st"; exact fall _ _ h
    · rw [pl_a] at h
      refine seq_abs fun R hR => ?_
      walk_at "rd"
      refine cif_neg rfl ?_
      subst hR
      refine seq_abs fun R hR => ?_
      have fall : ∀ z2 z3, Q .non H → R { nx := fun x H => ∃ H3, U.Sub H3 H ∧ Q PV.non H3, rt := fun v H => ∃ H3, U.Sub H3 H ∧ Q v H3 } [some (fV f), some (.str "all"), z2, z3] H := fun z2 z3 hq => by
        subst hR
        refine seq_abs fun R hR => ?_
        walk_at "rd"
        refine cif_neg rfl ?_
        subst hR
        refine seq_abs fun R hR => ?_
        walk_at "rd"
        refine cif_neg rfl ?_
        subst hR
        refine seq_abs fun R hR => ?_
        walk_at "rd"
        refine cif_neg rfl ?_
        subst hR
        refine seq_abs fun R hR => ?_
        walk_at "rd"
        refine cif_neg rfl ?_
        subst hR
        refine seq_abs fun R hR => ?_
        walk_at "rd"
        refine cif_neg rfl ?_
        subst hR
        walk_at "rd"
        exact ⟨H, Sub.refl _, hq⟩
      clear hR
      cases f with
      | sum ns g =>
        cases g with
        | over a b =>
          obtain ⟨nm, gg⟩ := gd.sum
          have l1 := nm_len nm
          simp only [fV] at fall ⊢
          walk_at "rd"
          walk_at "st"
          rw [cut1]
          refine ⟨by decide, rfl, ?_⟩
          try walk_at "rd"
          refine cif_bl (fun qa => ?_) fun qa => fall _ _ (by rw [plA_n (by rw [shG_o, qa]; rfl)] at h; exact h)
          obtain ⟨ms, rfl⟩ := isS_of qa
          refine cif_bl (fun qb => ?_) fun qb => fall _ _ (by rw [plA_n (by rw [shG_o, qb, Bool.and_false])] at h; exact h)
          obtain ⟨ks, rfl⟩ := isS_of qb
          have l2 := nm_len (show Nm ms from gg.1.1)
          rw [plA_s] at h
          simp only [fL]
          walk_at "rd"
          refine ⟨ns, ms, rfl, rfl, by omega, small_size (by decide), flatI, ?_⟩
          rw [deqs_nil]
          refine cif_bl (fun q => ⟨small_size (by decide), small_size (by decide), fun p hp => ⟨ms, ns, rfl, rfl, by omega, flatI, flatI, ?_⟩⟩) fun q => ?_
          · rw [q, deqs_dec] at h
            rw [atB, deqs_dec]
            by_cases e : les ms ns = ks
            · rw [decide_eq_true e.symm] at h
              rw [decide_eq_true e]
              exact ⟨H, (Sub.refl H).put hp, h⟩
            · rw [decide_eq_false fun z => e z.symm] at h
              rw [decide_eq_false e]
              exact ⟨H, (Sub.refl H).put hp, h⟩
          · rw [q] at h
            exact fall _ _ h
        | _ => simp only [fV] at fall ⊢; walk_at "rd"; walk_at "st"; exact fall _ _ h
      | _ => simp only [fV] at fall ⊢; walk_at "rd"; walk_at "st"; exact fall _ _ h
    · rw [pl_o] at h
      refine seq_abs fun R hR => ?_
      walk_at "rd"
      refine cif_neg rfl ?_
      subst hR
      refine seq_abs fun R hR => ?_
      walk_at "rd"
      refine cif_neg rfl ?_
      subst hR
      refine seq_abs fun R hR => ?_
      cases f with
      | seen ns =>
        rw [plO_s] at h
        simp only [fV]
        walk_at "rd"
        walk_at "st"
        refine ⟨small_size (by decide), small_size (by decide), fun p hp => ⟨small_size (by decide), flatI, ?_⟩⟩
        rw [atB, deqs_nil]
        cases q : ns.isEmpty
        · rw [q] at h; exact ⟨H, (Sub.refl H).put hp, h⟩
        · rw [q] at h; exact ⟨H, (Sub.refl H).put hp, h⟩
      | times a b =>
        obtain ⟨ga, gb⟩ := gd.tm
        rw [plO_t] at h
        simp only [fV]
        walk_at "rd"
        walk_at "st"
        subst hR
        refine seq_abs fun R hR => ?_
        walk_at "rd"
        refine cif_pos rfl ⟨small_size (by decide), cif_pos rfl ⟨small_size (by decide), gb.fl, ?_⟩⟩
        rw [eqF_1]
        refine cif_bl (fun q => ⟨H, Sub.refl _, ?_⟩) fun q => ⟨small_size (by decide), fun p hp => cif_pos rfl ⟨small_size (by decide), ga.fl, ?_⟩⟩
        · have eb := eqF_one q
          cases qa : eqF a .one
          · rw [qa, q] at h; exact h
          · rw [qa] at h
            have ea := eqF_one qa
            rw [ea]; rw [eb] at h; exact h
        · rw [atB, eqF_1]
          cases qa : eqF a .one
          · rw [qa, q] at h; exact ⟨H, (Sub.refl H).put hp, h⟩
          · rw [qa] at h; exact ⟨H, (Sub.refl H).put hp, h⟩
      | over a b =>
        obtain ⟨ga, gb⟩ := gd.ov
        rw [plO_v] at h
        simp only [fV]
        walk_at "rd"
        walk_at "st"
        subst hR
        refine seq_abs fun R hR => ?_
        walk_at "rd"
        refine cif_pos rfl ⟨small_size (by decide), cif_pos rfl ⟨small_size (by decide), gb.fl, ?_⟩⟩
        rw [eqF_1]
        refine cif_bl (fun q => ⟨H, Sub.refl _, ?_⟩) fun q => ⟨small_size (by decide), fun p hp => cif_neg rfl ?_⟩
        · rw [q] at h; exact h
        · rw [q] at h; exact ⟨H, (Sub.refl H).put hp, h⟩
      | one =>
        walk_at "rd"
        walk_at "st"
        subst hR
        refine seq_abs fun R hR => ?_
        walk_at "rd"
        refine cif_pos rfl ⟨small_size (by decide), cif_neg rfl ?_⟩
        subst hR
        refine seq_abs fun R hR => ?_
        walk_at "rd"
        refine cif_neg rfl ?_
        subst hR
        refine seq_abs fun R hR => ?_
        walk_at "rd"
        refine cif_neg rfl ?_
        subst hR
        refine seq_abs fun R hR => ?_
        walk_at "rd"
        refine cif_neg rfl ?_
        subst hR
        walk_at "rd"
        exact ⟨H, Sub.refl _, h⟩
      | sum ns f =>
        walk_at "rd"
        walk_at "st"
        subst hR
        refine seq_abs fun R hR => ?_
        walk_at "rd"
        refine cif_pos rfl ⟨small_size (by decide), cif_neg rfl ?_⟩
        subst hR
        refine seq_abs fun R hR => ?_
        walk_at "rd"
        refine cif_neg rfl ?_
        subst hR
        refine seq_abs fun R hR => ?_
        walk_at "rd"
        refine cif_neg rfl ?_
        subst hR
        refine seq_abs fun R hR => ?_
        walk_at "rd"
        refine cif_neg rfl ?_
        subst hR
        walk_at "rd"
        exact ⟨H, Sub.refl _, h⟩
    · rw [pl_s] at h
      refine seq_abs fun R hR => ?_
      walk_at "rd"
      refine cif_neg rfl ?_
      subst hR
      refine seq_abs fun R hR => ?_
      walk_at "rd"
      refine cif_neg rfl ?_
      subst hR
      refine seq_abs fun R hR => ?_
      walk_at "rd"
      refine cif_neg rfl ?_
      subst hR
      refine seq_abs fun R hR => ?_
      walk_at "rd"
      refine cif_neg rfl ?_
      subst hR
      refine seq_abs fun R hR => ?_
      have fall : ∀ z2 z3, Q .non H → R { nx := fun x H => ∃ H3, U.Sub H3 H ∧ Q PV.non H3, rt := fun v H => ∃ H3, U.Sub H3 H ∧ Q v H3 } [some (fV f), some (.str "same"), z2, z3] H := fun z2 z3 hq => by
        subst hR
        refine seq_abs fun R hR => ?_
        walk_at "rd"
        refine cif_neg rfl ?_
        subst hR
        refine seq_abs fun R hR => ?_
        walk_at "rd"
        refine cif_neg rfl ?_
        subst hR
        walk_at "rd"
        exact ⟨H, Sub.refl _, hq⟩
      clear hR
      walk_at "rd"
      refine cif_pos rfl (cif_bl (fun qf => ?_) fun qf => fall _ _ (by rw [plS_n qf] at h; exact h))
      obtain ⟨a, b, rfl⟩ := wd_ov qf
      obtain ⟨ga, gb⟩ := gd.ov
      rw [plS_v] at h
      simp only [fL]
      walk_at "rd"
      refine ⟨small_size (by decide), small_size (by decide), fun p hp => ⟨ga.fl, gb.fl, ?_⟩⟩
      rw [atB, eqF_at]
      cases q : eqF a b
      · rw [q] at h; exact ⟨H, (Sub.refl H).put hp, h⟩
      · rw [q] at h; exact ⟨H, (Sub.refl H).put hp, h⟩
    · rw [pl_b] at h
      refine seq_abs fun R hR => ?_
      walk_at "rd"
      refine cif_neg rfl ?_
      subst hR
      refine seq_abs fun R hR => ?_
      walk_at "rd"
      refine cif_neg rfl ?_
      subst hR
      refine seq_abs fun R hR => ?_
      walk_at "rd"
      refine cif_neg rfl ?_
      subst hR
      refine seq_abs fun R hR => ?_
      walk_at "rd"
      refine cif_neg rfl ?_
      subst hR
      refine seq_abs fun R hR => ?_
      walk_at "rd"
      refine cif_neg rfl ?_
      subst hR
      refine seq_abs fun R hR => ?_
      have fall : ∀ z2 z3, Q .non H → R { nx := fun x H => ∃ H3, U.Sub H3 H ∧ Q PV.non H3, rt := fun v H => ∃ H3, U.Sub H3 H ∧ Q v H3 } [some (fV f), some (.str "back"), z2, z3] H := fun z2 z3 hq => by
        subst hR
        refine seq_abs fun R hR => ?_
        walk_at "rd"
        refine cif_neg rfl ?_
        subst hR
        walk_at "rd"
        exact ⟨H, Sub.refl _, hq⟩
      clear hR
      cases f with
      | times a b =>
        obtain ⟨ga, gb⟩ := gd.tm
        rw [plB_t] at h
        simp only [fV] at fall ⊢
        walk_at "rd"
        refine cif_pos rfl (cif_pos rfl (cif_bl (fun qa => ?_) fun qa => ?_))
        · obtain ⟨x, y, rfl⟩ := wd_ov qa
          obtain ⟨gx, gy⟩ := ga.ov
          rw [ovB_v] at h
          simp only [fL]
          walk_at "rd"
          rw [eqF_at]
          refine ⟨gy.fl, gb.fl, cif_bl (fun q => ?_) fun q => ?_⟩
          · rw [q] at h; exact ⟨H, Sub.refl _, h⟩
          rw [q] at h
          have h : Q (oV (ovB b (.over x y))) H := h
          refine cif_bl (fun qb => ?_) fun qb => fall _ _ (by rw [ovB_n qb] at h; exact h)
          obtain ⟨u, v, rfl⟩ := wd_ov qb
          obtain ⟨gu, gv⟩ := gb.ov
          rw [ovB_v] at h
          simp only [fL]
          walk_at "rd"
          rw [eqF_at]
          refine ⟨gv.fl, ga.fl, cif_bl (fun q => ?_) fun q => ?_⟩
          · rw [q] at h; exact ⟨H, Sub.refl _, h⟩
          · rw [q] at h; exact fall _ _ h
        · rw [ovB_n qa] at h
          have h : Q (oV (ovB b a)) H := h
          refine cif_bl (fun qb => ?_) fun qb => fall _ _ (by rw [ovB_n qb] at h; exact h)
          obtain ⟨u, v, rfl⟩ := wd_ov qb
          obtain ⟨gu, gv⟩ := gb.ov
          rw [ovB_v] at h
          simp only [fL]
          walk_at "rd"
          rw [eqF_at]
          refine ⟨gv.fl, ga.fl, cif_bl (fun q => ?_) fun q => ?_⟩
          · rw [q] at h; exact ⟨H, Sub.refl _, h⟩
          · rw [q] at h; exact fall _ _ h
      | _ => simp only [fV] at fall ⊢; walk_at "rd"; walk_at "st"; exact fall _ _ h
  · exact h.elim

theorem G_lput0 (T : Tx w K mg t) : FnOk' P w K mg base CX0 (1) t.a_law_put t.d_law_put ["_law_formula", "_law_spot", "_law_other"] (sp_lput 0) := by
  refine okU (k := 0) T.F_law_put sc_law_put (fun vs H Q E h => by
    unfold sp_lput at h
    split at h
    · rfl
    · exact h.elim) (fun cdv A outer s H E B hr => ⟨_, qss_never, ?_⟩)
  intro vs H Q E h
  unfold sp_lput at h
  split at h
  · obtain ⟨f, g, a, q, _, _, _, _, z, _⟩ := h
    exact absurd z (Nat.not_lt_zero _)
  · exact h.elim
theorem G_lputS (T : Tx w K mg t) {n : Nat} (ih : FnOk' P w K mg base CX0 (n + 1) t.a_law_put t.d_law_put ["_law_formula", "_law_spot", "_law_other"] (sp_lput n)) : FnOk' P w K mg base CX0 (n + 2) t.a_law_put t.d_law_put ["_law_formula", "_law_spot", "_law_other"] (sp_lput (n + 1)) := by
  refine okU (k := n + 1) T.F_law_put sc_law_put (fun vs H Q E h => by
    unfold sp_lput at h
    split at h
    · rfl
    · exact h.elim) (fun cdv A outer s H E B hr => ⟨_, (qss_cons (qs_if (qt_cmp (op_eqU hr.units) vr_eq (qv 1) (qe_tup qa_nil) (nomark _))
    (qss_one (qs_ret (qv 2)))
    qss_nil)
    (qss_cons (qs_if (qt_cmp (op_eqU hr.units) vr_eq (qe_ix (qv 0) qe_int (fun _ _ => rfl)) qe_str (nomark _))
    (qss_one (qs_ret (qe_tup (qa_cons qe_str (qa_cons (qe_ix (qv 0) qe_int (fun _ _ => rfl)) (qa_cons (qe_call ih (hr.mono (by omega)) rfl T.g_law_put T.F_law_put.kp T.B_law_put (qa_cons (qe_ix (qv 0) qe_int (fun _ _ => rfl)) (qa_cons (qe_slice (qv 1) (qo_some qe_int) qo_none) (qa_cons (qv 2) qa_nil)))) qa_nil))))))
    qss_nil)
    (qss_cons (qs_if (qt_cmp (op_eqU hr.units) vr_eq (qe_ix (qv 1) qe_int (fun _ _ => rfl)) qe_int (nomark _))
    (qss_one (qs_ret (qe_tup (qa_cons (qe_ix (qv 0) qe_int (fun _ _ => rfl)) (qa_cons (qe_call ih (hr.mono (by omega)) rfl T.g_law_put T.F_law_put.kp T.B_law_put (qa_cons (qe_ix (qv 0) qe_int (fun _ _ => rfl)) (qa_cons (qe_slice (qv 1) (qo_some qe_int) qo_none) (qa_cons (qv 2) qa_nil)))) (qa_cons (qe_ix (qv 0) qe_int (fun _ _ => rfl)) qa_nil))))))
    qss_nil)
    (qss_one (qs_ret (qe_tup (qa_cons (qe_ix (qv 0) qe_int (fun _ _ => rfl)) (qa_cons (qe_ix (qv 0) qe_int (fun _ _ => rfl)) (qa_cons (qe_call ih (hr.mono (by omega)) rfl T.g_law_put T.F_law_put.kp T.B_law_put (qa_cons (qe_ix (qv 0) qe_int (fun _ _ => rfl)) (qa_cons (qe_slice (qv 1) (qo_some qe_int) qo_none) (qa_cons (qv 2) qa_nil)))) qa_nil))))))))), ?_⟩)
  intro vs H Q E h
  unfold sp_lput at h
  split at h
  · rename_i v l u
    obtain ⟨f, g, a, q, rfl, rfl, rfl, e, qn, q1, h⟩ := h
    cases q with
    | nil =>
      rw [FM.pt_nil] at h
      refine seq_abs fun R hR => ?_
      walk_at "rd"
      exact ⟨small_size (by decide), H, Sub.refl _, h⟩
    | cons i q =>
      rw [List.length_cons] at qn q1
      refine seq_abs fun R hR => ?_
      walk_at "rd"
      refine ⟨small_size (by decide), flatI, ?_⟩
      subst hR
      cases f with
      | one => cases e
      | seen ns => cases e
      | sum ns f =>
        simp only [at'] at e
        split at e
        · simp only [fV]
          walk_at "rd"
          rw [cut1]
          exact cif_pos rfl ⟨(by intro z; cases z.1), f, g, a, q, rfl, rfl, rfl, e, by omega, by omega, small_size (by decide), H, Sub.refl _, h⟩
        · cases e
      | times x y =>
        simp only [fV]
        refine seq_abs fun R hR => ?_
        walk_at "rd"
        refine cif_neg rfl ?_
        subst hR
        walk_at "rd"
        rw [cut1]
        simp only [at', pt] at e h
        split at e
        · rename_i i0
          rw [if_pos i0] at h
          refine cif_pos (by simpa using i0) ⟨(by intro z; cases z.1), x, g, a, q, rfl, rfl, rfl, e, by omega, by omega, small_size (by decide), H, Sub.refl _, h⟩
        · rename_i i0
          rw [if_neg i0] at h
          split at e
          · refine cif_neg (by simpa using i0) ⟨(by intro z; cases z.1), y, g, a, q, rfl, rfl, rfl, e, by omega, by omega, small_size (by decide), H, Sub.refl _, h⟩
          · cases e
      | over x y =>
        simp only [fV]
        refine seq_abs fun R hR => ?_
        walk_at "rd"
        refine cif_neg rfl ?_
        subst hR
        walk_at "rd"
        rw [cut1]
        simp only [at', pt] at e h
        split at e
        · rename_i i0
          rw [if_pos i0] at h
          refine cif_pos (by simpa using i0) ⟨(by intro z; cases z.1), x, g, a, q, rfl, rfl, rfl, e, by omega, by omega, small_size (by decide), H, Sub.refl _, h⟩
        · rename_i i0
          rw [if_neg i0] at h
          split at e
          · refine cif_neg (by simpa using i0) ⟨(by intro z; cases z.1), y, g, a, q, rfl, rfl, rfl, e, by omega, by omega, small_size (by decide), H, Sub.refl _, h⟩
          · cases e
  · exact h.elim
theorem G_lput (T : Tx w K mg t) : ∀ n, FnOk' P w K mg base CX0 (n + 1) t.a_law_put t.d_law_put ["_law_formula", "_law_spot", "_law_other"] (sp_lput n)
  | 0 => G_lput0 T
  | n + 1 => G_lputS T (G_lput T n)

theorem G_law_thin (T : Tx w K mg t) : FnOk' P w K mg base CX0 62 t.a_law_thin t.d_law_thin ["_law_shape", "_law_formula", "_law_thinning"] sp_lthin := by
  refine okU (k := 61) T.F_law_thin sc_law_thin (fun vs H Q E h => by
    unfold sp_lthin at h
    split at h
    · rfl
    · exact h.elim) (fun cdv A outer s H E B hr => ⟨_, (qss_cons (qs_asg (qv 2) (qg_tup (n := 3) rfl (qgs_cons (qg_name (i := 3) sc_law_thin.nd rfl (by first | exact Or.inl rfl | exact Or.inr rfl)) (qgs_cons (qg_name (i := 4) sc_law_thin.nd rfl (by first | exact Or.inl rfl | exact Or.inr rfl)) (qgs_cons (qg_name (i := 5) sc_law_thin.nd rfl (by first | exact Or.inl rfl | exact Or.inr rfl)) qgs_nil)))))
    (qss_cons (qs_set (i := 6) sc_law_thin.nd rfl (by first | exact Or.inl rfl | exact Or.inr rfl) (qe_call (G_law_part T) (hr.mono (by decide)) rfl T.g_law_part T.F_law_part.kp T.B_law_part (qa_cons (qv 1) (qa_cons (qv 3) qa_nil))))
    (qss_cons (qs_set (i := 7) sc_law_thin.nd rfl (by first | exact Or.inl rfl | exact Or.inr rfl) qe_non)
    (qss_cons (qs_if (qt_bool (qw_and (qt_cmp op_notN vr_notN (qv 6) qe_non (nomark _)) (qw_and1 (qt_cmp (op_eqU hr.units) vr_eq (qv 4) qe_str (nomark _)))))
    qss_never
    (qss_one (qs_if (qt_bool (qw_and (qt_cmp op_notN vr_notN (qv 6) qe_non (nomark _)) (qw_and1 (qt_cmp (op_eqU hr.units) vr_eq (qv 5) (qe_tup qa_nil) (nomark _)))))
      (qss_one (qs_set (i := 7) sc_law_thin.nd rfl (by first | exact Or.inl rfl | exact Or.inr rfl) (qe_call (G_law_plain T) (hr.mono (by decide)) rfl T.g_law_plain T.F_law_plain.kp T.B_law_plain (qa_cons (qv 6) (qa_cons (qv 4) qa_nil)))))
      qss_nil)))
    (qss_cons (qs_if (qt_cmp op_isN vr_isN (qv 7) qe_non (nomark _))
    (qss_one (qs_ret qe_non))
    qss_nil)
    (qss_one (qs_ret (qe_call (G_lput T 60) (hr.mono (by decide)) rfl T.g_law_put T.F_law_put.kp T.B_law_put (qa_cons (qv 1) (qa_cons (qv 3) (qa_cons (qv 7) qa_nil))))))))))), ?_⟩)
  intro vs H Q E h
  unfold sp_lthin at h
  split at h
  · rename_i s0 v u
    obtain ⟨f, p, g, rfl, rfl, gd, pw, st, pl1, h⟩ := h
    obtain ⟨a, b, e1, e2, rfl⟩ := stp_of st
    have ga : Gd a := by
      obtain ⟨o1, o2, o3, o4, o5, _⟩ := FM.pt_ok (g := b) e1
      exact ⟨(o1 gd.1).1, Nat.le_trans o4 gd.2.1, Nat.le_trans o5 gd.2.2⟩
    obtain ⟨q, k⟩ := p
    simp only at e1 e2 pw pl1 h
    unfold thV tI
    refine seq_abs fun R hR => ?_
    walk_at "rd"
    subst hR
    refine seq_abs fun R hR => ?_
    walk_at "rd"
    refine ⟨f, q, rfl, rfl, ?_⟩
    rw [e1]
    show R _ [_, _, _, _, _, _, some (fV a), _] H
    subst hR
    refine seq_abs fun R hR => ?_
    walk_at "rd"
    subst hR
    refine seq_abs fun R hR => ?_
    walk_at "rd"
    rw [wds_b pw]
    refine cif_neg rfl ⟨small_size (by decide), a, rfl, ga, pw, ?_⟩
    rw [e2]
    show R _ [_, _, _, _, _, _, _, some (fV b)] H
    subst hR
    refine seq_abs fun R hR => ?_
    walk_at "rd"
    subst hR
    walk_at "rd"
    have lq := at_len e1
    have d50 := gd.2.1
    exact ⟨f, b, a, q, rfl, rfl, rfl, e1, by omega, by omega, H, Sub.refl _, h⟩
  · exact h.elim

theorem G_spots0 (T : Tx w K mg t) : FnOk' P w K mg base CX0 (1) t.a_law_spots t.d_law_spots ["_law_formula"] (sp_spots 0) := by
  refine okU (k := 0) T.F_law_spots sc_law_spots (fun vs H Q E h => by
    unfold sp_spots at h
    split at h
    · rfl
    · exact h.elim) (fun cdv A outer s H E B hr => ⟨_, qss_never, ?_⟩)
  intro vs H Q E h
  unfold sp_spots at h
  split at h
  · obtain ⟨f, _, z, _⟩ := h
    exact absurd z (Nat.not_lt_zero _)
  · exact h.elim
theorem G_spotsS (T : Tx w K mg t) {n : Nat} (ih : FnOk' P w K mg base CX0 (n + 1) t.a_law_spots t.d_law_spots ["_law_formula"] (sp_spots n)) : FnOk' P w K mg base CX0 (n + 2) t.a_law_spots t.d_law_spots ["_law_formula"] (sp_spots (n + 1)) := by
  refine okU (k := n + 1) T.F_law_spots sc_law_spots (fun vs H Q E h => by
    unfold sp_spots at h
    split at h
    · rfl
    · exact h.elim) (fun cdv A outer s H E B hr => ⟨_, (qss_cons (qs_set (i := 1) sc_law_spots.nd rfl (by first | exact Or.inl rfl | exact Or.inr rfl) (qe_lst (qa_cons (qe_tup qa_nil) qa_nil)))
    (qss_cons (qs_if (qt_cmp (op_eqU hr.units) vr_eq (qe_ix (qv 0) qe_int (fun _ _ => rfl)) qe_str (nomark _))
    (qss_one (qs_set (i := 1) sc_law_spots.nd rfl (by first | exact Or.inl rfl | exact Or.inr rfl) (qe_cat (qv 1) (qe_comp (N2 := ["_law_spot"]) (nt := 1) (js := []) (cok (sc := defScope s_law_spots) (by exact rfl) (by repeat (first | exact trivial | refine ⟨rfl, ?_⟩)) rfl (by rfl) (by decide +kernel) (by decide +kernel) (by rfl) (by decide +kernel) (by rfl) (by rfl)) rfl (qi_seq (qe_call ih (hr.mono (by omega)) rfl T.g_law_spots T.F_law_spots.kp T.B_law_spots (qa_cons (qe_ix (qv 0) qe_int (fun _ _ => rfl)) qa_nil))) (fun s0 H0 fp ps => ⟨(qg_name (i := 0) (show List.Nodup (["_law_spot"] : List Str) by decide +kernel) rfl (by first | exact Or.inl rfl | exact Or.inr rfl)), qif_nil, (qe_catT (qe_tup (qa_cons qe_int qa_nil)) (qv 0))⟩)))))
    qss_nil)
    (qss_cons (qs_if (qt_cmp (op_inU hr.units) vr_in (qe_ix (qv 0) qe_int (fun _ _ => rfl)) (qe_tup (qa_cons qe_str (qa_cons qe_str qa_nil))) (by with_unfolding_all rfl))
    (qss_cons (qs_set (i := 1) sc_law_spots.nd rfl (by first | exact Or.inl rfl | exact Or.inr rfl) (qe_cat (qv 1) (qe_comp (N2 := ["_law_spot"]) (nt := 1) (js := []) (cok (sc := defScope s_law_spots) (by exact rfl) (by repeat (first | exact trivial | refine ⟨rfl, ?_⟩)) rfl (by rfl) (by decide +kernel) (by decide +kernel) (by rfl) (by decide +kernel) (by rfl) (by rfl)) rfl (qi_seq (qe_call ih (hr.mono (by omega)) rfl T.g_law_spots T.F_law_spots.kp T.B_law_spots (qa_cons (qe_ix (qv 0) qe_int (fun _ _ => rfl)) qa_nil))) (fun s0 H0 fp ps => ⟨(qg_name (i := 0) (show List.Nodup (["_law_spot"] : List Str) by decide +kernel) rfl (by first | exact Or.inl rfl | exact Or.inr rfl)), qif_nil, (qe_catT (qe_tup (qa_cons qe_int qa_nil)) (qv 0))⟩))))
      (qss_one (qs_set (i := 1) sc_law_spots.nd rfl (by first | exact Or.inl rfl | exact Or.inr rfl) (qe_cat (qv 1) (qe_comp (N2 := ["_law_spot"]) (nt := 1) (js := []) (cok (sc := defScope s_law_spots) (by exact rfl) (by repeat (first | exact trivial | refine ⟨rfl, ?_⟩)) rfl (by rfl) (by decide +kernel) (by decide +kernel) (by rfl) (by decide +kernel) (by rfl) (by rfl)) rfl (qi_seq (qe_call ih (hr.mono (by omega)) rfl T.g_law_spots T.F_law_spots.kp T.B_law_spots (qa_cons (qe_ix (qv 0) qe_int (fun _ _ => rfl)) qa_nil))) (fun s0 H0 fp ps => ⟨(qg_name (i := 0) (show List.Nodup (["_law_spot"] : List Str) by decide +kernel) rfl (by first | exact Or.inl rfl | exact Or.inr rfl)), qif_nil, (qe_catT (qe_tup (qa_cons qe_int qa_nil)) (qv 0))⟩))))))
    qss_nil)
    (qss_one (qs_ret (qv 1)))))), ?_⟩)
  intro vs H Q E h
  unfold sp_spots at h
  split at h
  · rename_i v
    obtain ⟨f, rfl, dn, gd, h⟩ := h
    refine seq_abs fun R hR => ?_
    walk_at "rd"
    refine ⟨small_size (by decide), small_size (by decide), fun p hp => ?_⟩
    have s1 := (Sub.refl H).put (o := .lst [.tup []]) hp
    have e1 : put H p (.lst [.tup []]) p = some (.lst (([[]] : List (List Int)).map tI)) := put_same
    generalize put H p (.lst [.tup []]) = H1 at *
    subst hR
    refine seq_abs fun R hR => ?_
    have fin : ∀ (qs : List (List Int)) p2 H2 (f0 : F), f = f0 → (∀ q ∈ qs, ∃ g, at' f0 q = some g) → qs ≠ [] → qs.length ≤ sz f0 → U.Sub H H2 → H p2 = none → H2 p2 = some (.lst (qs.map tI)) → ∃ H3, U.Sub H3 H2 ∧ Q (.ref p2) H3 := fun qs p2 H2 f0 ef hq ne ln s2 hp2 e2 => by
      subst ef
      exact ⟨H2, Sub.refl _, h qs p2 H2 ⟨ne, ln, fun q hq' => by obtain ⟨g, e⟩ := hq q hq'; exact ⟨at_len e, g, e⟩⟩ s2 hp2 e2⟩
    cases f with
    | sum ns f =>
      obtain ⟨_, gf⟩ := gd.sum
      simp only [dp] at dn
      simp only [fV]
      walk_at "rd"
      refine cif_pos rfl ?_
      refine ⟨f, rfl, by omega, gf, fun qs7 p27 H27 pls7 s27 hp27 e27 => ⟨_, e27, fun acc7 hacc7 => ?_⟩⟩
      have l7 : qs7.length ≤ 900 := Nat.le_trans pls7.2.1 gf.2.2
      refine comp_pure (fpre 0) (fun _ => true) (fun σ => ∃ z, σ = [z]) (by rw [List.length_map]; omega) (fun l => (put_ne (ne_none e27 hacc7)).trans e27) ?_ ?_ ⟨_, rfl⟩
      · rintro y hy l σ R1 ⟨z, rfl⟩ hl kT kF
        obtain ⟨u, hu, rfl⟩ := List.mem_map.mp hy
        have lu := (pls7.2.2 u hu).1
        have d50 := gf.2.1
        unfold tI at kT ⊢
        walk_at "rd"
        exact ⟨small_size (by decide), small_size (by simp; omega), hl, by rw [put_put]; exact kT rfl _ ⟨_, rfl⟩⟩
      rw [pre_map]
      have sA7 := s27.put (o := .lst ((pre 0 qs7).map tI)) (s27.free hacc7)
      have eA7 : put H27 acc7 (.lst ((pre 0 qs7).map tI)) acc7 = some (.lst ((pre 0 qs7).map tI)) := put_same
      generalize put H27 acc7 (.lst ((pre 0 qs7).map tI)) = HA7 at *
      refine ⟨_, _, sA7 _ _ e1, eA7, line_ge (by rw [List.length_map, List.length_map, pre_len]; have := (show ([[]] : List (List Int)).length = 1 from rfl); omega), fun p7 hp7 => ?_⟩
      rw [← List.map_append]
      have sB7 := sA7.put (o := .lst (([[]] ++ pre 0 qs7).map tI)) (sA7.free hp7)
      have eB7 : put HA7 p7 (.lst (([[]] ++ pre 0 qs7).map tI)) p7 = some (.lst (([[]] ++ pre 0 qs7).map tI)) := put_same
      generalize put HA7 p7 (.lst (([[]] ++ pre 0 qs7).map tI)) = HB7 at *
      subst hR
      refine seq_abs fun R hR => ?_
      walk_at "rd"
      refine ⟨small_size (by decide), cif_neg rfl ?_⟩
      subst hR
      walk_at "rd"
      refine fin ([[]] ++ pre 0 qs7) p7 HB7 (.sum ns f) rfl (fun q hq => ?_) (by simp) (by rw [List.length_append, pre_len]; have := pls7.2.1; simp only [sz, List.length_singleton]; omega) (s1.trans sB7) (s1.free (sA7.free hp7)) eB7
      rcases List.mem_append.mp hq with hq | hq
      · rw [List.mem_singleton.mp hq]; exact ⟨_, FM.at_nil⟩
      · obtain ⟨u, hu, rfl⟩ := mem_pre hq
        exact (pls7.2.2 u hu).2
    | times a b =>
      obtain ⟨ga, gb⟩ := gd.tm
      simp only [dp] at dn
      simp only [fV]
      walk_at "rd"
      refine cif_neg rfl ?_
      subst hR
      refine seq_abs fun R hR => ?_
      walk_at "rd"
      refine ⟨small_size (by decide), cif_pos rfl ?_⟩
      refine ⟨a, rfl, by omega, ga, fun qs7 p27 H27 pls7 s27 hp27 e27 => ⟨_, e27, fun acc7 hacc7 => ?_⟩⟩
      have l7 : qs7.length ≤ 900 := Nat.le_trans pls7.2.1 ga.2.2
      refine comp_pure (fpre 0) (fun _ => true) (fun σ => ∃ z, σ = [z]) (by rw [List.length_map]; omega) (fun l => (put_ne (ne_none e27 hacc7)).trans e27) ?_ ?_ ⟨_, rfl⟩
      · rintro y hy l σ R1 ⟨z, rfl⟩ hl kT kF
        obtain ⟨u, hu, rfl⟩ := List.mem_map.mp hy
        have lu := (pls7.2.2 u hu).1
        have d50 := ga.2.1
        unfold tI at kT ⊢
        walk_at "rd"
        exact ⟨small_size (by decide), small_size (by simp; omega), hl, by rw [put_put]; exact kT rfl _ ⟨_, rfl⟩⟩
      rw [pre_map]
      have sA7 := s27.put (o := .lst ((pre 0 qs7).map tI)) (s27.free hacc7)
      have eA7 : put H27 acc7 (.lst ((pre 0 qs7).map tI)) acc7 = some (.lst ((pre 0 qs7).map tI)) := put_same
      generalize put H27 acc7 (.lst ((pre 0 qs7).map tI)) = HA7 at *
      refine ⟨_, _, sA7 _ _ e1, eA7, line_ge (by rw [List.length_map, List.length_map, pre_len]; have := (show ([[]] : List (List Int)).length = 1 from rfl); omega), fun p7 hp7 => ?_⟩
      rw [← List.map_append]
      have sB7 := sA7.put (o := .lst (([[]] ++ pre 0 qs7).map tI)) (sA7.free hp7)
      have eB7 : put HA7 p7 (.lst (([[]] ++ pre 0 qs7).map tI)) p7 = some (.lst (([[]] ++ pre 0 qs7).map tI)) := put_same
      generalize put HA7 p7 (.lst (([[]] ++ pre 0 qs7).map tI)) = HB7 at *
      have l77 : ([[]] ++ pre 0 qs7).length ≤ 901 := by rw [List.length_append, pre_len, List.length_singleton]; omega
      refine ⟨b, rfl, by omega, gb, fun qs8 p28 H28 pls8 s28 hp28 e28 => ⟨_, e28, fun acc8 hacc8 => ?_⟩⟩
      have l8 : qs8.length ≤ 900 := Nat.le_trans pls8.2.1 gb.2.2
      refine comp_pure (fpre 1) (fun _ => true) (fun σ => ∃ z, σ = [z]) (by rw [List.length_map]; omega) (fun l => (put_ne (ne_none e28 hacc8)).trans e28) ?_ ?_ ⟨_, rfl⟩
      · rintro y hy l σ R1 ⟨z, rfl⟩ hl kT kF
        obtain ⟨u, hu, rfl⟩ := List.mem_map.mp hy
        have lu := (pls8.2.2 u hu).1
        have d50 := gb.2.1
        unfold tI at kT ⊢
        walk_at "rd"
        exact ⟨small_size (by decide), small_size (by simp; omega), hl, by rw [put_put]; exact kT rfl _ ⟨_, rfl⟩⟩
      rw [pre_map]
      have sA8 := s28.put (o := .lst ((pre 1 qs8).map tI)) (s28.free hacc8)
      have eA8 : put H28 acc8 (.lst ((pre 1 qs8).map tI)) acc8 = some (.lst ((pre 1 qs8).map tI)) := put_same
      generalize put H28 acc8 (.lst ((pre 1 qs8).map tI)) = HA8 at *
      refine ⟨_, _, sA8 _ _ eB7, eA8, line_ge (by rw [List.length_map, List.length_map, pre_len]; have := l77; omega), fun p8 hp8 => ?_⟩
      rw [← List.map_append]
      have sB8 := sA8.put (o := .lst ((([[]] ++ pre 0 qs7) ++ pre 1 qs8).map tI)) (sA8.free hp8)
      have eB8 : put HA8 p8 (.lst ((([[]] ++ pre 0 qs7) ++ pre 1 qs8).map tI)) p8 = some (.lst ((([[]] ++ pre 0 qs7) ++ pre 1 qs8).map tI)) := put_same
      generalize put HA8 p8 (.lst ((([[]] ++ pre 0 qs7) ++ pre 1 qs8).map tI)) = HB8 at *
      subst hR
      walk_at "rd"
      refine fin ([[]] ++ pre 0 qs7 ++ pre 1 qs8) p8 HB8 (.times a b) rfl (fun q hq => ?_) (by simp) (by rw [List.length_append, List.length_append, pre_len, pre_len]; have := pls7.2.1; have := pls8.2.1; simp only [sz, List.length_singleton]; omega) ((s1.trans sB7).trans sB8) (s1.free (sB7.free (sA8.free hp8))) eB8
      rcases List.mem_append.mp hq with hq | hq
      · rcases List.mem_append.mp hq with hq | hq
        · rw [List.mem_singleton.mp hq]; exact ⟨_, FM.at_nil⟩
        · obtain ⟨u, hu, rfl⟩ := mem_pre hq
          exact (pls7.2.2 u hu).2
      · obtain ⟨u, hu, rfl⟩ := mem_pre hq
        exact (pls8.2.2 u hu).2
    | over a b =>
      obtain ⟨ga, gb⟩ := gd.ov
      simp only [dp] at dn
      simp only [fV]
      walk_at "rd"
      refine cif_neg rfl ?_
      subst hR
      refine seq_abs fun R hR => ?_
      walk_at "rd"
      refine ⟨small_size (by decide), cif_pos rfl ?_⟩
      refine ⟨a, rfl, by omega, ga, fun qs7 p27 H27 pls7 s27 hp27 e27 => ⟨_, e27, fun acc7 hacc7 => ?_⟩⟩
      have l7 : qs7.length ≤ 900 := Nat.le_trans pls7.2.1 ga.2.2
      refine comp_pure (fpre 0) (fun _ => true) (fun σ => ∃ z, σ = [z]) (by rw [List.length_map]; omega) (fun l => (put_ne (ne_none e27 hacc7)).trans e27) ?_ ?_ ⟨_, rfl⟩
      · rintro y hy l σ R1 ⟨z, rfl⟩ hl kT kF
        obtain ⟨u, hu, rfl⟩ := List.mem_map.mp hy
        have lu := (pls7.2.2 u hu).1
        have d50 := ga.2.1
        unfold tI at kT ⊢
        walk_at "rd"
        exact ⟨small_size (by decide), small_size (by simp; omega), hl, by rw [put_put]; exact kT rfl _ ⟨_, rfl⟩⟩
      rw [pre_map]
      have sA7 := s27.put (o := .lst ((pre 0 qs7).map tI)) (s27.free hacc7)
      have eA7 : put H27 acc7 (.lst ((pre 0 qs7).map tI)) acc7 = some (.lst ((pre 0 qs7).map tI)) := put_same
      generalize put H27 acc7 (.lst ((pre 0 qs7).map tI)) = HA7 at *
      refine ⟨_, _, sA7 _ _ e1, eA7, line_ge (by rw [List.length_map, List.length_map, pre_len]; have := (show ([[]] : List (List Int)).length = 1 from rfl); omega), fun p7 hp7 => ?_⟩
      rw [← List.map_append]
      have sB7 := sA7.put (o := .lst (([[]] ++ pre 0 qs7).map tI)) (sA7.free hp7)
      have eB7 : put HA7 p7 (.lst (([[]] ++ pre 0 qs7).map tI)) p7 = some (.lst (([[]] ++ pre 0 qs7).map tI)) := put_same
      generalize put HA7 p7 (.lst (([[]] ++ pre 0 qs7).map tI)) = HB7 at *
      have l77 : ([[]] ++ pre 0 qs7).length ≤ 901 := by rw [List.length_append, pre_len, List.length_singleton]; omega
      refine ⟨b, rfl, by omega, gb, fun qs8 p28 H28 pls8 s28 hp28 e28 => ⟨_, e28, fun acc8 hacc8 => ?_⟩⟩
      have l8 : qs8.length ≤ 900 := Nat.le_trans pls8.2.1 gb.2.2
      refine comp_pure (fpre 1) (fun _ => true) (fun σ => ∃ z, σ = [z]) (by rw [List.length_map]; omega) (fun l => (put_ne (ne_none e28 hacc8)).trans e28) ?_ ?_ ⟨_, rfl⟩
      · rintro y hy l σ R1 ⟨z, rfl⟩ hl kT kF
        obtain ⟨u, hu, rfl⟩ := List.mem_map.mp hy
        have lu := (pls8.2.2 u hu).1
        have d50 := gb.2.1
        unfold tI at kT ⊢
        walk_at "rd"
        exact ⟨small_size (by decide), small_size (by simp; omega), hl, by rw [put_put]; exact kT rfl _ ⟨_, rfl⟩⟩
      rw [pre_map]
      have sA8 := s28.put (o := .lst ((pre 1 qs8).map tI)) (s28.free hacc8)
      have eA8 : put H28 acc8 (.lst ((pre 1 qs8).map tI)) acc8 = some (.lst ((pre 1 qs8).map tI)) := put_same
      generalize put H28 acc8 (.lst ((pre 1 qs8).map tI)) = HA8 at *
      refine ⟨_, _, sA8 _ _ eB7, eA8, line_ge (by rw [List.length_map, List.length_map, pre_len]; have := l77; omega), fun p8 hp8 => ?_⟩
      rw [← List.map_append]
      have sB8 := sA8.put (o := .lst ((([[]] ++ pre 0 qs7) ++ pre 1 qs8).map tI)) (sA8.free hp8)
      have eB8 : put HA8 p8 (.lst ((([[]] ++ pre 0 qs7) ++ pre 1 qs8).map tI)) p8 = some (.lst ((([[]] ++ pre 0 qs7) ++ pre 1 qs8).map tI)) := put_same
      generalize put HA8 p8 (.lst ((([[]] ++ pre 0 qs7) ++ pre 1 qs8).map tI)) = HB8 at *
      subst hR
      walk_at "rd"
      refine fin ([[]] ++ pre 0 qs7 ++ pre 1 qs8) p8 HB8 (.over a b) rfl (fun q hq => ?_) (by simp) (by rw [List.length_append, List.length_append, pre_len, pre_len]; have := pls7.2.1; have := pls8.2.1; simp only [sz, List.length_singleton]; omega) ((s1.trans sB7).trans sB8) (s1.free (sB7.free (sA8.free hp8))) eB8
      rcases List.mem_append.mp hq with hq | hq
      · rcases List.mem_append.mp hq with hq | hq
        · rw [List.mem_singleton.mp hq]; exact ⟨_, FM.at_nil⟩
        · obtain ⟨u, hu, rfl⟩ := mem_pre hq
          exact (pls7.2.2 u hu).2
      · obtain ⟨u, hu, rfl⟩ := mem_pre hq
        exact (pls8.2.2 u hu).2
    | one =>
      simp only [fV]
      walk_at "rd"
      refine cif_neg rfl ?_
      subst hR
      refine seq_abs fun R hR => ?_
      walk_at "rd"
      refine ⟨small_size (by decide), cif_neg rfl ?_⟩
      subst hR
      walk_at "rd"
      exact fin [[]] p H1 .one rfl (fun q hq => by rw [List.mem_singleton.mp hq]; exact ⟨_, FM.at_nil⟩) (by simp) (by simp [sz]) s1 hp e1
    | seen ns =>
      simp only [fV]
      walk_at "rd"
      refine cif_neg rfl ?_
      subst hR
      refine seq_abs fun R hR => ?_
      walk_at "rd"
      refine ⟨small_size (by decide), cif_neg rfl ?_⟩
      subst hR
      walk_at "rd"
      exact fin [[]] p H1 (.seen ns) rfl (fun q hq => by rw [List.mem_singleton.mp hq]; exact ⟨_, FM.at_nil⟩) (by simp) (by simp [sz]) s1 hp e1
  · exact h.elim
theorem G_spots (T : Tx w K mg t) : ∀ n, FnOk' P w K mg base CX0 (n + 1) t.a_law_spots t.d_law_spots ["_law_formula"] (sp_spots n)
  | 0 => G_spots0 T
  | n + 1 => G_spotsS T (G_spots T n)

theorem G_law_is_plain_thin (T : Tx w K mg t) : FnOk' P w K mg base CX0 54 t.a_law_is_plain_thin t.d_law_is_plain_thin ["_law_formula"] sp_ipt := by
  refine okU (k := 53) T.F_law_is_plain_thin sc_law_is_plain_thin (fun vs H Q E h => by
    unfold sp_ipt at h
    split at h
    · rfl
    · exact h.elim) (fun cdv A outer s H E B hr => ⟨_, (qss_cons (qs_for PassesOwn.never rfl (qi_seq (qe_call (G_spots T 52) (hr.mono (by decide)) rfl T.g_law_spots T.F_law_spots.kp T.B_law_spots (qa_cons (qv 0) qa_nil))) (qg_name (i := 1) sc_law_is_plain_thin.nd rfl (by first | exact Or.inl rfl | exact Or.inr rfl))
    (qss_one (qs_for PassesOwn.never rfl (qi_seq (qe_lst (qa_cons qe_str (qa_cons qe_str (qa_cons qe_str (qa_cons qe_str (qa_cons qe_str qa_nil))))))) (qg_name (i := 2) sc_law_is_plain_thin.nd rfl (by first | exact Or.inl rfl | exact Or.inr rfl))
      (qss_one (qs_if (qt_cmp op_notN vr_notN (qe_call (G_law_plain T) (hr.mono (by decide)) rfl T.g_law_plain T.F_law_plain.kp T.B_law_plain (qa_cons (qe_call (G_law_part T) (hr.mono (by decide)) rfl T.g_law_part T.F_law_part.kp T.B_law_part (qa_cons (qv 0) (qa_cons (qv 1) qa_nil))) (qa_cons (qv 2) qa_nil))) qe_non (nomark _))
        (qss_one (qs_ret qe_bl))
        qss_nil)))))
    (qss_one (qs_ret qe_bl))), ?_⟩)
  intro vs H Q E h
  unfold sp_ipt at h
  split at h
  · rename_i v
    obtain ⟨f, rfl, gd, tn, h⟩ := h
    have d50 := gd.2.1
    refine seq_abs fun R hR => ?_
    walk_at "rd"
    refine ⟨f, rfl, by omega, gd, fun qs p H1 pls s1 hp e1 => ⟨_, e1, ?_⟩⟩
    refine for_atD (fun i σ H2 => ∃ z1 z2, σ = [some (fV f), z1, z2] ∧ U.Sub H1 H2) ?_ ?_ ⟨_, _, rfl, Sub.refl _⟩
    · rintro σ H2 ⟨z1, z2, rfl, s2⟩
      refine ⟨s2 _ _ e1, ?_⟩
      subst hR
      walk_at "rd"
      exact ⟨H, s1.trans s2, h⟩
    · rintro D i y σ H2 hy ⟨z1, z2, rfl, s2⟩ kk
      refine ⟨s2 _ _ e1, ?_⟩
      obtain ⟨q, hq, rfl⟩ := List.mem_map.mp (List.mem_of_getElem? hy)
      obtain ⟨g, eg⟩ := (pls.2.2 q hq).2
      have gg : Gd g := by
        obtain ⟨o1, o2, o3, o4, o5, _⟩ := FM.pt_ok (g := g) eg
        exact ⟨(o1 gd.1).1, Nat.le_trans o4 gd.2.1, Nat.le_trans o5 gd.2.2⟩
      have tg := (tn_iff.mp (tn_at tn eg)).1
      unfold tI
      walk_at "rd"
      refine ⟨small_size (by decide), fun p3 hp3 => ?_⟩
      have s3 := (Sub.refl H2).put (o := .lst (wds.map PV.str)) hp3
      have e3 : put H2 p3 (.lst (wds.map PV.str)) p3 = some (.lst (wds.map PV.str)) := put_same
      change uForL (fun H => H p3 = some (.lst (wds.map PV.str))) _ _ _ (wds.map PV.str) _ (put H2 p3 (.lst (wds.map PV.str)))
      generalize put H2 p3 (.lst (wds.map PV.str)) = H3 at *
      refine for_atD (fun i σ H4 => ∃ z2, σ = [some (fV f), some (.tup (q.map PV.int)), z2] ∧ H4 = H3) ?_ ?_ ⟨_, rfl, rfl⟩
      · rintro σ H4 ⟨z2, rfl, rfl⟩
        exact ⟨e3, kk _ _ ⟨_, _, rfl, s2.trans s3⟩⟩
      · rintro D2 i y σ H4 hy ⟨z2, rfl, rfl⟩ kk2
        refine ⟨e3, ?_⟩
        obtain ⟨k, hk, rfl⟩ := mem_wds (List.mem_of_getElem? hy)
        walk_at "rd"
        refine ⟨f, q, rfl, rfl, ?_⟩
        rw [eg]
        refine ⟨g, rfl, gg, hk, ?_⟩
        rw [tg k hk]
        try walk_at "rd"
        exact kk2 _ _ ⟨_, rfl, rfl⟩
  · exact h.elim

theorem G_law_product (T : Tx w K mg t) : FnOk' P w K mg base CX0 1 t.a_law_product t.d_law_product ["_law_formulas"] sp_product := by
  refine okU (k := 0) T.F_law_product sc_law_product (fun vs H Q E h => by
    unfold sp_product at h
    split at h
    · rfl
    · exact h.elim) (fun cdv A outer s H E B hr => ⟨_, (qss_cons (qs_set (i := 1) sc_law_product.nd rfl (by first | exact Or.inl rfl | exact Or.inr rfl) (qe_ix (qv 0) qe_int (fun _ _ => rfl)))
    (qss_cons (qs_for PassesOwn.never rfl (qi_seq (qe_slice (qv 0) (qo_some qe_int) qo_none)) (qg_name (i := 2) sc_law_product.nd rfl (by first | exact Or.inl rfl | exact Or.inr rfl))
    (qss_one (qs_set (i := 1) sc_law_product.nd rfl (by first | exact Or.inl rfl | exact Or.inr rfl) (qe_tup (qa_cons qe_str (qa_cons (qv 1) (qa_cons (qv 2) qa_nil)))))))
    (qss_one (qs_ret (qv 1))))), ?_⟩)
  intro vs H Q E h
  unfold sp_product at h
  split at h
  · rename_i p
    obtain ⟨fs, ep, fne, fl, fok, h⟩ := h
    refine seq_abs fun R hR => ?_
    walk_at "rd"
    refine ⟨_, ep, ?_⟩
    cases fs with
    | nil => exact absurd rfl fne
    | cons f0 fs =>
      rw [show atI ((f0 :: fs).map fV) 0 = some (fV f0) from atI_c0]
      show R _ _ H
      subst hR
      refine seq_abs fun R hR => ?_
      walk_at "rd"
      refine ⟨_, ep, fun p1 hp1 => ?_⟩
      rw [List.map_cons, cut1]
      have s1 := (Sub.refl H).put (o := .lst (fs.map fV)) hp1
      have e1 : put H p1 (.lst (fs.map fV)) p1 = some (.lst (fs.map fV)) := put_same
      generalize put H p1 (.lst (fs.map fV)) = H1 at *
      have f0k := fok f0 List.mem_cons_self
      refine for_atD (fun i σ H2 => ∃ z g, σ = [some (.ref p), some (fV g), z] ∧ H2 = H1 ∧ Ok g ∧ dp g ≤ i + 1 ∧ sz g ≤ 4 * (i + 1)) ?_ ?_ ⟨_, f0, rfl, rfl, f0k.1, by omega, by omega⟩
      · rintro σ H2 ⟨z, g, rfl, rfl, og, dg, sg⟩
        refine ⟨e1, ?_⟩
        rw [List.length_map] at dg sg
        subst hR
        walk_at "rd"
        exact ⟨H, s1, h g og (by rw [List.length_cons]; exact dg) (by rw [List.length_cons]; exact sg)⟩
      · rintro D i y σ H2 hy ⟨z, g, rfl, rfl, og, dg, sg⟩ kk
        refine ⟨e1, ?_⟩
        obtain ⟨x, hx, rfl⟩ := List.mem_map.mp (List.mem_of_getElem? hy)
        have xk := fok x (List.mem_cons_of_mem _ hx)
        walk_at "rd"
        exact ⟨small_size (by decide), kk _ _ ⟨_, .times g x, rfl, rfl, ⟨og, xk.1⟩, by simp only [dp]; omega, by simp only [sz]; omega⟩⟩
  · exact h.elim

theorem G_law_told_right (T : Tx w K mg t) : FnOk' P w K mg base CX0 63 t.a_law_told_right t.d_law_told_right ["_law_shape", "_law_formula", "_law_told"] sp_tright := by
  refine okU (k := 62) T.F_law_told_right sc_law_told_right (fun vs H Q E h => by
    unfold sp_tright at h
    split at h
    · rfl
    · exact h.elim) (fun cdv A outer s H E B hr => ⟨_, (qss_cons (qs_if (qt_bool (qw_or (qt_not (qt_val (qe_callB (call_isiB .tuple) (vc_isi .tuple) rfl T.b_isinstance boot_isinstance (qa_cons (qv 2) (qa_cons (qe_bty rfl T.b_tuple boot_tuple) qa_nil))))) (qw_or (qt_cmp (op_neU hr.units) vr_eq (qe_callB call_len_seq vc_len rfl T.b_len PySem.boot_len (qa_cons (qv 2) qa_nil)) qe_int (nomark _)) (qw_or (qt_not (qt_val (qe_callB (call_isiB .list) (vc_isi .list) rfl T.b_isinstance boot_isinstance (qa_cons (qe_ix (qv 2) qe_int (fun _ _ => rfl)) (qa_cons (qe_bty rfl T.b_list boot_list) qa_nil))))) (qw_or1 (qt_cmp op_gt vr_gt (qe_callB call_len_seq vc_len rfl T.b_len PySem.boot_len (qa_cons (qe_ix (qv 2) qe_int (fun _ _ => rfl)) qa_nil)) qe_int (nomark _)))))))
    (qss_one (qs_ret qe_bl))
    qss_nil)
    (qss_cons (qs_set (i := 3) sc_law_told_right.nd rfl (by first | exact Or.inl rfl | exact Or.inr rfl) (qv 1))
    (qss_cons (qs_for PassesOwn.never rfl (qi_seq (qe_ix (qv 2) qe_int (fun _ _ => rfl))) (qg_name (i := 4) sc_law_told_right.nd rfl (by first | exact Or.inl rfl | exact Or.inr rfl))
    (qss_cons (qs_if (qt_bool (qw_or (qt_not (qt_val (qe_callB (call_isiB .tuple) (vc_isi .tuple) rfl T.b_isinstance boot_isinstance (qa_cons (qv 4) (qa_cons (qe_bty rfl T.b_tuple boot_tuple) qa_nil))))) (qw_or1 (qt_cmp (op_neU hr.units) vr_eq (qe_callB call_len_seq vc_len rfl T.b_len PySem.boot_len (qa_cons (qv 4) qa_nil)) qe_int (nomark _)))))
      (qss_one (qs_ret qe_bl))
      qss_nil)
      (qss_cons (qs_set (i := 3) sc_law_told_right.nd rfl (by first | exact Or.inl rfl | exact Or.inr rfl) (qe_call (G_law_thin T) (hr.mono (by decide)) rfl T.g_law_thin T.F_law_thin.kp T.B_law_thin (qa_cons (qv 0) (qa_cons (qv 3) (qa_cons (qv 4) qa_nil)))))
      (qss_one (qs_if (qt_cmp op_isN vr_isN (qv 3) qe_non (nomark _))
      (qss_one (qs_ret qe_bl))
      qss_nil)))))
    (qss_cons (qs_if (qt_bool (qw_or (qt_cmp (op_neW hr.units) vr_neW (qv 3) (qe_ix (qv 2) qe_int (fun _ _ => rfl)) (nomark _)) (qw_or1 (qt_cmp (op_neU hr.units) vr_eq (qe_comp (N2 := ["_law_name", "_law_formula"]) (nt := 1) (js := [1]) (cok (sc := defScope s_law_told_right) (by exact rfl) (by repeat (first | exact trivial | refine ⟨rfl, ?_⟩)) rfl (by rfl) (by decide +kernel) (by decide +kernel) (by rfl) (by decide +kernel) (by rfl) (by rfl)) rfl (qi_seq (qe_call (G_law_open T 51) (hr.mono (by decide)) rfl T.g_law_open T.F_law_open.kp T.B_law_open (qa_cons (qv 3) qa_nil))) (fun s0 H0 fp ps => ⟨(qg_name (i := 0) (show List.Nodup (["_law_name", "_law_formula"] : List Str) by decide +kernel) rfl (by first | exact Or.inl rfl | exact Or.inr rfl)), (qif_one (qt_cmp (op_notInU hr.units) vr_in (qv 0) (qe_call (G_law_open T 51) (hr.mono (by decide)) rfl T.g_law_open T.F_law_open.kp T.B_law_open (qa_cons (qv 1) qa_nil)) (by with_unfolding_all rfl))), (qv 0)⟩)) (qe_lst qa_nil) (nomark _)))))
    (qss_one (qs_ret qe_bl))
    qss_nil)
    (qss_one (qs_ret (qe_or (qe_cmp (op_eqU hr.units) vr_eq (qe_callB call_len_seq vc_len rfl T.b_len PySem.boot_len (qa_cons (qe_ix (qv 2) qe_int (fun _ _ => rfl)) qa_nil)) qe_int (nomark _)) (qe_one (qe_call (G_law_is_plain_thin T) (hr.mono (by decide)) rfl T.g_law_is_plain_thin T.F_law_is_plain_thin.kp T.B_law_is_plain_thin (qa_cons (qe_ix (qv 2) qe_int (fun _ _ => rfl)) qa_nil)))))))))), ?_⟩)
  intro vs H Q E h
  unfold sp_tright at h
  split at h
  · rename_i s0 v u
    obtain ⟨f, g, new, a, rfl, rfl, gd, ea, td, h⟩ := h
    have d50 := gd.2.1
    refine seq_abs fun R hR => ?_
    walk_at "rd"
    have nl := td.len
    refine cif_neg rfl ⟨_, ea, _, ea, cif_neg (decide_eq_false (by rw [List.length_map]; omega)) ?_⟩
    subst hR
    refine seq_abs fun R hR => ?_
    walk_at "rd"
    subst hR
    refine seq_abs fun R hR => ?_
    walk_at "rd"
    refine ⟨_, ea, ?_⟩
    have op_at : ∀ {m : F} {i : Nat}, rn f (new.take i) = some m → Gd m := fun {m i} e => by
      have : ∀ (l : List Th) (f m : F), Gd f → rn f l = some m → Gd m := fun l => by
        induction l with
        | nil => intro f m gf e; cases e; exact gf
        | cons p l ih =>
          intro f m gf e
          simp only [rn] at e
          cases z : stp f p with
          | none => rw [z] at e; cases e
          | some k =>
            rw [z] at e
            obtain ⟨x, y, e1, e2, rfl⟩ := stp_of z
            obtain ⟨o1, o2, o3, o4, o5, o6, o7, o8⟩ := FM.pt_ok (g := y) e1
            have ly := ls_pl e2
            exact ih _ m ⟨(o1 gf.1).2 (ly.ok (o1 gf.1).1), Nat.le_trans (o7 ly.dp) gf.2.1, Nat.le_trans (o8 ly.sz) gf.2.2⟩ e
      exact this _ _ _ gd e
    refine for_atD (fun i σ H2 => ∃ z m, σ = [some s0, some (fV f), some (.tup [fV g, .ref a]), some (fV m), z] ∧ H2 = H ∧ rn f (new.take i) = some m) ?_ ?_ ⟨_, f, rfl, rfl, rfl⟩
    · rintro σ H2 ⟨z, m, rfl, rfl, e⟩
      refine ⟨ea, ?_⟩
      rw [List.length_map, List.take_length, td.run] at e
      cases e
      subst hR
      refine seq_abs fun R hR => ?_
      walk_at "rd"
      subst hR
      refine seq_abs fun R hR => ?_
      walk_at "rd"
      have gg := td.gd
      have g50 := gg.2.1
      refine ⟨gg.fl, gg.fl, cif_neg (by rw [deq_refl]; rfl) ⟨g, rfl, by omega, gg.1, fun ms hms lo6 acc hacc => ?_⟩⟩
      have ml := isop_len hms gg.1
      refine comp_pure (fun y => y) (fun _ => false) (fun σ => ∃ z, σ = [z, some (fV f)]) (by rw [List.length_map]; omega) (fun _ => trivial) ?_ ?_ ⟨_, rfl⟩
      · rintro y hy l σ R1 ⟨z, rfl⟩ hl kT kF
        obtain ⟨x, hx, rfl⟩ := List.mem_map.mp hy
        walk_at "rd"
        refine ⟨f, rfl, by omega, gd.1, fun ms2 hms2 _ => ⟨flatI, ?_⟩⟩
        rw [any_int]
        exact cif_neg (by rw [decide_eq_true ((hms2.2 x).mpr (td.op x ((hms.2 x).mp hx)))]; rfl) (kF rfl _ ⟨_, rfl⟩)
      have fe : (((ms.map PV.int).filter fun _ => false).map fun y => y) = [] := by simp
      rw [fe]
      refine ⟨small_size (by decide), fun p hp => ?_⟩
      have s0' := (Sub.refl H2).put (o := .lst []) hacc
      have s1 := s0'.put (o := .lst []) (s0'.free hp)
      have e1 : put (put H2 acc (.lst [])) p (.lst []) acc = some (.lst []) := (put_ne (fun z => by rw [← z, put_same] at hp; cases hp)).trans put_same
      generalize put (put H2 acc (.lst [])) p (.lst []) = H3 at *
      rw [w_Dr]
      refine ⟨_, e1, rfl, cif_neg rfl ?_⟩
      subst hR
      walk_at "rd"
      refine ⟨_, s1 _ _ ea, ?_⟩
      rw [List.length_map]
      refine cif_by (fun _ => ⟨_, s1, h⟩) fun q => ⟨g, rfl, gg, ?_, _, s1, h⟩
      rcases td.tn with t | t
      · exact t
      · rw [t] at q; exact absurd q (by decide)
    · rintro D i y σ H2 hy ⟨z, m, rfl, rfl, e⟩ kk
      refine ⟨ea, ?_⟩
      rw [List.getElem?_map] at hy
      cases hp : new[i]? with
      | none => rw [hp] at hy; cases hy
      | some p =>
        rw [hp] at hy
        cases hy
        obtain ⟨m', e', st⟩ := rn_next td.run hp e
        have gm := op_at e
        try simp only [Option.map_some]
        have et : thV p = .tup [tI p.1, .str p.2, .tup []] := rfl
        simp only [vName, List.set_cons_zero, List.set_cons_succ]
        rw [et]
        refine seq_abs fun R2 hR2 => ?_
        walk_at "rd"
        refine cif_neg rfl ?_
        subst hR2
        refine seq_abs fun R2 hR2 => ?_
        walk_at "rd"
        refine ⟨m, p, m', rfl, rfl, gm, td.wd p (List.mem_of_getElem? hp), st, ?_, ?_⟩
        · obtain ⟨x, y, e1, _, _⟩ := stp_of st
          have := at_len e1
          have := gm.2.1
          omega
        subst hR2
        walk_at "rd"
        exact kk _ _ ⟨_, m', rfl, rfl, e'⟩
  · exact h.elim

theorem G_law_shape_by (T : Tx w K mg t) : FnOk' P w K mg base CX0 1 t.a_law_shape_by t.d_law_shape_by ["_law_purse", "_law_least", "_law_most"] sp_shape := by
  refine okU (k := 0) T.F_law_shape_by sc_law_shape_by (fun vs H Q E h => by
    unfold sp_shape at h
    split at h
    · rfl
    · exact h.elim) (fun cdv A outer s H E B hr => ⟨_, (qss_cons (qs_set (i := 3) sc_law_shape_by.nd rfl (by first | exact Or.inl rfl | exact Or.inr rfl) (qe_add (qv 1) (qe_mod (qe_bm0 PySem.F.slot_list_pop PySem.F.type_list_pop mt_pop vm_pop hl_pop (qv 0)) (qe_add (qe_sub (qv 2) (qv 1)) qe_int))))
    (qss_cons (qs_set (i := 4) sc_law_shape_by.nd rfl (by first | exact Or.inl rfl | exact Or.inr rfl) (qe_lst qa_nil))
    (qss_cons (qs_set (i := 5) sc_law_shape_by.nd rfl (by first | exact Or.inl rfl | exact Or.inr rfl) (qe_lst qa_nil))
    (qss_cons (qs_for PassesOwn.never rfl (qi_range1 rfl T.b_range (qa_cons (qv 3) qa_nil)) (qg_name (i := 6) sc_law_shape_by.nd rfl (by first | exact Or.inl rfl | exact Or.inr rfl))
    (qss_one (qs_for PassesOwn.never rfl (qi_range1 rfl T.b_range (qa_cons (qv 6) qa_nil)) (qg_name (i := 7) sc_law_shape_by.nd rfl (by first | exact Or.inl rfl | exact Or.inr rfl))
      (qss_cons (qs_set (i := 8) sc_law_shape_by.nd rfl (by first | exact Or.inl rfl | exact Or.inr rfl) (qe_bm0 PySem.F.slot_list_pop PySem.F.type_list_pop mt_pop vm_pop hl_pop (qv 0)))
        (qss_cons (qs_if (qt_cmp (op_eqU hr.units) vr_eq (qe_mod (qv 8) qe_int) qe_int (nomark _))
        (qss_one (qs_expr (qe_bm PySem.F.slot_list_append PySem.F.type_list_append mt_append vm_append (qv 4) (qa_cons (qe_tup (qa_cons (qv 7) (qa_cons (qv 6) qa_nil))) qa_nil))))
        qss_nil)
        (qss_one (qs_if (qt_bool (qw_and (qt_cmp (op_eqU hr.units) vr_eq (qe_mod (qe_fdiv (qv 8) qe_int) qe_int) qe_int (nomark _)) (qw_and1 (qt_cmp op_lt vr_lt (qe_callB call_len_seq vc_len rfl T.b_len PySem.boot_len (qa_cons (qv 5) qa_nil)) qe_int (nomark _)))))
        (qss_one (qs_expr (qe_bm PySem.F.slot_list_append PySem.F.type_list_append mt_append vm_append (qv 5) (qa_cons (qe_tup (qa_cons (qv 7) (qa_cons (qv 6) qa_nil))) qa_nil))))
        qss_nil)))))))
    (qss_one (qs_ret (qe_lst (qa_cons (qv 3) (qa_cons (qe_callB call_sortP vc_sortP rfl T.b_sorted boot_sorted (qa_cons (qv 4) qa_nil)) (qa_cons (qe_callB call_sortP vc_sortP rfl T.b_sorted boot_sorted (qa_cons (qv 5) qa_nil)) qa_nil)))))))))), ?_⟩)
  intro vs H Q E h
  unfold sp_shape at h
  split at h
  · rename_i p a b
    obtain ⟨rfl, rfl, xs, hp0, nx, x20, h⟩ := h
    obtain ⟨y0, ev, hv, dl, dn, ds⟩ := pop_int (xs := xs) (by omega)
    refine seq_abs fun R hR => ?_
    walk_at "rd"
    refine ⟨_, _, hp0, ev, ?_⟩
    rw [dl]
    try walk_at "rd"
    have hc := fm (a := y0) (b := 4 - 1 + 1) (by decide)
    refine ⟨by decide, ?_⟩
    generalize hcc : 1 + y0.fmod (4 - 1 + 1) = c at *
    have hc1 : 1 ≤ c ∧ c ≤ 4 := by omega
    have nx1 : Nn xs.dropLast := fun x hx => nx x (ds x hx)
    have cg1 : Cg H (put H p (.lst (xs.dropLast.map PV.int))) p := fun b o nb e => (put_ne nb).trans e
    have e1 : put H p (.lst (xs.dropLast.map PV.int)) p = some (.lst (xs.dropLast.map PV.int)) := put_same
    generalize put H p (.lst (xs.dropLast.map PV.int)) = H1 at *
    subst hR
    refine seq_abs fun R hR => ?_
    walk_at "rd"
    refine ⟨small_size (by decide), fun p1 hp1 => ?_⟩
    have n1 : p ≠ p1 := ne_none e1 hp1
    have s1 := (Sub.refl H1).put (o := .lst []) hp1
    have e11 : put H1 p1 (.lst []) p1 = some (.lst (([] : List P2).map prV)) := put_same
    generalize put H1 p1 (.lst []) = H2 at *
    subst hR
    refine seq_abs fun R hR => ?_
    walk_at "rd"
    refine ⟨small_size (by decide), fun p2 hp2 => ?_⟩
    have n2 : p ≠ p2 := ne_none (s1 _ _ e1) hp2
    have n12 : p1 ≠ p2 := ne_none e11 hp2
    have s2 := (Sub.refl H2).put (o := .lst []) hp2
    have e22 : put H2 p2 (.lst []) p2 = some (.lst (([] : List P2).map prV)) := put_same
    generalize put H2 p2 (.lst []) = H3 at *
    have e3 := s2 _ _ (s1 _ _ e1)
    have e31 := s2 _ _ e11
    have cg3 : Cg H H3 p := fun b o nb e => s2 _ _ (s1 _ _ (cg1 b o nb e))
    have f1 : H p1 = none := by
      cases z : H p1 with
      | none => rfl
      | some o => rw [cg1 p1 o n1.symm z] at hp1; cases hp1
    have f2 : H p2 = none := by
      cases z : H p2 with
      | none => rfl
      | some o => rw [s1 _ _ (cg1 p2 o n2.symm z)] at hp2; cases hp2
    subst hR
    refine seq_abs fun R hR => ?_
    walk_at "rd"
    refine ⟨⟨by omega, by omega⟩, ?_⟩
    refine for_rngD (fun i σ H4 => ∃ zv zu zd ts bs, ∃ ys : List Int, σ = [some (.ref p), some (.int 1), some (.int 4), some (.int c), some (.ref p1), some (.ref p2), zv, zu, zd] ∧ (Cg H H4 p ∧ H4 p = some (.lst (ys.map PV.int)) ∧ Nn ys ∧ ys.length + 1 + DM.tri i = xs.length ∧ H4 p1 = some (.lst (ts.map prV)) ∧ H4 p2 = some (.lst (bs.map prV))) ∧ DM.Good (i : Nat) ts ∧ DM.Good (i : Nat) bs ∧ bs.length ≤ 6) ?_ ?_ ⟨_, _, _, [], [], _, rfl, ⟨cg3, e3, nx1, by rw [show DM.tri 0 = 0 from rfl]; omega, e31, e22⟩, ⟨List.nodup_nil, by simp⟩, ⟨List.nodup_nil, by simp⟩, by simp⟩
    · rintro σ H4 ⟨zv, zu, zd, ts, bs, ys, rfl, ⟨c4, c5, c6, c7, c8, c9⟩, g1, g2, l6⟩
      refine ⟨trivial, ?_⟩
      have ec : ((c.toNat : Nat) : Int) = c := by omega
      rw [ec] at g1 g2
      subst hR
      walk_at "rd"
      have gp : ∀ {ps qs : List P2}, DM.Good c ps → qs.Perm ps → DM.Good c qs := fun g q => ⟨q.nodup_iff.mpr g.nd, fun x hx => g.lo x (q.mem_iff.mp hx)⟩
      have t15 := g1.len (by omega)
      refine ⟨ts, c8, g1.nd, fun x hx => by have := g1.lo x hx; omega, by omega, fun r1 qs1 hr1 q1 _ => ?_⟩
      have s5 := (Sub.refl H4).put (o := .lst (qs1.map prV)) hr1
      have e5 : put H4 r1 (.lst (qs1.map prV)) r1 = some (.lst (qs1.map prV)) := put_same
      generalize put H4 r1 (.lst (qs1.map prV)) = H5 at *
      refine ⟨bs, s5 _ _ c9, g2.nd, fun x hx => by have := g2.lo x hx; omega, by omega, fun r2 qs2 hr2 q2 _ => ?_⟩
      have s6 := (Sub.refl H5).put (o := .lst (qs2.map prV)) hr2
      have e6 : put H5 r2 (.lst (qs2.map prV)) r2 = some (.lst (qs2.map prV)) := put_same
      generalize put H5 r2 (.lst (qs2.map prV)) = H6 at *
      refine ⟨small_size (by decide), fun r3 hr3 => ?_⟩
      have s7 := (Sub.refl H6).put (o := .lst [.int c, .ref r1, .ref r2]) hr3
      exact ⟨_, Sub.refl _, h c qs1 qs2 r3 _ (fun b o nb e => s7 _ _ (s6 _ _ (s5 _ _ (c4 b o nb e)))) ⟨r1, r2, put_same, s7 _ _ (s6 _ _ e5), s7 _ _ e6, hc1, gp g1 q1, gp g2 q2, by rw [q2.length_eq]; exact l6⟩⟩
    · rintro D i σ H4 hi ⟨zv, zu, zd, ts, bs, ys, rfl, ⟨c4, c5, c6, c7, c8, c9⟩, g1, g2, l6⟩ kk
      refine ⟨trivial, ?_⟩
      walk_at "rd"
      have ht := DM.tri_le i (by omega)
      refine ⟨⟨by omega, by omega⟩, ?_⟩
      rw [Int.toNat_natCast]
      refine for_rngD (fun j σ H5 => ∃ zu zd ts bs, ∃ ys : List Int, σ = [some (.ref p), some (.int 1), some (.int 4), some (.int c), some (.ref p1), some (.ref p2), some (.int (i : Nat)), zu, zd] ∧ (Cg H H5 p ∧ H5 p = some (.lst (ys.map PV.int)) ∧ Nn ys ∧ ys.length + 1 + (DM.tri i + j) = xs.length ∧ H5 p1 = some (.lst (ts.map prV)) ∧ H5 p2 = some (.lst (bs.map prV))) ∧ GJ (i : Nat) (j : Nat) ts ∧ GJ (i : Nat) (j : Nat) bs ∧ bs.length ≤ 6) ?_ ?_ ⟨_, _, ts, bs, ys, rfl, ⟨c4, c5, c6, by omega, c8, c9⟩, GJ.of g1, GJ.of g2, l6⟩
      · rintro σ H5 ⟨zu, zd, ts, bs, ys, rfl, hH, a1, a2, l6⟩
        exact ⟨trivial, kk _ _ ⟨_, _, _, ts, bs, ys, rfl, by obtain ⟨q1, q2, q3, q4, q5⟩ := hH; exact ⟨q1, q2, q3, by rw [show DM.tri (i + 1) = DM.tri i + i from rfl]; omega, q5⟩, a1.good, a2.good, l6⟩⟩
      · rintro D' j σ H5 hj ⟨zu, zd, ts, bs, ys, rfl, ⟨c4, c5, c6, c7, c8, c9⟩, a1, a2, l6⟩ kk'
        refine ⟨trivial, ?_⟩
        have t15 : ts.length ≤ 15 := (show DM.Good ((i : Nat) + 1 : Int) ts from ⟨a1.nd, fun p hp => by have := a1.lo p hp; omega⟩).len (by omega)
        rw [Int.zero_add]
        obtain ⟨y1, ev1, hv1, dl1, dn1, ds1⟩ := pop_int (xs := ys) (by omega)
        have nx1 : Nn ys.dropLast := fun x hx => c6 x (ds1 x hx)
        simp only [vName, List.set_cons_zero, List.set_cons_succ]
        refine seq_abs fun R2 hR2 => ?_
        walk_at "rd"
        refine ⟨_, _, c5, ev1, ?_⟩
        rw [dl1]
        have cg6 : Cg H (put H5 p (.lst (ys.dropLast.map PV.int))) p := fun b o nb e => (put_ne nb).trans (c4 b o nb e)
        have e6 : put H5 p (.lst (ys.dropLast.map PV.int)) p = some (.lst (ys.dropLast.map PV.int)) := put_same
        have c8' := (put_ne (o := .lst (ys.dropLast.map PV.int)) n1.symm).trans c8
        have c9' := (put_ne (o := .lst (ys.dropLast.map PV.int)) n2.symm).trans c9
        generalize put H5 p (.lst (ys.dropLast.map PV.int)) = H6 at *
        subst hR2
        refine seq_abs fun R2 hR2 => ?_
        have last : ∀ ts' bs' H7, Cg H H7 p → H7 p = some (.lst (ys.dropLast.map PV.int)) → H7 p1 = some (.lst (ts'.map prV)) → H7 p2 = some (.lst (bs'.map prV)) → GJ (i : Nat) ((j : Nat) + 1 : Int) ts' → GJ (i : Nat) ((j : Nat) + 1 : Int) bs' → bs'.length ≤ 6 → D'.nx [some (.ref p), some (.int 1), some (.int 4), some (.int c), some (.ref p1), some (.ref p2), some (.int (i : Nat)), some (.int (j : Nat)), some (.int y1)] H7 := fun ts' bs' H7 k1 k2 k3 k4 k5 k6 k7 => kk' _ _ ⟨_, _, ts', bs', ys.dropLast, rfl, ⟨k1, k2, nx1, by omega, k3, k4⟩, k5, k6, k7⟩
        have second : ∀ (ts' : List P2) (H7 : PHp), Cg H H7 p → H7 p = some (.lst (ys.dropLast.map PV.int)) → H7 p1 = some (.lst (ts'.map prV)) → H7 p2 = some (.lst (bs.map prV)) → GJ (i : Nat) ((j : Nat) + 1 : Int) ts' → R2 D' [some (.ref p), some (.int 1), some (.int 4), some (.int c), some (.ref p1), some (.ref p2), some (.int (i : Nat)), some (.int (j : Nat)), some (.int y1)] H7 := fun ts' H7 k1 k2 k3 k4 k5 => by
          subst hR2
          walk_at "rd"
          refine ⟨cdvB (by decide) (by decide), by decide, cif_by (fun _ => ⟨_, k4, ?_⟩) fun _ => last ts' bs H7 k1 k2 k3 k4 k5 a2.up l6⟩
          by_cases h6 : bs.length < 6
          · refine cif_pos (by rw [List.length_map]; simp; omega) ⟨⟨_, k4⟩, small_size (by decide), _, k4, by rw [List.length_map, sizeLine_eq]; omega, ?_⟩
            refine last ts' (bs ++ [(((j : Nat) : Int), ((i : Nat) : Int))]) _ (fun b o nb e => (put_ne (ne_none e f2)).trans (k1 b o nb e)) ((put_ne n2).trans k2) ((put_ne n12).trans k3) ?_ k5 (a2.app (by omega) (by omega)) (by rw [List.length_append]; simp; omega)
            rw [put_same, List.map_append]; rfl
          · exact cif_neg (by rw [List.length_map]; simp; omega) (last ts' bs H7 k1 k2 k3 k4 k5 a2.up l6)
        walk_at "rd"
        refine ⟨by decide, cif_by (fun _ => ⟨⟨_, c8'⟩, small_size (by decide), _, c8', by rw [List.length_map, sizeLine_eq]; omega, ?_⟩) fun _ => second ts H6 cg6 e6 c8' c9' a1.up⟩
        refine second (ts ++ [(((j : Nat) : Int), ((i : Nat) : Int))]) _ (fun b o nb e => (put_ne (ne_none e f1)).trans (cg6 b o nb e)) ((put_ne n1).trans e6) ?_ ((put_ne n12.symm).trans c9') (a1.app (by omega) (by omega))
        rw [put_same, List.map_append]; rfl
  · exact h.elim

theorem G_law_shares_of (T : Tx w K mg t) : FnOk' P w K mg base CX0 2 t.a_law_shares_of t.d_law_shares_of ["_law_purse", "_law_count"] sp_shares := by
  refine okU (k := 1) T.F_law_shares_of sc_law_shares_of (fun vs H Q E h => by
    unfold sp_shares at h
    split at h
    · rfl
    · exact h.elim) (fun cdv A outer s H E B hr => ⟨_, (qss_cons (qs_set (i := 2) sc_law_shares_of.nd rfl (by first | exact Or.inl rfl | exact Or.inr rfl) (qe_lst qa_nil))
    (qss_cons (qs_for PassesOwn.never rfl (qi_range1 rfl T.b_range (qa_cons (qv 1) qa_nil)) (qg_name (i := 3) sc_law_shares_of.nd rfl (by first | exact Or.inl rfl | exact Or.inr rfl))
    (qss_one (qs_if (qt_cmp op_gt vr_gt (qe_mod (qe_bm0 PySem.F.slot_list_pop PySem.F.type_list_pop mt_pop vm_pop hl_pop (qv 0)) qe_int) qe_int (nomark _))
      (qss_one (qs_expr (qe_bm PySem.F.slot_list_append PySem.F.type_list_append mt_append vm_append (qv 2) (qa_cons (qe_tup (qa_cons qe_str (qa_cons (qe_tup (qa_cons qe_str (qa_cons (qe_tupR rfl rfl T.b_tuple rfl T.b_range boot_tuple (qe_add (qv 3) qe_int)) qa_nil))) (qa_cons (qe_tup (qa_cons qe_str (qa_cons (qe_tupR rfl rfl T.b_tuple rfl T.b_range boot_tuple (qv 3)) qa_nil))) qa_nil)))) qa_nil))))
      qss_nil)))
    (qss_cons (qs_set (i := 4) sc_law_shares_of.nd rfl (by first | exact Or.inl rfl | exact Or.inr rfl) (qe_call (G_law_product T) (hr.mono (by decide)) rfl T.g_law_product T.F_law_product.kp T.B_law_product (qa_cons (qe_cat (qv 2) (qe_lst (qa_cons (qe_tup (qa_cons qe_str (qa_cons (qe_tup qa_nil) qa_nil))) qa_nil))) qa_nil)))
    (qss_cons (qs_for PassesOwn.never rfl (qi_range1 rfl T.b_range (qa_cons (qe_mod (qe_bm0 PySem.F.slot_list_pop PySem.F.type_list_pop mt_pop vm_pop hl_pop (qv 0)) qe_int) qa_nil)) (qg_name (i := 5) sc_law_shares_of.nd rfl (by first | exact Or.inl rfl | exact Or.inr rfl))
    (qss_cons (qs_set (i := 6) sc_law_shares_of.nd rfl (by first | exact Or.inl rfl | exact Or.inr rfl) (qe_call (G_law_names_by T) (hr.mono (by decide)) rfl T.g_law_names_by T.F_law_names_by.kp T.B_law_names_by (qa_cons (qe_bm0 PySem.F.slot_list_pop PySem.F.type_list_pop mt_pop vm_pop hl_pop (qv 0)) (qa_cons (qv 1) qa_nil))))
      (qss_cons (qs_if (qt_cmp (op_neU hr.units) vr_eq (qv 6) (qe_tup qa_nil) (nomark _))
      (qss_one (qs_set (i := 4) sc_law_shares_of.nd rfl (by first | exact Or.inl rfl | exact Or.inr rfl) (qe_tup (qa_cons qe_str (qa_cons (qv 6) (qa_cons (qv 4) qa_nil))))))
      qss_nil)
      (qss_one (qs_if (qt_cmp (op_eqU hr.units) vr_eq (qe_mod (qe_bm0 PySem.F.slot_list_pop PySem.F.type_list_pop mt_pop vm_pop hl_pop (qv 0)) qe_int) qe_int (nomark _))
      (qss_one (qs_set (i := 4) sc_law_shares_of.nd rfl (by first | exact Or.inl rfl | exact Or.inr rfl) (qe_tup (qa_cons qe_str (qa_cons (qv 4) (qa_cons (qe_tup (qa_cons qe_str (qa_cons (qe_tupR rfl rfl T.b_tuple rfl T.b_range boot_tuple (qv 1)) (qa_cons (qv 4) qa_nil)))) qa_nil))))))
      qss_nil)))))
    (qss_one (qs_ret (qv 4))))))), ?_⟩)
  intro vs H Q E h
  unfold sp_shares at h
  split at h
  · rename_i p c
    obtain ⟨hc, xs, hp0, nx, x40, h⟩ := h
    refine seq_abs fun R hR => ?_
    walk_at "rd"
    refine ⟨small_size (by decide), fun p1 hp1 => ?_⟩
    have n1 : p ≠ p1 := ne_none hp0 hp1
    have s1 := (Sub.refl H).put (o := .lst []) hp1
    have e11 : put H p1 (.lst []) p1 = some (.lst (([] : List F).map fV)) := put_same
    generalize put H p1 (.lst []) = H1 at *
    subst hR
    refine seq_abs fun R hR => ?_
    walk_at "rd"
    refine ⟨⟨by omega, by omega⟩, ?_⟩
    refine for_rngD (fun i σ H4 => ∃ z1 z2 z3 z4 fs, ∃ ys : List Int, σ = [some (.ref p), some (.int c), some (.ref p1), z1, z2, z3, z4] ∧ Cg H H4 p ∧ H4 p = some (.lst (ys.map PV.int)) ∧ Nn ys ∧ ys.length + i = xs.length ∧ H4 p1 = some (.lst (fs.map fV)) ∧ fs.length ≤ i ∧ ∀ f ∈ fs, Ok f ∧ dp f ≤ 1 ∧ sz f ≤ 3) ?_ ?_ ⟨_, _, _, _, [], xs, rfl, fun b o nb e => s1 _ _ e, s1 _ _ hp0, nx, rfl, e11, Nat.le_refl _, fun f hf => (by cases hf)⟩
    · rintro σ H4 ⟨z1, z2, z3, z4, fs, ys, rfl, cg, ep, ny, ly, ef, lf, fok⟩
      refine ⟨trivial, ?_⟩
      subst hR
      refine seq_abs fun R hR => ?_
      walk_at "rd"
      subst hR
      refine seq_abs fun R hR => ?_
      walk_at "rd"
      refine ⟨small_size (by decide), small_size (by decide), small_size (by decide), fun p3 hp3 => ?_⟩
      have s5 := (Sub.refl H4).put (o := .lst [.tup [.str "seen", .tup []]]) hp3
      generalize put H4 p3 (.lst [.tup [.str "seen", .tup []]]) = H5 at *
      refine ⟨_, _, s5 _ _ ef, rfl, line_ge (by rw [List.length_map, List.length_singleton]; omega), fun p4 hp4 => ?_⟩
      have s6 := s5.put (o := .lst (fs.map fV ++ [.tup [.str "seen", .tup []]])) (s5.free hp4)
      generalize put H5 p4 (.lst (fs.map fV ++ [.tup [.str "seen", .tup []]])) = H6 at *
      refine ⟨fs ++ [.seen []], by rw [List.map_append]; rfl, by simp, by rw [List.length_append, List.length_singleton]; omega, fun f hf => ?_, fun g og dg sg => ?_⟩
      · rcases List.mem_append.mp hf with hf | hf
        · exact fok f hf
        · rw [List.mem_singleton.mp hf]; exact ⟨⟨.nil, fun x hx => (by cases hx)⟩, by simp [dp], by simp [sz]⟩
      rw [List.length_append, List.length_singleton] at dg sg
      have cgH : Cg H H6 p := fun b o nb e => s6 _ _ (cg b o nb e)
      have ep6 := s6 _ _ ep
      obtain ⟨y1, ev1, hv1, dl1, dn1, ds1⟩ := pop_int (xs := ys) (by omega)
      have nx1 : Nn ys.dropLast := fun x hx => ny x (ds1 x hx)
      subst hR
      refine seq_abs fun R hR => ?_
      walk_at "rd"
      refine ⟨_, _, ep6, ev1, ?_⟩
      rw [dl1]
      try walk_at "rd"
      have cg7 : Cg H (put H6 p (.lst (ys.dropLast.map PV.int))) p := fun b o nb e => (put_ne nb).trans (cgH b o nb e)
      have e7 : put H6 p (.lst (ys.dropLast.map PV.int)) p = some (.lst (ys.dropLast.map PV.int)) := put_same
      generalize put H6 p (.lst (ys.dropLast.map PV.int)) = H7 at *
      have m4 := fm (a := y1) (b := 4) (by decide)
      generalize y1.fmod 4 = m at *
      refine ⟨by decide, ⟨by omega, by omega⟩, ?_⟩
      refine for_rngD (fun i σ H8 => ∃ z1 z3 z4 g, ∃ zs : List Int, σ = [some (.ref p), some (.int c), some (.ref p1), z1, some (fV g), z3, z4] ∧ Cg H H8 p ∧ H8 p = some (.lst (zs.map PV.int)) ∧ Nn zs ∧ ys.dropLast.length ≤ zs.length + 2 * i ∧ Ok g ∧ dp g ≤ 5 + 3 * i ∧ sz g + 4 ≤ 24 * 2 ^ i) ?_ ?_ ⟨_, _, _, g, _, rfl, cg7, e7, nx1, Nat.le_refl _, og, by omega, by rw [Nat.pow_zero]; omega⟩
      · rintro σ H8 ⟨z1, z3, z4, g, zs, rfl, cg8, e8, nz, lz, og, dg, sg⟩
        refine ⟨trivial, ?_⟩
        have i3 : m.toNat ≤ 3 := by omega
        have p8 : 2 ^ m.toNat ≤ 2 ^ 3 := Nat.pow_le_pow_right (by decide) i3
        subst hR
        walk_at "rd"
        exact ⟨H8, Sub.refl _, h g H8 ⟨og, by omega, by omega⟩ cg8⟩
      · rintro D i σ H8 hi ⟨z1, z3, z4, g, zs, rfl, cg8, e8, nz, lz, og, dg, sg⟩ kk
        refine ⟨trivial, ?_⟩
        have i3 : i ≤ 2 := by omega
        obtain ⟨y2, ev2, hv2, dl2, dn2, ds2⟩ := pop_int (xs := zs) (by omega)
        have nx2 : Nn zs.dropLast := fun x hx => nz x (ds2 x hx)
        simp only [vName, List.set_cons_zero, List.set_cons_succ]
        refine seq_abs fun R2 hR2 => ?_
        walk_at "rd"
        refine ⟨_, _, e8, ev2, ?_⟩
        rw [dl2]
        try walk_at "rd"
        have cg9 : Cg H (put H8 p (.lst (zs.dropLast.map PV.int))) p := fun b o nb e => (put_ne nb).trans (cg8 b o nb e)
        have e9 : put H8 p (.lst (zs.dropLast.map PV.int)) p = some (.lst (zs.dropLast.map PV.int)) := put_same
        generalize put H8 p (.lst (zs.dropLast.map PV.int)) = H9 at *
        generalize zs.dropLast = z5 at *
        refine ⟨⟨nz _ hv2, by omega, by omega⟩, fun L nmL => ?_⟩
        subst hR2
        refine seq_abs fun R2 hR2 => ?_
        have nxt : ∀ g2, Ok g2 → dp g2 ≤ dp g + 1 → sz g2 ≤ sz g + 1 → R2 D [some (.ref p), some (.int c), some (.ref p1), z1, some (fV g2), some (.int (i : Nat)), some (.tup (L.map PV.int))] H9 := fun g2 og2 dg2 sg2 => by
          obtain ⟨y3, ev3, hv3, dl3, dn3, ds3⟩ := pop_int (xs := z5) (by omega)
          have nx3 : Nn z5.dropLast := fun x hx => nx2 x (ds3 x hx)
          subst hR2
          walk_at "rd"
          refine ⟨_, _, e9, ev3, ?_⟩
          rw [dl3]
          try walk_at "rd"
          have cg10 : Cg H (put H9 p (.lst (z5.dropLast.map PV.int))) p := fun b o nb e => (put_ne nb).trans (cg9 b o nb e)
          have e10 : put H9 p (.lst (z5.dropLast.map PV.int)) p = some (.lst (z5.dropLast.map PV.int)) := put_same
          generalize put H9 p (.lst (z5.dropLast.map PV.int)) = H10 at *
          rw [rng_ul]
          have pw : 24 * 2 ^ (i + 1) = 24 * 2 ^ i * 2 := by rw [Nat.pow_succ, ← Nat.mul_assoc]
          refine ⟨by decide, cif_by (fun _ => ⟨by omega, by omega, small_size (by decide), small_size (by decide), ?_⟩) fun _ => kk _ _ ⟨_, _, _, g2, _, rfl, cg10, e10, nx3, by omega, og2, by omega, by omega⟩⟩
          exact kk _ _ ⟨_, _, _, .over g2 (.sum (ulN c) g2), _, rfl, cg10, e10, nx3, by omega, ⟨og2, nm_ul (by omega), og2⟩, by simp only [dp]; omega, by simp only [sz]; omega⟩
        walk_at "rd"
        refine ⟨small_size (by decide), flatI, ?_⟩
        refine cif_by (fun _ => ⟨small_size (by decide), nxt (.sum L g) ⟨nmL, og⟩ (by simp only [dp]; omega) (by simp only [sz]; omega)⟩) fun _ => nxt g og (by omega) (by omega)
    · rintro D i σ H4 hi ⟨z1, z2, z3, z4, fs, ys, rfl, cg, ep, ny, ly, ef, lf, fok⟩ kk
      refine ⟨trivial, ?_⟩
      rw [Int.zero_add]
      obtain ⟨y1, ev1, hv1, dl1, dn1, ds1⟩ := pop_int (xs := ys) (by omega)
      have nx1 : Nn ys.dropLast := fun x hx => ny x (ds1 x hx)
      walk_at "rd"
      refine ⟨_, _, ep, ev1, ?_⟩
      rw [dl1]
      try walk_at "rd"
      have cg6 : Cg H (put H4 p (.lst (ys.dropLast.map PV.int))) p := fun b o nb e => (put_ne nb).trans (cg b o nb e)
      have e6 : put H4 p (.lst (ys.dropLast.map PV.int)) p = some (.lst (ys.dropLast.map PV.int)) := put_same
      have f6 := (put_ne (o := .lst (ys.dropLast.map PV.int)) n1.symm).trans ef
      generalize put H4 p (.lst (ys.dropLast.map PV.int)) = H6 at *
      rw [rng_ul, rng_ul]
      refine ⟨by decide, cif_by (fun _ => ⟨⟨_, f6⟩, by omega, by omega, small_size (by decide), by omega, by omega, small_size (by decide), small_size (by decide), _, f6, by rw [List.length_map, sizeLine_eq]; omega, ?_⟩) fun _ => kk _ _ ⟨_, _, _, _, fs, ys.dropLast, rfl, cg6, e6, nx1, by omega, f6, by omega, fok⟩⟩
      have ro := rowF_ok (i := (i : Int)) (by omega)
      refine kk _ _ ⟨_, _, _, _, fs ++ [rowF i], ys.dropLast, rfl, fun b o nb e => (put_ne (ne_none e hp1)).trans (cg6 b o nb e), (put_ne n1).trans e6, nx1, by omega, by rw [put_same, List.map_append]; rfl, by rw [List.length_append, List.length_singleton]; omega, fun f hf => ?_⟩
      rcases List.mem_append.mp hf with hf | hf
      · exact fok f hf
      · rw [List.mem_singleton.mp hf]; exact ro
  · exact h.elim

theorem G_law_like (T : Tx w K mg t) : FnOk' P w K mg base CX0 6 t.a_law_like t.d_law_like ["_law_purse", "_law_count", "_law_way"] sp_like := by
  refine okU (k := 5) T.F_law_like sc_law_like (fun vs H Q E h => by
    unfold sp_like at h
    split at h
    · rfl
    · exact h.elim) (fun cdv A outer s H E B hr => ⟨_, (qss_cons (qs_set (i := 3) sc_law_like.nd rfl (by first | exact Or.inl rfl | exact Or.inr rfl) (qe_call (G_law_names_by T) (hr.mono (by decide)) rfl T.g_law_names_by T.F_law_names_by.kp T.B_law_names_by (qa_cons (qe_bm0 PySem.F.slot_list_pop PySem.F.type_list_pop mt_pop vm_pop hl_pop (qv 0)) (qa_cons (qv 1) qa_nil))))
    (qss_cons (qs_set (i := 4) sc_law_like.nd rfl (by first | exact Or.inl rfl | exact Or.inr rfl) (qe_call (G_law_names_by T) (hr.mono (by decide)) rfl T.g_law_names_by T.F_law_names_by.kp T.B_law_names_by (qa_cons (qe_bm0 PySem.F.slot_list_pop PySem.F.type_list_pop mt_pop vm_pop hl_pop (qv 0)) (qa_cons (qv 1) qa_nil))))
    (qss_cons (qs_set (i := 5) sc_law_like.nd rfl (by first | exact Or.inl rfl | exact Or.inr rfl) (qe_callTy call_tuple_of vc_tuple rfl T.b_tuple boot_tuple (qa_cons (qe_comp (N2 := ["_law_name", "_law_small", "_law_some"]) (nt := 1) (js := [3, 4]) (cok (sc := defScope s_law_like) (by exact rfl) (by repeat (first | exact trivial | refine ⟨rfl, ?_⟩)) rfl (by rfl) (by decide +kernel) (by decide +kernel) (by rfl) (by decide +kernel) (by rfl) (by rfl)) rfl (qi_range1 rfl T.b_range (qa_cons (qv 1) qa_nil)) (fun s0 H0 fp ps => ⟨(qg_name (i := 0) (show List.Nodup (["_law_name", "_law_small", "_law_some"] : List Str) by decide +kernel) rfl (by first | exact Or.inl rfl | exact Or.inr rfl)), (qif_one (qt_bool (qw_or (qt_cmp (op_inU hr.units) vr_in (qv 0) (qv 1) (by with_unfolding_all rfl)) (qw_or1 (qt_cmp (op_inU hr.units) vr_in (qv 0) (qv 2) (by with_unfolding_all rfl)))))), (qv 0)⟩)) qa_nil)))
    (qss_cons (qs_set (i := 6) sc_law_like.nd rfl (by first | exact Or.inl rfl | exact Or.inr rfl) (qe_callTy call_tuple_of vc_tuple rfl T.b_tuple boot_tuple (qa_cons (qe_comp (N2 := ["_law_name", "_law_some", "_law_count", "_law_purse"]) (nt := 1) (js := [4, 1, 0]) (cok (sc := defScope s_law_like) (by exact rfl) (by repeat (first | exact trivial | refine ⟨rfl, ?_⟩)) rfl (by rfl) (by decide +kernel) (by decide +kernel) (by rfl) (by decide +kernel) (by rfl) (by rfl)) rfl (qi_range1 rfl T.b_range (qa_cons (qv 1) qa_nil)) (fun s0 H0 fp ps => ⟨(qg_name (i := 0) (show List.Nodup (["_law_name", "_law_some", "_law_count", "_law_purse"] : List Str) by decide +kernel) rfl (by first | exact Or.inl rfl | exact Or.inr rfl)), (qif_one (qt_bool (qw_or (qt_cmp (op_inU hr.units) vr_in (qv 0) (qv 1) (by with_unfolding_all rfl)) (qw_or1 (qt_cmp (op_eqU hr.units) vr_eq (qv 0) (qe_mod (qe_ix (qv 3) (qe_neg qe_int) (fun _ _ => rfl)) (qv 2)) (nomark _)))))), (qv 0)⟩)) qa_nil)))
    (qss_cons (qs_set (i := 7) sc_law_like.nd rfl (by first | exact Or.inl rfl | exact Or.inr rfl) (qe_call (fn_or ((G_law_grown T 2).mono (by decide)) (G_law_grown T 3)) (hr.mono (by decide)) rfl T.g_law_grown T.F_law_grown.kp T.B_law_grown (qa_cons (qv 0) (qa_cons (qv 1) (qa_cons qe_int qa_nil)))))
    (qss_cons (qs_set (i := 8) sc_law_like.nd rfl (by first | exact Or.inl rfl | exact Or.inr rfl) (qe_call (fn_or ((G_law_grown T 2).mono (by decide)) (G_law_grown T 3)) (hr.mono (by decide)) rfl T.g_law_grown T.F_law_grown.kp T.B_law_grown (qa_cons (qv 0) (qa_cons (qv 1) (qa_cons qe_int qa_nil)))))
    (qss_cons (qs_set (i := 9) sc_law_like.nd rfl (by first | exact Or.inl rfl | exact Or.inr rfl) (qe_mod (qe_bm0 PySem.F.slot_list_pop PySem.F.type_list_pop mt_pop vm_pop hl_pop (qv 0)) qe_int))
    (qss_cons (qs_if (qt_cmp (op_eqU hr.units) vr_eq (qv 9) qe_int (nomark _))
    (qss_cons (qs_set (i := 5) sc_law_like.nd rfl (by first | exact Or.inl rfl | exact Or.inr rfl) (qv 4))
      (qss_one (qs_set (i := 3) sc_law_like.nd rfl (by first | exact Or.inl rfl | exact Or.inr rfl) (qv 6))))
    qss_nil)
    (qss_cons (qs_if (qt_cmp (op_eqU hr.units) vr_eq (qv 3) (qe_tup qa_nil) (nomark _))
    (qss_cons (qs_set (i := 3) sc_law_like.nd rfl (by first | exact Or.inl rfl | exact Or.inr rfl) (qe_tup (qa_cons (qe_mod (qe_ix (qv 0) (qe_neg qe_int) (fun _ _ => rfl)) (qv 1)) qa_nil)))
      (qss_one (qs_set (i := 5) sc_law_like.nd rfl (by first | exact Or.inl rfl | exact Or.inr rfl) (qe_ix (qe_lst (qa_cons (qv 5) (qa_cons (qe_callTy call_tuple_of vc_tuple rfl T.b_tuple boot_tuple (qa_cons (qe_callB call_sortJ vc_sortJ rfl T.b_sorted boot_sorted (qa_cons (qe_catT (qv 5) (qv 3)) qa_nil)) qa_nil)) qa_nil))) (qe_callTy call_int1 vc_int rfl T.b_int boot_int (qa_cons (qe_cmp (op_notInU hr.units) vr_in (qe_ix (qv 3) qe_int (fun _ _ => rfl)) (qv 5) (by with_unfolding_all rfl)) qa_nil)) (fun _ _ => rfl)))))
    qss_nil)
    (qss_cons (qs_set (i := 10) sc_law_like.nd rfl (by first | exact Or.inl rfl | exact Or.inr rfl) (qe_callTy call_tuple_of vc_tuple rfl T.b_tuple boot_tuple (qa_cons (qe_comp (N2 := ["_law_name", "_law_small"]) (nt := 1) (js := [3]) (cok (sc := defScope s_law_like) (by exact rfl) (by repeat (first | exact trivial | refine ⟨rfl, ?_⟩)) rfl (by rfl) (by decide +kernel) (by decide +kernel) (by rfl) (by decide +kernel) (by rfl) (by rfl)) rfl (qi_seq (qv 5)) (fun s0 H0 fp ps => ⟨(qg_name (i := 0) (show List.Nodup (["_law_name", "_law_small"] : List Str) by decide +kernel) rfl (by first | exact Or.inl rfl | exact Or.inr rfl)), (qif_one (qt_cmp (op_notInU hr.units) vr_in (qv 0) (qv 1) (by with_unfolding_all rfl))), (qv 0)⟩)) qa_nil)))
    (qss_cons (qs_if (qt_cmp (op_eqU hr.units) vr_eq (qv 2) qe_int (nomark _))
    (qss_one (qs_ret (qe_tup (qa_cons qe_str (qa_cons (qv 3) (qa_cons (qe_tup (qa_cons qe_str (qa_cons (qv 5) qa_nil))) qa_nil))))))
    qss_nil)
    (qss_cons (qs_if (qt_cmp (op_eqU hr.units) vr_eq (qv 2) qe_int (nomark _))
    (qss_one (qs_ret (qe_tup (qa_cons qe_str (qa_cons (qv 3) (qa_cons (qe_tup (qa_cons qe_str (qa_cons (qe_tup (qa_cons qe_str (qa_cons (qv 5) qa_nil))) (qa_cons (qe_tup (qa_cons qe_str (qa_cons (qe_ix (qe_lst (qa_cons (qv 10) (qa_cons (qv 4) qa_nil))) (qe_callTy call_int1 vc_int rfl T.b_int boot_int (qa_cons (qe_cmp (op_eqU hr.units) vr_eq (qv 9) qe_int (nomark _)) qa_nil)) (fun _ _ => rfl)) qa_nil))) qa_nil)))) qa_nil))))))
    qss_nil)
    (qss_cons (qs_if (qt_cmp (op_eqU hr.units) vr_eq (qv 2) qe_int (nomark _))
    (qss_cons (qs_set (i := 11) sc_law_like.nd rfl (by first | exact Or.inl rfl | exact Or.inr rfl) (qe_lst (qa_cons (qe_tup (qa_cons qe_str (qa_cons (qe_tup (qa_cons qe_str qa_nil)) (qa_cons (qv 7) qa_nil)))) (qa_cons (qe_tup (qa_cons qe_str (qa_cons (qv 7) (qa_cons (qe_tup (qa_cons qe_str qa_nil)) qa_nil)))) (qa_cons (qe_tup (qa_cons qe_str (qa_cons (qv 7) (qa_cons (qe_tup (qa_cons qe_str qa_nil)) qa_nil)))) (qa_cons (qe_tup (qa_cons qe_str (qa_cons (qe_tup qa_nil) qa_nil))) qa_nil))))))
      (qss_one (qs_ret (qe_ix (qe_cat (qv 11) (qe_lst (qa_cons (qe_tup (qa_cons qe_str (qa_cons (qe_tup (qa_cons qe_str qa_nil)) (qa_cons (qv 7) qa_nil)))) (qa_cons (qe_tup (qa_cons qe_str (qa_cons (qe_tup (qa_cons qe_str qa_nil)) (qa_cons (qe_tup (qa_cons qe_str qa_nil)) qa_nil)))) qa_nil)))) (qe_mod (qe_bm0 PySem.F.slot_list_pop PySem.F.type_list_pop mt_pop vm_pop hl_pop (qv 0)) qe_int) (fun _ _ => rfl)))))
    qss_nil)
    (qss_cons (qs_if (qt_cmp (op_eqU hr.units) vr_eq (qv 2) qe_int (nomark _))
    (qss_one (qs_ret (qe_tup (qa_cons qe_str (qa_cons (qv 7) (qa_cons (qe_ix (qe_lst (qa_cons (qv 7) (qa_cons (qv 8) qa_nil))) (qe_callTy call_int1 vc_int rfl T.b_int boot_int (qa_cons (qe_cmp op_lt vr_lt (qv 9) qe_int (nomark _)) qa_nil)) (fun _ _ => rfl)) qa_nil))))))
    qss_nil)
    (qss_cons (qs_if (qt_cmp (op_eqU hr.units) vr_eq (qv 2) qe_int (nomark _))
    (qss_cons (qs_set (i := 12) sc_law_like.nd rfl (by first | exact Or.inl rfl | exact Or.inr rfl) (qe_ix (qe_lst (qa_cons (qv 8) (qa_cons (qv 7) qa_nil))) (qe_callTy call_int1 vc_int rfl T.b_int boot_int (qa_cons (qe_cmp (op_eqU hr.units) vr_eq (qv 9) qe_int (nomark _)) qa_nil)) (fun _ _ => rfl)))
      (qss_cons (qs_set (i := 13) sc_law_like.nd rfl (by first | exact Or.inl rfl | exact Or.inr rfl) (qe_tup (qa_cons qe_str (qa_cons (qv 7) (qa_cons (qv 8) qa_nil)))))
      (qss_one (qs_ret (qe_ix (qe_lst (qa_cons (qe_tup (qa_cons qe_str (qa_cons (qv 13) (qa_cons (qv 12) qa_nil)))) (qa_cons (qe_tup (qa_cons qe_str (qa_cons (qv 12) (qa_cons (qv 13) qa_nil)))) (qa_cons (qe_tup (qa_cons qe_str (qa_cons (qv 12) (qa_cons (qv 13) qa_nil)))) qa_nil)))) (qe_mod (qe_bm0 PySem.F.slot_list_pop PySem.F.type_list_pop mt_pop vm_pop hl_pop (qv 0)) qe_int) (fun _ _ => rfl))))))
    qss_nil)
    (qss_cons (qs_if (qt_cmp (op_eqU hr.units) vr_eq (qv 2) qe_int (nomark _))
    (qss_one (qs_ret (qe_tup (qa_cons qe_str (qa_cons (qv 3) (qa_cons (qe_tup (qa_cons qe_str (qa_cons (qe_ix (qe_lst (qa_cons (qv 7) (qa_cons (qe_tup (qa_cons qe_str (qa_cons (qv 10) qa_nil))) qa_nil))) (qe_callTy call_int1 vc_int rfl T.b_int boot_int (qa_cons (qe_cmp op_gt vr_gt (qv 9) qe_int (nomark _)) qa_nil)) (fun _ _ => rfl)) (qa_cons (qv 8) qa_nil)))) qa_nil))))))
    qss_nil)
    (qss_one (qs_ret (qe_tup (qa_cons qe_str (qa_cons (qe_tup (qa_cons qe_str (qa_cons (qv 5) qa_nil))) (qa_cons (qe_tup (qa_cons qe_str (qa_cons (qv 10) qa_nil))) qa_nil)))))))))))))))))))))), ?_⟩)
  intro vs H Q E h
  unfold sp_like at h
  split at h
  · rename_i p c w
    obtain ⟨hc, hw, xs, hp0, nx, x16, h⟩ := h
    obtain ⟨y1, ev1, hv1, dl1, dn1, ds1⟩ := pop_int (xs := xs) (by omega)
    have nx1 : Nn xs.dropLast := fun x hx => nx x (ds1 x hx)
    refine seq_abs fun R hR => ?_
    walk_at "rd"
    refine ⟨_, _, hp0, ev1, ?_⟩
    rw [dl1]
    try walk_at "rd"
    have cg1 : Cg H (put H p (.lst (xs.dropLast.map PV.int))) p := fun b o nb e => (put_ne nb).trans e
    have e1 : put H p (.lst (xs.dropLast.map PV.int)) p = some (.lst (xs.dropLast.map PV.int)) := put_same
    generalize put H p (.lst (xs.dropLast.map PV.int)) = H1 at *
    generalize xs.dropLast = x1 at *
    refine ⟨⟨nx _ hv1, by omega, by omega⟩, fun L1 nm1 => ?_⟩
    obtain ⟨y2, ev2, hv2, dl2, dn2, ds2⟩ := pop_int (xs := x1) (by omega)
    have nx2 : Nn x1.dropLast := fun x hx => nx1 x (ds2 x hx)
    subst hR
    refine seq_abs fun R hR => ?_
    walk_at "rd"
    refine ⟨_, _, e1, ev2, ?_⟩
    rw [dl2]
    try walk_at "rd"
    have cg2 : Cg H (put H1 p (.lst (x1.dropLast.map PV.int))) p := fun b o nb e => (put_ne nb).trans (cg1 b o nb e)
    have e2 : put H1 p (.lst (x1.dropLast.map PV.int)) p = some (.lst (x1.dropLast.map PV.int)) := put_same
    generalize put H1 p (.lst (x1.dropLast.map PV.int)) = H2 at *
    generalize x1.dropLast = x2 at *
    refine ⟨⟨nx1 _ hv2, by omega, by omega⟩, fun L2 nm2 => ?_⟩
    subst hR
    refine seq_abs fun R hR => ?_
    walk_at "rd"
    refine ⟨⟨by omega, by omega⟩, fun acc hacc => ?_⟩
    have lr : (rngL 0 c.toNat).length ≤ 1000 := by rw [rng_ul, List.length_map, ul_len]; omega
    refine comp_pure (fun y => y) (onI fun k => decide (k ∈ L1) || decide (k ∈ L2)) (fun σ => ∃ z, σ = [z, some (.tup (L1.map PV.int)), some (.tup (L2.map PV.int))]) lr (fun _ => trivial) ?_ ?_ ⟨_, rfl⟩
    · rintro y hy l σ R1 ⟨z, rfl⟩ hl kT kF
      rw [rng_ul] at hy
      obtain ⟨k, hk, rfl⟩ := List.mem_map.mp hy
      have e : onI (fun k => decide (k ∈ L1) || decide (k ∈ L2)) (PV.int k) = (decide (k ∈ L1) || decide (k ∈ L2)) := rfl
      rw [e] at kT kF
      walk_at "rd"
      refine ⟨flatI, ?_⟩
      rw [any_int, any_int]
      refine cif_bl (fun q => ⟨hl, by rw [put_put]; exact kT (by rw [q]; rfl) _ ⟨_, rfl⟩⟩) fun q => ⟨flatI, cif_bl (fun q2 => ⟨hl, by rw [put_put]; exact kT (by rw [q2, Bool.or_true]) _ ⟨_, rfl⟩⟩) fun q2 => kF (by rw [q, q2]; rfl) _ ⟨_, rfl⟩⟩
    rw [ul_fil]
    have nmB := ul_nm (c := c) (q := fun k => decide (k ∈ L1) || decide (k ∈ L2)) (by omega)
    generalize (ulN c).filter (fun k => decide (k ∈ L1) || decide (k ∈ L2)) = B1 at *
    have s3 := (Sub.refl H2).put (o := .lst (B1.map PV.int)) hacc
    rw [w_Sr]
    refine ⟨_, put_same, ?_⟩
    generalize put H2 acc (.lst (B1.map PV.int)) = H3 at *
    have e3 := s3 _ _ e2
    have cg3 : Cg H H3 p := fun b o nb e => s3 _ _ (cg2 b o nb e)
    obtain ⟨y3, ev3, hv3, dl3, dn3, ds3⟩ := pop_int (xs := x2) (by omega)
    have at3 : atI (x2.map PV.int) (-1) = some (.int y3) := atI_last ev3
    have m3 := fm (a := y3) (b := c) (by omega)
    subst hR
    refine seq_abs fun R hR => ?_
    walk_at "rd"
    refine ⟨⟨by omega, by omega⟩, fun acc2 hacc2 => ?_⟩
    refine comp_pure (fun y => y) (onI fun k => decide (k ∈ L2) || (k == y3.fmod c)) (fun σ => ∃ z, σ = [z, some (.tup (L2.map PV.int)), some (.int c), some (.ref p)]) lr (fun _ => trivial) ?_ ?_ ⟨_, rfl⟩
    · rintro y hy l σ R1 ⟨z, rfl⟩ hl kT kF
      rw [rng_ul] at hy
      obtain ⟨k, hk, rfl⟩ := List.mem_map.mp hy
      have e : onI (fun k => decide (k ∈ L2) || (k == y3.fmod c)) (PV.int k) = (decide (k ∈ L2) || (k == y3.fmod c)) := rfl
      rw [e] at kT kF
      walk_at "rd"
      refine ⟨flatI, ?_⟩
      rw [any_int]
      refine cif_bl (fun q => ⟨hl, by rw [put_put]; exact kT (by rw [q]; rfl) _ ⟨_, rfl⟩⟩) fun q => ⟨_, (put_ne (ne_none e3 hacc2)).trans e3, ?_⟩
      rw [at3]
      try walk_at "rd"
      refine ⟨by omega, cif_bl (fun q2 => ⟨hl, by rw [put_put]; exact kT (by rw [q2, Bool.or_true]) _ ⟨_, rfl⟩⟩) fun q2 => kF (by rw [q, q2]; rfl) _ ⟨_, rfl⟩⟩
    rw [ul_fil]
    have nmO := ul_nm (c := c) (q := fun k => decide (k ∈ L2) || (k == y3.fmod c)) (by omega)
    generalize (ulN c).filter (fun k => decide (k ∈ L2) || (k == y3.fmod c)) = O1 at *
    have s4 := (Sub.refl H3).put (o := .lst (O1.map PV.int)) hacc2
    rw [w_Sr]
    refine ⟨_, put_same, ?_⟩
    generalize put H3 acc2 (.lst (O1.map PV.int)) = H4 at *
    have e4 := s4 _ _ e3
    have cg4 : Cg H H4 p := fun b o nb e => s4 _ _ (cg3 b o nb e)
    have n2 : need 2 = 3 := rfl
    have n3 : need 3 = 7 := rfl
    subst hR
    refine seq_abs fun R hR => ?_
    walk_at "rd"
    refine .inr ⟨⟨by decide, by decide⟩, ⟨by omega, by omega⟩, x2, e4, nx2, by omega, fun fa x3 oka dpa sza nx3 l3 => ?_⟩
    have cg5 : Cg H (put H4 p (.lst (x3.map PV.int))) p := fun b o nb e => (put_ne nb).trans (cg4 b o nb e)
    have e5 : put H4 p (.lst (x3.map PV.int)) p = some (.lst (x3.map PV.int)) := put_same
    generalize put H4 p (.lst (x3.map PV.int)) = H5 at *
    subst hR
    refine seq_abs fun R hR => ?_
    walk_at "rd"
    refine .inl ⟨⟨by decide, by decide⟩, ⟨by omega, by omega⟩, x3, e5, nx3, by omega, fun fb x4 okb dpb szb nx4 l4 => ?_⟩
    have cg6 : Cg H (put H5 p (.lst (x4.map PV.int))) p := fun b o nb e => (put_ne nb).trans (cg5 b o nb e)
    have e6 : put H5 p (.lst (x4.map PV.int)) p = some (.lst (x4.map PV.int)) := put_same
    generalize put H5 p (.lst (x4.map PV.int)) = H6 at *
    obtain ⟨y5, ev5, hv5, dl5, dn5, ds5⟩ := pop_int (xs := x4) (by omega)
    have nx5 : Nn x4.dropLast := fun x hx => nx4 x (ds5 x hx)
    subst hR
    refine seq_abs fun R hR => ?_
    walk_at "rd"
    refine ⟨_, _, e6, ev5, ?_⟩
    rw [dl5]
    try walk_at "rd"
    have cg7 : Cg H (put H6 p (.lst (x4.dropLast.map PV.int))) p := fun b o nb e => (put_ne nb).trans (cg6 b o nb e)
    have e7 : put H6 p (.lst (x4.dropLast.map PV.int)) p = some (.lst (x4.dropLast.map PV.int)) := put_same
    generalize put H6 p (.lst (x4.dropLast.map PV.int)) = H7 at *
    generalize x4.dropLast = x5 at *
    have m5 := fm (a := y5) (b := 4) (by decide)
    generalize y5.fmod 4 = ex at *
    refine ⟨by decide, ?_⟩
    subst hR
    refine seq_abs fun R hR => ?_
    have go1 : ∀ S B, Nm S → Nm B → R { nx := fun x H => ∃ H3, U.Sub H3 H ∧ Q PV.non H3, rt := fun v H => ∃ H3, U.Sub H3 H ∧ Q v H3 } [some (.ref p), some (.int c), some (.int w), some (.tup (S.map PV.int)), some (.tup (L2.map PV.int)), some (.tup (B.map PV.int)), some (.tup (O1.map PV.int)), some (fV fa), some (fV fb), some (.int ex), none, none, none, none] H7 := fun S B nS nB => by
      subst hR
      refine seq_abs fun R hR => ?_
      have go2 : ∀ S B H8, Nm S → Nm B → U.Sub H7 H8 → R { nx := fun x H => ∃ H3, U.Sub H3 H ∧ Q PV.non H3, rt := fun v H => ∃ H3, U.Sub H3 H ∧ Q v H3 } [some (.ref p), some (.int c), some (.int w), some (.tup (S.map PV.int)), some (.tup (L2.map PV.int)), some (.tup (B.map PV.int)), some (.tup (O1.map PV.int)), some (fV fa), some (fV fb), some (.int ex), none, none, none, none] H8 := fun S B H8 nS nB s8 => by
        have e8 := s8 _ _ e7
        have cg8 : Cg H H8 p := fun b o nb e => s8 _ _ (cg7 b o nb e)
        clear nm1 e1 cg1 e2 cg2 e3 cg3 e4 cg4 e5 cg5 e6 cg6 s3 s4 hacc hacc2 ev1 ev2 ev3 ev5 at3 dl1 dl2 dl3 dl5
        subst hR
        refine seq_abs fun R hR => ?_
        walk_at "rd"
        intro acc hacc
        refine comp_pure (fun y => y) (onI fun y => !decide (y ∈ S)) (fun σ => ∃ z, σ = [z, some (.tup (S.map PV.int))]) (by rw [List.length_map]; have := nm_len nB; omega) (fun _ => trivial) ?_ ?_ ⟨_, rfl⟩
        · rintro y hy l σ R1 ⟨z, rfl⟩ hl kT kF
          obtain ⟨k, hk, rfl⟩ := List.mem_map.mp hy
          have e : onI (fun y => !decide (y ∈ S)) (PV.int k) = !decide (k ∈ S) := rfl
          rw [e] at kT kF
          walk_at "rd"
          refine ⟨flatI, ?_⟩
          rw [any_int]
          exact cif_bl (fun q => ⟨hl, by rw [put_put]; exact kT q _ ⟨_, rfl⟩⟩) fun q => kF q _ ⟨_, rfl⟩
        rw [show ((B.map PV.int).filter (onI fun y => !decide (y ∈ S))).map (fun y => y) = (les B S).map PV.int from ints_filter]
        have nmE : Nm (les B S) := les_nm nB
        have s9 := s8.put (o := .lst ((les B S).map PV.int)) (s8.free hacc)
        rw [w_Sr]
        refine ⟨_, put_same, ?_⟩
        generalize put H8 acc (.lst ((les B S).map PV.int)) = H9 at *
        have e9 := s9 _ _ e7
        have cg9 : Cg H H9 p := fun b o nb e => s9 _ _ (cg7 b o nb e)
        generalize les B S = E1 at *
        have fin : ∀ g H10, Ok g → dp g ≤ 4 → sz g ≤ 20 → U.Sub H9 H10 → ∃ H3, U.Sub H3 H10 ∧ Q (fV g) H3 := fun g H10 og dg sg s10 => ⟨H10, Sub.refl _, h g x5 H10 og dg sg nx5 (by omega) (fun b o nb e => s10 _ _ (cg9 b o nb e)) (s10 _ _ e9)⟩
        obtain ⟨y7, ev7, hv7, dl7, dn7, ds7⟩ := pop_int (xs := x5) (by omega)
        have nx7 : Nn x5.dropLast := fun x hx => nx5 x (ds7 x hx)
        have fin2 : ∀ g H10, Ok g → dp g ≤ 4 → sz g ≤ 20 → U.Sub H9 H10 → ∃ H3, U.Sub H3 (put H10 p (.lst (x5.dropLast.map PV.int))) ∧ Q (fV g) H3 := fun g H10 og dg sg s10 => ⟨_, Sub.refl _, h g x5.dropLast _ og dg sg nx7 (by omega) (fun b o nb e => (put_ne nb).trans (s10 _ _ (cg9 b o nb e))) put_same⟩
        subst hR
        refine seq_abs fun R hR => ?_
        walk_at "rd"
        refine cif_by (fun _ => ⟨small_size (by decide), small_size (by decide), fin (.sum S (.seen B)) H9 ⟨nS, nB⟩ (by simp [dp]) (by simp [sz]) (Sub.refl _)⟩) fun _ => ?_
        subst hR
        refine seq_abs fun R hR => ?_
        walk_at "rd"
        refine cif_by (fun _ => ⟨small_size (by decide), small_size (by decide), fun r hr => ?_⟩) fun _ => ?_
        · rw [at2B]
          cases (ex == 1)
          · exact ⟨small_size (by decide), small_size (by decide), small_size (by decide), fin (.sum S (.over (.seen B) (.seen E1))) _ ⟨nS, nB, nmE⟩ (by simp [dp]) (by simp [sz]) ((Sub.refl H9).put hr)⟩
          · exact ⟨small_size (by decide), small_size (by decide), small_size (by decide), fin (.sum S (.over (.seen B) (.seen L2))) _ ⟨nS, nB, nm2⟩ (by simp [dp]) (by simp [sz]) ((Sub.refl H9).put hr)⟩
        subst hR
        refine seq_abs fun R hR => ?_
        walk_at "rd"
        refine cif_by (fun _ => ?_) fun _ => ?_
        · refine ⟨small_size (by decide), small_size (by decide), small_size (by decide), small_size (by decide), small_size (by decide), small_size (by decide), small_size (by decide), small_size (by decide), small_size (by decide), fun r1 hr1 => ⟨small_size (by decide), small_size (by decide), small_size (by decide), small_size (by decide), small_size (by decide), small_size (by decide), fun r2 hr2 => ?_⟩⟩
          have s10 := (Sub.refl H9).put (o := .lst [.tup [.str "times", .tup [.str "one"], fV fa], .tup [.str "times", fV fa, .tup [.str "one"]], .tup [.str "over", fV fa, .tup [.str "one"]], .tup [.str "seen", .tup []]]) hr1
          have e10 : put H9 r1 (.lst [.tup [.str "times", .tup [.str "one"], fV fa], .tup [.str "times", fV fa, .tup [.str "one"]], .tup [.str "over", fV fa, .tup [.str "one"]], .tup [.str "seen", .tup []]]) r1 = some (.lst [.tup [.str "times", .tup [.str "one"], fV fa], .tup [.str "times", fV fa, .tup [.str "one"]], .tup [.str "over", fV fa, .tup [.str "one"]], .tup [.str "seen", .tup []]]) := put_same
          generalize put H9 r1 _ = H10 at *
          have s11 := s10.put (o := .lst [.tup [.str "over", .tup [.str "one"], fV fa], .tup [.str "times", .tup [.str "one"], .tup [.str "one"]]]) (s10.free hr2)
          have e11 := (put_ne (o := .lst [.tup [.str "over", .tup [.str "one"], fV fa], .tup [.str "times", .tup [.str "one"], .tup [.str "one"]]]) (ne_none e10 hr2)).trans e10
          generalize put H10 r2 _ = H11 at *
          refine ⟨_, _, e11, rfl, line_ge (by show 6 ≤ 100000; decide), fun r3 hr3 => ?_⟩
          have n3p : r3 ≠ p := (ne_none (s11 _ _ e9) hr3).symm
          rw [List.cons_append, List.cons_append, List.cons_append, List.cons_append, List.nil_append]
          have s12 := s11.put (o := .lst [.tup [.str "times", .tup [.str "one"], fV fa], .tup [.str "times", fV fa, .tup [.str "one"]], .tup [.str "over", fV fa, .tup [.str "one"]], .tup [.str "seen", .tup []], .tup [.str "over", .tup [.str "one"], fV fa], .tup [.str "times", .tup [.str "one"], .tup [.str "one"]]]) (s11.free hr3)
          have e12 : put H11 r3 (.lst [.tup [.str "times", .tup [.str "one"], fV fa], .tup [.str "times", fV fa, .tup [.str "one"]], .tup [.str "over", fV fa, .tup [.str "one"]], .tup [.str "seen", .tup []], .tup [.str "over", .tup [.str "one"], fV fa], .tup [.str "times", .tup [.str "one"], .tup [.str "one"]]]) r3 = some (.lst [.tup [.str "times", .tup [.str "one"], fV fa], .tup [.str "times", fV fa, .tup [.str "one"]], .tup [.str "over", fV fa, .tup [.str "one"]], .tup [.str "seen", .tup []], .tup [.str "over", .tup [.str "one"], fV fa], .tup [.str "times", .tup [.str "one"], .tup [.str "one"]]]) := put_same
          generalize put H11 r3 _ = H12 at *
          refine ⟨_, _, s12 _ _ e9, ev7, ?_⟩
          rw [dl7]
          have m7 := fm (a := y7) (b := 6) (by decide)
          refine ⟨by decide, _, (put_ne n3p).trans e12, ?_⟩
          generalize y7.fmod 6 = m at *
          have m7 : m = 0 ∨ m = 1 ∨ m = 2 ∨ m = 3 ∨ m = 4 ∨ m = 5 := by omega
          rcases m7 with rfl | rfl | rfl | rfl | rfl | rfl
          · exact fin2 (.times .one fa) H12 ⟨trivial, oka⟩ (by simp only [dp]; omega) (by simp only [sz]; omega) s12
          · exact fin2 (.times fa .one) H12 ⟨oka, trivial⟩ (by simp only [dp]; omega) (by simp only [sz]; omega) s12
          · exact fin2 (.over fa .one) H12 ⟨oka, trivial⟩ (by simp only [dp]; omega) (by simp only [sz]; omega) s12
          · exact fin2 (.seen []) H12 ⟨.nil, fun x hx => (by cases hx)⟩ (by simp only [dp]; omega) (by simp only [sz]; omega) s12
          · exact fin2 (.over .one fa) H12 ⟨trivial, oka⟩ (by simp only [dp]; omega) (by simp only [sz]; omega) s12
          · exact fin2 (.times .one .one) H12 ⟨trivial, trivial⟩ (by simp only [dp]; omega) (by simp only [sz]; omega) s12
        subst hR
        refine seq_abs fun R hR => ?_
        walk_at "rd"
        refine cif_by (fun _ => ⟨small_size (by decide), fun r hr => ?_⟩) fun _ => ?_
        · rw [at2B]
          cases (decide (ex < 2))
          · exact ⟨small_size (by decide), fin (.over fa fa) _ ⟨oka, oka⟩ (by simp only [dp]; omega) (by simp only [sz]; omega) ((Sub.refl H9).put hr)⟩
          · exact ⟨small_size (by decide), fin (.over fa fb) _ ⟨oka, okb⟩ (by simp only [dp]; omega) (by simp only [sz]; omega) ((Sub.refl H9).put hr)⟩
        subst hR
        refine seq_abs fun R hR => ?_
        walk_at "rd"
        refine cif_by (fun _ => ⟨small_size (by decide), fun r1 hr1 => ?_⟩) fun _ => ?_
        · have s10 := (Sub.refl H9).put (o := .lst [fV fb, fV fa]) hr1
          generalize put H9 r1 (.lst [fV fb, fV fa]) = H10 at *
          obtain ⟨fc, efc, okc, dpc, szc⟩ : ∃ fc, atI [fV fb, fV fa] (b2n (ex == 1)) = some (fV fc) ∧ Ok fc ∧ dp fc ≤ 2 ∧ sz fc ≤ 7 := by
            rw [at2B]
            cases (ex == 1)
            · exact ⟨fb, rfl, okb, by omega, by omega⟩
            · exact ⟨fa, rfl, oka, by omega, by omega⟩
          rw [efc]
          refine ⟨small_size (by decide), small_size (by decide), small_size (by decide), small_size (by decide), small_size (by decide), fun r2 hr2 => ?_⟩
          have s11 := s10.put (o := .lst [fV (.times (.over fa fb) fc), fV (.times fc (.over fa fb)), fV (.over fc (.over fa fb))]) (s10.free hr2)
          have e11 : put H10 r2 (.lst [fV (.times (.over fa fb) fc), fV (.times fc (.over fa fb)), fV (.over fc (.over fa fb))]) r2 = some (.lst [fV (.times (.over fa fb) fc), fV (.times fc (.over fa fb)), fV (.over fc (.over fa fb))]) := put_same
          simp only [fV] at s11 e11
          generalize put H10 r2 _ = H11 at *
          have n2p : r2 ≠ p := (ne_none (s10 _ _ e9) hr2).symm
          refine ⟨_, _, s11 _ _ e9, ev7, ?_⟩
          rw [dl7]
          have m7 := fm (a := y7) (b := 3) (by decide)
          refine ⟨by decide, _, (put_ne n2p).trans e11, ?_⟩
          generalize y7.fmod 3 = m at *
          have m7 : m = 0 ∨ m = 1 ∨ m = 2 := by omega
          rcases m7 with rfl | rfl | rfl
          · exact fin2 (.times (.over fa fb) fc) H11 ⟨⟨oka, okb⟩, okc⟩ (by simp only [dp]; omega) (by simp only [sz]; omega) s11
          · exact fin2 (.times fc (.over fa fb)) H11 ⟨okc, oka, okb⟩ (by simp only [dp]; omega) (by simp only [sz]; omega) s11
          · exact fin2 (.over fc (.over fa fb)) H11 ⟨okc, oka, okb⟩ (by simp only [dp]; omega) (by simp only [sz]; omega) s11
        subst hR
        refine seq_abs fun R hR => ?_
        walk_at "rd"
        refine cif_by (fun _ => ⟨small_size (by decide), small_size (by decide), fun r hr => ?_⟩) fun _ => ?_
        · rw [at2B]
          cases (decide (1 < ex))
          · exact ⟨small_size (by decide), small_size (by decide), fin (.sum S (.times fa fb)) _ ⟨nS, oka, okb⟩ (by simp only [dp]; omega) (by simp only [sz]; omega) ((Sub.refl H9).put hr)⟩
          · exact ⟨small_size (by decide), small_size (by decide), fin (.sum S (.times (.seen E1) fb)) _ ⟨nS, nmE, okb⟩ (by simp only [dp]; omega) (by simp only [sz]; omega) ((Sub.refl H9).put hr)⟩
        subst hR
        walk_at "rd"
        exact ⟨small_size (by decide), small_size (by decide), small_size (by decide), fin (.over (.seen B) (.seen E1)) H9 ⟨nB, nmE⟩ (by simp [dp]) (by simp [sz]) (Sub.refl _)⟩
      walk_at "rd"
      rw [deqs_nil]
      refine ⟨small_size (by decide), flatI, cif_bl (fun _ => ?_) fun _ => go2 S B H7 nS nB (Sub.refl _)⟩
      obtain ⟨y6, ev6, hv6, _, _, _⟩ := pop_int (xs := x5) (by omega)
      refine ⟨_, e7, ?_⟩
      rw [atI_last ev6]
      have m6 := fm (a := y6) (b := c) (by omega)
      try walk_at "rd"
      generalize y6.fmod c = k6 at *
      have lB := nm_len nB
      refine ⟨by omega, small_size (by decide), small_size (by rw [List.length_map]; omega), B ++ [k6], by rw [List.map_append]; rfl, by rw [List.length_append, List.length_singleton]; omega, fun r1 ms hr1 pm so => ⟨small_size (by decide), fun r2 hr2 => ⟨flatI, ?_⟩⟩⟩
      have s8 := (Sub.refl H7).put (o := .lst (ms.map PV.int)) hr1
      generalize put H7 r1 (.lst (ms.map PV.int)) = H8 at *
      have s9 := s8.put (o := .lst [.tup (B.map PV.int), .tup (ms.map PV.int)]) (s8.free hr2)
      generalize put H8 r2 (.lst [.tup (B.map PV.int), .tup (ms.map PV.int)]) = H9 at *
      rw [at2B, any_int]
      by_cases kin : k6 ∈ B
      · rw [decide_eq_true kin]
        exact go2 [k6] B H9 (nm_one ⟨m6.1, by omega⟩) nB s9
      · rw [decide_eq_false kin]
        exact go2 [k6] ms H9 (nm_one ⟨m6.1, by omega⟩) (sort_nm nB ⟨m6.1, by omega⟩ kin pm so) s9
    walk_at "rd"
    refine cif_by (fun _ => go1 O1 L2 nmO nm2) fun _ => go1 L1 B1 nm1 nmB
  · exact h.elim

theorem G_law_any_formula (T : Tx w K mg t) : FnOk' P w K mg base CX0 64 t.a_law_any_formula t.d_law_any_formula ["_law_script", "_law_shape"] sp_anyf := by
  refine okU (k := 63) T.F_law_any_formula sc_law_any_formula (fun vs H Q E h => by
    unfold sp_anyf at h
    split at h
    · rfl
    · exact h.elim) (fun cdv A outer s H E B hr => ⟨_, (qss_cons (qs_set (i := 2) sc_law_any_formula.nd rfl (by first | exact Or.inl rfl | exact Or.inr rfl) (qe_call (G_law_digits T) (hr.mono (by decide)) rfl T.g_law_digits T.F_law_digits.kp T.B_law_digits (qa_cons (qv 0) (qa_cons qe_int (qa_cons qe_int qa_nil)))))
    (qss_cons (qs_set (i := 3) sc_law_any_formula.nd rfl (by first | exact Or.inl rfl | exact Or.inr rfl) (qe_call (G_law_grown T 5) (hr.mono (by decide)) rfl T.g_law_grown T.F_law_grown.kp T.B_law_grown (qa_cons (qv 2) (qa_cons (qe_ix (qv 1) qe_int (fun _ _ => rfl)) (qa_cons qe_int qa_nil)))))
    (qss_cons (qs_for PassesOwn.never rfl (qi_range1 rfl T.b_range (qa_cons qe_int qa_nil)) (qg_name (i := 4) sc_law_any_formula.nd rfl (by first | exact Or.inl rfl | exact Or.inr rfl))
    (qss_cons (qs_set (i := 5) sc_law_any_formula.nd rfl (by first | exact Or.inl rfl | exact Or.inr rfl) (qe_call (G_spots T 52) (hr.mono (by decide)) rfl T.g_law_spots T.F_law_spots.kp T.B_law_spots (qa_cons (qv 3) qa_nil)))
      (qss_cons (qs_set (i := 6) sc_law_any_formula.nd rfl (by first | exact Or.inl rfl | exact Or.inr rfl) (qe_ix (qv 5) (qe_mod (qe_bm0 PySem.F.slot_list_pop PySem.F.type_list_pop mt_pop vm_pop hl_pop (qv 2)) (qe_callB call_len_seq vc_len rfl T.b_len PySem.boot_len (qa_cons (qv 5) qa_nil))) (fun _ _ => rfl)))
      (qss_one (qs_set (i := 3) sc_law_any_formula.nd rfl (by first | exact Or.inl rfl | exact Or.inr rfl) (qe_call (G_lput T 60) (hr.mono (by decide)) rfl T.g_law_put T.F_law_put.kp T.B_law_put (qa_cons (qv 3) (qa_cons (qv 6) (qa_cons (qe_call (G_law_like T) (hr.mono (by decide)) rfl T.g_law_like T.F_law_like.kp T.B_law_like (qa_cons (qv 2) (qa_cons (qe_ix (qv 1) qe_int (fun _ _ => rfl)) (qa_cons (qe_mod (qe_bm0 PySem.F.slot_list_pop PySem.F.type_list_pop mt_pop vm_pop hl_pop (qv 2)) qe_int) qa_nil)))) qa_nil)))))))))
    (qss_one (qs_ret (qv 3)))))), ?_⟩)
  intro vs H Q E h
  unfold sp_anyf at h
  split at h
  · rename_i l r
    obtain ⟨ns, c, ts, bs, rfl, shp, h⟩ := h
    have shp0 := shp
    obtain ⟨r1, r2, hr0, hr1, hr2, hc, _⟩ := shp
    refine seq_abs fun R hR => ?_
    walk_at "rd"
    refine ⟨.inl trivial, ⟨by decide, by decide⟩, ns, rfl, fun p xs hp lx nx => ?_⟩
    have s1 := (Sub.refl H).put (o := .lst (xs.map PV.int)) hp
    have e1 : put H p (.lst (xs.map PV.int)) p = some (.lst (xs.map PV.int)) := put_same
    generalize put H p (.lst (xs.map PV.int)) = H1 at *
    subst hR
    refine seq_abs fun R hR => ?_
    walk_at "rd"
    have n5 : need 5 = 31 := rfl
    refine ⟨_, s1 _ _ hr0, ?_⟩
    try walk_at "rd"
    refine ⟨⟨by decide, by decide⟩, ⟨by omega, by omega⟩, xs, e1, nx, by omega, fun f x1 okf dpf szf nx1 l1 => ?_⟩
    have nrp : r ≠ p := ne_none hr0 hp
    have cg2 : Cg H (put H1 p (.lst (x1.map PV.int))) p := fun b o nb e => (put_ne nb).trans (s1 _ _ e)
    have e2 : put H1 p (.lst (x1.map PV.int)) p = some (.lst (x1.map PV.int)) := put_same
    generalize put H1 p (.lst (x1.map PV.int)) = H2 at *
    subst hR
    refine seq_abs fun R hR => ?_
    walk_at "rd"
    refine ⟨⟨by decide, by decide⟩, ?_⟩
    refine for_rngD (fun i σ H4 => ∃ z4 z5 z6 g, ∃ ys : List Int, σ = [some (.fls (ns.map PV.int)), some (.ref r), some (.ref p), some (fV g), z4, z5, z6] ∧ Cg H H4 p ∧ H4 p = some (.lst (ys.map PV.int)) ∧ Nn ys ∧ x1.length ≤ ys.length + 16 * i ∧ Ok g ∧ dp g ≤ 4 + 4 * i ∧ sz g ≤ 31 + 20 * i) ?_ ?_ ⟨_, _, _, f, x1, rfl, cg2, e2, nx1, by omega, okf, by omega, by omega⟩
    · rintro σ H4 ⟨z4, z5, z6, g, ys, rfl, cg4, e4, ny, ly, og, dg, sg⟩
      refine ⟨trivial, ?_⟩
      have t2 : (2 : Int).toNat = 2 := rfl
      rw [t2] at dg sg
      subst hR
      walk_at "rd"
      exact ⟨H4, Sub.refl _, h g H4 ⟨og, by omega, by omega⟩ fun b o e => cg4 b o (ne_none e hp) e⟩
    · rintro D i σ H4 hi ⟨z4, z5, z6, g, ys, rfl, cg4, e4, ny, ly, og, dg, sg⟩ kk
      refine ⟨trivial, ?_⟩
      have i1 : i ≤ 1 := by have t2 : (2 : Int).toNat = 2 := rfl; omega
      have gg : Gd g := ⟨og, by omega, by omega⟩
      simp only [vName, List.set_cons_zero, List.set_cons_succ]
      refine seq_abs fun R2 hR2 => ?_
      walk_at "rd"
      refine ⟨g, rfl, by omega, gg, fun qs p5 H5 pls s5 hp5 e5 => ?_⟩
      have e45 := s5 _ _ e4
      have cg5 : Cg H H5 p := fun b o nb e => s5 _ _ (cg4 b o nb e)
      have n5p : p5 ≠ p := (ne_none e4 hp5).symm
      obtain ⟨y1, ev1, hv1, dl1, dn1, ds1⟩ := pop_int (xs := ys) (by omega)
      have ny1 : Nn ys.dropLast := fun x hx => ny x (ds1 x hx)
      subst hR2
      refine seq_abs fun R2 hR2 => ?_
      walk_at "rd"
      refine ⟨_, _, e45, ev1, ?_⟩
      rw [dl1]
      have cg6 : Cg H (put H5 p (.lst (ys.dropLast.map PV.int))) p := fun b o nb e => (put_ne nb).trans (cg5 b o nb e)
      have e6 : put H5 p (.lst (ys.dropLast.map PV.int)) p = some (.lst (ys.dropLast.map PV.int)) := put_same
      have e56 := (put_ne (o := .lst (ys.dropLast.map PV.int)) n5p).trans e5
      generalize put H5 p (.lst (ys.dropLast.map PV.int)) = H6 at *
      generalize ys.dropLast = y2 at *
      have q1 : 1 ≤ qs.length := by
        cases z : qs with
        | nil => exact absurd z pls.1
        | cons a l => simp
      refine ⟨_, e56, ?_⟩
      rw [List.length_map]
      have m1 := fm (a := y1) (b := (qs.length : Int)) (by omega)
      try walk_at "rd"
      refine ⟨by omega, _, e56, ?_⟩
      obtain ⟨q, hq, eq⟩ : ∃ q ∈ qs, atI (qs.map tI) (y1.fmod (qs.length : Int)) = some (tI q) := by
        obtain ⟨k, hk⟩ := Int.eq_ofNat_of_zero_le m1.1
        rw [hk] at m1 ⊢
        have kl : k < qs.length := by omega
        exact ⟨qs[k], List.getElem_mem kl, by rw [atI_at (by rw [List.length_map]; exact kl), List.getElem_map]⟩
      rw [eq]
      obtain ⟨lq, ga, ega⟩ := pls.2.2 q hq
      show R2 _ _ H6
      subst hR2
      have tq : tI q = .tup (q.map PV.int) := rfl
      rw [tq]
      walk_at "rd"
      refine ⟨_, cg6 _ _ nrp hr0, ?_⟩
      rw [show atI [PV.int c, .ref r1, .ref r2] 0 = some (.int c) from rfl]
      obtain ⟨y3, ev3, hv3, dl3, dn3, ds3⟩ := pop_int (xs := y2) (by omega)
      have ny3 : Nn y2.dropLast := fun x hx => ny1 x (ds3 x hx)
      refine ⟨_, _, e6, ev3, ?_⟩
      rw [dl3]
      have m3 := fm (a := y3) (b := 7) (by decide)
      try walk_at "rd"
      have cg7 : Cg H (put H6 p (.lst (y2.dropLast.map PV.int))) p := fun b o nb e => (put_ne nb).trans (cg6 b o nb e)
      have e7 : put H6 p (.lst (y2.dropLast.map PV.int)) p = some (.lst (y2.dropLast.map PV.int)) := put_same
      generalize put H6 p (.lst (y2.dropLast.map PV.int)) = H7 at *
      refine ⟨by decide, hc, ⟨m3.1, by omega⟩, y2.dropLast, rfl, ny3, by omega, fun g2 y4 H8 og2 dg2 sg2 ny4 l4 cg8 e8 => ⟨g, g2, ga, q, rfl, rfl, rfl, ega, by omega, by omega, ?_⟩⟩
      obtain ⟨o1, o2, o3, _⟩ := FM.pt_ok (g := g2) ega
      exact kk _ _ ⟨_, _, _, pt g q g2, y4, rfl, fun b o nb e => cg8 b o nb (cg7 b o nb e), e8, ny4, by omega, (o1 og).2 og2, by omega, by omega⟩
  · exact h.elim

theorem G_law (T : Tx w K mg t) : FnOk' P w K mg base CX0 66 t.a_law t.d_law ["_law_script"] spL := by
  refine okU (k := 65) T.F_law sc_law (fun vs H Q E h => by
    unfold spL at h
    split at h
    · rfl
    · exact h.elim) (fun cdv A outer s H E B hr => ⟨_, (qss_cons (qs_set (i := 1) sc_law.nd rfl (by first | exact Or.inl rfl | exact Or.inr rfl) (qe_call (G_law_shape_by T) (hr.mono (by decide)) rfl T.g_law_shape_by T.F_law_shape_by.kp T.B_law_shape_by (qa_cons (qe_call (G_law_digits T) (hr.mono (by decide)) rfl T.g_law_digits T.F_law_digits.kp T.B_law_digits (qa_cons (qv 0) (qa_cons qe_int (qa_cons qe_int qa_nil)))) (qa_cons qe_int (qa_cons qe_int qa_nil)))))
    (qss_cons (qs_set (i := 2) sc_law.nd rfl (by first | exact Or.inl rfl | exact Or.inr rfl) (qe_call (G_law_any_formula T) (hr.mono (by decide)) rfl T.g_law_any_formula T.F_law_any_formula.kp T.B_law_any_formula (qa_cons (qv 0) (qa_cons (qv 1) qa_nil))))
    (qss_cons (qs_if (qt_cmp (op_eqU hr.units) vr_eq (qe_mod (qe_call (G_law_cell_at T) (hr.mono (by decide)) rfl T.g_law_cell_at T.F_law_cell_at.kp T.B_law_cell_at (qa_cons (qv 0) (qa_cons qe_int qa_nil))) qe_int) qe_int (nomark _))
    (qss_one (qs_set (i := 2) sc_law.nd rfl (by first | exact Or.inl rfl | exact Or.inr rfl) (qe_call (G_law_shares_of T) (hr.mono (by decide)) rfl T.g_law_shares_of T.F_law_shares_of.kp T.B_law_shares_of (qa_cons (qe_call (G_law_digits T) (hr.mono (by decide)) rfl T.g_law_digits T.F_law_digits.kp T.B_law_digits (qa_cons (qv 0) (qa_cons qe_int (qa_cons qe_int qa_nil)))) (qa_cons (qe_ix (qv 1) qe_int (fun _ _ => rfl)) qa_nil)))))
    qss_nil)
    (qss_cons (qs_set (i := 3) sc_law.nd rfl (by first | exact Or.inl rfl | exact Or.inr rfl) (qe_make T.mk_Drawing (G_Drawing_init T) (hr.mono (by decide)) rfl T.g_Drawing T.B_Drawing_init (qa_cons (qe_ix (qv 1) qe_int (fun _ _ => rfl)) (qa_cons (qe_ix (qv 1) qe_int (fun _ _ => rfl)) (qa_cons (qe_ix (qv 1) qe_int (fun _ _ => rfl)) qa_nil)))))
    (qss_cons (qs_set (i := 4) sc_law.nd rfl (by first | exact Or.inl rfl | exact Or.inr rfl) (qe_call (G_thinned T) (hr.mono (by decide)) rfl T.g_thinned T.F_thinned.kp T.B_thinned (qa_cons (qv 3) (qa_cons (qv 2) qa_nil))))
    (qss_cons (qs_if (qt_not (qt_val (qe_call (G_law_told_right T) (hr.mono (by decide)) rfl T.g_law_told_right T.F_law_told_right.kp T.B_law_told_right (qa_cons (qv 1) (qa_cons (qv 2) (qa_cons (qv 4) qa_nil))))))
    (qss_one (qs_ret qe_bl))
    qss_nil)
    (qss_cons (qs_expr (qe_bm0 PySem.F.slot_list_clear PySem.F.type_list_clear mt_clear vm_clear hl_clear (qe_ix (qv 4) qe_int (fun _ _ => rfl))))
    (qss_one (qs_ret (qe_call (G_law_told_right T) (hr.mono (by decide)) rfl T.g_law_told_right T.F_law_told_right.kp T.B_law_told_right (qa_cons (qv 1) (qa_cons (qv 2) (qa_cons (qe_call (G_thinned T) (hr.mono (by decide)) rfl T.g_thinned T.F_thinned.kp T.B_thinned (qa_cons (qv 3) (qa_cons (qv 2) qa_nil))) qa_nil))))))))))))), ?_⟩)
  intro vs H Q E h
  unfold spL at h
  split at h
  · rename_i l
    obtain ⟨sc, rfl, hl, h⟩ := h
    refine seq_abs fun R hR => ?_
    walk_at "rd"
    refine ⟨.inl trivial, ⟨by decide, by decide⟩, sc, rfl, fun p xs hp lx nx => ?_⟩
    have s1 := (Sub.refl H).put (o := .lst (xs.map PV.int)) hp
    have e1 : put H p (.lst (xs.map PV.int)) p = some (.lst (xs.map PV.int)) := put_same
    generalize put H p (.lst (xs.map PV.int)) = H1 at *
    refine ⟨xs, rfl, nx, by omega, fun c ts bs r H2 cg2 shp => ?_⟩
    have s2 : U.Sub H H2 := fun b o e => cg2 b o (ne_none e hp) (s1 _ _ e)
    subst hR
    refine seq_abs fun R hR => ?_
    walk_at "rd"
    refine ⟨sc, c, ts, bs, rfl, shp, fun f1 H3 gd1 s3 => ?_⟩
    have shp := shp.up s3
    have s3 := s2.trans s3
    subst hR
    refine seq_abs fun R hR => ?_
    have go : ∀ f H4, Gd f → U.Sub H3 H4 → R { nx := fun x H => ∃ H3, U.Sub H3 H ∧ Q PV.non H3, rt := fun v H => ∃ H3, U.Sub H3 H ∧ Q v H3 } [some (.fls (sc.map PV.int)), some (.ref r), some (fV f), none, none] H4 := fun f H4 gd s4 => by
      have shp := shp.up s4
      have sH := s3.trans s4
      obtain ⟨r1, r2, hr0, hr1, hr2, hc, gt, gb, l6⟩ := shp
      subst hR
      refine seq_abs fun R hR => ?_
      walk_at "rd"
      refine ⟨_, hr0, ?_⟩
      rw [show atI [PV.int c, .ref r1, .ref r2] 0 = some (.int c) from rfl]
      refine ⟨_, hr0, ?_⟩
      rw [show atI [PV.int c, .ref r1, .ref r2] 1 = some (.ref r1) from rfl]
      refine ⟨_, hr0, ?_⟩
      rw [show atI [PV.int c, .ref r1, .ref r2] 2 = some (.ref r2) from rfl]
      intro x dx hx hdx ne
      try walk_at "rd"
      have n1 := ne_none hr1 hx
      have n2 := ne_none hr2 hx
      refine ⟨dx, _, _, ts, bs, rfl, (put_ne n1).trans hr1, (put_ne n2).trans hr2, rows_prV, rows_prV, gt, gb, ⟨by omega, by omega, l6⟩, fun ts2 bs2 _ _ _ _ => ?_⟩
      rw [put_put]
      have s5 := (Sub.refl H4).put (o := .ins t.a_Drawing dx (DF c ts2 bs2)) hx
      generalize put H4 x (.ins t.a_Drawing dx (DF c ts2 bs2)) = H5 at *
      subst hR
      refine seq_abs fun R hR => ?_
      walk_at "rd"
      refine ⟨f, rfl, gd, fun g new a H6 td s6 ha ea => ?_⟩
      subst hR
      refine seq_abs fun R hR => ?_
      walk_at "rd"
      refine ⟨f, g, new, a, rfl, rfl, gd, ea, td, ?_⟩
      try walk_at "rd"
      subst hR
      refine seq_abs fun R hR => ?_
      walk_at "rd"
      have fa : H a = none := sH.free (s5.free ha)
      have s7 : U.Sub H (put H6 a (.lst [])) := fun b o e => (put_ne (ne_none e fa)).trans (s6 _ _ (s5 _ _ (sH _ _ e)))
      refine ⟨_, ea, ?_⟩
      generalize put H6 a (.lst []) = H7 at *
      subst hR
      walk_at "rd"
      refine ⟨f, rfl, gd, fun g2 new2 a2 H8 td2 s8 ha2 ea2 => ⟨f, g2, new2, a2, rfl, rfl, gd, ea2, td2, H, s7.trans s8, h⟩⟩
    walk_at "rd"
    refine ⟨⟨by decide, by decide⟩, sc, rfl, by decide, cif_by (fun _ => ⟨.inr trivial, ⟨by decide, by decide⟩, sc, rfl, fun p3 x3 hp3 lx3 nx3 => ?_⟩) fun _ => go f1 H3 gd1 (Sub.refl _)⟩
    have s4 := (Sub.refl H3).put (o := .lst (x3.map PV.int)) hp3
    have e4 : put H3 p3 (.lst (x3.map PV.int)) p3 = some (.lst (x3.map PV.int)) := put_same
    generalize put H3 p3 (.lst (x3.map PV.int)) = H4 at *
    obtain ⟨r1, r2, hr0, hr1, hr2, hc, gt, gb, l6⟩ := shp
    refine ⟨_, s4 _ _ hr0, ?_⟩
    rw [show atI [PV.int c, .ref r1, .ref r2] 0 = some (.int c) from rfl]
    try walk_at "rd"
    refine ⟨hc, x3, e4, nx3, by omega, fun g H5 gg cg5 => go g H5 gg fun b o e => cg5 b o (ne_none e hp3) (s4 _ _ e)⟩
  · exact h.elim

end
theorem lnb1 {fd : FuncData} {ps : List Str} (h : ∀ a, bindArgs fd ⟨[a], []⟩ = pure (List.zip ps [a])) (us : List Value) (hl : us.length = 1) : bindArgs fd ⟨us, []⟩ = pure (List.zip ps us) := len1 (P := fun us => bindArgs fd ⟨us, []⟩ = pure (List.zip ps us)) h us hl
theorem lnb2 {fd : FuncData} {ps : List Str} (h : ∀ a b, bindArgs fd ⟨[a, b], []⟩ = pure (List.zip ps [a, b])) (us : List Value) (hl : us.length = 2) : bindArgs fd ⟨us, []⟩ = pure (List.zip ps us) := len2 (P := fun us => bindArgs fd ⟨us, []⟩ = pure (List.zip ps us)) h us hl
theorem lnb3 {fd : FuncData} {ps : List Str} (h : ∀ a b c, bindArgs fd ⟨[a, b, c], []⟩ = pure (List.zip ps [a, b, c])) (us : List Value) (hl : us.length = 3) : bindArgs fd ⟨us, []⟩ = pure (List.zip ps us) := len3 (P := fun us => bindArgs fd ⟨us, []⟩ = pure (List.zip ps us)) h us hl
theorem lnb4 {fd : FuncData} {ps : List Str} (h : ∀ a b c d, bindArgs fd ⟨[a, b, c, d], []⟩ = pure (List.zip ps [a, b, c, d])) (us : List Value) (hl : us.length = 4) : bindArgs fd ⟨us, []⟩ = pure (List.zip ps us) := len4 (P := fun us => bindArgs fd ⟨us, []⟩ = pure (List.zip ps us)) h us hl
open PySem.W in
theorem txt_mk {w : World} {K : Frag} {h : Heap} {mg : Str → Option Value} {f_is_pair f_are_pairs f_without f_Drawing_init f_parts_of f_has_all f_is_share_given f_by_gather f_by_all f_by_one f_by_same f_is_over_by f_by_back f_with_part f_shorter_words f_Thinner_init f_Thinner_shorten f_Thinner_thin f_thinned f_law_cell_at f_law_digits f_law_names_by f_law_grown f_law_open f_law_shape_by f_law_product f_law_shares_of f_law_less f_law_plain f_law_spots f_law_part f_law_put f_law_thin f_law_like f_law_any_formula f_law_is_plain_thin f_law_told_right f_law k_Drawing k_Thinner k_ONE k_SH : Addr} (X : K.In h) (G : h.Ns mainGlobals mg)
    {d_is_pair d_are_pairs d_without d_Drawing_init d_parts_of d_has_all d_is_share_given d_by_gather d_by_all d_by_one d_by_same d_is_over_by d_by_back d_with_part d_shorter_words d_Thinner_init d_Thinner_shorten d_Thinner_thin d_thinned d_law_cell_at d_law_digits d_law_names_by d_law_grown d_law_open d_law_shape_by d_law_product d_law_shares_of d_law_less d_law_plain d_law_spots d_law_part d_law_put d_law_thin d_law_like d_law_any_formula d_law_is_plain_thin d_law_told_right d_law : FuncData}
    {tk_MOST_BOWS tk_MOST_NAMES tk_MOST_THINNINGS tk_1 tk_2 tk_3 tk_4 tk_5 tk_6 : Tok} {n_1 n_2 : Nat}
    (C_Drawing : nsIn K mainGlobals "Drawing" = some (some (.ref k_Drawing)))
    (C_Thinner : nsIn K mainGlobals "Thinner" = some (some (.ref k_Thinner)))
    (a_is_pair : nsIn K mainGlobals "is_pair" = some (some (.ref f_is_pair)))
    (l_is_pair : Fun K "is_pair" "is_pair" s_is_pair f_is_pair d_is_pair)
    (a_are_pairs : nsIn K mainGlobals "are_pairs" = some (some (.ref f_are_pairs)))
    (l_are_pairs : Fun K "are_pairs" "are_pairs" s_are_pairs f_are_pairs d_are_pairs)
    (a_without : nsIn K mainGlobals "without" = some (some (.ref f_without)))
    (l_without : Fun K "without" "without" s_without f_without d_without)
    (a_Drawing_init : findIn K (.ref k_Drawing) "__init__" = some (some (.ref f_Drawing_init)))
    (i_Drawing_init : isFn K (.ref f_Drawing_init) = true)
    (l_Drawing_init : Fun K "__init__" "Drawing.__init__" s_Drawing_init f_Drawing_init d_Drawing_init)
    (a_parts_of : nsIn K mainGlobals "parts_of" = some (some (.ref f_parts_of)))
    (l_parts_of : Fun K "parts_of" "parts_of" s_parts_of f_parts_of d_parts_of)
    (a_has_all : nsIn K mainGlobals "has_all" = some (some (.ref f_has_all)))
    (l_has_all : Fun K "has_all" "has_all" s_has_all f_has_all d_has_all)
    (a_is_share_given : nsIn K mainGlobals "is_share_given" = some (some (.ref f_is_share_given)))
    (l_is_share_given : Fun K "is_share_given" "is_share_given" s_is_share_given f_is_share_given d_is_share_given)
    (a_by_gather : nsIn K mainGlobals "by_gather" = some (some (.ref f_by_gather)))
    (l_by_gather : Fun K "by_gather" "by_gather" s_by_gather f_by_gather d_by_gather)
    (a_by_all : nsIn K mainGlobals "by_all" = some (some (.ref f_by_all)))
    (l_by_all : Fun K "by_all" "by_all" s_by_all f_by_all d_by_all)
    (a_by_one : nsIn K mainGlobals "by_one" = some (some (.ref f_by_one)))
    (l_by_one : Fun K "by_one" "by_one" s_by_one f_by_one d_by_one)
    (a_by_same : nsIn K mainGlobals "by_same" = some (some (.ref f_by_same)))
    (l_by_same : Fun K "by_same" "by_same" s_by_same f_by_same d_by_same)
    (a_is_over_by : nsIn K mainGlobals "is_over_by" = some (some (.ref f_is_over_by)))
    (l_is_over_by : Fun K "is_over_by" "is_over_by" s_is_over_by f_is_over_by d_is_over_by)
    (a_by_back : nsIn K mainGlobals "by_back" = some (some (.ref f_by_back)))
    (l_by_back : Fun K "by_back" "by_back" s_by_back f_by_back d_by_back)
    (a_with_part : nsIn K mainGlobals "with_part" = some (some (.ref f_with_part)))
    (l_with_part : Fun K "with_part" "with_part" s_with_part f_with_part d_with_part)
    (a_shorter_words : nsIn K mainGlobals "shorter_words" = some (some (.ref f_shorter_words)))
    (l_shorter_words : Fun K "shorter_words" "shorter_words" s_shorter_words f_shorter_words d_shorter_words)
    (a_Thinner_init : findIn K (.ref k_Thinner) "__init__" = some (some (.ref f_Thinner_init)))
    (i_Thinner_init : isFn K (.ref f_Thinner_init) = true)
    (l_Thinner_init : Fun K "__init__" "Thinner.__init__" s_Thinner_init f_Thinner_init d_Thinner_init)
    (a_Thinner_shorten : findIn K (.ref k_Thinner) "shorten" = some (some (.ref f_Thinner_shorten)))
    (i_Thinner_shorten : isFn K (.ref f_Thinner_shorten) = true)
    (l_Thinner_shorten : Fun K "shorten" "Thinner.shorten" s_Thinner_shorten f_Thinner_shorten d_Thinner_shorten)
    (a_Thinner_thin : findIn K (.ref k_Thinner) "thin" = some (some (.ref f_Thinner_thin)))
    (i_Thinner_thin : isFn K (.ref f_Thinner_thin) = true)
    (l_Thinner_thin : Fun K "thin" "Thinner.thin" s_Thinner_thin f_Thinner_thin d_Thinner_thin)
    (a_thinned : nsIn K mainGlobals "thinned" = some (some (.ref f_thinned)))
    (l_thinned : Fun K "thinned" "thinned" s_thinned f_thinned d_thinned)
    (a_law_cell_at : nsIn K mainGlobals "_law_cell_at" = some (some (.ref f_law_cell_at)))
    (l_law_cell_at : Fun K "_law_cell_at" "_law_cell_at" s_law_cell_at f_law_cell_at d_law_cell_at)
    (a_law_digits : nsIn K mainGlobals "_law_digits" = some (some (.ref f_law_digits)))
    (l_law_digits : Fun K "_law_digits" "_law_digits" s_law_digits f_law_digits d_law_digits)
    (a_law_names_by : nsIn K mainGlobals "_law_names_by" = some (some (.ref f_law_names_by)))
    (l_law_names_by : Fun K "_law_names_by" "_law_names_by" s_law_names_by f_law_names_by d_law_names_by)
    (a_law_grown : nsIn K mainGlobals "_law_grown" = some (some (.ref f_law_grown)))
    (l_law_grown : Fun K "_law_grown" "_law_grown" s_law_grown f_law_grown d_law_grown)
    (a_law_open : nsIn K mainGlobals "_law_open" = some (some (.ref f_law_open)))
    (l_law_open : Fun K "_law_open" "_law_open" s_law_open f_law_open d_law_open)
    (a_law_shape_by : nsIn K mainGlobals "_law_shape_by" = some (some (.ref f_law_shape_by)))
    (l_law_shape_by : Fun K "_law_shape_by" "_law_shape_by" s_law_shape_by f_law_shape_by d_law_shape_by)
    (a_law_product : nsIn K mainGlobals "_law_product" = some (some (.ref f_law_product)))
    (l_law_product : Fun K "_law_product" "_law_product" s_law_product f_law_product d_law_product)
    (a_law_shares_of : nsIn K mainGlobals "_law_shares_of" = some (some (.ref f_law_shares_of)))
    (l_law_shares_of : Fun K "_law_shares_of" "_law_shares_of" s_law_shares_of f_law_shares_of d_law_shares_of)
    (a_law_less : nsIn K mainGlobals "_law_less" = some (some (.ref f_law_less)))
    (l_law_less : Fun K "_law_less" "_law_less" s_law_less f_law_less d_law_less)
    (a_law_plain : nsIn K mainGlobals "_law_plain" = some (some (.ref f_law_plain)))
    (l_law_plain : Fun K "_law_plain" "_law_plain" s_law_plain f_law_plain d_law_plain)
    (a_law_spots : nsIn K mainGlobals "_law_spots" = some (some (.ref f_law_spots)))
    (l_law_spots : Fun K "_law_spots" "_law_spots" s_law_spots f_law_spots d_law_spots)
    (a_law_part : nsIn K mainGlobals "_law_part" = some (some (.ref f_law_part)))
    (l_law_part : Fun K "_law_part" "_law_part" s_law_part f_law_part d_law_part)
    (a_law_put : nsIn K mainGlobals "_law_put" = some (some (.ref f_law_put)))
    (l_law_put : Fun K "_law_put" "_law_put" s_law_put f_law_put d_law_put)
    (a_law_thin : nsIn K mainGlobals "_law_thin" = some (some (.ref f_law_thin)))
    (l_law_thin : Fun K "_law_thin" "_law_thin" s_law_thin f_law_thin d_law_thin)
    (a_law_like : nsIn K mainGlobals "_law_like" = some (some (.ref f_law_like)))
    (l_law_like : Fun K "_law_like" "_law_like" s_law_like f_law_like d_law_like)
    (a_law_any_formula : nsIn K mainGlobals "_law_any_formula" = some (some (.ref f_law_any_formula)))
    (l_law_any_formula : Fun K "_law_any_formula" "_law_any_formula" s_law_any_formula f_law_any_formula d_law_any_formula)
    (a_law_is_plain_thin : nsIn K mainGlobals "_law_is_plain_thin" = some (some (.ref f_law_is_plain_thin)))
    (l_law_is_plain_thin : Fun K "_law_is_plain_thin" "_law_is_plain_thin" s_law_is_plain_thin f_law_is_plain_thin d_law_is_plain_thin)
    (a_law_told_right : nsIn K mainGlobals "_law_told_right" = some (some (.ref f_law_told_right)))
    (l_law_told_right : Fun K "_law_told_right" "_law_told_right" s_law_told_right f_law_told_right d_law_told_right)
    (a_law : nsIn K mainGlobals "law" = some (some (.ref f_law)))
    (l_law : Fun K "law" "law" s_law f_law d_law)
    (pg_Drawing : plainGet K k_Drawing Str.empty = true)
    (hd_Drawing : hasDictIn K k_Drawing = true)
    (po_Drawing : plainOver K k_Drawing = true)
    (sa_Drawing : findIn K (.ref k_Drawing) "__setattr__" = some (some (.builtin "object.__setattr__")))
    (mk_Drawing : makesIn K k_Drawing = true)
    (kc_Drawing : keepIn K (.ref k_Drawing) = true)
    (pg_Thinner : plainGet K k_Thinner Str.empty = true)
    (hd_Thinner : hasDictIn K k_Thinner = true)
    (po_Thinner : plainOver K k_Thinner = true)
    (sa_Thinner : findIn K (.ref k_Thinner) "__setattr__" = some (some (.builtin "object.__setattr__")))
    (mk_Thinner : makesIn K k_Thinner = true)
    (kc_Thinner : keepIn K (.ref k_Thinner) = true)
    (z_all : nsIn K mainGlobals "all" = some none)
    (z_enumerate : nsIn K mainGlobals "enumerate" = some none)
    (z_int : nsIn K mainGlobals "int" = some none)
    (z_isinstance : nsIn K mainGlobals "isinstance" = some none)
    (z_len : nsIn K mainGlobals "len" = some none)
    (z_list : nsIn K mainGlobals "list" = some none)
    (z_min : nsIn K mainGlobals "min" = some none)
    (z_range : nsIn K mainGlobals "range" = some none)
    (z_reversed : nsIn K mainGlobals "reversed" = some none)
    (z_set : nsIn K mainGlobals "set" = some none)
    (z_sorted : nsIn K mainGlobals "sorted" = some none)
    (z_sum : nsIn K mainGlobals "sum" = some none)
    (z_tuple : nsIn K mainGlobals "tuple" = some none)
    (v_MOST_BOWS : nsIn K mainGlobals "MOST_BOWS" = some (some (.int 6 tk_MOST_BOWS)))
    (v_MOST_NAMES : nsIn K mainGlobals "MOST_NAMES" = some (some (.int 6 tk_MOST_NAMES)))
    (v_MOST_THINNINGS : nsIn K mainGlobals "MOST_THINNINGS" = some (some (.int 400 tk_MOST_THINNINGS)))
    (n_Drawing_bows : findIn K (.ref k_Drawing) "bows" = some none)
    (n_Drawing_count : findIn K (.ref k_Drawing) "count" = some none)
    (n_Drawing_ties : findIn K (.ref k_Drawing) "ties" = some none)
    (n_Thinner_thinnings : findIn K (.ref k_Thinner) "thinnings" = some none)
    (C_ONE : nsIn K mainGlobals "ONE" = some (some (.ref k_ONE)))
    (l_ONE : K.lookup k_ONE = some ⟨.type "tuple", none, .seq #[.str "one" tk_6] n_1, #[]⟩)
    (C_SH : nsIn K mainGlobals "SHORTER" = some (some (.ref k_SH)))
    (l_SH : K.lookup k_SH = some ⟨.type "dict", none, .dict #[{ hash := PyData.keyHash w.params "gather", key := .str "gather" tk_1, val := .ref f_by_gather }, { hash := PyData.keyHash w.params "all", key := .str "all" tk_2, val := .ref f_by_all }, { hash := PyData.keyHash w.params "one", key := .str "one" tk_3, val := .ref f_by_one }, { hash := PyData.keyHash w.params "same", key := .str "same" tk_4, val := .ref f_by_same }, { hash := PyData.keyHash w.params "back", key := .str "back" tk_5, val := .ref f_by_back }] n_2, #[]⟩)
    (s_SH : (k_SH == sysModules) = false) :
    ∃ t : Ad, Tx w K mg t ∧ t.a_law = f_law ∧ ∀ (s : Shared) (v : Value), BindsTo s t.d_law ⟨[v], []⟩ [("_law_script", v)] := by
  obtain ⟨oc, od, kV, doc, pm, an, cdv, ct, osl, rfl, lk, hcd⟩ := l_law.ex
  exact ⟨⟨f_is_pair, _, f_are_pairs, _, f_without, _, f_Drawing_init, _, f_parts_of, _, f_has_all, _, f_is_share_given, _, f_by_gather, _, f_by_all, _, f_by_one, _, f_by_same, _, f_is_over_by, _, f_by_back, _, f_with_part, _, f_shorter_words, _, f_Thinner_init, _, f_Thinner_shorten, _, f_Thinner_thin, _, f_thinned, _, f_law_cell_at, _, f_law_digits, _, f_law_names_by, _, f_law_grown, _, f_law_open, _, f_law_shape_by, _, f_law_product, _, f_law_shares_of, _, f_law_less, _, f_law_plain, _, f_law_spots, _, f_law_part, _, f_law_put, _, f_law_thin, _, f_law_like, _, f_law_any_formula, _, f_law_is_plain_thin, _, f_law_told_right, _, f_law, _, k_Drawing, k_Thinner, k_ONE, k_SH⟩, ⟨l_is_pair,
    l_is_pair.binds fun _ _ _ _ _ _ => lnb2 fun _ _ => rfl,
    mg_of X G a_is_pair,
    l_are_pairs,
    l_are_pairs.binds fun _ _ _ _ _ _ => lnb2 fun _ _ => rfl,
    mg_of X G a_are_pairs,
    l_without,
    l_without.binds fun _ _ _ _ _ _ => lnb2 fun _ _ => rfl,
    mg_of X G a_without,
    l_Drawing_init,
    l_Drawing_init.binds fun _ _ _ _ _ _ => lnb4 fun _ _ _ _ => rfl,
    l_parts_of,
    l_parts_of.binds fun _ _ _ _ _ _ => lnb1 fun _ => rfl,
    mg_of X G a_parts_of,
    l_has_all,
    l_has_all.binds fun _ _ _ _ _ _ => lnb2 fun _ _ => rfl,
    mg_of X G a_has_all,
    l_is_share_given,
    l_is_share_given.binds fun _ _ _ _ _ _ => lnb1 fun _ => rfl,
    mg_of X G a_is_share_given,
    l_by_gather,
    l_by_gather.binds fun _ _ _ _ _ _ => lnb1 fun _ => rfl,
    mg_of X G a_by_gather,
    l_by_all,
    l_by_all.binds fun _ _ _ _ _ _ => lnb1 fun _ => rfl,
    mg_of X G a_by_all,
    l_by_one,
    l_by_one.binds fun _ _ _ _ _ _ => lnb1 fun _ => rfl,
    mg_of X G a_by_one,
    l_by_same,
    l_by_same.binds fun _ _ _ _ _ _ => lnb1 fun _ => rfl,
    mg_of X G a_by_same,
    l_is_over_by,
    l_is_over_by.binds fun _ _ _ _ _ _ => lnb2 fun _ _ => rfl,
    mg_of X G a_is_over_by,
    l_by_back,
    l_by_back.binds fun _ _ _ _ _ _ => lnb1 fun _ => rfl,
    mg_of X G a_by_back,
    l_with_part,
    l_with_part.binds fun _ _ _ _ _ _ => lnb3 fun _ _ _ => rfl,
    mg_of X G a_with_part,
    l_shorter_words,
    l_shorter_words.binds fun _ _ _ _ _ _ => lnb1 fun _ => rfl,
    mg_of X G a_shorter_words,
    l_Thinner_init,
    l_Thinner_init.binds fun _ _ _ _ _ _ => lnb1 fun _ => rfl,
    l_Thinner_shorten,
    l_Thinner_shorten.binds fun _ _ _ _ _ _ => lnb3 fun _ _ _ => rfl,
    ⟨a_Thinner_shorten, i_Thinner_shorten, l_Thinner_shorten.kp⟩,
    l_Thinner_thin,
    l_Thinner_thin.binds fun _ _ _ _ _ _ => lnb3 fun _ _ _ => rfl,
    ⟨a_Thinner_thin, i_Thinner_thin, l_Thinner_thin.kp⟩,
    l_thinned,
    l_thinned.binds fun _ _ _ _ _ _ => lnb2 fun _ _ => rfl,
    mg_of X G a_thinned,
    l_law_cell_at,
    l_law_cell_at.binds fun _ _ _ _ _ _ => lnb2 fun _ _ => rfl,
    mg_of X G a_law_cell_at,
    l_law_digits,
    l_law_digits.binds fun _ _ _ _ _ _ => lnb3 fun _ _ _ => rfl,
    mg_of X G a_law_digits,
    l_law_names_by,
    l_law_names_by.binds fun _ _ _ _ _ _ => lnb2 fun _ _ => rfl,
    mg_of X G a_law_names_by,
    l_law_grown,
    l_law_grown.binds fun _ _ _ _ _ _ => lnb3 fun _ _ _ => rfl,
    mg_of X G a_law_grown,
    l_law_open,
    l_law_open.binds fun _ _ _ _ _ _ => lnb1 fun _ => rfl,
    mg_of X G a_law_open,
    l_law_shape_by,
    l_law_shape_by.binds fun _ _ _ _ _ _ => lnb3 fun _ _ _ => rfl,
    mg_of X G a_law_shape_by,
    l_law_product,
    l_law_product.binds fun _ _ _ _ _ _ => lnb1 fun _ => rfl,
    mg_of X G a_law_product,
    l_law_shares_of,
    l_law_shares_of.binds fun _ _ _ _ _ _ => lnb2 fun _ _ => rfl,
    mg_of X G a_law_shares_of,
    l_law_less,
    l_law_less.binds fun _ _ _ _ _ _ => lnb2 fun _ _ => rfl,
    mg_of X G a_law_less,
    l_law_plain,
    l_law_plain.binds fun _ _ _ _ _ _ => lnb2 fun _ _ => rfl,
    mg_of X G a_law_plain,
    l_law_spots,
    l_law_spots.binds fun _ _ _ _ _ _ => lnb1 fun _ => rfl,
    mg_of X G a_law_spots,
    l_law_part,
    l_law_part.binds fun _ _ _ _ _ _ => lnb2 fun _ _ => rfl,
    mg_of X G a_law_part,
    l_law_put,
    l_law_put.binds fun _ _ _ _ _ _ => lnb3 fun _ _ _ => rfl,
    mg_of X G a_law_put,
    l_law_thin,
    l_law_thin.binds fun _ _ _ _ _ _ => lnb3 fun _ _ _ => rfl,
    mg_of X G a_law_thin,
    l_law_like,
    l_law_like.binds fun _ _ _ _ _ _ => lnb3 fun _ _ _ => rfl,
    mg_of X G a_law_like,
    l_law_any_formula,
    l_law_any_formula.binds fun _ _ _ _ _ _ => lnb2 fun _ _ => rfl,
    mg_of X G a_law_any_formula,
    l_law_is_plain_thin,
    l_law_is_plain_thin.binds fun _ _ _ _ _ _ => lnb1 fun _ => rfl,
    mg_of X G a_law_is_plain_thin,
    l_law_told_right,
    l_law_told_right.binds fun _ _ _ _ _ _ => lnb3 fun _ _ _ => rfl,
    mg_of X G a_law_told_right,
    l_law,
    l_law.binds fun _ _ _ _ _ _ => lnb1 fun _ => rfl,
    mg_of X G a_law,
    mg_of X G C_Drawing,
    ⟨pg_Drawing, hd_Drawing, po_Drawing, sa_Drawing⟩,
    ⟨mk_Drawing, a_Drawing_init, i_Drawing_init, kc_Drawing⟩,
    mg_of X G C_Thinner,
    ⟨pg_Thinner, hd_Thinner, po_Thinner, sa_Thinner⟩,
    ⟨mk_Thinner, a_Thinner_init, i_Thinner_init, kc_Thinner⟩,
    mg_none_of X G z_all,
    mg_none_of X G z_enumerate,
    mg_none_of X G z_int,
    mg_none_of X G z_isinstance,
    mg_none_of X G z_len,
    mg_none_of X G z_list,
    mg_none_of X G z_min,
    mg_none_of X G z_range,
    mg_none_of X G z_reversed,
    mg_none_of X G z_set,
    mg_none_of X G z_sorted,
    mg_none_of X G z_sum,
    mg_none_of X G z_tuple,
    ⟨_, mg_of X G v_MOST_BOWS, ⟨_, rfl⟩⟩,
    ⟨_, mg_of X G v_MOST_NAMES, ⟨_, rfl⟩⟩,
    ⟨_, mg_of X G v_MOST_THINNINGS, ⟨_, rfl⟩⟩,
    n_Drawing_bows,
    n_Drawing_count,
    n_Drawing_ties,
    n_Thinner_thinnings,
    ⟨_, mg_of X G C_ONE, rfl⟩, one_rp l_ONE, ⟨_, mg_of X G C_SH, rfl⟩, sh_k s_SH l_SH⟩, rfl, fun s v => .of_eq rfl⟩
theorem tx_of {w : World} {K : PySem.W.Frag} {mg : Str → Option Value} {f : Addr} {x : Str} (h : ∃ t : Ad, Tx w K mg t ∧ t.a_law = f ∧ ∀ (s : Shared) (v : Value), BindsTo s t.d_law ⟨[v], []⟩ [(x, v)]) (e : mg "law" = some (.ref f)) :
    ∃ t : Ad, Tx w K mg t ∧ mg "law" = some (.ref t.a_law) ∧ ∀ (s : Shared) (v : Value), BindsTo s t.d_law ⟨[v], []⟩ [(x, v)] := by
  obtain ⟨t, T, rfl, b⟩ := h
  exact ⟨t, T, e, b⟩
end Lw
open PySem PySem.W PyProof.Rows
set_option maxRecDepth 100000 in
set_option maxHeartbeats 0 in
theorem PySem.Challenge.cw_doingbook_k77_thinned_forms_holds : PySem.Challenge.rw_doingbook_k77_thinned_forms.Holds := by
  w_on; o_law; k_head; (case hw => w_witness2)
  k_fill
  refine L2.walk_ofK (l := PySem.Challenge.rw_doingbook_k77_thinned_forms) (n := 63) (k := 66) (x := "_law_script") (CX := L2.CX0) (sp := fun K => U.lowSp K U.spL) rfl (by decide) rfl ⟨rfl, by decide, by decide⟩ (fun w h Y => PySem.W.kIn_of Y) ?F (fun K H a ns hl hO hS => U.spL_start hl hO hS) (fun _ _ _ _ z => z)
  case F =>
    intro w mg fa h KX G hmg
    have T : ∃ t : Lw.Ad, Lw.Tx w (L2.KOf KX) mg t ∧ mg "law" = some (.ref t.a_law) ∧ ∀ (s : Shared) (v : Value), BindsTo s t.d_law ⟨[v], []⟩ [("_law_script", v)] := by
      dsimp only [L2.KOf]
      refine Lw.tx_of ?_ (PySem.W.mg_of KX G (by k_is))
      apply Lw.txt_mk KX G <;> first | k_is | (apply L2.fun_mk <;> k_is) | kernel_rfl | kit_is | ((repeat' (first | exact trivial | refine And.intro ?_ ?_)) <;> kit_is)
    obtain ⟨t, T, e, hb⟩ := T
    have e0 := hmg.symm.trans e
    cases e0
    exact ⟨t.d_law, hb, fun base kb nb => Lw.G_law T⟩
