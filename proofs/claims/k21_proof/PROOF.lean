import PyProof.Rows.All
import Wide.All
import OpenK.AllK
import Wide.FinOn
import Lean
import PyProof.EqAt
import PyProof.EqKinds
import PyProof.TupleCall
import PyProof.NeKinds
import PyProof.StationsW
import PyProof.RulesAs
import PyProof.ExcClass2
import PyProof.IsiH_tuple
import PyProof.NsDelKeeps
import PyProof.ConsumeWalk
import PyProof.Rows.SortWalk
import PySem.SetOps
import PySem.Builtin.Tuple.Common
import PyProof.Rows.SetFrom
import PyProof.TupleKey
import PyProof.SetRoads
import KE.KSortTup
import PyProof.DictWalks
import PyProof.FactsAll.set
import PyProof.CollectWalk
import KE.KDictList
import PyProof.Rows.Range3
import PyProof.SumAny
import PyProof.Draws
import PyProof.EnumMake
import PyProof.TupleIter
import PyProof.WalksMore
import PyProof.ZipIter
import PyProof.Rows.ZipGen
import PyProof.DictKinds
import PyProof.DictRoadsH
import PyProof.FactsAll.bool
import PyProof.Rows.StrWeight2
import PyProof.StrBlock
import PyProof.ListStr
import PyProof.SliceStr2
import PyProof.StrBlockI
import PySem.Challenge.RW_doingbook_k21_worlds_made
set_option Elab.async false
namespace PySem.W.Fast
def tw7483552361060001480:=()
def tw5873377940756773197:=()
def tw7866451655241562101:=()
def tw13711145185007642490:=()
def tw15165871009525192191:=()
def tw13113278506635090008:=()
def tw11662955137281386619:=()
def tw17425871290171666318:=()
def tw8155557148740339336:=()
def tw4463349795848466247:=()
def tw11041675924845417966:=()
def tw940340742856995071:=()
def tw2000170194618826590:=()
def tw15182734789178221583:=()
def tw14663706890553858925:=()
def tw16865518580309415917:=()
def tw595623500011197683:=()
def tw17494429222043198560:=()
def tw6797919462060817958:=()
def tw4034230137546034971:=()
def tw7502319724685069859:=()
def tw442107637076074009:=()
def tw8994220979722494881:=()
def tw12161554551965255994:=()
def tw17522007115007256699:=()
def tw18025390687038876409:=()
def tw13854815837991521037:=()
def tw1473565594083486582:=()
def tw1291373822404212902:=()
def tw8064018954015622541:=()
def tw4099778598516568134:=()
def tw13651602248614251904:=()
def tw16072500455753939309:=()
def tw2956987418316937005:=()
def tw4022045335980869965:=()
def tw8539351201668521833:=()
def tw3155427022281106438:=()
def tw16702673261868449829:=()
def tw10331594871235220123:=()
def tw11157804666102536416:=()
def tw17412575605142558354:=()
def tw7119491916816740486:=()
def tw12167422430033886856:=()
def tw7854832286504620129:=()
def tw631687572802514323:=()
def tw6471387798455255581:=()
def tw12083326022773280245:=()
def tw5046587188549556843:=()
def tw8250764214035587763:=()
def tw926397325819660033:=()
def tw531353616608788394:=()
def tw17136003166818766967:=()
def tw3431733637606914016:=()
def tw9389769170811259341:=()
def tw5428546345136336387:=()
def tw8405231949199901294:=()
def tw3942057377232695057:=()
def tw2171750795853164097:=()
def tw3462409959343627298:=()
def tw11012732576980514640:=()
def tw13677197785909643099:=()
def tw7208986364522627078:=()
def tw2904670174078100672:=()
def tw17461665841412002759:=()
def tw10433523641247678783:=()
def tw9886398954974787114:=()
def tw17611213095860137580:=()
def tw17525146708512554659:=()
def tw6571304170162185834:=()
def tw14921142285478750961:=()
def tw3296387477809162690:=()
def tw7623961496054932989:=()
def tw16397803083114154941:=()
def tw6184523204071665407:=()
def tw13544049884731582928:=()
def tw15022040124315320930:=()
def tw10899202020115106451:=()
def tw17779059011372852728:=()
def tw3898115304689945073:=()
def tw11967800292704393388:=()
def tw582689633565461936:=()
def tw3450396959519927516:=()
def tw14357465047758076432:=()
def tw2543359640344551352:=()
def tw15300014712910869089:=()
def tw9702225936317588724:=()
def tw2290100855477191561:=()
def tw5723419651036897934:=()
def tw2170273575847311757:=()
def tw9703261481275370064:=()
def tw5269562352411723587:=()
def tw9156758962048770720:=()
def tw7256079393808738633:=()
def tw4144373119768077115:=()
def tw5619423655314199137:=()
def tw1681590513510190261:=()
def tw15815159811187053969:=()
def tw12775532552365169326:=()
def tw14705713653807734595:=()
def tw4278008682248577768:=()
def tw7221516510652458666:=()
def tw1170967518465090976:=()
def tw2721426467871249642:=()
def tw10404512508755903248:=()
def tw10172158697422508609:=()
def tw17131746885578312352:=()
def tw10860949399756150234:=()
def tw16588301219837716287:=()
def tw15526716453422075149:=()
def tw1474347735936807295:=()
def tw393197375395031683:=()
def tw16232960603660030305:=()
def tw16882095316548371543:=()
def tw16884518110046765844:=()
def tw12282035112366080823:=()
def tw1301511323864379963:=()
def tw15178373796045342940:=()
def tw18375816985430118256:=()
def tw16699929629608242139:=()
def tw11268265390439613700:=()
def tw494772803346121231:=()
def tw7852034375782509853:=()
def tw17724491176607878031:=()
def tw6154018809051246675:=()
def tw2047104704400979551:=()
def tw17358856545002425317:=()
def tw16055990909340022145:=()
def tw6629575277026187607:=()
def tw10596127117805934633:=()
def tw14840492669064174974:=()
def tw7095632752189040973:=()
def tw15318182012358599894:=()
def tw14779968792383424388:=()
def tw11838432792812996133:=()
def tw5926025586436488658:=()
def tw12084726971424908460:=()
def tw2153881471000096295:=()
def tw8735715958388616272:=()
def tw15438580861791085520:=()
def tw14523345006412920702:=()
def tw16601976333081364485:=()
def tw11621346825408556010:=()
def tw6594536631793559565:=()
def tw5137588355916542424:=()
def tw3574926372439550445:=()
def tw349621273489398105:=()
def tw6491971872361297153:=()
def tw2741396047134164795:=()
def tw4860303539037897160:=()
def tw6829283552969961793:=()
def tw5339616561897550403:=()
def tw14353146203521343878:=()
def tw8948517580041810059:=()
def tw11946834541905995537:=()
def tw3118253796052046814:=()
def tw5352928523035227948:=()
def tw6381554270023742371:=()
def tw10751763749748237878:=()
def tw3861732390684297579:=()
def tw8030219861081754725:=()
def tw5710879982726692362:=()
def tw8911215753359620633:=()
def tw1662051551775806444:=()
def tw11529490964676923407:=()
def tw113078019236327477:=()
def tw3587410112899831926:=()
def tw14756280255056953004:=()
def tw9313942300285035919:=()
def tw9132647203306008976:=()
def tw17357919722976758198:=()
def tw3154736074491143776:=()
def tw12177771253300769231:=()
def tw15050576011829187169:=()
def tw9521332241061813422:=()
def tw10978658886564345781:=()
def tw9020492412954412270:=()
def tw3407071091511757583:=()
def tw2647419249708947343:=()
def tw8738441179370785019:=()
def tw14793979895740440320:=()
def tw17270835718885188009:=()
def tw17326505920164802831:=()
def tw14004479924336993124:=()
def tw8025820302662051394:=()
def tw1284298817479272345:=()
def tw6515502869507982956:=()
def tw8629516661311292808:=()
def tw15592151101404028222:=()
def tw5244584839741408193:=()
def tw15113790174263769296:=()
def tw8804103772550527448:=()
def tw12185125259175993049:=()
def tw6250898494732299413:=()
def tw8594614472869636172:=()
def tw8722431176471034007:=()
def tw9231655727380837695:=()
def tw12112489817182660228:=()
def tw3445584976295669840:=()
def tw17036330491307374505:=()
def tw16843633735150876506:=()
def tw8928612628414356724:=()
def tw17601708018621089159:=()
def tw14204289442876365306:=()
def tw8622069349979335426:=()
def tw18213676743528507219:=()
def tw9442497533050017505:=()
def tw13778365710629319793:=()
def tw9602565577260426270:=()
def tw11468134406869044205:=()
def tw5908554923697870547:=()
def tw14478317194006399499:=()
def tw18187442504574704885:=()
def tw2313681028245178568:=()
def tw2555773741156480384:=()
def tw16904364610471513950:=()
def tw2254775699646059000:=()
def tw2197063344733894006:=()
def tw12351251091858021995:=()
def tw15977808277720417740:=()
def tw3777255627876949043:=()
def tw5158484458306363980:=()
def tw2235058500765687221:=()
def tw8010652980909856113:=()
def tw9358470692346819666:=()
def tw11175560517339284963:=()
def tw6606219015191157063:=()
def tw15300893100363934030:=()
def tw2257908743877767723:=()
def tw2019773541861875166:=()
def tw17552064756068572600:=()
def tw4091479309287906950:=()
def tw17450139444191106345:=()
def tw16049550030728916978:=()
def tw16361534985356392283:=()
def tw65155670530408671:=()
def tw13068857511211789737:=()
def tw17312632959574722825:=()
def tw1124688332993047641:=()
def tw8163297224152756645:=()
def tw5151843040580588022:=()
def tw5936570916443276586:=()
def tw18245080113413674798:=()
def tw15560066958363290948:=()
def tw4382159102071746880:=()
def tw4560971155546968743:=()
def tw7763904823107710954:=()
def tw15475935789778915975:=()
def tw14138575460904728794:=()
def tw2737518416821804253:=()
def tw17644254200536450948:=()
def tw4478571203306255841:=()
def tw6366876347762962628:=()
def tw11834291013518098303:=()
def tw8698402736589481731:=()
def tw7760019655269569669:=()
def tw511614102122632865:=()
def tw643207910064566923:=()
def tw17267376064182408321:=()
def tw15498659655117019001:=()
def tw8591961410964250867:=()
def tw10525316791491217682:=()
def tw11242606194909577380:=()
def tw13428792652590190493:=()
def tw9499040773403651377:=()
def tw4382285149776476696:=()
def tw17872866088961568681:=()
def tw4502571816023952134:=()
def tw6926462857304296714:=()
def tw3623286394781845172:=()
def tw4274341106515854278:=()
def tw3881210453076469679:=()
def tw12074203810206073690:=()
def tw13580950897648841471:=()
def tw16541074581597517526:=()
def tw1085115943524565227:=()
def tw4673132239709359161:=()
def tw9797930983863613282:=()
def tw2990437232335939106:=()
def tw7348616698608924136:=()
def tw13917007907205931798:=()
def tw8432384747337691824:=()
def tw2314193894829812575:=()
def tw17023449182114010315:=()
def tw9279867094010915243:=()
def tw8028321479651673686:=()
def tw7545089756323305542:=()
def tw9376984336940104482:=()
def tw16566197029129736774:=()
def tw17799966008899668877:=()
def tw16241897606493300474:=()
def tw9303880981550185816:=()
def tw13202842957153367840:=()
def tw7442707436843104078:=()
def tw340379394842310872:=()
def tw18099515471328646719:=()
def tw11388487317080383213:=()
def tw2514057826411190113:=()
def tw12528907969330150366:=()
def tw9444525199030990444:=()
def tw17867051275964854909:=()
def tw13330380471482777634:=()
def tw12672334137429875086:=()
def tw15085362436232179891:=()
def tw10583189020097006266:=()
def tw5600353120835420047:=()
def tw9215659584745023369:=()
def tw14812899193396153421:=()
def tw16733366567541309228:=()
def tw12327899981463984530:=()
def tw344729309366662129:=()
def tw8432455810612630332:=()
def tw6393309188351000235:=()
def tw5644413107725676916:=()
def tw13056183190167430770:=()
def tw9031315937485713803:=()
def tw16912871236581419370:=()
def tw1020281719022131207:=()
def tw4225451868994076287:=()
def tw12225097931815622597:=()
def tw15429249699356931672:=()
def tw11833649885622350165:=()
def tw10094488164303058199:=()
def tw9983061049795820204:=()
def tw11666154633809091737:=()
def tw5980574283712861811:=()
def tw16884024901359503911:=()
def tw3578694668452626418:=()
def tw7015033545759312479:=()
def tw14367086374973267596:=()
def tw12468217923890312332:=()
def tw14480646039247650808:=()
def tw5096980435952156757:=()
def tw14840434063609680341:=()
def tw6760860774471212286:=()
def tw11144511675481836465:=()
def tw635633937387055309:=()
def tw11933997998145132151:=()
def tw1117462721155686747:=()
def tw2538487115624581100:=()
def tw8498827444705943594:=()
def tw14911097552261038075:=()
def tw503714858095046600:=()
def tw17479960542681823561:=()
def tw12406821529624598526:=()
def tw8384676226104662381:=()
def tw395051601092780481:=()
def tw16561765544226604890:=()
def tw4219380778456711402:=()
def tw11741448941485420326:=()
def tw1591590602363972721:=()
def tw17703103481081639826:=()
def tw14880476081568409303:=()
def tw4698204818190588276:=()
def tw5769586514194294881:=()
def tw7995484376869858742:=()
def tw11176527081723640882:=()
def tw9592113135460414937:=()
def tw3569112560038665901:=()
def tw8113702248438645555:=()
def tw16956776072110964938:=()
def tw12558305242209734031:=()
def tw14069034767196210250:=()
def tw13815865166258805462:=()
def tw7126956390932439020:=()
def tw1928038673129547955:=()
def tw13597947194978256975:=()
def tw5876059210463975104:=()
def tw16768918284747605759:=()
def tw2379503115529391856:=()
def tw7091209813786403527:=()
def tw6024029220584134355:=()
def tw5592775634545001960:=()
def tw16575339871551017899:=()
def tw12233357686957484925:=()
def tw1596353267466801163:=()
def tw11474631876913309711:=()
def tw16064671071956197323:=()
def tw12824868988747033942:=()
def tw8347521920209369567:=()
def tw6080028140152886969:=()
def tw334593161460454832:=()
def tw816672204800930170:=()
def tw8321783758993552157:=()
def tw13609358277506316792:=()
def tw13909900994028290908:=()
def tw11698901855229085991:=()
def tw12115394484342219609:=()
def tw2812587343893915065:=()
end PySem.W.Fast
set_option genSizeOf false
-- CHANGE: your row's module here, as the last of these rows
set_option Elab.async false
set_option linter.all false
set_option maxRecDepth 100000
namespace L2
open PySem PySem.Spec PyProof.Rows

abbrev Key := Sum Int Str
def keyIs : Key → Value → Bool
  | .inl k, v => Value.isInt k v
  | .inr x, v => Value.isStrOf x v
def keyH (w : World) : Key → Int
  | .inl k => hashInt k
  | .inr x => hashStr w x
theorem keyIs_shape : ∀ {k : Key} {v : Value}, keyIs k v = true → (∃ i t, k = Sum.inl i ∧ v = Value.int i t) ∨ (∃ x t, k = Sum.inr x ∧ v = Value.str x t)
  | .inl i, v, h => by
    obtain ⟨t, e⟩ := Value.isInt_shape (k := i) (v := v) h
    exact .inl ⟨i, t, rfl, e⟩
  | .inr x, v, h => by
    obtain ⟨t, e⟩ := Value.isStrOf_shape (x := x) (v := v) h
    exact .inr ⟨x, t, rfl, e⟩
theorem key_ll (a b : Int) : decide ((Sum.inl a : Key) = Sum.inl b) = (a == b) := by
  by_cases e : a = b
  · subst e; simp
  · have h : ¬ (Sum.inl a : Key) = Sum.inl b := fun q => e (Sum.inl.inj q)
    rw [decide_eq_false h]
    exact (beq_eq_false_iff_ne.mpr e).symm
theorem key_rr (a b : Str) : decide ((Sum.inr a : Key) = Sum.inr b) = decide (a = b) := by
  by_cases e : a = b
  · subst e; simp
  · have h : ¬ (Sum.inr a : Key) = Sum.inr b := fun q => e (Sum.inr.inj q)
    rw [decide_eq_false h, decide_eq_false e]
theorem key_lr (a : Int) (b : Str) : decide ((Sum.inl a : Key) = Sum.inr b) = false := decide_eq_false (fun q => nomatch q)
theorem key_rl (a : Str) (b : Int) : decide ((Sum.inr a : Key) = Sum.inl b) = false := decide_eq_false (fun q => nomatch q)

def mixKind (prog : Program) (w : World) : PySem.KeyKind prog w Key where
  is := keyIs
  hash := keyH w
  inj := fun v a b ha hb => by
    rcases keyIs_shape ha with ⟨i, t, rfl, rfl⟩ | ⟨x, t, rfl, rfl⟩
    · rcases keyIs_shape hb with ⟨j, u, rfl, e⟩ | ⟨y, u, rfl, e⟩
      · injection e with e1 _; rw [e1]
      · exact nomatch e
    · rcases keyIs_shape hb with ⟨j, u, rfl, e⟩ | ⟨y, u, rfl, e⟩
      · exact nomatch e
      · injection e with e1 _; rw [e1]
  byValue := fun k v h => by
    rcases keyIs_shape h with ⟨i, t, rfl, rfl⟩ | ⟨x, t, rfl, rfl⟩ <;> rfl
  pyHash := fun hv h => by
    rcases keyIs_shape hv with ⟨i, t, rfl, rfl⟩ | ⟨x, t, rfl, rfl⟩
    · exact wpAny_pyHash_int h
    · exact wpAny_pyHash_str h
  eqBool := fun hu hv h => by
    rcases keyIs_shape hu with ⟨i, t, rfl, rfl⟩ | ⟨x, t, rfl, rfl⟩
    · rcases keyIs_shape hv with ⟨j, u, rfl, rfl⟩ | ⟨y, u, rfl, rfl⟩
      · rw [key_ll] at h; exact wpAny_eqBool_int h
      · rw [key_lr] at h; exact SeqAt.EqAt.int_str i t y u _ _ _ _ h
    · rcases keyIs_shape hv with ⟨j, u, rfl, rfl⟩ | ⟨y, u, rfl, rfl⟩
      · rw [key_rl] at h; exact SeqAt.EqAt.str_int x t j u _ _ _ _ h
      · rw [key_rr] at h; exact wpAny_eqBool_str h
  «strs» := fun k x t v h => by
    rcases keyIs_shape h with ⟨i, u, rfl, e⟩ | ⟨y, u, rfl, e⟩
    · exact nomatch e
    · injection e with e1 _
      subst e1
      cases v <;> rfl

end L2

namespace L2
open PySem PySem.Spec PyProof.Rows

inductive V where
  | non | bl (b : Bool) | int (i : Int) | str (x : Str) | byt (b : Array UInt8) | flt (b : UInt64) | ref (a : Addr) | ty (n : String)
  deriving DecidableEq

def RelV : V → Value → Prop
  | .non, u => u = Value.none
  | .bl b, u => u = Value.bool b
  | .int i, u => ∃ t, u = Value.int i t
  | .str x, u => ∃ t, u = Value.str x t
  | .byt b, u => ∃ t, u = Value.bytes b t
  | .flt b, u => ∃ t, u = Value.float b t
  | .ref a, u => u = Value.ref a
  | .ty n, u => u = Value.type n

abbrev Vals : List V → List Value → Prop := Paired RelV
theorem Vals.length {xs : List V} {us : List Value} (r : Vals xs us) : xs.length = us.length := Paired.length r
theorem Vals.get : ∀ {xs : List V} {us : List Value} {i : Nat} {x : V}, Vals xs us → xs[i]? = some x → ∃ u, us[i]? = some u ∧ RelV x u
  | _, _, _, _, .nil, e => by simp at e
  | _, _, 0, _, .cons r _, e => by simp at e; subst e; exact ⟨_, rfl, r⟩
  | _, _, i + 1, x, .cons _ t, e => by
    obtain ⟨u, h1, h2⟩ := Vals.get (i := i) (x := x) t (by simpa using e)
    exact ⟨u, by simpa using h1, h2⟩
theorem Vals.set {x : V} {u : Value} (r : RelV x u) : ∀ {xs : List V} {us : List Value} (i : Nat), Vals xs us → Vals (xs.set i x) (us.set i u)
  | _, _, _, .nil => .nil
  | _, _, 0, .cons _ t => .cons r t
  | _, _, i + 1, .cons q t => .cons q (Vals.set r i t)
theorem Vals.append : ∀ {xs ys : List V} {us ws : List Value}, Vals xs us → Vals ys ws → Vals (xs ++ ys) (us ++ ws)
  | _, _, _, _, .nil, s => s
  | _, _, _, _, .cons r t, s => .cons r (Vals.append t s)
theorem Vals.take : ∀ {xs : List V} {us : List Value} (n : Nat), Vals xs us → Vals (xs.take n) (us.take n)
  | _, _, 0, _ => .nil
  | _, _, _ + 1, .nil => .nil
  | _, _, n + 1, .cons r t => .cons r (Vals.take n t)
theorem Vals.drop : ∀ {xs : List V} {us : List Value} (n : Nat), Vals xs us → Vals (xs.drop n) (us.drop n)
  | _, _, 0, r => r
  | _, _, _ + 1, .nil => .nil
  | _, _, n + 1, .cons _ t => Vals.drop n t
def RelO : Option V → Option Value → Prop
  | some v, some u => RelV v u
  | none, none => True
  | _, _ => False
def KV {κ : Type} : List (κ × V) → List (κ × Value) → Prop := Paired fun (p : κ × V) (q : κ × Value) => p.1 = q.1 ∧ RelV p.2 q.2

def kV : Key → V
  | .inl i => .int i
  | .inr x => .str x

inductive HO where
    | lst (xs : List V)
    | tup (xs : List V)
    | dK (kvs : List (Key × V)) | dT (kvs : List (List Key × V))
    | set (S : Int → Bool) (n : Nat)
    | ins (C dx : Addr) (fs : List (Str × V))
    | own (x : Addr)
    | xd (fs : List (Str × V))
    | met (f x : Addr)
    | rng (lo hi : Int)
    | frz (o : Obj) (u : HO)
    | tbl (ps : Array Value)
    | ext (φ : Heap → Prop)

abbrev Hp := Addr → Option HO
def upd (H : Hp) (a : Addr) (o : HO) : Hp := fun b => if b = a then some o else H b
theorem upd_same {H : Hp} {a : Addr} {o : HO} : upd H a o a = some o := by unfold upd; rw [if_pos rfl]
theorem upd_ne {H : Hp} {a b : Addr} {o : HO} (h : b ≠ a) : upd H a o b = H b := by unfold upd; rw [if_neg h]
theorem ne_of {H : Hp} {a b : Addr} {o u : HO} (h : H a = some o) (h' : H b = some u) (d : o ≠ u) : a ≠ b := by
  intro e; subst e; rw [h] at h'; exact d (Option.some.inj h')
theorem ne_of_none {H : Hp} {a b : Addr} {o : HO} (h : H a = some o) (h' : H b = none) : a ≠ b := by
  intro e; subst e; rw [h] at h'; cases h'

section
variable (P : Program) (w : World)
def ObjOk (H : Hp) (h : Heap) (a : Addr) : HO → Prop
  | .lst xs => xs.length ≤ sizeLine ∧ ∃ (its : List Value) (n : Nat), Vals xs its ∧ h.get? a = some { cls := .type "list", data := .seq its.toArray n }
  | .tup xs => xs.length ≤ sizeLine ∧ ∃ its : List Value, Vals xs its ∧ IsTup h a its.toArray
  | .dK kvs => kvs.length ≤ sizeLine ∧ (a == sysModules) = false ∧ ∃ vs, KV kvs vs ∧ h.DictOf (mixKind P w) a vs
  | .dT kvs => kvs.length ≤ sizeLine ∧ (a == sysModules) = false ∧ ∃ xs : List (List Key × Addr × Value),
      Paired (fun (p : List Key × V) (q : List Key × Addr × Value) => p.1 = q.1 ∧ H q.2.1 = some (.tup (p.1.map kV)) ∧ RelV p.2 q.2.2) kvs xs ∧
      ∃ o es ep, h.get? a = some o ∧ o.ExactDict ∧ o.data = .dict es ep ∧ es.toList = xs.map (entryOfKey (tupleKind (mixKind P w))) ∧ (xs.map (·.1)).Nodup
  | .set S n => h.SetOf (intKind P w) a S n
  | .ins C dx fs => H dx = some (.own a) ∧ fs.length ≤ 1000 ∧ dx ≠ a ∧ h.get? a = some (PySem.W.instObj C dx) ∧
      ∃ mA, h.Ns1 dx mA ∧ (∀ f, RelO (fs.lookup f) (mA f)) ∧ PySem.Within mA (fs.map (·.1))
  | .own _ => ∃ o, h.get? a = some o
  | .xd fs => ∃ mA, h.Ns1 a mA ∧ ∀ f, RelO (fs.lookup f) (mA f)
  | .rng lo hi => ∃ t u v, h.get? a = some { cls := .type "range", data := .fields #[.int lo t, .int hi u, .int 1 v] }
  | .frz o u => h.get? a = some o ∧ ObjOk H h a u
  | .tbl ps => h.get? a = some { cls := .none, data := .fields ps }
  | .met f x => h.get? a = some (PySem.W.methodObj (.ref f) (.ref x))
  | .ext φ => φ h ∧ (∃ o, h.get? a = some o) ∧ ∀ h1 h2 : Heap, φ h1 → (∀ o, h1.get? a = some o → h2.get? a = some o) → φ h2
def HOk (H : Hp) (h : Heap) : Prop := ∀ a o, H a = some o → ObjOk P w H h a o
end

section
variable {P : Program} {w : World} {H H' : Hp} {h h' : Heap} {a : Addr} {o : HO}
theorem ObjOk.lt (x : ObjOk P w H h a o) : a < h.objs.size := by
  cases o with
  | lst xs => obtain ⟨_, _, _, _, e⟩ := x; exact Heap.lt_size e
  | tup xs => obtain ⟨_, _, _, p⟩ := x; exact p.lt
  | dK kvs => obtain ⟨_, _, _, _, o, _, _, e, _⟩ := x; exact Heap.lt_size e
  | dT kvs => obtain ⟨_, _, _, _, o, _, _, e, _⟩ := x; exact Heap.lt_size e
  | set S n => obtain ⟨o, _, _, _, e, _⟩ := x; exact Heap.lt_size e
  | ins C dx fs => obtain ⟨_, _, _, e, _⟩ := x; exact Heap.lt_size e
  | own y => obtain ⟨_, e⟩ := x; exact Heap.lt_size e
  | xd fs => obtain ⟨_, ⟨_, _, _, e, _⟩, _⟩ := x; exact Heap.lt_size e
  | rng lo hi => obtain ⟨_, _, _, e⟩ := x; exact Heap.lt_size e
  | frz ob u => obtain ⟨e, _⟩ := x; exact Heap.lt_size e
  | tbl ps => exact Heap.lt_size (show h.get? a = some _ from x)
  | met f y => exact Heap.lt_size (show h.get? a = some _ from x)
  | ext φ => obtain ⟨_, ⟨_, e⟩, _⟩ := x; exact Heap.lt_size e
theorem Paired.mapP {α β : Type} {F G : α → β → Prop} : ∀ {l₁ : List α} {l₂ : List β}, Paired F l₁ l₂ → (∀ a b, F a b → G a b) → Paired G l₁ l₂
  | _, _, .nil, _ => .nil
  | _, _, .cons r t, f => .cons (f _ _ r) (Paired.mapP t f)
theorem ObjOk.stay (x : ObjOk P w H h a o) (k : ∀ b u, (b = a ∨ H b = some (.own a)) → h.get? b = some u → h'.get? b = some u)
    (ho : ∀ b, H b = some (.own a) → H' b = some (.own a)) (ht : ∀ b xs, H b = some (.tup xs) → H' b = some (.tup xs)) : ObjOk P w H' h' a o := by
  induction o with
  | lst xs => obtain ⟨z, its, n, r, e⟩ := x; exact ⟨z, its, n, r, k _ _ (.inl rfl) e⟩
  | tup xs => obtain ⟨z, its, r, ob, e, c⟩ := x; exact ⟨z, its, r, ob, k _ _ (.inl rfl) e, c⟩
  | dK kvs => obtain ⟨z, y, vs, r, ob, es, ep, e, c⟩ := x; exact ⟨z, y, vs, r, ob, es, ep, k _ _ (.inl rfl) e, c⟩
  | dT kvs =>
    obtain ⟨z, y, xs, r, ob, es, ep, e, c⟩ := x
    exact ⟨z, y, xs, Paired.mapP r fun p q z => ⟨z.1, ht _ _ z.2.1, z.2.2⟩, ob, es, ep, k _ _ (.inl rfl) e, c⟩
  | set S n => obtain ⟨ob, es, ep, t, e, c⟩ := x; exact ⟨ob, es, ep, t, k _ _ (.inl rfl) e, c⟩
  | ins C dx fs =>
    obtain ⟨d, z, ne, e, mA, ⟨od, es, ep, e2, c⟩, r⟩ := x
    exact ⟨ho _ d, z, ne, k _ _ (.inl rfl) e, mA, ⟨od, es, ep, k _ _ (.inr d) e2, c⟩, r⟩
  | own y => obtain ⟨ob, e⟩ := x; exact ⟨ob, k _ _ (.inl rfl) e⟩
  | xd fs => obtain ⟨mA, ⟨od, es, ep, e, c⟩, r⟩ := x; exact ⟨mA, ⟨od, es, ep, k _ _ (.inl rfl) e, c⟩, r⟩
  | rng lo hi => obtain ⟨t, u, v, e⟩ := x; exact ⟨t, u, v, k _ _ (.inl rfl) e⟩
  | frz ob u ih => obtain ⟨e, q⟩ := x; exact ⟨k _ _ (.inl rfl) e, ih q⟩
  | tbl ps =>
    have e : h.get? a = some { cls := .none, data := .fields ps } := x
    show h'.get? a = some { cls := .none, data := .fields ps }
    exact k a _ (.inl rfl) e
  | met f y =>
    have e : h.get? a = some (PySem.W.methodObj (.ref f) (.ref y)) := x
    show h'.get? a = some (PySem.W.methodObj (.ref f) (.ref y))
    exact k a _ (.inl rfl) e
  | ext φ => obtain ⟨p, ⟨o, e⟩, st⟩ := x; exact ⟨st _ _ p fun o q => k _ _ (.inl rfl) q, ⟨o, k _ _ (.inl rfl) e⟩, st⟩
theorem HOk.lt (x : HOk P w H h) (e : H a = some o) : a < h.objs.size := (x a o e).lt
theorem HOk.fresh (x : HOk P w H h) (e : h.objs.size ≤ a) : H a = none := by
  cases q : H a with
  | none => rfl
  | some u => exact absurd (Nat.lt_of_lt_of_le (x.lt q) e) (Nat.lt_irrefl _)
theorem HOk.kept (x : HOk P w H h) (k : ∀ b u, h.get? b = some u → h'.get? b = some u) : HOk P w H h' := fun a o e =>
  (x a o e).stay (fun b u _ q => k b u q) (fun _ q => q) fun _ _ q => q
theorem HOk.laid (x : HOk P w H h) (k : ∀ b u, h.get? b = some u → h'.get? b = some u) (hp : h.objs.size ≤ a) (new : ObjOk P w (upd H a o) h' a o) : HOk P w (upd H a o) h' := fun b u e => by
  have hn := x.fresh hp
  by_cases hb : b = a
  · subst hb; rw [upd_same] at e; cases e; exact new
  · rw [upd_ne hb] at e
    exact (x b u e).stay (fun c v _ q => k c v q) (fun c q => by rw [upd_ne (ne_of_none q hn)]; exact q) fun c xs q => by rw [upd_ne (ne_of_none q hn)]; exact q
end

def Rd (H : Hp) (a : Addr) (u : HO) : Prop := H a = some u ∨ ∃ o, H a = some (.frz o u)
theorem Rd.ok {P : Program} {w : World} {H : Hp} {h : Heap} {a : Addr} {u : HO} (r : Rd H a u) (x : HOk P w H h) : ObjOk P w H h a u := by
  rcases r with r | ⟨o, r⟩
  · exact x a u r
  · obtain ⟨_, q⟩ := x a _ r
    exact q
def Mut : Option HO → Prop
  | some (.lst _) => True
  | some (.dK _) => True
  | some (.dT _) => True
  | some (.set _ _) => True
  | some (.ins _ _ _) => True
  | some (.ext _) => True
  | _ => False
section
variable {P : Program} {w : World} {H : Hp} {h h' : Heap} {x e : Addr} {o' : HO}
theorem HOk.write (ok : HOk P w H h) (mu : Mut (H x)) (he : e = x ∨ H e = some (.own x)) (k : ∀ b u, b ≠ e → h.get? b = some u → h'.get? b = some u) (heo : ∃ u, h'.get? e = some u)
    (new : ObjOk P w (upd H x o') h' x o') : HOk P w (upd H x o') h' := fun b u q => by
  have nown : ∀ c y, H c = some (.own y) → c ≠ x := fun c y r z => by subst z; rw [r] at mu; exact mu
  have ntup : ∀ c xs, H c = some (.tup xs) → c ≠ x := fun c xs r z => by subst z; rw [r] at mu; exact mu
  by_cases hb : b = x
  · subst hb; rw [upd_same] at q; cases q; exact new
  · rw [upd_ne hb] at q
    by_cases hbe : b = e
    · have q' : H b = some (.own x) := by
        rcases he with z | z
        · exact absurd (hbe.trans z) hb
        · rw [hbe]; exact z
      rw [q] at q'; cases q'
      obtain ⟨v, hv⟩ := heo
      exact ⟨v, by rw [hbe]; exact hv⟩
    · refine (ok b u q).stay (fun c v hc r => k c v ?_ r) (fun c r => by rw [upd_ne (nown c b r)]; exact r) fun c xs r => by rw [upd_ne (ntup c xs r)]; exact r
      rcases hc with rfl | hc
      · exact hbe
      · rintro rfl
        rcases he with z | z
        · exact nown c b hc z
        · rw [hc] at z; cases z; exact hb rfl
end

structure Un (fs ex : List Addr) (H H' : Hp) (h h' : Heap) : Prop where
  keep : ∀ b o, h.get? b = some o → H b = none → b ∉ fs → b ∉ ex → h'.get? b = some o
  slot : ∀ b o, h.get? b = some o → H b = none → b ∈ fs → b ∉ ex → ∃ sl, h'.get? b = some { o with slots := sl }
  free : ∀ b o, h.get? b = some o → H b = none → b ∉ ex → H' b = none
  there : ∀ b o, h.get? b = some o → b ∉ ex → ∃ o', h'.get? b = some o'
  tups : ∀ b xs, H b = some (.tup xs) → H' b = some (.tup xs)
  frzs : ∀ b o u, H b = some (.frz o u) → H' b = some (.frz o u)
  tbls : ∀ b ps, H b = some (.tbl ps) → ∃ more, H' b = some (.tbl (ps ++ more))
section
variable {fs fs' ex ex' : List Addr} {H H1 H2 : Hp} {h h1 h2 h' : Heap} {a x e : Addr} {o : HO}
theorem Un.any (u : Un fs ex H H1 h h1) {b : Addr} {ob : Obj} (q : h.get? b = some ob) (n : H b = none) (hx : b ∉ ex) : ∃ sl, h1.get? b = some { ob with slots := sl } := by
  by_cases hb : b ∈ fs
  · exact u.slot b ob q n hb hx
  · exact ⟨ob.slots, u.keep b ob q n hb hx⟩
theorem Un.kept (k : ∀ b u, h.get? b = some u → h'.get? b = some u) : Un fs ex H H h h' :=
  ⟨fun b ob q _ _ _ => k b ob q, fun b ob q _ _ _ => ⟨ob.slots, k b ob q⟩, fun _ _ _ n _ => n, fun b ob q _ => ⟨ob, k b ob q⟩, fun _ _ q => q, fun _ _ _ q => q, fun _ ps q => ⟨#[], by rw [q]; simp⟩⟩
theorem Un.refl : Un fs ex H H h h := Un.kept fun _ _ q => q
theorem Un.laid (k : ∀ b u, h.get? b = some u → h'.get? b = some u) (hp : h.objs.size ≤ a) (hn : H a = none) : Un fs ex H (upd H a o) h h' where
  keep := fun b u q _ _ _ => k b u q
  slot := fun b u q _ _ _ => ⟨u.slots, k b u q⟩
  free := fun b u q n _ => by rw [upd_ne (Nat.ne_of_lt (Nat.lt_of_lt_of_le (Heap.lt_size q) hp))]; exact n
  there := fun b u q _ => ⟨u, k b u q⟩
  tups := fun b xs q => by rw [upd_ne (ne_of_none q hn)]; exact q
  frzs := fun b u xs q => by rw [upd_ne (ne_of_none q hn)]; exact q
  tbls := fun b ps q => ⟨#[], by rw [upd_ne (ne_of_none q hn), q]; simp⟩
theorem Un.write (mu : Mut (H x)) (he : e = x ∨ H e = some (.own x)) (k : ∀ b u, b ≠ e → h.get? b = some u → h'.get? b = some u) (heo : ∃ u, h'.get? e = some u) : Un fs ex H (upd H x o) h h' := by
  have hx : ∀ b, H b = none → b ≠ x := fun b n z => by subst z; rw [n] at mu; exact mu
  have hb : ∀ b, H b = none → b ≠ e := fun b n z => by
    subst z
    rcases he with r | r
    · exact hx b n r
    · rw [n] at r; cases r
  have hm : ∀ b u, H b = some u → ¬ Mut (some u) → b ≠ x := fun b u q nm z => by subst z; rw [q] at mu; exact nm mu
  refine ⟨fun b u q n _ _ => k b u (hb b n) q, fun b u q n _ _ => ⟨u.slots, k b u (hb b n) q⟩, fun b u q n _ => by rw [upd_ne (hx b n)]; exact n, fun b u q _ => ?_,
    fun b xs q => by rw [upd_ne (hm b _ q fun z => z)]; exact q, fun b u xs q => by rw [upd_ne (hm b _ q fun z => z)]; exact q, fun b ps q => ⟨#[], by rw [upd_ne (hm b _ q fun z => z), q]; simp⟩⟩
  by_cases hbe : b = e
  · subst hbe; exact heo
  · exact ⟨u, k b u hbe q⟩
end

def trk (h : Heap) (H : Hp) : List Addr := (List.range h.objs.size).filter fun a => (H a).isSome
def hidT (h : Heap) (H : Hp) : Heap := PySem.W.hideAll h (trk h H)
theorem hidT_size (h : Heap) (H : Hp) : (hidT h H).objs.size = h.objs.size := PySem.W.hideAll_size _ _
theorem hidT_get {h : Heap} {H : Hp} {b : Addr} {o : Obj} (e : h.get? b = some o) (n : H b = none) : (hidT h H).get? b = some o :=
  PySem.W.hideAll_get _ e fun hm => by
    have q : (H b).isSome = true := (List.mem_filter.mp hm).2
    rw [n] at q; simp at q
theorem of_hidT {h : Heap} {H : Hp} {b : Addr} {o : Obj} (e : (hidT h H).get? b = some o) : h.get? b = some o ∧ H b = none := by
  have e' : h.get? b = some o := PySem.W.of_hideAll (trk h H) e
  refine ⟨e', ?_⟩
  cases q : H b with
  | none => rfl
  | some x =>
    have hm : b ∈ trk h H := List.mem_filter.mpr ⟨List.mem_range.mpr (Heap.lt_size e'), by simp [q]⟩
    have z : (hidT h H).get? b = none := PySem.W.hideAll_none (trk h H) hm
    rw [z] at e; cases e

def allNews (g h : Heap) (L : Addr) : List (Addr × Obj) := (List.range h.objs.size).filterMap fun a => if a = L ∨ (g.get? a).isSome = true then none else (h.get? a).map fun o => (a, o)
def rest (g h : Heap) (L d : Addr) : List (Addr × Obj) := (allNews g h L).filter fun p => decide (p.1 ≠ d)
end L2

namespace L2
open PySem PySem.Spec PyProof.Rows

structure Mod (K : PySem.W.Frag) (mg : Str → Option Value) (base : Heap) : Prop where
  kin : K.In base
  glob : base.Ns mainGlobals mg
  blt : ∃ mb, base.Ns builtinsNs mb ∧ ∀ x : Str, x ≠ "__name__" → mb x = bootBuiltins x
  nolimit : base.NoLimit

structure Cx where
  prog : Program
  w : World
  K : PySem.W.Frag
  mg : Str → Option Value
  base : Heap
  A : Around
  N : List Str
  s₀ : Shared
  H₀ : Hp
  env : Env
  outer : List Env
  stack : List Env
  ex : List Addr
  fn : Str → Bool
  calm : Bool
  pn : List (Addr × Obj)
  xe : Value → Shared → Prop
def frs (l : List Env) : List Addr := l.filterMap (·.frame)
abbrev Cx.fs (X : Cx) : List Addr := frs X.outer

def Vis (sc : Scope) (x : Str) : Prop := sc.names.lookup x = some .local ∨ sc.names.lookup x = some .cell ∨ sc.names.lookup x = some .free
def Loc (sc : Scope) (x : Str) : Prop := sc.names.lookup x = some .local ∨ sc.names.lookup x = some .cell
def Look (env : Env) (h : Heap) (m : Str → Option Value) (x : Str) (u : Value) : Prop :=
  (env.kindOf x = some .local ∧ m x = some u) ∨ ((env.kindOf x = some .cell ∨ env.kindOf x = some .free) ∧ ∃ c, env.cells.lookup x = some c ∧ h.IsCell c (some u))

structure Cx.Ok (X : Cx) : Prop where
  mod : Mod X.K X.mg X.base
  kind : X.env.scope.kind = .function
  glob : X.env.globals = mainGlobals
  blt : X.env.builtins = builtinsNs
  above : X.s₀.heap.objs.size ≤ X.env.locals
  inj : ∀ x y c, X.env.cells.lookup x = some c → X.env.cells.lookup y = some c → x = y
  has : ∀ x, (X.env.kindOf x = some .cell ∨ X.env.kindOf x = some .free) → ∃ c, X.env.cells.lookup x = some c
  cab : ∀ x c, X.fn x = true → X.env.cells.lookup x = some c → X.s₀.heap.objs.size ≤ c
  hd : X.calm = true → X.A.handled = none
  frames : X.A.frames = some X.stack
  stk : X.stack = X.outer ∨ (X.stack = X.env :: X.outer ∧ X.env.frame = some X.env.locals)
  exf : ∀ b ∈ X.ex, b ≠ X.env.locals ∧ ∀ x c, X.env.cells.lookup x = some c → c ≠ b
  bs : ∀ b o, X.base.get? b = some o → X.s₀.heap.get? b = some o ∧ X.H₀ b = none
  bsz : X.base.objs.size ≤ X.s₀.heap.objs.size
  noex : ∀ b o, X.base.get? b = some o → b ∉ X.ex
  exfs : ∀ b ∈ X.ex, b ∉ X.fs
  funs : X.s₀.heap.FunFrames X.base X.outer
  frf : ∀ b ∈ X.fs, X.H₀ b = none

structure Inv (X : Cx) (pins : List (Addr × Obj)) (σ : List (Option V)) (H : Hp) (s : Shared) : Prop where
  ok : X.Ok
  os : s.os = X.s₀.os
  bare : AllBare s.gens
  base : Un X.fs X.ex X.H₀ H X.s₀.heap s.heap
  loc : ∃ m, s.heap.Ns X.env.locals m ∧ ∀ (i : Nat) (x : Str) (v : V), X.N[i]? = some x → σ[i]? = some (some v) → Vis X.env.scope x → ∃ u, RelV v u ∧ Look X.env s.heap m x u
  cell : ∀ x c, X.env.cells.lookup x = some c → ∃ v, s.heap.IsCell c v
  free : H X.env.locals = none
  freeC : ∀ x c, X.env.cells.lookup x = some c → H c = none
  pin : ∀ p ∈ X.pn ++ pins, s.heap.get? p.1 = some p.2 ∧ H p.1 = none ∧ p.1 ≠ X.env.locals ∧ p.1 ∉ X.fs ∧ ∀ v, p.2.data ≠ .cell v
  hok : HOk X.prog X.w H s.heap
  len : σ.length = X.N.length

section
variable {X : Cx} {pins : List (Addr × Obj)} {σ : List (Option V)} {H H' : Hp} {s : Shared} {h' : Heap}

theorem Cx.Ok.nofr (ok : X.Ok) {b : Addr} {o : Obj} (e : X.base.get? b = some o) : b ∉ X.fs := fun hb => by
  have := (ok.funs.mem hb).1
  rw [e] at this; cases this
theorem Inv.bs (I : Inv X pins σ H s) : ∀ b o, X.base.get? b = some o → s.heap.get? b = some o ∧ H b = none := fun b o e =>
  ⟨I.base.keep b o (I.ok.bs b o e).1 (I.ok.bs b o e).2 (I.ok.nofr e) (I.ok.noex b o e), I.base.free b o (I.ok.bs b o e).1 (I.ok.bs b o e).2 (I.ok.noex b o e)⟩
theorem Inv.bk (I : Inv X pins σ H s) : ∀ b o, X.base.get? b = some o → s.heap.get? b = some o := fun b o e => (I.bs b o e).1
theorem Inv.mod (I : Inv X pins σ H s) : Mod X.K X.mg X.base := I.ok.mod
theorem Inv.kIn (I : Inv X pins σ H s) : X.K.In s.heap := I.ok.mod.kin.keeps I.bk
theorem Inv.lt (I : Inv X pins σ H s) : X.env.locals < s.heap.objs.size := let ⟨_, hn, _⟩ := I.loc; hn.lt
theorem Inv.sz (I : Inv X pins σ H s) : X.s₀.heap.objs.size ≤ s.heap.objs.size := Nat.le_trans I.ok.above (Nat.le_of_lt I.lt)
theorem Inv.nofs (I : Inv X pins σ H s) {a : Addr} (h : s.heap.objs.size ≤ a) : a ∉ X.fs := fun hb => by
  obtain ⟨_, o, ho, _⟩ := I.ok.funs.mem hb
  exact absurd (Nat.lt_of_lt_of_le (Heap.lt_size ho) (Nat.le_trans I.sz h)) (Nat.lt_irrefl _)
theorem Inv.cne (I : Inv X pins σ H s) : ∀ x c, X.env.cells.lookup x = some c → c ≠ X.env.locals := fun x c e z => by
  obtain ⟨v, o, ho, hd⟩ := I.cell x c e
  obtain ⟨m, ⟨o', es, ep, ho', hd', _⟩, _⟩ := I.loc
  rw [z, ho'] at ho; cases ho; rw [hd'] at hd; cases hd
theorem Inv.funs (I : Inv X pins σ H s) : s.heap.FunFrames X.base X.outer := by
  have all : ∀ (l : List Env), (∀ b ∈ frs l, b ∈ X.fs) → X.s₀.heap.FunFrames X.base l → s.heap.FunFrames X.base l := by
    intro l
    induction l with
    | nil => intro _ _; trivial
    | cons env r ih =>
      intro hs hl
      obtain ⟨hk, ⟨L, o, hf, hn, ho, hd⟩, hr⟩ := hl
      have hL : L ∈ X.fs := hs L (by unfold frs; rw [List.filterMap_cons, hf]; exact List.mem_cons_self)
      obtain ⟨sl, e⟩ := I.base.slot L o ho (I.ok.frf L hL) hL fun z => I.ok.exfs L z hL
      exact ⟨hk, ⟨L, _, hf, hn, e, hd⟩, ih (fun b hb => hs b (by unfold frs; rw [List.filterMap_cons, hf]; exact List.mem_cons_of_mem _ hb)) hr⟩
  exact all X.outer (fun _ hb => hb) I.ok.funs

theorem Inv.stack (I : Inv X pins σ H s) : s.heap.FunFrames X.base X.stack := by
  rcases I.ok.stk with e | ⟨e, hf⟩
  · rw [e]; exact I.funs
  · rw [e]
    obtain ⟨m, hn, _⟩ := I.loc
    refine .cons (by rw [I.ok.kind]; decide) hf hn ?_ I.funs
    exact Heap.get?_none_of_le (Nat.le_trans I.ok.bsz I.ok.above)
theorem Inv.stkSub (I : Inv X pins σ H s) : ∀ b ∈ frs X.stack, b ∈ X.env.locals :: X.fs := fun b hb => by
  rcases I.ok.stk with e | ⟨e, hf⟩
  · rw [e] at hb; exact List.mem_cons_of_mem _ hb
  · rw [e] at hb
    unfold frs at hb
    rw [List.filterMap_cons, hf] at hb
    exact hb
theorem Inv.stkFree (I : Inv X pins σ H s) : ∀ b ∈ frs X.stack, H b = none := fun b hb => by
  rcases List.mem_cons.mp (I.stkSub b hb) with e | hb
  · rw [e]; exact I.free
  · obtain ⟨_, o, ho, _⟩ := I.ok.funs.mem hb
    exact I.base.free b o ho (I.ok.frf b hb) fun z => I.ok.exfs b z hb

theorem Inv.step {g' : Array GenState} {t' : Nat} {d' : Drawn} {ch : List Addr} (I : Inv X pins σ H s)
    (hch : ∀ b ∈ ch, (b ∈ X.ex ∨ X.s₀.heap.objs.size ≤ b) ∧ b ≠ X.env.locals ∧ (∀ x c, X.env.cells.lookup x = some c → c ≠ b) ∧ ∀ p ∈ X.pn ++ pins, p.1 ≠ b)
    (keep : ∀ b o, b ≠ X.env.locals → b ∉ X.fs → b ∉ ch → s.heap.get? b = some o → H b = none → h'.get? b = some o)
    (slot : ∀ b o, b ≠ X.env.locals → b ∈ X.fs → b ∉ ch → s.heap.get? b = some o → H b = none → ∃ sl, h'.get? b = some { o with slots := sl }) (free : ∀ b o, b ∉ ch → s.heap.get? b = some o → H b = none → H' b = none)
    (there : ∀ b o, b ∉ ch → s.heap.get? b = some o → ∃ o', h'.get? b = some o')
    (tups : ∀ b xs, H b = some (.tup xs) → H' b = some (.tup xs)) (frzs : ∀ b o u, H b = some (.frz o u) → H' b = some (.frz o u)) (tbls : ∀ b ps, H b = some (.tbl ps) → ∃ more, H' b = some (.tbl (ps ++ more)))
    (ns : ∀ m, s.heap.Ns X.env.locals m → h'.Ns X.env.locals m) (hok : HOk X.prog X.w H' h') (hg : AllBare g') :
    Inv X pins σ H' { s with heap := h', gens := g', drawn := d', toks := t' } := by
  have neL : ∀ b o, X.s₀.heap.get? b = some o → b ≠ X.env.locals := fun b o e => Nat.ne_of_lt (Nat.lt_of_lt_of_le (Heap.lt_size e) I.ok.above)
  have neC : ∀ b o, X.s₀.heap.get? b = some o → b ∉ X.ex → b ∉ ch := fun b o e hx hb => by
    rcases (hch b hb).1 with z | z
    · exact hx z
    · exact absurd (Nat.lt_of_lt_of_le (Heap.lt_size e) z) (Nat.lt_irrefl _)
  have cellK : ∀ x c, X.env.cells.lookup x = some c → ∀ v, s.heap.IsCell c v → h'.IsCell c v := fun x c e v ⟨o, ho, hd⟩ => by
    have nch : c ∉ ch := fun z => (hch c z).2.2.1 x c e rfl
    by_cases hc : c ∈ X.fs
    · obtain ⟨sl, q⟩ := slot c o (I.cne x c e) hc nch ho (I.freeC x c e)
      exact ⟨_, q, hd⟩
    · exact ⟨o, keep c o (I.cne x c e) hc nch ho (I.freeC x c e), hd⟩
  refine ⟨I.ok, I.os, hg, ⟨fun b o e n hb hx => ?_, fun b o e n hb hx => ?_, fun b o e n hx => ?_, fun b o e hx => ?_, fun b xs e => tups b xs (I.base.tups b xs e), fun b o xs e => frzs b o xs (I.base.frzs b o xs e), fun b ps e => ?_⟩, ?_, fun x c e => ?_, ?_, fun x c e => ?_, fun p hp => ?_, hok, I.len⟩
  · exact keep b o (neL b o e) hb (neC b o e hx) (I.base.keep b o e n hb hx) (I.base.free b o e n hx)
  · obtain ⟨sl, e1⟩ := I.base.slot b o e n hb hx
    obtain ⟨sl', e2⟩ := slot b _ (neL b o e) hb (neC b o e hx) e1 (I.base.free b o e n hx)
    exact ⟨sl', e2⟩
  · obtain ⟨o', e1⟩ := I.base.there b o e hx
    exact free b o' (neC b o e hx) e1 (I.base.free b o e n hx)
  · obtain ⟨o', e1⟩ := I.base.there b o e hx
    exact there b o' (neC b o e hx) e1
  · obtain ⟨m1, e1⟩ := I.base.tbls b ps e
    obtain ⟨m2, e2⟩ := tbls b _ e1
    exact ⟨m1 ++ m2, by rw [e2, Array.append_assoc]⟩
  · obtain ⟨m, hn, hl⟩ := I.loc
    refine ⟨m, ns m hn, fun i x v e1 e2 e3 => ?_⟩
    obtain ⟨u, r, l⟩ := hl i x v e1 e2 e3
    refine ⟨u, r, ?_⟩
    rcases l with l | ⟨k, c, e, z⟩
    · exact .inl l
    · exact .inr ⟨k, c, e, cellK x c e _ z⟩
  · obtain ⟨v, z⟩ := I.cell x c e
    exact ⟨v, cellK x c e v z⟩
  · obtain ⟨m, ⟨o, _, _, ho, _⟩, _⟩ := I.loc
    exact free _ o (fun z => (hch _ z).2.1 rfl) ho I.free
  · obtain ⟨v, o, ho, hd⟩ := I.cell x c e
    exact free c o (fun z => (hch c z).2.2.1 x c e rfl) ho (I.freeC x c e)
  · obtain ⟨e, n, ne, nf, d⟩ := I.pin p hp
    have nch : p.1 ∉ ch := fun z => (hch p.1 z).2.2.2 p hp rfl
    exact ⟨keep p.1 p.2 ne nf nch e n, free p.1 p.2 nch e n, ne, nf, d⟩
theorem Inv.un {t' : Nat} (I : Inv X pins σ H s) (u : Un X.fs [] H H' s.heap h') (hok : HOk X.prog X.w H' h') : Inv X pins σ H' { s with heap := h', toks := t' } := by
  obtain ⟨m, ⟨o, es, ep, ho, r⟩, _⟩ := id I.loc
  obtain ⟨sl, hL⟩ := u.any ho I.free (by simp)
  exact I.step (g' := s.gens) (d' := s.drawn) (ch := []) (fun _ z => nomatch z) (fun b o _ hb _ e n => u.keep b o e n hb (by simp)) (fun b o _ hb _ e n => u.slot b o e n hb (by simp)) (fun b o _ e n => u.free b o e n (by simp)) (fun b o _ e => u.there b o e (by simp)) u.tups u.frzs u.tbls (fun m' hm => by
    obtain ⟨o', es', ep', ho', r'⟩ := hm
    rw [ho] at ho'; cases ho'
    exact ⟨_, es', ep', hL, r'⟩) hok I.bare
theorem Inv.call {g' : Array GenState} {t' : Nat} {d' : Drawn} {ch : List Addr} (I : Inv X pins σ H s) (u : Un (frs X.stack) ch H H' s.heap h') (hok : HOk X.prog X.w H' h') (hg : AllBare g')
    (hch : ∀ b ∈ ch, (b ∈ X.ex ∨ X.s₀.heap.objs.size ≤ b) ∧ b ≠ X.env.locals ∧ (∀ x c, X.env.cells.lookup x = some c → c ≠ b) ∧ ∀ p ∈ X.pn ++ pins, p.1 ≠ b) :
    Inv X pins σ H' { s with heap := h', gens := g', drawn := d', toks := t' } := by
  obtain ⟨m, ⟨o, es, ep, ho, r⟩, _⟩ := id I.loc
  obtain ⟨sl, hL⟩ := u.any ho I.free fun z => (hch _ z).2.1 rfl
  exact I.step (ch := ch) hch (fun b o hL hb hc e n => u.keep b o e n (fun z => (List.mem_cons.mp (I.stkSub b z)).elim hL hb) hc) (fun b o _ _ hc e n => u.any e n hc) (fun b o hc e n => u.free b o e n hc) (fun b o hc e => u.there b o e hc) u.tups u.frzs u.tbls (fun m' hm => by
    obtain ⟨o', es', ep', ho', r'⟩ := hm
    rw [ho] at ho'; cases ho'
    exact ⟨_, es', ep', hL, r'⟩) hok hg
theorem Inv.turned {t' : Nat} {it : Addr} (I : Inv X pins σ H s) (k : ∀ b o, b ≠ it → s.heap.get? b = some o → h'.get? b = some o) (hn : H it = none) (hL : it ≠ X.env.locals)
    (h1 : it ∈ X.ex ∨ X.s₀.heap.objs.size ≤ it) (h2 : ∀ x c, X.env.cells.lookup x = some c → c ≠ it) (h3 : ∀ p ∈ X.pn ++ pins, p.1 ≠ it) : Inv X pins σ H { s with heap := h', toks := t' } := by
  have nit : ∀ b u, H b = some u → b ≠ it := fun b u e z => by rw [z, hn] at e; cases e
  refine I.step (g' := s.gens) (d' := s.drawn) (ch := [it]) (fun b hb => ?_) (fun b o _ _ hc e _ => k b o (fun z => hc (by simp [z])) e) (fun b o _ _ hc e _ => ⟨o.slots, k b o (fun z => hc (by simp [z])) e⟩) (fun _ _ _ _ n => n)
    (fun b o hc e => ⟨o, k b o (fun z => hc (by simp [z])) e⟩) (fun _ _ e => e) (fun _ _ _ e => e) (fun b ps e => ⟨#[], by rw [e]; simp⟩) (fun m hm => ?_) (fun b u e => ?_) I.bare
  · have e : b = it := by simpa using hb
    subst e
    exact ⟨h1, hL, h2, h3⟩
  · obtain ⟨o, es, ep, ho, r⟩ := hm
    exact ⟨o, es, ep, k _ o (Ne.symm hL) ho, r⟩
  · refine (I.hok b u e).stay (fun c v hc q => k c v ?_ q) (fun _ q => q) fun _ _ q => q
    rcases hc with z | z
    · rw [z]; exact nit b u e
    · exact nit c _ z
theorem Inv.tok (I : Inv X pins σ H s) (t : Nat) : Inv X pins σ H { s with toks := t } := I.un (h' := s.heap) (t' := t) Un.refl I.hok
theorem Inv.kept {t' : Nat} (I : Inv X pins σ H s) (k : ∀ b u, s.heap.get? b = some u → h'.get? b = some u) : Inv X pins σ H { s with heap := h', toks := t' } := I.un (Un.kept k) (I.hok.kept k)
theorem Inv.laid {a : Addr} {o : HO} {t' : Nat} (I : Inv X pins σ H s) (k : ∀ b u, s.heap.get? b = some u → h'.get? b = some u) (hp : s.heap.objs.size ≤ a) (new : ObjOk X.prog X.w (upd H a o) h' a o) :
    Inv X pins σ (upd H a o) { s with heap := h', toks := t' } := I.un (Un.laid k hp (I.hok.fresh hp)) (I.hok.laid k hp new)
theorem Inv.write {x e : Addr} {o : HO} {t' : Nat} (I : Inv X pins σ H s) (mu : Mut (H x)) (he : e = x ∨ H e = some (.own x)) (k : ∀ b u, b ≠ e → s.heap.get? b = some u → h'.get? b = some u) (heo : ∃ u, h'.get? e = some u)
    (new : ObjOk X.prog X.w (upd H x o) h' x o) : Inv X pins σ (upd H x o) { s with heap := h', toks := t' } := I.un (Un.write mu he k heo) (I.hok.write mu he k heo new)
theorem Inv.pins_of {pins' : List (Addr × Obj)} (I : Inv X pins σ H s) (h : ∀ p ∈ pins', s.heap.get? p.1 = some p.2 ∧ H p.1 = none ∧ p.1 ≠ X.env.locals ∧ p.1 ∉ X.fs ∧ ∀ v, p.2.data ≠ .cell v) : Inv X pins' σ H s :=
  ⟨I.ok, I.os, I.bare, I.base, I.loc, I.cell, I.free, I.freeC, fun p hp => (List.mem_append.mp hp).elim (fun z => I.pin p (List.mem_append_left _ z)) (h p), I.hok, I.len⟩

theorem nodup_ix {N : List Str} (hN : N.Nodup) {i j : Nat} {x : Str} (a : N[i]? = some x) (b : N[j]? = some x) : i = j := by
  obtain ⟨h1, e1⟩ := List.getElem?_eq_some_iff.mp a
  obtain ⟨h2, e2⟩ := List.getElem?_eq_some_iff.mp b
  exact (List.getElem_inj hN).mp (e1.trans e2.symm)

theorem store_ok2 {M : Model} {A : Around} {E : Value → Shared → Prop} {i : Nat} {x : Str} {v : V} {u : Value} {Q : Unit → Shared → Prop} (I : Inv X pins σ H s) (hN : X.N.Nodup) (hi : X.N[i]? = some x) (hx : Loc X.env.scope x) (r : RelV v u)
    (h : ∀ s', Inv X pins (σ.set i (some v)) H s' → (∃ a, Heap.SameBut a s.heap s'.heap ∧ (a = X.env.locals ∨ X.env.cells.lookup x = some a)) → Q () s') (hf : X.fn x = true ∨ X.env.scope.names.lookup x = some .local := by first | exact .inl rfl | exact .inr rfl | assumption) : wpAny M A (storeName X.env x u) Q E s := by
  obtain ⟨m, hn, hl⟩ := id I.loc
  have hcls : (X.env.scope.kind == .class || (X.env.scope.kind == .module && X.env.locals != X.env.globals)) = false := by rw [I.ok.kind]; rfl
  have hiσ : i < σ.length := by rw [I.len]; exact (List.getElem?_eq_some_iff.mp hi).1
  have cne := I.cne
  have tracked : ∀ {a : Addr} {h' : Heap}, (∃ o, s.heap.get? a = some o ∧ H a = none) → Heap.SameBut a s.heap h' → HOk X.prog X.w H h' := fun {a h'} ha hs b ob e => by
    obtain ⟨_, _, hfree⟩ := ha
    refine (I.hok b ob e).stay (fun c w' hc q => (hs.2 c ?_).trans q) (fun _ q => q) fun _ _ q => q
    rintro rfl
    rcases hc with rfl | hc
    · rw [hfree] at e; cases e
    · rw [hfree] at hc; cases hc
  rcases hx with hk | hk
  · refine wpAny_storeName_local hk hn (fun h' hn' hs => ?_) hcls
    obtain ⟨oL, _, _, hoL, _⟩ := id hn
    refine h _ ⟨I.ok, I.os, I.bare, ⟨fun b o e n hb hx => ?_, fun b o e n hb hx => ?_, I.base.free, fun b o e hx => ?_, I.base.tups, I.base.frzs, I.base.tbls⟩, ⟨_, hn', fun j y v' e1 e2 e3 => ?_⟩, fun y c e => ?_, I.free, I.freeC, fun p hp => ?_, tracked ⟨oL, hoL, I.free⟩ hs, by simpa using I.len⟩ ⟨_, hs, .inl rfl⟩
    · exact (hs.2 b (Nat.ne_of_lt (Nat.lt_of_lt_of_le (Heap.lt_size e) I.ok.above))).trans (I.base.keep b o e n hb hx)
    · obtain ⟨sl, e1⟩ := I.base.slot b o e n hb hx
      exact ⟨sl, (hs.2 b (Nat.ne_of_lt (Nat.lt_of_lt_of_le (Heap.lt_size e) I.ok.above))).trans e1⟩
    · obtain ⟨o', e1⟩ := I.base.there b o e hx
      exact ⟨o', (hs.2 b (Nat.ne_of_lt (Nat.lt_of_lt_of_le (Heap.lt_size e) I.ok.above))).trans e1⟩
    · by_cases hj : j = i
      · subst hj
        rw [hi] at e1; cases e1
        rw [List.getElem?_set_self hiσ] at e2
        cases e2
        exact ⟨u, r, .inl ⟨hk, by simp⟩⟩
      · rw [List.getElem?_set_ne (Ne.symm hj)] at e2
        obtain ⟨u', r', q⟩ := hl j y v' e1 e2 e3
        refine ⟨u', r', ?_⟩
        rcases q with ⟨k, e⟩ | ⟨k, c, e, z⟩
        · refine .inl ⟨k, ?_⟩
          have : y ≠ x := fun e => hj (nodup_ix hN e1 (e ▸ hi))
          simp [this, e]
        · exact .inr ⟨k, c, e, z.sameBut hs (cne y c e)⟩
    · obtain ⟨w', z⟩ := I.cell y c e
      exact ⟨w', z.sameBut hs (cne y c e)⟩
    · obtain ⟨e, n, ne, nf, d⟩ := I.pin p hp
      exact ⟨(hs.2 p.1 ne).trans e, n, ne, nf, d⟩
  · have hfn : X.fn x = true := by
      rcases hf with z | z
      · exact z
      · rw [z] at hk; cases hk
    obtain ⟨c, hc⟩ := I.ok.has x (.inl hk)
    obtain ⟨w', z⟩ := I.cell x c hc
    refine wpAny_storeName_cell I.ok.kind hk hc z (fun h' hc' hs => ?_)
    obtain ⟨oc, hoc, hocd⟩ := id z
    refine h { s with heap := h' } ⟨I.ok, I.os, I.bare, ⟨fun b o e n hb hx => ?_, fun b o e n hb hx => ?_, I.base.free, fun b o e hx => ?_, I.base.tups, I.base.frzs, I.base.tbls⟩, ⟨m, hn.sameBut hs (Ne.symm (cne x c hc)), fun j y v' e1 e2 e3 => ?_⟩, fun y c' e => ?_, I.free, I.freeC, fun p hp => ?_, tracked ⟨oc, hoc, I.freeC x c hc⟩ hs, by simpa using I.len⟩ ⟨c, hs, .inr hc⟩
    · exact (hs.2 b (Nat.ne_of_lt (Nat.lt_of_lt_of_le (Heap.lt_size e) (I.ok.cab x c hfn hc)))).trans (I.base.keep b o e n hb hx)
    · obtain ⟨sl, e1⟩ := I.base.slot b o e n hb hx
      exact ⟨sl, (hs.2 b (Nat.ne_of_lt (Nat.lt_of_lt_of_le (Heap.lt_size e) (I.ok.cab x c hfn hc)))).trans e1⟩
    · obtain ⟨o', e1⟩ := I.base.there b o e hx
      exact ⟨o', (hs.2 b (Nat.ne_of_lt (Nat.lt_of_lt_of_le (Heap.lt_size e) (I.ok.cab x c hfn hc)))).trans e1⟩
    · by_cases hj : j = i
      · subst hj
        rw [hi] at e1; cases e1
        rw [List.getElem?_set_self hiσ] at e2
        cases e2
        exact ⟨u, r, .inr ⟨.inl hk, c, hc, hc'⟩⟩
      · rw [List.getElem?_set_ne (Ne.symm hj)] at e2
        obtain ⟨u', r', q⟩ := hl j y v' e1 e2 e3
        refine ⟨u', r', ?_⟩
        rcases q with q | ⟨k, c', e, z'⟩
        · exact .inl q
        · refine .inr ⟨k, c', e, z'.sameBut hs ?_⟩
          rintro rfl
          exact hj (nodup_ix hN e1 (I.ok.inj _ _ _ e hc ▸ hi))
    · by_cases hcc : c' = c
      · subst hcc; exact ⟨_, hc'⟩
      · obtain ⟨w2, z2⟩ := I.cell y c' e
        exact ⟨w2, z2.sameBut hs hcc⟩
    · obtain ⟨e, n, ne, nf, d⟩ := I.pin p hp
      refine ⟨(hs.2 p.1 ?_).trans e, n, ne, nf, d⟩
      intro q
      rw [q, hoc] at e
      have q' : oc = p.2 := Option.some.inj e
      exact d w' (by rw [← q']; exact hocd)
theorem store_ok {M : Model} {A : Around} {E : Value → Shared → Prop} {i : Nat} {x : Str} {v : V} {u : Value} {Q : Unit → Shared → Prop} (I : Inv X pins σ H s) (hN : X.N.Nodup) (hi : X.N[i]? = some x) (hx : Loc X.env.scope x) (r : RelV v u)
    (h : ∀ s', Inv X pins (σ.set i (some v)) H s' → Q () s') (hf : X.fn x = true ∨ X.env.scope.names.lookup x = some .local := by first | exact .inl rfl | exact .inr rfl | assumption) : wpAny M A (storeName X.env x u) Q E s :=
  store_ok2 I hN hi hx r (fun s' I' _ => h s' I') hf
theorem Inv.call' {s' : Shared} {ch : List Addr} (I : Inv X pins σ H s) (ho : s'.os = s.os) (u : Un (frs X.stack) ch H H' s.heap s'.heap) (hok : HOk X.prog X.w H' s'.heap) (hg : AllBare s'.gens)
    (hch : ∀ b ∈ ch, (b ∈ X.ex ∨ X.s₀.heap.objs.size ≤ b) ∧ b ≠ X.env.locals ∧ (∀ x c, X.env.cells.lookup x = some c → c ≠ b) ∧ ∀ p ∈ X.pn ++ pins, p.1 ≠ b) : Inv X pins σ H' s' := by
  obtain ⟨h', g', d', t', o'⟩ := s'
  have e : o' = s.os := ho
  subst e
  exact I.call (g' := g') (t' := t') (d' := d') u hok hg hch
end

abbrev XK := Value → Option Addr → Hp → Prop
abbrev St := List (Option V)
abbrev VK := V → Hp → Prop
abbrev TE := St → Hp → VK → Prop
abbrev TT := St → Hp → (Bool → Hp → Prop) → Prop
abbrev TA := St → Hp → (List V → Hp → Prop) → Prop
structure Ends where
  nx : St → Hp → Prop
  rt : VK
  bk : St → Hp → Prop := fun _ _ => False
  ct : St → Hp → Prop := fun _ _ => False
abbrev TS := Ends → St → Hp → Prop

def EP (X : Cx) (pins : List (Addr × Obj)) (σ : St) (Q : VK) (u : Value) (s' : Shared) : Prop := ∃ v H', Inv X pins σ H' s' ∧ RelV v u ∧ Q v H'
def TP (X : Cx) (pins : List (Addr × Obj)) (σ : St) (Q : Bool → Hp → Prop) (b : Bool) (s' : Shared) : Prop := ∃ H', Inv X pins σ H' s' ∧ Q b H'
def AP (X : Cx) (pins : List (Addr × Obj)) (σ : St) (Q : List V → Hp → Prop) (us : List Value) (s' : Shared) : Prop := ∃ vs H', Inv X pins σ H' s' ∧ Vals vs us ∧ Q vs H'
def SP (X : Cx) (pins : List (Addr × Obj)) (D : Ends) (f : Flow) (s' : Shared) : Prop :=
  match f with
  | .next => ∃ σ' H', Inv X pins σ' H' s' ∧ D.nx σ' H'
  | .brk => ∃ σ' H', Inv X pins σ' H' s' ∧ D.bk σ' H'
  | .cont => ∃ σ' H', Inv X pins σ' H' s' ∧ D.ct σ' H'
  | .ret u => ∃ v σ' H', Inv X pins σ' H' s' ∧ RelV v u ∧ D.rt v H'

def PE (X : Cx) (e : Expr) (t : TE) : Prop :=
  ∀ (pins : List (Addr × Obj)) (s : Shared) (σ : St) (H : Hp) (Q : VK), Inv X pins σ H s → t σ H Q → wpAny (model X.prog X.w) X.A (eval e X.env) (EP X pins σ Q) X.xe s
def PT (X : Cx) (e : Expr) (t : TT) : Prop :=
  ∀ (pins : List (Addr × Obj)) (s : Shared) (σ : St) (H : Hp) (Q : Bool → Hp → Prop), Inv X pins σ H s → t σ H Q → wpAny (model X.prog X.w) X.A (isTrue e X.env (eval e X.env)) (TP X pins σ Q) X.xe s
def PW (X : Cx) (e : Expr) (t : TT) : Prop :=
  ∀ (whole : Sem Value) (pins : List (Addr × Obj)) (s : Shared) (σ : St) (H : Hp) (Q : Bool → Hp → Prop), Inv X pins σ H s → t σ H Q → wpAny (model X.prog X.w) X.A (isTrue e X.env whole) (TP X pins σ Q) X.xe s
theorem PW.pt {X : Cx} {e : Expr} {t : TT} (h : PW X e t) : PT X e t := h _
def PA (X : Cx) (es : List Expr) (t : TA) : Prop :=
  ∀ (pos : Pos) (pins : List (Addr × Obj)) (s : Shared) (σ : St) (H : Hp) (Q : List V → Hp → Prop), Inv X pins σ H s → t σ H Q → wpAny (model X.prog X.w) X.A (spliced (backTo pos (starEach es X.env))) (AP X pins σ Q) X.xe s
def PS (X : Cx) (st : Stmt) (t : TS) : Prop :=
  ∀ (pins : List (Addr × Obj)) (s : Shared) (σ : St) (H : Hp) (D : Ends), Inv X pins σ H s → t D σ H → wpAny (model X.prog X.w) X.A (exec st X.env) (SP X pins D) X.xe s
def PSs (X : Cx) (st : List Stmt) (t : TS) : Prop :=
  ∀ (pins : List (Addr × Obj)) (s : Shared) (σ : St) (H : Hp) (D : Ends), Inv X pins σ H s → t D σ H → wpAny (model X.prog X.w) X.A (execs st X.env) (SP X pins D) X.xe s
theorem thn {α : Type} {t : Sem α} {Q Q' : α → Shared → Prop} {M : Model} {A : Around} {E : Value → Shared → Prop} {s : Shared} (h : wpAny M A t Q E s) (hQ : ∀ a s, Q a s → Q' a s) : wpAny M A t Q' E s := wpAny_mono h hQ fun _ _ x => x
end L2

namespace L2
open PySem PySem.Spec PyProof.Rows
section
variable {X : Cx}

theorem bin {a b : Expr} {ta tb : TE} (ha : PE X a ta) (hb : PE X b tb) {pins : List (Addr × Obj)} {s : Shared} {σ : St} {H : Hp} {R : V → V → Hp → Prop} (I : Inv X pins σ H s) (h : ta σ H fun x H1 => tb σ H1 fun y H2 => R x y H2)
    {α : Type} {Q : α → Shared → Prop} {f : Value → Value → Sem α}
    (hf : ∀ v u s2 x y H2, Inv X pins σ H2 s2 → RelV x v → RelV y u → R x y H2 → wpAny (model X.prog X.w) X.A (f v u) Q X.xe s2) :
    wpAny (model X.prog X.w) X.A (eval a X.env) (fun v s₁ => wpAny (model X.prog X.w) X.A (eval b X.env) (fun u s₂ => wpAny (model X.prog X.w) X.A (f v u) Q X.xe s₂) X.xe s₁) X.xe s := by
  refine thn (ha pins s σ H _ I h) fun v s1 ⟨x, H1, I1, r1, q1⟩ => ?_
  refine thn (hb pins s1 σ H1 _ I1 q1) fun u s2 ⟨y, H2, I2, r2, q2⟩ => ?_
  exact hf v u s2 x y H2 I2 r1 r2 q2

def tVar (i : Nat) : TE := fun σ H Q => ∃ v, σ[i]? = some (some v) ∧ Q v H
def tC (v : V) : TE := fun _ H Q => Q v H
theorem pe_var {i : Nat} {x : Str} {pos : Pos} (hN : X.N[i]? = some x) (hv : Vis X.env.scope x) (hd : (x == ("__debug__" : Str)) = false := by decide) (hcd : (x == ("__classdict__" : Str)) = false := by decide) : PE X (.Name x pos) (tVar i) := by
  intro pins s σ H Q I h
  obtain ⟨v, e, h⟩ := h
  obtain ⟨m, hn, hl⟩ := I.loc
  obtain ⟨u, r, l⟩ := hl i x v hN e hv
  have fin : EP X pins σ Q u s := ⟨v, H, I, r, h⟩
  rcases l with ⟨hk, hm⟩ | ⟨hk, c, hc, hcell⟩
  · exact wpAny_Name (wpAny_loadName_local I.ok.kind hk hn hm fin) hd
  · rcases hk with hk | hk
    · exact wpAny_Name (wpAny_loadName_cell I.ok.kind hk hc hcell fin) hd
    · exact wpAny_Name (wpAny_loadName_free I.ok.kind hk hc hcell fin hcd) hd
theorem pe_int {i j pos} : PE X (.Constant (.int i) j pos) (tC (.int i)) := fun _ _ _ H _ I h => wpAny_Constant_int ⟨.int i, H, I.tok _, ⟨_, rfl⟩, h⟩
theorem pe_bl {b j pos} : PE X (.Constant (.bool b) j pos) (tC (.bl b)) := fun _ _ _ H _ I h => Constant_bool ⟨.bl b, H, I, rfl, h⟩
theorem pe_non {j pos} : PE X (.Constant .none j pos) (tC .non) := fun _ _ _ H _ I h => Constant_none ⟨.non, H, I, rfl, h⟩
def Gl (X : Cx) (x : Str) : Prop := X.env.kindOf x = some .globalImplicit
theorem ld_glob {E : Value → Shared → Prop} {pins : List (Addr × Obj)} {s : Shared} {σ : St} {H : Hp} {x : Str} {u : Value} {pos : Pos} {Q : Value → Shared → Prop} (I : Inv X pins σ H s) (hg : Gl X x) (hm : X.mg x = some u) (h : Q u s)
    (hd : (x == ("__debug__" : Str)) = false := by decide) : wpAny (model X.prog X.w) X.A (eval (.Name x pos) X.env) Q E s :=
  Calls.Name_function_global I.ok.kind hg (Calls.loadGlobal_global (by rw [I.ok.glob]; exact I.mod.glob.keeps I.bk) hm h) hd
theorem ld_blt {E : Value → Shared → Prop} {pins : List (Addr × Obj)} {s : Shared} {σ : St} {H : Hp} {x : Str} {u : Value} {pos : Pos} {Q : Value → Shared → Prop} (I : Inv X pins σ H s) (hg : Gl X x) (hm : X.mg x = none) (hv : bootBuiltins x = some u) (h : Q u s)
    (hn : x ≠ "__name__" := by decide) (hd : (x == ("__debug__" : Str)) = false := by decide) : wpAny (model X.prog X.w) X.A (eval (.Name x pos) X.env) Q E s := by
  obtain ⟨mb, h1, h2⟩ := I.mod.blt
  exact Calls.Name_function_global I.ok.kind hg (Calls.loadGlobal_builtin (by rw [I.ok.glob]; exact I.mod.glob.keeps I.bk) hm (by rw [I.ok.blt]; exact h1.keeps I.bk) ((h2 x hn).trans hv) h) hd
theorem pe_glob {x : Str} {v : V} {u : Value} {pos : Pos} (hg : Gl X x) (hm : X.mg x = some u) (r : RelV v u) (hd : (x == ("__debug__" : Str)) = false := by decide) : PE X (.Name x pos) (tC v) :=
  fun _ _ _ H _ I h => ld_glob I hg hm ⟨v, H, I, r, h⟩ hd
theorem pe_bltn {x : Str} {v : V} {u : Value} {pos : Pos} (hg : Gl X x) (hm : X.mg x = none) (hv : bootBuiltins x = some u) (r : RelV v u) (hn : x ≠ "__name__" := by decide) (hd : (x == ("__debug__" : Str)) = false := by decide) : PE X (.Name x pos) (tC v) :=
  fun _ _ _ H _ I h => ld_blt I hg hm hv ⟨v, H, I, r, h⟩ hn hd

variable {a b : Expr} {ta tb : TE} {pos : Pos}
def PC (X : Cx) (op : CmpOp) (a b : Expr) (t : TE) : Prop :=
  ∀ (pins : List (Addr × Obj)) (s : Shared) (σ : St) (H : Hp) (Q : VK), Inv X pins σ H s → t σ H Q →
    wpAny (model X.prog X.w) X.A (eval a X.env) (fun v s₁ => wpAny (model X.prog X.w) X.A (eval b X.env) (fun u s₂ => wpAny (model X.prog X.w) X.A (compareOp op v u) (EP X pins σ Q) X.xe s₂) X.xe s₁) X.xe s
theorem nobehind (b : Expr) {op : CmpOp} (h : op ≠ .In) (h2 : op ≠ .NotIn) : behindInMarks op b = false := by
  have e1 : (op == CmpOp.In) = false := by cases op <;> first | rfl | exact absurd rfl h
  have e2 : (op == CmpOp.NotIn) = false := by cases op <;> first | rfl | exact absurd rfl h2
  cases b <;> simp [behindInMarks, e1, e2]
def tB (t : TE) : TT := fun σ H Q => t σ H fun x H1 => ∃ c, x = .bl c ∧ Q c H1
theorem pt_cmp {op : CmpOp} {t : TE} (h : PC X op a b t) (h1 : behindInMarks op b = false := by first | exact nobehind _ (by decide) (by decide) | rfl) : PT X (.Compare a [op] [b] pos) (tB t) := by
  intro pins s σ H Q I hw
  refine wpAny_isTrue_Compare1 (thn (h pins s σ H _ I hw) fun v s1 h1 => thn h1 fun u s2 h2 => thn h2 fun c s3 ⟨x, H1, I1, r1, q1⟩ => ?_) h1
  obtain ⟨d, rfl, q⟩ := q1
  cases r1
  exact wpAny_truthy_bool ⟨H1, I1, q⟩
theorem pt_val {e : Expr} {t : TE} (h : PE X e t) (he : ∀ whole, isTrue e X.env whole = (do let v ← whole; standAt e.pos; holding [v] (truthy v)) := by intro _; rfl) : PT X e (tB t) := by
  intro pins s σ H Q I hw
  refine isTrue_plain (thn (h pins s σ H _ I hw) fun v s1 ⟨x, H1, I1, r1, q1⟩ => ?_) (he _)
  obtain ⟨d, rfl, q⟩ := q1
  cases r1
  exact wpAny_truthy_bool ⟨H1, I1, q⟩

variable {tA tB' : TT} {rest : List Expr}
def tAnd (t u : TT) : TT := fun σ H Q => t σ H fun c H1 => if c = true then u σ H1 Q else Q false H1
def tOr (t u : TT) : TT := fun σ H Q => t σ H fun c H1 => if c = true then Q true H1 else u σ H1 Q
def tNot (t : TT) : TT := fun σ H Q => t σ H fun c H1 => Q (!c) H1
theorem pw_and1 (ha : PT X a tA) : PW X (.BoolOp .And [a] pos) tA := by
  intro wh pins s σ H Q I h
  refine isTrue_and (thn (ha pins s σ H Q I h) fun c s1 e => ?_)
  cases c with
  | true => exact isTrue_and_nil e
  | false => exact e
theorem pw_or1 (ha : PT X a tA) : PW X (.BoolOp .Or [a] pos) tA := by
  intro wh pins s σ H Q I h
  refine isTrue_or (thn (ha pins s σ H Q I h) fun c s1 e => ?_)
  cases c with
  | false => exact isTrue_or_nil e
  | true => exact e
theorem pw_and (ha : PT X a tA) (hb : PW X (.BoolOp .And (b :: rest) pos) tB') : PW X (.BoolOp .And (a :: b :: rest) pos) (tAnd tA tB') := by
  intro wh pins s σ H Q I h
  refine isTrue_and (thn (ha pins s σ H _ I h) fun c s1 ⟨H1, I1, q1⟩ => ?_)
  cases c with
  | true => exact hb wh pins s1 σ H1 Q I1 q1
  | false => exact ⟨H1, I1, q1⟩
theorem pw_or (ha : PT X a tA) (hb : PW X (.BoolOp .Or (b :: rest) pos) tB') : PW X (.BoolOp .Or (a :: b :: rest) pos) (tOr tA tB') := by
  intro wh pins s σ H Q I h
  refine isTrue_or (thn (ha pins s σ H _ I h) fun c s1 ⟨H1, I1, q1⟩ => ?_)
  cases c with
  | true => exact ⟨H1, I1, q1⟩
  | false => exact hb wh pins s1 σ H1 Q I1 q1
theorem pt_not (ha : PT X a tA) : PT X (.UnaryOp .Not a pos) (tNot tA) := by
  intro pins s σ H Q I h
  exact isTrue_not (ha pins s σ H (fun c H1 => Q (!c) H1) I h)
def tAndV (ta tb : TE) : TE := fun σ H Q => ta σ H fun x H1 => ∃ c, x = .bl c ∧ if c = true then tb σ H1 Q else Q (.bl false) H1
def tNotV (ta : TE) : TE := fun σ H Q => ta σ H fun x H1 => ∃ c, x = .bl c ∧ Q (.bl (!c)) H1
theorem pe_one {op} {t : TE} (h : PE X a t) : PE X (.BoolOp op [a] pos) t := fun pins s σ H Q I hw => BoolOp_one (h pins s σ H Q I hw)
theorem pe_and (ha : PE X a ta) (hb : PE X (.BoolOp .And (b :: rest) pos) tb) : PE X (.BoolOp .And (a :: b :: rest) pos) (tAndV ta tb) := by
  intro pins s σ H Q I h
  refine BoolOp_and (thn (ha pins s σ H _ I h) fun v s1 ⟨x, H1, I1, r1, q1⟩ => ?_)
  obtain ⟨c, rfl, q1⟩ := q1
  cases r1
  refine wpAny_truthy_bool ?_
  cases c with
  | true => exact hb pins s1 σ H1 Q I1 q1
  | false => exact ⟨.bl false, H1, I1, rfl, q1⟩
theorem pe_not (ha : PE X a ta) : PE X (.UnaryOp .Not a pos) (tNotV ta) := by
  intro pins s σ H Q I h
  refine UnaryOp_ (thn (ha pins s σ H _ I h) fun v s1 ⟨x, H1, I1, r1, q1⟩ => ?_)
  obtain ⟨c, rfl, q1⟩ := q1
  cases r1
  exact not_of (wpAny_truthy_bool ⟨.bl (!c), H1, I1, rfl, q1⟩)
end
end L2

namespace L2
open PySem PySem.Spec PyProof.Rows

def SqL (K : PySem.W.Frag) (H : Hp) (a : Addr) (xs : List V) : Prop :=
  Rd H a (.lst xs) ∨
    ∃ (o : Obj) (its : Array Value) (n : Nat), K.lookup a = some o ∧ o.cls = .type "list" ∧ o.dict = none ∧ o.data = .seq its n ∧ its.size ≤ sizeLine ∧ Vals xs its.toList
def SqT (K : PySem.W.Frag) (H : Hp) (a : Addr) (xs : List V) : Prop :=
  Rd H a (.tup xs) ∨
    ∃ (o : Obj) (its : Array Value) (n : Nat), K.lookup a = some o ∧ o.cls = .type "tuple" ∧ o.data = .seq its n ∧ its.size ≤ sizeLine ∧ Vals xs its.toList
def absV : Value → Option V
  | .none => some .non
  | .bool b => some (.bl b)
  | .int i _ => some (.int i)
  | .str x _ => some (.str x)
  | .bytes b _ => some (.byt b)
  | .float b _ => some (.flt b)
  | .ref a => some (.ref a)
  | .type n => some (.ty n)
  | _ => none
theorem RelV.abs {x : V} {u : Value} (r : RelV x u) : absV u = some x := by
  cases x with
  | non => cases r; rfl
  | bl _ => cases r; rfl
  | int _ => obtain ⟨t, rfl⟩ := r; rfl
  | str _ => obtain ⟨t, rfl⟩ := r; rfl
  | byt _ => obtain ⟨t, rfl⟩ := r; rfl
  | flt _ => obtain ⟨t, rfl⟩ := r; rfl
  | ref _ => cases r; rfl
  | ty _ => cases r; rfl
theorem RelV.inj {x y : V} {u : Value} (r : RelV x u) (q : RelV y u) : x = y := Option.some.inj (r.abs.symm.trans q.abs)
theorem Vals.inj : ∀ {xs ys : List V} {us : List Value}, Vals xs us → Vals ys us → xs = ys
  | _, _, _, .nil, .nil => rfl
  | _, _, _, .cons r t, .cons r' t' => by rw [r.inj r', Vals.inj t t']
section
variable {X : Cx} {pins : List (Addr × Obj)} {σ : St} {H : Hp} {s : Shared} {a : Addr} {xs ys : List V}
theorem SqL.of {K : PySem.W.Frag} (h : H a = some (.lst xs)) : SqL K H a xs := .inl (.inl h)
theorem SqT.of {K : PySem.W.Frag} (h : H a = some (.tup xs)) : SqT K H a xs := .inl (.inl h)
theorem Inv.list (I : Inv X pins σ H s) (h : SqL X.K H a xs) : ∃ its : List Value, Vals xs its ∧ PlainL s.heap a its.toArray ∧ xs.length ≤ sizeLine := by
  rcases h with h | ⟨o, its, n, hk, hc, hd, hs, hz, r⟩
  · obtain ⟨z, its, n, r, e⟩ := h.ok I.hok
    exact ⟨its, r, ⟨_, n, e, rfl, rfl, rfl⟩, z⟩
  · refine ⟨its.toList, r, ⟨o, n, I.kIn a o hk, hc, hd, by simpa using hs⟩, ?_⟩
    have e := r.length
    simp only [Array.length_toList] at e
    omega
theorem Inv.tuple (I : Inv X pins σ H s) (h : SqT X.K H a xs) : ∃ its : List Value, Vals xs its ∧ IsTup s.heap a its.toArray ∧ xs.length ≤ sizeLine := by
  rcases h with h | ⟨o, its, n, hk, hc, hs, hz, r⟩
  · obtain ⟨z, its, r, p⟩ := h.ok I.hok
    exact ⟨its, r, p, z⟩
  · refine ⟨its.toList, r, ⟨o, I.kIn a o hk, hc, n, by simpa using hs⟩, ?_⟩
    have e := r.length
    simp only [Array.length_toList] at e
    omega
theorem Inv.list_inj (I : Inv X pins σ H s) (h : SqL X.K H a xs) (h' : SqL X.K H a ys) : xs = ys := by
  obtain ⟨its, r, ⟨o, n, e, _, _, d⟩, _⟩ := I.list h
  obtain ⟨its', r', ⟨o', n', e', _, _, d'⟩, _⟩ := I.list h'
  rw [e] at e'; cases e'
  rw [d] at d'
  injection d' with d1 _
  have : its = its' := by simpa using congrArg Array.toList d1
  subst this
  exact r.inj r'
theorem Inv.tuple_inj (I : Inv X pins σ H s) (h : SqT X.K H a xs) (h' : SqT X.K H a ys) : xs = ys := by
  obtain ⟨its, r, ⟨o, e, _, n, d⟩, _⟩ := I.tuple h
  obtain ⟨its', r', ⟨o', e', _, n', d'⟩, _⟩ := I.tuple h'
  rw [e] at e'; cases e'
  rw [d] at d'
  injection d' with d1 _
  have : its = its' := by simpa using congrArg Array.toList d1
  subst this
  exact r.inj r'
end

abbrev Cx.wish (X : Cx) (E : Value → Shared → Prop) : Cx := { X with xe := E }
abbrev Cx.nox (X : Cx) : Cx := X.wish fun _ _ => False
theorem Cx.Ok.wish {X : Cx} (ok : X.Ok) (E : Value → Shared → Prop) : (X.wish E).Ok :=
  ⟨ok.mod, ok.kind, ok.glob, ok.blt, ok.above, ok.inj, ok.has, ok.cab, ok.hd, ok.frames, ok.stk, ok.exf, ok.bs, ok.bsz, ok.noex, ok.exfs, ok.funs, ok.frf⟩
theorem Cx.Ok.unwish {X : Cx} {E : Value → Shared → Prop} (ok : (X.wish E).Ok) : X.Ok :=
  ⟨ok.mod, ok.kind, ok.glob, ok.blt, ok.above, ok.inj, ok.has, ok.cab, ok.hd, ok.frames, ok.stk, ok.exf, ok.bs, ok.bsz, ok.noex, ok.exfs, ok.funs, ok.frf⟩
section
variable {X : Cx} {pins : List (Addr × Obj)} {σ : St} {H : Hp} {s : Shared} {E : Value → Shared → Prop}
theorem Inv.wish (I : Inv X pins σ H s) (E : Value → Shared → Prop) : Inv (X.wish E) pins σ H s := ⟨I.ok.wish E, I.os, I.bare, I.base, I.loc, I.cell, I.free, I.freeC, I.pin, I.hok, I.len⟩
theorem Inv.unwish (I : Inv (X.wish E) pins σ H s) : Inv X pins σ H s := ⟨I.ok.unwish, I.os, I.bare, I.base, I.loc, I.cell, I.free, I.freeC, I.pin, I.hok, I.len⟩
theorem SP.unwish {D : Ends} {f : Flow} {s' : Shared} (h : SP (X.wish E) pins D f s') : SP X pins D f s' := by
  cases f with
  | next => obtain ⟨σ', H', I, q⟩ := h; exact ⟨σ', H', I.unwish, q⟩
  | brk => obtain ⟨σ', H', I, q⟩ := h; exact ⟨σ', H', I.unwish, q⟩
  | cont => obtain ⟨σ', H', I, q⟩ := h; exact ⟨σ', H', I.unwish, q⟩
  | ret u => obtain ⟨v, σ', H', I, r, q⟩ := h; exact ⟨v, σ', H', I.unwish, r, q⟩
theorem PSs.nox {st : List Stmt} {t : TS} (h : PSs X.nox st t) : PSs X st t := fun pins s σ H D I hw =>
  wpAny_mono (h pins s σ H D (I.wish _) hw) (fun _ _ q => q.unwish) fun _ _ z => False.elim z
end

section
variable {X : Cx} {st : Stmt} {rest : List Stmt} {t u : TS} {e : Expr} {te : TE} {pos : Pos}
def tNext : TS := fun D σ H => D.nx σ H
def tSeq (t u : TS) : TS := fun D σ H => t { D with nx := u D } σ H
theorem pss_nil : PSs X [] tNext := fun _ _ σ H _ I h => wpAny_execs_nil ⟨σ, H, I, h⟩
theorem pss_cons (h1 : PS X st t) (h2 : PSs X rest u) : PSs X (st :: rest) (tSeq t u) := by
  intro pins s σ H D I h
  refine wpAny_execs_cons (thn (h1 pins s σ H { D with nx := u D } I h) fun f s1 q => ?_)
  cases f with
  | next =>
    obtain ⟨σ', H', I', q⟩ := q
    exact h2 pins s1 σ' H' D I' q
  | ret v => exact q
  | brk => exact q
  | cont => exact q
theorem pss_one (h1 : PS X st t) : PSs X [st] t := by
  intro pins s σ H D I h
  refine wpAny_execs_cons (thn (h1 pins s σ H D I h) fun f s1 q => ?_)
  cases f with
  | next => exact wpAny_execs_nil q
  | ret v => exact q
  | brk => exact q
  | cont => exact q
theorem Inv.quiet {pins : List (Addr × Obj)} {σ : St} {H : Hp} {s : Shared} (I : Inv X pins σ H s) : interactive X.env = false := by simp [interactive, I.ok.kind]
def tDrop (te : TE) : TS := fun D σ H => te σ H fun _ H1 => D.nx σ H1
theorem ps_expr (he : PE X e te) (hs : swapsWith e none pos.line X.env = pure false := by rfl) : PS X (.Expr e pos) (tDrop te) := by
  intro pins s σ H D I h
  exact wpAny_Expr_any (thn (he pins s σ H _ I h) fun v s1 ⟨x, H1, I1, r1, q1⟩ => ⟨σ, H1, I1, q1⟩) I.quiet hs
def tRet (te : TE) : TS := fun D σ H => te σ H D.rt
theorem ps_ret (he : PE X e te) : PS X (.Return (some e) pos) (tRet te) := by
  intro pins s σ H D I h
  exact wpAny_Return_some (thn (he pins s σ H _ I h) fun v s1 ⟨x, H1, I1, r1, q1⟩ => ⟨x, σ, H1, I1, r1, q1⟩)
def tIfS (c : TT) (t u : TS) : TS := fun D σ H => c σ H fun b H1 => if b = true then t D σ H1 else u D σ H1
theorem ps_if {c : Expr} {a b : List Stmt} {tc : TT} (hc : PT X c tc) (ha : PSs X a t) (hb : PSs X b u) : PS X (.If c a b pos) (tIfS tc t u) := by
  intro pins s σ H D I h
  refine wpAny_If (thn (hc pins s σ H _ I h) fun d s1 ⟨H1, I1, q1⟩ => ?_)
  cases d with
  | true => exact ha pins s1 σ H1 D I1 q1
  | false => exact hb pins s1 σ H1 D I1 q1
end

abbrev TG := V → St → Hp → (St → Hp → Prop) → Prop
abbrev TGs := List V → St → Hp → (St → Hp → Prop) → Prop
def PG (X : Cx) (target : Expr) (t : TG) : Prop :=
  ∀ (pins : List (Addr × Obj)) (s : Shared) (σ : St) (H : Hp) (v : V) (u : Value) (Q : St → Hp → Prop), Inv X pins σ H s → RelV v u → t v σ H Q →
    wpAny (model X.prog X.w) X.A (assign target X.env u) (fun _ s' => ∃ σ' H', Inv X pins σ' H' s' ∧ Q σ' H') X.xe s
def PGs (X : Cx) (ts : List Expr) (t : TGs) : Prop :=
  ∀ (pins : List (Addr × Obj)) (s : Shared) (σ : St) (H : Hp) (vs : List V) (us : List Value) (Q : St → Hp → Prop), Inv X pins σ H s → Vals vs us → t vs σ H Q →
    wpAny (model X.prog X.w) X.A (assignInOrder ((assignEach ts X.env).map (·.2)) us) (fun _ s' => ∃ σ' H', Inv X pins σ' H' s' ∧ Q σ' H') X.xe s
abbrev TSet := V → V → V → Hp → (Hp → Prop) → Prop
def PSet (X : Cx) (t : TSet) : Prop :=
  ∀ (pins : List (Addr × Obj)) (s : Shared) (σ : St) (H : Hp) (o i v : V) (ov iv u : Value) (Q : Hp → Prop), Inv X pins σ H s → RelV o ov → RelV i iv → RelV v u → t o i v H Q →
    wpAny (model X.prog X.w) X.A (setItem ov iv u) (fun _ s' => ∃ H', Inv X pins σ H' s' ∧ Q H') X.xe s
section
variable {X : Cx} {pos : Pos}
def gName (i : Nat) : TG := fun v σ H Q => Q (σ.set i (some v)) H
theorem pg_name {i : Nat} {x : Str} (hN : X.N.Nodup) (hi : X.N[i]? = some x) (hx : Loc X.env.scope x) (hf : X.fn x = true ∨ X.env.scope.names.lookup x = some .local := by first | exact .inl rfl | exact .inr rfl | assumption) : PG X (.Name x pos) (gName i) := by
  intro pins s σ H v u Q I r h
  exact wpAny_assign_Name (store_ok I hN hi hx r (fun s' I' => ⟨_, H, I', h⟩) hf)
def gNil : TGs := fun vs σ H Q => vs = [] ∧ Q σ H
def gCons (t : TG) (u : TGs) : TGs := fun vs σ H Q => ∃ v r, vs = v :: r ∧ t v σ H fun σ' H' => u r σ' H' Q
theorem pgs_nil : PGs X [] gNil := by
  intro pins s σ H vs us Q I r h
  obtain ⟨e, h⟩ := h
  subst e
  cases r
  exact assignInOrder_nil ⟨σ, H, I, h⟩
theorem pgs_cons {e : Expr} {es : List Expr} {t : TG} {u : TGs} (h1 : PG X e t) (h2 : PGs X es u)
    (hs : (assignEach (e :: es) X.env).map (·.2) = assign e X.env :: (assignEach es X.env).map (·.2) := by rfl) : PGs X (e :: es) (gCons t u) := by
  intro pins s σ H vs us Q I r h
  obtain ⟨v, vr, e1, h⟩ := h
  subst e1
  cases r with
  | cons r rr =>
    rw [hs]
    refine assignInOrder_cons (thn (h1 pins s σ H _ _ _ I r h) fun _ s1 ⟨σ1, H1, I1, q1⟩ => ?_)
    exact h2 pins s1 σ1 H1 _ _ Q I1 rr q1
def gTup (K : PySem.W.Frag) (n : Nat) (t : TGs) : TG := fun v σ H Q => ∃ a xs, v = .ref a ∧ SqT K H a xs ∧ xs.length = n ∧ t xs σ H Q
theorem pg_tup {es : List Expr} {k : Nat} {t : TGs} {n : Nat} (hc : X.calm = true) (h : PGs X es t)
    (hn : (assignEach es X.env).length = n := by rfl) (hst : (assignEach es X.env).findIdx? (·.1) = none := by rfl) : PG X (.Tuple es k pos) (gTup X.K n t) := by
  intro pins s σ H v u Q I r hw
  obtain ⟨a, xs, e1, hq, hl, hw⟩ := hw
  subst e1
  cases r
  obtain ⟨its, rv, ht, hz⟩ := I.tuple hq
  refine assign_Tuple_tuple (I.ok.hd hc) ht (by simp [hn, ← hl, rv.length]) hst fun h' hx => ?_
  have I1 : Inv X pins σ H { s with heap := h' } := I.kept (t' := s.toks) fun b o e => hx b o (Nat.ne_of_lt (Heap.lt_size e)) e
  exact h pins _ σ H xs _ Q I1 (by simpa using rv) hw
def gSub (to ti : TE) (t : TSet) : TG := fun v σ H Q => to σ H fun o H1 => ti σ H1 fun i H2 => t o i v H2 fun H3 => Q σ H3
theorem pg_sub {o i : Expr} {to ti : TE} {t : TSet} (ho : PE X o to) (hi : PE X i ti) (hs : PSet X t)
    (ha : ∀ v, assign (.Subscript o i pos) X.env v = (do
      let ov ← holding [v] (eval o X.env)
      let iv ← holding [v, ov] (eval i X.env)
      standAt pos
      holding [v, ov, iv] (setItem ov iv v)
      release [v, ov, iv] []) := by intro _; rfl) : PG X (.Subscript o i pos) (gSub to ti t) := by
  intro pins s σ H v u Q I r h
  rw [ha]
  refine wpAny_bind (wpAny_holding (thn (ho pins s σ H _ I h) fun ov s1 ⟨x, H1, I1, r1, q1⟩ => ?_))
  refine wpAny_bind (wpAny_holding (thn (hi pins s1 σ H1 _ I1 q1) fun iv s2 ⟨y, H2, I2, r2, q2⟩ => ?_))
  refine wpAny_bind (wpAny_standAt (wpAny_bind (wpAny_holding (thn (hs pins s2 σ H2 x y v ov iv u _ I2 r1 r2 r q2) fun _ s3 ⟨H3, I3, q3⟩ => ?_))))
  exact wpAny_release ⟨σ, H3, I3, q3⟩
def tAsg (te : TE) (g : TG) : TS := fun D σ H => te σ H fun x H1 => g x σ H1 D.nx
theorem ps_asg {tg e : Expr} {te : TE} {g : TG} (he : PE X e te) (hg : PG X tg g) (hs : swapsWithSole [tg] e pos.line X.env = pure false := by rfl) (hw : swappedStores [tg] e X.env = pure none := by rfl)
    (h1 : (assignEach [tg] X.env).map (·.2) = [assign tg X.env] := by rfl) : PS X (.Assign [tg] e pos) (tAsg te g) := by
  intro pins s σ H D I h
  refine wpAny_Assign_stores (thn (he pins s σ H _ I h) fun v s1 ⟨x, H1, I1, r1, q1⟩ => ?_) hs hw
  rw [h1]
  exact thn (hg pins s1 σ H1 x v _ I1 r1 q1) fun _ s2 q => q
theorem ps_set {i : Nat} {x : Str} {e : Expr} {te : TE} {pos' : Pos} (hN : X.N.Nodup) (hi : X.N[i]? = some x) (hx : Loc X.env.scope x) (he : PE X e te) (hs : swapsWith e (some (.Name x pos')) pos.line X.env = pure false := by rfl) (hf : X.fn x = true ∨ X.env.scope.names.lookup x = some .local := by first | exact .inl rfl | exact .inr rfl | assumption) :
    PS X (.Assign [.Name x pos'] e pos) (tAsg te (gName i)) := by
  intro pins s σ H D I h
  refine wpAny_Assign_Name (thn (he pins s σ H _ I h) fun v s1 ⟨y, H1, I1, r1, q1⟩ => ?_) hs
  exact store_ok I1 hN hi hx r1 (fun s2 I2 => ⟨_, H1, I2, q1⟩) hf
end

section
variable {X : Cx} {pos : Pos}
def tWhile (c : TT) (tb : TS) : TS := fun D σ H => ∃ W : Nat → St → Hp → Prop, (∃ m, W m σ H) ∧ ∀ m σ H, W m σ H →
  c σ H fun b H1 => if b = true then ∃ N : St → Hp → Prop, (∀ σ' H', N σ' H' → ∃ m', m' < m ∧ W m' σ' H') ∧ tb { D with nx := N, ct := N, bk := D.nx } σ H1 else D.nx σ H1
theorem ps_while {c : Expr} {body : List Stmt} {tc : TT} {tb : TS} (hp : PassesOwn (model X.prog X.w) X.A X.env X.xe) (hc : PT X c tc) (hb : PSs X body tb) : PS X (.While c body [] pos) (tWhile tc tb) := by
  intro pins s σ H D I h
  obtain ⟨W, ⟨m0, w0⟩, turn⟩ := h
  refine wpAny_While (codeAny_whileLoop (fun n s' => ∃ σ' H', Inv X pins σ' H' s' ∧ W n σ' H') ?_ m0 ⟨σ, H, I, w0⟩)
  rintro n s1 ⟨σ1, H1, I1, w1⟩
  refine wpAny_passesOwn hp (thn (hc pins s1 σ1 H1 _ I1 (turn n σ1 H1 w1)) fun b s2 ⟨H2, I2, q2⟩ => ?_)
  cases b with
  | true =>
    obtain ⟨N, hN, q2⟩ := q2
    rw [if_pos rfl]
    refine wpAny_passesOwn hp (thn (hb pins s2 σ1 H2 _ I2 q2) fun f s3 q3 => ?_)
    cases f with
    | next =>
      obtain ⟨σ3, H3, I3, n3⟩ := q3
      obtain ⟨m', hm, w3⟩ := hN σ3 H3 n3
      exact ⟨m', hm, σ3, H3, I3, w3⟩
    | cont =>
      obtain ⟨σ3, H3, I3, n3⟩ := q3
      obtain ⟨m', hm, w3⟩ := hN σ3 H3 n3
      exact ⟨m', hm, σ3, H3, I3, w3⟩
    | brk => exact q3
    | ret v => exact q3
  | false =>
    rw [if_neg Bool.false_ne_true]
    exact wpAny_execs_nil ⟨σ1, H2, I2, q2⟩
end

structure It where
  go : Nat → Hp → Prop
  yld : Nat → Hp → V → Hp → Prop
  stop : Nat → Hp → Prop
def FpOk (X : Cx) (pins : List (Addr × Obj)) (H : Hp) (b : Addr) : Prop :=
  H b = none ∧ b ≠ X.env.locals ∧ b ∉ X.fs ∧ (b ∈ X.ex ∨ X.s₀.heap.objs.size ≤ b) ∧ (∀ x c, X.env.cells.lookup x = some c → c ≠ b) ∧ ∀ p ∈ X.pn ++ pins, p.1 ≠ b
theorem Inv.fpOk {X : Cx} {pins : List (Addr × Obj)} {σ : St} {H H' : Hp} {s : Shared} {b : Addr} (I : Inv X pins σ H s) (hb : s.heap.objs.size ≤ b) (hn : H' b = none) : FpOk X pins H' b := by
  refine ⟨hn, Nat.ne_of_gt (Nat.lt_of_lt_of_le I.lt hb), I.nofs hb, .inr (Nat.le_trans I.sz hb), fun x c e z => ?_, fun p hp z => ?_⟩
  · obtain ⟨v, q⟩ := I.cell x c e
    exact absurd (Nat.lt_of_lt_of_le q.lt (by rw [z]; exact hb)) (Nat.lt_irrefl _)
  · exact absurd (Nat.lt_of_lt_of_le (Heap.lt_size (I.pin p hp).1) (by rw [z]; exact hb)) (Nat.lt_irrefl _)
structure Turn (P : Program) (w : World) (K : PySem.W.Frag) (tg : Expr) (J : It) (fp : List Addr) (it : Addr) (tn : Nat → Heap → Prop) : Prop where
  mem : it ∈ fp
  obj : ∀ i h, tn i h → ∀ b ∈ fp, ∃ o, h.get? b = some o ∧ ∀ v, o.data ≠ .cell v
  keep : ∀ i h h', tn i h → (∀ b ∈ fp, ∀ o, h.get? b = some o → h'.get? b = some o) → tn i h'
  item : ∀ (X : Cx), X.prog = P → X.w = w → X.K = K → X.calm = true → ∀ (i : Nat) (pins : List (Addr × Obj)) (s : Shared) (σ : St) (H : Hp) (E : Value → Shared → Prop), Inv X pins σ H s → (∀ b ∈ fp, FpOk X pins H b) → tn i s.heap → J.go i H →
    wpAny (model P w) X.A (pyNext (.ref it)) (fun r s1 => ∃ u, r = some u ∧
      wpAny (model P w) X.A (letOwnedTupleGo tg (.ref it) u) (fun _ s2 => ∃ x H', Inv X pins σ H' s2 ∧ RelV x u ∧ J.yld i H x H' ∧ tn (i + 1) s2.heap ∧ ∀ b ∈ fp, H' b = none) E s1) E s
  done : ∀ (X : Cx), X.prog = P → X.w = w → X.K = K → X.calm = true → ∀ (i : Nat) (pins : List (Addr × Obj)) (s : Shared) (σ : St) (H : Hp) (E : Value → Shared → Prop), Inv X pins σ H s → (∀ b ∈ fp, FpOk X pins H b) → tn i s.heap → J.stop i H →
    wpAny (model P w) X.A (pyNext (.ref it)) (fun r s1 => r = none ∧ Inv X pins σ H s1) E s
  self : ∀ (A : Around) (i : Nat) (s : Shared) (Q : Value → Shared → Prop) (E : Value → Shared → Prop), tn i s.heap → Q (.ref it) s → wpAny (model P w) A (pyIter (.ref it)) Q E s
abbrev TI := St → Hp → (It → Hp → Prop) → Prop
def PIE (X : Cx) (pins : List (Addr × Obj)) (σ : St) (tg : Expr) (R : It → Hp → Prop) (itv : Value) (s2 : Shared) : Prop :=
  ∃ (it : Addr) (fp : List Addr) (tn : Nat → Heap → Prop) (J : It) (H' : Hp), itv = .ref it ∧ Inv X pins σ H' s2 ∧ Turn X.prog X.w X.K tg J fp it tn ∧ tn 0 s2.heap ∧ (∀ b ∈ fp, FpOk X pins H' b) ∧ R J H'
def PI (X : Cx) (tg iter : Expr) (wi : TI) : Prop :=
  ∀ (pins : List (Addr × Obj)) (s : Shared) (σ : St) (H : Hp) (R : It → Hp → Prop), Inv X pins σ H s → wi σ H R →
    wpAny (model X.prog X.w) X.A (eval iter X.env) (fun v s1 => wpAny (model X.prog X.w) X.A (pyIter v) (PIE X pins σ tg R) X.xe s1) X.xe s

theorem go_of {M : Model} {A : Around} {E : Value → Shared → Prop} {s : Shared} {tg : Expr} {it : Addr} {u : Value} {o : Obj} {n : String} {vs : Array Value} {Q : Unit → Shared → Prop} (ho : s.heap.get? it = some o) (hc : o.cls = .type n) (hd : o.data = .fields vs)
    (hn : ["enumerate", "zip", "dict_itemiterator", "dict_reverseitemiterator", "odict_iterator", "itertools.zip_longest", "itertools.pairwise"].contains n = false) (hQ : Q () s) : wpAny M A (letOwnedTupleGo tg (.ref it) u) Q E s := by
  unfold letOwnedTupleGo
  cases tg <;> first
    | exact wpAny_pure hQ
    | (cases u <;> first
        | exact wpAny_pure hQ
        | (refine wpAny_bind (wpAny_load ho ?_)
           rw [hc, hd]
           show wpAny M A (if (["enumerate", "zip", "dict_itemiterator", "dict_reverseitemiterator", "odict_iterator", "itertools.zip_longest", "itertools.pairwise"].contains n && vs[0]? == some (rawInt _)) = true then _ else _) Q E s
           rw [if_neg (by intro h; rw [hn, Bool.false_and] at h; cases h)]
           exact wpAny_pure hQ))

def Itl (K : PySem.W.Frag) (a : Addr) : It :=
  ⟨fun i H => ∃ xs x, SqL K H a xs ∧ xs[i]? = some x, fun i H x H' => H' = H ∧ ∀ xs, SqL K H a xs → xs[i]? = some x, fun i H => ∃ xs, SqL K H a xs ∧ xs.length ≤ i⟩
def Itt (K : PySem.W.Frag) (a : Addr) : It :=
  ⟨fun i H => ∃ xs x, SqT K H a xs ∧ xs[i]? = some x, fun i H x H' => H' = H ∧ ∀ xs, SqT K H a xs → xs[i]? = some x, fun i H => ∃ xs, SqT K H a xs ∧ xs.length ≤ i⟩
def Itr (lo : Int) (n : Nat) : It := ⟨fun i _ => i < n, fun i H x H' => H' = H ∧ x = .int (lo + i), fun i _ => n ≤ i⟩
theorem turn_list {P : Program} {w : World} {K : PySem.W.Frag} {tg : Expr} (a it : Addr) : Turn P w K tg (Itl K a) [it] it (fun i h => h.IsListIter it a i) where
  mem := by simp
  obj := fun i h st b hb => by
    have e : b = it := by simpa using hb
    subst e
    obtain ⟨o, e, c, d⟩ := st
    exact ⟨o, e, fun v z => by rw [d] at z; cases z⟩
  keep := fun i h h' st k => st.at fun o e => k it (by simp) o e
  item := by
    intro X hP hw hK hc i pins s σ H E I hf st hg
    subst hP hw hK
    obtain ⟨xs, x, hq, hx⟩ := hg
    obtain ⟨its, rv, p, hz⟩ := I.list hq
    obtain ⟨u, hu, ru⟩ := rv.get hx
    obtain ⟨f0, f1, f2, f3, f4, f5⟩ := hf it (by simp)
    refine wpAny_pyNext_list_item st p.isList (x := u) (by simpa using hu) fun h' st' sb => ?_
    have I1 : Inv X pins σ H { s with heap := h' } := I.turned (t' := s.toks) (fun b o hb e => (sb.2 b hb).trans e) f0 f1 f3 f4 f5
    obtain ⟨o, e, c, d⟩ := id st'
    exact ⟨u, rfl, go_of (s := { s with heap := h' }) e c d (by decide) ⟨x, H, I1, ru, ⟨rfl, fun ys hy => by rw [I.list_inj hy hq]; exact hx⟩, st', fun b hb => (hf b hb).1⟩⟩
  done := by
    intro X hP hw hK hc i pins s σ H E I hf st hg
    subst hP hw hK
    obtain ⟨xs, hq, hx⟩ := hg
    obtain ⟨its, rv, p, hz⟩ := I.list hq
    obtain ⟨f0, f1, f2, f3, f4, f5⟩ := hf it (by simp)
    have hl := rv.length
    exact wpAny_pyNext_list_end (I.ok.hd hc) st p.isList (by simp; omega) fun h' eb => ⟨rfl, I.turned (t' := s.toks) (fun b o hb e => eb b o hb e) f0 f1 f3 f4 f5⟩
  self := fun _ _ _ _ _ st h => wpAny_pyIter_listiter st h
theorem turn_tuple {P : Program} {w : World} {K : PySem.W.Frag} {tg : Expr} (a it : Addr) : Turn P w K tg (Itt K a) [it] it (fun i h => h.IsTupleIter it a i) where
  mem := by simp
  obj := fun i h st b hb => by
    have e : b = it := by simpa using hb
    subst e
    obtain ⟨o, e, c, d⟩ := st
    exact ⟨o, e, fun v z => by rw [d] at z; cases z⟩
  keep := fun i h h' st k => st.at fun o e => k it (by simp) o e
  item := by
    intro X hP hw hK hc i pins s σ H E I hf st hg
    subst hP hw hK
    obtain ⟨xs, x, hq, hx⟩ := hg
    obtain ⟨its, rv, p, hz⟩ := I.tuple hq
    obtain ⟨u, hu, ru⟩ := rv.get hx
    obtain ⟨f0, f1, f2, f3, f4, f5⟩ := hf it (by simp)
    refine wpAny_pyNext_tuple_item st (show s.heap.IsTuple a its.toArray from p) (x := u) (by simpa using hu) fun h' st' sb => ?_
    have I1 : Inv X pins σ H { s with heap := h' } := I.turned (t' := s.toks) (fun b o hb e => (sb.2 b hb).trans e) f0 f1 f3 f4 f5
    obtain ⟨o, e, c, d⟩ := id st'
    exact ⟨u, rfl, go_of (s := { s with heap := h' }) e c d (by decide) ⟨x, H, I1, ru, ⟨rfl, fun ys hy => by rw [I.tuple_inj hy hq]; exact hx⟩, st', fun b hb => (hf b hb).1⟩⟩
  done := by
    intro X hP hw hK hc i pins s σ H E I hf st hg
    subst hP hw hK
    obtain ⟨xs, hq, hx⟩ := hg
    obtain ⟨its, rv, p, hz⟩ := I.tuple hq
    obtain ⟨f0, f1, f2, f3, f4, f5⟩ := hf it (by simp)
    have hl := rv.length
    exact wpAny_pyNext_tuple_end (I.ok.hd hc) st (show s.heap.IsTuple a its.toArray from p) (by simp; omega) fun h' eb => ⟨rfl, I.turned (t' := s.toks) (fun b o hb e => eb b o hb e) f0 f1 f3 f4 f5⟩
  self := fun _ _ _ _ _ st h => wpAny_pyIter_tupleiter st h
theorem turn_range {P : Program} {w : World} {K : PySem.W.Frag} {tg : Expr} (it : Addr) (lo : Int) (n : Nat) : Turn P w K tg (Itr lo n) [it] it (fun i h => IsRangeIter h it (lo + (i : Nat) * 1) ((n : Int) - (i : Nat)) 1) where
  mem := by simp
  obj := fun i h st b hb => by
    have e : b = it := by simpa using hb
    subst e
    exact ⟨_, st, fun v z => by
      have z' : Data.fields _ = Data.cell v := z
      cases z'⟩
  keep := fun i h h' st k => k it (by simp) _ st
  item := by
    intro X hP hw hK hc i pins s σ H E I hf st hg
    subst hP hw hK
    obtain ⟨f0, f1, f2, f3, f4, f5⟩ := hf it (by simp)
    have W := Walks.range (prog := X.prog) (w := X.w) (I.ok.hd hc) it lo 1 n
    refine W.item i s _ _ hg st fun v h' tk hv st' kk => ?_
    obtain ⟨t, rfl⟩ := hv
    have I1 : Inv X pins σ H { s with heap := h', toks := tk } := I.turned (fun b o hb e => kk b o (by simpa using hb) e) f0 f1 f3 f4 f5
    refine ⟨_, rfl, go_of (s := { s with heap := h', toks := tk }) (n := "range_iterator") st' rfl rfl (by decide) ⟨.int (lo + i), H, I1, ⟨t, ?_⟩, ⟨rfl, rfl⟩, st', fun b hb => (hf b hb).1⟩⟩
    rw [Int.mul_one]
  done := by
    intro X hP hw hK hc i pins s σ H E I hf st hg
    subst hP hw hK
    obtain ⟨f0, f1, f2, f3, f4, f5⟩ := hf it (by simp)
    exact wpAny_pyNext_range_end (I.ok.hd hc) st (by have : n ≤ i := hg; omega) fun h' eb => ⟨rfl, I.turned (t' := s.toks) (fun b o hb e => eb b o hb e) f0 f1 f3 f4 f5⟩
  self := fun _ _ _ _ _ st h => wpAny_pyIter_rangeiter st h
end L2

namespace L2
open PySem PySem.Spec PyProof.Rows
section
variable {X : Cx} {tg : Expr}
theorem range_it {pins : List (Addr × Obj)} {σ : St} {H : Hp} {s : Shared} {R : It → Hp → Prop} {E : Value → Shared → Prop} {lo hi : Int} {t u v : Tok} {tk : Nat} (I : Inv X pins σ H s) (h1 : -(2 ^ 62) ≤ lo) (h2 : lo < 2 ^ 62) (h3 : -(2 ^ 62) ≤ hi) (h4 : hi < 2 ^ 62)
    (q : R (Itr lo (hi - lo).toNat) H) : wpAny (model X.prog X.w) X.A (pyIter (.ref s.heap.objs.size)) (PIE X pins σ tg R) E { s with heap := s.heap.push { cls := .type "range", data := .fields #[.int lo t, .int hi u, .int 1 v] }, toks := tk } := by
  refine wpAny_pyIter_range (IsRange.new ..) (small_one h1 h2 h3 h4) ?_
  have I1 : Inv X pins σ H { s with heap := s.heap.push { cls := .type "range", data := .fields #[.int lo t, .int hi u, .int 1 v] }, toks := tk } := I.kept fun b o e => Heap.get?_push_of_some _ e
  refine ⟨(s.heap.push { cls := .type "range", data := .fields #[.int lo t, .int hi u, .int 1 v] }).objs.size, [(s.heap.push { cls := .type "range", data := .fields #[.int lo t, .int hi u, .int 1 v] }).objs.size], _, _, H, rfl,
    I1.kept (t' := tk) fun b o e => Heap.get?_push_of_some _ e, turn_range _ lo (hi - lo).toNat, ?_, fun b hb => ?_, q⟩
  · have e1 : lo + ((0 : Nat) : Int) * 1 = lo := by simp
    have e2 : (((hi - lo).toNat : Nat) : Int) - ((0 : Nat) : Int) = Builtin.Range.rangeSize lo hi 1 := by rw [rangeSize_one]; split <;> omega
    show IsRangeIter _ _ (lo + ((0 : Nat) : Int) * 1) ((((hi - lo).toNat : Nat) : Int) - ((0 : Nat) : Int)) 1
    rw [e1, e2]
    exact Heap.get?_push_size _ rfl
  · have e : b = (s.heap.push { cls := .type "range", data := .fields #[.int lo t, .int hi u, .int 1 v] }).objs.size := by simpa using hb
    subst e
    exact I1.fpOk (Nat.le_refl _) (I1.hok.fresh (Nat.le_refl _))
def iRng1 (ta : TA) : TI := fun σ H R => ta σ H fun vs H1 => ∃ j : Int, vs = [.int j] ∧ -(2 ^ 62) ≤ j ∧ j < 2 ^ 62 ∧ R (Itr 0 j.toNat) H1
theorem pi_range1 {a : Expr} {ta : TA} {p pos : Pos} (hg : Gl X "range") (hm : X.mg "range" = none) (ha : PA X [a] ta) (hs : starEach [a] X.env = [(false, eval a X.env)] := by rfl) : PI X tg (.Call (.Name "range" p) [a] [] pos) (iRng1 ta) := by
  intro pins s σ H R I h
  refine Call_ (ld_blt I hg hm boot_range (PyProof.Rows.callWith_type1 (thn (ha pos pins s σ H _ I h) fun us s1 ⟨vs, H1, I1, r1, q1⟩ => ?_) hs rfl))
  obtain ⟨j, e, q1, q2, q⟩ := q1
  subst e
  cases r1 with
  | cons r rr =>
    cases rr
    obtain ⟨t, rfl⟩ := r
    exact call_range_1 (range_it I1 (by omega) (by omega) q1 q2 (by simpa using q))
def tFor (wi : TI) (g : TG) (tb : TS) : TS := fun D σ H => wi σ H fun J H1 => ∃ W : Nat → Nat → St → Hp → Prop, (∃ m, W 0 m σ H1) ∧ ∀ i m σ H, W i m σ H →
  (J.stop i H ∧ D.nx σ H) ∨ (J.go i H ∧ ∃ N : St → Hp → Prop, (∀ σ' H', N σ' H' → ∃ m', m' < m ∧ W (i + 1) m' σ' H') ∧ ∀ x H', J.yld i H x H' → g x σ H' fun σ2 H2 => tb { D with nx := N, ct := N, bk := D.nx } σ2 H2)
def pinsAt (fp : List Addr) (h : Heap) : List (Addr × Obj) := fp.filterMap fun b => (h.get? b).map fun o => (b, o)
theorem mem_pinsAt {fp : List Addr} {h : Heap} {b : Addr} {o : Obj} (hb : b ∈ fp) (e : h.get? b = some o) : (b, o) ∈ pinsAt fp h := List.mem_filterMap.mpr ⟨b, hb, by rw [e]; rfl⟩
theorem of_pinsAt {fp : List Addr} {h : Heap} {p : Addr × Obj} (hp : p ∈ pinsAt fp h) : p.1 ∈ fp ∧ h.get? p.1 = some p.2 := by
  obtain ⟨b, hb, e⟩ := List.mem_filterMap.mp hp
  cases q : h.get? b with
  | none => rw [q] at e; cases e
  | some o =>
    rw [q] at e
    have e' : (b, o) = p := Option.some.inj e
    subst e'
    exact ⟨hb, q⟩
theorem Inv.pinned {pins : List (Addr × Obj)} {σ : St} {H : Hp} {s : Shared} {fp : List Addr} (I : Inv X pins σ H s) (hf : ∀ b ∈ fp, FpOk X pins H b) (ho : ∀ b ∈ fp, ∃ o, s.heap.get? b = some o ∧ ∀ v, o.data ≠ .cell v) : Inv X (pins ++ pinsAt fp s.heap) σ H s :=
  I.pins_of fun p hp => (List.mem_append.mp hp).elim (fun z => I.pin p (List.mem_append_right _ z)) fun z => by
    obtain ⟨hb, e⟩ := of_pinsAt z
    obtain ⟨f0, f1, f2, _⟩ := hf p.1 hb
    obtain ⟨o, e', d⟩ := ho p.1 hb
    rw [e] at e'; cases e'
    exact ⟨e, f0, f1, f2, d⟩
theorem Inv.unpinned {pins pl : List (Addr × Obj)} {σ : St} {H : Hp} {s : Shared} (I : Inv X (pins ++ pl) σ H s) : Inv X pins σ H s := I.pins_of fun p hp => I.pin p (List.mem_append_right _ (List.mem_append_left _ hp))
theorem ps_for {iter : Expr} {body : List Stmt} {wi : TI} {g : TG} {tb : TS} {pos : Pos} (hp : PassesOwn (model X.prog X.w) X.A X.env X.xe) (hc : X.calm = true) (hi : PI X tg iter wi) (hg : PG X tg g) (hb : PSs X body tb)
    (hs : ∀ x, foldedSetIterable iter X.env x = pure x := by intro _; rfl) : PS X (.For tg iter body [] pos) (tFor wi g tb) := by
  intro pins s σ H D I h
  refine wpAny_For (thn (hi pins s σ H _ I h) fun v s1 h1 => thn h1 fun itv s2 h2 => ?_) hs
  obtain ⟨it, fp, tn, J, H2, e, I2, T, st2, f2, W, ⟨m0, w0⟩, turn⟩ := h2
  subst e
  -- what stays true of the iterator's objects through the loop
  have stat : ∀ {H' : Hp}, (∀ b ∈ fp, H' b = none) → ∀ b ∈ fp, FpOk X pins H' b := fun hn b hb => ⟨hn b hb, (f2 b hb).2⟩
  refine codeAny_forLoop_any (fun n s' => ∃ i σ' H', Inv X pins σ' H' s' ∧ tn i s'.heap ∧ (∀ b ∈ fp, H' b = none) ∧ W i n σ' H') ?_ m0 ⟨0, σ, H2, I2, st2, fun b hb => (f2 b hb).1, w0⟩
  rintro n s3 ⟨i, σ3, H3, I3, st3, fr3, w3⟩
  rcases turn i n σ3 H3 w3 with ⟨stop, qn⟩ | ⟨go, N, hN, step⟩
  · refine wpAny_passesOwn hp (thn (T.done X rfl rfl rfl hc i pins s3 σ3 H3 X.xe I3 (stat fr3) st3 stop) fun r s4 ⟨hr, I4⟩ => ?_)
    subst hr
    exact wpAny_execs_nil ⟨σ3, H3, I4, qn⟩
  · refine wpAny_passesOwn hp (thn (T.item X rfl rfl rfl hc i pins s3 σ3 H3 X.xe I3 (stat fr3) st3 go) fun r s4 ⟨u, hr, h4⟩ => ?_)
    subst hr
    refine wpAny_passesOwn hp (thn h4 fun _ s5 ⟨x, H5, I5, r5, y5, st5, fr5⟩ => ?_)
    have I5' := I5.pinned (stat fr5) (T.obj _ _ st5)
    refine wpAny_passesOwn hp (thn (hg _ s5 σ3 H5 x u _ I5' r5 (step x H5 y5)) fun _ s6 ⟨σ6, H6, I6, q6⟩ => ?_)
    refine wpAny_passesOwn hp (thn (hb _ s6 σ6 H6 _ I6 q6) fun f s7 q7 => ?_)
    have again : ∀ {σ7 : St} {H7 : Hp}, Inv X (pins ++ pinsAt fp s5.heap) σ7 H7 s7 → N σ7 H7 → ∃ m, m < n ∧ ∃ i σ' H', Inv X pins σ' H' s7 ∧ tn i s7.heap ∧ (∀ b ∈ fp, H' b = none) ∧ W i m σ' H' := fun {σ7 H7} I7 n7 => by
      obtain ⟨m', hm, w7⟩ := hN σ7 H7 n7
      refine ⟨m', hm, i + 1, σ7, H7, I7.unpinned, T.keep _ _ _ st5 fun b hb o e => (I7.pin (b, o) (List.mem_append_right _ (List.mem_append_right _ (mem_pinsAt hb e)))).1, fun b hb => ?_, w7⟩
      obtain ⟨o, e, d⟩ := T.obj _ _ st5 b hb
      exact (I7.pin (b, o) (List.mem_append_right _ (List.mem_append_right _ (mem_pinsAt hb e)))).2.1
    cases f with
    | next => obtain ⟨σ7, H7, I7, n7⟩ := q7; exact again I7 n7
    | cont => obtain ⟨σ7, H7, I7, n7⟩ := q7; exact again I7 n7
    | brk => obtain ⟨σ7, H7, I7, q7⟩ := q7; exact ⟨σ7, H7, I7.unpinned, q7⟩
    | ret v => obtain ⟨x7, σ7, H7, I7, r7, q7⟩ := q7; exact ⟨x7, σ7, H7, I7.unpinned, r7, q7⟩
end

theorem while_by {c : TT} {tb : TS} {D : Ends} {σ : St} {H : Hp} (Pv : St → Hp → Prop) (μ : St → Hp → Nat) (h0 : Pv σ H)
    (hs : ∀ σ H, Pv σ H → c σ H fun b H1 => if b = true then tb { D with nx := fun σ' H' => Pv σ' H' ∧ μ σ' H' < μ σ H, ct := fun σ' H' => Pv σ' H' ∧ μ σ' H' < μ σ H, bk := D.nx } σ H1 else D.nx σ H1)
    (mono : ∀ σ H Q Q', (∀ b H1, Q b H1 → Q' b H1) → c σ H Q → c σ H Q') : tWhile c tb D σ H := by
  refine ⟨fun m σ H => m = μ σ H ∧ Pv σ H, ⟨_, rfl, h0⟩, ?_⟩
  rintro m σ H ⟨rfl, p⟩
  refine mono σ H _ _ (fun b H1 q => ?_) (hs σ H p)
  cases b with
  | true => exact ⟨_, fun σ' H' ⟨p', l⟩ => ⟨_, l, rfl, p'⟩, q⟩
  | false => exact q
end L2

namespace L2
open PySem PySem.Spec PyProof.Rows

abbrev R2 := V → V → Hp → VK → Prop
def OpR (X : Cx) (f : Value → Value → Sem Value) (r : R2) : Prop :=
  ∀ (pins : List (Addr × Obj)) (s : Shared) (σ : St) (H : Hp) (x y : V) (v u : Value) (Q : VK), Inv X pins σ H s → RelV x v → RelV y u → r x y H Q →
    wpAny (model X.prog X.w) X.A (f v u) (EP X pins σ Q) X.xe s
def UnR (X : Cx) (f : Value → Sem Value) (r : V → Hp → VK → Prop) : Prop :=
  ∀ (pins : List (Addr × Obj)) (s : Shared) (σ : St) (H : Hp) (x : V) (v : Value) (Q : VK), Inv X pins σ H s → RelV x v → r x H Q →
    wpAny (model X.prog X.w) X.A (f v) (EP X pins σ Q) X.xe s
def CallR (X : Cx) (f : Value) (r : List V → Hp → VK → Prop) : Prop :=
  ∀ (pins : List (Addr × Obj)) (s : Shared) (σ : St) (H : Hp) (xs : List V) (us : List Value) (Q : VK), Inv X pins σ H s → Vals xs us → r xs H Q →
    wpAny (model X.prog X.w) X.A (call f us) (EP X pins σ Q) X.xe s
def tOp (r : R2) (ta tb : TE) : TE := fun σ H Q => ta σ H fun x H1 => tb σ H1 fun y H2 => r x y H2 Q
def tUn (r : V → Hp → VK → Prop) (ta : TE) : TE := fun σ H Q => ta σ H fun x H1 => r x H1 Q
def rI (C : Int → Int → Prop) (g : Int → Int → V) : R2 := fun x y H Q => ∃ i j, x = .int i ∧ y = .int j ∧ C i j ∧ Q (g i j) H
def rI0 (g : Int → Int → V) : R2 := fun x y H Q => ∃ i j, x = .int i ∧ y = .int j ∧ Q (g i j) H
def rU (g : Int → V) : V → Hp → VK → Prop := fun x H Q => ∃ i, x = .int i ∧ Q (g i) H

section
variable {X : Cx} {a b c : Expr} {ta tb tc : TE} {pos : Pos}

theorem binT (ha : PE X a ta) (hb : PE X b tb) {pins : List (Addr × Obj)} {s : Shared} {σ : St} {H : Hp} {R : V → V → Hp → Prop} (I : Inv X pins σ H s)
    (h : ta σ H fun x H1 => tb σ H1 fun y H2 => R x y H2) {Q : Value → Shared → Prop} {f : Value → Value → Sem Value}
    (hf : ∀ v u s2 x y H2, Inv X pins σ H2 s2 → RelV x v → RelV y u → R x y H2 → wpAny (model X.prog X.w) X.A (f v u) Q X.xe s2) :
    wpAny (model X.prog X.w) X.A (eval a X.env) (fun v s₁ => wpAny (model X.prog X.w) X.A (eval b X.env) (fun u s₂ => wpAny (model X.prog X.w) X.A (f v u) Q X.xe s₂) X.xe s₁) X.xe s := by
  refine thn (ha pins s σ H _ I h) fun v s1 ⟨x, H1, I1, r1, q1⟩ => ?_
  refine thn (hb pins s1 σ H1 _ I1 q1) fun u s2 ⟨y, H2, I2, r2, q2⟩ => ?_
  exact hf v u s2 x y H2 I2 r1 r2 q2

theorem pe_op {op : Operator} {r : R2} (ho : OpR X (binaryOp op) r) (ha : PE X a ta) (hb : PE X b tb) : PE X (.BinOp a op b pos) (tOp r ta tb) := by
  intro pins s σ H Q I h
  exact wpAny_BinOp (binT ha hb I h fun v u s2 x y H2 I2 rx ry q => ho pins s2 σ H2 x y v u Q I2 rx ry q)
theorem pe_un {op : UnaryOp} {r : V → Hp → VK → Prop} (ho : UnR X (unaryOp op) r) (ha : PE X a ta) : PE X (.UnaryOp op a pos) (tUn r ta) := by
  intro pins s σ H Q I h
  exact UnaryOp_ (thn (ha pins s σ H _ I h) fun v s1 ⟨x, H1, I1, r1, q1⟩ => ho pins s1 σ H1 x v Q I1 r1 q1)
theorem opI {f : Value → Value → Sem Value} {C : Int → Int → Prop} {g : Int → Int → Int}
    (rule : ∀ (i j : Int) (t u : Tok) (s : Shared) (Q : Value → Shared → Prop) (E : Value → Shared → Prop), C i j → Q (.int (g i j) s.toks) { s with toks := s.toks + 1 } → wpAny (model X.prog X.w) X.A (f (.int i t) (.int j u)) Q E s) :
    OpR X f (rI C fun i j => .int (g i j)) := by
  intro pins s σ H x y v u Q I rx ry h
  obtain ⟨i, j, rfl, rfl, hc, q⟩ := h
  obtain ⟨t, rfl⟩ := rx
  obtain ⟨t', rfl⟩ := ry
  exact rule i j t t' s _ _ hc ⟨.int (g i j), H, I.tok _, ⟨_, rfl⟩, q⟩
theorem opI0 {f : Value → Value → Sem Value} {g : Int → Int → Int}
    (rule : ∀ (i j : Int) (t u : Tok) (s : Shared) (Q : Value → Shared → Prop) (E : Value → Shared → Prop), Q (.int (g i j) s.toks) { s with toks := s.toks + 1 } → wpAny (model X.prog X.w) X.A (f (.int i t) (.int j u)) Q E s) :
    OpR X f (rI0 fun i j => .int (g i j)) := by
  intro pins s σ H x y v u Q I rx ry h
  obtain ⟨i, j, rfl, rfl, q⟩ := h
  obtain ⟨t, rfl⟩ := rx
  obtain ⟨t', rfl⟩ := ry
  exact rule i j t t' s _ _ ⟨.int (g i j), H, I.tok _, ⟨_, rfl⟩, q⟩
theorem opB0 {f : Value → Value → Sem Value} {g : Int → Int → Bool}
    (rule : ∀ (i j : Int) (t u : Tok) (s : Shared) (Q : Value → Shared → Prop) (E : Value → Shared → Prop), Q (.bool (g i j)) s → wpAny (model X.prog X.w) X.A (f (.int i t) (.int j u)) Q E s) :
    OpR X f (rI0 fun i j => .bl (g i j)) := by
  intro pins s σ H x y v u Q I rx ry h
  obtain ⟨i, j, rfl, rfl, q⟩ := h
  obtain ⟨t, rfl⟩ := rx
  obtain ⟨t', rfl⟩ := ry
  exact rule i j t t' s _ _ ⟨.bl (g i j), H, I, rfl, q⟩

def CPow (i j : Int) : Prop := 0 ≤ j ∧ j ≤ 1000000 ∧ i.natAbs < 2 ^ 64
def CMul (i j : Int) : Prop := (-(2 ^ 64) < i ∧ i < 2 ^ 64) ∨ (-(2 ^ 64) < j ∧ j < 2 ^ 64)
theorem CMul.ok {i j : Int} (h : CMul i j) : IntMulOk i j := by
  rcases h with ⟨h1, h2⟩ | ⟨h1, h2⟩
  · exact .of_left (intBits_le_64 h1 h2)
  · exact .of_right (intBits_le_64 h1 h2)
theorem op_add : OpR X (binaryOp .Add) (rI0 fun i j => .int (i + j)) := opI0 fun _ _ _ _ _ _ _ q => add_int q
theorem op_sub : OpR X (binaryOp .Sub) (rI0 fun i j => .int (i - j)) := opI0 fun _ _ _ _ _ _ _ q => sub_int q
theorem op_modN : OpR X (binaryOp .Mod) (rI (fun _ j => j ≠ 0) fun i j => .int (i.fmod j)) := opI fun _ _ _ _ _ _ _ hc q => mod_int' hc q
theorem op_shl : OpR X (binaryOp .LShift) (rI CPow fun i j => .int (i * 2 ^ j.toNat)) := opI fun _ _ _ _ _ _ _ hc q => lshift_int_small hc.1 hc.2.1 hc.2.2 q
theorem unI {f : Value → Sem Value} {g : Int → Int}
    (rule : ∀ (i : Int) (t : Tok) (s : Shared) (Q : Value → Shared → Prop) (E : Value → Shared → Prop), Q (.int (g i) s.toks) { s with toks := s.toks + 1 } → wpAny (model X.prog X.w) X.A (f (.int i t)) Q E s) :
    UnR X f (rU fun i => .int (g i)) := by
  intro pins s σ H x v Q I rx h
  obtain ⟨i, rfl, q⟩ := h
  obtain ⟨t, rfl⟩ := rx
  exact rule i t s _ _ ⟨.int (g i), H, I.tok _, ⟨_, rfl⟩, q⟩
theorem un_neg : UnR X (unaryOp .USub) (rU fun i => .int (-i)) := unI fun _ _ _ _ _ q => neg_int q
end

section
variable {X : Cx} {a b c : Expr} {ta tb tc : TE} {pos : Pos}
theorem fin_bl {pins : List (Addr × Obj)} {σ : St} {H : Hp} {s : Shared} {Q : VK} {k k' : Bool} (I : Inv X pins σ H s) (q : Q (.bl k) H) (e : k = k') : EP X pins σ Q (.bool k') s := by
  subst e
  exact ⟨.bl k, H, I, rfl, q⟩
theorem op_lt : OpR X (compareOp .Lt) (rI0 fun i j => .bl (decide (i < j))) := opB0 fun _ _ _ _ _ _ _ q => lt_int q
theorem op_le : OpR X (compareOp .LtE) (rI0 fun i j => .bl (decide (i ≤ j))) := opB0 fun _ _ _ _ _ _ _ q => le_int q
theorem op_gt : OpR X (compareOp .Gt) (rI0 fun i j => .bl (decide (j < i))) := opB0 fun _ _ _ _ _ _ _ q => gt_int q
theorem op_ge : OpR X (compareOp .GtE) (rI0 fun i j => .bl (decide (j ≤ i))) := opB0 fun _ _ _ _ _ _ _ q => ge_int q
theorem op_isN : OpR X (compareOp .Is) (fun x y H Q => y = .non ∧ Q (.bl (decide (x = .non))) H) := by
  intro pins s σ H x y v u Q I rx ry h
  obtain ⟨rfl, q⟩ := h
  cases ry
  refine is_none_gen (fin_bl I q ?_)
  cases x <;> first
    | (cases rx; rfl)
    | (obtain ⟨t, rfl⟩ := rx; rfl)
theorem nomark (b : Expr) {op : CmpOp} (h : op ≠ .In := by decide) (h2 : op ≠ .NotIn := by decide) : behindInMarks op b = false := by
  have e1 : (op == CmpOp.In) = false := by cases op <;> first | rfl | exact absurd rfl h
  have e2 : (op == CmpOp.NotIn) = false := by cases op <;> first | rfl | exact absurd rfl h2
  cases b <;> simp [behindInMarks, e1, e2]
theorem pe_cmpR {op : CmpOp} {r : R2} (ho : OpR X (compareOp op) r) (ha : PE X a ta) (hb : PE X b tb) (hm : behindInMarks op b = false) : PE X (.Compare a [op] [b] pos) (tOp r ta tb) := by
  intro pins s σ H Q I h
  exact wpAny_Compare1 (binT ha hb I h fun v u s2 x y H2 I2 rx ry q => ho pins s2 σ H2 x y v u Q I2 rx ry q) hm
def tTest (t : TE) : TT := fun σ H Q => t σ H fun x H' => ∃ k, x = .bl k ∧ Q k H'
theorem pt_cmpR {op : CmpOp} {r : R2} (ho : OpR X (compareOp op) r) (ha : PE X a ta) (hb : PE X b tb) (hm : behindInMarks op b = false) : PT X (.Compare a [op] [b] pos) (tTest (tOp r ta tb)) := by
  intro pins s σ H Q I h
  refine wpAny_isTrue_Compare1 (thn (ha pins s σ H _ I h) fun v s1 ⟨x, H1, I1, r1, q1⟩ => thn (hb pins s1 σ H1 _ I1 q1) fun u s2 ⟨y, H2, I2, r2, q2⟩ =>
    thn (ho pins s2 σ H2 x y v u _ I2 r1 r2 q2) fun c s3 ⟨z, H3, I3, r3, k, e, q3⟩ => ?_) hm
  subst e
  cases r3
  exact wpAny_truthy_bool ⟨H3, I3, q3⟩
def tChain (r r' : R2) (ta tb tc : TE) : TE := fun σ H Q => ta σ H fun x H1 => tb σ H1 fun y H2 => r x y H2 fun z H3 => ∃ k, z = .bl k ∧
  (if k = true then tc σ H3 fun w' H4 => r' y w' H4 Q else Q (.bl false) H3)
theorem pe_chain {op op' : CmpOp} {r r' : R2} (ho : OpR X (compareOp op) r) (ho' : OpR X (compareOp op') r') (ha : PE X a ta) (hb : PE X b tb) (hc : PE X c tc)
    (hm : lastMarks [op, op'] [b, c] = false := by with_unfolding_all rfl) : PE X (.Compare a [op, op'] [b, c] pos) (tChain r r' ta tb tc) := by
  intro pins s σ H Q I h
  refine Compare_chain (thn (ha pins s σ H _ I h) fun v s1 ⟨x, H1, I1, r1, q1⟩ => chain_link (thn (hb pins s1 σ H1 _ I1 q1) fun u s2 ⟨y, H2, I2, r2, q2⟩ =>
    thn (ho pins s2 σ H2 x y v u _ I2 r1 r2 q2) fun d s3 ⟨z, H3, I3, r3, k, e, q3⟩ => ?_)) hm
  subst e
  cases r3
  refine wpAny_truthy_bool ?_
  cases k with
  | false => exact ite_ff ⟨.bl false, H3, I3, rfl, q3⟩
  | true => exact ite_tt (chain_last (thn (hc pins s3 σ H3 _ I3 q3) fun w' s4 ⟨z', H4, I4, r4, q4⟩ => ho' pins s4 σ H4 y z' u w' Q I4 r2 r4 q4))
theorem line63 : (sizeLine : Nat) < 2 ^ 63 := by rw [sizeLine_eq]; decide
theorem vals1 {x : V} {us : List Value} (r : Vals [x] us) : ∃ u, us = [u] ∧ RelV x u := by
  cases r with
  | cons r1 r2 => cases r2; exact ⟨_, rfl, r1⟩
theorem vals2 {x y : V} {us : List Value} (r : Vals [x, y] us) : ∃ u w', us = [u, w'] ∧ RelV x u ∧ RelV y w' := by
  cases r with
  | cons r1 r2 =>
    cases r2 with
    | cons r3 r4 => cases r4; exact ⟨_, _, rfl, r1, r3⟩
theorem call_abs : CallR X (.builtin "abs") (fun xs H Q => ∃ i, xs = [.int i] ∧ Q (.int (if i < 0 then -i else i)) H) := by
  intro pins s σ H xs us Q I r h
  obtain ⟨i, rfl, q⟩ := h
  obtain ⟨u, rfl, t, rfl⟩ := vals1 r
  exact call_abs_int fun u tk => ⟨.int (if i < 0 then -i else i), H, I.tok _, ⟨_, rfl⟩, q⟩
theorem call_min2 (hc : X.calm = true) : CallR X (.builtin "min") (fun xs H Q => ∃ i j, xs = [.int i, .int j] ∧ Q (.int (if j < i then j else i)) H) := by
  intro pins s σ H xs us Q I r h
  obtain ⟨i, j, rfl, q⟩ := h
  obtain ⟨u, w', rfl, ⟨t, rfl⟩, ⟨t', rfl⟩⟩ := vals2 r
  refine min_two_ints (I.ok.hd hc) fun h' tk k => ⟨_, H, I.kept k, ?_, q⟩
  by_cases hj : j < i
  · rw [if_pos hj, if_pos hj]; exact ⟨_, rfl⟩
  · rw [if_neg hj, if_neg hj]; exact ⟨_, rfl⟩
theorem call_int1 : CallR X (.type "int") (fun xs H Q => (∃ i, xs = [.int i] ∧ Q (.int i) H) ∨ ∃ k, xs = [.bl k] ∧ Q (.int (if k then 1 else 0)) H) := by
  intro pins s σ H xs us Q I r h
  rcases h with ⟨i, rfl, q⟩ | ⟨k, rfl, q⟩
  · obtain ⟨u, rfl, t, rfl⟩ := vals1 r
    exact call_int_int ⟨.int i, H, I, ⟨_, rfl⟩, q⟩
  · obtain ⟨u, rfl, r1⟩ := vals1 r
    cases r1
    exact call_int_bool ⟨.int (if k then 1 else 0), H, I.tok _, ⟨_, rfl⟩, q⟩
end
end L2

namespace L2
open PySem PySem.Spec PyProof.Rows

structure ObjM (h : Heap) (x dx C : Addr) (mA : Str → Option Value) : Prop where
  obj : h.get? x = some (PySem.W.instObj C dx)
  ns : h.Ns1 dx mA
  ne : dx ≠ x

theorem lookIn_ns {h : Heap} {dx : Addr} {mA : Str → Option Value} (n : h.Ns1 dx mA) : ∃ od, h.get? dx = some od ∧ ∀ name, PySem.W.lookIn name od = some (mA name) := by
  obtain ⟨o, es, ep, ho, hd, hk, _, hm⟩ := n
  refine ⟨o, ho, fun name => ?_⟩
  have e := hm name
  unfold nsFind findBy at e
  rw [← Array.find?_toList] at e
  unfold PySem.W.lookIn
  rw [hd]
  dsimp only
  split
  · rename_i y q
    rw [q] at e
    exact congrArg some e
  · rename_i q
    rw [q] at e
    have a : es.toList.any (·.refKey) = false := by
      rw [List.any_eq_false]
      intro y hy
      obtain ⟨z, t, hkey⟩ := hk y (Array.mem_toList_iff.mp hy)
      simp [DictEntry.refKey, hkey]
    have a' : ¬ es.toList.any (·.refKey) = true := by rw [a]; exact Bool.false_ne_true
    rw [if_neg a']
    exact congrArg some e

theorem ObjM.look {h : Heap} {x dx C : Addr} {mA : Str → Option Value} (I : ObjM h x dx C mA) : ∃ od, PySem.W.InstAt h x (PySem.W.instObj C dx) C (some od) ∧ ∀ name, PySem.W.lookIn name od = some (mA name) :=
  let ⟨od, ho, hl⟩ := lookIn_ns I.ns
  ⟨od, ⟨I.obj, rfl, rfl, ho⟩, hl⟩

section
variable {prog : Program} {w : World} {A : Around} {E : Value → Shared → Prop} {s : Shared} {K : PySem.W.Frag} {x dx C f : Addr} {mA : Str → Option Value} {name : Str} {v : Value}

theorem get_map {expr : Bool} {Q : Value → Shared → Prop} (X : K.In s.heap) (I : ObjM s.heap x dx C mA) (hg : PySem.W.plainGet K C name = true) (hh : PySem.W.hasDictIn K C = true)
    (ha : PySem.W.findIn K (.ref C) name = some none) (hv : mA name = some v) (hv' : PySem.W.handedIn v = true) (h : Q v { s with toks := s.toks + 1 }) :
    wpAny (model prog w) A (getAttr (.ref x) name expr) Q E s := by
  obtain ⟨od, J, hl⟩ := I.look
  exact PySem.W.get_value X J (PySem.W.plainGet_of hg).1 (PySem.W.findObj_own hh ha rfl (by rw [hl, hv])) hv' h

theorem get_meth {pl : Sem Bool} {Q : Value × List Value → Shared → Prop} (X : K.In s.heap) (I : ObjM s.heap x dx C mA) (hg : PySem.W.plainGet K C name = true)
    (hf : PySem.W.findIn K (.ref C) name = some (some (.ref f))) (ht : PySem.W.isFn K (.ref f) = true) (hv : mA name = none) (h : Q (.ref f, [.ref x]) s) :
    wpAny (model prog w) A (getMethod (.ref x) name pl) Q E s := by
  obtain ⟨od, J, hl⟩ := I.look
  exact PySem.W.method_fn X J (PySem.W.plainGet_of hg).1 (PySem.W.plainGet_of hg).2 hf (beq_iff_eq.mp ht) (by show (PySem.W.lookIn name od).map (·.isSome) = some false; rw [hl, hv]; rfl) h

theorem set_map {ns : List Str} {Q : Unit → Shared → Prop} (X : K.In s.heap) (I : ObjM s.heap x dx C mA)
    (hs : PySem.W.findIn K (.ref C) "__setattr__" = some (some (.builtin "object.__setattr__"))) (hp : PySem.W.plainOver K C = true) (ht : PySem.W.takerIn K C name = some none) (hh : PySem.W.hasDictIn K C = true)
    (hw : PySem.Within mA ns) (hsz : ns.length ≤ sizeLine)
    (h : ∀ h', ObjM h' x dx C (fun y => if y = name then some v else mA y) → Heap.SameBut dx s.heap h' → Q () { s with heap := h', toks := s.toks + 2 }) :
    wpAny (model prog w) A (setAttr (.ref x) name v) Q E s := by
  obtain ⟨od, J, hl⟩ := I.look
  refine PySem.W.set_plain X J hs (PySem.W.osa_open (s := { s with toks := s.toks + 1 }) (r := none) X J hp ht fun b => ?_)
  obtain ⟨cd, hc, hd'⟩ := PySem.W.any_some hh
  have hx : s.heap.get? x = some ⟨.ref C, some dx, .plain, #[]⟩ := I.obj
  refine wpAny_bind (wpAny_pure (wpAny_bind (wpAny_bind (wpAny_loadPart hx (wpAny_bind (PySem.W.Looks.here (s := { s with toks := s.toks + 1 }) (PySem.W.looks_clsIn X hc) ?_))))))
  rw [hd']
  refine wpAny_pure (a := some dx) (wpAny_bind (wpAny_pure (wpAny_bind ?_)))
  refine wpAny_nsSet1 (s := { s with toks := s.toks + 1 }) I.ns fun h' hn2 hs2 => ?_
  obtain ⟨oD, esD, epD, hoD, hdD, hcD⟩ := hn2.count (PySem.Within.cons name v hw)
  refine wpAny_bind (wpAny_lookBehind hoD (by rw [hdD]; exact pastItsLine_dict (Nat.le_trans hcD (by rw [List.length_cons]; omega))) ?_)
  exact wpAny_pure (h _ ⟨(hs2.2 _ (Ne.symm I.ne)).trans I.obj, hn2, I.ne⟩ hs2)

theorem make_map {R : Result → Shared → Prop} {vs : List Value} {kw : List (Str × Value)} (X : K.In s.heap) (hm : PySem.W.makesIn K C = true)
    (hi : PySem.W.findIn K (.ref C) "__init__" = some (some (.ref f))) (hf : PySem.W.typeIn K (.ref f) = some (.type "function"))
    (h : codeAny (model prog w) (A.under (.builtin "type.__call__" ⟨.ref C :: vs, kw⟩)) (.call (.ref f) ⟨.ref (s.heap.objs.size + 1) :: vs, kw⟩) (PySem.W.InitBack (s.heap.objs.size + 1) R)
      { s with heap := (s.heap.push PySem.W.emptyDict).push (PySem.W.instObj C s.heap.objs.size) }) :
    codeAny (model prog w) A (.call (.ref C) ⟨vs, kw⟩) R s := by
  obtain ⟨hh, g, d, t, os⟩ := s
  exact PySem.W.make_core (PySem.W.makes_of X hm) (PySem.W.looks_findIn X hi) (fun self => PySem.W.bind_fn X self hf) (.inl rfl) h
end

def putF (f : Str) (v : V) : List (Str × V) → List (Str × V)
  | [] => [(f, v)]
  | (g, x) :: r => if g = f then (g, v) :: r else (g, x) :: putF f v r
theorem lookup_putF (f g : Str) (v : V) : ∀ fs : List (Str × V), (putF f v fs).lookup g = if g = f then some v else fs.lookup g
  | [] => by
    show List.lookup g [(f, v)] = _
    by_cases h : g = f
    · have hb : (g == f) = true := beq_iff_eq.mpr h
      simp only [List.lookup, hb, if_pos h]
    · have hb : (g == f) = false := beq_eq_false_iff_ne.mpr h
      simp only [List.lookup, hb, if_neg h]
  | (k, x) :: r => by
    have ih := lookup_putF f g v r
    rw [show putF f v ((k, x) :: r) = (if k = f then (k, v) :: r else (k, x) :: putF f v r) from rfl]
    by_cases hk : k = f
    · rw [if_pos hk]
      by_cases h : g = k
      · have hb : (g == k) = true := beq_iff_eq.mpr h
        simp only [List.lookup, hb, if_pos (h.trans hk)]
      · have hb : (g == k) = false := beq_eq_false_iff_ne.mpr h
        simp only [List.lookup, hb, if_neg (fun e : g = f => h (e.trans hk.symm))]
    · rw [if_neg hk]
      by_cases h : g = k
      · have hb : (g == k) = true := beq_iff_eq.mpr h
        simp only [List.lookup, hb, if_neg (fun e : g = f => hk (h.symm.trans e))]
      · have hb : (g == k) = false := beq_eq_false_iff_ne.mpr h
        simp only [List.lookup, hb]
        exact ih
theorem keys_putF (f : Str) (v : V) : ∀ fs : List (Str × V), f ∈ (putF f v fs).map (·.1) ∧ ∀ g, g ∈ fs.map (·.1) → g ∈ (putF f v fs).map (·.1)
  | [] => ⟨by simp [putF], fun g h => by simp at h⟩
  | (k, x) :: r => by
    obtain ⟨i1, i2⟩ := keys_putF f v r
    rw [show putF f v ((k, x) :: r) = (if k = f then (k, v) :: r else (k, x) :: putF f v r) from rfl]
    by_cases hk : k = f
    · rw [if_pos hk]
      subst hk
      exact ⟨by simp, fun g h => by simpa using h⟩
    · rw [if_neg hk]
      refine ⟨?_, fun g h => ?_⟩
      · rw [List.map_cons]
        exact List.mem_cons_of_mem _ i1
      · rw [List.map_cons] at h ⊢
        rcases List.mem_cons.mp h with e | e
        · exact List.mem_cons.mpr (.inl e)
        · exact List.mem_cons_of_mem _ (i2 g e)
theorem length_putF (f : Str) (v : V) : ∀ fs : List (Str × V), (putF f v fs).length ≤ fs.length + 1
  | [] => by simp [putF]
  | (k, x) :: r => by
    have ih := length_putF f v r
    rw [show putF f v ((k, x) :: r) = (if k = f then (k, v) :: r else (k, x) :: putF f v r) from rfl]
    by_cases hk : k = f
    · rw [if_pos hk, List.length_cons, List.length_cons]; omega
    · rw [if_neg hk, List.length_cons, List.length_cons]; omega

theorem RelO.some_of {v : V} {o : Option Value} (r : RelO (some v) o) : ∃ u, o = some u ∧ RelV v u := by
  cases o with
  | none => exact (show False from r).elim
  | some u => exact ⟨u, rfl, r⟩
theorem RelO.none_of {o : Option Value} (r : RelO none o) : o = none := by
  cases o with
  | none => rfl
  | some u => exact (show False from r).elim
theorem handed_of {v : V} {u : Value} (r : RelV v u) : PySem.W.handedIn u = true := by
  cases v with
  | non => cases (show u = Value.none from r); rfl
  | bl b => cases (show u = Value.bool b from r); rfl
  | int i => obtain ⟨t, e⟩ := (show ∃ t, u = Value.int i t from r); cases e; rfl
  | str x => obtain ⟨t, e⟩ := (show ∃ t, u = Value.str x t from r); cases e; rfl
  | byt b => obtain ⟨t, e⟩ := (show ∃ t, u = Value.bytes b t from r); cases e; rfl
  | flt b => obtain ⟨t, e⟩ := (show ∃ t, u = Value.float b t from r); cases e; rfl
  | ref a => cases (show u = Value.ref a from r); rfl
  | ty n => cases (show u = Value.type n from r); rfl

section
variable {P : Program} {w : World} {H H' : Hp} {h h' : Heap} {a C dx : Addr} {fs fs' : List (Str × V)}
theorem ins_get (hok : HOk P w H h) (e : H a = some (.ins C dx fs)) : ∃ mA, ObjM h a dx C mA ∧ (∀ f, RelO (fs.lookup f) (mA f)) ∧ PySem.Within mA (fs.map (·.1)) ∧ fs.length ≤ 1000 ∧ H dx = some (.own a) := by
  obtain ⟨d, z, ne, ob, mA, n, r, q⟩ := (show ObjOk P w H h a (.ins C dx fs) from hok a _ e)
  exact ⟨mA, ⟨ob, n, ne⟩, r, q, z, d⟩
end

structure Cls (K : PySem.W.Frag) (C : Addr) : Prop where
  pg : PySem.W.plainGet K C Str.empty = true
  hd : PySem.W.hasDictIn K C = true
  po : PySem.W.plainOver K C = true
  sa : PySem.W.findIn K (.ref C) "__setattr__" = some (some (.builtin "object.__setattr__"))
theorem Cls.get {K : PySem.W.Frag} {C : Addr} (c : Cls K C) (f : Str) : PySem.W.plainGet K C f = true := c.pg
def NoAttr (K : PySem.W.Frag) (C : Addr) (f : Str) : Prop := PySem.W.findIn K (.ref C) f = some none
theorem NoAttr.taker {K : PySem.W.Frag} {C : Addr} {f : Str} (n : NoAttr K C f) : PySem.W.takerIn K C f = some none := by
  unfold PySem.W.takerIn
  rw [show PySem.W.findIn K (.ref C) f = some none from n]
  rfl
structure Meth (K : PySem.W.Frag) (C : Addr) (m : Str) (f : Addr) : Prop where
  at_ : PySem.W.findIn K (.ref C) m = some (some (.ref f))
  fn : PySem.W.isFn K (.ref f) = true
  kp : PySem.W.keepIn K (.ref f) = true

section
variable {X : Cx} {pins : List (Addr × Obj)} {σ : St} {H : Hp} {s : Shared} {a C dx : Addr} {fs : List (Str × V)} {f : Str} {v : V} {A : Around} {E : Value → Shared → Prop}

theorem getattr_ok {b : Bool} {Q : Value → Shared → Prop} (I : Inv X pins σ H s) (e : H a = some (.ins C dx fs)) (c : Cls X.K C) (n : NoAttr X.K C f) (l : fs.lookup f = some v)
    (h : ∀ u s', Inv X pins σ H s' → RelV v u → Q u s') : wpAny (model X.prog X.w) A (getAttr (.ref a) f b) Q E s := by
  obtain ⟨mA, O, r, _, _, _⟩ := ins_get I.hok e
  obtain ⟨u, hu, ru⟩ := RelO.some_of (v := v) (o := mA f) (by rw [← l]; exact r f)
  exact get_map I.kIn O (c.get f) c.hd n hu (handed_of ru) (h u _ (I.tok _) ru)

theorem getmeth_ok {m : Str} {g : Addr} {pl : Sem Bool} {Q : Value × List Value → Shared → Prop} (I : Inv X pins σ H s) (e : H a = some (.ins C dx fs)) (c : Cls X.K C) (k : Meth X.K C m g) (l : fs.lookup m = none)
    (h : Q (.ref g, [.ref a]) s) : wpAny (model X.prog X.w) A (getMethod (.ref a) m pl) Q E s := by
  obtain ⟨mA, O, r, _, _, _⟩ := ins_get I.hok e
  have hn : mA m = none := RelO.none_of (by rw [← l]; exact r m)
  exact get_meth I.kIn O (c.get m) k.at_ k.fn hn h

theorem setattr_ok {y : V} {u : Value} {Q : Unit → Shared → Prop} (I : Inv X pins σ H s) (e : H a = some (.ins C dx fs)) (c : Cls X.K C) (n : NoAttr X.K C f) (hl : fs.length < 1000) (ry : RelV y u)
    (h : ∀ s', Inv X pins σ (upd H a (.ins C dx (putF f y fs))) s' → Q () s') : wpAny (model X.prog X.w) A (setAttr (.ref a) f u) Q E s := by
  obtain ⟨mA, O, r, wi, _, ho⟩ := ins_get I.hok e
  have hz : (fs.map (·.1)).length ≤ sizeLine := by rw [List.length_map, sizeLine_eq]; omega
  refine set_map I.kIn O c.sa c.po n.taker c.hd wi hz fun h' O' sb => h _ ?_
  have hd : ∃ o, h'.get? dx = some o := let ⟨o, _, _, e', _⟩ := O'.ns; ⟨o, e'⟩
  refine I.write (x := a) (e := dx) (by rw [e]; exact True.intro) (.inr ho) (fun b q hb z => (sb.2 b hb).trans z) hd ?_
  refine ⟨by rw [upd_ne O.ne]; exact ho, ?_, O.ne, O'.obj, _, O'.ns, fun g => ?_, fun g hg => ?_⟩
  · have := length_putF f y fs; omega
  · show RelO ((putF f y fs).lookup g) (if g = f then some u else mA g)
    rw [lookup_putF]
    by_cases q : g = f
    · rw [if_pos q, if_pos q]; exact ry
    · rw [if_neg q, if_neg q]; exact r g
  · by_cases q : g = f
    · rw [q]; exact (keys_putF f y fs).1
    · refine (keys_putF f y fs).2 g (wi g fun z => hg ?_)
      show (if g = f then some u else mA g) = none
      rw [if_neg q]; exact z

theorem Inv.made (I : Inv X pins σ H s) : Inv X pins σ (upd (upd H s.heap.objs.size (.own (s.heap.objs.size + 1))) (s.heap.objs.size + 1) (.ins C s.heap.objs.size []))
    { s with heap := (s.heap.push PySem.W.emptyDict).push (PySem.W.instObj C s.heap.objs.size) } := by
  have e1 : (s.heap.push PySem.W.emptyDict).get? s.heap.objs.size = some PySem.W.emptyDict := Heap.get?_push_size s.heap rfl
  have e2 : ((s.heap.push PySem.W.emptyDict).push (PySem.W.instObj C s.heap.objs.size)).get? (s.heap.objs.size + 1) = some (PySem.W.instObj C s.heap.objs.size) := by
    have := Heap.get?_push_size (s.heap.push PySem.W.emptyDict) (o := PySem.W.instObj C s.heap.objs.size) rfl
    rwa [Heap.size_push] at this
  have e3 : (s.heap.push PySem.W.emptyDict).Ns s.heap.objs.size (fun _ => none) := ⟨PySem.W.emptyDict, #[], _, e1, rfl, (fun e he => absurd he (by simp)), fun _ => rfl⟩
  have I1 := I.laid (a := s.heap.objs.size) (o := .own (s.heap.objs.size + 1)) (h' := s.heap.push PySem.W.emptyDict) (t' := s.toks) (fun b u q => Heap.get?_push_of_some _ q) (Nat.le_refl _) ⟨_, e1⟩
  refine I1.laid (a := s.heap.objs.size + 1) (o := .ins C s.heap.objs.size []) (t' := s.toks) (fun b u q => Heap.get?_push_of_some _ q) (Nat.le_of_eq (Heap.size_push _ _)) ?_
  have ne : s.heap.objs.size ≠ s.heap.objs.size + 1 := Nat.ne_of_lt (Nat.lt_succ_self _)
  refine ⟨by rw [upd_ne ne, upd_same], Nat.zero_le _, ne, e2, fun _ => none, (Heap.Ns1.of_empty e3).at fun o q => Heap.get?_push_of_some _ q, fun _ => True.intro, fun y hy => absurd rfl hy⟩

theorem attr_of {prog : Program} {w : World} {env : Env} {e : Expr} {f : Str} {pos : Pos} {s : Shared} {Q : Value → Shared → Prop} (hb : attributeBase e f env (eval e env) = eval e env)
    (h : wpAny (model prog w) A (eval e env) (fun o s₁ => wpAny (model prog w) A (getAttr o f true) Q E s₁) E s) : wpAny (model prog w) A (eval (.Attribute e f pos) env) Q E s :=
  Attribute_any_ h (by rw [arm_eval_Attribute, hb])
end

def tFld (K : PySem.W.Frag) (ta : TE) (f : Str) : TE := fun σ H Q => ta σ H fun x H1 => ∃ a C dx fs v, x = .ref a ∧ H1 a = some (.ins C dx fs) ∧ Cls K C ∧ NoAttr K C f ∧ fs.lookup f = some v ∧ Q v H1
def sFld (K : PySem.W.Frag) (ta tv : TE) (f : Str) : TS := fun D σ H => tv σ H fun y H1 => ta σ H1 fun x H2 => ∃ a C dx fs, x = .ref a ∧ H2 a = some (.ins C dx fs) ∧ Cls K C ∧ NoAttr K C f ∧ fs.length < 1000 ∧
  D.nx σ (upd H2 a (.ins C dx (putF f y fs)))
section
variable {X : Cx} {o e value : Expr} {f : Str} {pos pos' tpos : Pos} {ta tv : TE}
theorem pe_fld (he : PE X e ta) (hb : attributeBase e f X.env (eval e X.env) = eval e X.env) : PE X (.Attribute e f pos) (tFld X.K ta f) := by
  intro pins s σ H Q I h
  refine attr_of hb (thn (he pins s σ H _ I h) fun u s1 ⟨x, H1, I1, rx, a, C, dx, fs, v, ex, ea, c, n, l, q⟩ => ?_)
  subst ex
  obtain rfl : u = Value.ref a := rx
  exact getattr_ok I1 ea c n l fun u' s2 I2 ru => ⟨v, H1, I2, ru, q⟩
theorem ps_fld (ha : PE X o ta) (hv : PE X value tv) (hs : swapsWith value (some (.Attribute o f pos')) pos.line X.env = pure false) : PS X (.Assign [.Attribute o f pos'] value pos) (sFld X.K ta tv f) := by
  intro pins s σ H D I h
  refine plainObj_wpAny_Assign_Attribute (thn (hv pins s σ H _ I h) fun u s1 ⟨y, H1, I1, ry, q⟩ => thn (ha pins s1 σ H1 _ I1 q) fun ov s2 ⟨x, H2, I2, rx, a, C, dx, fs, ex, ea, c, n, l, q2⟩ => ?_) hs
  subst ex
  obtain rfl : ov = Value.ref a := rx
  exact setattr_ok I2 ea c n l ry fun s3 I3 => ⟨σ, _, I3, q2⟩
theorem methcall_of {pl : Sem Bool} {m : Str} {apos : Pos} {args : List Expr} {pins : List (Addr × Obj)} {s : Shared} {σ : St} {H : Hp} {Q : Value → Shared → Prop} {te : TE} (he : PE X e te) (I : Inv X pins σ H s)
    (h : te σ H fun x H1 => ∃ a C dx fs g, x = .ref a ∧ H1 a = some (.ins C dx fs) ∧ Cls X.K C ∧ Meth X.K C m g ∧ fs.lookup m = none ∧
      ∀ s1, Inv X pins σ H1 s1 → wpAny (model X.prog X.w) X.A (callWith pos (.ref g) [.ref a] (backTo pos (starEach args X.env)) (backToKw pos (keywordEach [] X.env))) Q X.xe s1)
    (ht : eval (.Call (.Attribute e m apos) args [] pos) X.env = (do
      let ov ← eval e X.env
      standAt apos.atName
      let (f, first) ← holding [ov] (getMethod ov m pl)
      callWith pos f first (backTo pos (starEach args X.env)) (backToKw pos (keywordEach [] X.env)))) :
    wpAny (model X.prog X.w) X.A (eval (.Call (.Attribute e m apos) args [] pos) X.env) Q X.xe s := by
  refine PySem.W.methodCall_KW (pl := pl) (thn (he pins s σ H _ I h) fun u s1 ⟨x, H1, I1, rx, a, C, dx, fs, g, ex, ea, c, k, l, q⟩ => ?_) ht
  subst ex
  obtain rfl : u = Value.ref a := rx
  exact getmeth_ok I1 ea c k l (q s1 I1)
end

section
variable {X : Cx} {pins : List (Addr × Obj)} {σ : St} {H : Hp} {s : Shared} {A : Around} {E : Value → Shared → Prop} {Q : Value → Shared → Prop} {c : Value} {b : Bool}
inductive TyOf (K : PySem.W.Frag) (H : Hp) : V → Value → Prop where
  | non : TyOf K H .non (.type "NoneType")
  | bl (x : Bool) : TyOf K H (.bl x) (.type "bool")
  | int (i : Int) : TyOf K H (.int i) (.type "int")
  | str (x : Str) : TyOf K H (.str x) (.type "str")
  | flt (x : UInt64) : TyOf K H (.flt x) (.type "float")
  | lst {a : Addr} {xs : List V} (e : H a = some (.lst xs)) : TyOf K H (.ref a) (.type "list")
  | frz {a : Addr} {o : Obj} {xs : List V} (e : H a = some (.frz o (.lst xs))) : TyOf K H (.ref a) (.type "list")
  | tup {a : Addr} {xs : List V} (e : H a = some (.tup xs)) : TyOf K H (.ref a) (.type "tuple")
  | dK {a : Addr} {kvs : List (Key × V)} (e : H a = some (.dK kvs)) : TyOf K H (.ref a) (.type "dict")
  | dT {a : Addr} {kvs : List (List Key × V)} (e : H a = some (.dT kvs)) : TyOf K H (.ref a) (.type "dict")
  | ins {a C dx : Addr} {fs : List (Str × V)} (e : H a = some (.ins C dx fs)) (cl : Cls K C) (ha : PySem.W.findIn K (.ref C) "__class__" = some (some (.builtin "object.__class__")))
      (hn : PySem.W.specialIn K (.builtin "object.__class__") "__get__" = some (some (.builtin "getset_descriptor.__get__"))) (htk : PySem.W.takesIn K (.builtin "object.__class__") = some true)
      (hm : PySem.W.mroIn K C (.type "object") = some true) : TyOf K H (.ref a) (.ref C)
theorem isinst_ok {x : V} {u t : Value} (I : Inv X pins σ H s) (rx : RelV x u) (ty : TyOf X.K H x t) (e : PySem.W.kitOne X.K t c = some b) (h : ∀ tk, Q (.bool b) { s with toks := tk }) :
    wpAny (model X.prog X.w) A (call (.builtin "isinstance") [u, c]) Q E s := by
  cases ty with
  | non => cases (show u = Value.none from rx); exact PySem.W.kia_one PySem.W.kitx_none I.kIn True.intro e (fun z => nomatch z) h
  | bl y => cases (show u = Value.bool y from rx); exact PySem.W.kia_one PySem.W.kitx_bool I.kIn True.intro e (fun z => nomatch z) h
  | int i => obtain ⟨t, q⟩ := (show ∃ t, u = Value.int i t from rx); cases q; exact PySem.W.kia_one PySem.W.kitx_int I.kIn True.intro e (fun z => nomatch z) h
  | str y => obtain ⟨t, q⟩ := (show ∃ t, u = Value.str y t from rx); cases q; exact PySem.W.kia_one PySem.W.kitx_str I.kIn True.intro e (fun z => nomatch z) h
  | flt y => obtain ⟨t, q⟩ := (show ∃ t, u = Value.float y t from rx); cases q; exact PySem.W.kia_one PySem.W.kitx_float I.kIn True.intro e (fun z => nomatch z) h
  | @lst a xs ea =>
    cases (show u = Value.ref a from rx)
    obtain ⟨_, _, n, _, h1⟩ := (show ObjOk X.prog X.w H s.heap a (.lst xs) from I.hok a _ ea)
    exact PySem.W.kia_one PySem.W.kitx_list I.kIn ⟨_, h1, rfl⟩ e (fun z => nomatch z) h
  | @frz a ob xs ea =>
    cases (show u = Value.ref a from rx)
    obtain ⟨_, _, _, n, _, h1⟩ := (show ObjOk X.prog X.w H s.heap a (.frz ob (.lst xs)) from I.hok a _ ea)
    exact PySem.W.kia_one PySem.W.kitx_list I.kIn ⟨_, h1, rfl⟩ e (fun z => nomatch z) h
  | @tup a xs ea =>
    cases (show u = Value.ref a from rx)
    obtain ⟨_, _, _, p⟩ := (show ObjOk X.prog X.w H s.heap a (.tup xs) from I.hok a _ ea)
    obtain ⟨o, h1, h2, _⟩ := p
    exact PySem.W.kia_one PySem.W.kitx_tuple I.kIn ⟨o, h1, h2⟩ e (fun z => nomatch z) h
  | @dK a kvs ea =>
    cases (show u = Value.ref a from rx)
    obtain ⟨_, _, vs, _, p⟩ := (show ObjOk X.prog X.w H s.heap a (.dK kvs) from I.hok a _ ea)
    obtain ⟨o, es, ep, h1, h2, _⟩ := p
    exact PySem.W.kia_one PySem.W.kitx_dict I.kIn ⟨o, h1, h2.1⟩ e (fun z => nomatch z) h
  | @dT a kvs ea =>
    cases (show u = Value.ref a from rx)
    obtain ⟨_, _, xs, _, o, es, ep, h1, h2, _⟩ := (show ObjOk X.prog X.w H s.heap a (.dT kvs) from I.hok a _ ea)
    exact PySem.W.kia_one PySem.W.kitx_dict I.kIn ⟨o, h1, h2.1⟩ e (fun z => nomatch z) h
  | @ins a C dx fs ea cl ha hn htk hm =>
    cases (show u = Value.ref a from rx)
    obtain ⟨mA, O, _⟩ := ins_get I.hok ea
    obtain ⟨od, J, _⟩ := O.look
    exact PySem.W.kia_one (PySem.W.kitx_own (cl.get _) cl.hd ha hn htk hm) I.kIn J e (fun z => nomatch z) h
end
end L2

namespace L2
open PySem PySem.Spec PyProof.Rows

structure Room (k : Nat) (A : Around) : Prop where
  hd : A.handled = none
  dp : A.depth + 3 * k + 5 < recursionLimit
  un : A.units + 16 * k + 200 < cLine
theorem Room.mono {j k : Nat} {A : Around} (r : Room k A) (h : j ≤ k) : Room j A := ⟨r.hd, by have := r.dp; omega, by have := r.un; omega⟩
theorem Room.deeper {k : Nat} {A : Around} (r : Room (k + 1) A) (env : Env) : Room k (A.deeper env) :=
  ⟨r.hd, by have := r.dp; show A.depth + 1 + 3 * k + 5 < _; omega, by have := r.un; show A.units + 3 + 16 * k + 200 < _; omega⟩
theorem make_depth {A : Around} {C : Addr} {us : List Value} {kw : List (Str × Value)} : (A.under (.builtin "type.__call__" ⟨.ref C :: us, kw⟩)).depth = A.depth + 1 := by
  first | rfl | simp [Around.under, Code.weight, Code.isCreation, Code.isGuard, Code.isCaller, Code.frames, Code.isFrame, guardIds]
theorem make_units {A : Around} {C : Addr} {us : List Value} {kw : List (Str × Value)} : (A.under (.builtin "type.__call__" ⟨.ref C :: us, kw⟩)).units = A.units + 1 := by
  first | rfl | simp [Around.under, Code.cUnits, Code.frames, Code.isFrame]
theorem Room.make {k : Nat} {A : Around} (r : Room (k + 1) A) (C : Addr) (us : List Value) (kw : List (Str × Value)) : Room k (A.under (.builtin "type.__call__" ⟨.ref C :: us, kw⟩)) :=
  ⟨r.hd, by have := r.dp; rw [make_depth]; omega, by have := r.un; rw [make_units]; omega⟩
theorem Room.depth {k : Nat} {A : Around} (r : Room k A) : A.depth < recursionLimit := by have := r.dp; omega
theorem Room.units {k : Nat} {A : Around} (r : Room k A) : A.units + 64 < cLine := by have := r.un; omega
def tNil : TA := fun _ H Q => Q [] H
def tCons (ta : TE) (tr : TA) : TA := fun σ H Q => ta σ H fun x H1 => tr σ H1 fun xs H2 => Q (x :: xs) H2
section
variable {X : Cx} {e : Expr} {es : List Expr} {te : TE} {t : TA} {pos : Pos}
theorem pa_nil : PA X [] tNil := fun _ _ _ _ H Q I h => Calls.spliced_nil ⟨[], H, I, .nil, h⟩
theorem pa_cons (ha : PE X e te) (hr : PA X es t) (hs : starEach (e :: es) X.env = (false, eval e X.env) :: starEach es X.env := by rfl) : PA X (e :: es) (tCons te t) := by
  intro pos pins s σ H Q I h
  rw [hs]
  show wpAny _ _ (spliced ((false, eval e X.env) :: backTo pos (starEach es X.env))) _ _ s
  refine Calls.spliced_cons (thn (ha pins s σ H _ I h) fun u s1 ⟨x, H1, I1, r1, q1⟩ => ?_)
  exact thn (hr pos pins s1 σ H1 _ I1 q1) fun us s2 ⟨xs, H2, I2, r2, q2⟩ => ⟨x :: xs, H2, I2, .cons r1 r2, q2⟩

def tTup (t : TA) : TE := fun σ H Q => t σ H fun xs H1 => xs.length ≤ sizeLine ∧ ∀ p, H1 p = none → Q (.ref p) (upd H1 p (.tup xs))
def tLst (t : TA) : TE := fun σ H Q => t σ H fun xs H1 => xs.length ≤ sizeLine ∧ ∀ p, H1 p = none → Q (.ref p) (upd H1 p (.lst xs))
theorem pe_tup {x1} (h : PA X es t) : PE X (.Tuple es x1 pos) (tTup t) := by
  intro pins s σ H Q I hq
  refine wpAny_Tuple_spliced (thn (h pos pins s σ H _ I hq) fun us s1 ⟨xs, H1, I1, r, z, q⟩ => ⟨by rw [← r.length]; exact z, ?_⟩)
  have hf : H1 s1.heap.objs.size = none := I1.hok.fresh (Nat.le_refl _)
  refine ⟨.ref s1.heap.objs.size, upd H1 s1.heap.objs.size (.tup xs), I1.laid (t' := s1.toks) (fun b u e => Heap.get?_push_of_some _ e) (Nat.le_refl _) ?_, rfl, q _ hf⟩
  exact ⟨z, us, r, ⟨_, Heap.get?_push_size _ rfl, rfl, _, rfl⟩⟩
theorem pe_lst (h : PA X es t) : PE X (.List es pos) (tLst t) := by
  intro pins s σ H Q I hq
  refine wpAny_List_spliced (thn (h pos pins s σ H _ I hq) fun us s1 ⟨xs, H1, I1, r, z, q⟩ => ⟨by rw [← r.length]; exact z, ?_⟩)
  have hf : H1 s1.heap.objs.size = none := I1.hok.fresh (Nat.le_refl _)
  refine ⟨.ref s1.heap.objs.size, upd H1 s1.heap.objs.size (.lst xs), I1.laid (t' := s1.toks) (fun b u e => Heap.get?_push_of_some _ e) (Nat.le_refl _) ?_, rfl, q _ hf⟩
  exact ⟨z, us, 0, r, Heap.get?_push_size _ rfl⟩
end

abbrev Sp := List V → Hp → VK → XK → Prop
abbrev CXT := List Env → Hp → Shared → XK → Value → Shared → Prop

structure Env0 (P : Program) (w : World) (K : PySem.W.Frag) (mg : Str → Option Value) (base : Heap) (A : Around) (outer : List Env) (s : Shared) (H : Hp) : Prop where
  frames : A.frames = some outer
  mod : Mod K mg base
  bs : ∀ b o, base.get? b = some o → s.heap.get? b = some o ∧ H b = none
  bsz : base.objs.size ≤ s.heap.objs.size
  funs : s.heap.FunFrames base outer
  frf : ∀ b ∈ frs outer, H b = none
  hok : HOk P w H s.heap
  bare : AllBare s.gens
def CE (outer : List Env) (P : Program) (w : World) (H : Hp) (s : Shared) (Q : VK) (u : Value) (s' : Shared) : Prop :=
  ∃ v H', s'.os = s.os ∧ AllBare s'.gens ∧ Un (frs outer) [] H H' s.heap s'.heap ∧ HOk P w H' s'.heap ∧ RelV v u ∧ Q v H'
def CR (CX : CXT) (outer : List Env) (P : Program) (w : World) (H : Hp) (s : Shared) (Q : VK) (E : XK) (r : Result) (s' : Shared) : Prop :=
  match r with
  | .ok (.ret u) => CE outer P w H s Q u s'
  | .ok _ => False
  | .error e => CX outer H s E e s'
structure FnOk (P : Program) (w : World) (K : PySem.W.Frag) (mg : Str → Option Value) (base : Heap) (CX : CXT) (k : Nat) (f : Addr) (fd : FuncData) (ps : List Str) (sp : Sp) : Prop where
  len : ∀ vs H Q E, sp vs H Q E → vs.length = ps.length
  run : ∀ (A : Around) (outer : List Env) (s : Shared) (H : Hp) (args : Args) (us : List Value) (vs : List V) (Q : VK) (E : XK), Room k A → Env0 P w K mg base A outer s H → BindsTo s fd args (ps.zip us) → Vals vs us → sp vs H Q E →
    codeAny (model P w) A (.call (.ref f) args) (CR CX outer P w H s Q E) s
theorem Env0.make {P : Program} {w : World} {K : PySem.W.Frag} {mg : Str → Option Value} {base : Heap} {A : Around} {outer : List Env} {s : Shared} {H : Hp} (e : Env0 P w K mg base A outer s H) (C : Addr) (us : List Value) (kw : List (Str × Value)) :
    Env0 P w K mg base (A.under (.builtin "type.__call__" ⟨.ref C :: us, kw⟩)) outer s H := ⟨by first | exact e.frames | (simpa [Around.under, Code.envs, Code.isFrame, pushEnvs] using e.frames), e.mod, e.bs, e.bsz, e.funs, e.frf, e.hok, e.bare⟩
section
variable {X : Cx} {pins : List (Addr × Obj)} {σ : St} {H : Hp} {s s' : Shared}
theorem Inv.env0 (I : Inv X pins σ H s) : Env0 X.prog X.w X.K X.mg X.base X.A X.stack s H :=
  ⟨I.ok.frames, I.ok.mod, I.bs, Nat.le_trans I.ok.bsz I.sz, I.stack, I.stkFree, I.hok, I.bare⟩
theorem Inv.after {Q : VK} {u : Value} (I : Inv X pins σ H s) (h : CE X.stack X.prog X.w H s Q u s') : EP X pins σ Q u s' := by
  obtain ⟨v, H', os, bare, un, hok, r, q⟩ := h
  obtain ⟨hh, g, d, t, os'⟩ := s'
  obtain rfl : os' = s.os := os
  exact ⟨v, H', I.call (h' := hh) (g' := g) (d' := d) (t' := t) (ch := []) un hok bare (fun b z => absurd z (by simp)), r, q⟩
end

def tCall (sp : Sp) (dvs : List V) (E : XK) (t : TA) : TE := fun σ H Q => t σ H fun vs H1 => sp (vs ++ dvs) H1 Q E
def tMeth (C : Addr) (m : Str) (sp : Sp) (dvs : List V) (E : XK) (ta : TE) (t : TA) : TE := fun σ H Q => ta σ H fun x H1 => ∃ a dx fs, x = .ref a ∧ H1 a = some (.ins C dx fs) ∧ fs.lookup m = none ∧
  t σ H1 fun vs H2 => sp (x :: (vs ++ dvs)) H2 Q E
def tMake (C : Addr) (sp : Sp) (dvs : List V) (E : XK) (t : TA) : TE := fun σ H Q => t σ H fun vs H1 => ∀ x dx, H1 x = none → H1 dx = none → dx ≠ x →
  sp (.ref x :: (vs ++ dvs)) (upd (upd H1 dx (.own x)) x (.ins C dx [])) (fun v H2 => v = .non ∧ Q (.ref x) H2) E

def Binds (K : PySem.W.Frag) (fd : FuncData) (ps : List Str) (ds : List Value) : Prop :=
  ∀ (s : Shared) (us : List Value), K.In s.heap → (us ++ ds).length = ps.length → BindsTo s fd ⟨us, []⟩ (ps.zip (us ++ ds))
theorem Binds.all {K : PySem.W.Frag} {fd : FuncData} {ps : List Str} (h : ∀ us : List Value, us.length = ps.length → bindArgs fd ⟨us, []⟩ = pure (ps.zip us)) : Binds K fd ps [] := fun s us _ hl => by
  rw [List.append_nil] at hl ⊢
  exact .of_eq (h us hl)

def Passes (CX : CXT) (X : Cx) (E : XK) : Prop := ∀ (pins : List (Addr × Obj)) (σ : St) (H : Hp) (s : Shared) (e : Value) (s' : Shared), Inv X pins σ H s → CX X.stack H s E e s' → X.xe e s'

section
variable {X : Cx} {CX : CXT} {k : Nat} {f C : Addr} {fd : FuncData} {ps : List Str} {sp : Sp} {dvs : List V} {ds : List Value} {E : XK} {x m : Str} {p pos apos : Pos} {e o : Expr} {es : List Expr} {ta : TE} {t : TA}

theorem run_fn {pins : List (Addr × Obj)} {σ : St} {H : Hp} {s : Shared} {Q : VK} {us : List Value} {vs : List V} (F : FnOk X.prog X.w X.K X.mg X.base CX k f fd ps sp) (hr : Room k X.A) (hb : Binds X.K fd ps ds) (hd : Vals dvs ds) (hx : Passes CX X E)
    (I : Inv X pins σ H s) (r : Vals vs us) (h : sp (vs ++ dvs) H Q E) : wpAny (model X.prog X.w) X.A (call (.ref f) us) (EP X pins σ Q) X.xe s := by
  have r2 : Vals (vs ++ dvs) (us ++ ds) := r.append hd
  have hl : (us ++ ds).length = ps.length := by rw [← r2.length]; exact F.len _ _ _ _ h
  refine wpAny_call (codeAny_mono (F.run X.A X.stack s H ⟨us, []⟩ (us ++ ds) (vs ++ dvs) Q E hr I.env0 (hb s us I.kIn hl) r2 h) fun r s' hq => ?_)
  cases r with
  | error e => exact hx pins σ H s e s' I hq
  | ok fl =>
    cases fl with
    | ret u => exact I.after hq
    | next => exact False.elim hq
    | brk => exact False.elim hq
    | cont => exact False.elim hq

theorem pe_call (F : FnOk X.prog X.w X.K X.mg X.base CX k f fd ps sp) (hr : Room k X.A) (hg : Gl X x) (hm : X.mg x = some (.ref f)) (hk : PySem.W.keepIn X.K (.ref f) = true) (hb : Binds X.K fd ps ds) (hd : Vals dvs ds) (hx : Passes CX X E)
    (ha : PA X (e :: es) t) (hdb : (x == ("__debug__" : Str)) = false := by decide) (he : starEach (e :: es) X.env = (false, eval e X.env) :: starEach es X.env := by rfl) (hpl : (backTo pos (starEach es X.env)).any (·.1) = false := by rfl) :
    PE X (.Call (.Name x p) (e :: es) [] pos) (tCall sp dvs E t) := by
  intro pins s σ H Q I h
  refine wpAny_Call_Name_kw (ld_glob I hg hm ?_ hdb)
  refine PySem.W.callWith_K (h₀ := X.base) I.ok.mod.kin hk (thn (ha pos pins s σ H _ I h) fun us s1 ⟨vs, H1, I1, r, q⟩ => ⟨I1.kIn, ?_⟩) he hpl
  exact run_fn F hr hb hd hx I1 r q
theorem pe_meth {pl : Sem Bool} (he : PE X o ta) (c : Cls X.K C) (hm : Meth X.K C m f) (F : FnOk X.prog X.w X.K X.mg X.base CX k f fd ps sp) (hr : Room k X.A) (hb : Binds X.K fd ps ds) (hd : Vals dvs ds) (hx : Passes CX X E) (ha : PA X (e :: es) t)
    (hst : starEach (e :: es) X.env = (false, eval e X.env) :: starEach es X.env := by rfl) (hpl : (backTo pos (starEach es X.env)).any (·.1) = false := by rfl)
    (ht : eval (.Call (.Attribute o m apos) (e :: es) [] pos) X.env = (do
      let ov ← eval o X.env
      standAt apos.atName
      let (f, first) ← holding [ov] (getMethod ov m pl)
      callWith pos f first (backTo pos (starEach (e :: es) X.env)) (backToKw pos (keywordEach [] X.env))) := by rfl) :
    PE X (.Call (.Attribute o m apos) (e :: es) [] pos) (tMeth C m sp dvs E ta t) := by
  intro pins s σ H Q I h
  refine PySem.W.methodCall_KW (pl := pl) (thn (he pins s σ H _ I h) fun u s1 ⟨x, H1, I1, rx, a, dx, fs, ex, ea, l, q⟩ => ?_) ht
  subst ex
  obtain rfl : u = Value.ref a := rx
  refine getmeth_ok I1 ea c hm l ?_
  refine PySem.W.callWith_K (first := [.ref a]) (h₀ := X.base) I.ok.mod.kin hm.kp (thn (ha pos pins s1 σ H1 _ I1 q) fun us s2 ⟨vs, H2, I2, r, q2⟩ => ⟨I2.kIn, ?_⟩) hst hpl
  exact run_fn (us := .ref a :: us) (vs := .ref a :: vs) F hr hb hd hx I2 (.cons rfl r) q2
theorem pe_meth0 {pl : Sem Bool} (he : PE X o ta) (c : Cls X.K C) (hm : Meth X.K C m f) (F : FnOk X.prog X.w X.K X.mg X.base CX k f fd ps sp) (hr : Room k X.A) (hb : Binds X.K fd ps ds) (hd : Vals dvs ds) (hx : Passes CX X E)
    (ht : eval (.Call (.Attribute o m apos) [] [] pos) X.env = (do
      let ov ← eval o X.env
      standAt apos.atName
      let (f, first) ← holding [ov] (getMethod ov m pl)
      callWith pos f first (backTo pos (starEach [] X.env)) (backToKw pos (keywordEach [] X.env))) := by rfl) :
    PE X (.Call (.Attribute o m apos) [] [] pos) (tMeth C m sp dvs E ta tNil) := by
  intro pins s σ H Q I h
  refine PySem.W.methodCall_KW (pl := pl) (thn (he pins s σ H _ I h) fun u s1 ⟨x, H1, I1, rx, a, dx, fs, ex, ea, l, q⟩ => ?_) ht
  subst ex
  obtain rfl : u = Value.ref a := rx
  refine getmeth_ok I1 ea c hm l ?_
  exact PySem.W.callWith_K0 (first := [.ref a]) I1.kIn hm.kp (run_fn (us := [.ref a]) (vs := [.ref a]) F hr hb hd hx I1 (.cons rfl .nil) q)

structure Mk (K : PySem.W.Frag) (C f : Addr) : Prop where
  makes : PySem.W.makesIn K C = true
  init : PySem.W.findIn K (.ref C) "__init__" = some (some (.ref f))
  fn : PySem.W.isFn K (.ref f) = true
  kp : PySem.W.keepIn K (.ref C) = true

theorem run_make {pins : List (Addr × Obj)} {σ : St} {H : Hp} {s : Shared} {Q : VK} {us : List Value} {vs : List V} (M : Mk X.K C f) (F : FnOk X.prog X.w X.K X.mg X.base CX k f fd ps sp) (hr : Room (k + 1) X.A) (hb : Binds X.K fd ps ds) (hd : Vals dvs ds)
    (hx : Passes CX X E) (I : Inv X pins σ H s) (r : Vals vs us)
    (h : ∀ x dx, H x = none → H dx = none → dx ≠ x → sp (.ref x :: (vs ++ dvs)) (upd (upd H dx (.own x)) x (.ins C dx [])) (fun v H2 => v = .non ∧ Q (.ref x) H2) E) :
    wpAny (model X.prog X.w) X.A (call (.ref C) us) (EP X pins σ Q) X.xe s := by
  have hq := h (s.heap.objs.size + 1) s.heap.objs.size (I.hok.fresh (Nat.le_succ _)) (I.hok.fresh (Nat.le_refl _)) (Nat.ne_of_lt (Nat.lt_succ_self _))
  have I2 := Inv.made (C := C) I
  have r2 : Vals (V.ref (s.heap.objs.size + 1) :: (vs ++ dvs)) (Value.ref (s.heap.objs.size + 1) :: (us ++ ds)) := .cons rfl (r.append hd)
  have hl : (Value.ref (s.heap.objs.size + 1) :: us ++ ds).length = ps.length := by
    have e := r2.length
    rw [F.len _ _ _ _ hq] at e
    exact e.symm
  refine wpAny_call (make_map (f := f) I.kIn M.makes M.init (beq_iff_eq.mp M.fn) (codeAny_mono (F.run _ X.stack _ _ ⟨Value.ref (s.heap.objs.size + 1) :: us, []⟩ (Value.ref (s.heap.objs.size + 1) :: (us ++ ds)) _ _ E (hr.make C us [])
    (I2.env0.make C us []) (hb _ (Value.ref (s.heap.objs.size + 1) :: us) I2.kIn hl) r2 hq) fun r s' hq' => ?_))
  cases r with
  | error e => exact hx pins σ _ _ e s' I2 hq'
  | ok fl =>
    cases fl with
    | ret u =>
      obtain ⟨v, H', I3, rv, ev, q3⟩ := I2.after hq'
      subst ev
      exact ⟨rv, ⟨V.ref (s.heap.objs.size + 1), H', I3, rfl, q3⟩⟩
    | next => exact False.elim hq'
    | brk => exact False.elim hq'
    | cont => exact False.elim hq'
theorem pe_make (M : Mk X.K C f) (F : FnOk X.prog X.w X.K X.mg X.base CX k f fd ps sp) (hr : Room (k + 1) X.A) (hg : Gl X x) (hm : X.mg x = some (.ref C)) (hb : Binds X.K fd ps ds) (hd : Vals dvs ds) (hx : Passes CX X E)
    (ha : PA X (e :: es) t) (hdb : (x == ("__debug__" : Str)) = false := by decide) (he : starEach (e :: es) X.env = (false, eval e X.env) :: starEach es X.env := by rfl) (hpl : (backTo pos (starEach es X.env)).any (·.1) = false := by rfl) :
    PE X (.Call (.Name x p) (e :: es) [] pos) (tMake C sp dvs E t) := by
  intro pins s σ H Q I h
  refine wpAny_Call_Name_kw (ld_glob I hg hm ?_ hdb)
  refine PySem.W.callWith_K (h₀ := X.base) I.ok.mod.kin M.kp (thn (ha pos pins s σ H _ I h) fun us s1 ⟨vs, H1, I1, r, q⟩ => ⟨I1.kIn, ?_⟩) he hpl
  exact run_make M F hr hb hd hx I1 r q
end

section
variable {X : Cx} {CX : CXT} {k : Nat} {f C : Addr} {fd : FuncData} {ps ks : List Str} {sp : Sp} {E : XK} {x m : Str} {p pos apos kpos : Pos} {e o : Expr} {es : List Expr} {kws : List Keyword} {te ta : TE} {t tk : TA} {nm : Option Str}
variable {g : List Value → List Value → List Value} {gV : List V → List V → List V}
end

structure FnScope (N P : List Str) (sc : Scope) : Prop where
  kind : sc.kind = .function
  co : sc.isCoroutine = false
  gen : sc.isGenerator = false
  nd : N.Nodup
  pre : N.take P.length = P
  par : ∀ x ∈ P, sc.names.lookup x = some .local ∨ sc.names.lookup x = some .cell
  nofree : ∀ y ∈ sc.names, y.2 ≠ .free

theorem bindL_out {kindOf : Str → Option NameKind} {x : Str} : ∀ {binds : List (Str × Value)} {m : Str → Option Value}, (∀ v, (x, v) ∉ binds) → bindL kindOf binds m x = m x
  | [], _, _ => rfl
  | (n, v) :: r, m, h => by
    unfold bindL
    rw [bindL_out fun w hw => h w (List.mem_cons_of_mem _ hw)]
    split
    · have : x ≠ n := by rintro rfl; exact h v List.mem_cons_self
      simp [this]
    · rfl
theorem bindC_out {kindOf : Str → Option NameKind} {x : Str} : ∀ {binds : List (Str × Value)} {m : Str → Option Value}, (∀ v, (x, v) ∉ binds) → bindC kindOf binds m x = m x
  | [], _, _ => rfl
  | (n, v) :: r, m, h => by
    unfold bindC
    rw [bindC_out fun w hw => h w (List.mem_cons_of_mem _ hw)]
    split
    · rfl
    · have : x ≠ n := by rintro rfl; exact h v List.mem_cons_self
      simp [this]
theorem bindL_get {kindOf : Str → Option NameKind} {x : Str} {v : Value} : ∀ {P : List Str} {vs : List Value} {i : Nat} {m : Str → Option Value}, P.Nodup → P[i]? = some x → vs[i]? = some v → kindOf x = some .local →
    bindL kindOf (P.zip vs) m x = some v
  | [], _, _, _, _, h, _, _ => by simp at h
  | _ :: _, [], _, _, _, _, h, _ => by simp at h
  | p :: P, w :: vs, 0, m, nd, h1, h2, hk => by
    simp at h1 h2; subst h1; subst h2
    show bindL kindOf ((p, w) :: P.zip vs) m p = _
    unfold bindL
    rw [bindL_out fun v hv => (List.nodup_cons.mp nd).1 (List.of_mem_zip hv).1, if_pos hk]
    simp
  | p :: P, w :: vs, i + 1, m, nd, h1, h2, hk => by
    show bindL kindOf ((p, w) :: P.zip vs) m x = _
    unfold bindL
    exact bindL_get (i := i) (List.nodup_cons.mp nd).2 (by simpa using h1) (by simpa using h2) hk
theorem bindC_get {kindOf : Str → Option NameKind} {x : Str} {v : Value} : ∀ {P : List Str} {vs : List Value} {i : Nat} {m : Str → Option Value}, P.Nodup → P[i]? = some x → vs[i]? = some v → kindOf x ≠ some .local →
    bindC kindOf (P.zip vs) m x = some v
  | [], _, _, _, _, h, _, _ => by simp at h
  | _ :: _, [], _, _, _, _, h, _ => by simp at h
  | p :: P, w :: vs, 0, m, nd, h1, h2, hk => by
    simp at h1 h2; subst h1; subst h2
    show bindC kindOf ((p, w) :: P.zip vs) m p = _
    unfold bindC
    rw [bindC_out fun v hv => (List.nodup_cons.mp nd).1 (List.of_mem_zip hv).1, if_neg hk]
    simp
  | p :: P, w :: vs, i + 1, m, nd, h1, h2, hk => by
    show bindC kindOf ((p, w) :: P.zip vs) m x = _
    unfold bindC
    exact bindC_get (i := i) (List.nodup_cons.mp nd).2 (by simpa using h1) (by simpa using h2) hk

def start (N : List Str) (vs : List V) : St := vs.map some ++ List.replicate (N.length - vs.length) none

def cxOf (CX : CXT) (P : Program) (w : World) (K : PySem.W.Frag) (mg : Str → Option Value) (base : Heap) (N : List Str) (qual : Str) (scope : Scope) (f : Addr) (cd : Value) (A : Around) (outer : List Env) (s : Shared) (H : Hp) (E : XK) : Cx where
  prog := P
  w := w
  K := K
  mg := mg
  base := base
  A := A.deeper (envOfC qual scope s.heap.objs.size f cd)
  N := N
  s₀ := s
  H₀ := H
  env := envOfC qual scope s.heap.objs.size f cd
  outer := outer
  stack := envOfC qual scope s.heap.objs.size f cd :: outer
  ex := []
  calm := true
  fn := fun _ => true
  pn := []
  xe := fun e s' => wpAny (model P w) (A.deeper (envOfC qual scope s.heap.objs.size f cd)) (leaving (envOfC qual scope s.heap.objs.size f cd) e) (fun _ s'' => CX outer H s E e s'') (fun e' s'' => CX outer H s E e' s'') s'

theorem cell_has {sc : Scope} {n : Nat} {x : Str} (h : sc.names.lookup x = some .cell) : ∃ c, (cellsFrom n sc.names []).lookup x = some c := by
  have q := PySem.W.cellsFrom_some sc.names n [] (.inl h)
  exact Option.isSome_iff_exists.mp q

theorem inv_start {CX : CXT} {P : Program} {w : World} {K : PySem.W.Frag} {mg : Str → Option Value} {base : Heap} {N ps : List Str} {qual : Str} {scope : Scope} {f : Addr} {cd : Value} {A : Around} {outer : List Env} {s s1 : Shared} {H : Hp} {E : XK} {us : List Value} {vs : List V}
    (S : FnScope N ps scope) (hd : A.handled = none) (e0 : Env0 P w K mg base A outer s H) (hl : vs.length = ps.length) (r : Vals vs us)
    (x : InCallC s s.heap.objs.size (bindL (envOfC qual scope s.heap.objs.size f cd).kindOf (ps.zip us) fun _ => none) (cellsFrom (s.heap.objs.size + 1) scope.names []) (bindC (envOfC qual scope s.heap.objs.size f cd).kindOf (ps.zip us) fun _ => none) s1) :
    Inv (cxOf CX P w K mg base N qual scope f cd A outer s H E) [] (start N vs) H s1 := by
  have hpl : ps.length ≤ N.length := by have := congrArg List.length S.pre; rw [List.length_take] at this; omega
  obtain ⟨h1, tk, rfl, hk⟩ := x.done
  have noA : ∀ b : Addr, b ∉ (cxOf CX P w K mg base N qual scope f cd A outer s H E).ex := fun b z => absurd (show b ∈ ([] : List Addr) from z) (by simp)
  refine ⟨⟨e0.mod, S.kind, rfl, rfl, Nat.le_refl _, fun y z c h1 h2 => ?_, fun y hy => ?_, fun y c _ h => ?_, fun _ => hd, Around.frames_deeper e0.frames, .inr ⟨rfl, rfl⟩, fun b z => absurd z (noA b), e0.bs, e0.bsz, fun b _ _ => noA b, fun b z => absurd z (noA b), e0.funs, e0.frf⟩,
    rfl, e0.bare, Un.kept hk, ⟨_, x.toInCall.ns, fun i y v h1 h2 h3 => ?_⟩, fun y c h => ⟨_, x.cell y c h⟩, e0.hok.fresh (Nat.le_refl _), fun y c h => ?_, fun p hp => absurd (show p ∈ ([] : List (Addr × Obj)) from hp) (by simp), e0.hok.kept hk, ?_⟩
  · exact name_of_addr x.apart (PySem.mem_of_lookup h1) (PySem.mem_of_lookup h2)
  · have hy : scope.names.lookup y = some .cell ∨ scope.names.lookup y = some .free := hy
    rcases hy with hy | hy
    · exact cell_has hy
    · exact absurd rfl (S.nofree _ (PySem.mem_of_lookup hy))
  · exact Nat.le_of_lt (x.above y c (PySem.mem_of_lookup h))
  · have hi : i < vs.length := by
      unfold start at h2
      by_cases hi : i < vs.length
      · exact hi
      · rw [List.getElem?_append_right (by simpa using hi)] at h2
        rw [List.getElem?_replicate] at h2
        split at h2 <;> cases h2
    have ha : vs[i]? = some v := by
      unfold start at h2
      rw [List.getElem?_append_left (by simpa using hi), List.getElem?_map] at h2
      cases e : vs[i]? with
      | none => rw [e] at h2; cases h2
      | some a => rw [e] at h2; cases h2; rfl
    obtain ⟨u, hu, rv⟩ := r.get ha
    have hp : ps[i]? = some y := by
      rw [← S.pre, List.getElem?_take_of_lt (by omega)]; exact h1
    have ndP : ps.Nodup := by rw [← S.pre]; exact S.nd.sublist (List.take_sublist _ _)
    refine ⟨u, rv, ?_⟩
    rcases S.par y (List.mem_of_getElem? hp) with k | k
    · exact .inl ⟨k, bindL_get ndP hp hu k⟩
    · obtain ⟨c, e⟩ := cell_has (n := s.heap.objs.size + 1) k
      refine .inr ⟨.inl k, c, e, ?_⟩
      have q := x.cell y c e
      rw [bindC_get ndP hp hu (by show scope.names.lookup y ≠ _; rw [k]; decide)] at q
      exact q
  · exact e0.hok.fresh (Nat.le_of_lt (x.above y c (PySem.mem_of_lookup h)))
  · unfold start
    show _ = N.length
    rw [List.length_append, List.length_map, List.length_replicate]
    omega

theorem fn_of {CX : CXT} {P : Program} {w : World} {K : PySem.W.Frag} {mg : Str → Option Value} {base : Heap} {k : Nat} {f : Addr} {name qual : Str} {params : Arguments} {body : List Stmt} {scope : Scope} {dV kV doc pm cdv ct oc : Value} {an od : Option Addr}
    {osl : Array (Option Value)} {N ps : List Str} {sp : Sp} (lk : K.lookup f = some ⟨oc, od, .func (PySem.W.fnOf name qual params body scope dV kV doc pm an cdv ct), osl⟩) (hcd : PySem.W.codeIn K cdv qual = true) (S : FnScope N ps scope)
    (len : ∀ vs H Q E, sp vs H Q E → vs.length = ps.length)
    (hbody : ∀ (A : Around) (outer : List Env) (s : Shared) (H : Hp) (vs : List V) (Q : VK) (E : XK), Room k (A.deeper (envOfC qual scope s.heap.objs.size f cdv)) → sp vs H Q E →
      ∃ t, PSs (cxOf CX P w K mg base N qual scope f cdv A outer s H E) body t ∧ t { nx := fun _ H' => Q .non H', rt := Q } (start N vs) H) :
    FnOk P w K mg base CX (k + 1) f (PySem.W.fnOf name qual params body scope dV kV doc pm an cdv ct) ps sp := by
  refine ⟨len, fun A outer s H args us vs Q E hr e0 hb r hsp => ?_⟩
  have hl := len _ _ _ _ hsp
  have KX : K.In s.heap := e0.mod.kin.keeps fun b o e => (e0.bs b o e).1
  have lim : s.heap.NoLimit := e0.mod.nolimit.keeps fun b o e => (e0.bs b o e).1
  have hkind : ∀ y ∈ ps.zip us, scope.names.lookup y.1 = some .local ∨ (scope.names.lookup y.1 = some .cell ∧ ((cellsFrom (s.heap.objs.size + 1) scope.names []).lookup y.1).isSome = true) := fun ⟨n, v⟩ hy => by
    rcases S.par n (List.of_mem_zip hy).1 with q | q
    · exact .inl q
    · exact .inr ⟨q, PySem.W.cellsFrom_some _ _ _ (.inl q)⟩
  refine codeAny_call_function hr.depth (KX _ _ lk) rfl S.co S.gen rfl (PySem.W.codeRec_of KX hcd) (hb _ _ _ _ ?_)
  refine wpAny_newFunctionEnv_cells S.kind hkind fun env he s1 x => ?_
  subst he
  refine ⟨lim.keeps x.toInCall.keep, codeAny_func ?_⟩
  obtain ⟨t, ht, hq⟩ := hbody A outer s H vs Q E (hr.deeper _) hsp
  have I : Inv (cxOf CX P w K mg base N qual scope f cdv A outer s H E) [] (start N vs) H s1 := inv_start S hr.hd e0 hl r x
  refine wpAny_mono (ht [] s1 (start N vs) H _ I hq) (fun fl s' hs => ?_) fun e s' hs => hs
  have fin : ∀ {σ' : St} {H' : Hp} {v : V} {u : Value}, Inv (cxOf CX P w K mg base N qual scope f cdv A outer s H E) [] σ' H' s' → RelV v u → Q v H' → CE outer P w H s Q u s' :=
    fun {σ' H' v u} J rv q => ⟨v, H', J.os, J.bare, J.base, J.hok, rv, q⟩
  cases fl with
  | ret u =>
    obtain ⟨v, σ', H', J, rv, q⟩ := hs
    exact fin J rv q
  | next =>
    obtain ⟨σ', H', J, q⟩ := hs
    exact fin (v := V.non) (u := Value.none) J rfl q
  | brk =>
    obtain ⟨_, _, _, q⟩ := hs
    exact False.elim q
  | cont =>
    obtain ⟨_, _, _, q⟩ := hs
    exact False.elim q
end L2

namespace L2
open PySem PySem.Spec PyProof.Rows
section
variable {X : Cx} {x : Str} {p pos : Pos} {e : Expr} {es : List Expr} {t : TA} {id T : String} {r : List V → Hp → VK → Prop}

def tCB (r : List V → Hp → VK → Prop) (t : TA) : TE := fun σ H Q => t σ H fun vs H1 => r vs H1 Q
theorem pe_callB (hc : CallR X (.builtin id) r) (hg : Gl X x) (hm : X.mg x = none) (hv : bootBuiltins x = some (.builtin id)) (ha : PA X (e :: es) t) (hn : x ≠ "__name__" := by decide) (hdb : (x == ("__debug__" : Str)) = false := by decide)
    (he : starEach (e :: es) X.env = (false, eval e X.env) :: starEach es X.env := by rfl) (hpl : (backTo pos (starEach es X.env)).any (·.1) = false := by rfl) : PE X (.Call (.Name x p) (e :: es) [] pos) (tCB r t) := by
  intro pins s σ H Q I h
  refine wpAny_Call_Name_kw (ld_blt I hg hm hv ?_ hn hdb)
  exact PyProof.Rows.callWith_builtin1 (thn (ha pos pins s σ H _ I h) fun us s1 ⟨vs, H1, I1, r1, q1⟩ => hc pins s1 σ H1 vs us Q I1 r1 q1) he hpl
theorem pe_callTy (hc : CallR X (.type T) r) (hg : Gl X x) (hm : X.mg x = none) (hv : bootBuiltins x = some (.type T)) (ha : PA X (e :: es) t) (hn : x ≠ "__name__" := by decide) (hdb : (x == ("__debug__" : Str)) = false := by decide)
    (he : starEach (e :: es) X.env = (false, eval e X.env) :: starEach es X.env := by rfl) (hpl : (backTo pos (starEach es X.env)).any (·.1) = false := by rfl) : PE X (.Call (.Name x p) (e :: es) [] pos) (tCB r t) := by
  intro pins s σ H Q I h
  refine wpAny_Call_Name_kw (ld_blt I hg hm hv ?_ hn hdb)
  exact PyProof.Rows.callWith_type1 (thn (ha pos pins s σ H _ I h) fun us s1 ⟨vs, H1, I1, r1, q1⟩ => hc pins s1 σ H1 vs us Q I1 r1 q1) he hpl
end
end L2

namespace HT
open PySem PyProof.Rows

section
open PySem.SeqAt
open PySem.AutoSeq1 (wpAny_loadPart')
open PySem.MeetsSeq PySem.MeetsSeq2 PySem.MeetsSeq3

end

section
variable {prog : Program} {w : World} {A : Around} {E : Value → Shared → Prop} {s : Shared}

def sIx (n d : Nat) : Option Int → Nat
  | none => d
  | some v => if v < 0 then (v + (n : Int)).toNat else min v.toNat n
end
end HT

namespace L2
open PySem PySem.Spec PyProof.Rows

abbrev TO := St → Hp → (Option Int → Hp → Prop) → Prop
def PO (X : Cx) (e : Option Expr) (t : TO) : Prop :=
  ∀ (pins : List (Addr × Obj)) (s : Shared) (σ : St) (H : Hp) (Q : Option Int → Hp → Prop), Inv X pins σ H s → t σ H Q →
    wpAny (model X.prog X.w) X.A (evalPart e X.env) (fun u s' => ∃ o H', Inv X pins σ H' s' ∧ IsPart u o ∧ Q o H') X.xe s
section
variable {X : Cx} {e : Expr} {te : TE} {lo hi : Option Expr} {tl th : TO} {pos p2 : Pos}

def SlR (X : Cx) (r : V → Option Int → Option Int → Hp → VK → Prop) : Prop :=
  ∀ (pins : List (Addr × Obj)) (s : Shared) (σ : St) (H : Hp) (x : V) (v vl vu : Value) (lo hi : Option Int) (sl : Addr) (Q : VK), Inv X pins σ H s → RelV x v → s.heap.IsSliceOf sl vl vu .none → IsPart vl lo → IsPart vu hi → r x lo hi H Q →
    ∃ T id, typeLookup (.type T) "__getitem__" = pure (some (.builtin id)) ∧ s.TypeIs v T ∧ wpAny (model X.prog X.w) X.A (getItem v (.ref sl)) (EP X pins σ Q) X.xe s
def cutV (xs : List V) (lo hi : Option Int) : List V := (xs.drop (HT.sIx xs.length 0 lo)).take (HT.sIx xs.length xs.length hi - HT.sIx xs.length 0 lo)
theorem cutV_length (xs : List V) (lo hi : Option Int) : (cutV xs lo hi).length ≤ xs.length := by
  unfold cutV
  rw [List.length_take, List.length_drop]
  omega
end
end L2

namespace L2
open PySem PySem.Spec PyProof.Rows

def ixN (n : Nat) (i : Int) : Option Nat := if 0 ≤ i then (if i < n then some i.toNat else none) else if -(n : Int) ≤ i then some (i + n).toNat else none
def atI {α : Type} (xs : List α) (i : Int) : Option α := (ixN xs.length i).bind fun j => xs[j]?
theorem ixN_seq {n : Nat} {i : Int} {j : Nat} (h : ixN n i = some j) : seqIndex? i n = some j ∧ j < n ∧ -(n : Int) ≤ i ∧ i < n := by
  unfold ixN at h
  by_cases h0 : 0 ≤ i
  · rw [if_pos h0] at h
    by_cases h1 : i < n
    · rw [if_pos h1] at h
      have e : i.toNat = j := Option.some.inj h
      exact ⟨by rw [seqIndex_of h0 h1, e], by omega, by omega, h1⟩
    · rw [if_neg h1] at h; cases h
  · rw [if_neg h0] at h
    by_cases h1 : -(n : Int) ≤ i
    · rw [if_pos h1] at h
      have e : (i + n).toNat = j := Option.some.inj h
      exact ⟨by rw [seqIndex_neg (by omega) h1, e], by omega, h1, by omega⟩
    · rw [if_neg h1] at h; cases h
theorem atI_get {α : Type} {xs : List α} {i : Int} {v : α} (h : atI xs i = some v) : ∃ j, seqIndex? i xs.length = some j ∧ xs[j]? = some v ∧ j < xs.length ∧ -(xs.length : Int) ≤ i ∧ i < xs.length := by
  unfold atI at h
  cases e : ixN xs.length i with
  | none => rw [e] at h; cases h
  | some j =>
    rw [e] at h
    obtain ⟨h1, h2, h3, h4⟩ := ixN_seq e
    exact ⟨j, h1, h, h2, h3, h4⟩
def PlainIx (b : Expr) : Prop := ∀ o i, subscripted b false o i = operate [o, i] (getItem o i)
def IxR (X : Cx) (r : R2) : Prop :=
  ∀ (value slice : Expr) (pins : List (Addr × Obj)) (s : Shared) (σ : St) (H : Hp) (x y : V) (v u : Value) (Q : VK), Inv X pins σ H s → RelV x v → RelV y u → r x y H Q →
    subscripted slice false v u = operate [v, u] (getItem v u) → wpAny (model X.prog X.w) X.A (subscriptTail value slice v u) (EP X pins σ Q) X.xe s
def MtR (X : Cx) (id : String) (r : V → List V → Hp → VK → Prop) : Prop :=
  ∀ (pins : List (Addr × Obj)) (s : Shared) (σ : St) (H : Hp) (x : V) (xs : List V) (v : Value) (us : List Value) (Q : VK), Inv X pins σ H s → RelV x v → Vals xs us → r x xs H Q →
    wpAny (model X.prog X.w) X.A (call (.builtin id) (v :: us)) (EP X pins σ Q) X.xe s
section
variable {X : Cx} {a b : Expr} {ta tb : TE} {pos : Pos}
theorem IxR.or {r r' : R2} (h : IxR X r) (h' : IxR X r') : IxR X (fun x y H Q => r x y H Q ∨ r' x y H Q) := by
  intro value slice pins s σ H x y v u Q I rx ry q hs
  rcases q with q | q
  · exact h value slice pins s σ H x y v u Q I rx ry q hs
  · exact h' value slice pins s σ H x y v u Q I rx ry q hs
theorem pe_ix {r : R2} (hr : IxR X r) (ha : PE X a ta) (hb : PE X b tb) (hs : PlainIx b) : PE X (.Subscript a b pos) (tOp r ta tb) := by
  intro pins s σ H Q I h
  exact Subscript_ (binT ha hb I h fun v u s2 x y H2 I2 rx ry q => hr a b pins s2 σ H2 x y v u Q I2 rx ry q (hs _ _))

def rIxL (K : PySem.W.Frag) : R2 := fun x y H Q => ∃ p xs i v, x = .ref p ∧ y = .int i ∧ SqL K H p xs ∧ atI xs i = some v ∧ Q v H
def rIxT (K : PySem.W.Frag) : R2 := fun x y H Q => ∃ p xs i v, x = .ref p ∧ y = .int i ∧ SqT K H p xs ∧ atI xs i = some v ∧ Q v H
theorem ix_list : IxR X (rIxL X.K) := by
  intro value slice pins s σ H x y v u Q I rx ry h hs
  obtain ⟨p, xs, i, z, rfl, rfl, hq, he, q⟩ := h
  cases rx
  obtain ⟨t, rfl⟩ := ry
  obtain ⟨its, r, pl, hz⟩ := I.list hq
  obtain ⟨j, h1, h2, h3, h4, h5⟩ := atI_get he
  obtain ⟨w, ew, rw'⟩ := r.get h2
  have hl := r.length
  have hn := line63
  have fin : EP X pins σ Q w s := ⟨z, H, I, rw', q⟩
  by_cases h0 : 0 ≤ i
  · have hj : i.toNat = j := by
      rw [seqIndex_of h0 h5] at h1
      exact Option.some.inj h1
    exact item_listR pl.isList h0 (by omega) (by rw [hj]; simpa using ew) fin hs
  · have hj : (i + (its.toArray.size : Int)).toNat = j := by
      rw [seqIndex_neg (by omega) h4] at h1
      rw [List.size_toArray, ← hl]
      exact Option.some.inj h1
    exact subscriptTail_builtinR (x := w) pl.isList.typeIs slot_list_getitem.lookup
      (wpAny_getItem_list_neg (Q := fun r s' => r = w ∧ EP X pins σ Q r s') pl.isList (by omega) (by rw [List.size_toArray] <;> omega) (by omega) (by rw [hj]; simpa using ew) ⟨rfl, fin⟩) hs
theorem ix_tup : IxR X (rIxT X.K) := by
  intro value slice pins s σ H x y v u Q I rx ry h hs
  obtain ⟨p, xs, i, z, rfl, rfl, hq, he, q⟩ := h
  cases rx
  obtain ⟨t, rfl⟩ := ry
  obtain ⟨its, r, pl, hz⟩ := I.tuple hq
  obtain ⟨j, h1, h2, h3, h4, h5⟩ := atI_get he
  obtain ⟨w, ew, rw'⟩ := r.get h2
  have hl := r.length
  have hn := line63
  have fin : EP X pins σ Q w s := ⟨z, H, I, rw', q⟩
  exact subscriptTail_builtinR (x := w) pl.typeIs slot_tuple_getitem.lookup
    (getItem_tuple (j := j) (Q := fun r s' => r = w ∧ EP X pins σ Q r s') pl (by omega) (by omega) (by rw [List.size_toArray, ← hl]; exact h1) (by simpa using ew) ⟨rfl, fin⟩) hs
theorem mapSeq_set (its : List Value) (n j : Nat) (u : Value) : Obj.mapSeq (·.setIfInBounds j u) { cls := .type "list", data := .seq its.toArray n } = { cls := .type "list", data := .seq (its.set j u).toArray n } := by
  simp [Obj.mapSeq]
theorem Inv.lst {pins : List (Addr × Obj)} {σ : St} {H : Hp} {s : Shared} {p : Addr} {xs : List V} (I : Inv X pins σ H s) (h : H p = some (.lst xs)) :
    ∃ (its : List Value) (n : Nat), Vals xs its ∧ s.heap.get? p = some { cls := .type "list", data := .seq its.toArray n } ∧ xs.length ≤ sizeLine := by
  obtain ⟨z, its, n, r, e⟩ := I.hok p _ h
  exact ⟨its, n, r, e, z⟩
theorem Inv.lstUpd {pins : List (Addr × Obj)} {σ : St} {H : Hp} {s : Shared} {p : Addr} {xs ys : List V} {its its' : List Value} {n n' : Nat} {f : Obj → Obj} (I : Inv X pins σ H s) (h : H p = some (.lst xs))
    (ho : s.heap.get? p = some { cls := .type "list", data := .seq its.toArray n }) (hf : f { cls := .type "list", data := .seq its.toArray n } = { cls := .type "list", data := .seq its'.toArray n' }) (r : Vals ys its') (hz : ys.length ≤ sizeLine) (t : Nat) :
    Inv X pins σ (upd H p (.lst ys)) { s with heap := s.heap.update p f, toks := t } := by
  have e : (s.heap.update p f).get? p = some { cls := .type "list", data := .seq its'.toArray n' } := by
    rw [Heap.get?_update_self f ho (by rw [hf] <;> rfl), hf]
  refine I.write (x := p) (e := p) (by rw [h]; trivial) (.inl rfl) (fun b u hb q => (Heap.get?_update_other _ _ (Ne.symm hb)).trans q) ⟨_, e⟩ ?_
  exact ⟨hz, its', n', r, e⟩
def rSetL : V → V → V → Hp → (Hp → Prop) → Prop := fun o i v H Q => ∃ p xs k j, o = .ref p ∧ i = .int k ∧ H p = some (.lst xs) ∧ ixN xs.length k = some j ∧ Q (upd H p (.lst (xs.set j v)))
theorem set_list : PSet X rSetL := by
  intro pins s σ H o i v ov iv u Q I ro ri rv h
  obtain ⟨p, xs, k, j, rfl, rfl, hp, hj, q⟩ := h
  cases ro
  obtain ⟨t, rfl⟩ := ri
  obtain ⟨its, n, r, ho, hz⟩ := I.lst hp
  obtain ⟨h1, h2, h3, h4⟩ := ixN_seq hj
  have hl := r.length
  have hn := line63
  have I' : Inv X pins σ (upd H p (.lst (xs.set j v))) { s with heap := s.heap.update p (Obj.mapSeq (·.setIfInBounds j u)) } :=
    I.lstUpd hp ho (mapSeq_set its n j u) (r.set rv j) (by rw [List.length_set]; exact hz) s.toks
  by_cases h0 : 0 ≤ k
  · have hk : k.toNat = j := by
      rw [seqIndex_of h0 h4] at h1
      exact Option.some.inj h1
    exact PySem.W.ki_setAt ho h0 (by omega) (by rw [List.size_toArray, ← hl]; exact h4) (by rw [hk]; exact ⟨_, I', q⟩)
  · have hk : (k + (its.toArray.size : Int)).toNat = j := by
      rw [seqIndex_neg (by omega) h3] at h1
      rw [List.size_toArray, ← hl]
      exact Option.some.inj h1
    exact PySem.W.ki_setBack ho (by omega) (by rw [List.size_toArray, ← hl]; exact h3) (by omega) (by rw [hk]; exact ⟨_, I', q⟩)

theorem slice_bounds (lo hi : Option Int) (n : Nat) : (sliceBounds lo hi none n).1 = ((HT.sIx n 0 lo : Nat) : Int) ∧ (sliceBounds lo hi none n).2.1 = ((HT.sIx n n hi : Nat) : Int) ∧ (sliceBounds lo hi none n).2.2 = 1 := by
  refine ⟨?_, ?_, rfl⟩
  · cases lo with
    | none => simp [sliceBounds, HT.sIx]
    | some i =>
      simp only [sliceBounds, HT.sIx, Option.getD_none, show (1 : Int) > 0 by decide, if_true]
      by_cases h : i < 0
      · simp only [h, if_true] <;> omega
      · simp only [h, if_false] <;> omega
  · cases hi with
    | none => simp [sliceBounds, HT.sIx]
    | some i =>
      simp only [sliceBounds, HT.sIx, Option.getD_none, show (1 : Int) > 0 by decide, if_true]
      by_cases h : i < 0
      · simp only [h, if_true] <;> omega
      · simp only [h, if_false] <;> omega
theorem slicePick_cut (its : List Value) (lo hi : Option Int) : slicePick its.toArray lo hi none = ((its.drop (HT.sIx its.length 0 lo)).take (HT.sIx its.length its.length hi - HT.sIx its.length 0 lo)).toArray := by
  obtain ⟨h1, h2, h3⟩ := slice_bounds lo hi its.toArray.size
  unfold slicePick
  rw [h1, h2, h3]
  simp only [sliceRange_one, pick_run, List.size_toArray] <;> rfl
def rSlL (K : PySem.W.Frag) : V → Option Int → Option Int → Hp → VK → Prop := fun x lo hi H Q => ∃ a xs, x = .ref a ∧ SqL K H a xs ∧ ∀ p, H p = none → Q (.ref p) (upd H p (.lst (cutV xs lo hi)))
theorem sl_list : SlR X (rSlL X.K) := by
  intro pins s σ H x v vl vu lo hi sl Q I rx hs pl pu h
  obtain ⟨a, xs, rfl, hx, q⟩ := h
  cases rx
  obtain ⟨its, r, ht, hz⟩ := I.list hx
  have hlen := r.length
  refine ⟨"list", _, slot_list_getitem.lookup, ht.isList.typeIs, ?_⟩
  refine wpAny_getItem_list_slice ht.isList hs pl pu .none (by simp) ?_ (by rw [List.size_toArray] <;> omega)
  rw [slicePick_cut, ← hlen]
  refine ⟨.ref s.heap.objs.size, _, I.laid (t' := s.toks) (o := .lst (cutV xs lo hi)) (fun b ob q => Heap.get?_push_of_some _ q) (Nat.le_refl _) ?_, rfl, q _ (I.hok.fresh (Nat.le_refl _))⟩
  exact ⟨Nat.le_trans (cutV_length xs lo hi) hz, _, 0, (r.drop (HT.sIx xs.length 0 lo)).take (HT.sIx xs.length xs.length hi - HT.sIx xs.length 0 lo), Heap.get?_push_size _ rfl⟩

theorem call_len_seq : CallR X (.builtin "len") (fun xs H Q => ∃ p ys, xs = [.ref p] ∧ (SqL X.K H p ys ∨ SqT X.K H p ys) ∧ Q (.int ys.length) H) := by
  intro pins s σ H xs us Q I r h
  obtain ⟨p, ys, rfl, hq, q⟩ := h
  obtain ⟨u, rfl, rx⟩ := vals1 r
  cases rx
  have hn := line63
  rcases hq with hq | hq
  · obtain ⟨its, r', pl, hz⟩ := I.list hq
    have hlen := r'.length
    exact Calls.call_len_list pl.isList (by simp only [List.size_toArray] <;> omega) ⟨.int ys.length, H, I.tok _, ⟨s.toks + 1, by rw [List.size_toArray, hlen]⟩, q⟩
  · obtain ⟨its, r', pl, hz⟩ := I.tuple hq
    have hlen := r'.length
    exact len_tuple pl (by simp only [List.size_toArray] <;> omega) ⟨.int ys.length, H, I.tok _, ⟨s.toks + 1, by rw [List.size_toArray, hlen]⟩, q⟩
theorem call_list_of : CallR X (.type "list") (fun xs H Q => ∃ p ys, xs = [.ref p] ∧ (SqL X.K H p ys ∨ SqT X.K H p ys) ∧ ∀ l, H l = none → Q (.ref l) (upd H l (.lst ys))) := by
  intro pins s σ H xs us Q I r h
  obtain ⟨p, ys, rfl, hq, q⟩ := h
  obtain ⟨u, rfl, rx⟩ := vals1 r
  cases rx
  have fin : ∀ (its : List Value), Vals ys its → ys.length ≤ sizeLine → ∀ (h' : Heap) (c' : Nat), (∀ b o', s.heap.get? b = some o' → h'.get? b = some o') →
      h'.get? s.heap.objs.size = some { cls := .type "list", dict := none, data := .seq its.toArray c', slots := #[] } → EP X pins σ Q (.ref s.heap.objs.size) { s with heap := h' } := fun its r' hz h' c' kp e =>
    ⟨.ref s.heap.objs.size, _, I.laid (t' := s.toks) kp (Nat.le_refl _) (show ObjOk X.prog X.w _ h' _ (.lst ys) from ⟨hz, its, c', r', e⟩), rfl, q _ (I.hok.fresh (Nat.le_refl _))⟩
  rcases hq with hq | hq
  · obtain ⟨its, r', pl, hz⟩ := I.list hq
    have hlen := r'.length
    obtain ⟨o, ho, hc, n, hd⟩ := pl.isList
    exact call_list_seq p (.inl rfl) ho hc hd (fun h' c' kp e => fin its r' hz h' c' kp e) (by simp only [List.size_toArray] <;> omega)
  · obtain ⟨its, r', pl, hz⟩ := I.tuple hq
    have hlen := r'.length
    obtain ⟨o, ho, hc, n, hd⟩ := pl
    exact call_list_seq p (.inr rfl) ho hc hd (fun h' c' kp e => fin its r' hz h' c' kp e) (by simp only [List.size_toArray] <;> omega)
theorem call_tuple_of : CallR X (.type "tuple") (fun xs H Q => ∃ p ys, xs = [.ref p] ∧ ((SqL X.K H p ys ∧ ∀ l, H l = none → Q (.ref l) (upd H l (.tup ys))) ∨ (SqT X.K H p ys ∧ Q (.ref p) H))) := by
  intro pins s σ H xs us Q I r h
  obtain ⟨p, ys, rfl, h⟩ := h
  obtain ⟨u, rfl, rx⟩ := vals1 r
  cases rx
  rcases h with ⟨hq, q⟩ | ⟨hq, q⟩
  · obtain ⟨its, r', pl, hz⟩ := I.list hq
    have hlen := r'.length
    refine call_tuple_list pl.isList (fun h' kp => ?_) (by simp only [List.size_toArray] <;> omega)
    have I1 : Inv X pins σ H { s with heap := h' } := I.kept (t' := s.toks) kp
    have I2 : Inv X pins σ (upd H h'.objs.size (.tup ys)) { s with heap := h'.push { cls := .type "tuple", data := .seq its.toArray } } :=
      I1.laid (t' := s.toks) (fun b o e => Heap.get?_push_of_some _ e) (Nat.le_refl _) (show ObjOk X.prog X.w _ _ _ (.tup ys) from ⟨hz, its, r', IsTup.new _ _⟩)
    exact ⟨.ref h'.objs.size, _, I2, rfl, q _ (I1.hok.fresh (Nat.le_refl _))⟩
  · obtain ⟨its, r', pl, hz⟩ := I.tuple hq
    exact call_tuple_same pl ⟨.ref p, H, I, rfl, q⟩

def tyV (K : PySem.W.Frag) (T : String) (x : V) (H : Hp) : Prop := match x with
  | .str _ => T = "str"
  | .int _ => T = "int"
  | .ref p => (T = "list" ∧ ∃ xs, SqL K H p xs) ∨ (T = "tuple" ∧ ∃ o, K.lookup p = some o ∧ o.cls = .type "tuple" ∧ o.dict = none) ∨
      (T = "dict" ∧ ((∃ kvs, H p = some (.dK kvs)) ∨ ∃ kvs, H p = some (.dT kvs))) ∨ (T = "set" ∧ ∃ S n, H p = some (.set S n))
  | _ => False
theorem tyV_is {pins : List (Addr × Obj)} {σ : St} {H : Hp} {s : Shared} {T : String} {x : V} {v : Value} (I : Inv X pins σ H s) (r : RelV x v) (ty : tyV X.K T x H) :
    s.TypeIs v T ∧ ∀ a, v = .ref a → ∃ ob, s.heap.get? a = some ob ∧ ob.dict = none := by
  cases x with
  | str z =>
    obtain ⟨t, rfl⟩ := r
    cases (show T = "str" from ty)
    exact ⟨typeIs_str s z t, fun _ e => nomatch e⟩
  | int i =>
    obtain ⟨t, rfl⟩ := r
    cases (show T = "int" from ty)
    exact ⟨typeIs_int s i t, fun _ e => nomatch e⟩
  | ref p =>
    cases r
    rcases ty with ⟨rfl, xs, hq⟩ | ⟨rfl, o, hk, hc, hd⟩ | ⟨rfl, hk⟩ | ⟨rfl, S, n, hk⟩
    · obtain ⟨its, _, pl, _⟩ := I.list hq
      refine ⟨pl.isList.typeIs, fun a e => ?_⟩
      cases e
      obtain ⟨o, n, e, c, hd, _⟩ := pl
      exact ⟨o, e, hd⟩
    · refine ⟨⟨o, I.kIn p o hk, hc⟩, fun a e => ?_⟩
      cases e
      exact ⟨o, I.kIn _ o hk, hd⟩
    · have z : ∃ o, s.heap.get? p = some o ∧ o.ExactDict := by
        rcases hk with ⟨kvs, hk⟩ | ⟨kvs, hk⟩
        · obtain ⟨_, _, _, _, o, _, _, e, ex, _⟩ := I.hok p _ hk
          exact ⟨o, e, ex⟩
        · obtain ⟨_, _, _, _, o, _, _, e, ex, _⟩ := I.hok p _ hk
          exact ⟨o, e, ex⟩
      obtain ⟨o, e, ex⟩ := z
      refine ⟨⟨o, e, ex.1⟩, fun a e2 => ?_⟩
      cases e2
      exact ⟨o, e, ex.2.1⟩
    · obtain ⟨o, _, _, _, e, ex, _⟩ := I.hok p _ hk
      refine ⟨⟨o, e, ex.1⟩, fun a e2 => ?_⟩
      cases e2
      exact ⟨o, e, ex.2.1⟩
  | _ => exact False.elim ty
def tBM0 (K : PySem.W.Frag) (T : String) (r : V → List V → Hp → VK → Prop) (to : TE) : TE := fun σ H Q => to σ H fun x H1 => tyV K T x H1 ∧ r x [] H1 Q
def tBM (K : PySem.W.Frag) (T : String) (r : V → List V → Hp → VK → Prop) (to : TE) (t : TA) : TE := fun σ H Q => to σ H fun x H1 => tyV K T x H1 ∧ t σ H1 fun xs H2 => r x xs H2 Q
variable {o e : Expr} {es : List Expr} {to : TE} {t : TA} {name : Str} {apos cpos : Pos} {T id : String} {r : V → List V → Hp → VK → Prop}
theorem pe_bm0 (pa : PlainAttrs T) (slot : Slot T name id) (hty : typeOf (.builtin id) = pure (.type "method_descriptor")) (hm : MtR X id r) (ho : PE X o to)
    (hbase : attributeBase o name X.env (eval o X.env) = eval o X.env := by rfl) (hline : (apos.endLine == cpos.line) = true := by rfl) : PE X (.Call (.Attribute o name apos) [] [] cpos) (tBM0 X.K T r to) := by
  intro pins s σ H Q I h
  refine wpAny_Call_method0_late hbase hline (thn (ho pins s σ H _ I h) fun v s1 ⟨x, H1, I1, r1, ty, q1⟩ => ?_)
  obtain ⟨h1, h2⟩ := tyV_is I1 r1 ty
  exact ⟨T, id, pa, slot, hty, h1, h2, Calls.callWith_builtin rfl (PySem.evalArgs_none (hm pins s1 σ H1 x [] v [] Q I1 r1 .nil q1))⟩
theorem pe_bm (pa : PlainAttrs T) (slot : Slot T name id) (hty : typeOf (.builtin id) = pure (.type "method_descriptor")) (hm : MtR X id r) (ho : PE X o to) (ha : PA X (e :: es) t)
    (hbase : attributeBase o name X.env (eval o X.env) = eval o X.env := by rfl)
    (hfew : ((backTo cpos (starEach (e :: es) X.env)).all (fun x => !x.1) && (backToKw cpos (keywordEach [] X.env)).all (fun x => x.1.isSome)
      && decide ((e :: es).length + ([] : List Keyword).length + (if ([] : List Keyword).isEmpty then 0 else 1) < 30)) = true := by rfl)
    (hline : (apos.endLine == cpos.line) = true := by rfl) (hs : starEach (e :: es) X.env = (false, eval e X.env) :: starEach es X.env := by rfl) (hplain : (backTo cpos (starEach es X.env)).any (·.1) = false := by rfl) :
    PE X (.Call (.Attribute o name apos) (e :: es) [] cpos) (tBM X.K T r to t) := by
  intro pins s σ H Q I h
  refine wpAny_Call_method_late hbase hfew hline rfl (thn (ho pins s σ H _ I h) fun v s1 ⟨x, H1, I1, r1, ty, q1⟩ => ?_)
  obtain ⟨h1, h2⟩ := tyV_is I1 r1 ty
  refine ⟨T, id, pa, slot, hty, h1, h2, ?_⟩
  have hA := ha cpos pins s1 σ H1 _ I1 q1
  rw [hs] at hA ⊢
  refine Calls.callWith_builtin (by show (false || (backTo cpos (starEach es X.env)).any (·.1)) = false; rw [hplain] <;> rfl) (Calls.evalArgs_plain ?_)
  exact thn hA fun us s2 ⟨vs, H2, I2, r2, q2⟩ => hm pins s2 σ H2 x vs v us Q I2 r1 r2 q2
/- xs.append(e), list.index on a module's tuple .. are MtR facts of 06m -/
end
end L2

namespace L2
open PySem PySem.Spec PyProof.Rows

def MtM (X : Cx) (id : String) (r : V → List V → Hp → VK → Prop) : Prop :=
  ∀ (pins : List (Addr × Obj)) (s : Shared) (σ : St) (H : Hp) (x : V) (xs : List V) (v : Value) (us : List Value) (Q : VK), Inv X pins σ H s → RelV x v → Vals xs us → r x xs H Q →
    wpAny (model X.prog X.w) X.A (call (.builtin id) (v :: us)) (EP X pins σ Q) X.xe s

theorem Vals.one : ∀ {x : V} {us : List Value}, Vals [x] us → ∃ u, us = [u] ∧ RelV x u
  | _, _, .cons r .nil => ⟨_, rfl, r⟩
theorem Vals.zero : ∀ {us : List Value}, Vals [] us → us = []
  | _, .nil => rfl
theorem Vals.dropLast {xs : List V} {us : List Value} (h : Vals xs us) : Vals xs.dropLast us.dropLast := by
  induction h with
  | nil => exact .nil
  | cons r t ih =>
    cases t with
    | nil => exact .nil
    | cons q t' => exact .cons r ih
theorem Vals.reverse {xs : List V} {us : List Value} (h : Vals xs us) : Vals xs.reverse us.reverse := by
  induction h with
  | nil => exact .nil
  | cons r t ih => rw [List.reverse_cons, List.reverse_cons]; exact Vals.append ih (.cons r .nil)
theorem erase_last {α : Type} (l : List α) : l.eraseIdx (l.length - 1) = l.dropLast := by
  induction l with
  | nil => rfl
  | cons a r ih =>
    cases r with
    | nil => rfl
    | cons b r =>
      have e : (a :: b :: r).length - 1 = ((b :: r).length - 1) + 1 := by
        have h1 : (a :: b :: r).length = r.length + 2 := rfl
        have h2 : (b :: r).length = r.length + 1 := rfl
        omega
      rw [e, List.eraseIdx_cons_succ, ih]
      all_goals rfl
section
variable {X : Cx} {pins : List (Addr × Obj)} {σ : St} {H : Hp} {s : Shared} {l b : Addr} {xs ys zs : List V}

theorem Inv.lset {its its' : List Value} {n : Nat} {f : Array Value → Array Value} {t' : Nat} (I : Inv X pins σ H s) (hH : H l = some (.lst xs))
    (e : s.heap.get? l = some { cls := .type "list", data := .seq its.toArray n }) (hf : f its.toArray = its'.toArray) (hv : Vals ys its') (hz : ys.length ≤ sizeLine) :
    Inv X pins σ (upd H l (.lst ys)) { s with heap := s.heap.update l (Obj.mapSeq f), toks := t' } := by
  have q := PySem.IsL.update e f
  rw [hf] at q
  refine I.write (x := l) (e := l) (by rw [hH]; exact trivial) (.inl rfl) (fun b' u hb hu => (Heap.get?_update_other s.heap (Obj.mapSeq f) (Ne.symm hb)).trans hu) ⟨_, q⟩ ?_
  exact ⟨hz, its', _, hv, q⟩
theorem Inv.lnew {its : List Value} {t' : Nat} (I : Inv X pins σ H s) (hv : Vals ys its) (hz : ys.length ≤ sizeLine) :
    Inv X pins σ (upd H s.heap.objs.size (.lst ys)) { s with heap := s.heap.push { cls := .type "list", data := .seq its.toArray }, toks := t' } :=
  I.laid (fun _ _ q => Heap.get?_push_of_some _ q) (Nat.le_refl _) ⟨hz, its, 0, hv, Heap.get?_push_size _ rfl⟩
theorem Inv.fresh (I : Inv X pins σ H s) : H s.heap.objs.size = none := I.hok.fresh (Nat.le_refl _)
theorem Inv.lstM (I : Inv X pins σ H s) (hH : H l = some (.lst xs)) : xs.length ≤ sizeLine ∧ ∃ (its : List Value) (n : Nat), Vals xs its ∧ xs.length = its.length ∧ s.heap.get? l = some { cls := .type "list", data := .seq its.toArray n } := by
  obtain ⟨z, its, n, r, e⟩ := I.hok l _ hH
  exact ⟨z, its, n, r, r.length, e⟩

theorem notLongL {n : Nat} (h : n ≤ sizeLine) : Builtin.List.listTooLong n = false := by
  unfold Builtin.List.listTooLong
  exact decide_eq_false (by omega)
end

section
variable {X : Cx}

def rAppend : V → List V → Hp → VK → Prop := fun x vs H Q => ∃ l xs y, x = .ref l ∧ vs = [y] ∧ H l = some (.lst xs) ∧ xs.length < sizeLine ∧ Q .non (upd H l (.lst (xs ++ [y])))
theorem mt_append : MtM X "list.append" rAppend := by
  intro pins s σ H x vs v us Q I rx rv h
  obtain ⟨l, xs, y, rfl, rfl, hH, hz, q⟩ := h
  cases rx
  obtain ⟨u, rfl, ru⟩ := rv.one
  obtain ⟨z, its, n, r, hl, e⟩ := I.lstM hH
  refine call_meets F.slot_list_append ⟨_, e, rfl⟩ F.entry_list_append (F.args_list_append_2 _ _) (PySem.list_append l its.toArray n u (by rw [List.size_toArray]; omega)) ⟨e, ?_⟩
  refine ⟨.non, _, I.lset (its' := its ++ [u]) hH e (by simp) (r.append (.cons ru .nil)) ?_, rfl, q⟩
  rw [List.length_append, List.length_singleton]
  omega

def rExtend : V → List V → Hp → VK → Prop := fun x vs H Q => ∃ l b xs zs, x = .ref l ∧ vs = [.ref b] ∧ H l = some (.lst xs) ∧ H b = some (.lst zs) ∧ xs.length + zs.length ≤ sizeLine ∧ Q .non (upd H l (.lst (xs ++ zs)))
theorem mt_extend : MtM X "list.extend" rExtend := by
  intro pins s σ H x vs v us Q I rx rv h
  obtain ⟨l, b, xs, zs, rfl, rfl, hH, hB, hz, q⟩ := h
  cases rx
  obtain ⟨u, rfl, ru⟩ := rv.one
  cases ru
  obtain ⟨z, its, n, r, hl, e⟩ := I.lstM hH
  obtain ⟨z2, its2, n2, r2, hl2, e2⟩ := I.lstM hB
  have hsz : its.toArray.size + its2.toArray.size ≤ sizeLine := by rw [List.size_toArray, List.size_toArray]; omega
  have hlong : ¬ (!its.toArray.isEmpty && Builtin.List.listTooLong (its.toArray.size + its2.toArray.size)) = true := by
    rw [notLongL hsz, Bool.and_false]
    exact Bool.false_ne_true
  refine call_meets F.slot_list_extend ⟨_, e, rfl⟩ F.entry_list_extend (F.args_list_extend_2 _ _)
    (AutoSeq1.list_extend_list_list_0 l its.toArray n b its2.toArray n2 hlong (by rw [List.size_toArray]; omega) (by omega)) ⟨e, e2, ?_⟩
  refine ⟨.non, _, I.lset (its' := its ++ its2) hH e (by simp) (r.append r2) ?_, rfl, q⟩
  rw [List.length_append]
  omega

def rPop : V → List V → Hp → VK → Prop := fun x vs H Q => ∃ l xs y, x = .ref l ∧ vs = [] ∧ H l = some (.lst xs) ∧ xs[xs.length - 1]? = some y ∧ Q y (upd H l (.lst xs.dropLast))
theorem mt_pop : MtM X "list.pop" rPop := by
  intro pins s σ H x vs v us Q I rx rv h
  obtain ⟨l, xs, y, rfl, rfl, hH, hy, q⟩ := h
  cases rx
  have hus := rv.zero
  subst hus
  obtain ⟨z, its, n, r, hl, e⟩ := I.lstM hH
  obtain ⟨u, hu, ru⟩ := r.get hy
  have hy' : its.toArray[its.toArray.size - 1]? = some u := by
    show its.toArray[its.length - 1]? = some u
    rw [← Array.getElem?_toList, ← hl]
    exact hu
  refine call_meets F.slot_list_pop ⟨_, e, rfl⟩ F.entry_list_pop (F.args_list_pop_1 _) (MeetsSeq.list_pop_last l its.toArray n u hy' (by rw [List.size_toArray]; omega)) ⟨e, ?_⟩
  refine ⟨y, _, I.lset (its' := its.dropLast) hH e ?_ r.dropLast ?_, ru, q⟩
  · show its.toArray.eraseIdxIfInBounds (its.toArray.size - 1) = its.dropLast.toArray
    rw [List.size_toArray, List.eraseIdxIfInBounds_toArray, erase_last]
  · rw [List.length_dropLast]
    omega

def rReverse : V → List V → Hp → VK → Prop := fun x vs H Q => ∃ l xs, x = .ref l ∧ vs = [] ∧ H l = some (.lst xs) ∧ Q .non (upd H l (.lst xs.reverse))
theorem mt_reverse : MtM X "list.reverse" rReverse := by
  intro pins s σ H x vs v us Q I rx rv h
  obtain ⟨l, xs, rfl, rfl, hH, q⟩ := h
  cases rx
  have hus := rv.zero
  subst hus
  obtain ⟨z, its, n, r, hl, e⟩ := I.lstM hH
  refine call_meets F.slot_list_reverse ⟨_, e, rfl⟩ F.entry_list_reverse (F.args_list_reverse_1 _) (AutoSeq1.list_reverse_list_0 l its.toArray n (by rw [List.size_toArray]; omega)) ⟨e, ?_⟩
  refine ⟨.non, _, I.lset (its' := its.reverse) hH e (by simp) r.reverse ?_, rfl, q⟩
  rw [List.length_reverse]
  omega

def rClear : V → List V → Hp → VK → Prop := fun x vs H Q => ∃ l xs, x = .ref l ∧ vs = [] ∧ H l = some (.lst xs) ∧ Q .non (upd H l (.lst []))
theorem mt_clear : MtM X "list.clear" rClear := by
  intro pins s σ H x vs v us Q I rx rv h
  obtain ⟨l, xs, rfl, rfl, hH, q⟩ := h
  cases rx
  have hus := rv.zero
  subst hus
  obtain ⟨z, its, n, r, hl, e⟩ := I.lstM hH
  refine call_meets F.slot_list_clear ⟨_, e, rfl⟩ F.entry_list_clear (F.args_list_clear_1 _) (AutoSeq1.list_clear_list_0 l its.toArray n (by rw [List.size_toArray]; omega)) ⟨e, ?_⟩
  exact ⟨.non, _, I.lset (its' := []) (ys := []) hH e rfl .nil (Nat.zero_le _), rfl, q⟩

def rCat : R2 := fun x y H Q => ∃ l b xs zs, x = .ref l ∧ y = .ref b ∧ H l = some (.lst xs) ∧ H b = some (.lst zs) ∧ xs.length + zs.length ≤ sizeLine ∧ ∀ p, H p = none → Q (.ref p) (upd H p (.lst (xs ++ zs)))
theorem op_cat : OpR X (binaryOp .Add) rCat := by
  intro pins s σ H x y v u Q I rx ry h
  obtain ⟨l, b, xs, zs, rfl, rfl, hH, hB, hz, q⟩ := h
  cases rx
  cases ry
  obtain ⟨z, its, n, r, hl, e⟩ := I.lstM hH
  obtain ⟨z2, its2, n2, r2, hl2, e2⟩ := I.lstM hB
  refine PySem.P.add_list e e2 ?_ (by rw [List.size_toArray, List.size_toArray]; omega)
  have ea : its.toArray ++ its2.toArray = (its ++ its2).toArray := by simp
  rw [ea]
  exact ⟨.ref _, _, I.lnew (t' := s.toks) (r.append r2) (by rw [List.length_append]; omega), rfl, q _ I.fresh⟩
end

section
variable {prog : Program} {w : World} {A : Around} {E : Value → Shared → Prop} {s : Shared}
end

section
variable {X : Cx}
end
end L2

namespace Att
open PySem PySem.W PySem.Calls PyProof.Rows

theorem ints_of_wellAll {P : Params} {h : Heap} : ∀ (ns : List Int) (vs : List Value), WellAll P h vs (ns.map WData.int) → IntsAre vs ns := by
  intro ns
  induction ns with
  | nil =>
    intro vs w
    rw [List.map_nil] at w
    cases w
    exact .nil
  | cons n ns ih =>
    intro vs w
    rw [List.map_cons] at w
    cases w with
    | cons a b =>
      cases a
      exact .cons _ _ (ih _ b)

theorem script_of {l : OpenLaw} {n : Nat} (hn : l.most = some n) {P : Params} {h : Heap} {args : List WData} {vals : List Value}
    (hpre : l.row.toRowW.claim.pre args = true) (hwl : WellAll P h vals args) :
    ∃ a vs ns, vals = [Value.ref a] ∧ args = [WData.list (ns.map WData.int)] ∧ h.get? a = some { cls := .type "list", data := .seq vs.toArray } ∧ IntsAre vs ns ∧ ns.length ≤ n := by
  have hsh : WShape.hasAll [] args [.list .int] = true := (pre_splitW hpre).1
  have hc : l.pre.holds [] { args := args } = true := (pre_splitW hpre).2
  obtain ⟨d, r, rfl, h1, h2⟩ := hasAllW_cons hsh
  obtain rfl := hasAllW_nil h2
  obtain ⟨xs, rfl, h3⟩ := hasW_list h1
  obtain ⟨ns, rfl⟩ := items_int h3
  have hlen : ns.length ≤ n := by
    unfold OpenLaw.pre at hc
    have h4 : (WTm.not (.lt (.lit (.int (n : Int))) (.len (.arg 0)))).holds [] { args := [.list (ns.map .int)] } = true := by
      have h4 := (holds_andW hc).1
      rw [hn] at h4
      exact h4
    have h5 := condW_of h4 (w_not (w_lt w_lit (w_len_list (w_arg rfl))))
    rw [List.length_map] at h5
    refine Nat.le_of_not_lt fun q => ?_
    have q' : (n : Int) < ((ns.length : Nat) : Int) := by omega
    first
      | (rw [decide_eq_true q'] at h5; exact absurd h5 (by decide))
      | (simp at h5; omega)
  cases hwl with
  | cons w1 w2 =>
    cases w2
    cases w1 with
    | list ho hall => exact ⟨_, _, ns, rfl, rfl, ho, ints_of_wellAll ns _ hall, hlen⟩

theorem post_true (l : OpenLaw) (args : List WData) : l.row.toRowW.claim.post args (.bool true) args = true :=
  postW_of (r := l.row.toRowW) (X := (true == true))
    (show WShape.has [] (.bool true) .bool = true by first | rfl | decide | simp [WShape.has, WShape.arms, WShape.armsAll])
    (show (WTm.eq .res (.lit (.bool true))).value [] { args := args, res := some (.bool true), after := args } = some (.bool (true == true)) from w_eq_bool (w_res rfl) w_lit) rfl

theorem attach_call {l : OpenLaw} {n : Nat} {q : Program} {loose : List Str} {XP : (Str → Option Value) → Heap → Prop} {YP : World → Heap → Prop} {d : DefRec}
    (hn : l.most = some n) (hdf : d.params.defaults = [])
    (call : ∀ (w : World) (s₀ s₁ : Shared) (mg mb : Str → Option Value) (fa : Addr) (o : Obj) (pm cd doc : Value) (a : Addr) (vs : List Value) (ns : List Int),
      Ground q loose [] XP w s₀ mg mb s₁.heap → YP w s₁.heap →
      s₁.heap.get? fa = some o → o.data = .func (docDef d.name d.params d.body d.scope pm cd doc) → s₁.heap.CodeRec cd d.name → mg d.name = some (.ref fa) →
      s₁.heap.get? a = some { cls := .type "list", data := .seq vs.toArray } → IntsAre vs ns → ns.length ≤ n → s₁.gens = #[] →
      codeAny (model l.prog w) callerA (.call (.ref fa) ⟨[.ref a], []⟩) (fun r s' => r = .ok (.ret (.bool true)) ∧ OldK s₁.heap s'.heap ∧ s'.os = s₁.os ∧ AllBare s'.gens) s₁) :
    WalkO q loose XP YP l.row.toRowW d [] (fun f vs => PySem.call f vs) := by
  intro w s₀ s₁ mg mb G Y fa o pm cd doc dV kV ho hd hcd hD hmg hg args vals as hpre hlay hrd hwl hlo
  obtain rfl : dV = .none := Dflts.none hD hdf
  obtain rfl : kV = .none := Dflts.noKw hD
  obtain ⟨a, vs, ns, rfl, rfl, hobj, hints, hlen⟩ := script_of hn hpre hwl
  refine enter_call (codeAny_mono (call w s₀ s₁ mg mb fa o pm cd doc a vs ns G Y ho (fd_plain hd) hcd hmg hobj hints hlen hg) fun r s' hq => ?_)
  obtain ⟨rfl, h2, h3, h4⟩ := hq
  exact ⟨.inl ⟨.bool true, .bool true, [], rfl, fun _ => rfl, .bool true, post_true l _, fun _ => ⟨List.Pairwise.nil, fun _ hm => (nomatch hm)⟩⟩, h2, h3, h4⟩

section
variable {prog : Program} {w : World} {A : Around} {E : Value → Shared → Prop} {s : Shared} {K : Frag}

def ledger (h : Heap) (L d : Addr) : List (Addr × Obj) := (List.range h.objs.size).filterMap fun a => if a = L ∨ a = d then none else (h.get? a).map fun o => (a, o)
end
end Att

namespace L2
open PySem PySem.Spec PyProof.Rows

theorem vals_ints : ∀ {vs : List Value} {ns : List Int}, IntsAre vs ns → Vals (ns.map V.int) vs
  | _, _, .nil => .nil
  | _, _, .cons n t h => .cons ⟨t, rfl⟩ (vals_ints h)

def Only (H : Hp) : Prop := ∀ b, H b = none ∨ ∃ o xs, H b = some (.frz o (.lst xs))

theorem law_call {P : Program} {w : World} {K : PySem.W.Frag} {mg mb : Str → Option Value} {CX : CXT} {k : Nat} {fa a : Addr} {fd : FuncData} {x : Str} {sp : Sp} {s₁ : Shared} {vs : List Value} {ns : List Int}
    (KX : K.In s₁.heap) (hns : s₁.heap.Ns mainGlobals mg) (hb : s₁.heap.Ns builtinsNs mb) (hbb : ∀ x : Str, x ≠ "__name__" → mb x = bootBuiltins x) (hlim : s₁.heap.NoLimit) (hg : s₁.gens = #[])
    (ha : s₁.heap.get? a = some { cls := .type "list", data := .seq vs.toArray }) (hi : IntsAre vs ns) (hl : ns.length ≤ sizeLine) (hr : Room k callerA)
    (F : ∀ base : Heap, K.In base → base.Ns mainGlobals mg → FnOk P w K mg base CX k fa fd [x] sp) (hbind : ∀ (s : Shared) (u : Value), BindsTo s fd ⟨[u], []⟩ [(x, u)])
    (hsp : ∀ H : Hp, Only H → SqL K H a (ns.map V.int) → sp [.ref a] H (fun v _ => v = .bl true) fun _ _ _ => False)
    (hCX : ∀ H e s', CX [] H s₁ (fun _ _ _ => False) e s' → False) :
    codeAny (model P w) callerA (.call (.ref fa) ⟨[.ref a], []⟩) (fun r s' => r = .ok (.ret (.bool true)) ∧ OldK s₁.heap s'.heap ∧ s'.os = s₁.os ∧ AllBare s'.gens) s₁ := by
  have rv := vals_ints hi
  have lenV := hi.length
  -- from an abstract heap in which nothing but the script may be tracked
  have core : ∀ H : Hp, Only H → SqL K H a (ns.map V.int) → HOk P w H s₁.heap → (∀ b, H b ≠ none → b = a) → (H a ≠ none → K.lookup a = none) →
      codeAny (model P w) callerA (.call (.ref fa) ⟨[.ref a], []⟩) (fun r s' => r = .ok (.ret (.bool true)) ∧ OldK s₁.heap s'.heap ∧ s'.os = s₁.os ∧ AllBare s'.gens) s₁ := by
    intro H hO hS hok hA hK
    have base_of : ∀ {b : Addr} {o : Obj}, s₁.heap.get? b = some o → H b = none → (hidT s₁.heap H).get? b = some o := fun e n => hidT_get e n
    have noA : ∀ {b : Addr} {o : Obj} {es : Array DictEntry} {ep : Nat}, s₁.heap.get? b = some o → o.data = .dict es ep → H b = none := fun {b o es ep} e d => by
      cases q : H b with
      | none => rfl
      | some u =>
        have e' : b = a := hA b (by rw [q]; simp)
        subst e'
        rw [ha] at e; cases e
        have d' : Data.seq vs.toArray _ = Data.dict es ep := d
        cases d'
    have nsK : ∀ {b : Addr} {m : Str → Option Value}, s₁.heap.Ns b m → (hidT s₁.heap H).Ns b m := fun {b m} ⟨o, es, ep, e, d, r⟩ => ⟨o, es, ep, base_of e (noA e d), d, r⟩
    have hKb : K.In (hidT s₁.heap H) := fun b o e => base_of (KX b o e) (by
      cases q : H b with
      | none => rfl
      | some u =>
        have e' : b = a := hA b (by rw [q]; simp)
        subst e'
        rw [hK (by rw [q]; simp)] at e; cases e)
    have hM : Mod K mg (hidT s₁.heap H) := ⟨hKb, nsK hns, ⟨mb, nsK hb, hbb⟩, let ⟨mc, h1, h2⟩ := hlim; ⟨mc, nsK h1, h2⟩⟩
    have e0 : Env0 P w K mg (hidT s₁.heap H) callerA [] s₁ H := ⟨rfl, hM, fun b o e => of_hidT e, Nat.le_of_eq (hidT_size _ _), trivial, fun b hb => absurd (show b ∈ ([] : List Addr) from hb) (by simp), hok, .of_eq hg⟩
    refine codeAny_mono ((F _ hKb (nsK hns)).run callerA [] s₁ H ⟨[.ref a], []⟩ [.ref a] [.ref a] _ _ hr e0 (hbind s₁ (.ref a)) (.cons rfl .nil) (hsp H hO hS)) fun r s' h => ?_
    cases r with
    | error e => exact (hCX H e s' h).elim
    | ok fl =>
      cases fl with
      | next => exact False.elim h
      | brk => exact False.elim h
      | cont => exact False.elim h
      | ret u =>
        obtain ⟨v, H', os, bare, un, hok', r', q⟩ := h
        have q' : v = .bl true := q
        subst q'
        obtain rfl : u = Value.bool true := r'
        refine ⟨rfl, OldK.of_keep fun b o e => ?_, os, bare⟩
        cases q : H b with
        | none => exact un.keep b o e q (by intro z; exact absurd (show b ∈ ([] : List Addr) from z) (by simp)) (by simp)
        | some u =>
          rcases hO b with z | ⟨ob, xs, z⟩
          · rw [q] at z; cases z
          · have z2 := un.frzs b ob _ z
            obtain ⟨e1, _⟩ := hok b _ z
            obtain ⟨e2, _⟩ := hok' b _ z2
            rw [e] at e1; cases e1
            exact e2
  cases hk : K.lookup a with
  | some o =>
    -- the script is one of the module's own objects
    have e := KX a o hk
    rw [ha] at e
    cases e
    refine core (fun _ => none) (fun _ => .inl rfl) (.inr ⟨_, vs.toArray, _, hk, rfl, rfl, rfl, by rw [List.size_toArray, lenV]; exact hl, by simpa using rv⟩) (fun b u z => by have z' : (none : Option HO) = some u := z; cases z') (fun b z => absurd rfl z) fun z => absurd rfl z
  | none =>
    refine core (fun b => if b = a then some (.frz { cls := .type "list", data := .seq vs.toArray } (.lst (ns.map V.int))) else none) (fun b => ?_) (.inl (.inr ⟨{ cls := .type "list", data := .seq vs.toArray }, if_pos rfl⟩)) (fun b u z => ?_) (fun b z => ?_) fun _ => hk
    · by_cases hb : b = a
      · exact .inr ⟨_, _, if_pos hb⟩
      · exact .inl (if_neg hb)
    · by_cases hb : b = a
      · have z' := (if_pos hb).symm.trans z
        cases z'
        subst hb
        exact ⟨ha, by rw [List.length_map]; exact hl, vs, _, rv, ha⟩
      · have z' := (if_neg hb).symm.trans z
        cases z'
    · by_cases hb : b = a
      · exact hb
      · exact absurd (if_neg hb) z
end L2

namespace L2
open PySem PySem.Spec PyProof.Rows

abbrev KOf {K : PySem.W.Frag} {h : Heap} (_ : K.In h) : PySem.W.Frag := K

theorem walk_of {l : PySem.W.OpenLaw} {n k : Nat} {q : Program} {loose : List Str} {XP : (Str → Option Value) → Heap → Prop} {YP : World → Heap → Prop} {d : DefRec} {K : Params → PySem.W.Frag} {CX : World → CXT} {sp : World → Sp} {x : Str}
    (hn : l.most = some n) (hn2 : n ≤ sizeLine) (hdf : d.params.defaults = []) (hr : Room k callerA)
    (hY : ∀ (w : World) (h : Heap), YP w h → (K w.params).In h)
    (F : ∀ (w : World) (mg : Str → Option Value) (fa : Addr) (h : Heap), (K w.params).In h → h.Ns mainGlobals mg → mg d.name = some (.ref fa) →
      ∃ fd : FuncData, (∀ (s : Shared) (u : Value), BindsTo s fd ⟨[u], []⟩ [(x, u)]) ∧
        ∀ base : Heap, (K w.params).In base → base.Ns mainGlobals mg → FnOk l.prog w (K w.params) mg base (CX w) k fa fd [x] (sp w))
    (hsp : ∀ (w : World) (H : Hp) (a : Addr) (ns : List Int), ns.length ≤ n → Only H → SqL (K w.params) H a (ns.map V.int) → sp w [.ref a] H (fun v _ => v = .bl true) fun _ _ _ => False)
    (hCX : ∀ (w : World) (H : Hp) (s : Shared) (e : Value) (s' : Shared), CX w [] H s (fun _ _ _ => False) e s' → False) :
    PySem.W.WalkO q loose XP YP l.row.toRowW d [] (fun f vs => PySem.call f vs) := by
  refine Att.attach_call hn hdf fun w s₀ s₁ mg mb fa o pm cd doc a vs ns G Y ho hd hcd hmg hobj hints hlen hg => ?_
  have KX := hY w _ Y
  obtain ⟨fd, hb, hF⟩ := F w mg fa _ KX G.T.g hmg
  exact law_call KX G.T.g G.T.b G.T.builtins G.T.nolimit hg hobj hints (Nat.le_trans hlen hn2) hr hF hb (fun H hO hS => hsp w H a ns hlen hO hS) fun H e s' => hCX w H s₁ e s'
theorem walk_ofK {l : PySem.W.OpenLaw} {n k : Nat} {q : Program} {loose : List Str} {XP : (Str → Option Value) → Heap → Prop} {YP : World → Heap → Prop} {d : DefRec} {K : Params → PySem.W.Frag} {CX : CXT} {sp : PySem.W.Frag → Sp} {x : Str}
    (hn : l.most = some n) (hn2 : n ≤ sizeLine) (hdf : d.params.defaults = []) (hr : Room k callerA)
    (hY : ∀ (w : World) (h : Heap), YP w h → (K w.params).In h)
    (F : ∀ (w : World) (mg : Str → Option Value) (fa : Addr) (h : Heap), (K w.params).In h → h.Ns mainGlobals mg → mg d.name = some (.ref fa) →
      ∃ fd : FuncData, (∀ (s : Shared) (u : Value), BindsTo s fd ⟨[u], []⟩ [(x, u)]) ∧
        ∀ base : Heap, (K w.params).In base → base.Ns mainGlobals mg → FnOk l.prog w (K w.params) mg base CX k fa fd [x] (sp (K w.params)))
    (hsp : ∀ (K : PySem.W.Frag) (H : Hp) (a : Addr) (ns : List Int), ns.length ≤ n → Only H → SqL K H a (ns.map V.int) → sp K [.ref a] H (fun v _ => v = .bl true) fun _ _ _ => False)
    (hCX : ∀ (H : Hp) (s : Shared) (e : Value) (s' : Shared), CX [] H s (fun _ _ _ => False) e s' → False) :
    PySem.W.WalkO q loose XP YP l.row.toRowW d [] (fun f vs => PySem.call f vs) :=
  walk_of (K := K) (CX := fun _ => CX) (sp := fun w => sp (K w.params)) hn hn2 hdf hr hY F (fun w H a ns h1 h2 h3 => hsp (K w.params) H a ns h1 h2 h3) fun _ H s e s' => hCX H s e s'
end L2

/- THE LAST THEOREM (shape; LID, My.* are yours):
   My.Adr: a structure of the addresses that your layer names (classes, functions); My.Txt K t: a structure (Prop) of the equations over K;
   My.txt_mk : {K} {implicit addresses ..} (e1 : nsIn K mainGlobals "law" = some (some (.ref f))) (e2 : K.lookup f = some ⟨oc, od, .func (fnOf "law" "law" params body scope dV kV doc pm an cdv ct), sl⟩) (e3 : codeIn K cdv "law" = true) .. : ∃ t, My.Txt K t

set_option maxRecDepth 100000 in
set_option maxHeartbeats 0 in
theorem PySem.Challenge.cw_LID_holds : PySem.Challenge.rw_LID.Holds := by
  w_on; o_law; k_head; (case hw => w_witness2)
  k_fill
  refine L2.walk_of (l := PySem.Challenge.rw_LID) (n := 63) (k := 40) (x := "script") (CX := fun w => ..) (sp := fun _ => My.sp_law) rfl (by decide) rfl ⟨rfl, by decide, by decide⟩ (fun w h Y => PySem.W.kIn_of Y) ?F ?S ?C
  case F =>
    intro w mg fa h KX G hmg
    have T : ∃ t, My.Txt (L2.KOf KX) t := by
      dsimp only [L2.KOf]                          -- K must stand as «<heap const> w.params» for k_is
      refine' My.txt_mk ?e1 ?e2 ?e3 ..
      (case e1 => PySem.W.k_is)                    -- in the order: a name -> its address -> its object -> its parts
      (case e2 => PySem.W.k_is)
      ..
    obtain ⟨t, T⟩ := T
    have e0 := hmg.symm.trans (PySem.W.mg_of KX G T.law)
    cases e0                                       -- fa is the law's own address
    exact ⟨_, fun s u => .of_eq rfl, fun base kb nb => My.law_fn T kb nb⟩     -- if «.of_eq rfl» comes too early: refine' ⟨_, ?b, fun base kb nb => My.law_fn T kb nb⟩; exact fun s u => .of_eq rfl
  case S => exact fun w H a ns hl hO hS => ..
  case C => exact ..
(the tactic k_is has no namespace: write k_is) -/

namespace L2
open PySem PySem.Spec PyProof.Rows

def inClass (s : Stmt) (j : Nat) : Stmt := match s with
  | .ClassDef _ _ _ body _ _ _ _ _ _ _ => body.getD j (.Pass ⟨0, 0, 0, 0⟩)
  | _ => .Pass ⟨0, 0, 0, 0⟩
def defArgs (s : Stmt) : Arguments := match s with
  | .FunctionDef _ a _ _ _ _ _ _ _ _ => a
  | _ => { posonlyargs := [], args := [], vararg := none, kwonlyargs := [], kw_defaults := [], kwarg := none, defaults := [] }
def defBody (s : Stmt) : List Stmt := match s with
  | .FunctionDef _ _ b _ _ _ _ _ _ _ => b
  | _ => []
def defScope (s : Stmt) : Scope := match s with
  | .FunctionDef _ _ _ _ _ _ sc _ _ _ => sc
  | _ => { kind := .function, names := [], isGenerator := false, isCoroutine := false }

abbrev CX0 : CXT := fun _ _ _ _ _ _ => False
abbrev E0 : XK := fun _ _ _ => False
theorem pass0 {X : Cx} : Passes CX0 X E0 := fun _ _ _ _ _ _ _ h => h.elim

structure Fun (K : PySem.W.Frag) (x qual : Str) (st : Stmt) (f : Addr) (fd : FuncData) : Prop where
  ex : ∃ (oc : Value) (od : Option Addr) (kV doc pm : Value) (an : Option Addr) (cdv ct : Value) (osl : Array (Option Value)),
    fd = PySem.W.fnOf x qual (defArgs st) (defBody st) (defScope st) .none kV doc pm an cdv ct ∧ K.lookup f = some ⟨oc, od, .func fd, osl⟩ ∧ PySem.W.codeIn K cdv qual = true
  kp : PySem.W.keepIn K (.ref f) = true
section
variable {P : Program} {w : World} {K : PySem.W.Frag} {mg : Str → Option Value} {base : Heap}
theorem Fun.ok {x qual : Str} {st : Stmt} {f : Addr} {fd : FuncData} {N ps : List Str} {k : Nat} {sp : Sp} (F : Fun K x qual st f fd) (S : FnScope N ps (defScope st)) (len : ∀ vs H Q E, sp vs H Q E → vs.length = ps.length)
    (hbody : ∀ (cdv : Value) (A : Around) (outer : List Env) (s : Shared) (H : Hp) (vs : List V) (Q : VK) (E : XK), Room k (A.deeper (envOfC qual (defScope st) s.heap.objs.size f cdv)) → sp vs H Q E →
      ∃ t, PSs (cxOf CX0 P w K mg base N qual (defScope st) f cdv A outer s H E).nox (defBody st) t ∧ t { nx := fun _ H' => Q .non H', rt := Q } (start N vs) H) : FnOk P w K mg base CX0 (k + 1) f fd ps sp := by
  obtain ⟨oc, od, kV, doc, pm, an, cdv, ct, osl, rfl, lk, hcd⟩ := F.ex
  refine fn_of lk hcd S len fun A outer s H vs Q E hr hsp => ?_
  obtain ⟨t, h, q⟩ := hbody cdv A outer s H vs Q E hr hsp
  exact ⟨t, h.nox, q⟩
theorem Fun.binds {x qual : Str} {st : Stmt} {f : Addr} {fd : FuncData} {ps : List Str} (F : Fun K x qual st f fd)
    (h : ∀ (kV doc pm : Value) (an : Option Addr) (cdv ct : Value) (us : List Value), us.length = ps.length → bindArgs (PySem.W.fnOf x qual (defArgs st) (defBody st) (defScope st) .none kV doc pm an cdv ct) ⟨us, []⟩ = pure (ps.zip us)) : Binds K fd ps [] := by
  obtain ⟨oc, od, kV, doc, pm, an, cdv, ct, osl, rfl, lk, hcd⟩ := F.ex
  exact .all (h kV doc pm an cdv ct)
theorem fun_mk {x qual : Str} {st : Stmt} {f : Addr} {oc : Value} {od an : Option Addr} {osl : Array (Option Value)} {kV doc pm cdv ct : Value} (l : K.lookup f = some ⟨oc, od, .func (PySem.W.fnOf x qual (defArgs st) (defBody st) (defScope st) .none kV doc pm an cdv ct), osl⟩)
    (c : PySem.W.codeIn K cdv qual = true) (k : PySem.W.keepIn K (.ref f) = true) : Fun K x qual st f (PySem.W.fnOf x qual (defArgs st) (defBody st) (defScope st) .none kV doc pm an cdv ct) := ⟨⟨oc, od, kV, doc, pm, an, cdv, ct, osl, rfl, l, c⟩, k⟩
end
theorem small1000 {n : Nat} (h : n ≤ 1000) : n < sizeLine := Nat.lt_of_le_of_lt h (by decide)

section
variable {X : Cx}
theorem pv (i : Nat) {x : Str} {pos : Pos} (hN : X.N[i]? = some x := by rfl) (hv : Vis X.env.scope x := by first | exact Or.inl rfl | exact Or.inr (Or.inl rfl) | exact Or.inr (Or.inr rfl)) (hd : (x == ("__debug__" : Str)) = false := by decide)
    (hcd : (x == ("__classdict__" : Str)) = false := by decide) : PE X (.Name x pos) (tVar i) := pe_var hN hv hd hcd
end

theorem iteF {A B : Prop} (h : B) : if false = true then A else B := by
  rw [if_neg Bool.false_ne_true]
  exact h
theorem iteT {A B : Prop} (h : A) : if true = true then A else B := by
  rw [if_pos rfl]
  exact h
def Same (H H' : Hp) : Prop := ∀ b o, H b = some o → H' b = some o
end L2


set_option linter.all false
set_option maxRecDepth 100000
set_option maxHeartbeats 4000000
namespace U
open PySem PySem.Spec PyProof.Rows L2
inductive PV where
  | non | bl (b : Bool) | int (i : Int) | str (x : Str) | ref (a : Addr) | tup (l : List PV) | fls (l : List PV) | oth (v : V)
def FzL (K : PySem.W.Frag) (H : Hp) (a : Addr) (xs : List V) : Prop :=
  (∃ o, H a = some (.frz o (.lst xs))) ∨
    ∃ (o : Obj) (its : Array Value) (n : Nat), K.lookup a = some o ∧ o.cls = .type "list" ∧ o.dict = none ∧ o.data = .seq its n ∧ its.size ≤ sizeLine ∧ Vals xs its.toList
theorem FzL.sq {K : PySem.W.Frag} {H : Hp} {a : Addr} {xs : List V} (h : FzL K H a xs) : SqL K H a xs := by
  rcases h with h | h
  · exact .inl (.inr h)
  · exact .inr h
structure Kp (H H1 : Hp) : Prop where
  t : ∀ a us, H a = some (.tup us) → H1 a = some (.tup us)
  z : ∀ a o u, H a = some (.frz o u) → H1 a = some (.frz o u)
theorem Kp.sqT {K : PySem.W.Frag} {H H1 : Hp} (k : Kp H H1) {a : Addr} {us : List V} (h : SqT K H a us) : SqT K H1 a us := by
  rcases h with (h | ⟨o, h⟩) | h
  · exact .inl (.inl (k.t _ _ h))
  · exact .inl (.inr ⟨o, k.z _ _ _ h⟩)
  · exact .inr h
theorem Kp.fzL {K : PySem.W.Frag} {H H1 : Hp} (k : Kp H H1) {a : Addr} {us : List V} (h : FzL K H a us) : FzL K H1 a us := by
  rcases h with ⟨o, h⟩ | h
  · exact .inl ⟨o, k.z _ _ _ h⟩
  · exact .inr h
section
variable (K : PySem.W.Frag)
mutual
def RP (H : Hp) : PV → V → Prop
  | .non, v => v = .non
  | .bl b, v => v = .bl b
  | .int i, v => v = .int i
  | .str x, v => v = .str x
  | .ref a, v => v = .ref a
  | .oth w, v => v = w
  | .tup l, v => ∃ a us, v = .ref a ∧ SqT K H a us ∧ RPs H l us
  | .fls l, v => ∃ a us, v = .ref a ∧ FzL K H a us ∧ RPs H l us
def RPs (H : Hp) : List PV → List V → Prop
  | [], us => us = []
  | x :: l, us => ∃ u r, us = u :: r ∧ RP H x u ∧ RPs H l r
end
mutual
theorem RP.kp {H H1 : Hp} (k : Kp H H1) : ∀ {x : PV} {v : V}, RP K H x v → RP K H1 x v
  | .non, _, h => h
  | .bl _, _, h => h
  | .int _, _, h => h
  | .str _, _, h => h
  | .ref _, _, h => h
  | .oth _, _, h => h
  | .tup l, v, h => by
    simp only [RP] at h ⊢
    obtain ⟨a, us, e, q, r⟩ := h
    exact ⟨a, us, e, k.sqT q, RPs.kp k r⟩
  | .fls l, v, h => by
    simp only [RP] at h ⊢
    obtain ⟨a, us, e, q, r⟩ := h
    exact ⟨a, us, e, k.fzL q, RPs.kp k r⟩
theorem RPs.kp {H H1 : Hp} (k : Kp H H1) : ∀ {l : List PV} {us : List V}, RPs K H l us → RPs K H1 l us
  | [], _, h => h
  | x :: l, us, h => by
    simp only [RPs] at h ⊢
    obtain ⟨u, r, e, a, b⟩ := h
    exact ⟨u, r, e, RP.kp k a, RPs.kp k b⟩
end
theorem RPs.nil {H : Hp} : RPs K H [] [] := by simp [RPs]
theorem RPs.cons {H : Hp} {x : PV} {l : List PV} {u : V} {us : List V} (a : RP K H x u) (b : RPs K H l us) : RPs K H (x :: l) (u :: us) := by
  simp only [RPs]; exact ⟨u, us, rfl, a, b⟩
theorem RPs.length {H : Hp} : ∀ {l : List PV} {us : List V}, RPs K H l us → us.length = l.length
  | [], us, h => by simp only [RPs] at h; subst h; rfl
  | x :: l, us, h => by
    simp only [RPs] at h
    obtain ⟨u, r, rfl, _, b⟩ := h
    simp [RPs.length b]
theorem RPs.get {H : Hp} : ∀ {l : List PV} {us : List V} {i : Nat} {x : PV}, RPs K H l us → l[i]? = some x → ∃ u, us[i]? = some u ∧ RP K H x u
  | [], _, _, _, _, e => by simp at e
  | y :: l, us, i, x, h, e => by
    simp only [RPs] at h
    obtain ⟨u, r, rfl, a, b⟩ := h
    cases i with
    | zero => simp at e; subst e; exact ⟨u, by simp, a⟩
    | succ i => obtain ⟨w, e1, e2⟩ := RPs.get (i := i) (x := x) b (by simpa using e); exact ⟨w, by simpa using e1, e2⟩
theorem RPs.append {H : Hp} : ∀ {l m : List PV} {us ws : List V}, RPs K H l us → RPs K H m ws → RPs K H (l ++ m) (us ++ ws)
  | [], m, us, ws, h, g => by simp only [RPs] at h; subst h; simpa using g
  | x :: l, m, us, ws, h, g => by
    simp only [RPs] at h
    obtain ⟨u, r, rfl, a, b⟩ := h
    exact RPs.cons K a (RPs.append b g)
theorem RPs.set {H : Hp} {x : PV} {u : V} (a : RP K H x u) : ∀ {l : List PV} {us : List V} (n : Nat), RPs K H l us → RPs K H (l.set n x) (us.set n u)
  | [], us, n, h => by simp only [RPs] at h; subst h; simp [RPs]
  | y :: l, us, 0, h => by
    simp only [RPs] at h
    obtain ⟨w, r, rfl, _, b⟩ := h
    exact RPs.cons K a b
  | y :: l, us, n + 1, h => by
    simp only [RPs] at h
    obtain ⟨w, r, rfl, c, b⟩ := h
    exact RPs.cons K c (RPs.set a n b)
theorem RPs.ints {H : Hp} : ∀ (ns : List Int), RPs K H (ns.map PV.int) (ns.map V.int)
  | [] => by simp [RPs]
  | n :: ns => RPs.cons K (by simp [RP]) (RPs.ints ns)
end
def ExcA (a C : Addr) (h : Heap) : Prop := ∃ o, h.get? a = some o ∧ o.cls = .ref C
inductive PO where
  | exc (C : Addr)
  | lst (l : List PV)
  | ins (C dx : Addr) (fs : List (Str × PV))
  | dK (kvs : List (Key × PV))
  | dT (kvs : List (List Key × PV))
abbrev PHp := Addr → Option PO
def put (H : PHp) (a : Addr) (o : PO) : PHp := fun b => if b = a then some o else H b
theorem put_same {H : PHp} {a : Addr} {o : PO} : put H a o a = some o := by unfold put; rw [if_pos rfl]
theorem put_ne {H : PHp} {a b : Addr} {o : PO} (h : b ≠ a) : put H a o b = H b := by unfold put; rw [if_neg h]
theorem put_put {H : PHp} {a : Addr} {o u : PO} : put (put H a o) a u = put H a u := by
  funext b; unfold put; split <;> rfl
theorem ne_none {H : PHp} {a b : Addr} {o : PO} (h : H a = some o) (h' : H b = none) : a ≠ b := by
  intro e; subst e; rw [h] at h'; cases h'
abbrev FRel (K : PySem.W.Frag) (H : Hp) {κ : Type} : List (κ × PV) → List (κ × V) → Prop := Paired fun p q => p.1 = q.1 ∧ RP K H p.2 q.2
def OAt (K : PySem.W.Frag) (H : Hp) (a : Addr) : PO → Prop
  | .exc C => H a = some (.ext (ExcA a C))
  | .lst l => ∃ us, H a = some (.lst us) ∧ RPs K H l us
  | .ins C dx fs => ∃ gs, H a = some (.ins C dx gs) ∧ FRel K H fs gs
  | .dK kvs => ∃ ws, H a = some (.dK ws) ∧ FRel K H kvs ws
  | .dT kvs => ∃ ws, H a = some (.dT ws) ∧ FRel K H kvs ws
abbrev HR (K : PySem.W.Frag) (H' : PHp) (H : Hp) : Prop := ∀ a o, H' a = some o → OAt K H a o
abbrev St' := List (Option PV)
abbrev Bs := PHp × Hp
def Ev (H' : PHp) (H : Hp) (H1' : PHp) (H1 : Hp) : Prop := ∀ a o, H a = some o → H' a = none → H1 a = some o ∧ H1' a = none
structure SR (K : PySem.W.Frag) (B : Bs) (σ' : St') (H' : PHp) (σ : L2.St) (H : Hp) : Prop where
  len : σ'.length = σ.length
  loc : ∀ (i : Nat) (v' : PV), σ'[i]? = some (some v') → ∃ v, σ[i]? = some (some v) ∧ RP K H v' v
  hp : HR K H' H
  ev : Ev B.1 B.2 H' H
theorem Ev.refl (H' : PHp) (H : Hp) : Ev H' H H' H := fun _ _ h h' => ⟨h, h'⟩
theorem Ev.trans {H' : PHp} {H : Hp} {H1' : PHp} {H1 : Hp} {H2' : PHp} {H2 : Hp} (a : Ev H' H H1' H1) (b : Ev H1' H1 H2' H2) : Ev H' H H2' H2 := fun c o h h' => by
  obtain ⟨p, q⟩ := a c o h h'
  exact b c o p q
section
variable {K : PySem.W.Frag}
theorem FRel.kp {κ : Type} {H H1 : Hp} (k : Kp H H1) {fs : List (κ × PV)} {gs : List (κ × V)} (h : FRel K H fs gs) : FRel K H1 fs gs := Paired.mapP h fun _ _ ⟨a, b⟩ => ⟨a, RP.kp K k b⟩
theorem OAt.some {H : Hp} {a : Addr} : ∀ {o : PO}, OAt K H a o → ∃ u, H a = Option.some u ∧ (∀ us, u ≠ .tup us) ∧ (∀ o us, u ≠ .frz o us) ∧ (∀ x, u ≠ .own x)
  | .exc C, e => ⟨_, e, (fun _ => by nofun), (fun _ _ => by nofun), (fun _ => by nofun)⟩
  | .lst l, ⟨us, e, _⟩ => ⟨_, e, (fun _ => by nofun), (fun _ _ => by nofun), (fun _ => by nofun)⟩
  | .ins C dx fs, ⟨us, e, _⟩ => ⟨_, e, (fun _ => by nofun), (fun _ _ => by nofun), (fun _ => by nofun)⟩
  | .dK l, ⟨us, e, _⟩ => ⟨_, e, (fun _ => by nofun), (fun _ _ => by nofun), (fun _ => by nofun)⟩
  | .dT l, ⟨us, e, _⟩ => ⟨_, e, (fun _ => by nofun), (fun _ _ => by nofun), (fun _ => by nofun)⟩
theorem OAt.keep {H H1 : Hp} {a : Addr} (k : Kp H H1) (e : H1 a = H a) : ∀ {o : PO}, OAt K H a o → OAt K H1 a o
  | .exc C, h => e.trans h
  | .lst l, ⟨us, h, r⟩ => ⟨us, e.trans h, RPs.kp K k r⟩
  | .ins C dx fs, ⟨us, h, r⟩ => ⟨us, e.trans h, FRel.kp k r⟩
  | .dK l, ⟨us, h, r⟩ => ⟨us, e.trans h, FRel.kp k r⟩
  | .dT l, ⟨us, h, r⟩ => ⟨us, e.trans h, FRel.kp k r⟩
theorem HR.tup {H' : PHp} {H : Hp} (h : HR K H' H) {a : Addr} {us : List V} (e : H a = some (.tup us)) : H' a = none := by
  cases q : H' a with
  | none => rfl
  | some o => obtain ⟨u, e1, n, _⟩ := (h a o q).some; rw [e] at e1; exact absurd (Option.some.inj e1).symm (n us)
theorem HR.frz {H' : PHp} {H : Hp} (h : HR K H' H) {a : Addr} {o : Obj} {u : HO} (e : H a = some (.frz o u)) : H' a = none := by
  cases q : H' a with
  | none => rfl
  | some o' => obtain ⟨u', e1, _, n, _⟩ := (h a o' q).some; rw [e] at e1; exact absurd (Option.some.inj e1).symm (n o u)
theorem HR.free {H' : PHp} {H : Hp} (h : HR K H' H) {a : Addr} (e : H a = none) : H' a = none := by
  cases q : H' a with
  | none => rfl
  | some o => obtain ⟨u, e1, _⟩ := (h a o q).some; rw [e] at e1; cases e1
theorem Ev.kp {H' : PHp} {H : Hp} {H1' : PHp} {H1 : Hp} (e : Ev H' H H1' H1) (h : HR K H' H) : Kp H H1 :=
  ⟨fun a us q => (e a _ q (h.tup q)).1, fun a o u q => (e a _ q (h.frz q)).1⟩
theorem kp_fresh {H : Hp} {p : Addr} {o : HO} (e : H p = none) : Kp H (upd H p o) :=
  ⟨fun a us q => by rw [upd_ne (ne_of_none q e)]; exact q, fun a o u q => by rw [upd_ne (ne_of_none q e)]; exact q⟩
theorem kp_write {H : Hp} {p : Addr} {o u : HO} (e : H p = some u) (n1 : ∀ us, u ≠ .tup us) (n2 : ∀ o us, u ≠ .frz o us) : Kp H (upd H p o) :=
  ⟨fun a us q => by rw [upd_ne (ne_of q e fun z => n1 us z.symm)]; exact q, fun a o' u' q => by rw [upd_ne (ne_of q e fun z => n2 o' u' z.symm)]; exact q⟩
theorem SR.kp {B : Bs} {σ' : St'} {H' H1' : PHp} {σ : L2.St} {H H1 : Hp} (s : SR K B σ' H' σ H) (e : Ev H' H H1' H1) (h : HR K H1' H1) : SR K B σ' H1' σ H1 :=
  ⟨s.len, fun i v' q => by obtain ⟨v, a, b⟩ := s.loc i v' q; exact ⟨v, a, RP.kp K (e.kp s.hp) b⟩, h, s.ev.trans e⟩
theorem HR.hid {H' : PHp} {H : Hp} {p : Addr} {o : HO} (h : HR K H' H) (e : H p = none) : HR K H' (upd H p o) := fun a u q => by
  have na : a ≠ p := by rintro rfl; rw [h.free e] at q; cases q
  exact (h a u q).keep (kp_fresh e) (upd_ne na)
theorem Ev.hid {H' : PHp} {H : Hp} {p : Addr} {o : HO} (e : H p = none) : Ev H' H H' (upd H p o) := fun a u q n => ⟨by rw [upd_ne (ne_of_none q e)]; exact q, n⟩
theorem HR.new {H' : PHp} {H : Hp} {p : Addr} {o : HO} {o' : PO} (h : HR K H' H) (e : H p = none) (new : OAt K (upd H p o) p o') : HR K (put H' p o') (upd H p o) := fun a u q => by
  by_cases hp : a = p
  · subst hp; rw [put_same] at q; cases q; exact new
  · rw [put_ne hp] at q; exact (h a u q).keep (kp_fresh e) (upd_ne hp)
theorem Ev.new {H' : PHp} {H : Hp} {p : Addr} {o : HO} {o' : PO} (e : H p = none) : Ev H' H (put H' p o') (upd H p o) := fun a u q n => by
  have na := ne_of_none q e
  exact ⟨by rw [upd_ne na]; exact q, by rw [put_ne na]; exact n⟩
theorem HR.wr {H' : PHp} {H : Hp} {p : Addr} {o : HO} {o' u' : PO} (h : HR K H' H) (e : H' p = some u') (new : OAt K (upd H p o) p o') : HR K (put H' p o') (upd H p o) := fun a u q => by
  obtain ⟨v, e1, n1, n2, _⟩ := (h p u' e).some
  by_cases hp : a = p
  · subst hp; rw [put_same] at q; cases q; exact new
  · rw [put_ne hp] at q; exact (h a u q).keep (kp_write e1 n1 n2) (upd_ne hp)
theorem HR.kpw {H' : PHp} {H : Hp} {p : Addr} {o : HO} {u' : PO} (h : HR K H' H) (e : H' p = some u') : Kp H (upd H p o) := by
  obtain ⟨v, e1, n1, n2, _⟩ := (h p u' e).some
  exact kp_write e1 n1 n2
theorem Ev.wr {H' : PHp} {H : Hp} {p : Addr} {o : HO} {o' u' : PO} (e : H' p = some u') : Ev H' H (put H' p o') (upd H p o) := fun a u q n => by
  have na : a ≠ p := by rintro rfl; rw [e] at n; cases n
  exact ⟨by rw [upd_ne na]; exact q, by rw [put_ne na]; exact n⟩
def Sub (A B : PHp) : Prop := ∀ a o, A a = some o → B a = some o
theorem Sub.refl (A : PHp) : Sub A A := fun _ _ h => h
theorem Sub.trans {A B C : PHp} (a : Sub A B) (b : Sub B C) : Sub A C := fun c o h => b c o (a c o h)
theorem Sub.put {A B : PHp} {p : Addr} {o : PO} (a : Sub A B) (n : A p = none) : Sub A (put B p o) := fun c u h => by rw [put_ne (ne_none h n)]; exact a c u h
theorem Sub.free {A B : PHp} (a : Sub A B) {p : Addr} (n : B p = none) : A p = none := by
  cases q : A p with
  | none => rfl
  | some o => rw [a p o q] at n; cases n
theorem HR.sub {A B : PHp} {H : Hp} (h : HR K B H) (s : Sub A B) : HR K A H := fun a o e => h a o (s a o e)
theorem Ev.sub {H' : PHp} {H : Hp} {A B : PHp} {H1 : Hp} (e : Ev H' H B H1) (s : Sub A B) : Ev H' H A H1 := fun a o q n => by
  obtain ⟨x, y⟩ := e a o q n
  exact ⟨x, s.free y⟩
end
end U


set_option linter.all false
set_option maxRecDepth 100000
set_option maxHeartbeats 4000000
namespace U
open PySem PySem.Spec PyProof.Rows L2
variable {B : Bs}
abbrev VK' := PV → PHp → Prop
abbrev TE' := St' → PHp → VK' → Prop
abbrev TT' := St' → PHp → (Bool → PHp → Prop) → Prop
abbrev TA' := St' → PHp → (List PV → PHp → Prop) → Prop
abbrev XK' := Value → Option Addr → PHp → Prop
structure Ends' where
  nx : St' → PHp → Prop
  rt : VK'
  bk : St' → PHp → Prop := fun _ _ => False
  ct : St' → PHp → Prop := fun _ _ => False
abbrev TS' := Ends' → St' → PHp → Prop
abbrev TG' := PV → St' → PHp → (St' → PHp → Prop) → Prop
abbrev TGs' := List PV → St' → PHp → (St' → PHp → Prop) → Prop
structure It' where
  items : List PV
  ok : PHp → Prop
abbrev TI' := St' → PHp → (It' → PHp → Prop) → Prop
section
variable (K : PySem.W.Frag) (B : Bs)
def low (t : TE') : TE := fun σ H Q => ∃ σ' H' Q', SR K B σ' H' σ H ∧ t σ' H' Q' ∧ ∀ v' H1' v H1, Q' v' H1' → RP K H1 v' v → SR K B σ' H1' σ H1 → Ev H' H H1' H1 → Q v H1
def lowT (t : TT') : TT := fun σ H Q => ∃ σ' H' Q', SR K B σ' H' σ H ∧ t σ' H' Q' ∧ ∀ b H1' H1, Q' b H1' → SR K B σ' H1' σ H1 → Ev H' H H1' H1 → Q b H1
def lowA (t : TA') : TA := fun σ H Q => ∃ σ' H' Q', SR K B σ' H' σ H ∧ t σ' H' Q' ∧ ∀ vs' H1' vs H1, Q' vs' H1' → RPs K H1 vs' vs → SR K B σ' H1' σ H1 → Ev H' H H1' H1 → Q vs H1
structure DR (D' : Ends') (D : Ends) (H' : PHp) (H : Hp) : Prop where
  nx : ∀ σ1' H1' σ1 H1, D'.nx σ1' H1' → SR K B σ1' H1' σ1 H1 → Ev H' H H1' H1 → D.nx σ1 H1
  rt : ∀ v' H1' v H1, D'.rt v' H1' → RP K H1 v' v → HR K H1' H1 → Ev H' H H1' H1 → D.rt v H1
  bk : ∀ σ1' H1' σ1 H1, D'.bk σ1' H1' → SR K B σ1' H1' σ1 H1 → Ev H' H H1' H1 → D.bk σ1 H1
  ct : ∀ σ1' H1' σ1 H1, D'.ct σ1' H1' → SR K B σ1' H1' σ1 H1 → Ev H' H H1' H1 → D.ct σ1 H1
theorem DR.ev {D' : Ends'} {D : Ends} {H' : PHp} {H : Hp} {H1' : PHp} {H1 : Hp} (d : DR K B D' D H' H) (e : Ev H' H H1' H1) : DR K B D' D H1' H1 :=
  ⟨fun a b c f p q r => d.nx a b c f p q (e.trans r), fun a b c f p q r s => d.rt a b c f p q r (e.trans s), fun a b c f p q r => d.bk a b c f p q (e.trans r), fun a b c f p q r => d.ct a b c f p q (e.trans r)⟩
def lowS (t : TS') : TS := fun D σ H => ∃ σ' H' D', SR K B σ' H' σ H ∧ t D' σ' H' ∧ DR K B D' D H' H
def lowG (t : TG') : TG := fun v σ H Q => ∃ v' σ' H' Q', RP K H v' v ∧ SR K B σ' H' σ H ∧ t v' σ' H' Q' ∧ ∀ σ1' H1' σ1 H1, Q' σ1' H1' → SR K B σ1' H1' σ1 H1 → Ev H' H H1' H1 → Q σ1 H1
def lowGs (t : TGs') : TGs := fun vs σ H Q => ∃ vs' σ' H' Q', RPs K H vs' vs ∧ SR K B σ' H' σ H ∧ t vs' σ' H' Q' ∧ ∀ σ1' H1' σ1 H1, Q' σ1' H1' → SR K B σ1' H1' σ1 H1 → Ev H' H H1' H1 → Q σ1 H1
structure Walks (H1 : Hp) (J : It) (J' : It') : Prop where
  go : ∀ H' H i, Kp H1 H → HR K H' H → J'.ok H' → i < J'.items.length → J.go i H
  yld : ∀ H' H i x H2, Kp H1 H → HR K H' H → J'.ok H' → J.yld i H x H2 → H2 = H ∧ ∀ x', J'.items[i]? = some x' → RP K H x' x
  stop : ∀ H' H i, Kp H1 H → HR K H' H → J'.ok H' → J'.items.length ≤ i → J.stop i H
def lowI (t : TI') : TI := fun σ H R => ∃ σ' H' R', SR K B σ' H' σ H ∧ t σ' H' R' ∧ ∀ J' H1' J H1, R' J' H1' → Walks K H1 J J' → SR K B σ' H1' σ H1 → Ev H' H H1' H1 → R J H1
end
section
variable {X : Cx}
theorem pe_imp {e : Expr} {t1 t2 : TE} (h : PE X e t2) (i : ∀ σ H Q, t1 σ H Q → t2 σ H Q) : PE X e t1 := fun pins s σ H Q I q => h pins s σ H Q I (i σ H Q q)
theorem pt_imp {e : Expr} {t1 t2 : TT} (h : PT X e t2) (i : ∀ σ H Q, t1 σ H Q → t2 σ H Q) : PT X e t1 := fun pins s σ H Q I q => h pins s σ H Q I (i σ H Q q)
theorem pw_imp {e : Expr} {t1 t2 : TT} (h : PW X e t2) (i : ∀ σ H Q, t1 σ H Q → t2 σ H Q) : PW X e t1 := fun w pins s σ H Q I q => h w pins s σ H Q I (i σ H Q q)
theorem pa_imp {e : List Expr} {t1 t2 : TA} (h : PA X e t2) (i : ∀ σ H Q, t1 σ H Q → t2 σ H Q) : PA X e t1 := fun p pins s σ H Q I q => h p pins s σ H Q I (i σ H Q q)
theorem ps_imp {e : Stmt} {t1 t2 : TS} (h : PS X e t2) (i : ∀ D σ H, t1 D σ H → t2 D σ H) : PS X e t1 := fun pins s σ H D I q => h pins s σ H D I (i D σ H q)
theorem pss_imp {e : List Stmt} {t1 t2 : TS} (h : PSs X e t2) (i : ∀ D σ H, t1 D σ H → t2 D σ H) : PSs X e t1 := fun pins s σ H D I q => h pins s σ H D I (i D σ H q)
theorem pg_imp {e : Expr} {t1 t2 : TG} (h : PG X e t2) (i : ∀ v σ H Q, t1 v σ H Q → t2 v σ H Q) : PG X e t1 := fun pins s σ H v u Q I r q => h pins s σ H v u Q I r (i v σ H Q q)
theorem pgs_imp {e : List Expr} {t1 t2 : TGs} (h : PGs X e t2) (i : ∀ v σ H Q, t1 v σ H Q → t2 v σ H Q) : PGs X e t1 := fun pins s σ H v u Q I r q => h pins s σ H v u Q I r (i v σ H Q q)
theorem pi_imp {tg e : Expr} {t1 t2 : TI} (h : PI X tg e t2) (i : ∀ σ H Q, t1 σ H Q → t2 σ H Q) : PI X tg e t1 := fun pins s σ H Q I q => h pins s σ H Q I (i σ H Q q)
abbrev PE' (X : Cx) (B : Bs) (e : Expr) (t : TE') : Prop := PE X e (low X.K B t)
abbrev PT' (X : Cx) (B : Bs) (e : Expr) (t : TT') : Prop := PT X e (lowT X.K B t)
abbrev PW' (X : Cx) (B : Bs) (e : Expr) (t : TT') : Prop := PW X e (lowT X.K B t)
abbrev PA' (X : Cx) (B : Bs) (e : List Expr) (t : TA') : Prop := PA X e (lowA X.K B t)
abbrev PS' (X : Cx) (B : Bs) (e : Stmt) (t : TS') : Prop := PS X e (lowS X.K B t)
abbrev PSs' (X : Cx) (B : Bs) (e : List Stmt) (t : TS') : Prop := PSs X e (lowS X.K B t)
abbrev PG' (X : Cx) (B : Bs) (e : Expr) (t : TG') : Prop := PG X e (lowG X.K B t)
abbrev PGs' (X : Cx) (B : Bs) (e : List Expr) (t : TGs') : Prop := PGs X e (lowGs X.K B t)
abbrev PI' (X : Cx) (B : Bs) (tg e : Expr) (t : TI') : Prop := PI X tg e (lowI X.K B t)
def withV (o : Option (Option PV)) (k : PV → Prop) : Prop := match o with
  | some (some v) => k v
  | _ => False
theorem withV.ex {o : Option (Option PV)} {k : PV → Prop} (h : withV o k) : ∃ v, o = some (some v) ∧ k v := by
  unfold withV at h; split at h
  · exact ⟨_, rfl, h⟩
  · exact h.elim
def uVar (i : Nat) : TE' := fun σ H Q => withV σ[i]? fun v => Q v H
def uC (v : PV) : TE' := fun _ H Q => Q v H
theorem qv (i : Nat) {x : Str} {pos : Pos} (hN : X.N[i]? = some x := by rfl) (hv : Vis X.env.scope x := by first | exact Or.inl rfl | exact Or.inr (Or.inl rfl) | exact Or.inr (Or.inr rfl)) (hd : (x == ("__debug__" : Str)) = false := by decide)
    (hcd : (x == ("__classdict__" : Str)) = false := by decide) : PE' X B (.Name x pos) (uVar i) := pe_imp (pv i hN hv hd hcd) fun σ H Q ⟨σ', H', Q', s, h, k⟩ => by
  obtain ⟨v', e, q⟩ := h.ex
  obtain ⟨v, a, b⟩ := s.loc i v' e
  exact ⟨v, a, k v' H' v H q b s (Ev.refl _ _)⟩
theorem lowC {K : PySem.W.Frag} {v' : PV} {v : V} (r : ∀ H, RP K H v' v) {σ : L2.St} {H : Hp} {Q : VK} (h : low K B (uC v') σ H Q) : tC v σ H Q := by
  obtain ⟨σ', H', Q', s, h, k⟩ := h
  exact k v' H' v H h (r H) s (Ev.refl _ _)
theorem qe_int {i j pos} : PE' X B (.Constant (.int i) j pos) (uC (.int i)) := pe_imp pe_int fun _ _ _ h => lowC (fun _ => by simp [RP]) h
theorem qe_bl {i j pos} : PE' X B (.Constant (.bool i) j pos) (uC (.bl i)) := pe_imp pe_bl fun _ _ _ h => lowC (fun _ => by simp [RP]) h
theorem qe_non {j pos} : PE' X B (.Constant .none j pos) (uC .non) := pe_imp pe_non fun _ _ _ h => lowC (fun _ => by simp [RP]) h
theorem qe_glob {x : Str} {v' : PV} {v : V} {u : Value} {pos : Pos} (hg : Gl X x) (hm : X.mg x = some u) (r : RelV v u) (r' : ∀ H, RP X.K H v' v) (hd : (x == ("__debug__" : Str)) = false := by decide) : PE' X B (.Name x pos) (uC v') :=
  pe_imp (pe_glob hg hm r hd) fun _ _ _ h => lowC r' h
abbrev R2' := PV → PV → PHp → VK' → Prop
def VR (K : PySem.W.Frag) (B : Bs) (r' : R2') (r : R2) : Prop := ∀ (σ' : St') (σ : L2.St) (H' : PHp) (H : Hp) x' y' x y (Q' : VK') (Q : VK), SR K B σ' H' σ H → RP K H x' x → RP K H y' y → r' x' y' H' Q' →
  (∀ v' H1' v H1, Q' v' H1' → RP K H1 v' v → SR K B σ' H1' σ H1 → Ev H' H H1' H1 → Q v H1) → r x y H Q
def uOp (r : R2') (ta tb : TE') : TE' := fun σ H Q => ta σ H fun x H1 => tb σ H1 fun y H2 => r x y H2 Q
theorem low_op {K : PySem.W.Frag} {r' : R2'} {r : R2} {ta tb : TE'} (v : VR K B r' r) {σ : L2.St} {H : Hp} {Q : VK} (h : low K B (uOp r' ta tb) σ H Q) : tOp r (low K B ta) (low K B tb) σ H Q := by
  obtain ⟨σ', H', Q', s, h, k⟩ := h
  refine ⟨σ', H', _, s, h, fun x' H1' x H1 h1 rx s1 e1 => ⟨σ', H1', _, s1, h1, fun y' H2' y H2 h2 ry s2 e2 => ?_⟩⟩
  exact v σ' σ H2' H2 x' y' x y Q' Q s2 (RP.kp K (e2.kp s1.hp) rx) ry h2 fun v' H3' v H3 q rv s3 e3 => k v' H3' v H3 q rv s3 (e1.trans (e2.trans e3))
variable {a b c : Expr} {ta tb tc : TE'} {pos : Pos}
theorem qe_op {op : Operator} {r' : R2'} {r : R2} (ho : OpR X (binaryOp op) r) (v : VR X.K B r' r) (ha : PE' X B a ta) (hb : PE' X B b tb) : PE' X B (.BinOp a op b pos) (uOp r' ta tb) := pe_imp (pe_op ho ha hb) fun _ _ _ h => low_op v h
theorem qe_cmp {op : CmpOp} {r' : R2'} {r : R2} (ho : OpR X (compareOp op) r) (v : VR X.K B r' r) (ha : PE' X B a ta) (hb : PE' X B b tb) (hm : behindInMarks op b = false) : PE' X B (.Compare a [op] [b] pos) (uOp r' ta tb) :=
  pe_imp (pe_cmpR ho ha hb hm) fun _ _ _ h => low_op v h
def cif (b : Bool) (A B : Prop) : Prop := match b with
  | true => A
  | false => B
theorem cif_t {A B : Prop} : cif true A B = A := rfl
theorem cif_f {A B : Prop} : cif false A B = B := rfl
theorem cif_by {b : Bool} {A B : Prop} (h1 : b = true → A) (h2 : b = false → B) : cif b A B := by
  cases b
  · exact h2 rfl
  · exact h1 rfl
theorem cif_pos {b : Bool} {A B : Prop} (h : b = true) (h1 : A) : cif b A B := by subst h; exact h1
theorem cif_neg {b : Bool} {A B : Prop} (h : b = false) (h1 : B) : cif b A B := by subst h; exact h1
def withB (x : PV) (k : Bool → Prop) : Prop := match x with
  | .bl b => k b
  | _ => False
theorem withB.ex {x : PV} {k : Bool → Prop} (h : withB x k) : ∃ v, x = .bl v ∧ k v := by
  unfold withB at h; split at h
  · exact ⟨_, rfl, h⟩
  · exact h.elim
def withI (x : PV) (k : Int → Prop) : Prop := match x with
  | .int i => k i
  | _ => False
theorem withI.ex {x : PV} {k : Int → Prop} (h : withI x k) : ∃ v, x = .int v ∧ k v := by
  unfold withI at h; split at h
  · exact ⟨_, rfl, h⟩
  · exact h.elim
def uTest (t : TE') : TT' := fun σ H Q => t σ H fun x H1 => withB x fun b => Q b H1
theorem low_test {K : PySem.W.Frag} {t : TE'} {σ : L2.St} {H : Hp} {Q : Bool → Hp → Prop} (h : lowT K B (uTest t) σ H Q) : tTest (low K B t) σ H Q := by
  obtain ⟨σ', H', Q', s, h, k⟩ := h
  refine ⟨σ', H', _, s, h, fun x' H1' x H1 h1 rx s1 e1 => ?_⟩
  obtain ⟨b, rfl, q⟩ := h1.ex
  simp only [RP] at rx
  exact ⟨b, rx, k b H1' H1 q s1 e1⟩
theorem qt_val {e : Expr} {t : TE'} (h : PE' X B e t) (he : ∀ whole, isTrue e X.env whole = (do let v ← whole; standAt e.pos; holding [v] (truthy v)) := by intro _; rfl) : PT' X B e (uTest t) := pt_imp (pt_val h he) fun _ _ _ h => low_test h
theorem qt_cmp {op : CmpOp} {r' : R2'} {r : R2} (ho : OpR X (compareOp op) r) (v : VR X.K B r' r) (ha : PE' X B a ta) (hb : PE' X B b tb) (hm : behindInMarks op b = false) : PT' X B (.Compare a [op] [b] pos) (uTest (uOp r' ta tb)) :=
  pt_imp (pt_cmpR ho ha hb hm) fun _ _ _ h => by
    obtain ⟨σ', H', Q', s, h, k⟩ := low_test h
    exact low_op v ⟨σ', H', Q', s, h, k⟩
def uChain (r r' : R2') (ta tb tc : TE') : TE' := fun σ H Q => ta σ H fun x H1 => tb σ H1 fun y H2 => r x y H2 fun z H3 => withB z fun k => cif k (tc σ H3 fun w' H4 => r' y w' H4 Q) (Q (.bl false) H3)
theorem low_chain {K : PySem.W.Frag} {r1' r2' : R2'} {r1 r2 : R2} {ta tb tc : TE'} (v1 : VR K B r1' r1) (v2 : VR K B r2' r2) {σ : L2.St} {H : Hp} {Q : VK} (h : low K B (uChain r1' r2' ta tb tc) σ H Q) : tChain r1 r2 (low K B ta) (low K B tb) (low K B tc) σ H Q := by
  obtain ⟨σ', H', Q', s, h, k⟩ := h
  refine ⟨σ', H', _, s, h, fun x' H1' x H1 h1 rx s1 e1 => ⟨σ', H1', _, s1, h1, fun y' H2' y H2 h2 ry s2 e2 => ?_⟩⟩
  refine v1 σ' σ H2' H2 x' y' x y _ _ s2 (RP.kp K (e2.kp s1.hp) rx) ry h2 fun z' H3' z H3 q rz s3 e3 => ?_
  obtain ⟨b, rfl, q⟩ := q.ex
  simp only [RP] at rz
  refine ⟨b, rz, ?_⟩
  cases b with
  | false =>
    have q' : Q' (.bl false) H3' := q
    exact iteF (k _ H3' _ H3 q' (by simp [RP]) s3 (e1.trans (e2.trans e3)))
  | true =>
    have q' : tc σ' H3' fun w' H4 => r2' y' w' H4 Q' := q
    refine iteT ⟨σ', H3', _, s3, q', fun w' H4' w H4 h4 rw4 s4 e4 => ?_⟩
    exact v2 σ' σ H4' H4 y' w' y w Q' Q s4 (RP.kp K (e4.kp s3.hp) (RP.kp K (e3.kp s2.hp) ry)) rw4 h4 fun v' H5' v H5 q5 rv s5 e5 => k v' H5' v H5 q5 rv s5 (e1.trans (e2.trans (e3.trans (e4.trans e5))))
theorem qe_chain {op op' : CmpOp} {r1' r2' : R2'} {r1 r2 : R2} (ho : OpR X (compareOp op) r1) (v1 : VR X.K B r1' r1) (ho' : OpR X (compareOp op') r2) (v2 : VR X.K B r2' r2) (ha : PE' X B a ta) (hb : PE' X B b tb) (hc : PE' X B c tc)
    (hm : lastMarks [op, op'] [b, c] = false := by with_unfolding_all rfl) : PE' X B (.Compare a [op, op'] [b, c] pos) (uChain r1' r2' ta tb tc) := pe_imp (pe_chain ho ho' ha hb hc hm) fun _ _ _ h => low_chain v1 v2 h
def uI (C : Int → Int → Prop) (g : Int → Int → PV) : R2' := fun x y H Q => withI x fun i => withI y fun j => C i j ∧ Q (g i j) H
def uI0 (g : Int → Int → PV) : R2' := fun x y H Q => withI x fun i => withI y fun j => Q (g i j) H
theorem vr_I {K : PySem.W.Frag} {C : Int → Int → Prop} {g' : Int → Int → PV} {g : Int → Int → V} (r : ∀ i j H, RP K H (g' i j) (g i j)) : VR K B (uI C g') (rI C g) := by
  intro σ' σ H' H x' y' x y Q' Q s rx ry h k
  obtain ⟨i, rfl, h1⟩ := withI.ex h
  obtain ⟨j, rfl, hc, h⟩ := withI.ex h1
  simp only [RP] at rx ry
  exact ⟨i, j, rx, ry, hc, k _ H' _ H h (r i j H) s (Ev.refl _ _)⟩
theorem vr_I0 {K : PySem.W.Frag} {g' : Int → Int → PV} {g : Int → Int → V} (r : ∀ i j H, RP K H (g' i j) (g i j)) : VR K B (uI0 g') (rI0 g) := by
  intro σ' σ H' H x' y' x y Q' Q s rx ry h k
  obtain ⟨i, rfl, h1⟩ := withI.ex h
  obtain ⟨j, rfl, h⟩ := withI.ex h1
  simp only [RP] at rx ry
  exact ⟨i, j, rx, ry, k _ H' _ H h (r i j H) s (Ev.refl _ _)⟩
abbrev uAdd : R2' := uI0 fun i j => .int (i + j)
abbrev uSub : R2' := uI0 fun i j => .int (i - j)
abbrev uLt : R2' := uI0 fun i j => .bl (decide (i < j))
abbrev uLe : R2' := uI0 fun i j => .bl (decide (i ≤ j))
abbrev uGt : R2' := uI0 fun i j => .bl (decide (j < i))
abbrev uGe : R2' := uI0 fun i j => .bl (decide (j ≤ i))
def Fit (i : Int) : Prop := i.natAbs.log2 < 9000
def CMulN (i j : Int) : Prop := CMul i j ∨ (Fit i ∧ Fit j)
def CDivB (i j : Int) : Prop := j ≠ 0 ∧ Fit j
theorem CMulN.ok {i j : Int} (h : CMulN i j) : IntMulOk i j := by
  rcases h with h | ⟨h1, h2⟩
  · exact h.ok
  · unfold IntMulOk
    have e : ∀ x : Int, Fit x → Builtin.Int.intBits x ≤ 9000 := fun x hx => by
      unfold Builtin.Int.intBits Fit at *
      split <;> omega
    have e1 := e i h1
    have e2 := e j h2
    have e3 : Builtin.Int.intTooBig (Builtin.Int.intBits i + Builtin.Int.intBits j) = false := by
      unfold Builtin.Int.intTooBig
      refine decide_eq_false ?_
      show ¬ (bitsLine : Int) < _
      have hb : (18000 : Nat) ≤ bitsLine := by decide +kernel
      omega
    rw [e3]
    simp
abbrev uMul : R2' := uI CMulN fun i j => .int (i * j)
abbrev uFdiv : R2' := uI CDivB fun i j => .int (i.fdiv j)
theorem op_mulB {X : Cx} : OpR X (binaryOp .Mult) (rI CMulN fun i j => .int (i * j)) := opI fun _ _ _ _ _ _ _ hc q => mul_int q hc.ok
theorem op_fdivB {X : Cx} : OpR X (binaryOp .FloorDiv) (rI CDivB fun i j => .int (i.fdiv j)) := opI fun _ _ _ _ _ _ _ hc q => floordiv_int hc.1 q (.inl (PyProof.noPylong_of_log2 hc.2))
abbrev uMod : R2' := uI (fun _ j => j ≠ 0) fun i j => .int (i.fmod j)
theorem qe_add (ha : PE' X B a ta) (hb : PE' X B b tb) : PE' X B (.BinOp a .Add b pos) (uOp uAdd ta tb) := qe_op op_add (vr_I0 fun _ _ _ => by simp [RP]) ha hb
theorem qe_sub (ha : PE' X B a ta) (hb : PE' X B b tb) : PE' X B (.BinOp a .Sub b pos) (uOp uSub ta tb) := qe_op op_sub (vr_I0 fun _ _ _ => by simp [RP]) ha hb
theorem qe_mul (ha : PE' X B a ta) (hb : PE' X B b tb) : PE' X B (.BinOp a .Mult b pos) (uOp uMul ta tb) := qe_op op_mulB (vr_I fun _ _ _ => by simp [RP]) ha hb
theorem qe_fdiv (ha : PE' X B a ta) (hb : PE' X B b tb) : PE' X B (.BinOp a .FloorDiv b pos) (uOp uFdiv ta tb) := qe_op op_fdivB (vr_I fun _ _ _ => by simp [RP]) ha hb
theorem qe_mod (ha : PE' X B a ta) (hb : PE' X B b tb) : PE' X B (.BinOp a .Mod b pos) (uOp uMod ta tb) := qe_op op_modN (vr_I fun _ _ _ => by simp [RP]) ha hb
theorem vr_lt {K : PySem.W.Frag} : VR K B uLt (rI0 fun i j => .bl (decide (i < j))) := vr_I0 fun _ _ _ => by simp [RP]
theorem vr_le {K : PySem.W.Frag} : VR K B uLe (rI0 fun i j => .bl (decide (i ≤ j))) := vr_I0 fun _ _ _ => by simp [RP]
theorem vr_gt {K : PySem.W.Frag} : VR K B uGt (rI0 fun i j => .bl (decide (j < i))) := vr_I0 fun _ _ _ => by simp [RP]
theorem vr_ge {K : PySem.W.Frag} : VR K B uGe (rI0 fun i j => .bl (decide (j ≤ i))) := vr_I0 fun _ _ _ => by simp [RP]
end
end U


set_option linter.all false
set_option maxRecDepth 100000
set_option maxHeartbeats 4000000
namespace U
open PySem PySem.Spec PyProof.Rows L2
variable {B : Bs}
section
variable {X : Cx} {a b c e o : Expr} {es rest : List Expr} {ta tb tc : TE'} {tA tB : TT'} {t : TA'} {pos : Pos}
def uAnd (t u : TT') : TT' := fun σ H Q => t σ H fun c H1 => cif c (u σ H1 Q) (Q false H1)
def uOr (t u : TT') : TT' := fun σ H Q => t σ H fun c H1 => cif c (Q true H1) (u σ H1 Q)
def uNot (t : TT') : TT' := fun σ H Q => t σ H fun c H1 => Q (!c) H1
theorem qw_and1 (ha : PT' X B a tA) : PW' X B (.BoolOp .And [a] pos) tA := pw_and1 ha
theorem qw_or1 (ha : PT' X B a tA) : PW' X B (.BoolOp .Or [a] pos) tA := pw_or1 ha
theorem qw_and (ha : PT' X B a tA) (hb : PW' X B (.BoolOp .And (b :: rest) pos) tB) : PW' X B (.BoolOp .And (a :: b :: rest) pos) (uAnd tA tB) := pw_imp (pw_and ha hb) fun σ H Q ⟨σ', H', Q', s, h, k⟩ => by
  refine ⟨σ', H', _, s, h, fun x H1' H1 h1 s1 e1 => ?_⟩
  cases x with
  | true => exact iteT ⟨σ', H1', _, s1, h1, fun y H2' H2 h2 s2 e2 => k y H2' H2 h2 s2 (e1.trans e2)⟩
  | false => exact iteF (k false H1' H1 h1 s1 e1)
theorem qw_or (ha : PT' X B a tA) (hb : PW' X B (.BoolOp .Or (b :: rest) pos) tB) : PW' X B (.BoolOp .Or (a :: b :: rest) pos) (uOr tA tB) := pw_imp (pw_or ha hb) fun σ H Q ⟨σ', H', Q', s, h, k⟩ => by
  refine ⟨σ', H', _, s, h, fun x H1' H1 h1 s1 e1 => ?_⟩
  cases x with
  | false => exact iteF ⟨σ', H1', _, s1, h1, fun y H2' H2 h2 s2 e2 => k y H2' H2 h2 s2 (e1.trans e2)⟩
  | true => exact iteT (k true H1' H1 h1 s1 e1)
theorem qt_bool (h : PW' X B e tA) : PT' X B e tA := PW.pt h
theorem qt_not (ha : PT' X B a tA) : PT' X B (.UnaryOp .Not a pos) (uNot tA) := pt_imp (pt_not ha) fun σ H Q ⟨σ', H', Q', s, h, k⟩ => ⟨σ', H', _, s, h, fun x H1' H1 h1 s1 e1 => k _ H1' H1 h1 s1 e1⟩
def uAndV (ta tb : TE') : TE' := fun σ H Q => ta σ H fun x H1 => withB x fun c => cif c (tb σ H1 Q) (Q (.bl false) H1)
def uOrV (ta tb : TE') : TE' := fun σ H Q => ta σ H fun x H1 => withB x fun c => cif c (Q (.bl true) H1) (tb σ H1 Q)
def uNotV (ta : TE') : TE' := fun σ H Q => ta σ H fun x H1 => withB x fun c => Q (.bl (!c)) H1
theorem qe_one {op} (h : PE' X B a ta) : PE' X B (.BoolOp op [a] pos) ta := pe_one h
theorem qe_and (ha : PE' X B a ta) (hb : PE' X B (.BoolOp .And (b :: rest) pos) tb) : PE' X B (.BoolOp .And (a :: b :: rest) pos) (uAndV ta tb) := pe_imp (pe_and ha hb) fun σ H Q ⟨σ', H', Q', s, h, k⟩ => by
  refine ⟨σ', H', _, s, h, fun x H1' v H1 h1 r1 s1 e1 => ?_⟩
  obtain ⟨y, rfl, h1⟩ := h1.ex
  simp only [RP] at r1
  refine ⟨y, r1, ?_⟩
  cases y with
  | true => exact iteT ⟨σ', H1', _, s1, h1, fun y H2' v2 H2 h2 r2 s2 e2 => k y H2' v2 H2 h2 r2 s2 (e1.trans e2)⟩
  | false => exact iteF (k _ H1' _ H1 h1 (by simp [RP]) s1 e1)
theorem qe_not (ha : PE' X B a ta) : PE' X B (.UnaryOp .Not a pos) (uNotV ta) := pe_imp (pe_not ha) fun σ H Q ⟨σ', H', Q', s, h, k⟩ => by
  refine ⟨σ', H', _, s, h, fun x H1' v H1 h1 r1 s1 e1 => ?_⟩
  obtain ⟨y, rfl, h1⟩ := h1.ex
  simp only [RP] at r1
  exact ⟨y, r1, k _ H1' _ H1 h1 (by simp [RP]) s1 e1⟩
def uIf (t : TT') (ta tb : TE') : TE' := fun σ H Q => t σ H fun c H1 => cif c (ta σ H1 Q) (tb σ H1 Q)
def uUn (r : PV → PHp → VK' → Prop) (ta : TE') : TE' := fun σ H Q => ta σ H fun x H1 => r x H1 Q
theorem qe_neg (ha : PE' X B a ta) : PE' X B (.UnaryOp .USub a pos) (uUn (fun x H Q => withI x fun i => Q (.int (-i)) H) ta) := pe_imp (pe_un un_neg ha) fun σ H Q ⟨σ', H', Q', s, h, k⟩ => by
  refine ⟨σ', H', _, s, h, fun x H1' v H1 h1 r1 s1 e1 => ?_⟩
  obtain ⟨i, rfl, h1⟩ := withI.ex h1
  simp only [RP] at r1
  exact ⟨i, r1, k _ H1' _ H1 h1 (by simp [RP]) s1 e1⟩
def uNil : TA' := fun _ H Q => Q [] H
def uCons (ta : TE') (tr : TA') : TA' := fun σ H Q => ta σ H fun x H1 => tr σ H1 fun xs H2 => Q (x :: xs) H2
theorem qa_nil : PA' X B [] uNil := pa_imp pa_nil fun σ H Q ⟨σ', H', Q', s, h, k⟩ => k [] H' [] H h (RPs.nil _) s (Ev.refl _ _)
theorem qa_cons (ha : PE' X B e ta) (hr : PA' X B es t) (hs : starEach (e :: es) X.env = (false, eval e X.env) :: starEach es X.env := by rfl) : PA' X B (e :: es) (uCons ta t) := pa_imp (pa_cons ha hr hs) fun σ H Q ⟨σ', H', Q', s, h, k⟩ => by
  refine ⟨σ', H', _, s, h, fun x H1' v H1 h1 r1 s1 e1 => ⟨σ', H1', _, s1, h1, fun xs H2' vs H2 h2 r2 s2 e2 => ?_⟩⟩
  exact k _ H2' _ H2 h2 (RPs.cons _ (RP.kp _ (e2.kp s1.hp) r1) r2) s2 (e1.trans e2)
def uTup (t : TA') : TE' := fun σ H Q => t σ H fun xs H1 => xs.length ≤ sizeLine ∧ Q (.tup xs) H1
def uLst (t : TA') : TE' := fun σ H Q => t σ H fun xs H1 => xs.length ≤ sizeLine ∧ ∀ p, H1 p = none → Q (.ref p) (put H1 p (.lst xs))
theorem SR.hid {K : PySem.W.Frag} {σ' : St'} {σ : L2.St} {H' : PHp} {H : Hp} {p : Addr} {o : HO} (s : SR K B σ' H' σ H) (n : H p = none) : SR K B σ' H' σ (upd H p o) := s.kp (Ev.hid n) (s.hp.hid n)
theorem SR.new {K : PySem.W.Frag} {σ' : St'} {σ : L2.St} {H' : PHp} {H : Hp} {p : Addr} {o : HO} {o' : PO} (s : SR K B σ' H' σ H) (n : H p = none) (w : OAt K (upd H p o) p o') : SR K B σ' (put H' p o') σ (upd H p o) := s.kp (Ev.new n) (s.hp.new n w)
theorem SR.wr {K : PySem.W.Frag} {σ' : St'} {σ : L2.St} {H' : PHp} {H : Hp} {p : Addr} {o : HO} {o' u' : PO} (s : SR K B σ' H' σ H) (n : H' p = some u') (w : OAt K (upd H p o) p o') : SR K B σ' (put H' p o') σ (upd H p o) := s.kp (Ev.wr n) (s.hp.wr n w)
theorem newT {K : PySem.W.Frag} {H : Hp} {p : Addr} {xs : List PV} {us : List V} (n : H p = none) (r : RPs K H xs us) : RP K (upd H p (.tup us)) (.tup xs) (.ref p) := by
  simp only [RP]
  exact ⟨p, us, rfl, SqT.of upd_same, RPs.kp K (kp_fresh n) r⟩
theorem newL {K : PySem.W.Frag} {H : Hp} {p : Addr} {xs : List PV} {us : List V} (n : H p = none) (r : RPs K H xs us) : OAt K (upd H p (.lst us)) p (.lst xs) := ⟨us, upd_same, RPs.kp K (kp_fresh n) r⟩
theorem wrL {K : PySem.W.Frag} {H' : PHp} {H : Hp} {p : Addr} {u' : PO} {xs : List PV} {us : List V} (h : HR K H' H) (n : H' p = some u') (r : RPs K H xs us) : OAt K (upd H p (.lst us)) p (.lst xs) := ⟨us, upd_same, RPs.kp K (h.kpw n) r⟩
theorem qe_tup {x1} (h : PA' X B es t) : PE' X B (.Tuple es x1 pos) (uTup t) := pe_imp (pe_tup h) fun σ H Q ⟨σ', H', Q', s, h, k⟩ => by
  refine ⟨σ', H', _, s, h, fun xs H1' us H1 h1 r1 s1 e1 => ⟨by rw [RPs.length _ r1]; exact h1.1, fun p n => ?_⟩⟩
  exact k _ H1' _ _ h1.2 (newT n r1) (s1.hid n) (e1.trans (Ev.hid n))
theorem qe_lst (h : PA' X B es t) : PE' X B (.List es pos) (uLst t) := pe_imp (pe_lst h) fun σ H Q ⟨σ', H', Q', s, h, k⟩ => by
  refine ⟨σ', H', _, s, h, fun xs H1' us H1 h1 r1 s1 e1 => ⟨by rw [RPs.length _ r1]; exact h1.1, fun p n => ?_⟩⟩
  exact k _ _ _ _ (h1.2 p (s1.hp.free n)) (by simp [RP]) (s1.new n (newL n r1)) (e1.trans (Ev.new n))
def withS (x : PV) (H : PHp) (k : List PV → Prop) : Prop := match x with
  | .tup l => k l
  | .fls l => k l
  | .ref a => ∃ l, H a = some (.lst l) ∧ k l
  | _ => False
theorem withS.ex {K : PySem.W.Frag} {σ' : St'} {σ : L2.St} {x : PV} {v : V} {H' : PHp} {H : Hp} {k : List PV → Prop} (h : withS x H' k) (s : SR K B σ' H' σ H) (r : RP K H x v) : ∃ l us p, v = .ref p ∧ RPs K H l us ∧ (SqL K H p us ∨ SqT K H p us) ∧ k l := by
  unfold withS at h
  split at h
  · simp only [RP] at r; obtain ⟨a, us, e, q, r⟩ := r; exact ⟨_, us, a, e, r, .inr q, h⟩
  · simp only [RP] at r; obtain ⟨a, us, e, q, r⟩ := r; exact ⟨_, us, a, e, r, .inl q.sq, h⟩
  · simp only [RP] at r
    obtain ⟨l, e, h⟩ := h
    obtain ⟨us, q, r2⟩ := s.hp _ _ e
    exact ⟨l, us, _, r, r2, .inl (SqL.of q), h⟩
  · exact h.elim
theorem atI_ps {K : PySem.W.Frag} {H : Hp} {l : List PV} {us : List V} {i : Int} {x : PV} (r : RPs K H l us) (e : atI l i = some x) : ∃ u, atI us i = some u ∧ RP K H x u := by
  unfold atI at e ⊢
  rw [RPs.length _ r]
  cases q : ixN l.length i with
  | none => rw [q] at e; cases e
  | some j =>
    rw [q] at e
    obtain ⟨u, e1, e2⟩ := RPs.get _ r (show l[j]? = some x from e)
    exact ⟨u, e1, e2⟩
def withO (o : Option PV) (k : PV → Prop) : Prop := match o with
  | some v => k v
  | none => False
theorem withO.ex {o : Option PV} {k : PV → Prop} (h : withO o k) : ∃ v, o = some v ∧ k v := by
  unfold withO at h; split at h
  · exact ⟨_, rfl, h⟩
  · exact h.elim
def uIx : R2' := fun x y H Q => withS x H fun l => withI y fun i => withO (atI l i) fun v => Q v H
theorem ix_both {X : Cx} : IxR X (fun x y H Q => rIxL X.K x y H Q ∨ rIxT X.K x y H Q) := ix_list.or ix_tup
theorem vr_ix {K : PySem.W.Frag} : VR K B uIx (fun x y H Q => rIxL K x y H Q ∨ rIxT K x y H Q) := by
  intro σ' σ H' H x' y' x y Q' Q s rx ry h k
  obtain ⟨l, us, p, rfl, r, q, h1⟩ := withS.ex h s rx
  obtain ⟨i, rfl, h2⟩ := withI.ex h1
  obtain ⟨v, e, h3⟩ := withO.ex h2
  simp only [RP] at ry
  obtain ⟨u, e1, e2⟩ := atI_ps r e
  have := k v H' u H h3 e2 s (Ev.refl _ _)
  rcases q with q | q
  · exact .inl ⟨p, us, i, u, rfl, ry, q, e1, this⟩
  · exact .inr ⟨p, us, i, u, rfl, ry, q, e1, this⟩
theorem qe_ix (ha : PE' X B a ta) (hb : PE' X B b tb) (hs : PlainIx b) : PE' X B (.Subscript a b pos) (uOp uIx ta tb) := pe_imp (pe_ix ix_both ha hb hs) fun _ _ _ h => low_op vr_ix h
abbrev TO' := St' → PHp → (Option Int → PHp → Prop) → Prop
def uNoPart : TO' := fun _ H Q => Q none H
def uPart (t : TE') : TO' := fun σ H Q => t σ H fun x H1 => withI x fun i => Q (some i) H1
def cutP (xs : List PV) (lo hi : Option Int) : List PV := (xs.drop (HT.sIx xs.length 0 lo)).take (HT.sIx xs.length xs.length hi - HT.sIx xs.length 0 lo)
def sliceOf (x : PV) (lo hi : Option Int) (H3 : PHp) (Q : VK') : Prop := match x with
  | .fls l => ∀ p, H3 p = none → Q (.ref p) (put H3 p (.lst (cutP l lo hi)))
  | .ref a => ∃ l, H3 a = some (.lst l) ∧ ∀ p, H3 p = none → Q (.ref p) (put H3 p (.lst (cutP l lo hi)))
  | .tup l => ¬ (HT.sIx l.length 0 lo = 0 ∧ HT.sIx l.length l.length hi = l.length) ∧ Q (.tup (cutP l lo hi)) H3
  | _ => False
def uSlice (ta : TE') (tl th : TO') : TE' := fun σ H Q => ta σ H fun x H1 => tl σ H1 fun lo H2 => th σ H2 fun hi H3 => sliceOf x lo hi H3 Q
def VC (K : PySem.W.Frag) (B : Bs) (r' : List PV → PHp → VK' → Prop) (r : List V → Hp → VK → Prop) : Prop := ∀ (σ' : St') (σ : L2.St) (H' : PHp) (H : Hp) xs' xs (Q' : VK') (Q : VK), SR K B σ' H' σ H → RPs K H xs' xs → r' xs' H' Q' →
  (∀ v' H1' v H1, Q' v' H1' → RP K H1 v' v → SR K B σ' H1' σ H1 → Ev H' H H1' H1 → Q v H1) → r xs H Q
def uCB (r : List PV → PHp → VK' → Prop) (t : TA') : TE' := fun σ H Q => t σ H fun vs H1 => r vs H1 Q
theorem low_cb {K : PySem.W.Frag} {r' : List PV → PHp → VK' → Prop} {r : List V → Hp → VK → Prop} {t : TA'} (v : VC K B r' r) {σ : L2.St} {H : Hp} {Q : VK} (h : low K B (uCB r' t) σ H Q) : tCB r (lowA K B t) σ H Q := by
  obtain ⟨σ', H', Q', s, h, k⟩ := h
  exact ⟨σ', H', _, s, h, fun xs' H1' xs H1 h1 rx s1 e1 => v σ' σ H1' H1 xs' xs Q' Q s1 rx h1 fun v' H3' v H3 q rv s3 e3 => k v' H3' v H3 q rv s3 (e1.trans e3)⟩
variable {x : Str} {p : Pos}
theorem qe_callB {id : String} {r' : List PV → PHp → VK' → Prop} {r : List V → Hp → VK → Prop} (hc : CallR X (.builtin id) r) (v : VC X.K B r' r) (hg : Gl X x) (hm : X.mg x = none) (hv : bootBuiltins x = some (.builtin id)) (ha : PA' X B (e :: es) t)
    (hn : x ≠ "__name__" := by decide) (hdb : (x == ("__debug__" : Str)) = false := by decide) (he : starEach (e :: es) X.env = (false, eval e X.env) :: starEach es X.env := by rfl) (hpl : (backTo pos (starEach es X.env)).any (·.1) = false := by rfl) :
    PE' X B (.Call (.Name x p) (e :: es) [] pos) (uCB r' t) := pe_imp (pe_callB hc hg hm hv ha hn hdb he hpl) fun _ _ _ h => low_cb v h
theorem qe_callTy {id : String} {r' : List PV → PHp → VK' → Prop} {r : List V → Hp → VK → Prop} (hc : CallR X (.type id) r) (v : VC X.K B r' r) (hg : Gl X x) (hm : X.mg x = none) (hv : bootBuiltins x = some (.type id)) (ha : PA' X B (e :: es) t)
    (hn : x ≠ "__name__" := by decide) (hdb : (x == ("__debug__" : Str)) = false := by decide) (he : starEach (e :: es) X.env = (false, eval e X.env) :: starEach es X.env := by rfl) (hpl : (backTo pos (starEach es X.env)).any (·.1) = false := by rfl) :
    PE' X B (.Call (.Name x p) (e :: es) [] pos) (uCB r' t) := pe_imp (pe_callTy hc hg hm hv ha hn hdb he hpl) fun _ _ _ h => low_cb v h
def arg1 (f : PV → PHp → VK' → Prop) : List PV → PHp → VK' → Prop := fun xs H Q => match xs with
  | [x] => f x H Q
  | _ => False
theorem arg1.ex {K : PySem.W.Frag} {H : Hp} {f : PV → PHp → VK' → Prop} {xs' : List PV} {xs : List V} {H' : PHp} {Q' : VK'} (h : arg1 f xs' H' Q') (r : RPs K H xs' xs) : ∃ x' x, xs' = [x'] ∧ xs = [x] ∧ RP K H x' x ∧ f x' H' Q' := by
  unfold arg1 at h
  split at h
  · simp only [RPs] at r
    obtain ⟨u, r, rfl, q, rfl⟩ := r
    exact ⟨_, u, rfl, rfl, q, h⟩
  · exact h.elim
def uLen : List PV → PHp → VK' → Prop := arg1 fun x H Q => withS x H fun l => Q (.int l.length) H
theorem vc_len {K : PySem.W.Frag} : VC K B uLen (fun xs H Q => ∃ p ys, xs = [.ref p] ∧ (SqL K H p ys ∨ SqT K H p ys) ∧ Q (.int ys.length) H) := by
  intro σ' σ H' H xs' xs Q' Q s r h k
  obtain ⟨x', x, rfl, rfl, rx, h⟩ := arg1.ex h r
  obtain ⟨l, us, p, rfl, r, q, h⟩ := withS.ex h s rx
  exact ⟨p, us, rfl, q, k _ H' _ H h (by simp [RP, RPs.length _ r]) s (Ev.refl _ _)⟩
def uAbs : List PV → PHp → VK' → Prop := arg1 fun x H Q => withI x fun i => Q (.int (if i < 0 then -i else i)) H
theorem vc_abs {K : PySem.W.Frag} : VC K B uAbs (fun xs H Q => ∃ i, xs = [.int i] ∧ Q (.int (if i < 0 then -i else i)) H) := by
  intro σ' σ H' H xs' xs Q' Q s r h k
  obtain ⟨x', x, rfl, rfl, rx, h⟩ := arg1.ex h r
  obtain ⟨i, rfl, h⟩ := withI.ex h
  simp only [RP] at rx
  subst rx
  exact ⟨i, rfl, k _ H' _ H h (by simp [RP]) s (Ev.refl _ _)⟩
def b2n (b : Bool) : Int := if b then 1 else 0
def intOf (x : PV) (k : Int → Prop) : Prop := match x with
  | .int i => k i
  | .bl b => k (b2n b)
  | _ => False
def uInt : List PV → PHp → VK' → Prop := arg1 fun x H Q => intOf x fun i => Q (.int i) H
theorem vc_int {K : PySem.W.Frag} : VC K B uInt (fun xs H Q => (∃ i, xs = [.int i] ∧ Q (.int i) H) ∨ ∃ k, xs = [.bl k] ∧ Q (.int (if k then 1 else 0)) H) := by
  intro σ' σ H' H xs' xs Q' Q s r h k
  obtain ⟨x', x, rfl, rfl, rx, h⟩ := arg1.ex h r
  cases x' with
  | int i => simp only [RP] at rx; subst rx; exact .inl ⟨i, rfl, k _ H' _ H h (by simp [RP]) s (Ev.refl _ _)⟩
  | bl i => simp only [RP] at rx; subst rx; exact .inr ⟨i, rfl, k _ H' _ H h (by simp [RP, b2n]) s (Ev.refl _ _)⟩
  | _ => exact h.elim
def uList : List PV → PHp → VK' → Prop := arg1 fun x H Q => withS x H fun l => ∀ p, H p = none → Q (.ref p) (put H p (.lst l))
theorem vc_list {K : PySem.W.Frag} : VC K B uList (fun xs H Q => ∃ p ys, xs = [.ref p] ∧ (SqL K H p ys ∨ SqT K H p ys) ∧ ∀ l, H l = none → Q (.ref l) (upd H l (.lst ys))) := by
  intro σ' σ H' H xs' xs Q' Q s r h k
  obtain ⟨x', x, rfl, rfl, rx, h⟩ := arg1.ex h r
  obtain ⟨l, us, p, rfl, r, q, h⟩ := withS.ex h s rx
  exact ⟨p, us, rfl, q, fun p n => k _ _ _ _ (h p (s.hp.free n)) (by simp [RP]) (s.new n (newL n r)) (Ev.new n)⟩
def uTuple : List PV → PHp → VK' → Prop := arg1 fun x H Q => withS x H fun l => Q (.tup l) H
theorem vc_tuple {K : PySem.W.Frag} : VC K B uTuple (fun xs H Q => ∃ p ys, xs = [.ref p] ∧ ((SqL K H p ys ∧ ∀ l, H l = none → Q (.ref l) (upd H l (.tup ys))) ∨ (SqT K H p ys ∧ Q (.ref p) H))) := by
  intro σ' σ H' H xs' xs Q' Q s r h k
  obtain ⟨x', x, rfl, rfl, rx, h⟩ := arg1.ex h r
  obtain ⟨l, us, p, rfl, r, q, h⟩ := withS.ex h s rx
  refine ⟨p, us, rfl, ?_⟩
  rcases q with q | q
  · exact .inl ⟨q, fun p n => k _ _ _ _ h (newT n r) (s.hid n) (Ev.hid n)⟩
  · exact .inr ⟨q, k _ _ _ _ h (by simp only [RP]; exact ⟨p, us, rfl, q, r⟩) s (Ev.refl _ _)⟩
end
end U


set_option linter.all false
set_option maxRecDepth 100000
set_option maxHeartbeats 4000000
namespace U
open PySem PySem.Spec PyProof.Rows L2
variable {B : Bs}
section
variable {X : Cx} {a b c e o : Expr} {es : List Expr} {ta tb te : TE'} {tA tB : TT'} {st : Stmt} {sts : List Stmt} {t u : TS'} {pos : Pos}
def uNext : TS' := fun D σ H => D.nx σ H
def uSeq (t u : TS') : TS' := fun D σ H => t { D with nx := u D } σ H
theorem qss_nil : PSs' X B [] uNext := pss_imp pss_nil fun D σ H ⟨σ', H', D', s, h, d⟩ => d.nx _ _ _ _ h s (Ev.refl _ _)
theorem qss_cons (h1 : PS' X B st t) (h2 : PSs' X B sts u) : PSs' X B (st :: sts) (uSeq t u) := pss_imp (pss_cons h1 h2) fun D σ H ⟨σ', H', D', s, h, d⟩ =>
  ⟨σ', H', _, s, h, fun σ1' H1' σ1 H1 h1 s1 e1 => ⟨σ1', H1', D', s1, h1, d.ev _ _ e1⟩, d.rt, d.bk, d.ct⟩
theorem qss_one (h1 : PS' X B st t) : PSs' X B [st] t := pss_one h1
def uBreak : TS' := fun D σ H => D.bk σ H
def uCont : TS' := fun D σ H => D.ct σ H
def uDrop (te : TE') : TS' := fun D σ H => te σ H fun _ H1 => D.nx σ H1
theorem qs_expr (he : PE' X B e te) (hs : swapsWith e none pos.line X.env = pure false := by rfl) : PS' X B (.Expr e pos) (uDrop te) := ps_imp (ps_expr he hs) fun D σ H ⟨σ', H', D', s, h, d⟩ =>
  ⟨σ', H', _, s, h, fun v' H1' v H1 h1 r1 s1 e1 => d.nx _ _ _ _ h1 s1 e1⟩
def uRet (te : TE') : TS' := fun D σ H => te σ H D.rt
theorem qs_ret (he : PE' X B e te) : PS' X B (.Return (some e) pos) (uRet te) := ps_imp (ps_ret he) fun D σ H ⟨σ', H', D', s, h, d⟩ =>
  ⟨σ', H', _, s, h, fun v' H1' v H1 h1 r1 s1 e1 => d.rt _ _ _ _ h1 r1 s1.hp e1⟩
def uRetN : TS' := fun D _ H => D.rt .non H
def uIfS (c : TT') (t u : TS') : TS' := fun D σ H => c σ H fun b H1 => cif b (t D σ H1) (u D σ H1)
theorem qs_if {l1 l2 : List Stmt} (hc : PT' X B c tA) (ha : PSs' X B l1 t) (hb : PSs' X B l2 u) : PS' X B (.If c l1 l2 pos) (uIfS tA t u) := ps_imp (ps_if hc ha hb) fun D σ H ⟨σ', H', D', s, h, d⟩ => by
  refine ⟨σ', H', _, s, h, fun x H1' H1 h1 s1 e1 => ?_⟩
  cases x with
  | true => exact iteT ⟨σ', H1', D', s1, h1, d.ev _ _ e1⟩
  | false => exact iteF ⟨σ', H1', D', s1, h1, d.ev _ _ e1⟩
def uNever : TS' := fun _ _ _ => False
theorem qss_never : PSs' X B sts uNever := fun _ _ _ _ _ _ ⟨_, _, _, _, h, _⟩ => h.elim
def vName (i : Nat) : TG' := fun v σ H Q => Q (σ.set i (some v)) H
theorem SR.set {K : PySem.W.Frag} {σ' : St'} {H' : PHp} {σ : L2.St} {H : Hp} {v' : PV} {v : V} (s : SR K B σ' H' σ H) (r : RP K H v' v) (i : Nat) : SR K B (σ'.set i (some v')) H' (σ.set i (some v)) H := by
  refine ⟨by simp [s.len], fun j w e => ?_, s.hp, s.ev⟩
  by_cases hj : i = j
  · subst hj
    have hl : i < σ'.length := by
      rcases Nat.lt_or_ge i σ'.length with h | h
      · exact h
      · rw [List.getElem?_eq_none (by simpa using h)] at e; cases e
    rw [List.getElem?_set_self hl] at e
    cases e
    exact ⟨v, List.getElem?_set_self (by rw [← s.len]; exact hl), r⟩
  · rw [List.getElem?_set_ne hj] at e ⊢
    exact s.loc j w e
theorem qg_name {i : Nat} {x : Str} (hN : X.N.Nodup) (hi : X.N[i]? = some x) (hx : Loc X.env.scope x) (hf : X.fn x = true ∨ X.env.scope.names.lookup x = some .local := by first | exact .inl rfl | exact .inr rfl | assumption) : PG' X B (.Name x pos) (vName i) :=
  pg_imp (pg_name hN hi hx hf) fun v σ H Q ⟨v', σ', H', Q', r, s, h, k⟩ => k _ _ _ _ h (s.set r i) (Ev.refl _ _)
def vNil : TGs' := fun vs σ H Q => vs = [] ∧ Q σ H
def vCons (t : TG') (u : TGs') : TGs' := fun vs σ H Q => match vs with
  | v :: r => t v σ H fun σ' H' => u r σ' H' Q
  | [] => False
theorem qgs_nil : PGs' X B [] vNil := pgs_imp pgs_nil fun vs σ H Q ⟨v', σ', H', Q', r, s, h, k⟩ => by
  obtain ⟨rfl, h⟩ := h
  simp only [RPs] at r
  exact ⟨r, k _ _ _ _ h s (Ev.refl _ _)⟩
theorem qgs_cons {t : TG'} {u : TGs'} (h1 : PG' X B e t) (h2 : PGs' X B es u) (hs : (assignEach (e :: es) X.env).map (·.2) = assign e X.env :: (assignEach es X.env).map (·.2) := by rfl) : PGs' X B (e :: es) (vCons t u) :=
  pgs_imp (pgs_cons h1 h2 hs) fun vs σ H Q ⟨vs', σ', H', Q', r, s, h, k⟩ => by
  cases vs' with
  | nil => exact h.elim
  | cons v' r' =>
    simp only [RPs] at r
    obtain ⟨v, w, rfl, rv, rw'⟩ := r
    refine ⟨v, w, rfl, v', σ', H', _, rv, s, h, fun σ1' H1' σ1 H1 h1 s1 e1 => ⟨r', σ1', H1', Q', RPs.kp _ (e1.kp s.hp) rw', s1, h1, fun σ2' H2' σ2 H2 h2 s2 e2 => k _ _ _ _ h2 s2 (e1.trans e2)⟩⟩
def vTup (n : Nat) (t : TGs') : TG' := fun v σ H Q => match v with
  | .tup l => l.length = n ∧ t l σ H Q
  | _ => False
theorem qg_tup {k : Nat} {t : TGs'} {n : Nat} (hc : X.calm = true) (h : PGs' X B es t) (hn : (assignEach es X.env).length = n := by rfl) (hst : (assignEach es X.env).findIdx? (·.1) = none := by rfl) : PG' X B (.Tuple es k pos) (vTup n t) :=
  pg_imp (pg_tup hc h hn hst) fun v σ H Q ⟨v', σ', H', Q', r, s, h, k⟩ => by
  cases v' with
  | tup l =>
    obtain ⟨hl, h⟩ := h
    simp only [RP] at r
    obtain ⟨a, us, rfl, q, r⟩ := r
    exact ⟨a, us, rfl, q, by rw [RPs.length _ r]; exact hl, l, σ', H', Q', r, s, h, k⟩
  | _ => exact h.elim
def uAsg (te : TE') (g : TG') : TS' := fun D σ H => te σ H fun x H1 => g x σ H1 D.nx
theorem low_asg {K : PySem.W.Frag} {te : TE'} {g : TG'} {D : Ends} {σ : L2.St} {H : Hp} (h : lowS K B (uAsg te g) D σ H) : tAsg (low K B te) (lowG K B g) D σ H := by
  obtain ⟨σ', H', D', s, h, d⟩ := h
  exact ⟨σ', H', _, s, h, fun x H1' v H1 h1 r1 s1 e1 => ⟨x, σ', H1', _, r1, s1, h1, fun σ2' H2' σ2 H2 h2 s2 e2 => d.nx _ _ _ _ h2 s2 (e1.trans e2)⟩⟩
theorem qs_asg {tg : Expr} {g : TG'} (he : PE' X B e te) (hg : PG' X B tg g) (hs : swapsWithSole [tg] e pos.line X.env = pure false := by rfl) (hw : swappedStores [tg] e X.env = pure none := by rfl)
    (h1 : (assignEach [tg] X.env).map (·.2) = [assign tg X.env] := by rfl) : PS' X B (.Assign [tg] e pos) (uAsg te g) := ps_imp (ps_asg he hg hs hw h1) fun _ _ _ h => low_asg h
theorem qs_set {i : Nat} {x : Str} {pos' : Pos} (hN : X.N.Nodup) (hi : X.N[i]? = some x) (hx : Loc X.env.scope x) (he : PE' X B e te) (hs : swapsWith e (some (.Name x pos')) pos.line X.env = pure false := by rfl) (hf : X.fn x = true ∨ X.env.scope.names.lookup x = some .local := by first | exact .inl rfl | exact .inr rfl | assumption) :
    PS' X B (.Assign [.Name x pos'] e pos) (uAsg te (vName i)) := ps_imp (ps_set hN hi hx he hs hf) fun D σ H h => by
  obtain ⟨σ', H', D', s, h, d⟩ := h
  exact ⟨σ', H', _, s, h, fun x H1' v H1 h1 r1 s1 e1 => d.nx _ _ _ _ h1 (s1.set r1 i) e1⟩
def uWhile (c : TT') (tb : TS') : TS' := fun D σ H => ∃ W : Nat → St' → PHp → Prop, (∃ m, W m σ H) ∧ ∀ m σ H, W m σ H →
  c σ H fun b H1 => cif b (∃ N : St' → PHp → Prop, (∀ σ' H', N σ' H' → ∃ m', m' < m ∧ W m' σ' H') ∧ tb { D with nx := N, ct := N, bk := D.nx } σ H1) (D.nx σ H1)
theorem qs_while {body : List Stmt} (hp : PassesOwn (model X.prog X.w) X.A X.env X.xe) (hc : PT' X B c tA) (hb : PSs' X B body t) : PS' X B (.While c body [] pos) (uWhile tA t) := ps_imp (ps_while hp hc hb) fun D σ H ⟨σ', H', D', s, ⟨W, ⟨m0, w0⟩, turn⟩, d⟩ => by
  refine ⟨fun m σ1 H1 => ∃ σ1' H1', SR X.K B σ1' H1' σ1 H1 ∧ Ev H' H H1' H1 ∧ W m σ1' H1', ⟨m0, σ', H', s, Ev.refl _ _, w0⟩, ?_⟩
  rintro m σ1 H1 ⟨σ1', H1', s1, e1, w1⟩
  refine ⟨σ1', H1', _, s1, turn m σ1' H1' w1, fun x H2' H2 h2 s2 e2 => ?_⟩
  cases x with
  | false => exact iteF (d.nx _ _ _ _ h2 s2 (e1.trans e2))
  | true =>
    obtain ⟨N, hN, h2⟩ := (show ∃ N : St' → PHp → Prop, _ from h2)
    refine iteT ⟨fun σ3 H3 => ∃ σ3' H3', SR X.K B σ3' H3' σ3 H3 ∧ Ev H' H H3' H3 ∧ N σ3' H3', ?_, σ1', H2', _, s2, h2, ?_, ?_, ?_, ?_⟩
    · rintro σ3 H3 ⟨σ3', H3', s3, e3, n3⟩
      obtain ⟨m', hm, w'⟩ := hN _ _ n3
      exact ⟨m', hm, σ3', H3', s3, e3, w'⟩
    · intro σ3' H3' σ3 H3 n3 s3 e3
      exact ⟨σ3', H3', s3, (e1.trans e2).trans e3, n3⟩
    · intro v' H3' v H3 n3 r3 s3 e3
      exact d.rt _ _ _ _ n3 r3 s3 ((e1.trans e2).trans e3)
    · intro σ3' H3' σ3 H3 n3 s3 e3
      exact d.nx _ _ _ _ n3 s3 ((e1.trans e2).trans e3)
    · intro σ3' H3' σ3 H3 n3 s3 e3
      exact ⟨σ3', H3', s3, (e1.trans e2).trans e3, n3⟩
theorem while_by {c : TT'} {tb : TS'} {D : Ends'} {σ : St'} {H : PHp} (Pv : Nat → St' → PHp → Prop) (m0 : Nat) (h0 : Pv m0 σ H)
    (hs : ∀ m σ H, Pv m σ H → c σ H fun b H1 => cif b (∃ N : St' → PHp → Prop, (∀ σ' H', N σ' H' → ∃ m', m' < m ∧ Pv m' σ' H') ∧ tb { D with nx := N, ct := N, bk := D.nx } σ H1) (D.nx σ H1)) : uWhile c tb D σ H := ⟨Pv, ⟨m0, h0⟩, hs⟩
def uForL (ok : PHp → Prop) (g : TG') (tb : TS') (D : Ends') : List PV → St' → PHp → Prop
  | [], σ, H => ok H ∧ D.nx σ H
  | x :: r, σ, H => ok H ∧ g x σ H fun σ2 H2 => tb { D with nx := uForL ok g tb D r, ct := uForL ok g tb D r, bk := D.nx } σ2 H2
def uFor (wi : TI') (g : TG') (tb : TS') : TS' := fun D σ H => wi σ H fun J H1 => uForL J.ok g tb D J.items σ H1
theorem qs_for {iter tg : Expr} {body : List Stmt} {wi : TI'} {g : TG'} (hp : PassesOwn (model X.prog X.w) X.A X.env X.xe) (hc : X.calm = true) (hi : PI' X B tg iter wi) (hg : PG' X B tg g) (hb : PSs' X B body t)
    (hs : ∀ x, foldedSetIterable iter X.env x = pure x := by intro _; rfl) : PS' X B (.For tg iter body [] pos) (uFor wi g t) := ps_imp (ps_for hp hc hi hg hb hs) fun D σ H ⟨σ', H', D', s, h, d⟩ => by
  refine ⟨σ', H', _, s, h, fun J' H1' J H1 h1 wk s1 e1 => ?_⟩
  refine ⟨fun i m σ2 H2 => i ≤ J'.items.length ∧ m = J'.items.length - i ∧ ∃ σ2' H2', SR X.K B σ2' H2' σ2 H2 ∧ Ev H1' H1 H2' H2 ∧ uForL J'.ok g t D' (J'.items.drop i) σ2' H2', ⟨J'.items.length, Nat.zero_le _, by simp, σ', H1', s1, Ev.refl _ _, h1⟩, ?_⟩
  rintro i m σ2 H2 ⟨hi, rfl, σ2', H2', s2, e2, h2⟩
  have k2 := e2.kp s1.hp
  by_cases hlt : i < J'.items.length
  · obtain ⟨x', hx⟩ : ∃ x', J'.items[i]? = some x' := ⟨_, List.getElem?_eq_getElem hlt⟩
    have hd : J'.items.drop i = x' :: J'.items.drop (i + 1) := by
      rw [List.drop_eq_getElem_cons hlt]
      rw [List.getElem?_eq_getElem hlt] at hx
      cases hx; rfl
    rw [hd] at h2
    obtain ⟨ok2, h2⟩ := (show J'.ok H2' ∧ _ from h2)
    refine .inr ⟨wk.go H2' H2 i k2 s2.hp ok2 hlt, fun σ3 H3 => ∃ σ3' H3', SR X.K B σ3' H3' σ3 H3 ∧ Ev H1' H1 H3' H3 ∧ uForL J'.ok g t D' (J'.items.drop (i + 1)) σ3' H3', ?_, fun x H3 y => ?_⟩
    · rintro σ3 H3 ⟨σ3', H3', s3, e3, h3⟩
      exact ⟨J'.items.length - (i + 1), by omega, hlt, rfl, σ3', H3', s3, e3, h3⟩
    · obtain ⟨rfl, rx⟩ := wk.yld H2' H2 i x H3 k2 s2.hp ok2 y
      refine ⟨x', σ2', H2', _, rx x' hx, s2, h2, fun σ3' H3' σ3 H3 h3 s3 e3 => ⟨σ3', H3', _, s3, h3, ?_, ?_, ?_, ?_⟩⟩
      · intro σ4' H4' σ4 H4 h4 s4 e4
        exact ⟨σ4', H4', s4, e2.trans (e3.trans e4), h4⟩
      · intro v' H4' v H4 h4 r4 s4 e4
        exact d.rt _ _ _ _ h4 r4 s4 (e1.trans (e2.trans (e3.trans e4)))
      · intro σ4' H4' σ4 H4 h4 s4 e4
        exact d.nx _ _ _ _ h4 s4 (e1.trans (e2.trans (e3.trans e4)))
      · intro σ4' H4' σ4 H4 h4 s4 e4
        exact ⟨σ4', H4', s4, e2.trans (e3.trans e4), h4⟩
  · have hi' : i = J'.items.length := by omega
    subst hi'
    rw [List.drop_length] at h2
    obtain ⟨ok2, h2⟩ := (show J'.ok H2' ∧ _ from h2)
    exact .inl ⟨wk.stop H2' H2 _ k2 s2.hp ok2 (Nat.le_refl _), d.nx _ _ _ _ h2 s2 (e1.trans e2)⟩
def itOf (x : PV) (H1 : PHp) (R : It' → PHp → Prop) : Prop := match x with
  | .tup l => R ⟨l, fun _ => True⟩ H1
  | .fls l => R ⟨l, fun _ => True⟩ H1
  | .ref a => ∃ l, H1 a = some (.lst l) ∧ R ⟨l, fun H => H a = some (.lst l)⟩ H1
  | _ => False
def uSeqI (ta : TE') : TI' := fun σ H R => ta σ H fun x H1 => itOf x H1 R
def iSeq (K : PySem.W.Frag) (tl : TE) : TI := fun σ H R => tl σ H fun x H1 => ∃ a, x = .ref a ∧ ((∃ xs, SqL K H1 a xs) ∧ R (Itl K a) H1 ∨ (∃ xs, SqT K H1 a xs) ∧ R (Itt K a) H1)
theorem pi_seq {tg l : Expr} {tl : TE} (hl : PE X l tl) : PI X tg l (iSeq X.K tl) := by
  intro pins s σ H R I h
  refine thn (hl pins s σ H _ I h) fun v s1 ⟨x, H1, I1, r1, q1⟩ => ?_
  obtain ⟨a, e, ⟨⟨xs, hq⟩, q⟩ | ⟨⟨xs, hq⟩, q⟩⟩ := q1
  · subst e
    cases r1
    obtain ⟨its, rv, p, hz⟩ := I1.list hq
    refine wpAny_pyIter_list p.isList ?_
    refine ⟨s1.heap.objs.size, [s1.heap.objs.size], _, _, H1, rfl, I1.kept (t' := s1.toks) fun b o e => Heap.get?_push_of_some _ e, turn_list a _, ⟨_, Heap.get?_push_size _ rfl, rfl, rfl⟩, fun b hb => ?_, q⟩
    have e : b = s1.heap.objs.size := by simpa using hb
    subst e
    exact I1.fpOk (Nat.le_refl _) (I1.hok.fresh (Nat.le_refl _))
  · subst e
    cases r1
    obtain ⟨its, rv, p, hz⟩ := I1.tuple hq
    refine wpAny_pyIter_tuple (show s1.heap.IsTuple a its.toArray from p) ?_
    refine ⟨s1.heap.objs.size, [s1.heap.objs.size], _, _, H1, rfl, I1.kept (t' := s1.toks) fun b o e => Heap.get?_push_of_some _ e, turn_tuple a _, ⟨_, Heap.get?_push_size _ rfl, rfl, rfl⟩, fun b hb => ?_, q⟩
    have e : b = s1.heap.objs.size := by simpa using hb
    subst e
    exact I1.fpOk (Nat.le_refl _) (I1.hok.fresh (Nat.le_refl _))
theorem walks_list {K : PySem.W.Frag} {H1 : Hp} {J' : It'} {a : Addr} (h : ∀ H' H, Kp H1 H → HR K H' H → J'.ok H' → ∃ us, SqL K H a us ∧ RPs K H J'.items us) : Walks K H1 (Itl K a) J' where
  go := fun H' H i k s o hi => by
    obtain ⟨us, q, r⟩ := h H' H k s o
    obtain ⟨u, e, _⟩ := RPs.get _ r (List.getElem?_eq_getElem hi)
    exact ⟨us, u, q, e⟩
  yld := fun H' H i x H2 k s o y => by
    obtain ⟨us, q, r⟩ := h H' H k s o
    refine ⟨y.1, fun x' hx => ?_⟩
    obtain ⟨u, e, ru⟩ := RPs.get _ r hx
    have := y.2 us q
    rw [e] at this; cases this; exact ru
  stop := fun H' H i k s o hi => by
    obtain ⟨us, q, r⟩ := h H' H k s o
    exact ⟨us, q, by rw [RPs.length _ r]; exact hi⟩
theorem walks_tup {K : PySem.W.Frag} {H1 : Hp} {J' : It'} {a : Addr} (h : ∀ H' H, Kp H1 H → HR K H' H → J'.ok H' → ∃ us, SqT K H a us ∧ RPs K H J'.items us) : Walks K H1 (Itt K a) J' where
  go := fun H' H i k s o hi => by
    obtain ⟨us, q, r⟩ := h H' H k s o
    obtain ⟨u, e, _⟩ := RPs.get _ r (List.getElem?_eq_getElem hi)
    exact ⟨us, u, q, e⟩
  yld := fun H' H i x H2 k s o y => by
    obtain ⟨us, q, r⟩ := h H' H k s o
    refine ⟨y.1, fun x' hx => ?_⟩
    obtain ⟨u, e, ru⟩ := RPs.get _ r hx
    have := y.2 us q
    rw [e] at this; cases this; exact ru
  stop := fun H' H i k s o hi => by
    obtain ⟨us, q, r⟩ := h H' H k s o
    exact ⟨us, q, by rw [RPs.length _ r]; exact hi⟩
theorem qi_seq {tg : Expr} (ha : PE' X B a ta) : PI' X B tg a (uSeqI ta) := pi_imp (pi_seq ha) fun σ H R ⟨σ', H', R', s, h, k⟩ => by
  refine ⟨σ', H', _, s, h, fun x' H1' x H1 h1 r1 s1 e1 => ?_⟩
  cases x' with
  | tup l =>
    simp only [RP] at r1
    obtain ⟨p, us, rfl, q, r⟩ := r1
    exact ⟨p, rfl, .inr ⟨⟨us, q⟩, k _ H1' _ H1 h1 (walks_tup fun _ H2 k2 _ _ => ⟨us, k2.sqT q, RPs.kp _ k2 r⟩) s1 e1⟩⟩
  | fls l =>
    simp only [RP] at r1
    obtain ⟨p, us, rfl, q, r⟩ := r1
    exact ⟨p, rfl, .inl ⟨⟨us, q.sq⟩, k _ H1' _ H1 h1 (walks_list fun _ H2 k2 _ _ => ⟨us, (k2.fzL q).sq, RPs.kp _ k2 r⟩) s1 e1⟩⟩
  | ref p =>
    simp only [RP] at r1
    obtain ⟨l, q, h1⟩ := h1
    obtain ⟨us, q2, r⟩ := s1.hp _ _ q
    refine ⟨p, r1, .inl ⟨⟨us, SqL.of q2⟩, k _ H1' _ H1 h1 (walks_list fun H2' H2 k2 s2 o2 => ?_) s1 e1⟩⟩
    obtain ⟨us2, q3, r3⟩ := s2 _ _ o2
    exact ⟨us2, SqL.of q3, r3⟩
  | _ => exact h1.elim
def rngL (lo : Int) (n : Nat) : List PV := (List.range n).map fun k => PV.int (lo + (k : Nat))
theorem walks_rng {K : PySem.W.Frag} {H1 : Hp} {lo : Int} {n : Nat} : Walks K H1 (Itr lo n) ⟨rngL lo n, fun _ => True⟩ where
  go := fun H' H i k s o hi => by
    have h : i < n := by simpa [rngL] using hi
    exact h
  yld := fun H' H i x H2 k s o y => by
    obtain ⟨e, rfl⟩ := y
    refine ⟨e, fun x' hx => ?_⟩
    simp only [rngL, List.getElem?_map] at hx
    cases q : (List.range n)[i]? with
    | none => rw [q] at hx; cases hx
    | some j =>
      rw [q] at hx
      obtain ⟨h1, h2⟩ := List.getElem?_eq_some_iff.mp q
      rw [List.getElem_range] at h2
      subst h2
      cases hx
      simp [RP]
  stop := fun H' H i k s o hi => by
    have h : n ≤ i := by simpa [rngL] using hi
    exact h
def rng1 (vs : List PV) (H1 : PHp) (R : It' → PHp → Prop) : Prop := match vs with
  | [.int j] => (-(2 ^ 62) ≤ j ∧ j < 2 ^ 62) ∧ R ⟨rngL 0 j.toNat, fun _ => True⟩ H1
  | _ => False
def uRng1 (t : TA') : TI' := fun σ H R => t σ H fun vs H1 => rng1 vs H1 R
def rng2 (vs : List PV) (H1 : PHp) (R : It' → PHp → Prop) : Prop := match vs with
  | [.int i, .int j] => (-(2 ^ 62) ≤ i ∧ i < 2 ^ 62 ∧ -(2 ^ 62) ≤ j ∧ j < 2 ^ 62) ∧ R ⟨rngL i (j - i).toNat, fun _ => True⟩ H1
  | _ => False
def uRng2 (t : TA') : TI' := fun σ H R => t σ H fun vs H1 => rng2 vs H1 R
theorem qi_range1 {tg : Expr} {t : TA'} {p : Pos} (hg : Gl X "range") (hm : X.mg "range" = none) (ha : PA' X B [a] t) (hs : starEach [a] X.env = [(false, eval a X.env)] := by rfl) : PI' X B tg (.Call (.Name "range" p) [a] [] pos) (uRng1 t) :=
  pi_imp (pi_range1 hg hm ha hs) fun σ H R ⟨σ', H', R', s, h, k⟩ => by
  refine ⟨σ', H', _, s, h, fun vs' H1' vs H1 h1 r1 s1 e1 => ?_⟩
  unfold rng1 at h1
  split at h1
  · rename_i j
    simp only [RPs, RP] at r1
    obtain ⟨u, r, rfl, rfl, rfl⟩ := r1
    exact ⟨j, rfl, h1.1.1, h1.1.2, k _ H1' _ H1 h1.2 walks_rng s1 e1⟩
  · exact h1.elim
end
end U


set_option linter.all false
set_option maxRecDepth 100000
set_option maxHeartbeats 4000000
namespace U
open PySem PySem.Spec PyProof.Rows L2
variable {B : Bs}
abbrev Sp' := List PV → PHp → VK' → XK' → Prop
def lowSp (K : PySem.W.Frag) (sp : Sp') : Sp := fun vs H Q E => ∃ vs' H' Q' E', RPs K H vs' vs ∧ HR K H' H ∧ sp vs' H' Q' E' ∧ (∀ v' H1' v H1, Q' v' H1' → RP K H1 v' v → HR K H1' H1 → Ev H' H H1' H1 → Q v H1) ∧
  (∀ c d H1' H1, E' c d H1' → HR K H1' H1 → Ev H' H H1' H1 → E c d H1)
abbrev FnOk' (P : Program) (w : World) (K : PySem.W.Frag) (mg : Str → Option Value) (base : Heap) (CX : CXT) (k : Nat) (f : Addr) (fd : FuncData) (ps : List Str) (sp : Sp') : Prop := FnOk P w K mg base CX k f fd ps (lowSp K sp)
def start' (N : List Str) (vs : List PV) : St' := vs.map some ++ List.replicate (N.length - vs.length) none
theorem sr_start {K : PySem.W.Frag} {N : List Str} {vs' : List PV} {vs : List V} {H' : PHp} {H : Hp} (r : RPs K H vs' vs) (h : HR K H' H) : SR K (H', H) (start' N vs') H' (L2.start N vs) H := by
  have hl := RPs.length _ r
  refine ⟨by simp [start', L2.start, hl], fun i v' e => ?_, h, Ev.refl _ _⟩
  unfold start' at e
  unfold L2.start
  by_cases hi : i < vs'.length
  · rw [List.getElem?_append_left (by simpa using hi)] at e
    rw [List.getElem?_append_left (by simpa [hl] using hi)]
    rw [List.getElem?_map] at e ⊢
    cases q : vs'[i]? with
    | none => rw [q] at e; cases e
    | some w =>
      rw [q] at e
      cases e
      obtain ⟨u, e1, e2⟩ := RPs.get _ r q
      exact ⟨u, by rw [e1]; rfl, e2⟩
  · rw [List.getElem?_append_right (by simpa using hi)] at e
    rw [List.getElem?_replicate] at e
    split at e <;> cases e
def ends (Q : VK') : Ends' where
  nx := fun _ H => ∃ H3, Sub H3 H ∧ Q .non H3
  rt := fun v H => ∃ H3, Sub H3 H ∧ Q v H3
section
variable {P : Program} {w : World} {K : PySem.W.Frag} {mg : Str → Option Value} {base : Heap}
theorem okU {x qual : Str} {st : Stmt} {f : Addr} {fd : FuncData} {N ps : List Str} {k : Nat} {sp : Sp'} (F : Fun K x qual st f fd) (S : FnScope N ps (defScope st)) (len : ∀ vs H Q E, sp vs H Q E → vs.length = ps.length)
    (hbody : ∀ (cdv : Value) (A : Around) (outer : List Env) (s : Shared) (H : Hp) (E : XK) (B : Bs), Room k (A.deeper (envOfC qual (defScope st) s.heap.objs.size f cdv)) →
      ∃ t, PSs' (cxOf CX0 P w K mg base N qual (defScope st) f cdv A outer s H E).nox B (defBody st) t ∧ ∀ vs' H' Q' E', sp vs' H' Q' E' → t (ends Q') (start' N vs') H') : FnOk' P w K mg base CX0 (k + 1) f fd ps sp := by
  refine F.ok S (fun vs H Q E zz => ?_) (fun cdv A outer s H vs Q E hr h => ?_)
  · obtain ⟨vs', H', Q', E', r, hr, h, _⟩ := zz
    rw [RPs.length _ r]; exact len _ _ _ _ h
  · obtain ⟨vs', H', Q', E', r, hh, h, k1, k2⟩ := h
    obtain ⟨t, ht, hq⟩ := hbody cdv A outer s H E (H', H) hr
    refine ⟨_, ht, start' N vs', H', _, sr_start r hh, hq vs' H' Q' E' h, ?_, ?_, ?_, ?_⟩
    · rintro σ1' H1' σ1 H1 ⟨H3, sb, q⟩ s1 e1
      exact k1 _ H3 _ H1 q (by simp [RP]) (s1.hp.sub sb) (e1.sub sb)
    · rintro v' H1' v H1 ⟨H3, sb, q⟩ r1 s1 e1
      exact k1 _ H3 _ H1 q r1 (s1.sub sb) (e1.sub sb)
    · intro _ _ _ _ z; exact z.elim
    · intro _ _ _ _ z; exact z.elim
end
section
variable {X : Cx} {CX : CXT} {k : Nat} {f C : Addr} {fd : FuncData} {ps : List Str} {sp : Sp'} {E : XK} {E' : XK'} {x m : Str} {p pos apos : Pos} {e o : Expr} {es : List Expr} {ta : TE'} {t : TA'}
def uCall (sp : Sp') (E' : XK') (t : TA') : TE' := fun σ H Q => t σ H fun vs H1 => sp vs H1 Q E'
abbrev X0 : XK' := fun _ _ _ => False
theorem low_call0 {K : PySem.W.Frag} {σ : L2.St} {H : Hp} {Q : VK} (h : low K B (uCall sp X0 t) σ H Q) : tCall (lowSp K sp) [] E0 (lowA K B t) σ H Q := by
  obtain ⟨σ', H', Q', s, h, k⟩ := h
  refine ⟨σ', H', _, s, h, fun vs' H1' vs H1 h1 r1 s1 e1 => ?_⟩
  show lowSp K sp (vs ++ []) H1 Q E0
  rw [List.append_nil]
  exact ⟨vs', H1', Q', X0, r1, s1.hp, h1, fun v' H2' v H2 q r2 h2 e2 => k v' H2' v H2 q r2 (s1.kp e2 h2) (e1.trans e2), fun _ _ _ _ z => z.elim⟩
theorem qe_call (F : FnOk' X.prog X.w X.K X.mg X.base CX0 k f fd ps sp) (hr : Room k X.A) (hg : Gl X x) (hm : X.mg x = some (.ref f)) (hk : PySem.W.keepIn X.K (.ref f) = true) (hb : Binds X.K fd ps [])
    (ha : PA' X B (e :: es) t) (hdb : (x == ("__debug__" : Str)) = false := by decide) (he : starEach (e :: es) X.env = (false, eval e X.env) :: starEach es X.env := by rfl) (hpl : (backTo pos (starEach es X.env)).any (·.1) = false := by rfl) :
    PE' X B (.Call (.Name x p) (e :: es) [] pos) (uCall sp X0 t) := pe_imp (pe_call F hr hg hm hk hb .nil pass0 ha hdb he hpl) fun _ _ _ h => low_call0 h
theorem fz_of {K : PySem.W.Frag} {H : Hp} {a : Addr} {xs : List V} (o : Only H) (h : SqL K H a xs) : FzL K H a xs := by
  rcases h with (h | h) | h
  · rcases o a with z | ⟨ob, ys, z⟩
    · rw [z] at h; cases h
    · rw [z] at h; cases h
  · exact .inl h
  · exact .inr h
def spL : Sp' := fun vs H Q _ => match vs with
  | [.fls l] => ∃ ns : List Int, l = ns.map PV.int ∧ ns.length ≤ 63 ∧ Q (.bl true) H
  | _ => False
theorem spL_start {K : PySem.W.Frag} {H : Hp} {a : Addr} {ns : List Int} (hl : ns.length ≤ 63) (o : Only H) (h : SqL K H a (ns.map V.int)) : lowSp K spL [.ref a] H (fun v _ => v = .bl true) fun _ _ _ => False := by
  refine ⟨[.fls (ns.map PV.int)], fun _ => none, fun v _ => v = .bl true, X0, ?_, fun _ _ z => (nomatch z), ⟨ns, rfl, hl, rfl⟩, fun v' _ v _ q r _ _ => ?_, fun _ _ _ _ z => z.elim⟩
  · refine RPs.cons _ ?_ (RPs.nil _)
    simp only [RP]
    exact ⟨a, _, rfl, fz_of o h, RPs.ints _ _⟩
  · subst q
    simpa [RP] using r
end
end U


set_option linter.all false
set_option maxRecDepth 100000
set_option maxHeartbeats 4000000
namespace U
open PySem PySem.Spec PyProof.Rows L2
variable {B : Bs}
mutual
def deq : PV → PV → Bool
  | .non, .non => true
  | .bl a, .bl b => a == b
  | .int a, .int b => a == b
  | .bl a, .int b => (if a then 1 else 0) == b
  | .int a, .bl b => a == (if b then 1 else 0)
  | .str a, .str b => a == b
  | .tup l, .tup m => deqs l m
  | .fls l, .fls m => deqs l m
  | _, _ => false
def deqs : List PV → List PV → Bool
  | [], [] => true
  | x :: l, y :: m => deq x y && deqs l m
  | _, _ => false
end
def flat : Nat → PV → Bool
  | _, .non => true
  | _, .bl _ => true
  | _, .int _ => true
  | _, .str _ => true
  | n + 1, .tup l => l.all (flat n)
  | n + 1, .fls l => l.all (flat n)
  | _, _ => false
theorem deqs_range : ∀ (l m : List PV), deqs l m = ((List.range (min l.length m.length)).all (fun i => deq (l.getD i .non) (m.getD i .non)) && l.length == m.length)
  | [], [] => by simp [deqs]
  | [], _ :: _ => by simp [deqs]
  | _ :: _, [] => by simp [deqs]
  | x :: l, y :: m => by
    simp only [deqs, deqs_range l m, List.length_cons]
    rw [show min (l.length + 1) (m.length + 1) = min l.length m.length + 1 by omega, List.range_succ_eq_map, List.all_cons, List.all_map]
    simp only [List.getD_cons_zero, Bool.and_assoc]
    congr 1
    congr 1
    simp
theorem deqs_refl {n : Nat} : ∀ (l : List PV), (∀ x ∈ l, deq x x = true) → deqs l l = true
  | [], _ => rfl
  | x :: l, h => by
    have h1 := h x (by simp)
    have h2 := deqs_refl (n := n) l fun y hy => h y (by simp [hy])
    simp only [deqs, h1, h2, Bool.and_self]
theorem deq_refl : ∀ {n : Nat} {x : PV}, flat n x = true → deq x x = true
  | _, .non, _ => by simp [deq]
  | _, .bl _, _ => by simp [deq]
  | _, .int _, _ => by simp [deq]
  | _, .str _, _ => by simp [deq]
  | n + 1, .tup l, h => by
    simp only [flat, List.all_eq_true] at h
    simp only [deq]
    exact deqs_refl (n := 0) l fun x hx => deq_refl (h x hx)
  | n + 1, .fls l, h => by
    simp only [flat, List.all_eq_true] at h
    simp only [deq]
    exact deqs_refl (n := 0) l fun x hx => deq_refl (h x hx)
  | 0, .tup _, h => by cases h
  | 0, .fls _, h => by cases h
  | n, .ref _, h => by cases n <;> cases h
  | n, .oth _, h => by cases n <;> cases h
section
variable {X : Cx} {pins : List (Addr × Obj)} {σ : L2.St} {H : Hp} {s : Shared}
def RR (K : PySem.W.Frag) (H : Hp) (x : PV) (u : Value) : Prop := ∃ v, RP K H x v ∧ RelV v u
def RL (K : PySem.W.Frag) (H : Hp) (l : List PV) (us : List Value) : Prop := ∃ vs, RPs K H l vs ∧ Vals vs us
def RD (K : PySem.W.Frag) (H : Hp) (x : PV) (u : Value) : Prop := match x with
  | .fls l => ∃ a vs, u = .ref a ∧ SqL K H a vs ∧ RPs K H l vs
  | x => RR K H x u
theorem RL.get {K : PySem.W.Frag} {l : List PV} {us : List Value} (r : RL K H l us) {i : Nat} {u : Value} (e : us[i]? = some u) : ∃ x, l[i]? = some x ∧ RR K H x u := by
  obtain ⟨vs, r1, r2⟩ := r
  have hl := r2.length
  have hl2 := RPs.length _ r1
  have hi : i < l.length := by
    have := (List.getElem?_eq_some_iff.mp e).1
    omega
  obtain ⟨v, e1, e2⟩ := RPs.get _ r1 (List.getElem?_eq_getElem hi)
  obtain ⟨w, e3, e4⟩ := r2.get e1
  rw [e] at e3; cases e3
  exact ⟨_, List.getElem?_eq_getElem hi, v, e2, e4⟩
theorem RL.length {K : PySem.W.Frag} {l : List PV} {us : List Value} (r : RL K H l us) : us.length = l.length := by
  obtain ⟨vs, r1, r2⟩ := r
  rw [← r2.length, RPs.length _ r1]
theorem RR.rd {K : PySem.W.Frag} {x : PV} {u : Value} (r : RR K H x u) : RD K H x u := by
  cases x with
  | fls l =>
    obtain ⟨v, r1, r2⟩ := r
    simp only [RP] at r1
    obtain ⟨a, us, rfl, q, rr⟩ := r1
    cases r2
    exact ⟨a, us, rfl, q.sq, rr⟩
  | _ => exact r
theorem rd_tup (I : Inv X pins σ H s) {l : List PV} {u : Value} (r : RD X.K H (.tup l) u) : ∃ a its, u = .ref a ∧ RL X.K H l its ∧ s.heap.IsTuple a its.toArray := by
  obtain ⟨v, r1, r2⟩ := r
  simp only [RP] at r1
  obtain ⟨a, us, rfl, q, rr⟩ := r1
  cases r2
  obtain ⟨its, rv, p, _⟩ := I.tuple q
  exact ⟨a, its, rfl, ⟨us, rr, rv⟩, p⟩
theorem rd_lst (I : Inv X pins σ H s) {l : List PV} {u : Value} (r : RD X.K H (.fls l) u) : ∃ a its, u = .ref a ∧ RL X.K H l its ∧ s.heap.IsList a its.toArray := by
  obtain ⟨a, us, rfl, q, rr⟩ := r
  obtain ⟨its, rv, p, _⟩ := I.list q
  exact ⟨a, its, rfl, ⟨us, rr, rv⟩, p.isList⟩
theorem isTuple_inj {a : Addr} {x y : Array Value} (h1 : s.heap.IsTuple a x) (h2 : s.heap.IsTuple a y) : x = y := by
  obtain ⟨o, e, c, n, d⟩ := h1
  obtain ⟨o', e', c', n', d'⟩ := h2
  rw [e] at e'; cases e'; rw [d] at d'; cases d'; rfl
theorem isList_inj {a : Addr} {x y : Array Value} (h1 : s.heap.IsList a x) (h2 : s.heap.IsList a y) : x = y := by
  obtain ⟨o, e, c, n, d⟩ := h1
  obtain ⟨o', e', c', n', d'⟩ := h2
  rw [e] at e'; cases e'; rw [d] at d'; cases d'; rfl
theorem not_both {a : Addr} {x y : Array Value} (h1 : s.heap.IsTuple a x) (h2 : s.heap.IsList a y) : False := by
  obtain ⟨o, e, c, n, d⟩ := h1
  obtain ⟨o', e', c', n', d'⟩ := h2
  rw [e] at e'; cases e'; rw [c] at c'; exact absurd c' (by decide)
theorem RL.list_inj {K : PySem.W.Frag} {n : Nat} (ih : ∀ {x y : PV} {u : Value}, flat n x = true → flat n y = true → RD K H x u → RD K H y u → x = y) {l m : List PV} {us : List Value} (h1 : l.all (flat n) = true) (h2 : m.all (flat n) = true)
    (r1 : RL K H l us) (r2 : RL K H m us) : l = m := by
  rw [List.all_eq_true] at h1 h2
  refine List.ext_getElem? fun i => ?_
  cases e : us[i]? with
  | none =>
    have := List.getElem?_eq_none_iff.mp e
    rw [List.getElem?_eq_none (by rw [← r1.length]; exact this), List.getElem?_eq_none (by rw [← r2.length]; exact this)]
  | some u =>
    obtain ⟨x, ex, rx⟩ := r1.get e
    obtain ⟨y, ey, ry⟩ := r2.get e
    rw [ex, ey, ih (h1 x (List.mem_of_getElem? ex)) (h2 y (List.mem_of_getElem? ey)) rx.rd ry.rd]
theorem rd_inj (I : Inv X pins σ H s) : ∀ (n : Nat) {x y : PV} {u : Value}, flat n x = true → flat n y = true → RD X.K H x u → RD X.K H y u → x = y := by
  have sc : ∀ {x : PV} {u : Value}, RD X.K H x u → (∀ l, x ≠ .fls l) → RR X.K H x u := fun {x u} r h => by
    cases x with
    | fls l => exact absurd rfl (h l)
    | _ => exact r
  intro n
  induction n with
  | zero =>
    intro x y u hx hy rx ry
    cases x <;> first | (cases hx; done) | skip
    all_goals cases y <;> first | (cases hy; done) | skip
    all_goals
      obtain ⟨v, r1, r2⟩ := sc rx (by intro l z; cases z)
      obtain ⟨v', r1', r2'⟩ := sc ry (by intro l z; cases z)
      simp only [RP] at r1 r1'
      subst r1; subst r1'
      have := RelV.inj r2 r2'
      first | rfl | (cases this; done) | (cases this; rfl)
  | succ n ih =>
    intro x y u hx hy rx ry
    cases x with
    | tup l =>
      obtain ⟨a, its, rfl, rl, p⟩ := rd_tup I rx
      cases y with
      | tup m =>
        obtain ⟨b, its', e, rl', p'⟩ := rd_tup I ry
        cases e
        have := isTuple_inj p p'
        have e2 : its = its' := by simpa using this
        subst e2
        rw [RL.list_inj (n := n) ih hx hy rl rl']
      | fls m =>
        obtain ⟨b, its', e, rl', p'⟩ := rd_lst I ry
        cases e
        exact (not_both p p').elim
      | ref a => cases hy
      | oth a => cases hy
      | _ =>
        obtain ⟨v', r1', r2'⟩ := sc ry (by intro l z; cases z)
        simp only [RP] at r1'
        subst r1'
        simp [L2.RelV] at r2'
    | fls l =>
      obtain ⟨a, its, rfl, rl, p⟩ := rd_lst I rx
      cases y with
      | tup m =>
        obtain ⟨b, its', e, rl', p'⟩ := rd_tup I ry
        cases e
        exact (not_both p' p).elim
      | fls m =>
        obtain ⟨b, its', e, rl', p'⟩ := rd_lst I ry
        cases e
        have := isList_inj p p'
        have e2 : its = its' := by simpa using this
        subst e2
        rw [RL.list_inj (n := n) ih hx hy rl rl']
      | ref a => cases hy
      | oth a => cases hy
      | _ =>
        obtain ⟨v', r1', r2'⟩ := sc ry (by intro l z; cases z)
        simp only [RP] at r1'
        subst r1'
        simp [L2.RelV] at r2'
    | ref a => cases hx
    | oth a => cases hx
    | _ =>
      cases y with
      | tup m =>
        obtain ⟨b, its', e, rl', p'⟩ := rd_tup I ry
        subst e
        obtain ⟨v', r1', r2'⟩ := sc rx (by intro l z; cases z)
        simp only [RP] at r1'
        subst r1'
        simp [L2.RelV] at r2'
      | fls m =>
        obtain ⟨b, its', e, rl', p'⟩ := rd_lst I ry
        subst e
        obtain ⟨v', r1', r2'⟩ := sc rx (by intro l z; cases z)
        simp only [RP] at r1'
        subst r1'
        simp [L2.RelV] at r2'
      | ref a => cases hy
      | oth a => cases hy
      | _ =>
        obtain ⟨v, r1, r2⟩ := sc rx (by intro l z; cases z)
        obtain ⟨v', r1', r2'⟩ := sc ry (by intro l z; cases z)
        simp only [RP] at r1 r1'
        subst r1; subst r1'
        have := RelV.inj r2 r2'
        first | rfl | (cases this; done) | (cases this; rfl)

open SeqAt in
theorem eq_core (I : Inv X pins σ H s) : ∀ (n : Nat) {A : Around} {x y : PV} {u w : Value}, A.units + n < cLine → flat n x = true → flat n y = true → RD X.K H x u → RD X.K H y w → EqAt A s u w (deq x y) ∧ RcAt A s u w (deq x y) := by
  have sc : ∀ {x : PV} {u : Value}, RD X.K H x u → (∀ l, x ≠ .fls l) → RR X.K H x u := fun {x u} r h => by
    cases x with
    | fls l => exact absurd rfl (h l)
    | _ => exact r
  have v_non : ∀ {u : Value}, RD X.K H .non u → u = .none := fun {u} r => by
    obtain ⟨v, r1, r2⟩ := sc r (by intro l z; cases z); simp only [RP] at r1; subst r1; exact r2
  have v_bl : ∀ {b : Bool} {u : Value}, RD X.K H (.bl b) u → u = .bool b := fun {b u} r => by
    obtain ⟨v, r1, r2⟩ := sc r (by intro l z; cases z); simp only [RP] at r1; subst r1; exact r2
  have v_int : ∀ {i : Int} {u : Value}, RD X.K H (.int i) u → ∃ t, u = .int i t := fun {b u} r => by
    obtain ⟨v, r1, r2⟩ := sc r (by intro l z; cases z); simp only [RP] at r1; subst r1; exact r2
  have v_str : ∀ {i : Str} {u : Value}, RD X.K H (.str i) u → ∃ t, u = .str i t := fun {b u} r => by
    obtain ⟨v, r1, r2⟩ := sc r (by intro l z; cases z); simp only [RP] at r1; subst r1; exact r2
  intro n
  induction n with
  | zero =>
    intro A x y u w hu hx hy rx ry
    cases x with
    | non =>
      rw [v_non rx]
      cases y with
      | non => rw [v_non ry]; exact ⟨EqAt.same _, RcAt.none_none⟩
      | bl b => rw [v_bl ry]; exact ⟨EqAt.none_bool b, RcAt.none_bool b⟩
      | int b => obtain ⟨t, rfl⟩ := v_int ry; exact ⟨EqAt.none_int b t, RcAt.none_int b t⟩
      | str b => obtain ⟨t, rfl⟩ := v_str ry; exact ⟨EqAt.none_str b t, RcAt.none_str b t⟩
      | _ => cases hy
    | bl a =>
      rw [v_bl rx]
      cases y with
      | non => rw [v_non ry]; exact ⟨EqAt.bool_none a, RcAt.bool_none a⟩
      | bl b => rw [v_bl ry]; exact ⟨EqAt.bool_bool a b, RcAt.bool_bool a b⟩
      | int b => obtain ⟨t, rfl⟩ := v_int ry; exact ⟨EqAt.bool_int a b t, RcAt.bool_int a b t⟩
      | str b => obtain ⟨t, rfl⟩ := v_str ry; exact ⟨EqAt.bool_str a b t, RcAt.bool_str a b t⟩
      | _ => cases hy
    | int a =>
      obtain ⟨t0, rfl⟩ := v_int rx
      cases y with
      | non => rw [v_non ry]; exact ⟨EqAt.int_none a t0, RcAt.int_none a t0⟩
      | bl b => rw [v_bl ry]; exact ⟨EqAt.int_bool a t0 b, RcAt.int_bool a t0 b⟩
      | int b => obtain ⟨t, rfl⟩ := v_int ry; exact ⟨EqAt.int_int a t0 b t, RcAt.int_int a t0 b t⟩
      | str b => obtain ⟨t, rfl⟩ := v_str ry; exact ⟨EqAt.int_str a t0 b t, RcAt.int_str a t0 b t⟩
      | _ => cases hy
    | str a =>
      obtain ⟨t0, rfl⟩ := v_str rx
      cases y with
      | non => rw [v_non ry]; exact ⟨EqAt.str_none a t0, RcAt.str_none a t0⟩
      | bl b => rw [v_bl ry]; exact ⟨EqAt.str_bool a t0 b, RcAt.str_bool a t0 b⟩
      | int b => obtain ⟨t, rfl⟩ := v_int ry; exact ⟨EqAt.str_int a t0 b t, RcAt.str_int a t0 b t⟩
      | str b => obtain ⟨t, rfl⟩ := v_str ry; exact ⟨EqAt.str_str a t0 b t, RcAt.str_str a t0 b t⟩
      | _ => cases hy
    | _ => cases hx
  | succ n ih =>
    intro A x y u w hu hx hy rx ry
    have hu0 : A.units < cLine := by omega
    have hu1 : A.in1.units + n < cLine := by show A.units + 1 + n < cLine; omega
    cases x with
    | tup l =>
      obtain ⟨a, its, rfl, rl, p⟩ := rd_tup I rx
      cases y with
      | non => rw [v_non ry]; exact ⟨EqAt.tuple_none p hu0, RcAt.tuple_none p hu0⟩
      | bl b => rw [v_bl ry]; exact ⟨EqAt.tuple_bool b p hu0, RcAt.tuple_bool b p hu0⟩
      | int b => obtain ⟨t, rfl⟩ := v_int ry; exact ⟨EqAt.tuple_int b t p hu0, RcAt.tuple_int b t p hu0⟩
      | str b => obtain ⟨t, rfl⟩ := v_str ry; exact ⟨EqAt.tuple_str b t p hu0, RcAt.tuple_str b t p hu0⟩
      | tup m =>
        obtain ⟨b, its', rfl, rl', p'⟩ := rd_tup I ry
        have key : RcAt A s (.ref a) (.ref b) (deq (.tup l) (.tup m)) := by
          have := RcAt.tuples (e := fun i => deq (l.getD i .non) (m.getD i .non)) p p' hu0 fun j h1 h2 => by
            have h1' : j < its.length := by simpa using h1
            have h2' : j < its'.length := by simpa using h2
            obtain ⟨x, ex, rx'⟩ := rl.get (List.getElem?_eq_getElem h1')
            obtain ⟨y, ey, ry'⟩ := rl'.get (List.getElem?_eq_getElem h2')
            have q := ih hu1 (List.all_eq_true.mp hx x (List.mem_of_getElem? ex)) (List.all_eq_true.mp hy y (List.mem_of_getElem? ey)) rx'.rd ry'.rd
            have e1 : l.getD j .non = x := by rw [List.getD_eq_getElem?_getD, ex]; rfl
            have e2 : m.getD j .non = y := by rw [List.getD_eq_getElem?_getD, ey]; rfl
            rw [e1, e2]
            simpa using q.1
          have e : deq (.tup l) (.tup m) = ((List.range (min its.toArray.size its'.toArray.size)).all (fun i => deq (l.getD i .non) (m.getD i .non)) && its.toArray.size == its'.toArray.size) := by
            simp only [deq, deqs_range, List.size_toArray, rl.length, rl'.length]
          rw [e]; exact this
        refine ⟨?_, key⟩
        by_cases hab : a = b
        · subst hab
          have := rd_inj I (n + 1) hx hy rx ry
          rw [← this, deq_refl hx]; exact EqAt.same _
        · exact EqAt.of_refs hab key
      | fls m =>
        obtain ⟨b, its', rfl, rl', p'⟩ := rd_lst I ry
        exact ⟨EqAt.tuple_list p p' hu0, RcAt.tuple_list p p' hu0⟩
      | _ => cases hy
    | fls l =>
      obtain ⟨a, its, rfl, rl, p⟩ := rd_lst I rx
      cases y with
      | non => rw [v_non ry]; exact ⟨EqAt.list_none p hu0, RcAt.list_none p hu0⟩
      | bl b => rw [v_bl ry]; exact ⟨EqAt.list_bool b p hu0, RcAt.list_bool b p hu0⟩
      | int b => obtain ⟨t, rfl⟩ := v_int ry; exact ⟨EqAt.list_int b t p hu0, RcAt.list_int b t p hu0⟩
      | str b => obtain ⟨t, rfl⟩ := v_str ry; exact ⟨EqAt.list_str b t p hu0, RcAt.list_str b t p hu0⟩
      | tup m =>
        obtain ⟨b, its', rfl, rl', p'⟩ := rd_tup I ry
        exact ⟨EqAt.list_tuple p p' hu0, RcAt.list_tuple p p' hu0⟩
      | fls m =>
        obtain ⟨b, its', rfl, rl', p'⟩ := rd_lst I ry
        have key : RcAt A s (.ref a) (.ref b) (deq (.fls l) (.fls m)) := by
          by_cases hs : its.length = its'.length
          · have := RcAt.lists (e := fun i => deq (l.getD i .non) (m.getD i .non)) p p' (by simpa using hs) hu0 fun j h1 h2 => by
              have h1' : j < its.length := by simpa using h1
              have h2' : j < its'.length := by simpa using h2
              obtain ⟨x, ex, rx'⟩ := rl.get (List.getElem?_eq_getElem h1')
              obtain ⟨y, ey, ry'⟩ := rl'.get (List.getElem?_eq_getElem h2')
              have q := ih hu1 (List.all_eq_true.mp hx x (List.mem_of_getElem? ex)) (List.all_eq_true.mp hy y (List.mem_of_getElem? ey)) rx'.rd ry'.rd
              have e1 : l.getD j .non = x := by rw [List.getD_eq_getElem?_getD, ex]; rfl
              have e2 : m.getD j .non = y := by rw [List.getD_eq_getElem?_getD, ey]; rfl
              rw [e1, e2]
              simpa using q.1
            have e : deq (.fls l) (.fls m) = (List.range its.toArray.size).all (fun i => deq (l.getD i .non) (m.getD i .non)) := by
              have e0 : l.length = m.length := by rw [← rl.length, ← rl'.length]; exact hs
              simp [deq, deqs_range, rl.length, e0]
            rw [e]; exact this
          · have e : deq (.fls l) (.fls m) = false := by
              have e0 : l.length ≠ m.length := by rw [← rl.length, ← rl'.length]; exact hs
              simp [deq, deqs_range, e0]
            rw [e]
            exact RcAt.lists_lengths p p' (by simpa using hs) hu0
        refine ⟨?_, key⟩
        by_cases hab : a = b
        · subst hab
          have := rd_inj I (n + 1) hx hy rx ry
          rw [← this, deq_refl hx]; exact EqAt.same _
        · exact EqAt.of_refs hab key
      | _ => cases hy
    | ref a => cases hx
    | oth a => cases hx
    | non =>
      cases y with
      | tup m => obtain ⟨b, its', rfl, rl', p'⟩ := rd_tup I ry; rw [v_non rx]; exact ⟨EqAt.none_tuple p' hu0, RcAt.none_tuple p' hu0⟩
      | fls m => obtain ⟨b, its', rfl, rl', p'⟩ := rd_lst I ry; rw [v_non rx]; exact ⟨EqAt.none_list p' hu0, RcAt.none_list p' hu0⟩
      | ref a => cases hy
      | oth a => cases hy
      | _ => exact ih (by omega) (by cases n <;> rfl) (by cases n <;> rfl) rx ry
    | bl i =>
      cases y with
      | tup m => obtain ⟨b, its', rfl, rl', p'⟩ := rd_tup I ry; rw [v_bl rx]; exact ⟨EqAt.bool_tuple i p' hu0, RcAt.bool_tuple i p' hu0⟩
      | fls m => obtain ⟨b, its', rfl, rl', p'⟩ := rd_lst I ry; rw [v_bl rx]; exact ⟨EqAt.bool_list i p' hu0, RcAt.bool_list i p' hu0⟩
      | ref a => cases hy
      | oth a => cases hy
      | _ => exact ih (by omega) (by cases n <;> rfl) (by cases n <;> rfl) rx ry
    | int i =>
      cases y with
      | tup m => obtain ⟨b, its', rfl, rl', p'⟩ := rd_tup I ry; obtain ⟨t, rfl⟩ := v_int rx; exact ⟨EqAt.int_tuple i t p' hu0, RcAt.int_tuple i t p' hu0⟩
      | fls m => obtain ⟨b, its', rfl, rl', p'⟩ := rd_lst I ry; obtain ⟨t, rfl⟩ := v_int rx; exact ⟨EqAt.int_list i t p' hu0, RcAt.int_list i t p' hu0⟩
      | ref a => cases hy
      | oth a => cases hy
      | _ => exact ih (by omega) (by cases n <;> rfl) (by cases n <;> rfl) rx ry
    | str i =>
      cases y with
      | tup m => obtain ⟨b, its', rfl, rl', p'⟩ := rd_tup I ry; obtain ⟨t, rfl⟩ := v_str rx; exact ⟨EqAt.str_tuple i t p' hu0, RcAt.str_tuple i t p' hu0⟩
      | fls m => obtain ⟨b, its', rfl, rl', p'⟩ := rd_lst I ry; obtain ⟨t, rfl⟩ := v_str rx; exact ⟨EqAt.str_list i t p' hu0, RcAt.str_list i t p' hu0⟩
      | ref a => cases hy
      | oth a => cases hy
      | _ => exact ih (by omega) (by cases n <;> rfl) (by cases n <;> rfl) rx ry
end
end U


set_option linter.all false
set_option maxRecDepth 100000
set_option maxHeartbeats 4000000
namespace U
open PySem PySem.Spec PyProof.Rows L2
variable {B : Bs}
section
variable {X : Cx} {pins : List (Addr × Obj)} {σ : L2.St} {H : Hp} {s : Shared}
open SeqAt in
theorem ne_core (I : Inv X pins σ H s) : ∀ (n : Nat) {A : Around} {x y : PV} {u w : Value}, A.units + n < cLine → flat n x = true → flat n y = true → RD X.K H x u → RD X.K H y w → RcNeAt A s u w (!deq x y) := by
  have sc : ∀ {x : PV} {u : Value}, RD X.K H x u → (∀ l, x ≠ .fls l) → RR X.K H x u := fun {x u} r h => by
    cases x with
    | fls l => exact absurd rfl (h l)
    | _ => exact r
  have v_non : ∀ {u : Value}, RD X.K H .non u → u = .none := fun {u} r => by
    obtain ⟨v, r1, r2⟩ := sc r (by intro l z; cases z); simp only [RP] at r1; subst r1; exact r2
  have v_bl : ∀ {b : Bool} {u : Value}, RD X.K H (.bl b) u → u = .bool b := fun {b u} r => by
    obtain ⟨v, r1, r2⟩ := sc r (by intro l z; cases z); simp only [RP] at r1; subst r1; exact r2
  have v_int : ∀ {i : Int} {u : Value}, RD X.K H (.int i) u → ∃ t, u = .int i t := fun {b u} r => by
    obtain ⟨v, r1, r2⟩ := sc r (by intro l z; cases z); simp only [RP] at r1; subst r1; exact r2
  have v_str : ∀ {i : Str} {u : Value}, RD X.K H (.str i) u → ∃ t, u = .str i t := fun {b u} r => by
    obtain ⟨v, r1, r2⟩ := sc r (by intro l z; cases z); simp only [RP] at r1; subst r1; exact r2
  intro n
  induction n with
  | zero =>
    intro A x y u w hu hx hy rx ry
    cases x with
    | non =>
      rw [v_non rx]
      cases y with
      | non => rw [v_non ry]; exact RcNeAt.none_none
      | bl b => rw [v_bl ry]; exact RcNeAt.none_bool b
      | int b => obtain ⟨t, rfl⟩ := v_int ry; exact RcNeAt.none_int b t
      | str b => obtain ⟨t, rfl⟩ := v_str ry; exact RcNeAt.none_str b t
      | _ => cases hy
    | bl a =>
      rw [v_bl rx]
      cases y with
      | non => rw [v_non ry]; exact RcNeAt.bool_none a
      | bl b => rw [v_bl ry]; exact RcNeAt.bool_bool a b
      | int b => obtain ⟨t, rfl⟩ := v_int ry; exact RcNeAt.bool_int a b t
      | str b => obtain ⟨t, rfl⟩ := v_str ry; exact RcNeAt.bool_str a b t
      | _ => cases hy
    | int a =>
      obtain ⟨t0, rfl⟩ := v_int rx
      cases y with
      | non => rw [v_non ry]; exact RcNeAt.int_none a t0
      | bl b => rw [v_bl ry]; exact RcNeAt.int_bool a t0 b
      | int b => obtain ⟨t, rfl⟩ := v_int ry; exact RcNeAt.int_int a t0 b t
      | str b => obtain ⟨t, rfl⟩ := v_str ry; exact RcNeAt.int_str a t0 b t
      | _ => cases hy
    | str a =>
      obtain ⟨t0, rfl⟩ := v_str rx
      cases y with
      | non => rw [v_non ry]; exact RcNeAt.str_none a t0
      | bl b => rw [v_bl ry]; exact RcNeAt.str_bool a t0 b
      | int b => obtain ⟨t, rfl⟩ := v_int ry; exact RcNeAt.str_int a t0 b t
      | str b => obtain ⟨t, rfl⟩ := v_str ry; exact RcNeAt.str_str a t0 b t
      | _ => cases hy
    | _ => cases hx
  | succ n ih =>
    intro A x y u w hu hx hy rx ry
    have hu0 : A.units < cLine := by omega
    have hu1 : A.in1.units + n < cLine := by show A.units + 1 + n < cLine; omega
    cases x with
    | tup l =>
      obtain ⟨a, its, rfl, rl, p⟩ := rd_tup I rx
      cases y with
      | non => rw [v_non ry]; exact RcNeAt.tuple_none p hu0
      | bl b => rw [v_bl ry]; exact RcNeAt.tuple_bool b p hu0
      | int b => obtain ⟨t, rfl⟩ := v_int ry; exact RcNeAt.tuple_int b t p hu0
      | str b => obtain ⟨t, rfl⟩ := v_str ry; exact RcNeAt.tuple_str b t p hu0
      | tup m =>
        obtain ⟨b, its', rfl, rl', p'⟩ := rd_tup I ry
        have key : RcNeAt A s (.ref a) (.ref b) (!deq (.tup l) (.tup m)) := by
          have := RcNeAt.tuples (e := fun i => deq (l.getD i .non) (m.getD i .non)) p p' hu0 fun j h1 h2 => by
            have h1' : j < its.length := by simpa using h1
            have h2' : j < its'.length := by simpa using h2
            obtain ⟨x, ex, rx'⟩ := rl.get (List.getElem?_eq_getElem h1')
            obtain ⟨y, ey, ry'⟩ := rl'.get (List.getElem?_eq_getElem h2')
            have q := eq_core I n hu1 (List.all_eq_true.mp hx x (List.mem_of_getElem? ex)) (List.all_eq_true.mp hy y (List.mem_of_getElem? ey)) rx'.rd ry'.rd
            have e1 : l.getD j .non = x := by rw [List.getD_eq_getElem?_getD, ex]; rfl
            have e2 : m.getD j .non = y := by rw [List.getD_eq_getElem?_getD, ey]; rfl
            rw [e1, e2]
            simpa using q.1
          have e : deq (.tup l) (.tup m) = ((List.range (min its.toArray.size its'.toArray.size)).all (fun i => deq (l.getD i .non) (m.getD i .non)) && its.toArray.size == its'.toArray.size) := by
            simp only [deq, deqs_range, List.size_toArray, rl.length, rl'.length]
          rw [e]; exact this
        exact key
      | fls m =>
        obtain ⟨b, its', rfl, rl', p'⟩ := rd_lst I ry
        exact RcNeAt.tuple_list p p' hu0
      | _ => cases hy
    | fls l =>
      obtain ⟨a, its, rfl, rl, p⟩ := rd_lst I rx
      cases y with
      | non => rw [v_non ry]; exact RcNeAt.list_none p hu0
      | bl b => rw [v_bl ry]; exact RcNeAt.list_bool b p hu0
      | int b => obtain ⟨t, rfl⟩ := v_int ry; exact RcNeAt.list_int b t p hu0
      | str b => obtain ⟨t, rfl⟩ := v_str ry; exact RcNeAt.list_str b t p hu0
      | tup m =>
        obtain ⟨b, its', rfl, rl', p'⟩ := rd_tup I ry
        exact RcNeAt.list_tuple p p' hu0
      | fls m =>
        obtain ⟨b, its', rfl, rl', p'⟩ := rd_lst I ry
        have key : RcNeAt A s (.ref a) (.ref b) (!deq (.fls l) (.fls m)) := by
          by_cases hs : its.length = its'.length
          · have := RcNeAt.lists (e := fun i => deq (l.getD i .non) (m.getD i .non)) p p' (by simpa using hs) hu0 fun j h1 h2 => by
              have h1' : j < its.length := by simpa using h1
              have h2' : j < its'.length := by simpa using h2
              obtain ⟨x, ex, rx'⟩ := rl.get (List.getElem?_eq_getElem h1')
              obtain ⟨y, ey, ry'⟩ := rl'.get (List.getElem?_eq_getElem h2')
              have q := eq_core I n hu1 (List.all_eq_true.mp hx x (List.mem_of_getElem? ex)) (List.all_eq_true.mp hy y (List.mem_of_getElem? ey)) rx'.rd ry'.rd
              have e1 : l.getD j .non = x := by rw [List.getD_eq_getElem?_getD, ex]; rfl
              have e2 : m.getD j .non = y := by rw [List.getD_eq_getElem?_getD, ey]; rfl
              rw [e1, e2]
              simpa using q.1
            have e : deq (.fls l) (.fls m) = (List.range its.toArray.size).all (fun i => deq (l.getD i .non) (m.getD i .non)) := by
              have e0 : l.length = m.length := by rw [← rl.length, ← rl'.length]; exact hs
              simp [deq, deqs_range, rl.length, e0]
            rw [e]; exact this
          · have e : deq (.fls l) (.fls m) = false := by
              have e0 : l.length ≠ m.length := by rw [← rl.length, ← rl'.length]; exact hs
              simp [deq, deqs_range, e0]
            rw [e]
            exact RcNeAt.lists_lengths p p' (by simpa using hs) hu0
        exact key
      | _ => cases hy
    | ref a => cases hx
    | oth a => cases hx
    | non =>
      cases y with
      | tup m => obtain ⟨b, its', rfl, rl', p'⟩ := rd_tup I ry; rw [v_non rx]; exact RcNeAt.none_tuple p' hu0
      | fls m => obtain ⟨b, its', rfl, rl', p'⟩ := rd_lst I ry; rw [v_non rx]; exact RcNeAt.none_list p' hu0
      | ref a => cases hy
      | oth a => cases hy
      | _ => exact ih (by omega) (by cases n <;> rfl) (by cases n <;> rfl) rx ry
    | bl i =>
      cases y with
      | tup m => obtain ⟨b, its', rfl, rl', p'⟩ := rd_tup I ry; rw [v_bl rx]; exact RcNeAt.bool_tuple i p' hu0
      | fls m => obtain ⟨b, its', rfl, rl', p'⟩ := rd_lst I ry; rw [v_bl rx]; exact RcNeAt.bool_list i p' hu0
      | ref a => cases hy
      | oth a => cases hy
      | _ => exact ih (by omega) (by cases n <;> rfl) (by cases n <;> rfl) rx ry
    | int i =>
      cases y with
      | tup m => obtain ⟨b, its', rfl, rl', p'⟩ := rd_tup I ry; obtain ⟨t, rfl⟩ := v_int rx; exact RcNeAt.int_tuple i t p' hu0
      | fls m => obtain ⟨b, its', rfl, rl', p'⟩ := rd_lst I ry; obtain ⟨t, rfl⟩ := v_int rx; exact RcNeAt.int_list i t p' hu0
      | ref a => cases hy
      | oth a => cases hy
      | _ => exact ih (by omega) (by cases n <;> rfl) (by cases n <;> rfl) rx ry
    | str i =>
      cases y with
      | tup m => obtain ⟨b, its', rfl, rl', p'⟩ := rd_tup I ry; obtain ⟨t, rfl⟩ := v_str rx; exact RcNeAt.str_tuple i t p' hu0
      | fls m => obtain ⟨b, its', rfl, rl', p'⟩ := rd_lst I ry; obtain ⟨t, rfl⟩ := v_str rx; exact RcNeAt.str_list i t p' hu0
      | ref a => cases hy
      | oth a => cases hy
      | _ => exact ih (by omega) (by cases n <;> rfl) (by cases n <;> rfl) rx ry

def RDv (K : PySem.W.Frag) (H : Hp) (d : PV) (x : V) : Prop := match d with
  | .fls l => ∃ a vs, x = .ref a ∧ SqL K H a vs ∧ RPs K H l vs
  | d => RP K H d x
theorem RDv.rd {K : PySem.W.Frag} {d : PV} {x : V} {u : Value} (h : RDv K H d x) (r : L2.RelV x u) : RD K H d u := by
  cases d with
  | fls l => obtain ⟨a, vs, rfl, q, rr⟩ := h; cases r; exact ⟨a, vs, rfl, q, rr⟩
  | _ => exact ⟨x, h, r⟩
def withD (x : PV) (H : PHp) (k : PV → Prop) : Prop := match x with
  | .ref a => ∃ l, H a = some (.lst l) ∧ k (.fls l)
  | x => k x
theorem withD.ex {K : PySem.W.Frag} {σ' : St'} {x : PV} {v : V} {H' : PHp} {k : PV → Prop} (h : withD x H' k) (s : SR K B σ' H' σ H) (r : RP K H x v) : ∃ d, RDv K H d v ∧ k d := by
  cases x with
  | ref a =>
    obtain ⟨l, e, h⟩ := h
    obtain ⟨us, q, r2⟩ := s.hp _ _ e
    simp only [RP] at r
    exact ⟨.fls l, ⟨a, us, r, SqL.of q, r2⟩, h⟩
  | fls l =>
    simp only [RP] at r
    obtain ⟨a, us, e, q, r⟩ := r
    exact ⟨.fls l, ⟨a, us, e, q.sq, r⟩, h⟩
  | non => exact ⟨.non, r, h⟩
  | bl b => exact ⟨.bl b, r, h⟩
  | int b => exact ⟨.int b, r, h⟩
  | str b => exact ⟨.str b, r, h⟩
  | tup b => exact ⟨.tup b, r, h⟩
  | oth b => exact ⟨.oth b, r, h⟩
def rEqU (K : PySem.W.Frag) (g : Bool → Bool) : R2 := fun x y H Q => ∃ d1 d2, flat 9 d1 = true ∧ flat 9 d2 = true ∧ RDv K H d1 x ∧ RDv K H d2 y ∧ Q (.bl (g (deq d1 d2))) H
theorem op_eqU (hu : X.A.units + 64 < cLine) : OpR X (compareOp .Eq) (rEqU X.K fun b => b) := by
  intro pins s σ H x y v u Q I rx ry h
  obtain ⟨d1, d2, f1, f2, r1, r2, q⟩ := h
  exact (eq_core I 9 (by omega) f1 f2 (r1.rd rx) (r2.rd ry)).2 _ _ _ _ ⟨.bl _, H, I, rfl, q⟩
theorem op_neU (hu : X.A.units + 64 < cLine) : OpR X (compareOp .NotEq) (rEqU X.K fun b => !b) := by
  intro pins s σ H x y v u Q I rx ry h
  obtain ⟨d1, d2, f1, f2, r1, r2, q⟩ := h
  exact ne_core I 9 (by omega) f1 f2 (r1.rd rx) (r2.rd ry) _ _ _ _ ⟨.bl _, H, I, rfl, q⟩
def uEqG (g : Bool → Bool) : R2' := fun x y H Q => withD x H fun d1 => withD y H fun d2 => flat 9 d1 = true ∧ flat 9 d2 = true ∧ Q (.bl (g (deq d1 d2))) H
theorem vr_eq {K : PySem.W.Frag} {g : Bool → Bool} : VR K B (uEqG g) (rEqU K g) := by
  intro σ' σ H' H x' y' x y Q' Q s rx ry h k
  obtain ⟨d1, r1, h1⟩ := withD.ex h s rx
  obtain ⟨d2, r2, f1, f2, q⟩ := withD.ex h1 s ry
  exact ⟨d1, d2, f1, f2, r1, r2, k _ H' _ H q (by simp [RP]) s (Ev.refl _ _)⟩
def rInU (K : PySem.W.Frag) (g : Bool → Bool) : R2 := fun x y H Q => ∃ d p l us, flat 8 d = true ∧ RDv K H d x ∧ y = .ref p ∧ l.all (flat 8) = true ∧ RPs K H l us ∧ (SqL K H p us ∨ SqT K H p us) ∧ Q (.bl (g (l.any fun z => deq z d))) H
open Classical in
theorem in_items (I : Inv X pins σ H s) {A : Around} {d : PV} {v : Value} {l : List PV} {its : List Value} (hu : A.units + 20 < cLine) (fd : flat 8 d = true) (rd : RD X.K H d v) (fl : l.all (flat 8) = true) (rl : RL X.K H l its) :
    ∃ e : Value → Bool, (∀ y, y ∈ its.toArray → SeqAt.EqAt A.in1 s y v (e y)) ∧ its.toArray.any e = l.any fun z => deq z d := by
  refine ⟨fun u => decide (∃ z, flat 8 z = true ∧ RD X.K H z u ∧ deq z d = true), fun y hy => ?_, ?_⟩
  · have hy' : y ∈ its := by simpa using hy
    obtain ⟨i, hi⟩ := List.mem_iff_getElem?.mp hy'
    obtain ⟨z, ez, rz⟩ := rl.get hi
    have fz := List.all_eq_true.mp fl z (List.mem_of_getElem? ez)
    have q := (eq_core I 8 (A := A.in1) (by show A.units + 1 + 8 < cLine; omega) fz fd rz.rd rd).1
    have e : decide (∃ z, flat 8 z = true ∧ RD X.K H z y ∧ deq z d = true) = deq z d := by
      rw [Bool.eq_iff_iff, decide_eq_true_iff]
      constructor
      · rintro ⟨z', f', r', e'⟩
        rw [rd_inj I 8 fz f' rz.rd r']; exact e'
      · intro e; exact ⟨z, fz, rz.rd, e⟩
    show SeqAt.EqAt A.in1 s y v (decide _)
    rw [e]; exact q
  · rw [Bool.eq_iff_iff]
    simp only [List.any_toArray, List.any_eq_true, decide_eq_true_iff]
    constructor
    · rintro ⟨u, hu', z, fz, rz, ez⟩
      obtain ⟨i, hi⟩ := List.mem_iff_getElem?.mp hu'
      obtain ⟨z2, ez2, rz2⟩ := rl.get hi
      have fz2 := List.all_eq_true.mp fl z2 (List.mem_of_getElem? ez2)
      refine ⟨z2, List.mem_of_getElem? ez2, ?_⟩
      rw [rd_inj I 8 fz2 fz rz2.rd rz]; exact ez
    · rintro ⟨z, hz, ez⟩
      obtain ⟨i, hi⟩ := List.mem_iff_getElem?.mp hz
      have hlt : i < its.length := by
        have := (List.getElem?_eq_some_iff.mp hi).1
        rw [rl.length]; exact this
      obtain ⟨z2, ez2, rz2⟩ := rl.get (List.getElem?_eq_getElem hlt)
      rw [hi] at ez2; cases ez2
      exact ⟨_, List.getElem_mem hlt, z, List.all_eq_true.mp fl z hz, rz2.rd, ez⟩
theorem op_inU (hu : X.A.units + 64 < cLine) : OpR X (compareOp .In) (rInU X.K fun b => b) := by
  intro pins s σ H x y v u Q I rx ry h
  obtain ⟨d, p, l, us, fd, rd, rfl, fl, rl, hq, q⟩ := h
  cases ry
  rcases hq with hq | hq
  · obtain ⟨its, rv, pl, _⟩ := I.list hq
    obtain ⟨e, h1, h2⟩ := in_items I (A := X.A) (by omega) fd (rd.rd rx) fl ⟨us, rl, rv⟩
    exact SeqAt.in_listAt e pl.isList h1 (by rw [h2]; exact ⟨.bl _, H, I, rfl, q⟩)
  · obtain ⟨its, rv, pl, _⟩ := I.tuple hq
    obtain ⟨e, h1, h2⟩ := in_items I (A := X.A) (by omega) fd (rd.rd rx) fl ⟨us, rl, rv⟩
    exact SeqAt.in_tupleAt e pl h1 (by rw [h2]; exact ⟨.bl _, H, I, rfl, q⟩)
def uInG (g : Bool → Bool) : R2' := fun x y H Q => withD x H fun d => withS y H fun l => flat 8 d = true ∧ l.all (flat 8) = true ∧ Q (.bl (g (l.any fun z => deq z d))) H
theorem vr_in {K : PySem.W.Frag} {g : Bool → Bool} : VR K B (uInG g) (rInU K g) := by
  intro σ' σ H' H x' y' x y Q' Q s rx ry h k
  obtain ⟨d1, r1, h1⟩ := withD.ex h s rx
  obtain ⟨l, us, p, rfl, r2, hq, f1, f2, q⟩ := withS.ex h1 s ry
  exact ⟨d1, p, l, us, f1, r1, rfl, f2, r2, hq, k _ H' _ H q (by simp [RP]) s (Ev.refl _ _)⟩
def uIsN (g : Bool → Bool) : R2' := fun x y H Q => match y, x with
  | .non, .non => Q (.bl (g true)) H
  | .non, .oth _ => False
  | .non, _ => Q (.bl (g false)) H
  | _, _ => False
theorem isN_ex {K : PySem.W.Frag} {g : Bool → Bool} {x y : PV} {v w : V} {H' : PHp} {Q' : VK'} (h : uIsN g x y H' Q') (rx : RP K H x v) (ry : RP K H y w) : w = .non ∧ Q' (.bl (g (decide (v = .non)))) H' := by
  cases y with
  | non =>
    simp only [RP] at ry
    refine ⟨ry, ?_⟩
    cases x with
    | non => simp only [RP] at rx; subst rx; exact h
    | oth _ => exact h.elim
    | tup l =>
      simp only [RP] at rx
      obtain ⟨a, us, rfl, _⟩ := rx
      exact h
    | fls l =>
      simp only [RP] at rx
      obtain ⟨a, us, rfl, _⟩ := rx
      exact h
    | _ => simp only [RP] at rx; subst rx; exact h
  | _ => cases x <;> exact h.elim
theorem vr_isN {K : PySem.W.Frag} : VR K B (uIsN fun b => b) (fun x y H Q => y = .non ∧ Q (.bl (decide (x = .non))) H) := by
  intro σ' σ H' H x' y' x y Q' Q s rx ry h k
  obtain ⟨e, q⟩ := isN_ex h rx ry
  exact ⟨e, k _ H' _ H q (by simp [RP]) s (Ev.refl _ _)⟩
inductive BT where | non | bool | int | str | list | tuple
def BT.nm : BT → String | .non => "NoneType" | .bool => "bool" | .int => "int" | .str => "str" | .list => "list" | .tuple => "tuple"
def BT.sub : BT → BT → Bool
  | .non, .non => true | .bool, .bool => true | .int, .int => true | .str, .str => true | .list, .list => true | .tuple, .tuple => true
  | .bool, .int => true
  | _, _ => false
theorem kit_bt (K : PySem.W.Frag) (t c : BT) : PySem.W.kitOne K (.type t.nm) (.type c.nm) = some (t.sub c) := by
  cases t <;> cases c <;> kernel_rfl
def btV (K : PySem.W.Frag) (H : Hp) (t : BT) (x : V) : Prop := match t with
  | .non => x = .non
  | .bool => ∃ b, x = .bl b
  | .int => ∃ b, x = .int b
  | .str => ∃ b, x = .str b
  | .list => ∃ a us, x = .ref a ∧ SqL K H a us
  | .tuple => ∃ a us, x = .ref a ∧ SqT K H a us
theorem call_isiB (c : BT) : CallR X (.builtin "isinstance") (fun xs H Q => ∃ x t, xs = [x, .ty c.nm] ∧ btV X.K H t x ∧ Q (.bl (t.sub c)) H) := by
  intro pins s σ H xs us Q I r h
  obtain ⟨x, t, rfl, ht, q⟩ := h
  obtain ⟨u, w', rfl, rx, rc⟩ := vals2 r
  have e1 : w' = Value.type c.nm := rc
  subst e1
  have k := kit_bt X.K t c
  have fin : ∀ tk, EP X pins σ Q (.bool (t.sub c)) { s with toks := tk } := fun tk => ⟨.bl _, H, I.tok _, rfl, q⟩
  cases t with
  | non => cases (show x = V.non from ht); exact isinst_ok I rx .non k fin
  | bool => obtain ⟨b, rfl⟩ := ht; exact isinst_ok I rx (.bl b) k fin
  | int => obtain ⟨b, rfl⟩ := ht; exact isinst_ok I rx (.int b) k fin
  | str => obtain ⟨b, rfl⟩ := ht; exact isinst_ok I rx (.str b) k fin
  | list =>
    obtain ⟨a, us, rfl, hq⟩ := ht
    cases rx
    obtain ⟨its, rv, pl, _⟩ := I.list hq
    obtain ⟨o, e, hc, _⟩ := pl.isList
    exact PySem.W.kia_one PySem.W.kitx_list I.kIn ⟨o, e, hc⟩ k (fun z => nomatch z) fin
  | tuple =>
    obtain ⟨a, us, rfl, hq⟩ := ht
    cases rx
    obtain ⟨its, rv, pl, _⟩ := I.tuple hq
    obtain ⟨o, e, hc, _⟩ := pl
    exact PySem.W.kia_one PySem.W.kitx_tuple I.kIn ⟨o, e, hc⟩ k (fun z => nomatch z) fin
def withTy (x : PV) (H : PHp) (k : BT → Prop) : Prop := match x with
  | .non => k .non
  | .bl _ => k .bool
  | .int _ => k .int
  | .str _ => k .str
  | .tup _ => k .tuple
  | .fls _ => k .list
  | .ref a => ∃ l, H a = some (.lst l) ∧ k .list
  | _ => False
theorem withTy.ex {K : PySem.W.Frag} {σ' : St'} {x : PV} {v : V} {H' : PHp} {k : BT → Prop} (h : withTy x H' k) (s : SR K B σ' H' σ H) (r : RP K H x v) : ∃ t, btV K H t v ∧ k t := by
  cases x with
  | non => simp only [RP] at r; exact ⟨.non, r, h⟩
  | bl b => simp only [RP] at r; exact ⟨.bool, ⟨b, r⟩, h⟩
  | int b => simp only [RP] at r; exact ⟨.int, ⟨b, r⟩, h⟩
  | str b => simp only [RP] at r; exact ⟨.str, ⟨b, r⟩, h⟩
  | tup l => simp only [RP] at r; obtain ⟨a, us, e, q, _⟩ := r; exact ⟨.tuple, ⟨a, us, e, q⟩, h⟩
  | fls l => simp only [RP] at r; obtain ⟨a, us, e, q, _⟩ := r; exact ⟨.list, ⟨a, us, e, q.sq⟩, h⟩
  | ref a =>
    simp only [RP] at r
    obtain ⟨l, e, h⟩ := h
    obtain ⟨us, q, _⟩ := s.hp _ _ e
    exact ⟨.list, ⟨a, us, r, SqL.of q⟩, h⟩
  | oth _ => exact h.elim
def uIsi (c : BT) : List PV → PHp → VK' → Prop := fun xs H Q => match xs with
  | [x, .oth (.ty n)] => n = c.nm ∧ withTy x H fun t => Q (.bl (t.sub c)) H
  | _ => False
theorem vc_isi {K : PySem.W.Frag} (c : BT) : VC K B (uIsi c) (fun xs H Q => ∃ x t, xs = [x, .ty c.nm] ∧ btV K H t x ∧ Q (.bl (t.sub c)) H) := by
  intro σ' σ H' H xs' xs Q' Q s r h k
  unfold uIsi at h
  split at h
  · rename_i x n
    obtain ⟨rfl, h⟩ := h
    simp only [RPs, RP] at r
    obtain ⟨u, r1, rfl, rx, w, r2, rfl, rfl, rfl⟩ := r
    obtain ⟨t, bt, h⟩ := withTy.ex h s rx
    exact ⟨u, t, rfl, bt, k _ H' _ H h (by simp [RP]) s (Ev.refl _ _)⟩
  · exact h.elim
theorem qe_bty {x : Str} {n : String} {pos : Pos} (hg : Gl X x) (hm : X.mg x = none) (hv : bootBuiltins x = some (.type n)) (hn : x ≠ "__name__" := by decide) (hd : (x == ("__debug__" : Str)) = false := by decide) : PE' X B (.Name x pos) (uC (.oth (.ty n))) :=
  pe_imp (pe_bltn (v := .ty n) hg hm hv rfl hn hd) fun _ _ _ h => lowC (fun _ => by simp [RP]) h
variable {e o : Expr} {es : List Expr} {to : TE'} {t : TA'} {name : Str} {apos cpos : Pos}
def isL (x : PV) (H1 : PHp) : Prop := match x with
  | .ref a => ∃ l, H1 a = some (.lst l)
  | _ => False
def uBM (r : PV → List PV → PHp → VK' → Prop) (to : TE') (t : TA') : TE' := fun σ H Q => to σ H fun x H1 => isL x H1 ∧ t σ H1 fun xs H2 => r x xs H2 Q
def uBM0 (r : PV → List PV → PHp → VK' → Prop) (to : TE') : TE' := fun σ H Q => to σ H fun x H1 => r x [] H1 Q
def VM (K : PySem.W.Frag) (B : Bs) (r' : PV → List PV → PHp → VK' → Prop) (r : V → List V → Hp → VK → Prop) : Prop := ∀ (σ' : St') (σ : L2.St) (H' : PHp) (H : Hp) x' xs' x xs (Q' : VK') (Q : VK), SR K B σ' H' σ H → RP K H x' x → RPs K H xs' xs → r' x' xs' H' Q' →
  (∀ v' H1' v H1, Q' v' H1' → RP K H1 v' v → SR K B σ' H1' σ H1 → Ev H' H H1' H1 → Q v H1) → r x xs H Q
theorem low_bm {K : PySem.W.Frag} {r' : PV → List PV → PHp → VK' → Prop} {r : V → List V → Hp → VK → Prop} (v : VM K B r' r) {σ : L2.St} {H : Hp} {Q : VK} (h : low K B (uBM r' to t) σ H Q) : tBM K "list" r (low K B to) (lowA K B t) σ H Q := by
  obtain ⟨σ', H', Q', s, h, k⟩ := h
  refine ⟨σ', H', _, s, h, fun x' H1' x H1 h1 rx s1 e1 => ?_⟩
  obtain ⟨ty, h1⟩ := h1
  constructor
  · cases x' with
    | ref a =>
      obtain ⟨l, e⟩ := ty
      obtain ⟨us, q, _⟩ := s1.hp _ _ e
      simp only [RP] at rx
      subst rx
      exact .inl ⟨rfl, us, SqL.of q⟩
    | _ => exact ty.elim
  · refine ⟨σ', H1', _, s1, h1, fun xs' H2' xs H2 h2 r2 s2 e2 => ?_⟩
    exact v σ' σ H2' H2 x' xs' x xs Q' Q s2 (RP.kp K (e2.kp s1.hp) rx) r2 h2 fun v' H3' v H3 q rv s3 e3 => k v' H3' v H3 q rv s3 (e1.trans (e2.trans e3))
theorem qe_bm {id : String} {r' : PV → List PV → PHp → VK' → Prop} {r : V → List V → Hp → VK → Prop} (slot : Slot "list" name id) (hty : typeOf (.builtin id) = pure (.type "method_descriptor")) (hm : MtR X id r) (v : VM X.K B r' r) (ho : PE' X B o to) (ha : PA' X B (e :: es) t)
    (hbase : attributeBase o name X.env (eval o X.env) = eval o X.env := by rfl)
    (hfew : ((backTo cpos (starEach (e :: es) X.env)).all (fun x => !x.1) && (backToKw cpos (keywordEach [] X.env)).all (fun x => x.1.isSome)
      && decide ((e :: es).length + ([] : List Keyword).length + (if ([] : List Keyword).isEmpty then 0 else 1) < 30)) = true := by rfl)
    (hline : (apos.endLine == cpos.line) = true := by rfl) (hs : starEach (e :: es) X.env = (false, eval e X.env) :: starEach es X.env := by rfl) (hplain : (backTo cpos (starEach es X.env)).any (·.1) = false := by rfl) :
    PE' X B (.Call (.Attribute o name apos) (e :: es) [] cpos) (uBM r' to t) := pe_imp (pe_bm PySem.F.plainAttrs_list slot hty hm ho ha hbase hfew hline hs hplain) fun _ _ _ h => low_bm v h
theorem qe_bm0 {id : String} {r' : PV → List PV → PHp → VK' → Prop} {r : V → List V → Hp → VK → Prop} (slot : Slot "list" name id) (hty : typeOf (.builtin id) = pure (.type "method_descriptor")) (hm : MtR X id r) (v : VM X.K B r' r)
    (hl : ∀ x H Q, r' x [] H Q → match x with | .ref a => ∃ l, H a = some (.lst l) | _ => False) (ho : PE' X B o to)
    (hbase : attributeBase o name X.env (eval o X.env) = eval o X.env := by rfl) (hline : (apos.endLine == cpos.line) = true := by rfl) :
    PE' X B (.Call (.Attribute o name apos) [] [] cpos) (uBM0 r' to) := pe_imp (pe_bm0 PySem.F.plainAttrs_list slot hty hm ho hbase hline) fun σ H Q h => by
  obtain ⟨σ', H', Q', s, h, k⟩ := h
  refine ⟨σ', H', _, s, h, fun x' H1' x H1 h1 rx s1 e1 => ?_⟩
  constructor
  · have ty := hl _ _ _ h1
    cases x' with
    | ref a =>
      obtain ⟨l, e⟩ := ty
      obtain ⟨us, q, _⟩ := s1.hp _ _ e
      simp only [RP] at rx
      subst rx
      exact .inl ⟨rfl, us, SqL.of q⟩
    | _ => exact ty.elim
  · exact v σ' σ H1' H1 x' [] x [] Q' Q s1 rx (RPs.nil _) h1 fun v' H3' v H3 q rv s3 e3 => k v' H3' v H3 q rv s3 (e1.trans e3)
def uAppend : PV → List PV → PHp → VK' → Prop := fun x vs H Q => match x, vs with
  | .ref a, [y] => ∃ l, H a = some (.lst l) ∧ l.length < sizeLine ∧ Q .non (put H a (.lst (l ++ [y])))
  | _, _ => False
theorem vm_append {K : PySem.W.Frag} : VM K B uAppend rAppend := by
  intro σ' σ H' H x' xs' x xs Q' Q s rx r h k
  unfold uAppend at h
  split at h
  · rename_i a y
    obtain ⟨l, e, hl, h⟩ := h
    obtain ⟨us, q, r2⟩ := s.hp _ _ e
    simp only [RP, RPs] at rx r
    obtain ⟨u, r1, rfl, ru, rfl⟩ := r
    subst rx
    exact ⟨a, us, u, rfl, rfl, q, by rw [RPs.length _ r2]; exact hl, k _ _ _ _ h (by simp [RP]) (s.wr e (wrL s.hp e (RPs.append _ r2 (RPs.cons _ ru (RPs.nil _))))) (Ev.wr e)⟩
  · exact h.elim
def uExtend : PV → List PV → PHp → VK' → Prop := fun x vs H Q => match x, vs with
  | .ref a, [.ref b] => ∃ l m, H a = some (.lst l) ∧ H b = some (.lst m) ∧ l.length + m.length ≤ sizeLine ∧ Q .non (put H a (.lst (l ++ m)))
  | _, _ => False
def uPop : PV → List PV → PHp → VK' → Prop := fun x vs H Q => match x, vs with
  | .ref a, [] => ∃ l y, H a = some (.lst l) ∧ l[l.length - 1]? = some y ∧ Q y (put H a (.lst l.dropLast))
  | _, _ => False
end
end U


set_option linter.all false
set_option maxRecDepth 100000
set_option maxHeartbeats 4000000
namespace U
open PySem L2
variable {B : Bs}
theorem rngL_drop (lo : Int) (n i : Nat) (h : i < n) : (rngL lo n).drop i = PV.int (lo + (i : Nat)) :: (rngL lo n).drop (i + 1) := by
  have hl : i < (rngL lo n).length := by simpa [rngL] using h
  rw [List.drop_eq_getElem_cons hl]
  simp [rngL]
theorem rngL_end (lo : Int) (n : Nat) : (rngL lo n).drop n = [] := by
  apply List.drop_of_length_le
  simp [rngL]
theorem for_rng {ok : PHp → Prop} {g : TG'} {tb : TS'} {D : Ends'} {lo : Int} {n : Nat} (Pv : Nat → St' → PHp → Prop) (hd : ∀ σ H, Pv n σ H → ok H ∧ D.nx σ H)
    (hs : ∀ (G : St' → PHp → Prop) i σ H, i < n → Pv i σ H → (∀ σ' H', Pv (i + 1) σ' H' → G σ' H') → ok H ∧ g (.int (lo + (i : Nat))) σ H fun σ2 H2 => tb { D with nx := G, ct := G, bk := D.nx } σ2 H2)
    {σ : St'} {H : PHp} (h0 : Pv 0 σ H) : uForL ok g tb D (rngL lo n) σ H := by
  have key : ∀ (k i : Nat) {σ : St'} {H : PHp}, i + k = n → Pv i σ H → uForL ok g tb D ((rngL lo n).drop i) σ H := by
    intro k
    induction k with
    | zero =>
      intro i σ H hk p
      have : i = n := hk
      subst this
      rw [rngL_end]
      exact hd σ H p
    | succ k ih =>
      intro i σ H hk p
      have hi : i < n := hk ▸ Nat.lt_add_of_pos_right (Nat.succ_pos k)
      rw [rngL_drop lo n i hi]
      exact hs _ i σ H hi p fun σ' H' p' => ih (i + 1) ((Nat.succ_add_eq_add_succ i k).trans hk) p'
  exact key n 0 (Nat.zero_add n) h0
theorem for_at {ok : PHp → Prop} {g : TG'} {tb : TS'} {D : Ends'} {xs : List PV} (Pv : Nat → St' → PHp → Prop) (hd : ∀ σ H, Pv xs.length σ H → ok H ∧ D.nx σ H)
    (hs : ∀ (G : St' → PHp → Prop) i x σ H, xs[i]? = some x → Pv i σ H → (∀ σ' H', Pv (i + 1) σ' H' → G σ' H') → ok H ∧ g x σ H fun σ2 H2 => tb { D with nx := G, ct := G, bk := D.nx } σ2 H2)
    {σ : St'} {H : PHp} (h0 : Pv 0 σ H) : uForL ok g tb D xs σ H := by
  have key : ∀ (k i : Nat) {σ : St'} {H : PHp}, xs.length - i = k → i ≤ xs.length → Pv i σ H → uForL ok g tb D (xs.drop i) σ H := by
    intro k
    induction k with
    | zero =>
      intro i σ H hk hi p
      have : i = xs.length := by omega
      subst this
      rw [List.drop_length]
      exact hd σ H p
    | succ k ih =>
      intro i σ H hk hi p
      have hl : i < xs.length := by omega
      rw [List.drop_eq_getElem_cons hl]
      exact hs _ i _ σ H (List.getElem?_eq_getElem hl) p fun σ' H' p' => ih (i + 1) (by omega) (by omega) p'
  have := key xs.length 0 (by omega) (by omega) h0
  simpa using this
theorem atI_int {m : List Int} {z : Int} (h0 : 0 ≤ z) (h1 : z < m.length) : atI (m.map PV.int) z = some (.int (m.getD z.toNat 0)) := by
  unfold atI ixN
  rw [if_pos h0, List.length_map, if_pos h1]
  show (m.map PV.int)[z.toNat]? = _
  rw [List.getElem?_map, List.getD_eq_getElem?_getD]
  have : z.toNat < m.length := by omega
  rw [List.getElem?_eq_getElem this]
  rfl
theorem w_V {v : PV} {k : PV → Prop} : withV (some (some v)) k = k v := rfl
theorem w_B {b : Bool} {k : Bool → Prop} : withB (.bl b) k = k b := rfl
theorem w_I {b : Int} {k : Int → Prop} : withI (.int b) k = k b := rfl
theorem w_O {b : PV} {k : PV → Prop} : withO (some b) k = k b := rfl
theorem w_St {l : List PV} {H : PHp} {k : List PV → Prop} : withS (.tup l) H k = k l := rfl
theorem w_Sf {l : List PV} {H : PHp} {k : List PV → Prop} : withS (.fls l) H k = k l := rfl
theorem w_Sr {a : Addr} {H : PHp} {k : List PV → Prop} : withS (.ref a) H k = ∃ l, H a = some (.lst l) ∧ k l := rfl
theorem w_Dr {a : Addr} {H : PHp} {k : PV → Prop} : withD (.ref a) H k = ∃ l, H a = some (.lst l) ∧ k (.fls l) := rfl
theorem w_Dn {H : PHp} {k : PV → Prop} : withD .non H k = k .non := rfl
theorem w_Db {b : Bool} {H : PHp} {k : PV → Prop} : withD (.bl b) H k = k (.bl b) := rfl
theorem w_Di {b : Int} {H : PHp} {k : PV → Prop} : withD (.int b) H k = k (.int b) := rfl
theorem w_Ds {b : Str} {H : PHp} {k : PV → Prop} : withD (.str b) H k = k (.str b) := rfl
theorem w_Dt {b : List PV} {H : PHp} {k : PV → Prop} : withD (.tup b) H k = k (.tup b) := rfl
theorem w_Df {b : List PV} {H : PHp} {k : PV → Prop} : withD (.fls b) H k = k (.fls b) := rfl
theorem w_Tn {H : PHp} {k : BT → Prop} : withTy .non H k = k .non := rfl
theorem w_Tb {b : Bool} {H : PHp} {k : BT → Prop} : withTy (.bl b) H k = k .bool := rfl
theorem w_Ti {b : Int} {H : PHp} {k : BT → Prop} : withTy (.int b) H k = k .int := rfl
theorem w_Ts {b : Str} {H : PHp} {k : BT → Prop} : withTy (.str b) H k = k .str := rfl
theorem w_Tt {b : List PV} {H : PHp} {k : BT → Prop} : withTy (.tup b) H k = k .tuple := rfl
theorem w_Tf {b : List PV} {H : PHp} {k : BT → Prop} : withTy (.fls b) H k = k .list := rfl
theorem w_Tr {a : Addr} {H : PHp} {k : BT → Prop} : withTy (.ref a) H k = ∃ l, H a = some (.lst l) ∧ k .list := rfl
theorem w_Ni {b : Int} {k : Int → Prop} : intOf (.int b) k = k b := rfl
theorem w_Nb {b : Bool} {k : Int → Prop} : intOf (.bl b) k = k (b2n b) := rfl
theorem w_Lf {l : List PV} {lo hi : Option Int} {H : PHp} {Q : VK'} : sliceOf (.fls l) lo hi H Q = ∀ p, H p = none → Q (.ref p) (put H p (.lst (cutP l lo hi))) := rfl
theorem w_Lr {a : Addr} {lo hi : Option Int} {H : PHp} {Q : VK'} : sliceOf (.ref a) lo hi H Q = ∃ l, H a = some (.lst l) ∧ ∀ p, H p = none → Q (.ref p) (put H p (.lst (cutP l lo hi))) := rfl
theorem w_Lt {l : List PV} {lo hi : Option Int} {H : PHp} {Q : VK'} : sliceOf (.tup l) lo hi H Q = (¬ (HT.sIx l.length 0 lo = 0 ∧ HT.sIx l.length l.length hi = l.length) ∧ Q (.tup (cutP l lo hi)) H) := rfl
theorem w_Xt {l : List PV} {H : PHp} {R : It' → PHp → Prop} : itOf (.tup l) H R = R ⟨l, fun _ => True⟩ H := rfl
theorem w_Xf {l : List PV} {H : PHp} {R : It' → PHp → Prop} : itOf (.fls l) H R = R ⟨l, fun _ => True⟩ H := rfl
theorem w_Xr {a : Addr} {H : PHp} {R : It' → PHp → Prop} : itOf (.ref a) H R = ∃ l, H a = some (.lst l) ∧ R ⟨l, fun H => H a = some (.lst l)⟩ H := rfl
theorem w_1 {f : PV → PHp → VK' → Prop} {x : PV} {H : PHp} {Q : VK'} : arg1 f [x] H Q = f x H Q := rfl
theorem w_isi {c : BT} {x : PV} {n : String} {H : PHp} {Q : VK'} : uIsi c [x, .oth (.ty n)] H Q = (n = c.nm ∧ withTy x H fun t => Q (.bl (t.sub c)) H) := rfl
theorem w_n0 {g : Bool → Bool} {H : PHp} {Q : VK'} : uIsN g .non .non H Q = Q (.bl (g true)) H := rfl
theorem w_n1 {g : Bool → Bool} {a : Addr} {H : PHp} {Q : VK'} : uIsN g (.ref a) .non H Q = Q (.bl (g false)) H := rfl
theorem w_n2 {g : Bool → Bool} {l : List PV} {H : PHp} {Q : VK'} : uIsN g (.tup l) .non H Q = Q (.bl (g false)) H := rfl
theorem w_n3 {g : Bool → Bool} {l : Int} {H : PHp} {Q : VK'} : uIsN g (.int l) .non H Q = Q (.bl (g false)) H := rfl
theorem w_n4 {g : Bool → Bool} {l : Bool} {H : PHp} {Q : VK'} : uIsN g (.bl l) .non H Q = Q (.bl (g false)) H := rfl
theorem w_vt {n : Nat} {t : TGs'} {l : List PV} {σ : St'} {H : PHp} {Q : St' → PHp → Prop} : vTup n t (.tup l) σ H Q = (l.length = n ∧ t l σ H Q) := rfl
theorem w_vc {t : TG'} {u : TGs'} {v : PV} {r : List PV} {σ : St'} {H : PHp} {Q : St' → PHp → Prop} : vCons t u (v :: r) σ H Q = t v σ H fun σ' H' => u r σ' H' Q := rfl
theorem w_vn {σ : St'} {H : PHp} {Q : St' → PHp → Prop} : vNil [] σ H Q = (True ∧ Q σ H) := by simp [vNil]
theorem w_r1 {t : TA'} {σ : St'} {H : PHp} {R : It' → PHp → Prop} : uRng1 t σ H R = t σ H fun vs H1 => rng1 vs H1 R := rfl
theorem w_r1' {j : Int} {H1 : PHp} {R : It' → PHp → Prop} : rng1 [.int j] H1 R = ((-(2 ^ 62) ≤ j ∧ j < 2 ^ 62) ∧ R ⟨rngL 0 j.toNat, fun _ => True⟩ H1) := rfl
theorem w_r2 {t : TA'} {σ : St'} {H : PHp} {R : It' → PHp → Prop} : uRng2 t σ H R = t σ H fun vs H1 => rng2 vs H1 R := rfl
theorem w_r2' {i j : Int} {H1 : PHp} {R : It' → PHp → Prop} : rng2 [.int i, .int j] H1 R = ((-(2 ^ 62) ≤ i ∧ i < 2 ^ 62 ∧ -(2 ^ 62) ≤ j ∧ j < 2 ^ 62) ∧ R ⟨rngL i (j - i).toNat, fun _ => True⟩ H1) := rfl
theorem w_ap {a : Addr} {y : PV} {H : PHp} {Q : VK'} : uAppend (.ref a) [y] H Q = ∃ l, H a = some (.lst l) ∧ l.length < sizeLine ∧ Q .non (put H a (.lst (l ++ [y]))) := rfl
theorem w_ex {a b : Addr} {H : PHp} {Q : VK'} : uExtend (.ref a) [.ref b] H Q = ∃ l m, H a = some (.lst l) ∧ H b = some (.lst m) ∧ l.length + m.length ≤ sizeLine ∧ Q .non (put H a (.lst (l ++ m))) := rfl
theorem w_po {a : Addr} {H : PHp} {Q : VK'} : uPop (.ref a) [] H Q = ∃ l y, H a = some (.lst l) ∧ l[l.length - 1]? = some y ∧ Q y (put H a (.lst l.dropLast)) := rfl
theorem w_bm {r : PV → List PV → PHp → VK' → Prop} {to : TE'} {t : TA'} {σ : St'} {H : PHp} {Q : VK'} : uBM r to t σ H Q = to σ H fun x H1 => isL x H1 ∧ t σ H1 fun xs H2 => r x xs H2 Q := rfl
theorem w_il {a : Addr} {H : PHp} : isL (.ref a) H = ∃ l, H a = some (.lst l) := rfl
theorem small_size {n : Nat} (h : n ≤ 1000) : n ≤ sizeLine := Nat.le_of_lt (small1000 h)
end U
namespace U
open PySem L2
theorem seq_abs {t u : TS'} {D : Ends'} {σ : St'} {H : PHp} (h : ∀ R : TS', R = u → uSeq t R D σ H) : uSeq t u D σ H := h u rfl
end U


set_option linter.all false
set_option maxRecDepth 100000
set_option maxHeartbeats 4000000
namespace U
open PySem PySem.Spec PyProof.Rows L2
variable {B : Bs}
section
variable {X : Cx} {pins : List (Addr × Obj)} {σ : L2.St} {H H' : Hp} {s : Shared} {h' : Heap} {a C T : Addr} {fl : Value}
variable {M : Model} {E : Value → Shared → Prop} {Q : Unit → Shared → Prop}
end
end U


set_option linter.all false
set_option maxHeartbeats 4000000
set_option maxRecDepth 100000
namespace U
open PySem PySem.Spec PyProof.Rows L2 PySem.W
section
variable {prog : Program} {w : World} {A : Around} {E : Value → Shared → Prop} {h : Heap} {g : Array GenState} {d : Drawn} {t : Nat} {os : OsState} {a C : Addr} {o : Obj} {K : Frag}
end
end U


set_option linter.all false
set_option maxRecDepth 100000
set_option maxHeartbeats 4000000
namespace U
open PySem PySem.Spec PyProof.Rows L2
variable {B : Bs}
section
variable {P : Program} {w : World} {K : PySem.W.Frag} {mg : Str → Option Value} {base : Heap}
end
section
variable {X : Cx} {k : Nat} {f C D : Addr} {fd : FuncData} {ps : List Str} {sp : Sp'} {E : XK} {E' : XK'} {x m n : Str} {p np pos apos cpos : Pos} {e o : Expr} {es : List Expr} {ta : TE'} {t : TA'}
end
end U


set_option linter.all false
set_option maxRecDepth 100000
set_option maxHeartbeats 4000000
namespace U
open PySem PySem.Spec PyProof.Rows L2
variable {B : Bs}
section
variable {X : Cx} {pins : List (Addr × Obj)} {σ : L2.St} {H : Hp} {s : Shared} {a C T : Addr} {fl : Value}
end
end U


set_option linter.all false
set_option maxRecDepth 100000
set_option maxHeartbeats 4000000
namespace U
open PySem PySem.Spec PyProof.Rows L2
variable {B : Bs}
section
variable {X : Cx} {k : Nat} {f C D : Addr} {fd : FuncData} {ps : List Str} {sp : Sp'} {x m n : Str} {p np pos apos cpos : Pos} {e o : Expr} {es : List Expr} {ta : TE'} {t : TA'}
end
end U


set_option linter.all false
set_option maxRecDepth 100000
set_option maxHeartbeats 4000000
namespace U
open PySem L2
def pr (p : Str × Bool) : PV := .tup [.str p.1, .bl p.2]
def told (xs : List (Str × Bool)) : List PV := (xs.filter (·.2)).map fun p => PV.str p.1
end U
namespace U
open PySem L2
def pairs : List (Str × TE') → List Bool → List PV
  | (n, _) :: r, b :: bs => .tup [.str n, .bl b] :: pairs r bs
  | _, _ => []
end U
namespace U
open PySem
theorem len0 {P : List Value → Prop} (h : P []) (us : List Value) (hl : us.length = 0) : P us := by
  cases us with
  | nil => exact h
  | cons a r => exact absurd hl (Nat.succ_ne_zero _)
theorem len1 {P : List Value → Prop} (h : ∀ a, P [a]) (us : List Value) (hl : us.length = 1) : P us := by
  cases us with
  | nil => exact absurd hl.symm (Nat.succ_ne_zero _)
  | cons a r => exact len0 (P := fun r => P (a :: r)) (h a) r (Nat.succ.inj hl)
theorem len2 {P : List Value → Prop} (h : ∀ a b, P [a, b]) (us : List Value) (hl : us.length = 2) : P us := by
  cases us with
  | nil => exact absurd hl.symm (Nat.succ_ne_zero _)
  | cons a r => exact len1 (P := fun r => P (a :: r)) (h a) r (Nat.succ.inj hl)
theorem len3 {P : List Value → Prop} (h : ∀ a b c, P [a, b, c]) (us : List Value) (hl : us.length = 3) : P us := by
  cases us with
  | nil => exact absurd hl.symm (Nat.succ_ne_zero _)
  | cons a r => exact len2 (P := fun r => P (a :: r)) (h a) r (Nat.succ.inj hl)
theorem len4 {P : List Value → Prop} (h : ∀ a b c d, P [a, b, c, d]) (us : List Value) (hl : us.length = 4) : P us := by
  cases us with
  | nil => exact absurd hl.symm (Nat.succ_ne_zero _)
  | cons a r => exact len3 (P := fun r => P (a :: r)) (h a) r (Nat.succ.inj hl)
end U
namespace U
open PySem PySem.Spec PyProof.Rows L2
variable {B : Bs} {X : Cx}
theorem op_eqI : OpR X (compareOp .Eq) (rI0 fun i j => .bl (i == j)) := opB0 fun _ _ _ _ _ _ _ q => eq_int q
theorem op_neI : OpR X (compareOp .NotEq) (rI0 fun i j => .bl (!(i == j))) := opB0 fun _ _ _ _ _ _ _ q => ne_int q
theorem vr_eqI {K : PySem.W.Frag} : VR K B (uI0 fun i j => .bl (i == j)) (rI0 fun i j => .bl (i == j)) := vr_I0 fun _ _ _ => by simp [RP]
theorem vr_neI {K : PySem.W.Frag} : VR K B (uI0 fun i j => .bl (!(i == j))) (rI0 fun i j => .bl (!(i == j))) := vr_I0 fun _ _ _ => by simp [RP]
end U


set_option linter.all false
set_option maxRecDepth 100000
set_option maxHeartbeats 4000000
namespace L2
open PySem PySem.Spec PyProof.Rows
def compCx (X : Cx) (N2 : List Str) (scope : Scope) (cl : List (Str × Addr)) (s0 : Shared) (H0 : Hp) (fp : List Addr) (ps : List (Addr × Obj)) : Cx :=
  { X with N := N2, s₀ := s0, H₀ := H0, env := compEnvC scope cl s0.heap.objs.size X.env, outer := X.stack, stack := X.stack, ex := fp, fn := fun x => (cl.lookup x).isNone, pn := ps, xe := fun _ _ => False }
def sig0 (nt : Nat) (js : List Nat) (σ : St) : St := List.replicate nt none ++ js.map fun j => (σ[j]?).join
theorem lookup_relabel_free {env : Env} : ∀ {names : List (Str × NameKind)} {x : Str}, names.lookup x = some .free →
    (names.map fun (n, k) => if (k == NameKind.free && env.scope.kind == .function && env.kindOf n == some .cell) then (n, NameKind.cell) else (n, k)).lookup x = some .cell ∨
    (names.map fun (n, k) => if (k == NameKind.free && env.scope.kind == .function && env.kindOf n == some .cell) then (n, NameKind.cell) else (n, k)).lookup x = some .free
  | [], _, h => by simp at h
  | (n, k) :: r, x, h => by
    have ih := @lookup_relabel_free env r x
    show List.lookup x ((if (k == NameKind.free && env.scope.kind == .function && env.kindOf n == some .cell) = true then (n, NameKind.cell) else (n, k)) :: _) = _ ∨ List.lookup x ((if (k == NameKind.free && env.scope.kind == .function && env.kindOf n == some .cell) = true then (n, NameKind.cell) else (n, k)) :: _) = _
    cases hx : x == n with
    | true =>
      simp only [List.lookup_cons, hx] at h
      cases h
      by_cases hc : (NameKind.free == NameKind.free && env.scope.kind == .function && env.kindOf n == some .cell) = true
      · rw [if_pos hc]; simp [List.lookup_cons, hx]
      · rw [if_neg hc]; simp [List.lookup_cons, hx]
    | false =>
      simp only [List.lookup_cons, hx] at h
      by_cases hc : (k == NameKind.free && env.scope.kind == .function && env.kindOf n == some .cell) = true
      · rw [if_pos hc]; simp only [List.lookup_cons, hx]; exact ih h
      · rw [if_neg hc]; simp only [List.lookup_cons, hx]; exact ih h
structure CompOk (X : Cx) (N2 : List Str) (nt : Nat) (js : List Nat) (scope : Scope) (cl : List (Str × Addr)) (sc : Scope) : Prop where
  clos : closureFor scope X.env = pure cl
  sub : ∀ x c, cl.lookup x = some c → X.env.cells.lookup x = some c
  xsc : X.env.scope = sc
  kind : scope.kind = .function
  nocell : ∀ y ∈ scope.names, y.2 ≠ .cell
  loc : ∀ y ∈ scope.names, y.2 = .local → scope.names.lookup y.1 = some .local
  has : ∀ y ∈ scope.names, y.2 = .free → y.1 ∈ cl.map (·.1)
  frs : ∀ x ∈ N2.drop nt, scope.names.lookup x = some .free ∧ sc.names.lookup x = some .cell
  len : N2.length = nt + js.length
  pl : ∀ (k j : Nat), js[k]? = some j → X.N[j]? = N2[nt + k]?
theorem mem_lookup {α : Type} : ∀ {l : List (Str × α)} {x : Str}, x ∈ l.map (·.1) → ∃ c, l.lookup x = some c
  | [], _, h => by simp at h
  | (n, k) :: r, x, h => by
    cases hx : x == n with
    | true => exact ⟨k, by simp [List.lookup_cons, hx]⟩
    | false =>
      have h' : x = n ∨ x ∈ r.map (·.1) := by simpa using h
      have hn : x ≠ n := by intro e; subst e; simp at hx
      obtain ⟨c, e⟩ := mem_lookup (h'.resolve_left hn)
      exact ⟨c, by simp [List.lookup_cons, hx, e]⟩
theorem lookup_mem {α : Type} : ∀ {l : List (Str × α)} {x : Str} {c : α}, l.lookup x = some c → (x, c) ∈ l
  | [], _, _, h => by simp at h
  | (n, k) :: r, x, c, h => by
    cases hx : x == n with
    | true =>
      simp only [List.lookup_cons, hx] at h
      have e : x = n := by simpa using hx
      cases h; subst e; exact List.mem_cons_self
    | false =>
      simp only [List.lookup_cons, hx] at h
      exact List.mem_cons_of_mem _ (lookup_mem h)
section
variable {X : Cx} {pins : List (Addr × Obj)} {σ : St} {H : Hp} {s : Shared} {N2 : List Str} {nt : Nat} {js : List Nat} {scope sc : Scope} {cl : List (Str × Addr)} {fp : List Addr}
theorem CompOk.kindOf (O : CompOk X N2 nt js scope cl sc) {x : Str} {C : Addr} (h : (compEnvC scope cl C X.env).kindOf x = some .cell ∨ (compEnvC scope cl C X.env).kindOf x = some .free) : ∃ c, cl.lookup x = some c := by
  have h' : (relabel scope X.env).names.lookup x = some .cell ∨ (relabel scope X.env).names.lookup x = some .free := h
  have key : ∀ (k : NameKind), (relabel scope X.env).names.lookup x = some k → (k = .cell ∨ k = .free) → ∃ y ∈ scope.names, y.1 = x ∧ (y.2 = .cell ∨ y.2 = .free) := fun k e hk => by
    have m := lookup_mem e
    obtain ⟨⟨n, k'⟩, hm, e'⟩ := List.mem_map.mp m
    by_cases hc : (k' == NameKind.free && X.env.scope.kind == .function && X.env.kindOf n == some .cell) = true
    · simp only [hc, if_true] at e'
      have e1 : n = x := congrArg Prod.fst e'
      refine ⟨(n, k'), hm, e1, .inr ?_⟩
      rw [Bool.and_eq_true, Bool.and_eq_true] at hc
      exact beq_iff_eq.mp hc.1.1
    · have e'' : (n, k') = (x, k) := by
        dsimp only at e'
        rw [if_neg hc] at e'
        exact e'
      cases e''
      exact ⟨(x, k), hm, rfl, hk⟩
  obtain ⟨y, hy, rfl, hk⟩ := h'.elim (fun e => key _ e (.inl rfl)) fun e => key _ e (.inr rfl)
  rcases hk with hk | hk
  · exact absurd hk (O.nocell y hy)
  · exact mem_lookup (O.has y hy hk)
theorem compCx_ok (O : CompOk X N2 nt js scope cl sc) (I : Inv X pins σ H s) (hf : ∀ b ∈ fp, FpOk X pins H b) (hlt : ∀ b ∈ fp, b < s.heap.objs.size) : (compCx X N2 scope cl s H fp (X.pn ++ pins)).Ok where
  mod := I.ok.mod
  kind := O.kind
  glob := I.ok.glob
  blt := I.ok.blt
  above := Nat.le_refl _
  inj := fun x y c h1 h2 => I.ok.inj x y c (O.sub x c h1) (O.sub y c h2)
  has := fun x h => O.kindOf h
  cab := fun x c h1 h2 => by
    have h1' : (cl.lookup x).isNone = true := h1
    have h2' : cl.lookup x = some c := h2
    rw [h2'] at h1'; cases h1'
  hd := I.ok.hd
  frames := I.ok.frames
  stk := .inl rfl
  exf := fun b hb => ⟨Nat.ne_of_lt (hlt b hb), fun x c e => (hf b hb).2.2.2.2.1 x c (O.sub x c e)⟩
  bs := I.bs
  bsz := Nat.le_trans I.ok.bsz I.sz
  noex := fun b o e hb => by
    obtain ⟨_, _, _, h3, _⟩ := hf b hb
    rcases h3 with h3 | h3
    · exact I.ok.noex b o e h3
    · exact absurd (Nat.lt_of_lt_of_le (Heap.lt_size (I.ok.bs b o e).1) h3) (Nat.lt_irrefl _)
  exfs := fun b hb hs => by
    obtain ⟨_, h1, h2, _⟩ := hf b hb
    rcases List.mem_cons.mp (I.stkSub b hs) with e | e
    · exact h1 e
    · exact h2 e
  funs := I.stack
  frf := I.stkFree
theorem comp_start (O : CompOk X N2 nt js scope cl sc) (I : Inv X pins σ H s) (hf : ∀ b ∈ fp, FpOk X pins H b) (hlt : ∀ b ∈ fp, b < s.heap.objs.size) {h4 : Heap} {t4 : Nat} (hn : h4.Ns s.heap.objs.size fun _ => none)
    (hk : ∀ b o, s.heap.get? b = some o → h4.get? b = some o) : Inv (compCx X N2 scope cl s H fp (X.pn ++ pins)) [] (sig0 nt js σ) H { s with heap := h4, toks := t4 } := by
  refine ⟨compCx_ok O I hf hlt, rfl, I.bare, Un.kept hk, ⟨_, hn, fun i x v e1 e2 e3 => ?_⟩, fun x c e => ?_, I.hok.fresh (Nat.le_refl _), fun x c e => I.freeC x c (O.sub x c e), fun p hp => ?_, I.hok.kept hk, ?_⟩
  · unfold sig0 at e2
    by_cases hi : i < nt
    · rw [List.getElem?_append_left (by simpa using hi), List.getElem?_replicate] at e2
      split at e2 <;> cases e2
    · obtain ⟨k, rfl⟩ : ∃ k, i = nt + k := ⟨i - nt, by omega⟩
      rw [List.getElem?_append_right (by simp), List.length_replicate, Nat.add_sub_cancel_left, List.getElem?_map] at e2
      cases ej : js[k]? with
      | none => rw [ej] at e2; cases e2
      | some j =>
        rw [ej] at e2
        have e2' : (σ[j]?).join = some v := Option.some.inj e2
        have eσ : σ[j]? = some (some v) := by
          cases q : σ[j]? with
          | none => rw [q] at e2'; cases e2'
          | some o => rw [q] at e2'; exact congrArg some e2'
        have eN : X.N[j]? = some x := (O.pl k j ej).trans e1
        have hx : x ∈ N2.drop nt := by
          have : (N2.drop nt)[k]? = some x := by rw [List.getElem?_drop]; exact e1
          exact List.mem_of_getElem? this
        obtain ⟨f1, f2⟩ := O.frs x hx
        have vis : Vis X.env.scope x := .inr (.inl (by rw [O.xsc]; exact f2))
        obtain ⟨m, hnX, hl⟩ := I.loc
        obtain ⟨u, r, l⟩ := hl j x v eN eσ vis
        refine ⟨u, r, .inr ⟨?_, ?_⟩⟩
        · exact lookup_relabel_free f1
        · rcases l with ⟨k1, _⟩ | ⟨_, c, ec, ic⟩
          · have k2 : sc.names.lookup x = some .local := by rw [← O.xsc]; exact k1
            rw [f2] at k2; cases k2
          · obtain ⟨c', ec'⟩ := mem_lookup (O.has (x, .free) (lookup_mem f1) rfl)
            have := O.sub x c' ec'
            rw [ec] at this; cases this
            obtain ⟨o, ho, hd⟩ := ic
            exact ⟨c, ec', o, hk _ _ ho, hd⟩
  · obtain ⟨v, o, ho, hd⟩ := I.cell x c (O.sub x c e)
    exact ⟨v, o, hk _ _ ho, hd⟩
  · have hp' : p ∈ X.pn ++ pins := by
      have hp2 : p ∈ (X.pn ++ pins) ++ [] := hp
      rwa [List.append_nil] at hp2
    obtain ⟨e, n, ne, nf, d⟩ := I.pin p hp'
    refine ⟨hk _ _ e, n, Nat.ne_of_lt (Heap.lt_size e), fun hb => ?_, d⟩
    rcases List.mem_cons.mp (I.stkSub p.1 hb) with z | z
    · exact ne z
    · exact nf z
  · unfold sig0
    show _ = N2.length
    rw [List.length_append, List.length_replicate, List.length_map, O.len]
theorem comp_end {σ' : St} {H' : Hp} {s' : Shared} {pl : List (Addr × Obj)} (I : Inv X pins σ H s) (hf : ∀ b ∈ fp, FpOk X pins H b) (J : Inv (compCx X N2 scope cl s H fp (X.pn ++ pins)) pl σ' H' s') : Inv X pins σ H' s' :=
  I.call' (ch := fp) J.os J.base J.hok J.bare fun b hb => by
    obtain ⟨h0, h1, h2, h3, h4, h5⟩ := hf b hb
    exact ⟨h3, h1, h4, h5⟩
end
end L2
namespace L2
open PySem PySem.Spec PyProof.Rows
def PIf (Y : Cx) (ifs : List Expr) (t : TT) : Prop :=
  ∀ (pins : List (Addr × Obj)) (s : Shared) (σ : St) (H : Hp) (Q : Bool → Hp → Prop), Inv Y pins σ H s → t σ H Q →
    wpAny (model Y.prog Y.w) Y.A (forIn ifs true fun c r => if r = true then do let ok ← isTrue c Y.env (eval c Y.env); pure (ForInStep.yield ok) else pure (ForInStep.yield r)) (TP Y pins σ Q) Y.xe s
def tYes : TT := fun _ H Q => Q true H
theorem pif_nil {Y : Cx} : PIf Y [] tYes := fun _ _ _ H _ I h => wpAny_tests_nil ⟨H, I, h⟩
theorem pif_one {Y : Cx} {c : Expr} {t : TT} (h : PT Y c t) : PIf Y [c] t := fun pins s σ H Q I hw => wpAny_tests_one (h pins s σ H Q I hw)
def turnC (acc : Addr) (J : It) (g : TG) (tt : TT) (te : TE) (W : Nat → Nat → L2.St → Hp → Prop) (i m : Nat) (σ0 : L2.St) (H : Hp) : Prop :=
  J.go i H ∧ ∀ x H', J.yld i H x H' → g x σ0 H' fun σ3 H2 => tt σ3 H2 fun b H3 =>
    if b = true then te σ3 H3 fun y H4 => ∃ ys, H4 acc = some (.lst ys) ∧ ys.length < sizeLine ∧ ∃ m', m' < m ∧ W (i + 1) m' σ3 (upd H4 acc (.lst (ys ++ [y])))
    else ∃ m', m' < m ∧ W (i + 1) m' σ3 H3
def tComp (nt : Nat) (js : List Nat) (wi : TI) (g : TG) (tt : TT) (te : TE) : TE := fun σ H Q => wi σ H fun J H1 => ∀ acc, H1 acc = none →
  ∃ W : Nat → Nat → L2.St → Hp → Prop, (∃ m, W 0 m (sig0 nt js σ) (upd H1 acc (.lst []))) ∧ ∀ i m σ0 H, W i m σ0 H → (J.stop i H ∧ Q (.ref acc) H) ∨ turnC acc J g tt te W i m σ0 H
structure CompB (Y : Cx) (tg : Expr) (ifs : List Expr) (elt : Expr) (g : TG) (tt : TT) (te : TE) : Prop where
  tgt : PG Y tg g
  tst : PIf Y ifs tt
  elt : PE Y elt te
theorem compLoop_own {prog : Program} {w : World} {A : Around} {R : Result → Shared → Prop} {s : Shared} {elt target iter : Expr} {ifs : List Expr} {scope : Scope} {pos : Pos} {it acc : Value} {env : Env} (I : Nat → Shared → Prop)
    (turn : ∀ n s, I n s → wpAny (model prog w) A (pyNext it) (fun r s₁ => match r with
      | none => R (.ok .next) s₁
      | some v => wpAny (model prog w) A (letOwnedTupleGo target it v) (fun _ s₀ => wpAny (model prog w) A (assign target env v) (fun _ s₂ =>
          wpAny (model prog w) A (forIn ifs true fun c r => if r = true then do let ok ← isTrue c env (eval c env); pure (ForInStep.yield ok) else pure (ForInStep.yield r)) (fun ok s₃ =>
            if ok = true then wpAny (model prog w) A (eval elt env) (fun x s₄ =>
              wpAny (model prog w) A (call (.builtin "list.append") [acc, x]) (fun _ s₅ => ∃ m, m < n ∧ I m s₅) (fun _ _ => False) s₄) (fun _ _ => False) s₃
            else ∃ m, m < n ∧ I m s₃) (fun _ _ => False) s₂) (fun _ _ => False) s₀) (fun _ _ => False) s₁) (fun _ _ => False) s)
    (n : Nat) (h : I n s) :
    codeAny (model prog w) A (.compLoop (.ListComp elt [⟨target, iter, ifs, 0⟩] scope pos) 0 it acc env) R s := by
  refine codeAny_loop rfl I (fun n s hI => ?_) n h
  show wpAny _ A ((compTurn (.ListComp elt [⟨target, iter, ifs, 0⟩] scope pos) 0 it acc env).onRaise (fun x => do noteFrame x env; theTreesLotGoes x)) _ _ s
  refine wpAny_noted ?_
  rw [compTurn_list]
  refine wpAny_bind (wpAny_standAt (wpAny_bind (wpAny_mono (turn n s hI) (fun r s₁ h₁ => ?_) fun _ _ h' => h'.elim)))
  cases r with
  | none => exact wpAny_pure h₁
  | some v =>
    refine wpAny_bind (wpAny_mono h₁ (fun _ s₀ h₀ => ?_) fun _ _ h' => h'.elim)
    refine wpAny_bind (wpAny_mono h₀ (fun _ s₂ h₂ => wpAny_bind (wpAny_mono h₂ (fun ok s₃ h₃ => ?_) fun _ _ h' => h'.elim)) fun _ _ h' => h'.elim)
    cases ok with
    | false => exact wpAny_pure ⟨rfl, h₃⟩
    | true =>
      exact wpAny_bind (wpAny_bind (wpAny_mono h₃ (fun x s₄ h₄ => wpAny_bind (wpAny_mono h₄ (fun _ s₅ h₅ => wpAny_pure (wpAny_pure ⟨rfl, h₅⟩)) fun _ _ h' => h'.elim)) fun _ _ h' => h'.elim))
section
variable {X : Cx} {pins : List (Addr × Obj)} {σ : St} {H : Hp} {s : Shared} {N2 : List Str} {nt : Nat} {js : List Nat} {scope sc : Scope} {cl : List (Str × Addr)} {fp : List Addr} {elt iter tg : Expr} {ifs : List Expr} {pos : Pos}
  {wi : TI} {g : TG} {tt : TT} {te : TE}
theorem comp_run (O : CompOk X N2 nt js scope cl sc) (hc : X.calm = true) (B : ∀ (s0 : Shared) (H0 : Hp) (fp : List Addr) (ps : List (Addr × Obj)), CompB (compCx X N2 scope cl s0 H0 fp ps) tg ifs elt g tt te)
    {it : Addr} {tn : Nat → Heap → Prop} {J : It} {E : Value → Shared → Prop} {Q : VK} {RR : Value → Addr → Result → Shared → Prop}
    (I : Inv X pins σ H s) (T : Turn X.prog X.w X.K tg J fp it tn) (st : tn 0 s.heap) (hf : ∀ b ∈ fp, FpOk X pins H b)
    (h : ∀ acc, H acc = none → ∃ W : Nat → Nat → L2.St → Hp → Prop, (∃ m, W 0 m (sig0 nt js σ) (upd H acc (.lst []))) ∧ ∀ i m σ0 H, W i m σ0 H → (J.stop i H ∧ Q (.ref acc) H) ∨ turnC acc J g tt te W i m σ0 H)
    (hRR : ∀ (acc C : Addr) (s' : Shared) (H' : Hp) (m : Str → Option Value), s'.heap.Ns C m → Inv X pins σ H' s' → H' C = none → C ≠ X.env.locals → X.s₀.heap.objs.size ≤ C → (∀ x c, X.env.cells.lookup x = some c → c ≠ C) → (∀ p ∈ X.pn ++ pins, p.1 ≠ C) → Q (.ref acc) H' → RR (.ref acc) C (.ok .next) s') :
    wpAny (model X.prog X.w) X.A (newList []) (fun acc s₃ => wpAny (model X.prog X.w) X.A (newFunctionEnv scope X.env.globals cl [] X.env.qual none .none (some X.env)) (fun cenv s₄ =>
      codeAny (model X.prog X.w) X.A (.compStart (.ListComp elt [⟨tg, iter, ifs, 0⟩] scope pos) 0 (.ref it) acc { cenv with scope := relabel scope X.env }) (RR acc cenv.locals) s₄) E s₃) E s := by
  have hlt : ∀ b ∈ fp, b < s.heap.objs.size := fun b hb => by
    obtain ⟨o, e, _⟩ := T.obj _ _ st b hb
    exact Heap.lt_size e
  have hnA : H s.heap.objs.size = none := I.hok.fresh (Nat.le_refl _)
  obtain ⟨W, ⟨m0, w0⟩, turn⟩ := h s.heap.objs.size hnA
  refine wpAny_newObj_type (wpAny_newFunctionEnv O.nocell (by intro y hy; simp at hy) (fun h₁ hns₁ hsb₁ => ?_) O.kind)
  dsimp only at hns₁ hsb₁ ⊢
  have I3 : Inv X pins σ (upd H s.heap.objs.size (.lst [])) { s with heap := s.heap.push { cls := .type "list", dict := none, data := .seq ([] : List Value).toArray } } :=
    I.laid (t' := s.toks) (fun b u e => Heap.get?_push_of_some _ e) (Nat.le_refl _) ⟨by show 0 ≤ sizeLine; exact Nat.zero_le _, [], 0, .nil, Heap.get?_push_size _ rfl⟩
  generalize hs3 : ({ s with heap := s.heap.push { cls := .type "list", dict := none, data := .seq ([] : List Value).toArray } } : Shared) = s3 at I3
  have e3 : s3.heap = s.heap.push { cls := .type "list", dict := none, data := .seq ([] : List Value).toArray } := by rw [← hs3]
  rw [← e3] at hns₁ hsb₁ ⊢
  have et : s3.toks = s.toks := by rw [← hs3]
  have hf3 : ∀ b ∈ fp, FpOk X pins (upd H s.heap.objs.size (.lst [])) b := fun b hb => by
    obtain ⟨f0, f⟩ := hf b hb
    exact ⟨by rw [upd_ne (Nat.ne_of_lt (hlt b hb))]; exact f0, f⟩
  have hlt3 : ∀ b ∈ fp, b < s3.heap.objs.size := fun b hb => by rw [e3, Heap.size_push]; exact Nat.lt_succ_of_lt (hlt b hb)
  have hk4 : ∀ b o, s3.heap.get? b = some o → h₁.get? b = some o := fun b o e => hsb₁.extBut b o (Nat.ne_of_lt (Heap.lt_size e)) (Heap.get?_push_of_some _ e)
  have hns' : h₁.Ns s3.heap.objs.size fun _ => none := hns₁
  have I4 := comp_start (t4 := s3.toks + ([] : List (Str × Value)).length) O I3 hf3 hlt3 hns' hk4
  have st4 : tn 0 h₁ := T.keep _ _ _ st fun b hb o e => hk4 b o (by rw [e3]; exact Heap.get?_push_of_some _ e)
  have B4 := B s3 (upd H s.heap.objs.size (.lst [])) fp (X.pn ++ pins)
  generalize hY : compCx X N2 scope cl s3 (upd H s.heap.objs.size (.lst [])) fp (X.pn ++ pins) = Y at I4 B4
  have yP : Y.prog = X.prog := by rw [← hY]; rfl
  have yw : Y.w = X.w := by rw [← hY]; rfl
  have yK : Y.K = X.K := by rw [← hY]; rfl
  have yA : Y.A = X.A := by rw [← hY]; rfl
  have yc : Y.calm = true := by rw [← hY]; exact hc
  have yx : Y.xe = fun _ _ => False := by rw [← hY]; rfl
  have ye : Y.env = compEnvC scope cl s3.heap.objs.size X.env := by rw [← hY]; rfl
  have fpY : ∀ {H' : Hp}, (∀ b ∈ fp, H' b = none) → ∀ b ∈ fp, FpOk Y [] H' b := fun hn b hb => by
    obtain ⟨f0, f1, f2, f3, f4, f5⟩ := hf3 b hb
    rw [← hY]
    refine ⟨hn b hb, Nat.ne_of_lt (hlt3 b hb), fun hs => ?_, .inl hb, fun x c e => f4 x c (O.sub x c e), fun p hp => ?_⟩
    · rcases List.mem_cons.mp (I3.stkSub b hs) with e | e
      · exact f1 e
      · exact f2 e
    · have hp2 : p ∈ (X.pn ++ pins) ++ [] := hp
      rw [List.append_nil] at hp2
      exact f5 p hp2
  have fin : ∀ {σ' : St} {H' : Hp} {s' : Shared} {pl : List (Addr × Obj)}, Inv Y pl σ' H' s' → Q (.ref s.heap.objs.size) H' → RR (.ref s.heap.objs.size) s3.heap.objs.size (.ok .next) s' := fun {σ' H' s' pl} I' q => by
    have J' : Inv X pins σ H' s' := comp_end I3 hf3 (hY ▸ I')
    obtain ⟨m, hn, _⟩ := I'.loc
    have hfr := I'.free
    rw [ye] at hn hfr
    refine hRR _ _ s' H' m hn J' hfr (Nat.ne_of_gt I3.lt) I3.sz (fun x c e z => ?_) (fun p hp z => ?_) q
    · obtain ⟨v, q⟩ := I3.cell x c e
      exact absurd (Nat.lt_of_lt_of_le q.lt (by rw [z]; exact Nat.le_refl _)) (Nat.lt_irrefl _)
    · exact absurd (Nat.lt_of_lt_of_le (Heap.lt_size (I3.pin p hp).1) (by rw [z]; exact Nat.le_refl _)) (Nat.lt_irrefl _)
  have loop : ∀ s4 : Shared, s4 = { s3 with heap := h₁, toks := s3.toks + ([] : List (Str × Value)).length } →
      codeAny (model X.prog X.w) X.A (.compLoop (.ListComp elt [⟨tg, iter, ifs, 0⟩] scope pos) 0 (.ref it) (.ref s.heap.objs.size) (compEnvC scope cl s3.heap.objs.size X.env)) (RR (.ref s.heap.objs.size) s3.heap.objs.size) s4 := by
    rintro s4 rfl
    refine compLoop_own (fun n s' => ∃ i σ0 H', Inv Y [] σ0 H' s' ∧ tn i s'.heap ∧ (∀ b ∈ fp, H' b = none) ∧ W i n σ0 H') ?_ m0
      ⟨0, _, _, I4, st4, fun b hb => (hf3 b hb).1, w0⟩
    rintro n s5 ⟨i, σ5, H5, I5, st5, fr5, w5⟩
    rcases turn i n σ5 H5 w5 with ⟨stop, q⟩ | ⟨go, step⟩
    · have r := T.done Y yP yw yK yc i [] s5 _ H5 (fun _ _ => False) I5 (fpY fr5) st5 stop
      rw [yA] at r
      refine thn r fun r s6 ⟨hr, I6⟩ => ?_
      subst hr
      exact fin I6 q
    · have r := T.item Y yP yw yK yc i [] s5 _ H5 (fun _ _ => False) I5 (fpY fr5) st5 go
      rw [yA] at r
      refine thn r fun r s6 ⟨u, hr, h6⟩ => ?_
      subst hr
      refine thn h6 fun _ s7 ⟨x, H7, I7, r7, y7, st7, fr7⟩ => ?_
      have I7' := I7.pinned (fpY fr7) (T.obj _ _ st7)
      have r := B4.tgt _ s7 _ H7 x u _ I7' r7 (step x H7 y7)
      rw [yP, yw, yA, yx, ye] at r
      refine thn r fun _ s8 ⟨σ8, H8, I8, q8⟩ => ?_
      have r := B4.tst _ s8 σ8 H8 _ I8 q8
      rw [yP, yw, yA, yx, ye] at r
      refine thn r fun ok s9 ⟨H9, I9, q9⟩ => ?_
      have back : ∀ {s' : Shared} {H' : Hp}, Inv Y ([] ++ pinsAt fp s7.heap) σ8 H' s' → (Inv Y [] σ8 H' s' ∧ tn (i + 1) s'.heap ∧ ∀ b ∈ fp, H' b = none) := fun {s' H'} I' => by
        refine ⟨I'.unpinned, T.keep _ _ _ st7 fun b hb o e => (I'.pin (b, o) (List.mem_append_right _ (List.mem_append_right _ (mem_pinsAt hb e)))).1, fun b hb => ?_⟩
        obtain ⟨o, e, d⟩ := T.obj _ _ st7 b hb
        exact (I'.pin (b, o) (List.mem_append_right _ (List.mem_append_right _ (mem_pinsAt hb e)))).2.1
      cases ok with
      | false =>
        have q9' : ∃ m', m' < n ∧ W (i + 1) m' σ8 H9 := q9
        obtain ⟨m', hm, w9⟩ := q9'
        obtain ⟨b1, b2, b3⟩ := back I9
        show ∃ m, m < n ∧ _
        exact ⟨m', hm, i + 1, σ8, H9, b1, b2, b3, w9⟩
      | true =>
        have q9' : te σ8 H9 fun y H4 => ∃ ys, H4 s.heap.objs.size = some (.lst ys) ∧ ys.length < sizeLine ∧ ∃ m', m' < n ∧ W (i + 1) m' σ8 (upd H4 s.heap.objs.size (.lst (ys ++ [y]))) := q9
        have r := B4.elt _ s9 σ8 H9 _ I9 q9'
        rw [yP, yw, yA, yx, ye] at r
        show wpAny _ _ (eval elt _) _ _ s9
        refine thn r fun y s10 ⟨yv, H10, I10, r10, q10⟩ => ?_
        obtain ⟨ys, a1, a2, m', hm, w10⟩ := q10
        have r := mt_append (X := Y) _ s10 σ8 H10 (.ref s.heap.objs.size) [yv] (.ref s.heap.objs.size) [y] (fun _ H' => H' = upd H10 s.heap.objs.size (.lst (ys ++ [yv]))) I10 rfl (.cons r10 .nil) ⟨_, ys, yv, rfl, rfl, a1, a2, rfl⟩
        rw [yP, yw, yA, yx] at r
        refine thn r fun _ s11 ⟨_, H11, I11, _, e11⟩ => ?_
        subst e11
        obtain ⟨b1, b2, b3⟩ := back I11
        exact ⟨m', hm, i + 1, σ8, _, b1, b2, b3, w10⟩
  have st4' : tn 0 ({ s3 with heap := h₁, toks := s3.toks + ([] : List (Str × Value)).length } : Shared).heap := st4
  have hs4 : ({ s with heap := h₁, toks := s.toks + ([] : List (Str × Value)).length } : Shared) = { s3 with heap := h₁, toks := s3.toks + ([] : List (Str × Value)).length } := by rw [← hs3]
  exact codeAny_compStart_list (loop _ hs4) (T.self _ 0 _ _ _ st4 (loop _ hs4))
theorem pe_compO (O : CompOk X N2 nt js scope cl sc) (hc : X.calm = true) (hi : PI X tg iter wi) (B : ∀ (s0 : Shared) (H0 : Hp) (fp : List Addr) (ps : List (Addr × Obj)), CompB (compCx X N2 scope cl s0 H0 fp ps) tg ifs elt g tt te)
    (hs : ∀ x, foldedSetIterable iter X.env x = pure x := by intro _; rfl) : PE X (.ListComp elt [⟨tg, iter, ifs, 0⟩] scope pos) (tComp nt js wi g tt te) := by
  intro pins s σ H Q I h
  rw [eval_ListComp]
  refine wpAny_comprehension_free (use := none) rfl hs O.clos O.kind O.loc (thn (hi pins s σ H _ I h) fun xv s1 h1 => thn h1 fun itv s2 h2 => ?_)
  obtain ⟨it, fp, tn, J, H2, e, I2, T, st2, f2, q⟩ := h2
  subst e
  refine comp_run (RR := fun acc C => compPost (model X.prog X.w) X.A X.xe none (EP X pins σ Q) acc C) O hc B I2 T st2 f2 q ?_
  intro acc C s' H' m hn J' c1 c2 c3 c4 c5 q'
  refine ⟨m, hn, fun h' hsb => ⟨.ref acc, H', ?_, rfl, q'⟩⟩
  exact J'.turned (t' := s'.toks) (fun b o hb e => hsb.extBut b o hb e) c1 (Ne.symm c2 |> fun z => fun y => z y.symm) (.inr c3) c4 c5
theorem ps_setCO {i : Nat} {y : Str} {py spos : Pos} (hN : X.N.Nodup) (hy : X.N[i]? = some y) (hl : Loc X.env.scope y) (O : CompOk X N2 nt js scope cl sc) (hc : X.calm = true) (hi : PI X tg iter wi)
    (B : ∀ (s0 : Shared) (H0 : Hp) (fp : List Addr) (ps : List (Addr × Obj)), CompB (compCx X N2 scope cl s0 H0 fp ps) tg ifs elt g tt te)
    (hsw : swapsWith (.ListComp elt [⟨tg, iter, ifs, 0⟩] scope pos) (some (.Name y py)) spos.line X.env = pure true := by rfl)
    (hs : ∀ x, foldedSetIterable iter X.env x = pure x := by intro _; rfl) (hfn : X.fn y = true ∨ X.env.scope.names.lookup y = some .local := by first | exact .inl rfl | exact .inr rfl | assumption) :
    PS X (.Assign [.Name y py] (.ListComp elt [⟨tg, iter, ifs, 0⟩] scope pos) spos) (tAsg (tComp nt js wi g tt te) (gName i)) := by
  intro pins s σ H D I h
  rw [exec_Assign_Name_used _ _ _ _ hsw]
  refine wpAny_bind (wpAny_standAt (wpAny_bind ?_))
  show wpAny _ X.A (do let _ ← comprehension (.ListComp elt [⟨tg, iter, ifs, 0⟩] scope pos) scope X.env _ (newList []) false (eval iter X.env) (some (assign (.Name y py) X.env))) _ _ s
  refine wpAny_bind (wpAny_mono (wpAny_comprehension_free (use := some (assign (.Name y py) X.env)) (Q := fun _ s' => SP X pins D .next s') rfl hs O.clos O.kind O.loc
    (thn (hi pins s σ H _ I h) fun xv s1 h1 => thn h1 fun itv s2 h2 => ?_)) (fun _ s' hq => wpAny_pure (wpAny_pure hq)) fun _ _ e => e)
  obtain ⟨it, fp, tn, J, H2, e, I2, T, st2, f2, q⟩ := h2
  subst e
  refine comp_run (Q := fun v H1 => gName i v σ H1 D.nx) (RR := fun acc C => compPost (model X.prog X.w) X.A X.xe (some (assign (.Name y py) X.env)) (fun _ s' => SP X pins D .next s') acc C) O hc B I2 T st2 f2 q ?_
  intro acc C s' H' m hn J' c1 c2 c3 c4 c5 q'
  show wpAny _ X.A (assign (.Name y py) X.env (.ref acc)) _ _ _
  refine wpAny_assign_Name (store_ok2 (v := .ref acc) J' hN hy hl rfl (fun s2 I2' ⟨a, sb, ha⟩ => ?_) hfn)
  have hCa : C ≠ a := by
    rcases ha with ha | ha
    · rw [ha]; exact c2
    · exact fun z => c4 y a ha z.symm
  refine ⟨m, hn.sameBut sb hCa, fun h' hsb => ⟨_, H', ?_, q'⟩⟩
  exact I2'.turned (t' := s2.toks) (fun b o hb e => hsb.extBut b o hb e) c1 c2 (.inr c3) c4 c5
end
end L2


set_option linter.all false
set_option maxRecDepth 100000
set_option maxHeartbeats 4000000
namespace U
open PySem PySem.Spec PyProof.Rows L2
variable {B : Bs} {X : Cx} {pos : Pos}
def sigU (nt : Nat) (js : List Nat) (σ : St') : St' := List.replicate nt none ++ js.map fun j => (σ[j]?).join
theorem SR.sig {K : PySem.W.Frag} {σ' : St'} {H' : PHp} {σ : L2.St} {H : Hp} (s : SR K B σ' H' σ H) (nt : Nat) (js : List Nat) : SR K B (sigU nt js σ') H' (sig0 nt js σ) H := by
  refine ⟨by simp [sigU, sig0], fun i v' e => ?_, s.hp, s.ev⟩
  unfold sigU at e
  unfold sig0
  by_cases hi : i < nt
  · rw [List.getElem?_append_left (by simpa using hi), List.getElem?_replicate] at e
    split at e <;> cases e
  · rw [List.getElem?_append_right (by simp; omega), List.length_replicate, List.getElem?_map] at e ⊢
    cases ej : js[i - nt]? with
    | none => rw [ej] at e; cases e
    | some j =>
      rw [ej] at e
      have e2 : (σ'[j]?).join = some v' := Option.some.inj e
      cases q : σ'[j]? with
      | none => rw [q] at e2; cases e2
      | some o =>
        rw [q] at e2
        have e3 : σ'[j]? = some (some v') := by rw [q]; exact congrArg some e2
        obtain ⟨v, a, b⟩ := s.loc j v' e3
        exact ⟨v, by show some ((σ[j]?).join) = _; rw [a]; rfl, b⟩
def uCompL (ok : PHp → Prop) (g : TG') (tt : TT') (te : TE') (acc : Addr) (Q : VK') : List PV → St' → PHp → Prop
  | [], σ, H => ok H ∧ Q (.ref acc) H
  | x :: r, σ, H => ok H ∧ g x σ H fun σ3 H2 => tt σ3 H2 fun b H3 => cif b (te σ3 H3 fun y H4 => ∃ l, H4 acc = some (.lst l) ∧ l.length < sizeLine ∧ uCompL ok g tt te acc Q r σ3 (put H4 acc (.lst (l ++ [y])))) (uCompL ok g tt te acc Q r σ3 H3)
def uComp (nt : Nat) (js : List Nat) (wi : TI') (g : TG') (tt : TT') (te : TE') : TE' := fun σ H Q => wi σ H fun J H1 => ∀ acc, H1 acc = none → uCompL J.ok g tt te acc Q J.items (sigU nt js σ) (put H1 acc (.lst []))
def PIf' (Y : Cx) (B : Bs) (ifs : List Expr) (t : TT') : Prop := PIf Y ifs (lowT Y.K B t)
def uYes : TT' := fun _ H Q => Q true H
theorem qif_nil {Y : Cx} : PIf' Y B [] uYes := fun pins s σ H Q I ⟨σ', H', Q', sr, h, k⟩ => pif_nil pins s σ H Q I (k true H' H h sr (Ev.refl _ _))
theorem qif_one {Y : Cx} {c : Expr} {t : TT'} (h : PT' Y B c t) : PIf' Y B [c] t := pif_one h
theorem low_comp {K : PySem.W.Frag} {nt : Nat} {js : List Nat} {wi : TI'} {g : TG'} {tt : TT'} {te : TE'} {σ : L2.St} {H : Hp} {Q : VK} (h : low K B (uComp nt js wi g tt te) σ H Q) :
    tComp nt js (lowI K B wi) (lowG K B g) (lowT K B tt) (low K B te) σ H Q := by
  obtain ⟨σ', H', Q', s, h, k⟩ := h
  refine ⟨σ', H', _, s, h, fun J' H1' J H1 h1 wk s1 e1 acc ha => ?_⟩
  have h1 := h1 acc (s1.hp.free ha)
  have sn : SR K B σ' (put H1' acc (.lst [])) σ (upd H1 acc (.lst [])) := s1.new ha ⟨[], upd_same, RPs.nil _⟩
  have en : Ev H1' H1 (put H1' acc (.lst [])) (upd H1 acc (.lst [])) := Ev.new ha
  refine ⟨fun i m σ2 H2 => i ≤ J'.items.length ∧ m = J'.items.length - i ∧ ∃ σ2' H2', SR K B σ2' H2' σ2 H2 ∧ SR K B σ' H2' σ H2 ∧ Ev H1' H1 H2' H2 ∧ uCompL J'.ok g tt te acc Q' (J'.items.drop i) σ2' H2',
    ⟨J'.items.length, Nat.zero_le _, by simp, _, _, sn.sig nt js, sn, en, h1⟩, ?_⟩
  rintro i m σ2 H2 ⟨hi, rfl, σ2', H2', s2, so, e2, h2⟩
  have k2 := e2.kp s1.hp
  by_cases hlt : i < J'.items.length
  · obtain ⟨x', hx⟩ : ∃ x', J'.items[i]? = some x' := ⟨_, List.getElem?_eq_getElem hlt⟩
    have hd : J'.items.drop i = x' :: J'.items.drop (i + 1) := by
      rw [List.drop_eq_getElem_cons hlt]
      rw [List.getElem?_eq_getElem hlt] at hx
      cases hx; rfl
    rw [hd] at h2
    obtain ⟨ok2, h2⟩ := (show J'.ok H2' ∧ _ from h2)
    refine .inr ⟨wk.go H2' H2 i k2 s2.hp ok2 hlt, fun x H3 y => ?_⟩
    obtain ⟨rfl, rx⟩ := wk.yld H2' H2 i x H3 k2 s2.hp ok2 y
    refine ⟨x', σ2', H2', _, rx x' hx, s2, h2, fun σ3' H3' σ3 H3 h3 s3 e3 => ⟨σ3', H3', _, s3, h3, fun b H4' H4 h4 s4 e4 => ?_⟩⟩
    cases b with
    | false =>
      have e24 := e3.trans e4
      exact iteF ⟨J'.items.length - (i + 1), by omega, hlt, rfl, σ3', H4', s4, so.kp e24 s4.hp, e2.trans e24, h4⟩
    | true =>
      refine iteT ⟨σ3', H4', _, s4, h4, fun y' H5' y H5 h5 ry5 s5 e5 => ?_⟩
      obtain ⟨l, a1, a2, h5⟩ := h5
      have e25 := (e3.trans e4).trans e5
      obtain ⟨us, q1, q2⟩ := s5.hp _ _ a1
      have wr := wrL s5.hp a1 (RPs.append _ q2 (RPs.cons _ ry5 (RPs.nil _)))
      refine ⟨us, q1, by rw [RPs.length _ q2]; exact a2, J'.items.length - (i + 1), by omega, hlt, rfl, σ3', _, s5.wr a1 wr, (so.kp e25 s5.hp).wr a1 wr, (e2.trans e25).trans (Ev.wr a1), h5⟩
  · have hi' : i = J'.items.length := by omega
    subst hi'
    rw [List.drop_length] at h2
    obtain ⟨ok2, h2⟩ := (show J'.ok H2' ∧ _ from h2)
    exact .inl ⟨wk.stop H2' H2 _ k2 s2.hp ok2 (Nat.le_refl _), k _ _ _ _ h2 (by simp [RP]) so (e1.trans e2)⟩

section
variable {N2 : List Str} {nt : Nat} {js : List Nat} {scope sc : Scope} {cl : List (Str × Addr)} {elt iter tg : Expr} {ifs : List Expr} {wi : TI'} {g : TG'} {tt : TT'} {te : TE'}
structure CompB' (Y : Cx) (B : Bs) (tg : Expr) (ifs : List Expr) (elt : Expr) (g : TG') (tt : TT') (te : TE') : Prop where
  tgt : PG' Y B tg g
  tst : PIf' Y B ifs tt
  elt : PE' Y B elt te
theorem qe_comp (O : CompOk X N2 nt js scope cl sc) (hc : X.calm = true) (hi : PI' X B tg iter wi) (b : ∀ (s0 : Shared) (H0 : Hp) (fp : List Addr) (ps : List (Addr × Obj)), CompB' (compCx X N2 scope cl s0 H0 fp ps) B tg ifs elt g tt te)
    (hs : ∀ x, foldedSetIterable iter X.env x = pure x := by intro _; rfl) : PE' X B (.ListComp elt [⟨tg, iter, ifs, 0⟩] scope pos) (uComp nt js wi g tt te) :=
  pe_imp (pe_compO (g := lowG X.K B g) (tt := lowT X.K B tt) (te := low X.K B te) O hc hi (fun s0 H0 fp ps => ⟨(b s0 H0 fp ps).tgt, (b s0 H0 fp ps).tst, (b s0 H0 fp ps).elt⟩) hs) fun _ _ _ h => low_comp h
theorem qs_setC {i : Nat} {y : Str} {py spos : Pos} (hN : X.N.Nodup) (hy : X.N[i]? = some y) (hl : Loc X.env.scope y) (O : CompOk X N2 nt js scope cl sc) (hc : X.calm = true) (hi : PI' X B tg iter wi)
    (b : ∀ (s0 : Shared) (H0 : Hp) (fp : List Addr) (ps : List (Addr × Obj)), CompB' (compCx X N2 scope cl s0 H0 fp ps) B tg ifs elt g tt te)
    (hsw : swapsWith (.ListComp elt [⟨tg, iter, ifs, 0⟩] scope pos) (some (.Name y py)) spos.line X.env = pure true := by rfl)
    (hs : ∀ x, foldedSetIterable iter X.env x = pure x := by intro _; rfl) (hfn : X.fn y = true ∨ X.env.scope.names.lookup y = some .local := by first | exact .inl rfl | exact .inr rfl | assumption) :
    PS' X B (.Assign [.Name y py] (.ListComp elt [⟨tg, iter, ifs, 0⟩] scope pos) spos) (uAsg (uComp nt js wi g tt te) (vName i)) :=
  ps_imp (ps_setCO (g := lowG X.K B g) (tt := lowT X.K B tt) (te := low X.K B te) hN hy hl O hc hi (fun s0 H0 fp ps => ⟨(b s0 H0 fp ps).tgt, (b s0 H0 fp ps).tst, (b s0 H0 fp ps).elt⟩) hsw hs hfn) fun D σ H ⟨σ', H', D', s, h, d⟩ => by
    refine low_comp ⟨σ', H', _, s, h, fun v' H1' v H1 q r s1 e1 => ?_⟩
    exact d.nx _ _ _ _ q (s1.set r i) e1
end
end U
namespace U
open PySem PySem.Spec PyProof.Rows L2
def AllL (cs : List (Str × Addr)) : List (Str × Addr) → Prop
  | [] => True
  | p :: r => cs.lookup p.1 = some p.2 ∧ AllL cs r
theorem AllL.mem {cs : List (Str × Addr)} : ∀ {l : List (Str × Addr)} {p : Str × Addr}, AllL cs l → p ∈ l → cs.lookup p.1 = some p.2
  | q :: r, p, h, m => by
    rcases List.mem_cons.mp m with rfl | m
    · exact h.1
    · exact AllL.mem h.2 m
theorem cok {X : Cx} {N2 : List Str} {nt : Nat} {js : List Nat} {scope sc : Scope} {cl : List (Str × Addr)} (clos : closureFor scope X.env = pure cl) (sub : AllL X.env.cells cl) (xsc : X.env.scope = sc) (kind : scope.kind = .function)
    (nocell : ∀ y ∈ scope.names, y.2 ≠ .cell) (loc : ∀ y ∈ scope.names, y.2 = .local → scope.names.lookup y.1 = some .local) (names : cl.map (·.1) = ((scope.names.filter (·.2 == .free)).map (·.1)).reverse)
    (frs : ∀ x ∈ N2.drop nt, scope.names.lookup x = some .free ∧ sc.names.lookup x = some .cell) (len : N2.length = nt + js.length) (pl : js.map (fun j => X.N[j]?) = (N2.drop nt).map some) : CompOk X N2 nt js scope cl sc :=
  ⟨clos, fun x c e => sub.mem (lookup_mem e), xsc, kind, nocell, loc, fun y m f => by rw [names]; exact List.mem_reverse.mpr (List.mem_map_of_mem (List.mem_filter.mpr ⟨m, by rw [f]; rfl⟩)), frs, len, fun k j e => by
    have h : (js.map (fun j => X.N[j]?))[k]? = ((N2.drop nt).map some)[k]? := by rw [pl]
    rw [List.getElem?_map, List.getElem?_map, e, List.getElem?_drop] at h
    cases q : N2[nt + k]? with
    | none => rw [q] at h; cases h
    | some x => rw [q] at h; exact Option.some.inj h⟩
end U
namespace U
open PySem PySem.Spec PyProof.Rows L2
end U


set_option linter.all false
set_option maxRecDepth 100000
set_option maxHeartbeats 4000000
namespace L2
open PySem PySem.Spec PyProof.Rows
variable {X : Cx} {a b c d : Expr} {pos : Pos} {ta tb tc td : TE}
def tChain3 (r r' r'' : R2) (ta tb tc td : TE) : TE := fun σ H Q => ta σ H fun x H1 => tb σ H1 fun y H2 => r x y H2 fun z H3 => ∃ k, z = .bl k ∧
  (if k = true then tc σ H3 fun w' H4 => r' y w' H4 fun z' H5 => ∃ k', z' = .bl k' ∧ (if k' = true then td σ H5 fun v' H6 => r'' w' v' H6 Q else Q (.bl false) H5) else Q (.bl false) H3)
theorem pe_chain3 {op op' op'' : CmpOp} {r r' r'' : R2} (ho : OpR X (compareOp op) r) (ho' : OpR X (compareOp op') r') (ho'' : OpR X (compareOp op'') r'') (ha : PE X a ta) (hb : PE X b tb) (hc : PE X c tc) (hd : PE X d td)
    (hm : lastMarks [op, op', op''] [b, c, d] = false := by with_unfolding_all rfl) : PE X (.Compare a [op, op', op''] [b, c, d] pos) (tChain3 r r' r'' ta tb tc td) := by
  intro pins s σ H Q I h
  refine Compare_chain (thn (ha pins s σ H _ I h) fun v s1 ⟨x, H1, I1, r1, q1⟩ => chain_link (thn (hb pins s1 σ H1 _ I1 q1) fun u s2 ⟨y, H2, I2, r2, q2⟩ =>
    thn (ho pins s2 σ H2 x y v u _ I2 r1 r2 q2) fun d s3 ⟨z, H3, I3, r3, k, e, q3⟩ => ?_)) hm
  subst e
  cases r3
  refine wpAny_truthy_bool ?_
  cases k with
  | false => exact ite_ff ⟨.bl false, H3, I3, rfl, q3⟩
  | true =>
    refine ite_tt (chain_link (thn (hc pins s3 σ H3 _ I3 q3) fun w' s4 ⟨z', H4, I4, r4, q4⟩ => thn (ho' pins s4 σ H4 y z' u w' _ I4 r2 r4 q4) fun d' s5 ⟨z5, H5, I5, r5, k5, e5, q5⟩ => ?_))
    subst e5
    cases r5
    refine wpAny_truthy_bool ?_
    cases k5 with
    | false => exact ite_ff ⟨.bl false, H5, I5, rfl, q5⟩
    | true => exact ite_tt (chain_last (thn (hd pins s5 σ H5 _ I5 q5) fun w6 s6 ⟨z6, H6, I6, r6, q6⟩ => ho'' pins s6 σ H6 z' z6 w' w6 Q I6 r4 r6 q6))
end L2
namespace U
open PySem PySem.Spec PyProof.Rows L2
variable {B : Bs} {X : Cx} {a b c d e o value : Expr} {pos pos' apos p : Pos} {ta tb tc td tv : TE'} {f m x : Str} {C g : Addr}
def uChain3 (r r' r'' : R2') (ta tb tc td : TE') : TE' := fun σ H Q => ta σ H fun x H1 => tb σ H1 fun y H2 => r x y H2 fun z H3 => withB z fun k => cif k (tc σ H3 fun w' H4 => r' y w' H4 fun z' H5 => withB z' fun k' => cif k' (td σ H5 fun v' H6 => r'' w' v' H6 Q) (Q (.bl false) H5)) (Q (.bl false) H3)
theorem qe_chain3 {op op' op'' : CmpOp} {r1' r2' r3' : R2'} {r1 r2 r3 : R2} (ho : OpR X (compareOp op) r1) (v1 : VR X.K B r1' r1) (ho' : OpR X (compareOp op') r2) (v2 : VR X.K B r2' r2) (ho'' : OpR X (compareOp op'') r3) (v3 : VR X.K B r3' r3)
    (ha : PE' X B a ta) (hb : PE' X B b tb) (hc : PE' X B c tc) (hd : PE' X B d td)
    (hm : lastMarks [op, op', op''] [b, c, d] = false := by with_unfolding_all rfl) : PE' X B (.Compare a [op, op', op''] [b, c, d] pos) (uChain3 r1' r2' r3' ta tb tc td) := pe_imp (pe_chain3 ho ho' ho'' ha hb hc hd hm) fun σ H Q ⟨σ', H', Q', s, h, k⟩ => by
  refine ⟨σ', H', _, s, h, fun x' H1' x H1 h1 rx s1 e1 => ⟨σ', H1', _, s1, h1, fun y' H2' y H2 h2 ry s2 e2 => ?_⟩⟩
  refine v1 σ' σ H2' H2 x' y' x y _ _ s2 (RP.kp X.K (e2.kp s1.hp) rx) ry h2 fun z' H3' z H3 q rz s3 e3 => ?_
  obtain ⟨b, rfl, q⟩ := q.ex
  simp only [RP] at rz
  refine ⟨b, rz, ?_⟩
  cases b with
  | false => exact iteF (k _ _ _ _ q (by simp [RP]) s3 ((e1.trans e2).trans e3))
  | true =>
    refine iteT ⟨σ', H3', _, s3, q, fun w' H4' w H4 h4 rw4 s4 e4 => ?_⟩
    refine v2 σ' σ H4' H4 y' w' y w _ _ s4 (RP.kp X.K ((e3.trans e4).kp s2.hp) ry) rw4 h4 fun z5' H5' z5 H5 q5 rz5 s5 e5 => ?_
    obtain ⟨b5, rfl, q5⟩ := q5.ex
    simp only [RP] at rz5
    refine ⟨b5, rz5, ?_⟩
    cases b5 with
    | false => exact iteF (k _ _ _ _ q5 (by simp [RP]) s5 ((((e1.trans e2).trans e3).trans e4).trans e5))
    | true =>
      refine iteT ⟨σ', H5', _, s5, q5, fun v' H6' v H6 h6 rv s6 e6 => ?_⟩
      exact v3 σ' σ H6' H6 w' v' w v _ _ s6 (RP.kp X.K ((e5.trans e6).kp s4.hp) rw4) rv h6 fun z7' H7' z7 H7 q7 rz7 s7 e7 => k _ _ _ _ q7 rz7 s7 ((((((e1.trans e2).trans e3).trans e4).trans e5).trans e6).trans e7)
def fldOf (C : Addr) (f : Str) (x : PV) (H : PHp) (Q : VK') : Prop := match x with
  | .ref a => ∃ dx fs v, H a = some (.ins C dx fs) ∧ fs.lookup f = some v ∧ Q v H
  | _ => False
def uFld (C : Addr) (f : Str) (ta : TE') : TE' := fun σ H Q => ta σ H fun x H1 => fldOf C f x H1 Q
theorem frel_lookup {K : PySem.W.Frag} {H : Hp} {f : Str} {v : PV} {fs : List (Str × PV)} {gs : List (Str × V)} (h : FRel K H fs gs) (e : fs.lookup f = some v) : ∃ u, gs.lookup f = some u ∧ RP K H v u := by
  induction h with
  | nil => simp at e
  | @cons a b _ _ h t ih =>
    obtain ⟨n, y⟩ := a
    obtain ⟨m, z⟩ := b
    obtain ⟨rfl, hr⟩ := h
    dsimp only at hr
    cases hx : f == n with
    | true =>
      simp only [List.lookup_cons, hx] at e ⊢
      cases e
      exact ⟨z, rfl, hr⟩
    | false =>
      simp only [List.lookup_cons, hx] at e ⊢
      exact ih e
theorem frel_none {K : PySem.W.Frag} {H : Hp} {f : Str} {fs : List (Str × PV)} {gs : List (Str × V)} (h : FRel K H fs gs) (e : fs.lookup f = none) : gs.lookup f = none := by
  induction h with
  | nil => rfl
  | @cons a b _ _ h t ih =>
    obtain ⟨n, y⟩ := a
    obtain ⟨m, z⟩ := b
    obtain ⟨rfl, hr⟩ := h
    cases hx : f == n with
    | true => simp only [List.lookup_cons, hx] at e; cases e
    | false =>
      simp only [List.lookup_cons, hx] at e ⊢
      exact ih e
theorem frel_len {K : PySem.W.Frag} {H : Hp} {fs : List (Str × PV)} {gs : List (Str × V)} (h : FRel K H fs gs) : gs.length = fs.length := by
  induction h with
  | nil => rfl
  | cons _ _ ih => simp [ih]
theorem qe_fld (ha : PE' X B e ta) (cl : Cls X.K C) (n : NoAttr X.K C f) (hb : attributeBase e f X.env (eval e X.env) = eval e X.env) : PE' X B (.Attribute e f pos) (uFld C f ta) := pe_imp (pe_fld ha hb) fun σ H Q ⟨σ', H', Q', s, h, k⟩ => by
  refine ⟨σ', H', _, s, h, fun x' H1' x H1 h1 rx s1 e1 => ?_⟩
  cases x' with
  | ref a =>
    obtain ⟨dx, fs, v, ea, l, q⟩ := h1
    simp only [RP] at rx
    subst rx
    obtain ⟨gs, eg, fr⟩ := s1.hp _ _ ea
    obtain ⟨u, lu, ru⟩ := frel_lookup fr l
    exact ⟨a, C, dx, gs, u, rfl, eg, cl, n, lu, k _ _ _ _ q ru s1 e1⟩
  | _ => exact h1.elim
def putU (f : Str) (v : PV) : List (Str × PV) → List (Str × PV)
  | [] => [(f, v)]
  | (g, x) :: r => if g = f then (g, v) :: r else (g, x) :: putU f v r
theorem frel_put {K : PySem.W.Frag} {H : Hp} {f : Str} {v : PV} {u : V} (rv : RP K H v u) {fs : List (Str × PV)} {gs : List (Str × V)} (h : FRel K H fs gs) : FRel K H (putU f v fs) (putF f u gs) := by
  induction h with
  | nil => exact .cons ⟨rfl, rv⟩ .nil
  | @cons a b _ _ h t ih =>
    obtain ⟨n, y⟩ := a
    obtain ⟨m, z⟩ := b
    obtain ⟨rfl, hr⟩ := h
    unfold putU putF
    by_cases hn : n = f
    · rw [if_pos hn, if_pos hn]; exact .cons ⟨rfl, rv⟩ t
    · rw [if_neg hn, if_neg hn]; exact .cons ⟨rfl, hr⟩ ih
def stFld (C : Addr) (f : Str) (x y : PV) (H : PHp) (Q : PHp → Prop) : Prop := match x with
  | .ref a => ∃ dx fs, H a = some (.ins C dx fs) ∧ fs.length < 1000 ∧ Q (put H a (.ins C dx (putU f y fs)))
  | _ => False
def uStFld (C : Addr) (f : Str) (ta tv : TE') : TS' := fun D σ H => tv σ H fun y H1 => ta σ H1 fun x H2 => stFld C f x y H2 fun H3 => D.nx σ H3
theorem qs_fld (ha : PE' X B o ta) (hv : PE' X B value tv) (cl : Cls X.K C) (n : NoAttr X.K C f) (hs : swapsWith value (some (.Attribute o f pos')) pos.line X.env = pure false) : PS' X B (.Assign [.Attribute o f pos'] value pos) (uStFld C f ta tv) := ps_imp (ps_fld ha hv hs) fun D σ H ⟨σ', H', D', s, h, dd⟩ => by
  refine ⟨σ', H', _, s, h, fun y' H1' y H1 h1 ry s1 e1 => ⟨σ', H1', _, s1, h1, fun x' H2' x H2 h2 rx s2 e2 => ?_⟩⟩
  cases x' with
  | ref a =>
    obtain ⟨dx, fs, ea, l, q⟩ := h2
    simp only [RP] at rx
    subst rx
    obtain ⟨gs, eg, fr⟩ := s2.hp _ _ ea
    have ry2 := RP.kp X.K (e2.kp s1.hp) ry
    have new : OAt X.K (upd H2 a (.ins C dx (putF f y gs))) a (.ins C dx (putU f y' fs)) := ⟨_, upd_same, FRel.kp (s2.hp.kpw ea) (frel_put ry2 fr)⟩
    exact ⟨a, C, dx, gs, rfl, eg, cl, n, by rw [frel_len fr]; exact l, dd.nx _ _ _ _ q (s2.wr ea new) ((e1.trans e2).trans (Ev.wr ea))⟩
  | _ => exact h2.elim
def isIn (C : Addr) (m : Str) (x : PV) (H : PHp) : Prop := match x with
  | .ref a => ∃ dx fs, H a = some (.ins C dx fs) ∧ fs.lookup m = none
  | _ => False
def uMeth (C : Addr) (m : Str) (sp : Sp') (E' : XK') (ta : TE') (t : TA') : TE' := fun σ H Q => ta σ H fun x H1 => isIn C m x H1 ∧ t σ H1 fun vs H2 => sp (x :: vs) H2 Q E'
section
variable {k : Nat} {fd : FuncData} {ps : List Str} {sp : Sp'} {es : List Expr} {t : TA'}
theorem low_meth0 {K : PySem.W.Frag} {σ : L2.St} {H : Hp} {Q : VK} (h : low K B (uMeth C m sp X0 ta t) σ H Q) : tMeth C m (lowSp K sp) [] E0 (low K B ta) (lowA K B t) σ H Q := by
  obtain ⟨σ', H', Q', s, h, k⟩ := h
  refine ⟨σ', H', _, s, h, fun x' H1' x H1 h1 rx s1 e1 => ?_⟩
  obtain ⟨hi, h1⟩ := h1
  cases x' with
  | ref a =>
    obtain ⟨dx, fs, ea, l⟩ := hi
    simp only [RP] at rx
    subst rx
    obtain ⟨gs, eg, fr⟩ := s1.hp _ _ ea
    refine ⟨a, dx, gs, rfl, eg, frel_none fr l, σ', H1', _, s1, h1, fun vs' H2' vs H2 h2 r2 s2 e2 => ?_⟩
    show lowSp K sp (V.ref a :: (vs ++ [])) H2 Q E0
    rw [List.append_nil]
    exact ⟨.ref a :: vs', H2', Q', X0, RPs.cons _ (by simp [RP]) r2, s2.hp, h2, fun v' H3' v H3 q r3 h3 e3 => k v' H3' v H3 q r3 (s2.kp e3 h3) ((e1.trans e2).trans e3), fun _ _ _ _ z => z.elim⟩
  | _ => exact hi.elim
theorem qe_meth {pl : Sem Bool} (he : PE' X B o ta) (cl : Cls X.K C) (hm : Meth X.K C m g) (F : FnOk' X.prog X.w X.K X.mg X.base CX0 k g fd ps sp) (hr : Room k X.A) (hb : Binds X.K fd ps []) (ha : PA' X B (e :: es) t)
    (hst : starEach (e :: es) X.env = (false, eval e X.env) :: starEach es X.env := by rfl) (hpl : (backTo pos (starEach es X.env)).any (·.1) = false := by rfl)
    (ht : eval (.Call (.Attribute o m apos) (e :: es) [] pos) X.env = (do
      let ov ← eval o X.env
      standAt apos.atName
      let (f, first) ← holding [ov] (getMethod ov m pl)
      callWith pos f first (backTo pos (starEach (e :: es) X.env)) (backToKw pos (keywordEach [] X.env))) := by rfl) :
    PE' X B (.Call (.Attribute o m apos) (e :: es) [] pos) (uMeth C m sp X0 ta t) := pe_imp (pe_meth he cl hm F hr hb .nil pass0 ha hst hpl ht) fun _ _ _ h => low_meth0 h
theorem qe_meth0 {pl : Sem Bool} (he : PE' X B o ta) (cl : Cls X.K C) (hm : Meth X.K C m g) (F : FnOk' X.prog X.w X.K X.mg X.base CX0 k g fd ps sp) (hr : Room k X.A) (hb : Binds X.K fd ps [])
    (ht : eval (.Call (.Attribute o m apos) [] [] pos) X.env = (do
      let ov ← eval o X.env
      standAt apos.atName
      let (f, first) ← holding [ov] (getMethod ov m pl)
      callWith pos f first (backTo pos (starEach [] X.env)) (backToKw pos (keywordEach [] X.env))) := by rfl) :
    PE' X B (.Call (.Attribute o m apos) [] [] pos) (uMeth C m sp X0 ta uNil) := pe_imp (pe_meth0 he cl hm F hr hb .nil pass0 ht) fun σ H Q ⟨σ', H', Q', s, h, k⟩ => by
  refine ⟨σ', H', _, s, h, fun x' H1' x H1 h1 rx s1 e1 => ?_⟩
  obtain ⟨hi, h1⟩ := h1
  cases x' with
  | ref a =>
    obtain ⟨dx, fs, ea, l⟩ := hi
    simp only [RP] at rx
    subst rx
    obtain ⟨gs, eg, fr⟩ := s1.hp _ _ ea
    exact ⟨a, dx, gs, rfl, eg, frel_none fr l, [.ref a], H1', Q', X0, RPs.cons _ (by simp [RP]) (RPs.nil _), s1.hp, h1, fun v' H3' v H3 q r3 h3 e3 => k v' H3' v H3 q r3 (s1.kp e3 h3) (e1.trans e3), fun _ _ _ _ z => z.elim⟩
  | _ => exact hi.elim
def uMake (C : Addr) (sp : Sp') (E' : XK') (t : TA') : TE' := fun σ H Q => t σ H fun vs H1 => ∀ x dx, H1 x = none → H1 dx = none → dx ≠ x → sp (.ref x :: vs) (put H1 x (.ins C dx [])) (fun v H2 => v = .non ∧ Q (.ref x) H2) E'
theorem qe_make (M : Mk X.K C g) (F : FnOk' X.prog X.w X.K X.mg X.base CX0 k g fd ps sp) (hr : Room (k + 1) X.A) (hg : Gl X x) (hm : X.mg x = some (.ref C)) (hb : Binds X.K fd ps [])
    (ha : PA' X B (e :: es) t) (hdb : (x == ("__debug__" : Str)) = false := by decide) (he : starEach (e :: es) X.env = (false, eval e X.env) :: starEach es X.env := by rfl) (hpl : (backTo pos (starEach es X.env)).any (·.1) = false := by rfl) :
    PE' X B (.Call (.Name x p) (e :: es) [] pos) (uMake C sp X0 t) := pe_imp (pe_make M F hr hg hm hb .nil pass0 ha hdb he hpl) fun σ H Q ⟨σ', H', Q', s, h, k⟩ => by
  refine ⟨σ', H', _, s, h, fun vs' H1' vs H1 h1 r1 s1 e1 => ?_⟩
  intro x dx nx nd ne
  have h2 := h1 x dx (s1.hp.free nx) (s1.hp.free nd) ne
  have nx2 : upd H1 dx (.own x) x = none := by rw [upd_ne (Ne.symm ne)]; exact nx
  have sd := s1.hid (o := .own x) nd
  have new : OAt X.K (upd (upd H1 dx (.own x)) x (.ins C dx [])) x (.ins C dx []) := ⟨[], upd_same, .nil⟩
  have s2 := sd.new nx2 new
  have e2 : Ev H1' H1 (put H1' x (.ins C dx [])) (upd (upd H1 dx (.own x)) x (.ins C dx [])) := (Ev.hid nd).trans (Ev.new nx2)
  show lowSp X.K sp (.ref x :: (vs ++ [])) _ _ E0
  rw [List.append_nil]
  refine ⟨.ref x :: vs', _, _, X0, RPs.cons _ (by simp [RP]) (RPs.kp X.K (e2.kp s1.hp) r1), s2.hp, h2, fun v' H3' v H3 q r3 h3 e3 => ?_, fun _ _ _ _ z => z.elim⟩
  obtain ⟨rfl, q⟩ := q
  simp only [RP] at r3
  exact ⟨r3, k _ _ _ _ q (by simp [RP]) (s2.kp e3 h3) ((e1.trans e2).trans e3)⟩
end
end U


set_option linter.all false
set_option maxRecDepth 100000
set_option maxHeartbeats 4000000
namespace L2
open PySem PySem.Spec PyProof.Rows
variable {X : Cx}
def rAll (K : PySem.W.Frag) : List V → Hp → VK → Prop := fun xs H Q => ∃ (p : Addr) (bs : List Bool), xs = [.ref p] ∧ SqL K H p (bs.map V.bl) ∧ Q (.bl (bs.all id)) H
theorem vals_bools : ∀ {bs : List Bool} {us : List Value}, Vals (bs.map V.bl) us → us = bs.map Value.bool
  | [], _, .nil => rfl
  | b :: bs, _, .cons r t => by rw [vals_bools t]; cases r; rfl
theorem call_all (hc : X.calm = true) : CallR X (.builtin "all") (rAll X.K) := by
  intro pins s σ H xs us Q I r h
  obtain ⟨a, bs, rfl, hq, q⟩ := h
  obtain ⟨u, rfl, ru⟩ := Vals.one r
  cases ru
  obtain ⟨its, rv, p, hz⟩ := I.list hq
  have e := vals_bools rv
  subst e
  have hl : s.heap.IsList a (bs.map Value.bool).toArray := p.isList
  have llt : a < s.heap.objs.size := by obtain ⟨o, e, _⟩ := hl; exact Heap.lt_size e
  have hne : a ≠ s.heap.objs.size := Nat.ne_of_lt llt
  refine call_all_walk (wpAny_pyIter_list hl ?_)
  refine ⟨s.heap.objs.size, [s.heap.objs.size, a], [s.heap.objs.size], (bs.map Value.bool).toArray.size, _, _, fun i => bs.getD i false, rfl, Walks.list (by simpa using I.ok.hd hc) _ a hne _, ⟨⟨_, Heap.get?_push_size _ rfl, rfl, rfl⟩, hl.at fun o e => Heap.get?_push_of_some _ e⟩, ?_, ?_⟩
  · intro i v s' Q' E' hv hQ
    have : v = Value.bool (bs.getD i false) := by
      have hv' : (bs.map Value.bool)[i]? = some v := by simpa using hv
      rw [List.getElem?_map] at hv'
      cases hb : bs[i]? with
      | none => rw [hb] at hv'; cases hv'
      | some b => rw [hb] at hv'; cases hv'; rw [List.getD_eq_getElem?_getD, hb]; rfl
    subst this
    exact wpAny_truthy_bool hQ
  · intro h' tk kp
    have e : (List.range (bs.map Value.bool).toArray.size).all (fun i => bs.getD i false) = bs.all id := by
      have hs : (bs.map Value.bool).toArray.size = bs.length := by simp
      rw [hs]
      rw [Bool.eq_iff_iff, List.all_eq_true, List.all_eq_true]
      constructor
      · intro h b hb
        obtain ⟨i, hi, e⟩ := List.getElem_of_mem hb
        have := h i (List.mem_range.mpr hi)
        rw [List.getD_eq_getElem?_getD, List.getElem?_eq_getElem hi, e] at this
        exact this
      · intro h i hi
        have hi := List.mem_range.mp hi
        rw [List.getD_eq_getElem?_getD, List.getElem?_eq_getElem hi]
        exact h _ (List.getElem_mem hi)
    rw [e]
    refine ⟨.bl (bs.all id), H, I.kept (t' := tk) fun b o e => ?_, rfl, q⟩
    exact kp b o (by simpa using Nat.ne_of_lt (Heap.lt_size e)) (Heap.get?_push_of_some _ e)
end L2
namespace U
open PySem PySem.Spec PyProof.Rows L2
variable {B : Bs} {X : Cx}
theorem rps_bools {K : PySem.W.Frag} {H : Hp} : ∀ {bs : List Bool} {us : List V}, RPs K H (bs.map PV.bl) us → us = bs.map V.bl
  | [], us, h => by simpa [RPs] using h
  | b :: bs, us, h => by
    simp only [List.map_cons, RPs, RP] at h
    obtain ⟨u, r, rfl, rfl, h2⟩ := h
    rw [rps_bools h2]; rfl
theorem rps_ints {K : PySem.W.Frag} {H : Hp} : ∀ {bs : List Int} {us : List V}, RPs K H (bs.map PV.int) us → us = bs.map V.int
  | [], us, h => by simpa [RPs] using h
  | b :: bs, us, h => by
    simp only [List.map_cons, RPs, RP] at h
    obtain ⟨u, r, rfl, rfl, h2⟩ := h
    rw [rps_ints h2]; rfl
def uAll : List PV → PHp → VK' → Prop := arg1 fun x H Q => match x with
  | .ref a => ∃ bs : List Bool, H a = some (.lst (bs.map PV.bl)) ∧ Q (.bl (bs.all id)) H
  | _ => False
theorem vc_all {K : PySem.W.Frag} : VC K B uAll (rAll K) := by
  intro σ' σ H' H xs' xs Q' Q s r h k
  obtain ⟨x', x, rfl, rfl, rx, h⟩ := arg1.ex h r
  cases x' with
  | ref a =>
    obtain ⟨bs, ea, q⟩ := h
    simp only [RP] at rx
    subst rx
    obtain ⟨us, e, r2⟩ := s.hp _ _ ea
    rw [rps_bools r2] at e
    exact ⟨a, bs, rfl, .inl (.inl e), k _ _ _ _ q (by simp [RP]) s (Ev.refl _ _)⟩
  | _ => exact h.elim
end U


namespace SP
open PySem
def hs : List Int := [-1950498447580522560, 7204814214171964562, -3550055125485641917, -4734289103435588629, -1440771752368011620,
  8409376899596376432, 1773351652666409796, -6333845781340707986, 3516302870623680066, 1079245023883434373,
  -3119722376306286570, 173794974761290439, -8422800446983873125, 7586885779985432798, -1009709641759730766]
def prs : List (Int × Int) := [(0, 1), (0, 2), (1, 2), (0, 3), (1, 3), (2, 3), (0, 4), (1, 4), (2, 4), (3, 4), (0, 5), (1, 5), (2, 5), (3, 5), (4, 5)]
def hp (p : Int × Int) : Int := reduceHash (Builtin.Tuple.tupleHashOf [p.1, p.2])
theorem hs_eq : prs.map hp = hs := by decide +kernel
theorem hp_mem {p : Int × Int} (h : p ∈ prs) : hp p ∈ hs := by rw [← hs_eq]; exact List.mem_map.mpr ⟨p, h, rfl⟩
theorem hp_inj : ∀ p ∈ prs, ∀ q ∈ prs, hp p = hp q → p = q := by decide +kernel
theorem mem_prs {u v : Int} (h0 : 0 ≤ u) (h1 : u < v) (h2 : v < 6) : (u, v) ∈ prs := by
  have hv : v = 1 ∨ v = 2 ∨ v = 3 ∨ v = 4 ∨ v = 5 := by omega
  have hu : u = 0 ∨ u = 1 ∨ u = 2 ∨ u = 3 ∨ u = 4 := by omega
  rcases hv with rfl | rfl | rfl | rfl | rfl <;> rcases hu with rfl | rfl | rfl | rfl | rfl <;> first | (exfalso; omega) | decide
def advM (mask : Nat) (p : SetTable.Probe) : SetTable.Probe :=
  if p.more > 0 then { p with j := p.j + 1, more := p.more - 1 } else
  let (i, perturb) := SetTable.leap mask p.i p.perturb
  { p with j := i, more := SetTable.runEnd mask i - i, i, perturb }
theorem adv_eq (t : SetTable) (p : SetTable.Probe) : t.advance p = advM t.mask p := rfl
theorem adv_dummy (mask : Nat) (p : SetTable.Probe) : (advM mask p).dummy = p.dummy := by unfold advM; split <;> rfl
def visit (mask : Nat) : Nat → SetTable.Probe → List Nat
  | 0, _ => []
  | f + 1, p => p.j :: visit mask f (advM mask p)
def startM (mask : Nat) (h : Int) : SetTable.Probe :=
  let i := SetTable.bits h % (mask + 1)
  { j := i, more := SetTable.runEnd mask i - i, i, perturb := SetTable.bits h, dummy := none }
theorem start_eq (t : SetTable) (h : Int) : t.probeStart h = startM t.mask h := rfl
theorem cover7 : ∀ h ∈ hs, ∀ j ∈ List.range 8, j ∈ visit 7 220 (startM 7 h) := by decide +kernel
theorem cover31 : ∀ h ∈ hs, ∀ j ∈ List.range 32, j ∈ visit 31 460 (startM 31 h) := by decide +kernel
theorem all_in : ∀ (n : Nat) (l : List Nat), (∀ j, j < n → j ∈ l) → n ≤ l.length
  | 0, _, _ => Nat.zero_le _
  | n + 1, l, h => by
    have hm := h n (Nat.lt_succ_self n)
    have := all_in n (l.erase n) fun j hj => (List.mem_erase_of_ne (by omega)).mpr (h j (by omega))
    rw [List.length_erase_of_mem hm] at this
    have : 0 < l.length := List.length_pos_of_mem hm
    omega
theorem free_one {n : Nat} {l : List Nat} (h : l.length < n) : ∃ j, j < n ∧ j ∉ l :=
  Classical.byContradiction fun c => absurd (all_in n l fun j hj => Classical.byContradiction fun q => c ⟨j, hj, q⟩) (by omega)
theorem slot_of {t : SetTable} (hd : t.dummies = #[]) (j : Nat) : t.slot j = .empty ∨ ∃ i, t.slot j = .live i ∧ i < t.place.size ∧ j ∈ t.place.toList := by
  unfold SetTable.slot
  dsimp only
  split
  · rename_i h
    have h' := beq_iff_eq.mp h
    obtain ⟨hi, e⟩ := Array.getElem?_eq_some_iff.mp h'
    refine .inr ⟨_, rfl, hi, ?_⟩
    rw [← e]
    exact Array.getElem_mem_toList hi
  · left
    have : SetTable.has t.dummies j = false := by
      rw [hd]; rfl
    rw [this]; rfl
theorem go_empty {t : SetTable} {hashAt : Nat → Int} {h : Int} (hd : t.dummies = #[]) (hn : ∀ i, i < t.place.size → hashAt i ≠ h) : ∀ (fuel : Nat) (p : SetTable.Probe), p.dummy = none →
    (∃ j ∈ visit t.mask fuel p, j ∉ t.place.toList) → ∃ j, SetTable.probe.go t hashAt h fuel p = some (.empty j none)
  | 0, _, _, ⟨_, hj, _⟩ => by simp [visit] at hj
  | f + 1, p, hp, ⟨j, hj, hjn⟩ => by
    unfold SetTable.probe.go
    rcases slot_of hd p.j with e | ⟨i, e, hi, hm⟩
    · rw [e]; dsimp only
      exact ⟨p.j, by rw [hp]⟩
    · rw [e]; dsimp only
      rw [if_neg (by intro q; exact hn i hi (beq_iff_eq.mp q)), adv_eq]
      refine go_empty hd hn f (advM t.mask p) (by rw [adv_dummy]; exact hp) ⟨j, ?_, hjn⟩
      have hj' : j = p.j ∨ j ∈ visit t.mask f (advM t.mask p) := List.mem_cons.mp hj
      rcases hj' with rfl | hj'
      · exact absurd hm hjn
      · exact hj'
theorem probe_ok {t : SetTable} {hashAt : Nat → Int} {h : Int} (hh : h ∈ hs) (hd : t.dummies = #[]) (hn : ∀ i, i < t.place.size → hashAt i ≠ h) (hm : t.mask = 7 ∨ t.mask = 31) (hsz : t.place.size ≤ t.mask) :
    ∃ j, t.probe hashAt h (t.probeStart h) = some (.empty j none) := by
  unfold SetTable.probe
  refine go_empty hd hn _ _ rfl ?_
  obtain ⟨j, hj, hjn⟩ := free_one (n := t.mask + 1) (l := t.place.toList) (by simpa using Nat.lt_succ_of_le hsz)
  refine ⟨j, ?_, hjn⟩
  rw [start_eq]
  rcases hm with e | e
  · rw [e] at hj ⊢
    exact cover7 h hh j (List.mem_range.mpr hj)
  · rw [e] at hj ⊢
    exact cover31 h hh j (List.mem_range.mpr hj)
theorem put_size (t : SetTable) (j : Nat) : (t.put j).1.place.size = t.place.size + 1 := by
  unfold SetTable.put SetTable.insertAt
  dsimp only
  simp only [Array.size_append, Array.size_push, Array.size_extract]
  omega
theorem put_dummies {t : SetTable} (hd : t.dummies = #[]) (j : Nat) : (t.put j).1.dummies = #[] := by
  unfold SetTable.put
  dsimp only
  rw [hd]; rfl
theorem put_rest (t : SetTable) (j : Nat) : (t.put j).1.mask = t.mask ∧ (t.put j).1.plain = t.plain := ⟨rfl, rfl⟩
theorem insertAt_perm {α : Type} (xs : Array α) (p : Nat) (x : α) : (SetTable.insertAt xs p x).toList.Perm (x :: xs.toList) := by
  unfold SetTable.insertAt
  rw [Array.toList_append, Array.toList_push, List.append_assoc]
  have e : xs.toList = (xs.extract 0 p).toList ++ (xs.extract p xs.size).toList := by
    rw [Array.toList_extract, Array.toList_extract]
    unfold List.extract
    rw [List.drop_zero, Nat.sub_zero]
    have e2 : (List.drop p xs.toList).take (xs.size - p) = List.drop p xs.toList := List.take_of_length_le (by rw [List.length_drop]; simp)
    rw [e2, List.take_append_drop]
  rw [e]
  exact List.perm_middle
def runs (mask : Nat) : Nat → Nat → Nat → List Nat
  | 0, _, _ => []
  | f + 1, i, pt => ((List.range (SetTable.runEnd mask i + 1 - i)).map (i + ·)) ++ runs mask f (SetTable.leap mask i pt).1 (SetTable.leap mask i pt).2
theorem coverR : ∀ h ∈ hs, ∀ j ∈ List.range 32, j ∈ runs 31 46 (SetTable.bits h % 32) (SetTable.bits h) := by decide +kernel
theorem free_some {mask : Nat} {owner : Array (Option Nat)} : ∀ (f i pt : Nat), (∃ j ∈ runs mask f i pt, (owner.getD j (some 0)).isNone = true) → ∃ j, SetTable.layClean.free mask owner f i pt = some j ∧ (owner.getD j (some 0)).isNone = true
  | 0, _, _, ⟨_, hj, _⟩ => by simp [runs] at hj
  | f + 1, i, pt, ⟨j, hj, hn⟩ => by
    unfold SetTable.layClean.free
    cases e : (List.range (SetTable.runEnd mask i + 1 - i)).find? fun k => (owner.getD (i + k) (some 0)).isNone with
    | some k =>
      dsimp only
      exact ⟨i + k, rfl, by have := List.find?_some e; exact this⟩
    | none =>
      dsimp only
      rcases List.mem_append.mp hj with hj | hj
      · obtain ⟨k, hk, rfl⟩ := List.mem_map.mp hj
        have := List.find?_eq_none.mp e k hk
        exact absurd hn this
      · exact free_some f _ _ ⟨j, hj, hn⟩
theorem set_perm {α : Type} : ∀ (l : List (Option α)) (j : Nat) (k : α), l[j]? = some none → ((l.set j (some k)).filterMap id).Perm (k :: l.filterMap id)
  | [], _, _, h => by simp at h
  | none :: l, 0, k, _ => by simp
  | some x :: l, 0, k, h => by simp at h
  | none :: l, j + 1, k, h => by
    have := set_perm l j k (by simpa using h)
    simpa using this
  | some x :: l, j + 1, k, h => by
    have := set_perm l j k (by simpa using h)
    simp only [List.set_cons_succ, List.filterMap_cons_some (f := id) rfl]
    exact (this.cons x).trans (List.Perm.swap k x _)
theorem filterMap_none_lt {α : Type} : ∀ (l : List (Option α)), (l.filterMap id).length < l.length → ∃ j : Nat, l[j]? = some none
  | [], h => by simp at h
  | none :: l, _ => ⟨0, rfl⟩
  | some x :: l, h => by
    have h' : (l.filterMap id).length < l.length := by simpa using h
    obtain ⟨j, e⟩ := filterMap_none_lt l h'
    exact ⟨j + 1, by simpa using e⟩
def layStep (mask : Nat) (acc : Option (Array (Option Nat) × Nat)) (h : Int) : Option (Array (Option Nat) × Nat) := do
  let (owner, k) ← acc
  let j ← SetTable.layClean.free mask owner (SetTable.turns mask) (SetTable.bits h % (mask + 1)) (SetTable.bits h)
  pure (owner.setIfInBounds j (some k), k + 1)
theorem lay_fold : ∀ (l : List Int) (owner : Array (Option Nat)) (k : Nat), (∀ h ∈ l, h ∈ hs) → owner.size = 32 → (owner.toList.filterMap id).Perm (List.range k) → k + l.length ≤ 32 →
    ∃ ow', l.foldl (layStep 31) (some (owner, k)) = some (ow', k + l.length) ∧ ow'.size = 32 ∧ (ow'.toList.filterMap id).Perm (List.range (k + l.length))
  | [], owner, k, _, hs, hp, _ => ⟨owner, rfl, hs, hp⟩
  | h :: l, owner, k, hh, hsz, hp, hl => by
    have hlen : (owner.toList.filterMap id).length = k := by rw [hp.length_eq, List.length_range]
    obtain ⟨j, hj⟩ := filterMap_none_lt owner.toList (by rw [hlen]; simp only [List.length_cons] at hl; rw [show owner.toList.length = 32 by simpa using hsz]; omega)
    have hjlt : j < 32 := by
      have := (List.getElem?_eq_some_iff.mp hj).1
      simpa [hsz] using this
    have hnone : ∀ j, (owner.getD j (some 0)).isNone = true → owner.toList[j]? = some none := fun j q => by
      rw [Array.getElem?_toList]
      unfold Array.getD at q
      split at q
      · rename_i hlt
        rw [Array.getElem?_eq_getElem hlt]
        cases e : owner[j] with
        | none => rfl
        | some x =>
          have q' : (owner[j]).isNone = true := q
          rw [e] at q'; cases q'
      · cases q
    obtain ⟨j', ej, hn⟩ := free_some (mask := 31) (owner := owner) 46 (SetTable.bits h % 32) (SetTable.bits h) ⟨j, coverR h (hh h List.mem_cons_self) j (List.mem_range.mpr hjlt), by
      unfold Array.getD
      rw [dif_pos (by rw [hsz]; exact hjlt)]
      rw [Array.getElem?_toList, Array.getElem?_eq_getElem (by rw [hsz]; exact hjlt)] at hj
      have := Option.some.inj hj
      show (owner[j]).isNone = true
      rw [this]; rfl⟩
    have est : layStep 31 (some (owner, k)) h = some (owner.setIfInBounds j' (some k), k + 1) := by
      unfold layStep
      show (SetTable.layClean.free 31 owner (SetTable.turns 31) (SetTable.bits h % 32) (SetTable.bits h) >>= fun j => pure (owner.setIfInBounds j (some k), k + 1)) = _
      rw [show SetTable.turns 31 = 46 from rfl, ej]
      rfl
    have hp' : ((owner.setIfInBounds j' (some k)).toList.filterMap id).Perm (List.range (k + 1)) := by
      rw [Array.toList_setIfInBounds]
      refine (set_perm _ _ _ (hnone j' hn)).trans ?_
      rw [List.range_succ]
      exact (hp.cons k).trans (List.perm_append_singleton k _).symm
    obtain ⟨ow', e1, e2, e3⟩ := lay_fold l (owner.setIfInBounds j' (some k)) (k + 1) (fun x hx => hh x (List.mem_cons_of_mem _ hx)) (by simpa using hsz) hp' (by simp only [List.length_cons] at hl; omega)
    refine ⟨ow', ?_, e2, ?_⟩
    · rw [List.foldl_cons, est, e1]
      simp only [List.length_cons]
      congr 2
      omega
    · rw [List.length_cons, show k + (l.length + 1) = k + 1 + l.length by omega]; exact e3
theorem relaid_ok {t : SetTable} {hashes : Array Int} {wanted : Nat} (hw : SetTable.sizeAbove wanted = 32) (hh : ∀ h ∈ hashes.toList, h ∈ hs) (hl : hashes.size ≤ 32) :
    ∃ t' order, t.relaid hashes wanted = some (t', order) ∧ t'.mask = 31 ∧ t'.dummies = #[] ∧ t'.place.size = hashes.size ∧ order.toList.Perm (List.range hashes.size) ∧ t'.plain = t.plain := by
  have e0 : (Array.replicate 32 (none : Option Nat)).toList.filterMap id = [] := by decide
  obtain ⟨ow, e1, e2, e3⟩ := lay_fold hashes.toList (Array.replicate 32 none) 0 hh (by simp) (by rw [e0]; exact List.Perm.refl _) (by simpa using hl)
  rw [Nat.zero_add] at e1 e3
  have hlc : SetTable.layClean 31 hashes = some ow := by
    unfold SetTable.layClean
    rw [← Array.foldl_toList]
    show Option.map (·.1) (hashes.toList.foldl (layStep 31) (some (Array.replicate 32 none, 0))) = _
    rw [e1]; rfl
  have live2 : ((List.range 32).filterMap fun j => (ow.getD j none).map ((j, ·) : Nat → Nat × Nat)).map (·.2) = ow.toList.filterMap id := by
    have gen : ∀ (l : List (Option Nat)) (n : Nat), ((l.zipIdx n).filterMap (fun q => q.1.map ((q.2, ·) : Nat → Nat × Nat))).map (·.2) = l.filterMap id := by
      intro l
      induction l with
      | nil => intro n; rfl
      | cons a l ih =>
        intro n
        rw [List.zipIdx_cons]
        cases a with
        | none => simpa using ih (n + 1)
        | some x => simpa using ih (n + 1)
    rw [← gen ow.toList 0]
    congr 1
    have ez : ow.toList.zipIdx 0 = (List.range 32).map fun j => (ow.getD j none, j) := by
      apply List.ext_getElem?
      intro j
      rw [List.getElem?_zipIdx, List.getElem?_map]
      by_cases hj : j < 32
      · rw [List.getElem?_range hj, Array.getElem?_toList, Array.getElem?_eq_getElem (by rw [e2]; exact hj)]
        simp [Array.getD, e2, hj]
      · rw [List.getElem?_eq_none (show ow.toList.length ≤ j by simpa [e2] using Nat.le_of_not_lt hj), List.getElem?_eq_none (show (List.range 32).length ≤ j by simpa using Nat.le_of_not_lt hj)]
        rfl
    rw [ez, List.filterMap_map]
    rfl
  have hlen : (ow.toList.filterMap id).length = hashes.size := by rw [e3.length_eq, List.length_range]; simp
  refine ⟨{ mask := 31, place := (((List.range 32).filterMap fun j => (ow.getD j none).map ((j, ·) : Nat → Nat × Nat)).map (·.1)).toArray, dummies := #[], finger := t.finger, led := t.led, moves := t.movedTo 31, plain := t.plain },
    (((List.range 32).filterMap fun j => (ow.getD j none).map ((j, ·) : Nat → Nat × Nat)).map (·.2)).toArray, by
    unfold SetTable.relaid SetTable.laid
    rw [hw]
    show (SetTable.layClean 31 hashes >>= _) = _
    rw [hlc]
    rfl, rfl, rfl, ?_, ?_, rfl⟩
  · show (((List.range 32).filterMap fun j => (ow.getD j none).map ((j, ·) : Nat → Nat × Nat)).map (·.1)).toArray.size = _
    rw [List.size_toArray, List.length_map, ← hlen, ← live2, List.length_map]
  · show ((((List.range 32).filterMap fun j => (ow.getD j none).map ((j, ·) : Nat → Nat × Nat)).map (·.2)).toArray).toList.Perm _
    rw [live2]
    have : hashes.size = hashes.toList.length := by simp
    rw [this]
    exact e3
theorem order_perm {α : Type} {es : Array α} {order : Array Nat} (h : order.toList.Perm (List.range es.size)) : (order.filterMap (es[·]?)).toList.Perm es.toList := by
  have e : (order.filterMap (es[·]?)).toList = order.toList.filterMap (es[·]?) := by simp
  rw [e]
  refine (h.filterMap _).trans ?_
  have : (List.range es.size).filterMap (es[·]?) = es.toList := by
    apply List.ext_getElem?
    intro i
    have gen : ∀ n, n ≤ es.size → (List.range n).filterMap (es[·]?) = es.toList.take n := by
      intro n
      induction n with
      | zero => intro _; simp
      | succ n ih =>
        intro hn
        rw [List.range_succ, List.filterMap_append, ih (by omega), List.take_add_one]
        simp [Array.getElem?_eq_getElem (show n < es.size by omega)]
    rw [gen es.size (Nat.le_refl _), List.take_of_length_le (by simp)]
  rw [this]
end SP


namespace SP
open PySem PyProof.Rows
set_option maxRecDepth 100000
section
variable {prog : Program} {w : World} {A : Around} {E : Value → Shared → Prop} {s : Shared}
structure PSet (h : Heap) (S : Addr) (done : List (Int × Int)) : Prop where
  is : ∃ es ep t, h.get? S = some { cls := .type "set", dict := none, data := .set es ep t } ∧ t.dummies = #[] ∧ t.place.size = es.size ∧ es.size = done.length ∧ ((t.mask = 7 ∧ es.size ≤ 4) ∨ (t.mask = 31 ∧ es.size ≤ 18)) ∧
    ∀ e ∈ es.toList, ∃ p ∈ done, e.1 = hp p
theorem fits_of {t : SetTable} {n : Nat} (hd : t.dummies = #[]) (h1 : t.place.size = n) (h2 : n ≤ t.mask) : t.fits n = true := by
  unfold SetTable.fits SetTable.fill
  rw [hd]
  simp [h1, h2]
theorem hash_pair (u v : Int) (h : (u, v) ∈ prs) : tupleKeyHash (intKind prog w) [u, v] = hp (u, v) := by
  have key : ∀ p ∈ prs, hashInt p.1 = p.1 ∧ hashInt p.2 = p.2 := by decide +kernel
  obtain ⟨h1, h2⟩ := key _ h
  show reduceHash (Builtin.Tuple.tupleHashOf [hashInt u, hashInt v]) = reduceHash (Builtin.Tuple.tupleHashOf [u, v])
  have h1' : hashInt u = u := h1
  have h2' : hashInt v = v := h2
  rw [h1', h2']
theorem ints_of {ks : List Int} {vs : List Value} (h : ItemsAre (intKind prog w) ks vs) : ∀ x ∈ vs, ∃ i t, x = .int i t := by
  induction h with
  | nil => intro x hx; simp at hx
  | cons h1 _ ih =>
    intro x hx
    rcases List.mem_cons.mp hx with rfl | hx
    · obtain ⟨t, rfl⟩ := Value.isInt_shape h1
      exact ⟨_, t, rfl⟩
    · exact ih x hx
theorem hashByValue_pair {a : Addr} {u v : Int} {Q : Bool → Shared → Prop} (hk : IsTupleKey (intKind prog w) s.heap [u, v] a) (h : Q true s) : wpAny (model prog w) A (hashByValue 8 (.ref a)) Q E s := by
  have hT := hk.typeIs
  obtain ⟨o, items, n, ho, hc, hd, hi⟩ := hk
  unfold hashByValue
  refine wpAny_bind (wpAny_specialOf hT F.slot_tuple_hash.lookup ?_)
  show wpAny _ _ (seqItems? (.ref a) >>= _) _ _ s
  refine wpAny_bind (wpAny_seqItems ho hd ?_)
  refine wpAny_bind ?_
  show wpAny _ _ (forIn items _ _) _ _ s
  rw [← Array.forIn_toList]
  have hall := ints_of hi
  refine wpAny_forIn_list _ (fun rest r s' => r.1 = none ∧ s' = s ∧ ∀ v ∈ rest, ∃ i t, v = .int i t) _ ?_ ?_ _ _ ⟨rfl, rfl, hall⟩
  · rintro v rest r s' ⟨hr, rfl, hall⟩
    obtain ⟨i, t, rfl⟩ := hall v List.mem_cons_self
    show wpAny _ _ (pure true >>= _) _ _ _
    refine wpAny_bind (wpAny_pure ?_)
    simp only [Bool.not_true, Bool.false_eq_true, if_false]
    exact wpAny_pure ⟨rfl, rfl, fun u hu' => hall u (List.mem_cons_of_mem _ hu')⟩
  · rintro ⟨r1, r2⟩ s' ⟨hr, rfl, _⟩
    simp only at hr
    subst hr
    exact wpAny_pure h
theorem setAdd_pair {S a : Addr} {done : List (Int × Int)} {u v : Int} {Q : Bool → Shared → Prop} (hu : A.units < cLine) (hk : IsTupleKey (intKind prog w) s.heap [u, v] a) (hP : PSet s.heap S done) (hin : (u, v) ∈ prs) (hd : ∀ p ∈ done, p ∈ prs)
    (hn : (u, v) ∉ done) (hlen : done.length < 15)
    (h : ∀ h' tk, Heap.SameBut S s.heap h' → PSet h' S (done ++ [(u, v)]) → Q true { s with heap := h', toks := tk }) : wpAny (model prog w) A (setAdd S (.ref a)) Q E s := by
  obtain ⟨es, ep, t, ho, htd, hts, hes, hm, hh⟩ := hP.is
  have hsa : S ≠ a := by
    rintro rfl
    obtain ⟨o, items, n, ho', hc, _⟩ := hk
    rw [ho] at ho'; cases ho'; exact absurd (show Value.type "set" = Value.type "tuple" from hc) (by decide)
  unfold setAdd
  refine wpAny_holding (wpAny_bind (wpAny_pyHash_tuple hu hk ?_))
  rw [hash_pair u v hin]
  generalize hs' : ({ s with toks := s.toks + ([u, v].length + 1) } : Shared) = s1
  have e1 : s1.heap = s.heap := by rw [← hs']
  have ho1 : s1.heap.get? S = some { cls := .type "set", dict := none, data := .set es ep t } := by rw [e1]; exact ho
  have hk1 : IsTupleKey (intKind prog w) s1.heap [u, v] a := by rw [e1]; exact hk
  have hmk : es.size ≤ t.mask := by omega
  have hf : t.fits es.size = true := fits_of htd hts hmk
  unfold setAddHashed
  refine wpAny_holding ?_
  show wpAny _ _ (setAddHashedIn S (.ref a) (hp (u, v)) (99999 + 1)) _ _ _
  unfold setAddHashedIn
  refine wpAny_bind (wpAny_setState_of ho1 rfl hf ?_)
  dsimp only
  have hbs : byScan (.ref a) es = false := rfl
  rw [hbs]
  simp only [Bool.false_eq_true, if_false]
  obtain ⟨j, hj⟩ := probe_ok (t := t) (hashAt := fun i => (es[i]?.map (·.1)).getD 0) (h := hp (u, v)) (hp_mem hin) htd (fun i hi q => by
    rw [hts] at hi
    rw [Array.getElem?_eq_getElem hi] at q
    have q' : (es[i]).1 = hp (u, v) := q
    obtain ⟨p, hpd, e⟩ := hh es[i] (Array.getElem_mem_toList hi)
    rw [e] at q'
    exact hn (hp_inj p (hd p hpd) _ hin q' ▸ hpd)) (by omega) (by omega)
  unfold setSearch
  show wpAny _ _ (setSearchFrom S (.ref a) (hp (u, v)) true (99999 + 1) none >>= _) _ _ _
  unfold setSearchFrom
  refine wpAny_bind (wpAny_bind (wpAny_setState_of ho1 rfl hf ?_))
  dsimp only
  have hgw : t.gaveWay = false := by
    unfold SetTable.gaveWay
    rcases hm with hm | hm <;> rw [hm.1] <;> rfl
  rw [hgw, if_neg (by decide)]
  generalize hX : t.probe _ (hp (u, v)) (none.getD (t.probeStart (hp (u, v)))) = X0
  have hX' : X0 = some (.empty j none) := by rw [← hX]; exact hj
  subst hX'
  dsimp only
  refine wpAny_pure ?_
  dsimp only
  refine wpAny_bind (wpAny_setState_of ho1 rfl hf ?_)
  dsimp only
  -- the new table
  have hps := put_size t j
  have hpd := put_dummies htd j
  obtain ⟨hpm, hpp⟩ := put_rest t j
  have hip := insertAt_perm es (t.put j).2 (hp (u, v), Value.ref a)
  have his : (SetTable.insertAt es (t.put j).2 (hp (u, v), Value.ref a)).size = es.size + 1 := by
    have := hip.length_eq
    simpa using this
  have hash' : ∀ e ∈ (SetTable.insertAt es (t.put j).2 (hp (u, v), Value.ref a)).toList, ∃ p ∈ done ++ [(u, v)], e.1 = hp p := fun e he => by
    rcases List.mem_cons.mp (hip.mem_iff.mp he) with rfl | he
    · exact ⟨(u, v), by simp, rfl⟩
    · obtain ⟨p, h1, h2⟩ := hh e he
      exact ⟨p, List.mem_append_left _ h1, h2⟩
  have last : wpAny (model prog w) A (do
      storeSet S (SetTable.insertAt es (t.put j).2 (hp (u, v), Value.ref a)) (t.put j).1
      if (!false && (t.put j).1.tooFull) = true then do
        setRelay S (SetTable.grown (es.size + 1))
        pure true
      else pure true) Q E s1 := by
    refine wpAny_bind (wpAny_storeSet_of ho1 rfl ?_ (by rw [his, sizeLine_eq]; omega))
    have hg : (s1.heap.update S (Obj.putSet (SetTable.insertAt es (t.put j).2 (hp (u, v), Value.ref a)) (t.put j).1)).get? S = some { cls := .type "set", dict := none, data := .set (SetTable.insertAt es (t.put j).2 (hp (u, v), Value.ref a)) (ep + 1) (t.put j).1 } :=
      Heap.get?_update_self _ ho1 rfl
    have sb1 : Heap.SameBut S s.heap (s1.heap.update S (Obj.putSet (SetTable.insertAt es (t.put j).2 (hp (u, v), Value.ref a)) (t.put j).1)) := by rw [e1]; exact Heap.SameBut.update ..
    have hs1 : ∀ hh' : Heap, ({ s1 with heap := hh' } : Shared) = { s with heap := hh', toks := s1.toks } := fun hh' => by rw [← hs']
    by_cases hfull : (t.put j).1.tooFull = true
    · rw [hfull, if_pos (by rfl)]
      have hfu : ((t.put j).1.place.size + (t.put j).1.dummies.size) * 5 ≥ (t.put j).1.mask * 3 := by
        have q := hfull
        unfold SetTable.tooFull SetTable.fill at q
        exact of_decide_eq_true q
      rw [hps, hpd, hpm, hts] at hfu
      have hz : (#[] : Array Nat).size = 0 := rfl
      rw [hz] at hfu
      have h5 : t.mask = 7 ∧ es.size = 4 := by omega
      have hw : SetTable.grown (es.size + 1) = 20 := by rw [h5.2]; rfl
      rw [hw]
      have hf2 : (t.put j).1.fits (SetTable.insertAt es (t.put j).2 (hp (u, v), Value.ref a)).size = true := fits_of hpd (by rw [hps, his, hts]) (by rw [his, hpm]; omega)
      obtain ⟨t', order, r1, r2, r3, r4, r5, r6⟩ := relaid_ok (t := (t.put j).1) (hashes := (SetTable.insertAt es (t.put j).2 (hp (u, v), Value.ref a)).map (·.1)) (wanted := 20) rfl (fun h0 hm0 => by
        rw [Array.toList_map] at hm0
        obtain ⟨e, he, rfl⟩ := List.mem_map.mp hm0
        obtain ⟨p, hp1, hp2⟩ := hash' e he
        rw [hp2]
        rcases List.mem_append.mp hp1 with q | q
        · exact hp_mem (hd p q)
        · rw [List.mem_singleton.mp q]; exact hp_mem hin) (by rw [Array.size_map, his]; omega)
      rw [Array.size_map] at r4 r5
      have op := order_perm r5
      have osz : (order.filterMap ((SetTable.insertAt es (t.put j).2 (hp (u, v), Value.ref a))[·]?)).size = (SetTable.insertAt es (t.put j).2 (hp (u, v), Value.ref a)).size := by
        rw [← Array.length_toList, ← Array.length_toList]; exact op.length_eq
      unfold setRelay
      refine wpAny_bind (wpAny_bind (wpAny_setState_of hg rfl hf2 ?_))
      dsimp only
      rw [if_neg (show ¬ SetTable.sizeAbove 20 > sizeLine by rw [sizeLine_eq]; decide)]
      refine wpAny_bind ?_
      rw [r1]
      show wpAny _ _ (if (Array.size (order.filterMap ((SetTable.insertAt es (t.put j).2 (hp (u, v), Value.ref a))[·]?)) != (SetTable.insertAt es (t.put j).2 (hp (u, v), Value.ref a)).size) = true then _ else _) _ _ _
      rw [if_neg (by rw [osz]; simp)]
      refine wpAny_pure ?_
      dsimp only
      refine wpAny_storeSet_of hg rfl ?_ (by rw [osz, his, sizeLine_eq]; omega)
      refine wpAny_pure ?_
      have hg3 := Heap.get?_update_self (Obj.putSet (order.filterMap ((SetTable.insertAt es (t.put j).2 (hp (u, v), Value.ref a))[·]?)) t') hg rfl
      rw [hs1]
      refine h _ _ (sb1.trans (Heap.SameBut.update ..)) ⟨_, _, _, hg3, r3, by rw [r4, osz], by rw [osz, his, hes]; simp, .inr ⟨r2, by rw [osz, his]; omega⟩, fun e he => hash' e (op.mem_iff.mp he)⟩
    · rw [Bool.not_eq_true] at hfull
      rw [hfull, if_neg (by decide)]
      refine wpAny_pure ?_
      rw [hs1]
      refine h _ _ sb1 ⟨_, _, _, hg, hpd, by rw [hps, his, hts], by rw [his, hes]; simp, ?_, hash'⟩
      have hfu : ¬ ((t.put j).1.place.size + (t.put j).1.dummies.size) * 5 ≥ (t.put j).1.mask * 3 := by
        have q := hfull
        unfold SetTable.tooFull SetTable.fill at q
        exact of_decide_eq_false q
      rw [hps, hpd, hpm, hts] at hfu
      have hz : (#[] : Array Nat).size = 0 := rfl
      rw [hz] at hfu
      rw [his, hpm]
      omega
  by_cases hpl : (t.put j).1.plain = true
  · rw [if_pos hpl]
    refine wpAny_bind (hashByValue_pair hk1 ?_)
    exact last
  · rw [if_neg hpl]
    refine wpAny_bind (wpAny_pure ?_)
    exact last
def TupsAt (h : Heap) (vs : List Value) (ps : List (Int × Int)) : Prop := ∀ (i : Nat) (v : Value), vs[i]? = some v → ∃ a p, v = .ref a ∧ ps[i]? = some p ∧ IsTupleKey (intKind prog w) h [p.1, p.2] a
theorem key_same {h h' : Heap} {S a : Addr} {u v : Int} {es : Array (Int × Value)} {ep : Nat} {t : SetTable} (x : IsTupleKey (intKind prog w) h [u, v] a) (ho : h.get? S = some { cls := .type "set", dict := none, data := .set es ep t })
    (sb : ∀ b o, b ≠ S → h.get? b = some o → h'.get? b = some o) : IsTupleKey (intKind prog w) h' [u, v] a := by
  obtain ⟨o, items, n, e, c, d, i⟩ := x
  refine ⟨o, items, n, sb a o ?_ e, c, d, i⟩
  rintro rfl
  rw [ho] at e; cases e; cases d
theorem fill_loop {S I l : Addr} {vs : List Value} {ps : List (Int × Int)} {R : Result → Shared → Prop} (hu : A.units + 1 < cLine) (hh : A.in1.handled = none) (hlen : vs.length = ps.length) (hl15 : ps.length ≤ 15) (hnd : ps.Nodup) (hin : ∀ p ∈ ps, p ∈ prs)
    (hSI : S ≠ I) (hSl : S ≠ l) (hlI : l ≠ I) : ∀ (k i : Nat) (s : Shared), ps.length - i = k → i ≤ ps.length → s.heap.IsListIter I l i → s.heap.IsList l vs.toArray → TupsAt (prog := prog) (w := w) s.heap vs ps → PSet s.heap S (ps.take i) →
      (∀ h' tk, (∀ b o, b ≠ S → b ≠ I → s.heap.get? b = some o → h'.get? b = some o) → PSet h' S ps → R (.ok (.ret .none)) { s with heap := h', toks := tk }) →
      codeAny (model prog w) A (.builtin "set.update.loop" ⟨[.ref S, .ref I], []⟩) R s := by
  intro k
  induction k with
  | zero =>
    intro i s hk hi hit hl hT hP hR
    have e : i = ps.length := by omega
    subst e
    rw [List.take_length] at hP
    refine codeAny_builtin F.entry_set_update_loop ?_
    rw [Around.under_plainId F.plain_set_update_loop _]
    show wpAny _ A.in1 (pyNext (.ref I) >>= _) _ _ s
    refine wpAny_bind (wpAny_pyNext_list_end hh hit hl (by simp [hlen]) fun h' eb => ?_)
    show wpAny _ A.in1 (ret Value.none) _ _ _
    refine wpAny_pure (hR h' s.toks (fun b o _ hb e => eb b o hb e) ?_)
    obtain ⟨es, ep, t, ho, r⟩ := hP.is
    exact ⟨es, ep, t, eb S _ hSI ho, r⟩
  | succ k ih =>
    intro i s hk hi hit hl hT hP hR
    have hlt : i < ps.length := by omega
    have hvi : vs[i]? = some vs[i] := List.getElem?_eq_getElem (by omega)
    obtain ⟨a, p, ev, ep, key⟩ := hT i _ hvi
    refine codeAny_builtin F.entry_set_update_loop ?_
    rw [Around.under_plainId F.plain_set_update_loop _]
    show wpAny _ A.in1 (pyNext (.ref I) >>= _) _ _ s
    refine wpAny_bind (wpAny_pyNext_list_item hit hl (x := .ref a) (by rw [← ev]; simp) fun h1 hit1 sb1 => ?_)
    have k1 : ∀ b o, b ≠ I → s.heap.get? b = some o → h1.get? b = some o := fun b o hb e => sb1.extBut b o hb e
    obtain ⟨es, epo, t, ho, r⟩ := id hP.is
    have hP1 : PSet h1 S (ps.take i) := ⟨es, epo, t, k1 S _ hSI ho, r⟩
    have key1 : IsTupleKey (intKind prog w) h1 [p.1, p.2] a := by
      obtain ⟨o, items, n, e, c, d, ii⟩ := key
      refine ⟨o, items, n, k1 a o ?_ e, c, d, ii⟩
      rintro rfl
      obtain ⟨oi, hoi, hci, _⟩ := hit
      rw [hoi] at e; cases e; rw [hci] at c; exact absurd c (by decide)
    show wpAny _ A.in1 (holding [Value.ref a] (setAdd S (.ref a)) >>= _) _ _ _
    have hmem : p ∈ ps := List.mem_of_getElem? ep
    have hnot : p ∉ ps.take i := fun hm => by
      obtain ⟨j, hj, e⟩ := List.mem_iff_getElem.mp hm
      rw [List.getElem_take] at e
      rw [List.length_take] at hj
      obtain ⟨hi', e'⟩ := List.getElem?_eq_some_iff.mp ep
      have := (List.getElem_inj hnd (h₀ := by omega) (h₁ := hi')).mp (e.trans e'.symm)
      omega
    refine wpAny_bind (wpAny_holding (setAdd_pair (u := p.1) (v := p.2) (A := A.in1) (by show A.units + 1 < cLine; exact hu) key1 hP1 (hin p hmem) (fun q hq => hin q (List.mem_of_mem_take hq)) hnot (by rw [List.length_take]; omega) fun h2 tk sb2 hP2 => ?_))
    have k2 : ∀ b o, b ≠ S → h1.get? b = some o → h2.get? b = some o := fun b o hb e => sb2.extBut b o hb e
    have et : ps.take i ++ [p] = ps.take (i + 1) := by rw [List.take_add_one, ep]; rfl
    refine wpAny_pure ⟨plainId_quiet F.plain_set_update_loop _, ih (i + 1) { s with heap := h2, toks := tk } (by omega) (by omega) (hit1.extBut (fun b o hb e => k2 b o hb e) (Ne.symm hSI)) ?_ ?_ (by rw [← et]; exact hP2) ?_⟩
    · exact (hl.extBut (fun b o hb e => k1 b o hb e) hlI).extBut (fun b o hb e => k2 b o hb e) (Ne.symm hSl)
    · intro j v hv
      obtain ⟨a', p', e1', e2', key'⟩ := hT j v hv
      refine ⟨a', p', e1', e2', key_same ?_ (k1 S _ hSI ho) k2⟩
      obtain ⟨o, items, n, e, c, d, ii⟩ := key'
      refine ⟨o, items, n, k1 a' o ?_ e, c, d, ii⟩
      rintro rfl
      obtain ⟨oi, hoi, hci, _⟩ := hit
      rw [hoi] at e; cases e; rw [hci] at c; exact absurd c (by decide)
    · intro h3 tk3 kp hP3
      exact hR h3 tk3 (fun b o hb hb' e => kp b o hb hb' (k2 b o hb (k1 b o hb' e))) hP3
set_option maxHeartbeats 4000000 in
theorem call_set_pairs {l : Addr} {vs : List Value} {ps : List (Int × Int)} {Q : Value → Shared → Prop} (hu : A.units + 8 < cLine) (hh : A.handled = none) (hl : s.heap.IsList l vs.toArray) (hlen : vs.length = ps.length) (hl15 : ps.length ≤ 15)
    (hnd : ps.Nodup) (hin : ∀ p ∈ ps, p ∈ prs) (hT : TupsAt (prog := prog) (w := w) s.heap vs ps)
    (h : ∀ h' tk, (∀ b o, b < s.heap.objs.size → s.heap.get? b = some o → h'.get? b = some o) → PSet h' s.heap.objs.size ps → Q (.ref s.heap.objs.size) { s with heap := h', toks := tk }) :
    wpAny (model prog w) A (call (.type "set") [.ref l]) Q E s := by
  obtain ⟨c0, tl0, mro0⟩ := F.called_set.mro
  have made0 := F.called_set.made
  have sub0 := F.called_set.sub
  have nt0 := F.called_set.notType
  have cc0 := F.called_set.canCreate
  have tc0 := F.typeCall_set_1 (.ref l)
  refine wpAny_call (codeAny_of_tree ?_)
  show wpAny _ _ (callAny (.type "set") _) _ _ _
  refine wpAny_pure ⟨Code.quiet_builtin _ (by decide +kernel), codeAny_builtin F.entry_type_call ?_⟩
  rw [Around.under_plain (weight_type_call_type "set" [.ref l] []) rfl]
  repeat (any_goals (first | assumption | wp_step))
  refine codeAny_mono (code_set_new_1 (.ref l) (E := E) (Q₁ := fun obj s1 => ∃ led : Bool, obj = .ref s.heap.objs.size ∧
    s1 = { s with heap := s.heap.push { cls := .type "set", dict := none, data := .set #[] 0 (.fresh 0 0 led) } }) fun led => ⟨led, rfl, rfl⟩) fun r s1 hr => ?_
  cases r with
  | error e => exact hr
  | ok fl =>
    cases fl with
    | ret obj =>
      obtain ⟨led, rfl, rfl⟩ := hr
      generalize hH : s.heap.push { cls := .type "set", dict := none, data := .set #[] 0 (.fresh 0 0 led) } = H1
      have hS : H1.get? s.heap.objs.size = some { cls := .type "set", dict := none, data := .set #[] 0 (.fresh 0 0 led) } := by rw [← hH]; exact Heap.get?_push_size _ rfl
      have old : ∀ b o, s.heap.get? b = some o → H1.get? b = some o := fun b o e => by rw [← hH]; exact Heap.get?_push_of_some _ e
      have hsz : H1.objs.size = s.heap.objs.size + 1 := by rw [← hH, Heap.size_push]
      have tyS : Shared.TypeIs { s with heap := H1 } (.ref s.heap.objs.size) "set" := ⟨_, hS, rfl⟩
      have li0 := F.called_set.init.lookup
      have bi0 := F.called_set.init.bind (.ref s.heap.objs.size)
      repeat (any_goals (first | assumption | wp_step))
      refine codeAny_mono (codeAny_call_builtin (R := wants (fun r s2 => r = .none ∧ ∃ h' tk, s2 = { s with heap := h', toks := tk } ∧ PSet h' s.heap.objs.size ps ∧
        (∀ b o, b < s.heap.objs.size → s.heap.get? b = some o → h'.get? b = some o)) E) F.called_set.init.plain F.entry_set_init (check_set_init_1 tyS ?_)) fun r2 s2 hr2 => ?_
      · obtain ⟨ol, hol, hcl, nl, hdl⟩ := hl
        obtain ⟨oc, od, oda, osl⟩ := ol
        simp only at hcl hdl
        subst hcl; subst hdl
        have hol1 : H1.get? l = some { cls := .type "list", dict := od, data := .seq vs.toArray nl, slots := osl } := old _ _ hol
        have sls := F.sub_list_set
        have slf := F.sub_list_frozenset
        have nld : (Value.type "list" == Value.type "dict") = false := by decide
        have hl1 : H1.IsList l vs.toArray := ⟨_, hol1, rfl, nl, rfl⟩
        have llt : l < s.heap.objs.size := Heap.lt_size hol
        unfold Builtin.«set.__init__» noKeywords Builtin.Frozenset.updateFrom
        generalize hPI : pyIter = PI
        wp_walk
        subst hPI
        refine wpAny_pyIter_list hl1 ?_
        refine wpAny_bind (wpAny_runValue ?_)
        generalize hH2 : H1.push { cls := .type "list_iterator", data := .fields #[.ref l, .int 0 0] } = H2
        have old2 : ∀ b o, H1.get? b = some o → H2.get? b = some o := fun b o e => by rw [← hH2]; exact Heap.get?_push_of_some _ e
        refine fill_loop (l := l) (ps := ps) (vs := vs) (by show A.units + 1 + 1 + 1 < cLine; omega) (by simp [hh]) hlen hl15 hnd hin (by show s.heap.objs.size ≠ H1.objs.size; rw [hsz]; exact Nat.ne_of_lt (Nat.lt_succ_self _)) (Nat.ne_of_gt llt) (by show l ≠ H1.objs.size; rw [hsz]; exact Nat.ne_of_lt (Nat.lt_succ_of_lt llt)) ps.length 0 _ (by omega) (Nat.zero_le _) ?_ ?_ ?_ ?_ ?_
        · rw [← hH2]
          exact ⟨_, Heap.get?_push_size _ rfl, rfl, rfl⟩
        · exact ⟨_, old2 _ _ hol1, rfl, nl, rfl⟩
        · intro i v hv
          obtain ⟨a, p, e1, e2, o, items, n, e, r⟩ := hT i v hv
          exact ⟨a, p, e1, e2, o, items, n, old2 _ _ (old _ _ e), r⟩
        · exact ⟨#[], 0, .fresh 0 0 led, old2 _ _ hS, rfl, rfl, rfl, .inl ⟨rfl, by decide⟩, fun e he => by simp at he⟩
        · intro h' tk kp hP
          show wpAny _ _ (pure ()) _ _ _
          refine wpAny_pure ?_
          show wpAny _ _ (ret Value.none) _ _ _
          refine wpAny_pure ⟨rfl, h', tk, rfl, hP, fun b o hb e => ?_⟩
          refine kp b o (Nat.ne_of_lt hb) ?_ (old2 _ _ (old _ _ e))
          show b ≠ H1.objs.size
          rw [hsz]; exact Nat.ne_of_lt (Nat.lt_succ_of_lt hb)
      · cases r2 with
        | error e => exact hr2
        | ok f2 =>
          cases f2 with
          | ret r =>
            obtain ⟨rfl, h', tk, rfl, hP, hk⟩ := hr2
            repeat (any_goals (first | assumption | wp_step))
            exact h _ _ hk hP
          | _ => exact hr2.elim
    | _ => exact hr.elim
end
end SP


set_option linter.all false
set_option maxRecDepth 100000
set_option maxHeartbeats 4000000
namespace L2
open PySem PySem.Spec PyProof.Rows
variable {X : Cx}
def SetA (S : Addr) (n : Nat) : Heap → Prop := fun h => ∃ es ep t, h.get? S = some { cls := .type "set", dict := none, data := .set es ep t } ∧ es.size = n ∧ t.fits es.size = true
def Prs (K : PySem.W.Frag) (H : Hp) (us : List V) (ps : List (Int × Int)) : Prop := Paired (fun (u : V) (p : Int × Int) => ∃ t, u = .ref t ∧ SqT K H t [.int p.1, .int p.2]) us ps
theorem prs_get {K : PySem.W.Frag} {H : Hp} : ∀ {us : List V} {ps : List (Int × Int)} {i : Nat} {u : V}, Prs K H us ps → us[i]? = some u → ∃ p t, ps[i]? = some p ∧ u = .ref t ∧ SqT K H t [.int p.1, .int p.2]
  | [], _, i, u, _, e => by simp at e
  | _ :: _, _ :: _, 0, u, .cons h _, e => by
    obtain ⟨t, h1, h2⟩ := h
    simp at e
    subst e
    exact ⟨_, t, by simp, h1, h2⟩
  | _ :: _, _ :: _, i + 1, u, .cons _ t, e => by
    obtain ⟨p, a, e1, e2⟩ := prs_get (i := i) (u := u) t (by simpa using e)
    exact ⟨p, a, by simpa using e1, e2⟩
theorem prs_len {K : PySem.W.Frag} {H : Hp} {us : List V} {ps : List (Int × Int)} (h : Prs K H us ps) : us.length = ps.length := Paired.length h
theorem call_setP (hc : X.calm = true) (hu : X.A.units + 64 < cLine) : CallR X (.type "set") (fun xs H Q => ∃ (a : Addr) (us : List V) (ps : List (Int × Int)), xs = [.ref a] ∧ SqL X.K H a us ∧ Prs X.K H us ps ∧ ps.Nodup ∧ (∀ p ∈ ps, p ∈ SP.prs) ∧ ps.length ≤ 15 ∧ ∀ S, H S = none → Q (.ref S) (upd H S (.ext (SetA S ps.length)))) := by
  intro pins s σ H xs us Q I r h
  obtain ⟨a, ws, ps, rfl, hq, hP, nd, hin, h15, q⟩ := h
  obtain ⟨u, rfl, ru⟩ := Vals.one r
  cases ru
  obtain ⟨its, rv, p, hz⟩ := I.list hq
  have hlen : its.length = ps.length := rv.length.symm.trans (prs_len hP)
  refine SP.call_set_pairs (by omega) (I.ok.hd hc) p.isList hlen h15 nd hin ?_ fun h' tk kp P => ?_
  · intro i v hv
    have hi : i < ws.length := by rw [rv.length]; exact (List.getElem?_eq_some_iff.mp hv).1
    obtain ⟨pr, t, e1, e2, hs⟩ := prs_get (i := i) hP (List.getElem?_eq_getElem hi)
    obtain ⟨u, eu, ru⟩ := rv.get (List.getElem?_eq_getElem hi)
    rw [hv] at eu; cases eu
    rw [e2] at ru
    cases ru
    obtain ⟨is, r2, ⟨o, ho, hcl, n, hd⟩, _⟩ := I.tuple hs
    obtain ⟨x, y, rfl, rx, ry⟩ := vals2 r2
    obtain ⟨t1, rfl⟩ := rx
    obtain ⟨t2, rfl⟩ := ry
    exact ⟨t, pr, rfl, e1, o, _, n, ho, hcl, hd, .cons (by simp [intKind, Value.isInt]) (.cons (by simp [intKind, Value.isInt]) .nil)⟩
  · have hn : H s.heap.objs.size = none := I.hok.fresh (Nat.le_refl _)
    obtain ⟨es, ep, t, ho, hd, hp, hl, hm, _⟩ := P.is
    have hf : t.fits es.size = true := SP.fits_of hd hp (by rcases hm with ⟨e, k⟩ | ⟨e, k⟩ <;> omega)
    refine ⟨.ref s.heap.objs.size, _, I.laid (t' := tk) (o := .ext (SetA s.heap.objs.size ps.length)) (fun b o e => kp b o (Heap.lt_size e) e) (Nat.le_refl _) ?_, rfl, q _ hn⟩
    exact ⟨⟨es, ep, t, ho, hl, hf⟩, ⟨_, ho⟩, fun h1 h2 ⟨es, ep, t, e, l, f⟩ k => ⟨es, ep, t, k _ e, l, f⟩⟩
theorem call_lenS : CallR X (.builtin "len") (fun xs H Q => ∃ (S : Addr) (n : Nat), xs = [.ref S] ∧ H S = some (.ext (SetA S n)) ∧ n < 1000 ∧ Q (.int n) H) := by
  intro pins s σ H xs us Q I r h
  obtain ⟨S, n, rfl, hS, hn, q⟩ := h
  obtain ⟨u, rfl, ru⟩ := Vals.one r
  cases ru
  obtain ⟨⟨es, ep, t, ho, hl, hf⟩, _, _⟩ := (show ObjOk X.prog X.w H s.heap S (.ext (SetA S n)) from I.hok S _ hS)
  subst hl
  exact call_len_set ho ⟨rfl, rfl, rfl⟩ rfl hf (by omega) ⟨.int es.size, H, I.tok _, ⟨_, rfl⟩, q⟩
end L2
namespace U
open PySem PySem.Spec PyProof.Rows L2
variable {B : Bs} {X : Cx} {e : Expr} {ta : TE'} {p p2 pos pos2 : Pos}
def prV (p : Int × Int) : PV := .tup [.int p.1, .int p.2]
theorem prs_of {K : PySem.W.Frag} {H : Hp} : ∀ {ps : List (Int × Int)} {us : List V}, RPs K H (ps.map prV) us → Prs K H us ps
  | [], us, h => by
    have : us = [] := by simpa [RPs] using h
    subst this; exact .nil
  | q :: ps, us, h => by
    simp only [List.map_cons, RPs, RP, prV] at h
    obtain ⟨u, r, rfl, ⟨t, ws, rfl, hs, w1, r1, rfl, rfl, w2, r2, rfl, rfl, rfl⟩, h2⟩ := h
    exact .cons ⟨t, rfl, hs⟩ (prs_of h2)
def lenSet (x : PV) (H : PHp) (Q : VK') : Prop := match x with
  | .ref a => ∃ ps : List (Int × Int), H a = some (.lst (ps.map prV)) ∧ ps.Nodup ∧ (∀ p ∈ ps, p ∈ SP.prs) ∧ ps.length ≤ 15 ∧ Q (.int ps.length) H
  | _ => False
def uLenSet (ta : TE') : TE' := fun σ H Q => ta σ H fun x H1 => lenSet x H1 Q
theorem qe_len_set (hc : X.calm = true) (hu : X.A.units + 64 < cLine) (hgl : Gl X "len") (hml : X.mg "len" = none) (hgs : Gl X "set") (hms : X.mg "set" = none) (bs : bootBuiltins "set" = some (.type "set")) (ha : PE' X B e ta)
    (he : starEach [.Call (.Name "set" p2) [e] [] pos2] X.env = [(false, eval (.Call (.Name "set" p2) [e] [] pos2) X.env)] := by rfl) (he2 : starEach [e] X.env = [(false, eval e X.env)] := by rfl) :
    PE' X B (.Call (.Name "len" p) [.Call (.Name "set" p2) [e] [] pos2] [] pos) (uLenSet ta) :=
  pe_imp (pe_callB call_lenS hgl hml PySem.boot_len (pa_cons (pe_callTy (call_setP hc hu) hgs hms bs (pa_cons ha pa_nil he2) (by decide) (by decide) he2 rfl) pa_nil he) (by decide) (by decide) he rfl) fun σ H Q h => by
    obtain ⟨σ', H', Q', s, h, k⟩ := h
    refine ⟨σ', H', _, s, h, fun x' H1' x H1 h1 rx s1 e1 => ?_⟩
    cases x' with
    | ref a =>
      obtain ⟨ps, ea, nd, hin, h15, q⟩ := h1
      simp only [RP] at rx
      subst rx
      obtain ⟨us, eg, r2⟩ := s1.hp _ _ ea
      refine ⟨a, us, ps, rfl, .inl (.inl eg), prs_of r2, nd, hin, h15, fun S hS => ?_⟩
      exact ⟨S, ps.length, rfl, upd_same, by omega, k _ _ _ _ q (by simp [RP]) (s1.hid hS) (e1.trans (Ev.hid hS))⟩
    | _ => exact h1.elim
end U


set_option linter.all false
set_option maxRecDepth 100000
set_option maxHeartbeats 4000000
namespace U
open PySem PySem.Spec PyProof.Rows L2
variable {B : Bs} {X : Cx} {a b : Expr} {ta tb : TE'} {pos : Pos}
end U


set_option linter.all false
set_option maxRecDepth 100000
set_option maxHeartbeats 4000000
namespace ST
open PySem PySem.W PyProof.Rows
def key (K : Nat → Int) (p : Array Nat) (i : Nat) : Int := K ((p[i]?).getD 0)
structure Ok (n : Nat) (p : Array Nat) : Prop where
  perm : p.toList.Perm (List.range n)
def S (K : Nat → Int) (p : Array Nat) (m : Nat) : Prop := ∀ i j, i < j → j < m → key K p i < key K p j
theorem Ok.size {n : Nat} {p : Array Nat} (h : Ok n p) : p.size = n := by
  have := h.perm.length_eq
  simpa using this
theorem Ok.lt {n : Nat} {p : Array Nat} (h : Ok n p) (h0 : 0 < n) (i : Nat) : p.getD i 0 < n := by
  rw [Array.getD_eq_getD_getElem?]
  cases e : p[i]? with
  | none => exact h0
  | some x =>
    have : x ∈ p.toList := by
      obtain ⟨hi, rfl⟩ := Array.getElem?_eq_some_iff.mp e
      simp
    exact List.mem_range.mp (h.perm.mem_iff.mp this)
theorem Ok.of {n : Nat} {p q : Array Nat} (h : Ok n p) (r : q.Perm p) : Ok n q := ⟨(Array.perm_iff_toList_perm.mp r).trans h.perm⟩
section
variable {cmp : Nat → Nat → (Bool → Shared → Prop) → Shared → Prop} {s : Shared} {n : Nat} {K : Nat → Int} {p : Array Nat}
theorem Ok.ne (hK : ∀ i j, i < n → j < n → K i = K j → i = j) (h : Ok n p) {i j : Nat} (hi : i < n) (hj : j < n) (hne : i ≠ j) : key K p i ≠ key K p j := by
  intro e
  have hs := h.size
  have h0 : 0 < n := by omega
  unfold key at e
  rw [Array.getElem?_eq_getElem (by omega), Array.getElem?_eq_getElem (by omega)] at e
  simp only [Option.getD_some] at e
  have nd : p.toList.Nodup := (h.perm.nodup_iff).mpr List.nodup_range
  have l1 : p[i] < n := by have := h.lt h0 i; rwa [Array.getD_eq_getD_getElem?, Array.getElem?_eq_getElem (by omega)] at this
  have l2 : p[j] < n := by have := h.lt h0 j; rwa [Array.getD_eq_getD_getElem?, Array.getElem?_eq_getElem (by omega)] at this
  have q := hK _ _ l1 l2 e
  have : i = j := by
    exact (List.getElem_inj nd (h₀ := by simpa [hs] using hi) (h₁ := by simpa [hs] using hj)).mp (by simpa using q)
  exact hne this
theorem getD_key (K : Nat → Int) (p : Array Nat) (i : Nat) : K (p.getD i 0) = key K p i := by
  unfold key; rw [Array.getD_eq_getD_getElem?]
variable (hc : ∀ i j C, i < n → j < n → C (decide (K i < K j)) s → cmp i j C s) (hK : ∀ i j, i < n → j < n → K i = K j → i = j)
include hc
theorem ask_at {G : Bool → Shared → Prop} (h0 : 0 < n) (ok : Ok n p) {i j : Nat} (h : G (decide (key K p i < key K p j)) s) : cmp (p.getD i 0) (p.getD j 0) G s := by
  refine hc _ _ _ (ok.lt h0 i) (ok.lt h0 j) ?_
  rw [getD_key K p i, getD_key K p j]
  exact h
include hK
theorem lt_of_not {i j : Nat} (ok : Ok n p) (hi : i < n) (hj : j < n) (hne : i ≠ j) (h : ¬ key K p i < key K p j) : key K p j < key K p i := by
  have := ok.ne hK hi hj hne
  omega
theorem asc (ok : Ok n p) : ∀ (f m : Nat) {G : Nat → Shared → Prop}, 1 ≤ m → m + f ≤ n → S K p m →
    (∀ m', m ≤ m' → m' ≤ m + f → S K p m' → (m' < m + f → key K p m' < key K p (m' - 1)) → G m' s) → (kas_asc p f m).kasWp cmp G s
  | 0, m, G, _, _, hS, h => h m (Nat.le_refl _) (Nat.le_refl _) hS fun q => absurd q (Nat.lt_irrefl _)
  | f + 1, m, G, h1, hm, hS, h => by
    refine ask_at hc (by omega) ok (G := fun c s' => (if c = true then KasT.ret m else kas_asc p f (m + 1)).kasWp cmp G s') ?_
    by_cases q : key K p m < key K p (m - 1)
    · rw [decide_eq_true q]
      show G m s
      exact h m (Nat.le_refl _) (by omega) hS fun _ => q
    · rw [decide_eq_false q]
      show (kas_asc p f (m + 1)).kasWp cmp G s
      have q' := lt_of_not hc hK ok (by omega) (by omega) (by omega) q
      refine asc ok f (m + 1) (by omega) (by omega) ?_ fun m' a b c d => h m' (by omega) (by omega) c fun e => d (by omega)
      intro i j hij hj
      by_cases hjm : j < m
      · exact hS i j hij hjm
      · have : j = m := by omega
        subst this
        by_cases him : i = j - 1
        · subst him; exact q'
        · have := hS i (j - 1) (by omega) (by omega)
          omega
theorem desc (ok : Ok n p) : ∀ (f m : Nat) {G : Array Nat × Nat × Nat → Shared → Prop}, 1 ≤ m → m + f ≤ n → (∀ i j, i < j → j < m → key K p j < key K p i) →
    (∀ m', m ≤ m' → m' ≤ m + f → (∀ i j, i < j → j < m' → key K p j < key K p i) → G (p, m', 0) s) → (kas_desc f p m 0).kasWp cmp G s
  | 0, m, G, _, _, hS, h => h m (Nat.le_refl _) (Nat.le_refl _) hS
  | f + 1, m, G, h1, hm, hS, h => by
    refine ask_at hc (by omega) ok (G := fun c s' => (if c = true then (if 0 > 0 then kas_desc f (kas_rev p (m - (0 + 1)) m) (m + 1) 0 else kas_desc f p (m + 1) 0)
      else KasT.ask (p.getD (m - 1) 0) (p.getD m 0) fun d => if d = true then KasT.ret (p, m, 0) else kas_desc f p (m + 1) (0 + 1)).kasWp cmp G s') ?_
    by_cases q : key K p m < key K p (m - 1)
    · rw [decide_eq_true q, if_pos rfl, if_neg (by omega)]
      refine desc ok f (m + 1) (by omega) (by omega) ?_ fun m' a b c => h m' (by omega) (by omega) c
      intro i j hij hj
      by_cases hjm : j < m
      · exact hS i j hij hjm
      · have : j = m := by omega
        subst this
        by_cases him : i = j - 1
        · subst him; exact q
        · have := hS i (j - 1) (by omega) (by omega)
          omega
    · rw [decide_eq_false q]
      have q' := lt_of_not hc hK ok (by omega) (by omega) (by omega) q
      refine ask_at hc (by omega) ok (G := fun d s' => (if d = true then KasT.ret (p, m, 0) else kas_desc f p (m + 1) (0 + 1)).kasWp cmp G s') ?_
      rw [decide_eq_true q', if_pos rfl]
      exact h m (Nat.le_refl _) (by omega) hS
theorem rev_key {m : Nat} (ok : Ok n p) (hm : m ≤ n) (i : Nat) : key K (kas_rev p 0 m) i = if i < m then key K p (m - 1 - i) else key K p i := by
  unfold key kas_rev
  rw [getElem?_mirror_all (by rw [ok.size]; exact hm)]
  by_cases h : i < m
  · rw [if_pos ⟨Nat.zero_le _, h⟩, if_pos h]
    congr 3
    omega
  · rw [if_neg (by omega), if_neg h]
theorem count {G : Nat × Array Nat → Shared → Prop} (ok : Ok n p) (h1 : 1 ≤ n) (h : ∀ m p', Ok n p' → 1 ≤ m → m ≤ n → S K p' m → G (m, p') s) : (kas_count n p).kasWp cmp G s := by
  unfold kas_count
  rw [KasT.kasWp_bind]
  refine asc hc hK ok (n - 1) 1 (Nat.le_refl _) (by omega) (fun i j a b => by omega) fun m' a b hS st => ?_
  by_cases e : m' = n
  · subst e
    rw [if_pos (by simp)]
    exact h _ _ ok (by omega) (Nat.le_refl _) hS
  · rw [if_neg (by simpa using e)]
    by_cases e1 : m' > 1
    · rw [if_pos e1]
      refine ask_at hc (by omega) ok (G := fun c s' => (if c = true then KasT.ret (m', p) else kas_descPart m' n (kas_rev p 0 m')).kasWp cmp G s') ?_
      rw [decide_eq_true (hS 0 (m' - 1) (by omega) (by omega)), if_pos rfl]
      exact h _ _ ok (by omega) (by omega) hS
    · rw [if_neg e1]
      have : m' = 1 := by omega
      subst this
      unfold kas_descPart
      rw [KasT.kasWp_bind]
      have st1 := st (by omega)
      refine desc hc hK ok (n - (1 + 1)) (1 + 1) (by omega) (by omega) (fun i j hij hj => ?_) fun m' a b hD => ?_
      · have h1 : j = 1 := by omega
        have h2 : i = 0 := by omega
        subst h1; subst h2
        exact st1
      · rw [if_neg (by simp)]
        unfold kas_tail3
        rw [KasT.kasWp_bind]
        have ok2 : Ok n (kas_rev p 0 m') := ok.of (mirror_perm _ _ _ _)
        refine asc hc hK ok2 (n - m') m' (by omega) (by omega) (fun i j hij hj => ?_) fun m2 a2 b2 hS2 _ => ?_
        · rw [rev_key hc hK ok (by omega), rev_key hc hK ok (by omega), if_pos (by omega), if_pos hj]
          exact hD _ _ (by omega) (by omega)
        · exact h m2 _ ok2 (by omega) (by omega) hS2
theorem place (ok : Ok n p) {k : Nat} (hk : k < n) (hS : S K p k) : ∀ (f l r : Nat) {G : Nat → Shared → Prop}, l ≤ r → r ≤ k → r - l ≤ f → (∀ i, i < l → key K p i < key K p k) → (∀ i, r ≤ i → i < k → key K p k < key K p i) →
    (∀ l', l' ≤ k → (∀ i, i < l' → key K p i < key K p k) → (∀ i, l' ≤ i → i < k → key K p k < key K p i) → G l' s) → (kas_place p k f l r).kasWp cmp G s
  | 0, l, r, G, h1, h2, h3, ha, hb, h => h l (by omega) ha fun i x y => hb i (by omega) y
  | f + 1, l, r, G, h1, h2, h3, ha, hb, h => by
    unfold kas_place
    by_cases e : l ≥ r
    · rw [if_pos e]
      exact h l (by omega) ha fun i x y => hb i (by omega) y
    · rw [if_neg e]
      refine ask_at hc (by omega) ok (G := fun c s' => (if c = true then kas_place p k f l ((l + r) / 2) else kas_place p k f ((l + r) / 2 + 1) r).kasWp cmp G s') ?_
      have hmid : (l + r) / 2 < k := by omega
      generalize hm : (l + r) / 2 = mid at *
      by_cases q : key K p k < key K p mid
      · rw [decide_eq_true q, if_pos rfl]
        refine place ok hk hS f l mid (by omega) (by omega) (by omega) ha (fun i x y => ?_) h
        by_cases z : i = mid
        · subst z; exact q
        · have := hS mid i (by omega) y
          omega
      · rw [decide_eq_false q, if_neg (by simp)]
        have q' := lt_of_not hc hK ok hk (by omega) (by omega) q
        refine place ok hk hS f (mid + 1) r (by omega) h2 (by omega) (fun i x => ?_) hb h
        by_cases z : i = mid
        · subst z; exact q'
        · have := hS i mid (by omega) hmid
          omega
theorem bub_key {k l : Nat} (ok : Ok n p) (hk : k < n) (hl : l ≤ k) (i : Nat) : key K (bubble p k (k - l)) i = if i = l then key K p k else if l < i ∧ i ≤ k then key K p (i - 1) else key K p i := by
  unfold key
  rw [getElem?_bubble (by rw [ok.size]; exact hk) _ (Nat.sub_le _ _)]
  rw [show k - (k - l) = l by omega]
  split
  · rfl
  · split <;> rfl
theorem bin : ∀ (f k : Nat) (p : Array Nat) {G : Array Nat → Shared → Prop}, Ok n p → 1 ≤ k → k + f = n → S K p k → (∀ p', Ok n p' → S K p' n → G p' s) → (kas_bin f p k).kasWp cmp G s
  | 0, k, p, G, ok, h1, h2, hS, h => h p ok (by have : k = n := by omega
                                                subst this; exact hS)
  | f + 1, k, p, G, ok, h1, h2, hS, h => by
    unfold kas_bin
    rw [KasT.kasWp_bind]
    refine place hc hK ok (by omega) hS k 0 k (by omega) (Nat.le_refl _) (by omega) (fun i x => by omega) (fun i x y => by omega) fun l hl ha hb => ?_
    refine bin f (k + 1) _ (ok.of (bubble_perm _ _ _)) (by omega) (by omega) (fun i j hij hj => ?_) h
    rw [bub_key hc hK ok (by omega) hl, bub_key hc hK ok (by omega) hl]
    by_cases c1 : i = l
    · rw [if_pos c1]
      rw [if_neg (by omega), if_pos (by omega)]
      exact hb _ (by omega) (by omega)
    · rw [if_neg c1]
      by_cases c2 : j = l
      · rw [if_pos c2, if_neg (by omega)]
        exact ha _ (by omega)
      · rw [if_neg c2]
        by_cases c3 : l < i ∧ i ≤ k
        · rw [if_pos c3, if_pos (by omega)]
          exact hS _ _ (by omega) (by omega)
        · rw [if_neg c3]
          by_cases c4 : l < j ∧ j ≤ k
          · rw [if_pos c4]
            by_cases c5 : i = j - 1
            · omega
            · exact hS _ _ (by omega) (by omega)
          · rw [if_neg c4]
            exact hS _ _ hij (by omega)
theorem sorts {G : Array Nat → Shared → Prop} (h1 : 1 ≤ n) (h : ∀ p, Ok n p → S K p n → G p s) : (kas_sort n).kasWp cmp G s := by
  unfold kas_sort
  rw [KasT.kasWp_bind]
  refine count hc hK (p := (List.range n).toArray) ⟨by simp⟩ h1 fun m p' ok a b hS => ?_
  show (if m < n then kas_bin (n - max m 1) p' (max m 1) else KasT.ret p').kasWp cmp G s
  by_cases e : m < n
  · rw [if_pos e, show max m 1 = m by omega]
    exact bin hc hK (n - m) m p' ok a (by omega) hS h
  · rw [if_neg e]
    have : m = n := by omega
    subst this
    exact h p' ok hS
end
end ST


set_option linter.all false
set_option maxRecDepth 100000
set_option maxHeartbeats 4000000
namespace ST
open PySem PySem.W PyProof.Rows
def pk (p : Int × Int) : Int := 6 * p.1 + p.2
def Tp (h : Heap) (v : Value) (p : Int × Int) : Prop := ∃ t o k u1 u2, v = .ref t ∧ h.get? t = some o ∧ o.cls = .type "tuple" ∧ o.data = .seq #[.int p.1 u1, .int p.2 u2] k
def Tps (h : Heap) (vs : List Value) (ps : List (Int × Int)) : Prop := vs.length = ps.length ∧ ∀ i v, vs[i]? = some v → Tp h v (ps.getD i (0, 0))
theorem Tp.kp {h h' : Heap} {v : Value} {p : Int × Int} (x : Tp h v p) (k : ∀ b o, o.cls = .type "tuple" → h.get? b = some o → h'.get? b = some o) : Tp h' v p := by
  obtain ⟨t, o, n, u1, u2, e, ho, hc, hd⟩ := x
  exact ⟨t, o, n, u1, u2, e, k _ _ hc ho, hc, hd⟩
section
variable {prog : Program} {w : World} {A : Around} {E : Value → Shared → Prop} {s : Shared}
theorem lt_pair {x y : Value} {p q : Int × Int} {C : Bool → Shared → Prop} (hx : Tp s.heap x p) (hy : Tp s.heap y q) (bp : 0 ≤ p.2 ∧ p.2 < 6) (bq : 0 ≤ q.2 ∧ q.2 < 6) (h : C (decide (pk p < pk q)) s) :
    wpAny (model prog w) A (keyLt' (tuples' true) x y) C E s := by
  obtain ⟨t, o, n, u1, u2, rfl, ho, hc, hd⟩ := hx
  obtain ⟨t', o', n', w1, w2, rfl, ho', hc', hd'⟩ := hy
  refine kat_lt ho hd ho' hd' ?_
  show KatLex prog w A true (decide (2 < 2)) C [(.int p.1 u1, .int q.1 w1), (.int p.2 u2, .int q.2 w2)] 0 s
  refine kat_cons (wpAny_eqBool_int ?_)
  refine kat_go (fun e1 => kat_yes (kat_cons (wpAny_eqBool_int ?_))) (fun e1 => kat_no ?_)
  · have e1 : p.1 = q.1 := by simpa using e1
    refine kat_go (fun e2 => kat_yes (kat_nil ?_)) (fun e2 => kat_no ?_)
    · have e2 : p.2 = q.2 := by simpa using e2
      have : decide (pk p < pk q) = decide (2 < 2) := by unfold pk; rw [e1, e2]; simp
      rw [← this]; exact h
    · refine kat_one _ _ (PyProof.Rows.lt_int ?_)
      have : decide (pk p < pk q) = decide (p.2 < q.2) := by
        rw [decide_eq_decide]; unfold pk; omega
      show C (decide (p.2 < q.2)) s
      rw [← this]; exact h
  · have e1 : ¬ p.1 = q.1 := by simpa using e1
    refine oneLt_int ?_
    have : decide (pk p < pk q) = decide (p.1 < q.1) := by
      rw [decide_eq_decide]; unfold pk; omega
    rw [← this]; exact h
theorem tups_of {h : Heap} : ∀ {vs : List Value} {ps : List (Int × Int)}, Tps h vs ps → ∃ fs, KatTups h vs fs ∧ fs.length = vs.length ∧ ∀ v ∈ fs, ∃ i t, v = .int i t
  | [], ps, _ => ⟨[], KatTups.nil, rfl, by simp⟩
  | v :: vs, [], x => by have := x.1; simp at this
  | v :: vs, p :: ps, x => by
    obtain ⟨fs, t, l, q⟩ := tups_of (h := h) (vs := vs) (ps := ps) ⟨by have := x.1; simpa using this, fun i v e => by simpa using x.2 (i + 1) v (by simpa using e)⟩
    obtain ⟨t0, o, n, u1, u2, rfl, ho, hc, hd⟩ := x.2 0 v (by simp)
    refine ⟨.int _ u1 :: fs, KatTups.cons ho hc hd rfl t, by simp [l], ?_⟩
    intro z hz
    rcases List.mem_cons.mp hz with rfl | hz
    · exact ⟨_, _, rfl⟩
    · exact q z hz
theorem list_sort_pairs {a : Addr} {vs : List Value} {ps : List (Int × Int)} {n : Nat} {P : PySem.Fin → Shared → Prop} (ho : s.heap.get? a = some (seqObj "list" vs.toArray n)) (hT : Tps s.heap vs ps) (nd : ps.Nodup)
    (hb : ∀ p ∈ ps, 0 ≤ p.2 ∧ p.2 < 6) (h64 : vs.length < 64)
    (h : ∀ q : List Nat, q.Perm (List.range vs.length) → (q.map fun i => ps.getD i (0, 0)).Pairwise (fun x y => pk x < pk y) → P (.done (.ret .none)) { s with heap := sortedHeap s.heap a vs (q.map fun i => vs.getD i Value.none).toArray }) :
    wpAny (model prog w) A (Builtin.«list.sort» ⟨[.ref a], []⟩) P E s := by
  rw [list_sort_plain]
  have hls : vs.length ≤ sizeLine := by rw [sizeLine_eq]; omega
  refine wpAny_bind (listItems_at ho rfl (wpAny_bind ?_))
  refine (listUpdate_at ho rfl ?_ (by rw [List.size_toArray]; omega) (Nat.zero_le _))
  obtain ⟨ea0, oa0⟩ : ∃ ea0, (s.heap.update a (Obj.mapSeq fun _ => #[])).get? a = some (seqObj "list" #[] ea0) := ⟨_, get?_update_seq ho (fun _ => #[])⟩
  refine wpAny_bind (seqEpoch_at oa0 rfl ?_)
  refine wpAny_bind (wpAny_newTuple ?_ (by show vs.length ≤ _; omega))
  refine wpAny_bind (wpAny_newList ?_ (Nat.zero_le _))
  refine wpAny_holding ?_
  have kq0 : ∀ b o, b ≠ a → s.heap.get? b = some o → (((s.heap.update a (Obj.mapSeq fun _ => #[])).push (seqObj "tuple" vs.toArray 0)).push (seqObj "list" #[] 0)).get? b = some o := fun b o hne q =>
    Heap.get?_push_of_some _ (Heap.get?_push_of_some _ (by rw [Heap.get?_update_ne _ _ _ _ hne]; exact q))
  have og0 : (((s.heap.update a (Obj.mapSeq fun _ => #[])).push (seqObj "tuple" vs.toArray 0)).push (seqObj "list" #[] 0)).get? a = some (seqObj "list" #[] ea0) :=
    Heap.get?_push_of_some _ (Heap.get?_push_of_some _ oa0)
  have hT6 : Tps (((s.heap.update a (Obj.mapSeq fun _ => #[])).push (seqObj "tuple" vs.toArray 0)).push (seqObj "list" #[] 0)) vs ps := ⟨hT.1, fun i v e => (hT.2 i v e).kp fun b o hcl q => kq0 b o (fun z => by
    subst z; rw [ho] at q; cases q; exact absurd hcl (by simp [seqObj])) q⟩
  show wpAny (model prog w) _ _ P _ { s with heap := ((s.heap.update a (Obj.mapSeq fun _ => #[])).push (seqObj "tuple" vs.toArray 0)).push (seqObj "list" #[] 0) }
  dsimp only
  have zq0 : vs.toArray.size = vs.length := by simp
  by_cases hq2 : vs.toArray.size < 2
  · rw [if_pos hq2, if_pos hq2]
    refine wpAny_bind (wpAny_pure ?_)
    rw [StateT.run_pure]
    refine wpAny_bind (wpAny_pure ?_)
    dsimp only
    refine wpAny_bind (seqEpoch_at og0 rfl ?_)
    refine wpAny_bind (listUpdate_at og0 rfl ?_ (Nat.zero_le _) (by rw [Array.size_map]; show (pairsOf vs).size ≤ _; rw [pairsOf_size]; omega))
    simp only [bne_self_eq_false, Bool.false_eq_true, if_false]
    have hq := h (List.range vs.length) (List.Perm.refl _) ?_
    · have e : (arrOf (SortSt.mk' general' (vs.toArray.zip vs.toArray) #[] 7 none)).map (·.2) = ((List.range vs.length).map fun i => vs.getD i Value.none).toArray := by
        show (vs.toArray.zip vs.toArray).map (·.2) = _
        match vs, hq2 with
        | [], _ => apply Array.toList_inj.mp; simp
        | [v], _ => apply Array.toList_inj.mp; simp [List.range_succ]
        | _ :: _ :: _, hq2 => exact absurd hq2 (by simp)
      refine wpAny_pure ?_
      rw [e]
      exact hq
    · match vs, hq2 with
      | [], _ => exact List.Pairwise.nil
      | [v], _ => exact List.pairwise_singleton _ _
      | _ :: _ :: _, hq2 => exact absurd hq2 (by simp)
  · rw [if_neg hq2, if_neg hq2]
    obtain ⟨fs, hfs, hfl, hfi⟩ := tups_of hT6
    rw [zq0] at hq2
    refine wpAny_bind (kat_kind hfs (by omega) (T := .type "int") (fun v hv => ?_) rfl ?_)
    · obtain ⟨i, t, rfl⟩ := hfi v hv
      exact Looks.of_pure rfl
    · show wpAny (model prog w) A _ P E _
      have hinj : ∀ i j, i < vs.length → j < vs.length → pk (ps.getD i (0, 0)) = pk (ps.getD j (0, 0)) → i = j := by
        intro i j hi hj e
        have hi' : i < ps.length := by rw [← hT.1]; exact hi
        have hj' : j < ps.length := by rw [← hT.1]; exact hj
        have g1 : ps.getD i (0, 0) = ps[i] := by rw [List.getD_eq_getElem?_getD, List.getElem?_eq_getElem hi']; rfl
        have g2 : ps.getD j (0, 0) = ps[j] := by rw [List.getD_eq_getElem?_getD, List.getElem?_eq_getElem hj']; rfl
        rw [g1, g2] at e
        have b1 := hb _ (List.getElem_mem hi')
        have b2 := hb _ (List.getElem_mem hj')
        unfold pk at e
        have e2 : ps[i] = ps[j] := Prod.ext (by omega) (by omega)
        exact (List.getElem_inj nd).mp e2
      refine wpAny_bind (wpAny_mono (kat_run (ks := vs) (vs := vs) (κ := tuples' true)
        (Q := fun st' s' => s' = { s with heap := ((s.heap.update a (Obj.mapSeq fun _ => #[])).push (seqObj "tuple" vs.toArray 0)).push (seqObj "list" #[] 0) } ∧ ∃ p : Array Nat, Ok vs.length p ∧ S (fun i => pk (ps.getD i (0, 0))) p vs.length ∧ arrOf st' = p.map (kas_item (vs.toArray.zip vs.toArray)) ∧ failedOf st' = none)
        (G := fun p s' => s' = { s with heap := ((s.heap.update a (Obj.mapSeq fun _ => #[])).push (seqObj "tuple" vs.toArray 0)).push (seqObj "list" #[] 0) } ∧ Ok vs.length p ∧ S (fun i => pk (ps.getD i (0, 0))) p vs.length)
        rfl (by omega) h64 (fun p st' s' a1 a2 a3 a4 => ⟨a4.1, p, a4.2.1, a4.2.2, a2, a3⟩) ?run) ?post fun _ _ e => e)
      case run =>
        refine sorts (n := vs.length) (K := fun i => pk (ps.getD i (0, 0))) (fun i j C hi hj hC => ?_) hinj (by omega) fun p ok sS => ⟨rfl, ok, sS⟩
        unfold kas_ask
        have hi' : i < ps.length := by rw [← hT.1]; exact hi
        have hj' : j < ps.length := by rw [← hT.1]; exact hj
        refine lt_pair (hT6.2 i _ ?_) (hT6.2 j _ ?_) (hb _ ?_) (hb _ ?_) hC
        · rw [List.getD_eq_getElem?_getD, List.getElem?_eq_getElem hi]; rfl
        · rw [List.getD_eq_getElem?_getD, List.getElem?_eq_getElem hj]; rfl
        · rw [List.getD_eq_getElem?_getD, List.getElem?_eq_getElem hi']; exact List.getElem_mem hi'
        · rw [List.getD_eq_getElem?_getD, List.getElem?_eq_getElem hj']; exact List.getElem_mem hj'
      case post =>
        rintro ⟨⟨⟩, st'⟩ s' ⟨rfl, p, ok, sS, har, hf⟩
        dsimp only
        have hout := kat_snds (ks := vs) (vs := vs) rfl har
        have hpz : (List.toArray (p.toList.map fun i => vs.getD i Value.none)).size = vs.length := by rw [List.size_toArray, List.length_map, Array.length_toList, ok.size]
        rw [hout]
        refine wpAny_bind (seqEpoch_at og0 rfl ?_)
        refine wpAny_bind (listUpdate_at og0 rfl ?_ (Nat.zero_le _) (by omega))
        rw [hf]
        simp only [bne_self_eq_false, Bool.false_eq_true, if_false]
        refine wpAny_pure (h p.toList ok.perm ?_)
        rw [List.pairwise_map, List.pairwise_iff_getElem]
        intro i j hi hj hij
        have := sS i j hij (by rw [← ok.size]; simpa using hj)
        unfold key at this
        have hi2 : i < p.size := by simpa using hi
        have hj2 : j < p.size := by simpa using hj
        rw [Array.getElem?_eq_getElem hi2, Array.getElem?_eq_getElem hj2] at this
        simpa using this
theorem sorted_pairs {l : Addr} {vs : List Value} {ps : List (Int × Int)} {Q : Value → Shared → Prop} (hl : s.heap.IsList l vs.toArray) (hT : Tps s.heap vs ps) (nd : ps.Nodup) (hb : ∀ p ∈ ps, 0 ≤ p.2 ∧ p.2 < 6) (h64 : vs.length < 64)
    (h : ∀ q : List Nat, q.Perm (List.range vs.length) → (q.map fun i => ps.getD i (0, 0)).Pairwise (fun x y => pk x < pk y) → Q (.ref (s.heap.objs.size + 1)) { s with heap := sortedAll s.heap vs (q.map fun i => vs.getD i Value.none).toArray }) :
    wpAny (model prog w) A (call (.builtin "sorted") [.ref l]) Q E s := by
  refine Calls.call_function_entry kind_sorted plain_sorted entry_sorted (args_sorted1 _) ?_
  unfold Builtin.«sorted»
  refine wpAny_bind (m := checkCount "sorted" 1 1 _) (wpAny_pure (wpAny_bind (collect_list hl (wpAny_bind (wpAny_newList ?_ (by rw [sizeLine_eq]; omega))) (by rw [sizeLine_eq]; omega))))
  have zq0 : ((s.heap.push (seqObj "list" #[] 0)).update s.heap.objs.size (Obj.mapSeq (· ++ vs.toArray))).objs.size = s.heap.objs.size + 1 := by
    rw [Heap.size_update, size_push']
  have oq0 : (((s.heap.push (seqObj "list" #[] 0)).update s.heap.objs.size (Obj.mapSeq (· ++ vs.toArray))).push (seqObj "list" vs.toArray 0)).get? (s.heap.objs.size + 1) = some (seqObj "list" vs.toArray 0) := by
    rw [← zq0]; exact Heap.get?_push_size _ rfl
  have kq0 : ∀ b o, s.heap.get? b = some o → (((s.heap.push (seqObj "list" #[] 0)).update s.heap.objs.size (Obj.mapSeq (· ++ vs.toArray))).push (seqObj "list" vs.toArray 0)).get? b = some o := fun b o q => by
    have lq0 : b < s.heap.objs.size := Heap.lt_size q
    rw [Heap.get?_push_ne _ _ _ (by rw [zq0]; exact Nat.ne_of_lt (Nat.lt_succ_of_lt lq0)), Heap.get?_update_ne _ _ _ _ (Nat.ne_of_lt lq0), Heap.get?_push_ne _ _ _ (Nat.ne_of_lt lq0)]
    exact q
  show wpAny (model prog w) _ _ _ _ { s with heap := ((s.heap.push (seqObj "list" #[] 0)).update s.heap.objs.size (Obj.mapSeq (· ++ vs.toArray))).push (seqObj "list" vs.toArray 0) }
  rw [zq0]
  refine wpAny_bind (wpAny_holding (wpAny_call_entry slot_list_sort ⟨_, oq0, rfl⟩ entry_list_sort (list_sort_pairs (ps := ps) oq0 ⟨hT.1, fun i v e => (hT.2 i v e).kp fun b o _ q => kq0 b o q⟩ nd hb h64 fun q a1 a2 => ⟨_, rfl, ?_⟩) (args_list_sort _)))
  exact wpAny_pure ⟨_, rfl, h q a1 a2⟩
end
end ST


set_option linter.all false
set_option maxRecDepth 100000
set_option maxHeartbeats 4000000
namespace L2
open PySem PySem.Spec PyProof.Rows
variable {X : Cx}
def rSortP (K : PySem.W.Frag) : List V → Hp → VK → Prop := fun xs H Q => ∃ (a : Addr) (us : List V) (ps : List (Int × Int)), xs = [.ref a] ∧ SqL K H a us ∧ Prs K H us ps ∧ ps.Nodup ∧ (∀ p ∈ ps, 0 ≤ p.2 ∧ p.2 < 6) ∧ ps.length < 64 ∧
  ∀ (r : Addr) (q : List Nat), H r = none → q.Perm (List.range ps.length) → (q.map fun i => ps.getD i (0, 0)).Pairwise (fun x y => ST.pk x < ST.pk y) → Q (.ref r) (upd H r (.lst (q.map fun i => us.getD i .non)))
theorem vals_pick {us : List V} {vs : List Value} (r : Vals us vs) : ∀ (q : List Nat), (∀ i ∈ q, i < us.length) → Vals (q.map fun i => us.getD i .non) (q.map fun i => vs.getD i Value.none)
  | [], _ => .nil
  | i :: q, h => by
    have hi := h i List.mem_cons_self
    obtain ⟨u, eu, ru⟩ := r.get (List.getElem?_eq_getElem hi)
    refine .cons ?_ (vals_pick r q fun j hj => h j (List.mem_cons_of_mem _ hj))
    dsimp only
    rw [List.getD_eq_getElem?_getD, List.getElem?_eq_getElem hi, List.getD_eq_getElem?_getD, eu]
    exact ru
theorem call_sortP : CallR X (.builtin "sorted") (rSortP X.K) := by
  intro pins s σ H xs us Q I r h
  obtain ⟨a, ws, ps, rfl, hq, hP, nd, hb, h64, q⟩ := h
  obtain ⟨u, rfl, ru⟩ := Vals.one r
  cases ru
  obtain ⟨its, rv, p, hz⟩ := I.list hq
  have hlen : its.length = ps.length := rv.length.symm.trans (prs_len hP)
  refine ST.sorted_pairs (ps := ps) p.isList ⟨hlen, fun i v hv => ?_⟩ nd hb (by omega) fun qs h1 h2 => ?_
  · have hi : i < ws.length := by rw [rv.length]; exact (List.getElem?_eq_some_iff.mp hv).1
    obtain ⟨pr, t, e1, e2, hs⟩ := prs_get (i := i) hP (List.getElem?_eq_getElem hi)
    obtain ⟨u, eu, ru⟩ := rv.get (List.getElem?_eq_getElem hi)
    rw [hv] at eu; cases eu
    rw [e2] at ru
    cases ru
    obtain ⟨is, r2, ⟨o, ho, hcl, n, hd⟩, _⟩ := I.tuple hs
    obtain ⟨x, y, rfl, rx, ry⟩ := vals2 r2
    obtain ⟨t1, rfl⟩ := rx
    obtain ⟨t2, rfl⟩ := ry
    refine ⟨t, o, n, t1, t2, rfl, ho, hcl, ?_⟩
    rw [List.getD_eq_getElem?_getD, e1]
    exact hd
  · have hn : H (s.heap.objs.size + 1) = none := I.hok.fresh (Nat.le_succ _)
    obtain ⟨e, he⟩ := sortedAll_at s.heap its (qs.map fun i => its.getD i Value.none).toArray
    rw [hlen] at h1
    have hin : ∀ i ∈ qs, i < ws.length := fun i hi => by
      have := List.mem_range.mp (h1.mem_iff.mp hi)
      rw [prs_len hP]; exact this
    have hv := vals_pick rv qs hin
    have hz2 : (qs.map fun i => ws.getD i V.non).length ≤ sizeLine := by rw [List.length_map, h1.length_eq, List.length_range, sizeLine_eq]; omega
    refine ⟨.ref (s.heap.objs.size + 1), _, I.laid (t' := s.toks) (o := .lst (qs.map fun i => ws.getD i V.non)) (fun b o e => sortedAll_old e) (Nat.le_succ _) ?_, rfl, q _ qs hn h1 h2⟩
    exact ⟨hz2, _, e, hv, he⟩
end L2
namespace U
open PySem PySem.Spec PyProof.Rows L2
variable {B : Bs} {X : Cx} {a b : Expr} {ta tb : TE'} {pos : Pos}
def uSortP : List PV → PHp → VK' → Prop := arg1 fun x H Q => match x with
  | .ref a => ∃ ps : List (Int × Int), H a = some (.lst (ps.map prV)) ∧ ps.Nodup ∧ (∀ p ∈ ps, 0 ≤ p.2 ∧ p.2 < 6) ∧ ps.length < 64 ∧ ∀ (r : Addr) (qs : List (Int × Int)), H r = none → qs.Perm ps → qs.Pairwise (fun x y => ST.pk x < ST.pk y) → Q (.ref r) (put H r (.lst (qs.map prV)))
  | _ => False
theorem rps_pick {K : PySem.W.Frag} {H : Hp} {ps : List (Int × Int)} {us : List V} (r : RPs K H (ps.map prV) us) : ∀ (q : List Nat), (∀ i ∈ q, i < ps.length) → RPs K H ((q.map fun i => ps.getD i (0, 0)).map prV) (q.map fun i => us.getD i V.non)
  | [], _ => RPs.nil _
  | i :: q, h => by
    have hi := h i List.mem_cons_self
    obtain ⟨u, eu, ru⟩ := RPs.get _ (i := i) (x := prV ps[i]) r (by rw [List.getElem?_map, List.getElem?_eq_getElem hi]; rfl)
    refine RPs.cons _ ?_ (rps_pick r q fun j hj => h j (List.mem_cons_of_mem _ hj))
    dsimp only
    rw [List.getD_eq_getElem?_getD, List.getElem?_eq_getElem hi, List.getD_eq_getElem?_getD, eu]
    exact ru
theorem pick_perm {α : Type} (l : List α) (d : α) {q : List Nat} (h : q.Perm (List.range l.length)) : (q.map fun i => l.getD i d).Perm l := by
  refine (h.map _).trans ?_
  have : (List.range l.length).map (fun i => l.getD i d) = l := by
    apply List.ext_getElem
    · simp
    · intro i h1 h2
      simp [List.getD_eq_getElem?_getD, List.getElem?_eq_getElem h2]
  rw [this]
theorem vc_sortP {K : PySem.W.Frag} : VC K B uSortP (rSortP K) := by
  intro σ' σ H' H xs' xs Q' Q s r h k
  obtain ⟨x', x, rfl, rfl, rx, h⟩ := arg1.ex h r
  cases x' with
  | ref a =>
    obtain ⟨ps, ea, nd, hb, h64, q⟩ := h
    simp only [RP] at rx
    subst rx
    obtain ⟨us, e, r2⟩ := s.hp _ _ ea
    refine ⟨a, us, ps, rfl, .inl (.inl e), prs_of r2, nd, hb, h64, fun r qs hr h1 h2 => ?_⟩
    have hin : ∀ i ∈ qs, i < ps.length := fun i hi => List.mem_range.mp (h1.mem_iff.mp hi)
    exact k _ _ _ _ (q r _ (s.hp.free hr) (pick_perm ps (0, 0) h1) h2) (by simp [RP]) (s.new hr (newL hr (rps_pick r2 qs hin))) (Ev.new hr)
  | _ => exact h.elim
def uReverse : PV → List PV → PHp → VK' → Prop := fun x vs H Q => match x, vs with
  | .ref a, [] => ∃ l, H a = some (.lst l) ∧ Q .non (put H a (.lst l.reverse))
  | _, _ => False
theorem rps_reverse {K : PySem.W.Frag} {H : Hp} : ∀ {l : List PV} {us : List V}, RPs K H l us → RPs K H l.reverse us.reverse
  | [], us, h => by simp only [RPs] at h; subst h; exact RPs.nil _
  | x :: l, us, h => by
    simp only [RPs] at h
    obtain ⟨u, r, rfl, a, b⟩ := h
    rw [List.reverse_cons, List.reverse_cons]
    exact RPs.append _ (rps_reverse b) (RPs.cons _ a (RPs.nil _))
theorem vm_reverse {K : PySem.W.Frag} : VM K B uReverse rReverse := by
  intro σ' σ H' H x' xs' x xs Q' Q s rx r h k
  unfold uReverse at h
  split at h
  · rename_i a
    obtain ⟨l, e, h⟩ := h
    obtain ⟨us, q, r2⟩ := s.hp _ _ e
    simp only [RP, RPs] at rx r
    subst rx; subst r
    exact ⟨a, us, rfl, rfl, q, k _ _ _ _ h (by simp [RP]) (s.wr e (wrL s.hp e (rps_reverse r2))) (Ev.wr e)⟩
  · exact h.elim
theorem hl_reverse : ∀ x H Q, uReverse x [] H Q → match x with | .ref a => ∃ l, H a = some (.lst l) | _ => False := by
  intro x H Q h
  cases x with
  | ref a => obtain ⟨l, e, _⟩ := h; exact ⟨l, e⟩
  | _ => exact h
def uClear : PV → List PV → PHp → VK' → Prop := fun x vs H Q => match x, vs with
  | .ref a, [] => ∃ l, H a = some (.lst l) ∧ Q .non (put H a (.lst []))
  | _, _ => False
theorem vm_clear {K : PySem.W.Frag} : VM K B uClear rClear := by
  intro σ' σ H' H x' xs' x xs Q' Q s rx r h k
  unfold uClear at h
  split at h
  · rename_i a
    obtain ⟨l, e, h⟩ := h
    obtain ⟨us, q, r2⟩ := s.hp _ _ e
    simp only [RP, RPs] at rx r
    subst rx; subst r
    exact ⟨a, us, rfl, rfl, q, k _ _ _ _ h (by simp [RP]) (s.wr e (wrL s.hp e (RPs.nil _))) (Ev.wr e)⟩
  · exact h.elim
theorem hl_clear : ∀ x H Q, uClear x [] H Q → match x with | .ref a => ∃ l, H a = some (.lst l) | _ => False := by
  intro x H Q h
  cases x with
  | ref a => obtain ⟨l, e, _⟩ := h; exact ⟨l, e⟩
  | _ => exact h
def uInsert : PV → List PV → PHp → VK' → Prop := fun x vs H Q => match x, vs with
  | .ref a, [.int i, y] => ∃ l, H a = some (.lst l) ∧ 0 ≤ i ∧ i.toNat ≤ l.length ∧ l.length < 1000 ∧ Q .non (put H a (.lst (l.take i.toNat ++ y :: l.drop i.toNat)))
  | _, _ => False
theorem w_rv {a : Addr} {H : PHp} {Q : VK'} : uReverse (.ref a) [] H Q = ∃ l, H a = some (.lst l) ∧ Q .non (put H a (.lst l.reverse)) := rfl
theorem w_cl {a : Addr} {H : PHp} {Q : VK'} : uClear (.ref a) [] H Q = ∃ l, H a = some (.lst l) ∧ Q .non (put H a (.lst [])) := rfl
theorem w_in {a : Addr} {i : Int} {y : PV} {H : PHp} {Q : VK'} : uInsert (.ref a) [.int i, y] H Q = ∃ l, H a = some (.lst l) ∧ 0 ≤ i ∧ i.toNat ≤ l.length ∧ l.length < 1000 ∧ Q .non (put H a (.lst (l.take i.toNat ++ y :: l.drop i.toNat))) := rfl
end U
namespace U
open PySem PySem.Spec PyProof.Rows L2
theorem qe_globE {B : Bs} {X : Cx} {x : Str} {v' : PV} {v : V} {pos : Pos} (hg : Gl X x) (h : ∃ u, X.mg x = some u ∧ RelV v u) (r' : ∀ H, RP X.K H v' v) (hd : (x == ("__debug__" : Str)) = false := by decide) : PE' X B (.Name x pos) (uC v') := by
  obtain ⟨u, hm, r⟩ := h
  exact qe_glob hg hm r r' hd
theorem comp_pure {ok : PHp → Prop} {g : TG'} {tt : TT'} {te : TE'} {acc : Addr} {Q : VK'} {H1 : PHp} {xs : List PV} (f : PV → PV) (pz : PV → Bool) (Iv : St' → Prop) (hlen : xs.length ≤ 1000) (hok : ∀ l, ok (put H1 acc (.lst l)))
    (hs : ∀ x ∈ xs, ∀ (l : List PV) (σ : St') (R : St' → PHp → Prop), Iv σ → l.length < sizeLine → (pz x = true → ∀ σ3, Iv σ3 → R σ3 (put H1 acc (.lst (l ++ [f x])))) → (pz x = false → ∀ σ3, Iv σ3 → R σ3 (put H1 acc (.lst l))) →
      g x σ (put H1 acc (.lst l)) fun σ3 H2 => tt σ3 H2 fun b H3 => cif b (te σ3 H3 fun y H4 => ∃ l', H4 acc = some (.lst l') ∧ l'.length < sizeLine ∧ R σ3 (put H4 acc (.lst (l' ++ [y])))) (R σ3 H3))
    (hq : Q (.ref acc) (put H1 acc (.lst ((xs.filter pz).map f)))) {σ : St'} (h0 : Iv σ) : uCompL ok g tt te acc Q xs σ (put H1 acc (.lst [])) := by
  have key : ∀ (r d : List PV) (σ : St'), xs = d ++ r → Iv σ → uCompL ok g tt te acc Q r σ (put H1 acc (.lst ((d.filter pz).map f))) := by
    intro r
    induction r with
    | nil =>
      intro d σ e hv
      have : d = xs := by rw [e, List.append_nil]
      subst this
      exact ⟨hok _, hq⟩
    | cons x r ih =>
      intro d σ e hv
      have hd : ((d.filter pz).map f).length < sizeLine := by
        have h1 : d.length + (r.length + 1) = xs.length := by rw [e, List.length_append, List.length_cons]
        have h2 := List.length_filter_le pz d
        have := small1000 (n := 1000) (by decide)
        rw [List.length_map]
        omega
      refine ⟨hok _, hs x (by rw [e]; simp) _ σ _ hv hd (fun hp σ3 h3 => ?_) (fun hp σ3 h3 => ?_)⟩
      · have := ih (d ++ [x]) σ3 (by rw [e]; simp) h3
        rw [List.filter_append, List.map_append] at this
        simpa [hp] using this
      · have := ih (d ++ [x]) σ3 (by rw [e]; simp) h3
        rw [List.filter_append, List.map_append] at this
        simpa [hp] using this
  exact key xs [] σ rfl h0
end U
namespace U
open PySem PySem.Spec PyProof.Rows L2
theorem w_fl {C : Addr} {f : Str} {a : Addr} {H : PHp} {Q : VK'} : fldOf C f (.ref a) H Q = ∃ dx fs v, H a = some (.ins C dx fs) ∧ fs.lookup f = some v ∧ Q v H := rfl
theorem w_sf {C : Addr} {f : Str} {a : Addr} {y : PV} {H : PHp} {Q : PHp → Prop} : stFld C f (.ref a) y H Q = ∃ dx fs, H a = some (.ins C dx fs) ∧ fs.length < 1000 ∧ Q (put H a (.ins C dx (putU f y fs))) := rfl
theorem w_ii {C : Addr} {m : Str} {a : Addr} {H : PHp} : isIn C m (.ref a) H = ∃ dx fs, H a = some (.ins C dx fs) ∧ fs.lookup m = none := rfl
theorem w_al {a : Addr} {H : PHp} {Q : VK'} : uAll [.ref a] H Q = ∃ bs : List Bool, H a = some (.lst (bs.map PV.bl)) ∧ Q (.bl (bs.all id)) H := rfl
theorem w_ls {a : Addr} {H : PHp} {Q : VK'} : lenSet (.ref a) H Q = ∃ ps : List (Int × Int), H a = some (.lst (ps.map prV)) ∧ ps.Nodup ∧ (∀ p ∈ ps, p ∈ SP.prs) ∧ ps.length ≤ 15 ∧ Q (.int ps.length) H := rfl
theorem w_sp {a : Addr} {H : PHp} {Q : VK'} : uSortP [.ref a] H Q = ∃ ps : List (Int × Int), H a = some (.lst (ps.map prV)) ∧ ps.Nodup ∧ (∀ p ∈ ps, 0 ≤ p.2 ∧ p.2 < 6) ∧ ps.length < 64 ∧ ∀ (r : Addr) (qs : List (Int × Int)), H r = none → qs.Perm ps → qs.Pairwise (fun x y => ST.pk x < ST.pk y) → Q (.ref r) (put H r (.lst (qs.map prV))) := rfl
end U


set_option linter.all false
set_option maxRecDepth 100000
set_option maxHeartbeats 4000000
namespace SI
open PySem
def tb (led : Bool) (L : List Nat) : SetTable := { mask := if L.length ≤ 4 then 7 else 31, place := L.toArray, dummies := #[], finger := 0, led := led, moves := if L.length ≤ 4 then 0 else 1, plain := true }
def pos (L : List Nat) (x : Nat) : Nat := (L.filter (· < x)).length
def ins (L : List Nat) (x : Nat) : List Nat := L.take (pos L x) ++ x :: L.drop (pos L x)
def tp (led : Bool) (L : List Nat) (x : Nat) : SetTable := { tb led L with place := (ins L x).toArray }
section
variable {prog : Program} {w : World} {A : Around} {E : Value → Shared → Prop} {s : Shared}
end
end SI


set_option linter.all false
set_option maxRecDepth 100000
set_option maxHeartbeats 4000000
namespace SI
open PySem
theorem erase_perm {α : Type} : ∀ (l : List α) (i : Nat) (h : i < l.length), (l[i] :: l.eraseIdx i).Perm l
  | x :: l, 0, _ => List.Perm.refl _
  | x :: l, i + 1, h => by
    have ih := erase_perm l i (by simpa using h)
    have h' : i < l.length := by simpa using h
    show (l[i] :: x :: l.eraseIdx i).Perm (x :: l)
    exact (List.Perm.swap _ _ _).trans (ih.cons x)
theorem pick_perm {α : Type} (next : Nat → Nat) : ∀ (f k : Nat) (l : List α) (out : Array α), f = l.length → (pickOrder.go next f k l out).toList.Perm (out.toList ++ l)
  | 0, k, l, out, h => by
    have : l = [] := List.length_eq_zero_iff.mp h.symm
    subst this
    show out.toList.Perm _
    rw [List.append_nil]
  | f + 1, k, l, out, h => by
    have hlt : next k % l.length < l.length := Nat.mod_lt _ (by omega)
    unfold pickOrder.go
    rw [List.getElem?_eq_getElem hlt]
    dsimp only
    refine (pick_perm next f (k + 1) _ _ (by rw [List.length_eraseIdx_of_lt hlt]; omega)).trans ?_
    rw [Array.toList_push, List.append_assoc]
    refine List.Perm.append_left _ ?_
    exact erase_perm l _ hlt
section
variable {prog : Program} {w : World} {A : Around} {E : Value → Shared → Prop} {s : Shared}
end
end SI


set_option linter.all false
set_option maxRecDepth 100000
set_option maxHeartbeats 4000000
namespace SI
open PySem PyProof.Rows
section
variable {prog : Program} {w : World} {A : Around} {E : Value → Shared → Prop} {s : Shared}
end
end SI


set_option linter.all false
set_option maxRecDepth 100000
set_option maxHeartbeats 4000000
namespace L2
open PySem PySem.Spec PyProof.Rows
variable {X : Cx}
end L2
namespace U
open PySem PySem.Spec PyProof.Rows L2
variable {B : Bs} {X : Cx} {e : Expr} {ta : TE'} {p p2 pos pos2 : Pos}
end U
namespace L2
open PySem PySem.Spec PyProof.Rows
variable {X : Cx} {tg : Expr}
end L2
namespace U
open PySem PySem.Spec PyProof.Rows L2
variable {B : Bs} {X : Cx} {a b c : Expr} {pos : Pos}
end U


set_option linter.all false
set_option maxRecDepth 100000
set_option maxHeartbeats 4000000
namespace U
open PySem PySem.Spec PyProof.Rows L2
variable {B : Bs} {X : Cx} {a b : Expr} {ta tb : TE'} {pos : Pos}
def uCat : R2' := fun x y H Q => match x, y with
  | .ref a, .ref b => ∃ l m, H a = some (.lst l) ∧ H b = some (.lst m) ∧ l.length + m.length ≤ sizeLine ∧ ∀ p, H p = none → Q (.ref p) (put H p (.lst (l ++ m)))
  | _, _ => False
theorem w_ca {a b : Addr} {H : PHp} {Q : VK'} : uCat (.ref a) (.ref b) H Q = ∃ l m, H a = some (.lst l) ∧ H b = some (.lst m) ∧ l.length + m.length ≤ sizeLine ∧ ∀ p, H p = none → Q (.ref p) (put H p (.lst (l ++ m))) := rfl
theorem vr_cat {K : PySem.W.Frag} : VR K B uCat rCat := by
  intro σ' σ H' H x' y' x y Q' Q s rx ry h k
  unfold uCat at h
  split at h
  · rename_i a b
    obtain ⟨l, m, e1, e2, hl, h⟩ := h
    simp only [RP] at rx ry
    subst rx; subst ry
    obtain ⟨us, q1, r1⟩ := s.hp _ _ e1
    obtain ⟨ws, q2, r2⟩ := s.hp _ _ e2
    refine ⟨a, b, us, ws, rfl, rfl, q1, q2, by rw [RPs.length _ r1, RPs.length _ r2]; exact hl, fun p hp => ?_⟩
    exact k _ _ _ _ (h p (s.hp.free hp)) (by simp [RP]) (s.new hp (newL hp (RPs.append _ r1 r2))) (Ev.new hp)
  · exact h.elim
theorem qe_cat (ha : PE' X B a ta) (hb : PE' X B b tb) : PE' X B (.BinOp a .Add b pos) (uOp uCat ta tb) := qe_op op_cat vr_cat ha hb
end U


set_option linter.all false
set_option maxRecDepth 100000
set_option maxHeartbeats 4000000 -- own
namespace L2
open PySem PySem.Spec PyProof.Rows
variable {X : Cx}
theorem pre_take (ns : List Int) : ∀ i, i ≤ ns.length → preSum (fun j => ns.getD j 0) i = (ns.take i).sum
  | 0, _ => by simp [preSum]
  | i + 1, h => by
    have hi : i < ns.length := by omega
    rw [preSum, pre_take ns i (by omega), List.take_succ, List.getElem?_eq_getElem hi, List.sum_append]
    simp [List.getD_eq_getElem?_getD, List.getElem?_eq_getElem hi]
theorem call_sumI (hc : X.calm = true) : CallR X (.builtin "sum") (fun xs H Q => ∃ (a : Addr) (ns : List Int), xs = [.ref a] ∧ SqL X.K H a (ns.map V.int) ∧ Q (.int ns.sum) H) := by
  intro pins s σ H xs us Q I r h
  obtain ⟨a, ns, rfl, hq, q⟩ := h
  obtain ⟨u, rfl, ru⟩ := Vals.one r
  cases ru
  obtain ⟨its, rv, p, hz⟩ := I.list hq
  have hl : s.heap.IsList a its.toArray := p.isList
  have llt : a < s.heap.objs.size := by obtain ⟨o, e, _⟩ := hl; exact Heap.lt_size e
  have hne : a ≠ s.heap.objs.size := Nat.ne_of_lt llt
  have hlen : its.length = ns.length := by have := Paired.length rv; rw [List.length_map] at this; exact this.symm
  refine call_sum_walkAnyS (wpAny_pyIter_list hl ?_)
  refine ⟨s.heap.objs.size, [s.heap.objs.size, a], [s.heap.objs.size], _, its.toArray.size, _, _, fun i => ns.getD i 0, rfl, (Walks.list (by simpa using I.ok.hd hc) _ a hne _).toS, ⟨⟨_, Heap.get?_push_size _ rfl, rfl, rfl⟩, hl.at fun o e => Heap.get?_push_of_some _ e⟩, fun b hb => ?_, fun i v hv => ?_, fun s' t' hm => ?_⟩
  · rw [Heap.size_push]
    simp only [List.mem_cons, List.not_mem_nil, or_false] at hb
    rcases hb with e | e
    · rw [e]; exact Nat.lt_succ_self _
    · rw [e]; exact Nat.lt_succ_of_lt llt
  · have hv' : its[i]? = some v := by simpa using hv
    have hi : i < ns.length := by rw [← hlen]; exact (List.getElem?_eq_some_iff.mp hv').1
    obtain ⟨u, eu, ru⟩ := rv.get (List.getElem?_eq_getElem (by rw [List.length_map]; exact hi))
    rw [hv'] at eu
    cases eu
    rw [List.getElem_map] at ru
    obtain ⟨tk, rfl⟩ := ru
    refine ⟨tk, ?_⟩
    show _ = Value.int (ns.getD i 0) tk
    rw [List.getD_eq_getElem?_getD, List.getElem?_eq_getElem hi]
    rfl
  · have e : preSum (fun i => ns.getD i 0) its.toArray.size = ns.sum := by
      rw [List.size_toArray, hlen, pre_take ns ns.length (Nat.le_refl _), List.take_length]
    rw [e, Moved.eq_with hm]
    refine ⟨.int ns.sum, H, I.kept (t' := s'.toks) fun b o e => ?_, ⟨_, rfl⟩, q⟩
    exact hm.heap b o (by simpa using Nat.ne_of_lt (Heap.lt_size e)) (Heap.get?_push_of_some _ e)
end L2
namespace U
open PySem PySem.Spec PyProof.Rows L2
variable {B : Bs} {X : Cx} {a b : Expr} {ta tb : TE'} {pos : Pos}
def uSum : List PV → PHp → VK' → Prop := arg1 fun x H Q => match x with
  | .ref a => ∃ ns : List Int, H a = some (.lst (ns.map PV.int)) ∧ Q (.int ns.sum) H
  | _ => False
theorem w_su {a : Addr} {H : PHp} {Q : VK'} : uSum [.ref a] H Q = ∃ ns : List Int, H a = some (.lst (ns.map PV.int)) ∧ Q (.int ns.sum) H := rfl
theorem vc_sum {K : PySem.W.Frag} : VC K B uSum (fun xs H Q => ∃ (a : Addr) (ns : List Int), xs = [.ref a] ∧ SqL K H a (ns.map V.int) ∧ Q (.int ns.sum) H) := by
  intro σ' σ H' H xs' xs Q' Q s r h k
  obtain ⟨x', x, rfl, rfl, rx, h⟩ := arg1.ex h r
  cases x' with
  | ref a =>
    obtain ⟨ns, ea, q⟩ := h
    simp only [RP] at rx
    subst rx
    obtain ⟨us, e, r2⟩ := s.hp _ _ ea
    rw [rps_ints r2] at e
    exact ⟨a, ns, rfl, .inl (.inl e), k _ _ _ _ q (by simp [RP]) s (Ev.refl _ _)⟩
  | _ => exact h.elim
def uMin : List PV → PHp → VK' → Prop := fun xs H Q => match xs with
  | [.int i, .int j] => Q (.int (if j < i then j else i)) H
  | _ => False
theorem w_mi {i j : Int} {H : PHp} {Q : VK'} : uMin [.int i, .int j] H Q = Q (.int (if j < i then j else i)) H := rfl
theorem vc_min {K : PySem.W.Frag} : VC K B uMin (fun xs H Q => ∃ i j, xs = [.int i, .int j] ∧ Q (.int (if j < i then j else i)) H) := by
  intro σ' σ H' H xs' xs Q' Q s r h k
  unfold uMin at h
  split at h
  · rename_i i j
    simp only [RPs, RP] at r
    obtain ⟨_, _, rfl, rfl, _, _, rfl, rfl, rfl⟩ := r
    exact ⟨i, j, rfl, k _ _ _ _ h (by simp [RP]) s (Ev.refl _ _)⟩
  · exact h.elim
end U


set_option linter.all false
set_option maxRecDepth 100000
set_option maxHeartbeats 4000000 -- own
namespace EN
open PySem
section
variable {prog : Program} {w : World} {A : Around} {E : Value → Shared → Prop} {s : Shared}
theorem draw_t {it a : Addr} {j : Nat} {its : Array Value} {x : Value} {Q : Value → Shared → Prop} (hi : s.heap.IsTupleIter it a j) (ht : s.heap.IsTuple a its) (hx : its[j]? = some x)
    (q : ∀ h1, h1.IsTupleIter it a (j + 1) → Heap.SameBut it s.heap h1 → Q x { s with heap := h1 }) : wpAny (model prog w) A (Builtin.SmallTypes.nextOf (.ref it)) Q E s := by
  obtain ⟨u, hu, k1, k2⟩ := id hi
  obtain ⟨v, hv, _, m, k3⟩ := ht
  unfold Builtin.SmallTypes.nextOf
  refine wpAny_bind (wpAny_callSpecial?_slot (name := Str.ofString "__next__") hi.typeIs F.slot_tuple_iterator_next (wpAny_call_entry F.slot_tuple_iterator_next hi.typeIs F.entry_tuple_iterator_next ?_ (F.args_tuple_iterator_next_1 _)))
  show wpAny _ _ (field (Value.ref it) 0 >>= _) _ _ s
  refine wpAny_bind (wpAny_field hu k2 (x := .ref a) rfl ?_)
  show wpAny _ _ (if (Value.ref a == Value.none) = true then _ else _) _ _ s
  rw [if_neg (show ¬ (Value.ref a == Value.none) = true from Bool.false_ne_true)]
  show wpAny _ _ (field (Value.ref it) 1 >>= _) _ _ s
  refine wpAny_bind (wpAny_field hu k2 (x := .int j 0) rfl ?_)
  show wpAny _ _ (seqItems? (Value.ref a) >>= _) _ _ s
  refine wpAny_bind (wpAny_seqItems hv k3 ?_)
  simp only [Int.toNat_natCast, hx]
  refine wpAny_bind (wpAny_setField hu k2 (by simp) (wpAny_pure ⟨x, rfl, wpAny_pure (q _ ?_ (Heap.SameBut.update ..))⟩))
  refine ⟨_, Heap.get?_update_self _ hu (Obj.isFreed_of_fields (Obj.data_mapFields k2 _)), (Obj.cls_mapFields ..).trans k1, ?_⟩
  rw [Obj.data_mapFields k2]
  simp [rawInt]
theorem end_t {it a : Addr} {j : Nat} {its : Array Value} {Q : Value → Shared → Prop} (hA : A.handled = none) (hi : s.heap.IsTupleIter it a j) (ht : s.heap.IsTuple a its) (hx : its[j]? = none)
    (q : ∀ h1 e, Heap.ExtBut it s.heap h1 → (∃ o, h1.get? e = some o ∧ o.cls = .type "StopIteration") → E (.ref e) { s with heap := h1 }) : wpAny (model prog w) A (Builtin.SmallTypes.nextOf (.ref it)) Q E s := by
  obtain ⟨u, hu, k1, k2⟩ := id hi
  obtain ⟨v, hv, _, m, k3⟩ := ht
  unfold Builtin.SmallTypes.nextOf
  refine wpAny_bind (wpAny_callSpecial?_slot (name := Str.ofString "__next__") hi.typeIs F.slot_tuple_iterator_next (wpAny_call_entry F.slot_tuple_iterator_next hi.typeIs F.entry_tuple_iterator_next ?_ (F.args_tuple_iterator_next_1 _)))
  show wpAny _ _ (field (Value.ref it) 0 >>= _) _ _ s
  refine wpAny_bind (wpAny_field hu k2 (x := .ref a) rfl ?_)
  show wpAny _ _ (if (Value.ref a == Value.none) = true then _ else _) _ _ s
  rw [if_neg (show ¬ (Value.ref a == Value.none) = true from Bool.false_ne_true)]
  show wpAny _ _ (field (Value.ref it) 1 >>= _) _ _ s
  refine wpAny_bind (wpAny_field hu k2 (x := .int j 0) rfl ?_)
  show wpAny _ _ (seqItems? (Value.ref a) >>= _) _ _ s
  refine wpAny_bind (wpAny_seqItems hv k3 ?_)
  simp only [Int.toNat_natCast, hx]
  refine wpAny_bind (wpAny_rule (wpAny_bind (wpAny_setField hu k2 (by simp) ?_)))
  show wpAny _ _ (newExc (Value.type "StopIteration") [] >>= _) _ _ _
  refine wpAny_bind (?_)
  simp only [newTuple, newExc]
  refine wpAny_bind (wpAny_newObj_type (?_) (by size_fits))
  refine wpAny_bind (m := firstArgMember _ _) (wpAny_of_eq (a := Value.none) (by first | rfl | (simp only [firstArgMember]; rfl)) (?_))
  refine wpAny_newObj_type (?_) (by size_fits)
  simp only [raiseNew, bind_assoc]
  refine wpAny_bind (wpAny_handled (?_))
  first | rw [show A.in1.handled = none from hA] | rw [hA]
  refine wpAny_bind (wpAny_pure (wpAny_throw (?_)))
  exact q _ _ (((Heap.SameBut.update ..).extBut.push _).push _) ⟨_, Heap.get?_push_size _ rfl, rfl⟩
end
theorem draws_t {prog : Program} {w : World} {A : Around} (hA : A.handled = none) (it a : Addr) (ne : a ≠ it) (its : Array Value) :
    Draws prog w A it [it, a] its.size (fun i v => its[i]? = some v) (fun i h => h.IsTupleIter it a i ∧ h.IsTuple a its) where
  live := fun _ _ st => let ⟨o, ho, _⟩ := st.1; ⟨o, ho⟩
  frame := fun _ _ _ st hk => ⟨st.1.at fun o e => hk it (by simp) o e, st.2.at fun o e => hk a (by simp) o e⟩
  item := fun i s Q E hi st q => draw_t st.1 st.2 (x := its[i]) (by simp [hi]) fun h1 t1 b1 => q _ h1 s.toks (by simp [hi]) ⟨t1, st.2.extBut b1.extBut ne⟩ b1
  done := fun s Q E st q => end_t hA st.1 st.2 (by simp) q
theorem meets_t (a : Addr) (its : Array Value) :
    Meets (Builtin.«enumerate.__new__» ⟨[.type "enumerate", .ref a], []⟩) (fun _ R s => s.heap.IsTuple a its ∧
      R (.ok (.ret (.ref (s.heap.push { cls := .type "tuple_iterator", data := .fields #[.ref a, .int 0 0] }).objs.size)))
        { s with heap := (s.heap.push { cls := .type "tuple_iterator", data := .fields #[.ref a, .int 0 0] }).push { cls := .type "enumerate", data := .fields #[.none, .bool false, .ref s.heap.objs.size, rawInt 0, .none, .none] } }) :=
  .of_wp fun prog w A R s h => by
    obtain ⟨hp, g, d, tk, os⟩ := s
    obtain ⟨ht, h⟩ := h
    have hsub := sub_enumerate
    obtain ⟨o, ho, hc, n, hd⟩ := id ht
    wp_walk using AutoSeq1.wpAny_loadPart' ho
    refine wpAny_stack_any fun st => wpAny_pure ?_
    split
    · rename_i c _ _ _ _ _
      cases (c == Value.type "enumerate") <;>
        (wp_walk using AutoSeq1.wpAny_loadPart' ho, wpAny_pyIter_tuple ht
         exact ⟨_, rfl, h⟩)
    · wp_walk using AutoSeq1.wpAny_loadPart' ho, wpAny_pyIter_tuple ht
      exact ⟨_, rfl, h⟩
theorem call_t {prog : Program} {w : World} {A : Around} {E : Value → Shared → Prop} {s : Shared} {a : Addr} {its : Array Value} {Q : Value → Shared → Prop} (ht : s.heap.IsTuple a its)
    (h : ∀ h1, IsEnum h1 (s.heap.objs.size + 1) s.heap.objs.size 0 .none → h1.IsTupleIter s.heap.objs.size a 0 → (∀ b o, s.heap.get? b = some o → h1.get? b = some o) → Q (.ref (s.heap.objs.size + 1)) { s with heap := h1 }) :
    wpAny (model prog w) A (call (.type "enumerate") [.ref a]) Q E s := by
  refine callType_new F.called_enumerate (by decide) (F.typeCall_enumerate_1 _) (F.newCall_enumerate_1 _) (fun obj => F.args_object_init_2 obj _) F.entry_enumerate_new (meets_t a its) ⟨ht, ?_⟩
  have hz : (s.heap.push { cls := .type "tuple_iterator", data := .fields #[.ref a, .int 0 0] }).objs.size = s.heap.objs.size + 1 := Heap.size_push ..
  show _ ∧ _
  rw [hz]
  have he : IsEnum ((s.heap.push { cls := .type "tuple_iterator", data := .fields #[.ref a, .int 0 0] }).push { cls := .type "enumerate", data := .fields #[.none, .bool false, .ref s.heap.objs.size, rawInt 0, .none, .none] }) (s.heap.objs.size + 1) s.heap.objs.size 0 .none := by
    have q := Heap.get?_push_size (s.heap.push { cls := .type "tuple_iterator", data := .fields #[.ref a, .int 0 0] }) (o := { cls := .type "enumerate", data := .fields #[.none, .bool false, .ref s.heap.objs.size, rawInt 0, .none, .none] }) rfl
    rw [hz] at q
    exact q
  exact ⟨⟨_, he, rfl⟩, h _ he ⟨_, Heap.get?_push_of_some _ (Heap.get?_push_size _ rfl), rfl, rfl⟩ fun b o x => Heap.get?_push_of_some _ (Heap.get?_push_of_some _ x)⟩
end EN


set_option linter.all false
set_option maxRecDepth 100000
set_option maxHeartbeats 4000000 -- own
namespace L2
open PySem PySem.Spec PyProof.Rows
def Ite (K : PySem.W.Frag) (a : Addr) : It :=
  ⟨fun i H => ∃ xs x, SqT K H a xs ∧ xs[i]? = some x, fun i H x H' => ∃ T y, H T = none ∧ x = .ref T ∧ H' = upd H T (.tup [.int (i : Nat), y]) ∧ ∀ xs, SqT K H a xs → xs[i]? = some y, fun i H => ∃ xs, SqT K H a xs ∧ xs.length = i⟩
theorem cls_ne {h : Heap} {a b : Addr} {n m : String} {o u : Obj} (ha : h.get? a = some o) (hb : h.get? b = some u) (ca : o.cls = .type n) (cb : u.cls = .type m) (ne : (Value.type n : Value) ≠ .type m) : a ≠ b := by
  rintro rfl
  rw [ha] at hb; cases hb
  exact ne (ca.symm.trans cb)
theorem turn_en {P : Program} {w : World} {K : PySem.W.Frag} {elts : List Expr} {k1} {tpos : Pos} (a it e : Addr) : Turn P w K (.Tuple elts k1 tpos) (Ite K a) [e, it] e (fun i h => (∃ old, IsEnum h e it (i : Nat) old) ∧ h.IsTupleIter it a i) where
  mem := by simp
  obj := fun i h st b hb => by
    obtain ⟨⟨old, he⟩, o, ho, hc, hd⟩ := st
    rcases List.mem_cons.mp hb with rfl | hb
    · exact ⟨_, he, fun v z => by
        have z' : Data.fields _ = Data.cell v := z
        cases z'⟩
    · rw [List.mem_singleton.mp hb]
      exact ⟨o, ho, fun v z => by rw [hd] at z; cases z⟩
  keep := fun i h h' st k => by
    obtain ⟨⟨old, he⟩, hi⟩ := st
    exact ⟨⟨old, k e (by simp) _ he⟩, hi.at fun o x => k it (by simp) o x⟩
  item := by
    intro X hP hw hK hc i pins s σ H E I hf st hg
    subst hP hw hK
    obtain ⟨xs, x, hq, hx⟩ := hg
    obtain ⟨its, rv, p, hz⟩ := I.tuple hq
    obtain ⟨u, hu, ru⟩ := rv.get hx
    obtain ⟨⟨old, he⟩, hi⟩ := st
    have p' : s.heap.IsTuple a its.toArray := p
    obtain ⟨oa, ha, ca, _⟩ := id p'
    obtain ⟨oi, hoi, ci, _⟩ := id hi
    have nai : a ≠ it := cls_ne ha hoi ca ci (by decide)
    have nei : e ≠ it := cls_ne he hoi rfl ci (by decide)
    have nea : e ≠ a := cls_ne he ha rfl ca (by decide)
    have hlt : i < its.toArray.size := by
      have := (List.getElem?_eq_some_iff.mp hu).1
      simpa using this
    refine wpAny_pyNext_enum_itemD (EN.draws_t (A := X.A.in1) (I.ok.hd hc) it a nai its.toArray) he ⟨hi, p'⟩ hlt nei (by simp [nei, nea]) fun y h1 tk hy ho hs1 hT hsz hk => ?_
    have ey : y = u := by
      have : its.toArray[i]? = some u := by simpa using hu
      rw [this] at hy; exact (Option.some.inj hy).symm
    subst ey
    refine ⟨_, rfl, wpAny_letOwnedTupleGo_enum (s := { s with heap := h1, toks := tk + 1 }) ho fun h2 he2 sb => ?_⟩
    have sb2 : Heap.SameBut e h1 h2 := sb
    have hlte : e < s.heap.objs.size := Heap.lt_size he
    have hT2 : h2.get? s.heap.objs.size = some { cls := .type "tuple", data := .seq #[.int i tk, y] } := (sb2.2 _ (Nat.ne_of_gt hlte)).trans hT
    have kk : ∀ b o, b ≠ e → b ≠ it → s.heap.get? b = some o → h2.get? b = some o := fun b o n1 n2 q => (sb2.2 b n1).trans (hk b o n1 n2 q)
    have hn : H s.heap.objs.size = none := I.hok.fresh (Nat.le_refl _)
    have fe := hf e (by simp)
    have fi := hf it (by simp)
    have nit : ∀ b v, H b = some v → b ≠ e ∧ b ≠ it := fun b v q => ⟨fun z => (by rw [z, fe.1] at q; cases q), fun z => (by rw [z, fi.1] at q; cases q)⟩
    refine ⟨.ref s.heap.objs.size, upd H s.heap.objs.size (.tup [.int (i : Nat), x]), ?_, rfl, ⟨_, x, hn, rfl, rfl, fun ys hy' => by rw [I.tuple_inj hy' hq]; exact hx⟩, ⟨⟨y, by simpa using he2⟩, ?_⟩, fun b hb => ?_⟩
    · show Inv X pins σ _ { s with heap := h2, toks := tk + 1 }
      refine I.step (h' := h2) (g' := s.gens) (d' := s.drawn) (t' := tk + 1) (ch := [e, it]) (fun b hb => ?_) (fun b o _ _ hc q _ => kk b o (fun z => hc (by simp [z])) (fun z => hc (by simp [z])) q) (fun b o _ _ hc q _ => ⟨o.slots, kk b o (fun z => hc (by simp [z])) (fun z => hc (by simp [z])) q⟩)
        (fun b o _ q n => by rw [upd_ne (Nat.ne_of_lt (Heap.lt_size q))]; exact n) (fun b o hc q => ⟨o, kk b o (fun z => hc (by simp [z])) (fun z => hc (by simp [z])) q⟩) (fun b ys q => by rw [upd_ne (ne_of_none q hn)]; exact q) (fun b o v q => by rw [upd_ne (ne_of_none q hn)]; exact q)
        (fun b ps q => ⟨#[], by rw [upd_ne (ne_of_none q hn), q]; simp⟩) (fun m hm => ?_) (fun b v q => ?_) I.bare
      · rcases List.mem_cons.mp hb with rfl | hb
        · exact ⟨fe.2.2.2.1, fe.2.1, fe.2.2.2.2.1, fe.2.2.2.2.2⟩
        · rw [List.mem_singleton.mp hb]
          exact ⟨fi.2.2.2.1, fi.2.1, fi.2.2.2.2.1, fi.2.2.2.2.2⟩
      · obtain ⟨o, es, ep, q, r⟩ := hm
        exact ⟨o, es, ep, kk _ o (Ne.symm fe.2.1) (Ne.symm fi.2.1) q, r⟩
      · by_cases hb : b = s.heap.objs.size
        · subst hb
          rw [upd_same] at q; cases q
          exact ⟨by show 2 ≤ sizeLine; rw [sizeLine_eq]; omega, [.int i tk, y], .cons ⟨tk, rfl⟩ (.cons ru .nil), ⟨_, hT2, rfl, _, rfl⟩⟩
        · rw [upd_ne hb] at q
          refine (I.hok b v q).stay (fun c z hc q2 => ?_) (fun c q2 => by rw [upd_ne (ne_of_none q2 hn)]; exact q2) fun c ys q2 => by rw [upd_ne (ne_of_none q2 hn)]; exact q2
          have nn : c ≠ e ∧ c ≠ it := by
            rcases hc with z | z
            · rw [z]; exact nit b v q
            · exact nit c _ z
          exact kk c z nn.1 nn.2 q2
    · obtain ⟨o, q, r⟩ := hs1.1
      exact ⟨o, (sb2.2 _ (Ne.symm nei)).trans q, r⟩
    · have hb2 : b < s.heap.objs.size := by
        rcases List.mem_cons.mp hb with rfl | hb
        · exact hlte
        · rw [List.mem_singleton.mp hb]; exact Heap.lt_size hoi
      rw [upd_ne (Nat.ne_of_lt hb2)]
      exact (hf b hb).1
  done := by
    intro X hP hw hK hc i pins s σ H E I hf st hg
    subst hP hw hK
    obtain ⟨xs, hq, rfl⟩ := hg
    obtain ⟨its, rv, p, hz⟩ := I.tuple hq
    obtain ⟨⟨old, he⟩, hi⟩ := st
    have p' : s.heap.IsTuple a its.toArray := p
    obtain ⟨oa, ha, ca, _⟩ := id p'
    obtain ⟨oi, hoi, ci, _⟩ := id hi
    have nai : a ≠ it := cls_ne ha hoi ca ci (by decide)
    have hl := rv.length
    have es : xs.length = its.toArray.size := by simp; omega
    obtain ⟨f0, f1, f2, f3, f4, f5⟩ := hf it (by simp)
    refine wpAny_pyNext_enum_endD (EN.draws_t (A := X.A.in1) (I.ok.hd hc) it a nai its.toArray) he ⟨by rw [← es]; exact hi, p'⟩ fun h1 eb => ⟨rfl, I.turned (t' := s.toks) (fun b o hb q => eb b o hb q) f0 f1 f3 f4 f5⟩
  self := fun _ _ _ _ _ st h => let ⟨⟨_, he⟩, _⟩ := st; wpAny_pyIter_enum he h
section
variable {X : Cx}
theorem boot_en : bootBuiltins "enumerate" = some (.type "enumerate") := by decide +kernel
def iEn (K : PySem.W.Frag) (ta : TA) : TI := fun σ H R => ta σ H fun vs H1 => ∃ a, vs = [.ref a] ∧ (∃ xs, SqT K H1 a xs) ∧ R (Ite K a) H1
theorem pi_en {elts : List Expr} {k1} {tpos : Pos} {c : Expr} {ta : TA} {p pos : Pos} (hg : Gl X "enumerate") (hm : X.mg "enumerate" = none) (ha : PA X [c] ta) (hs : starEach [c] X.env = [(false, eval c X.env)] := by rfl) :
    PI X (.Tuple elts k1 tpos) (.Call (.Name "enumerate" p) [c] [] pos) (iEn X.K ta) := by
  intro pins s σ H R I h
  refine Call_ (ld_blt I hg hm boot_en (PyProof.Rows.callWith_type1 (thn (ha pos pins s σ H _ I h) fun us s1 ⟨vs, H1, I1, r1, q1⟩ => ?_) hs rfl))
  obtain ⟨a, e, ⟨xs, hq⟩, q⟩ := q1
  subst e
  cases r1 with
  | cons r rr =>
    cases rr
    cases r
    obtain ⟨its, rv, p, hz⟩ := I1.tuple hq
    refine EN.call_t (show s1.heap.IsTuple a its.toArray from p) fun h1 he hi kk => wpAny_pyIter_enum he ?_
    refine ⟨s1.heap.objs.size + 1, [s1.heap.objs.size + 1, s1.heap.objs.size], _, _, H1, rfl, I1.kept (t' := s1.toks) kk, turn_en a _ _, ⟨⟨_, he⟩, hi⟩, fun b hb => ?_, q⟩
    have hb2 : s1.heap.objs.size ≤ b := by
      rcases List.mem_cons.mp hb with rfl | hb
      · exact Nat.le_succ _
      · rw [List.mem_singleton.mp hb]; exact Nat.le_refl _
    exact I1.fpOk hb2 (I1.hok.fresh hb2)
end
end L2
namespace U
open PySem PySem.Spec PyProof.Rows L2
variable {B : Bs} {X : Cx} {pos : Pos}
structure WalksH (K : PySem.W.Frag) (H1 : Hp) (J : It) (J' : It') : Prop where
  go : ∀ H' H i, Kp H1 H → HR K H' H → J'.ok H' → i < J'.items.length → J.go i H
  yld : ∀ H' H i x H2, Kp H1 H → HR K H' H → J'.ok H' → J.yld i H x H2 → HR K H' H2 ∧ Ev H' H H' H2 ∧ ∀ x', J'.items[i]? = some x' → RP K H2 x' x
  stop : ∀ H' H, Kp H1 H → HR K H' H → J'.ok H' → J.stop J'.items.length H
def lowIH (K : PySem.W.Frag) (B : Bs) (t : TI') : TI := fun σ H R => ∃ σ' H' R', SR K B σ' H' σ H ∧ t σ' H' R' ∧ ∀ J' H1' J H1, R' J' H1' → WalksH K H1 J J' → SR K B σ' H1' σ H1 → Ev H' H H1' H1 → R J H1
abbrev PIH (X : Cx) (B : Bs) (tg e : Expr) (t : TI') : Prop := PI X tg e (lowIH X.K B t)
theorem low_compH {K : PySem.W.Frag} {nt : Nat} {js : List Nat} {wi : TI'} {g : TG'} {tt : TT'} {te : TE'} {σ : L2.St} {H : Hp} {Q : VK} (h : low K B (uComp nt js wi g tt te) σ H Q) :
    tComp nt js (lowIH K B wi) (lowG K B g) (lowT K B tt) (low K B te) σ H Q := by
  obtain ⟨σ', H', Q', s, h, k⟩ := h
  refine ⟨σ', H', _, s, h, fun J' H1' J H1 h1 wk s1 e1 acc ha => ?_⟩
  have h1 := h1 acc (s1.hp.free ha)
  have sn : SR K B σ' (put H1' acc (.lst [])) σ (upd H1 acc (.lst [])) := s1.new ha ⟨[], upd_same, RPs.nil _⟩
  have en : Ev H1' H1 (put H1' acc (.lst [])) (upd H1 acc (.lst [])) := Ev.new ha
  refine ⟨fun i m σ2 H2 => i ≤ J'.items.length ∧ m = J'.items.length - i ∧ ∃ σ2' H2', SR K B σ2' H2' σ2 H2 ∧ SR K B σ' H2' σ H2 ∧ Ev H1' H1 H2' H2 ∧ uCompL J'.ok g tt te acc Q' (J'.items.drop i) σ2' H2',
    ⟨J'.items.length, Nat.zero_le _, by simp, _, _, sn.sig nt js, sn, en, h1⟩, ?_⟩
  rintro i m σ2 H2 ⟨hi, rfl, σ2', H2', s2, so, e2, h2⟩
  have k2 := e2.kp s1.hp
  by_cases hlt : i < J'.items.length
  · obtain ⟨x', hx⟩ : ∃ x', J'.items[i]? = some x' := ⟨_, List.getElem?_eq_getElem hlt⟩
    have hd : J'.items.drop i = x' :: J'.items.drop (i + 1) := by
      rw [List.drop_eq_getElem_cons hlt]
      rw [List.getElem?_eq_getElem hlt] at hx
      cases hx; rfl
    rw [hd] at h2
    obtain ⟨ok2, h2⟩ := (show J'.ok H2' ∧ _ from h2)
    refine .inr ⟨wk.go H2' H2 i k2 s2.hp ok2 hlt, fun x H3 y => ?_⟩
    obtain ⟨hr3, ev3, rx⟩ := wk.yld H2' H2 i x H3 k2 s2.hp ok2 y
    have s2b := s2.kp ev3 hr3
    have sob := so.kp ev3 hr3
    have e2b := e2.trans ev3
    refine ⟨x', σ2', H2', _, rx x' hx, s2b, h2, fun σ3' H3' σ3 H3 h3 s3 e3 => ⟨σ3', H3', _, s3, h3, fun b H4' H4 h4 s4 e4 => ?_⟩⟩
    cases b with
    | false =>
      have e24 := e3.trans e4
      exact iteF ⟨J'.items.length - (i + 1), by omega, hlt, rfl, σ3', H4', s4, sob.kp e24 s4.hp, e2b.trans e24, h4⟩
    | true =>
      refine iteT ⟨σ3', H4', _, s4, h4, fun y' H5' y H5 h5 ry5 s5 e5 => ?_⟩
      obtain ⟨l, a1, a2, h5⟩ := h5
      have e25 := (e3.trans e4).trans e5
      obtain ⟨us, q1, q2⟩ := s5.hp _ _ a1
      have wr := wrL s5.hp a1 (RPs.append _ q2 (RPs.cons _ ry5 (RPs.nil _)))
      refine ⟨us, q1, by rw [RPs.length _ q2]; exact a2, J'.items.length - (i + 1), by omega, hlt, rfl, σ3', _, s5.wr a1 wr, (sob.kp e25 s5.hp).wr a1 wr, (e2b.trans e25).trans (Ev.wr a1), h5⟩
  · have hi' : i = J'.items.length := by omega
    subst hi'
    rw [List.drop_length] at h2
    obtain ⟨ok2, h2⟩ := (show J'.ok H2' ∧ _ from h2)
    exact .inl ⟨wk.stop H2' H2 k2 s2.hp ok2, k _ _ _ _ h2 (by simp [RP]) so (e1.trans e2)⟩
section
variable {N2 : List Str} {nt : Nat} {js : List Nat} {scope sc : Scope} {cl : List (Str × Addr)} {elt iter tg : Expr} {ifs : List Expr} {wi : TI'} {g : TG'} {tt : TT'} {te : TE'}
theorem qe_compH (O : CompOk X N2 nt js scope cl sc) (hc : X.calm = true) (hi : PIH X B tg iter wi) (b : ∀ (s0 : Shared) (H0 : Hp) (fp : List Addr) (ps : List (Addr × Obj)), CompB' (compCx X N2 scope cl s0 H0 fp ps) B tg ifs elt g tt te)
    (hs : ∀ x, foldedSetIterable iter X.env x = pure x := by intro _; rfl) : PE' X B (.ListComp elt [⟨tg, iter, ifs, 0⟩] scope pos) (uComp nt js wi g tt te) :=
  pe_imp (pe_compO (g := lowG X.K B g) (tt := lowT X.K B tt) (te := low X.K B te) O hc hi (fun s0 H0 fp ps => ⟨(b s0 H0 fp ps).tgt, (b s0 H0 fp ps).tst, (b s0 H0 fp ps).elt⟩) hs) fun _ _ _ h => low_compH h
end
def numL (l : List PV) : List PV := l.mapIdx fun i x => .tup [.int (i : Nat), x]
def en1 (vs : List PV) (H1 : PHp) (R : It' → PHp → Prop) : Prop := match vs with
  | [.tup l] => R ⟨numL l, fun _ => True⟩ H1
  | _ => False
theorem w_en {l : List PV} {H : PHp} {R : It' → PHp → Prop} : en1 [.tup l] H R = R ⟨numL l, fun _ => True⟩ H := rfl
def uEn (t : TA') : TI' := fun σ H R => t σ H fun vs H1 => en1 vs H1 R
theorem qi_en {elts : List Expr} {k1} {tpos : Pos} {c : Expr} {t : TA'} {p : Pos} (hg : Gl X "enumerate") (hm : X.mg "enumerate" = none) (ha : PA' X B [c] t) (hs : starEach [c] X.env = [(false, eval c X.env)] := by rfl) :
    PIH X B (.Tuple elts k1 tpos) (.Call (.Name "enumerate" p) [c] [] pos) (uEn t) := pi_imp (pi_en hg hm ha hs) fun σ H R ⟨σ', H', R', s, h, k⟩ => by
  refine ⟨σ', H', _, s, h, fun vs' H1' vs H1 h1 r1 s1 e1 => ?_⟩
  unfold en1 at h1
  split at h1
  · rename_i l
    simp only [RPs, RP] at r1
    obtain ⟨u, r, rfl, ⟨a, us, rfl, q, rl⟩, rfl⟩ := r1
    refine ⟨a, rfl, ⟨us, q⟩, k _ H1' _ H1 h1 ⟨fun H2' H2 i k2 hr _ hi => ?_, fun H2' H2 i x H3 k2 hr _ y => ?_, fun H2' H2 k2 hr _ => ?_⟩ s1 e1⟩
    · have hi' : i < l.length := by simpa [numL] using hi
      obtain ⟨u, e, _⟩ := RPs.get _ rl (List.getElem?_eq_getElem hi')
      exact ⟨us, u, k2.sqT q, e⟩
    · obtain ⟨T, y1, hT, rfl, rfl, hy⟩ := y
      refine ⟨hr.hid hT, Ev.hid hT, fun x' hx => ?_⟩
      obtain ⟨z, hz, rfl⟩ : ∃ z, l[i]? = some z ∧ x' = .tup [.int (i : Nat), z] := by
        unfold numL at hx
        rw [List.getElem?_mapIdx] at hx
        cases e : l[i]? with
        | none => rw [e] at hx; cases hx
        | some z => rw [e] at hx; exact ⟨z, rfl, (Option.some.inj hx).symm⟩
      obtain ⟨u, e, ru⟩ := RPs.get _ (RPs.kp _ k2 rl) hz
      have ey := hy us (k2.sqT q)
      rw [e] at ey; cases ey
      exact newT hT (RPs.cons _ (by simp [RP]) (RPs.cons _ ru (RPs.nil _)))
    · refine ⟨us, k2.sqT q, ?_⟩
      rw [RPs.length _ rl]
      simp [numL]
  · exact h1.elim
end U


set_option linter.all false
set_option maxRecDepth 100000
set_option maxHeartbeats 4000000 -- own
namespace L2
open PySem PySem.Spec PyProof.Rows
section
variable {X : Cx} {pins : List (Addr × Obj)} {σ : St} {H : Hp} {s : Shared} {h' : Heap}
theorem Inv.turnedN {t' : Nat} {ch : List Addr} (I : Inv X pins σ H s) (k : ∀ b o, b ∉ ch → s.heap.get? b = some o → h'.get? b = some o) (hf : ∀ b ∈ ch, FpOk X pins H b) : Inv X pins σ H { s with heap := h', toks := t' } := by
  have nit : ∀ b u, H b = some u → b ∉ ch := fun b u e z => by rw [(hf b z).1] at e; cases e
  refine I.step (g' := s.gens) (d' := s.drawn) (ch := ch) (fun b hb => ?_) (fun b o _ _ hc e _ => k b o hc e) (fun b o _ _ hc e _ => ⟨o.slots, k b o hc e⟩) (fun _ _ _ _ n => n)
    (fun b o hc e => ⟨o, k b o hc e⟩) (fun _ _ e => e) (fun _ _ _ e => e) (fun b ps e => ⟨#[], by rw [e]; simp⟩) (fun m hm => ?_) (fun b u e => ?_) I.bare
  · have f := hf b hb
    exact ⟨f.2.2.2.1, f.2.1, f.2.2.2.2.1, f.2.2.2.2.2⟩
  · obtain ⟨o, es, ep, ho, r⟩ := hm
    exact ⟨o, es, ep, k _ o (fun z => (hf _ z).2.1 rfl) ho, r⟩
  · refine (I.hok b u e).stay (fun c z hc q2 => ?_) (fun c q2 => q2) fun c ys q2 => q2
    have nn : c ∉ ch := by
      rcases hc with z | z
      · rw [z]; exact nit b u e
      · exact nit c _ z
    exact k c z nn q2
end
theorem vals_none : ∀ {xs : List V} {its : List Value} {i : Nat}, Vals xs its → xs[i]? = none → its[i]? = none := fun {xs its i} r h => by
  have hl := r.length
  rw [List.getElem?_eq_none_iff] at h ⊢
  omega
section
variable {X : Cx}
end
end L2
namespace U
open PySem PySem.Spec PyProof.Rows L2
variable {B : Bs} {X : Cx} {pos : Pos}
end U


set_option linter.all false
set_option maxRecDepth 100000
set_option maxHeartbeats 4000000 -- own
namespace EN
open PySem
abbrev Is3 (h : Heap) (T : Addr) (a b c : Value) : Prop := h.get? T = some { cls := .type "tuple", data := .seq #[a, b, c] }
section
variable {prog : Program} {w : World} {A : Around} {E : Value → Shared → Prop} {s : Shared}
theorem up3 {T : Addr} {a b c x : Value} {k : Nat} {Q : Unit → Shared → Prop} (hT : Is3 s.heap T a b c)
    (q : ∀ h1, h1.get? T = some { cls := .type "tuple", data := .seq ((#[a, b, c] : Array Value).setIfInBounds k x) } → Heap.SameBut T s.heap h1 → Q () { s with heap := h1 }) :
    wpAny (model prog w) A (updateSeq T (·.setIfInBounds k x)) Q E s := by
  refine wpAny_updateSeq hT rfl (q _ ?_ (Heap.SameBut.update ..))
  rw [Heap.get?_update_self _ hT rfl]
  simp [Obj.mapSeq]
theorem apt {n i j : Nat} (h : i ≠ j) : n + i ≠ n + j := by omega
theorem z3_item {n a b c k : Nat} {xs ys us : Array Value} {x y u p q r : Value} {Q : Value → Shared → Prop} (ha : a < n) (hb : b < n) (hc : c < n)
    (hz : IsZip s.heap (n + 5) (n + 3) (n + 4) .none) (hI : Is3 s.heap (n + 3) (.ref n) (.ref (n + 1)) (.ref (n + 2))) (hO : Is3 s.heap (n + 4) p q r)
    (i1 : s.heap.IsTupleIter n a k) (i2 : s.heap.IsListIter (n + 1) b k) (i3 : s.heap.IsTupleIter (n + 2) c k) (t1 : s.heap.IsTuple a xs) (t2 : s.heap.IsList b ys) (t3 : s.heap.IsTuple c us)
    (e1 : xs[k]? = some x) (e2 : ys[k]? = some y) (e3 : us[k]? = some u)
    (k0 : ∀ h1, IsZip h1 (n + 5) (n + 3) (n + 4) (rawInt s.heap.objs.size) → Is3 h1 (n + 4) x y u → h1.IsTupleIter n a (k + 1) → h1.IsListIter (n + 1) b (k + 1) → h1.IsTupleIter (n + 2) c (k + 1) → Is3 h1 s.heap.objs.size x y u →
      (∀ d o, d ≠ n → d ≠ n + 1 → d ≠ n + 2 → d ≠ n + 4 → d ≠ n + 5 → s.heap.get? d = some o → h1.get? d = some o) → Q (.ref s.heap.objs.size) { s with heap := h1 }) :
    wpAny (model prog w) A (Builtin.«zip.__next__» ⟨[.ref (n + 5)], []⟩) (fun fin s1 => ∃ v, fin = .done (.ret v) ∧ Q v s1) E s := by
  have a5 : a ≠ n + 5 := by omega
  have b5 : b ≠ n + 5 := by omega
  have b4 : b ≠ n + 4 := by omega
  have b0 : b ≠ n := by omega
  have c5 : c ≠ n + 5 := by omega
  have c4 : c ≠ n + 4 := by omega
  have c0 : c ≠ n := by omega
  have c1 : c ≠ n + 1 := by omega
  have n5 : n ≠ n + 5 := by omega
  have n4 : n ≠ n + 4 := by omega
  have n1 : n ≠ n + 1 := by omega
  have n2 : n ≠ n + 2 := by omega
  show wpAny _ _ (field (Value.ref (n + 5)) 2 >>= _) _ _ _
  refine wpAny_bind (wpAny_field hz rfl (x := Value.bool false) rfl ?_)
  show wpAny _ _ (field (Value.ref (n + 5)) 3 >>= _) _ _ _
  refine wpAny_bind (wpAny_field hz rfl (x := Value.ref (n + 3)) rfl ?_)
  refine wpAny_bind (wpAny_seqItems hI rfl ?_)
  show wpAny _ _ (Builtin.SmallTypes.ownedTupleIsFree (Value.ref (n + 5)) >>= _) _ _ _
  refine wpAny_bind ?_
  unfold Builtin.SmallTypes.ownedTupleIsFree
  refine wpAny_bind (wpAny_field hz rfl (x := Value.none) rfl (wpAny_pure ?_))
  simp only [if_true]
  refine wpAny_bind (wpAny_rule ?_)
  refine wpAny_bind (wpAny_field hz rfl (x := Value.ref (n + 4)) rfl ?_)
  refine wpAny_bind (wpAny_setField_rec hz (by simp) fun g1 z1 s1 => ?_)
  replace z1 : IsZip g1 (n + 5) (n + 3) (n + 4) .ellipsis := z1
  refine wpAny_bind ?_
  simp only [List.zipIdx_cons, List.zipIdx_nil, List.forIn_cons, List.forIn_nil]
  have B1 := s1.extBut
  refine wpAny_bind (wpAny_bind (wpAny_onRaise ?_))
  show wpAny _ _ (Builtin.SmallTypes.nextOf (Value.ref n) >>= _) _ _ _
  refine wpAny_bind (draw_t (i1.extBut B1 n5) (t1.extBut B1 a5) e1 fun g2 j1 s2 => wpAny_pure ?_)
  have B2 := s2.extBut
  have o2 : Is3 g2 (n + 4) p q r := B2 _ _ (Ne.symm n4) (B1 _ _ (apt (by decide)) hO)
  refine wpAny_bind (wpAny_seqItems o2 rfl ?_)
  refine wpAny_bind (up3 o2 fun g3 o3 s3 => ?_)
  replace o3 : Is3 g3 (n + 4) x q r := o3
  have B3 := s3.extBut
  refine wpAny_bind (wpAny_letGo (wpAny_pure ?_))
  refine wpAny_bind (wpAny_bind (wpAny_onRaise ?_))
  show wpAny _ _ (Builtin.SmallTypes.nextOf (Value.ref (n + 1)) >>= _) _ _ _
  refine wpAny_bind (wpAny_nextOf_list_item (((i2.extBut B1 (apt (by decide))).extBut B2 (Ne.symm n1)).extBut B3 (apt (by decide))) (((t2.extBut B1 b5).extBut B2 b0).extBut B3 b4) e2 fun g4 j2 s4 => wpAny_pure ?_)
  have B4 := s4.extBut
  have o4 : Is3 g4 (n + 4) x q r := B4 _ _ (apt (by decide)) o3
  refine wpAny_bind (wpAny_seqItems o4 rfl ?_)
  refine wpAny_bind (up3 o4 fun g5 o5 s5 => ?_)
  replace o5 : Is3 g5 (n + 4) x y r := o5
  have B5 := s5.extBut
  refine wpAny_bind (wpAny_letGo (wpAny_pure ?_))
  refine wpAny_bind (wpAny_bind (wpAny_onRaise ?_))
  show wpAny _ _ (Builtin.SmallTypes.nextOf (Value.ref (n + 2)) >>= _) _ _ _
  refine wpAny_bind (draw_t (((((i3.extBut B1 (apt (by decide))).extBut B2 (Ne.symm n2)).extBut B3 (apt (by decide))).extBut B4 (apt (by decide))).extBut B5 (apt (by decide))) (((((t3.extBut B1 c5).extBut B2 c0).extBut B3 c4).extBut B4 c1).extBut B5 c4) e3 fun g6 j3 s6 => wpAny_pure ?_)
  have B6 := s6.extBut
  have o6 : Is3 g6 (n + 4) x y r := B6 _ _ (apt (by decide)) o5
  refine wpAny_bind (wpAny_seqItems o6 rfl ?_)
  refine wpAny_bind (up3 o6 fun g7 o7 s7 => ?_)
  replace o7 : Is3 g7 (n + 4) x y u := o7
  have B7 := s7.extBut
  refine wpAny_bind (wpAny_letGo (wpAny_pure (wpAny_pure ?_)))
  refine wpAny_bind (wpAny_seqItems o7 rfl ?_)
  refine wpAny_bind (wpAny_newTuple ?_)
  have sz : g7.objs.size = s.heap.objs.size := by rw [s7.1, s6.1, s5.1, s4.1, s3.1, s2.1, s1.1]
  have z7 : IsZip g7 (n + 5) (n + 3) (n + 4) .ellipsis := B7 _ _ (apt (by decide)) (B6 _ _ (apt (by decide)) (B5 _ _ (apt (by decide)) (B4 _ _ (apt (by decide)) (B3 _ _ (apt (by decide)) (B2 _ _ (Ne.symm n5) z1)))))
  have k7 : ∀ d o, d ≠ n → d ≠ n + 1 → d ≠ n + 2 → d ≠ n + 4 → d ≠ n + 5 → s.heap.get? d = some o → g7.get? d = some o := fun d o d0 d1 d2 d4 d5 e =>
    B7 _ _ d4 (B6 _ _ d2 (B5 _ _ d4 (B4 _ _ d1 (B3 _ _ d4 (B2 _ _ d0 (B1 _ _ d5 e))))))
  have f1 : g7.IsTupleIter n a (k + 1) := ((((j1.extBut B3 n4).extBut B4 n1).extBut B5 n4).extBut B6 n2).extBut B7 n4
  have f2 : g7.IsListIter (n + 1) b (k + 1) := ((j2.extBut B5 (apt (by decide))).extBut B6 (apt (by decide))).extBut B7 (apt (by decide))
  have f3 : g7.IsTupleIter (n + 2) c (k + 1) := j3.extBut B7 (apt (by decide))
  have lz : n + 5 < g7.objs.size := Heap.lt_size z7
  show wpAny _ _ (Builtin.SmallTypes.ownedTupleHandOut (Value.ref (n + 5)) (Value.ref g7.objs.size) >>= _) _ _ _
  refine wpAny_bind ?_
  unfold Builtin.SmallTypes.ownedTupleHandOut
  have z8 : IsZip (g7.push { cls := .type "tuple", data := .seq #[x, y, u] }) (n + 5) (n + 3) (n + 4) .ellipsis := Heap.get?_push_of_some _ z7
  refine wpAny_bind (wpAny_setField_rec z8 (by simp) fun g8 z9 s8 => ?_)
  replace z9 : IsZip g8 (n + 5) (n + 3) (n + 4) (rawInt g7.objs.size) := z9
  refine wpAny_setField_rec z9 (by simp) fun g9 z10 s9 => ?_
  replace z10 : IsZip g9 (n + 5) (n + 3) (n + 4) (rawInt g7.objs.size) := z10
  have up : ∀ d o, d ≠ n + 5 → g7.get? d = some o → g9.get? d = some o := fun d o ne e => s9.extBut _ _ ne (s8.extBut _ _ ne (Heap.get?_push_of_some _ e))
  have T9 : Is3 g9 g7.objs.size x y u := s9.extBut _ _ (Nat.ne_of_gt lz) (s8.extBut _ _ (Nat.ne_of_gt lz) (Heap.get?_push_size _ rfl))
  rw [sz] at z10 T9
  refine wpAny_pure ⟨_, rfl, ?_⟩
  show Q (.ref g7.objs.size) _
  rw [sz]
  exact k0 g9 z10 (up _ _ (apt (by decide)) o7) (f1.at fun o e => up _ o n5 e) (f2.at fun o e => up _ o (apt (by decide)) e) (f3.at fun o e => up _ o (apt (by decide)) e) T9 fun d o d0 d1 d2 d4 d5 e => up d o d5 (k7 d o d0 d1 d2 d4 d5 e)
theorem z3_end {n a b c k : Nat} {xs : Array Value} {Q : Fin → Shared → Prop} (hA : A.handled = none) (ha : a < n)
    (hz : IsZip s.heap (n + 5) (n + 3) (n + 4) .none) (hI : Is3 s.heap (n + 3) (.ref n) (.ref (n + 1)) (.ref (n + 2)))
    (i1 : s.heap.IsTupleIter n a k) (t1 : s.heap.IsTuple a xs) (e1 : xs[k]? = none)
    (q : ∀ h1 e, (∀ d o, d ≠ n → d ≠ n + 5 → s.heap.get? d = some o → h1.get? d = some o) → (∃ o, h1.get? e = some o ∧ o.cls = .type "StopIteration") → E (.ref e) { s with heap := h1 }) :
    wpAny (model prog w) A (Builtin.«zip.__next__» ⟨[.ref (n + 5)], []⟩) Q E s := by
  have a5 : a ≠ n + 5 := by omega
  have n5 : n ≠ n + 5 := by omega
  show wpAny _ _ (field (Value.ref (n + 5)) 2 >>= _) _ _ _
  refine wpAny_bind (wpAny_field hz rfl (x := Value.bool false) rfl ?_)
  show wpAny _ _ (field (Value.ref (n + 5)) 3 >>= _) _ _ _
  refine wpAny_bind (wpAny_field hz rfl (x := Value.ref (n + 3)) rfl ?_)
  refine wpAny_bind (wpAny_seqItems hI rfl ?_)
  show wpAny _ _ (Builtin.SmallTypes.ownedTupleIsFree (Value.ref (n + 5)) >>= _) _ _ _
  refine wpAny_bind ?_
  unfold Builtin.SmallTypes.ownedTupleIsFree
  refine wpAny_bind (wpAny_field hz rfl (x := Value.none) rfl (wpAny_pure ?_))
  simp only [if_true]
  refine wpAny_bind (wpAny_rule ?_)
  refine wpAny_bind (wpAny_field hz rfl (x := Value.ref (n + 4)) rfl ?_)
  refine wpAny_bind (wpAny_setField_rec hz (by simp) fun g1 z1 s1 => ?_)
  replace z1 : IsZip g1 (n + 5) (n + 3) (n + 4) .ellipsis := z1
  refine wpAny_bind ?_
  simp only [List.zipIdx_cons, List.zipIdx_nil, List.forIn_cons, List.forIn_nil]
  refine wpAny_bind (wpAny_bind (wpAny_onRaise ?_))
  show wpAny _ _ (Builtin.SmallTypes.nextOf (Value.ref n) >>= _) _ _ _
  refine wpAny_bind (end_t hA (i1.extBut s1.extBut n5) (t1.extBut s1.extBut a5) e1 fun g2 e s2 he => ?_)
  obtain ⟨oe, hoe, hce⟩ := he
  have z2 : IsZip g2 (n + 5) (n + 3) (n + 4) .ellipsis := s2 _ _ (Ne.symm n5) z1
  have ne : e ≠ n + 5 := fun x => by subst x; rw [z2] at hoe; cases hoe; simp at hce
  refine wpAny_setField_rec z2 (by simp) fun g3 _ s3 => q g3 e (fun d o d0 d5 x => s3.extBut _ _ d5 (s2 _ _ d0 (s1.extBut _ _ d5 x))) ⟨oe, s3.extBut _ _ ne hoe, hce⟩
theorem nx3 {n a b c k : Nat} {xs ys us : Array Value} {x y u p q r : Value} {Q : Option Value → Shared → Prop} (ha : a < n) (hb : b < n) (hc : c < n)
    (hz : IsZip s.heap (n + 5) (n + 3) (n + 4) .none) (hI : Is3 s.heap (n + 3) (.ref n) (.ref (n + 1)) (.ref (n + 2))) (hO : Is3 s.heap (n + 4) p q r)
    (i1 : s.heap.IsTupleIter n a k) (i2 : s.heap.IsListIter (n + 1) b k) (i3 : s.heap.IsTupleIter (n + 2) c k) (t1 : s.heap.IsTuple a xs) (t2 : s.heap.IsList b ys) (t3 : s.heap.IsTuple c us)
    (e1 : xs[k]? = some x) (e2 : ys[k]? = some y) (e3 : us[k]? = some u)
    (k0 : ∀ h1, IsZip h1 (n + 5) (n + 3) (n + 4) (rawInt s.heap.objs.size) → Is3 h1 (n + 4) x y u → h1.IsTupleIter n a (k + 1) → h1.IsListIter (n + 1) b (k + 1) → h1.IsTupleIter (n + 2) c (k + 1) → Is3 h1 s.heap.objs.size x y u →
      (∀ d o, d ≠ n → d ≠ n + 1 → d ≠ n + 2 → d ≠ n + 4 → d ≠ n + 5 → s.heap.get? d = some o → h1.get? d = some o) → Q (some (.ref s.heap.objs.size)) { s with heap := h1 }) :
    wpAny (model prog w) A (pyNext (.ref (n + 5))) Q E s := by
  have hT : s.TypeIs (.ref (n + 5)) "zip" := ⟨_, hz, rfl⟩
  unfold pyNext
  refine wpAny_bind (wpAny_attempt (wpAny_callSpecial?_slot (name := Str.ofString "__next__") hT F.slot_zip_next (wpAny_call_entry F.slot_zip_next hT F.entry_zip_next ?_ (F.args_zip_next_1 _))))
  exact z3_item ha hb hc hz hI hO i1 i2 i3 t1 t2 t3 e1 e2 e3 fun h1 w1 w2 w3 w4 w5 w6 w7 => wpAny_pure (k0 h1 w1 w2 w3 w4 w5 w6 w7)
theorem end3 {n a k : Nat} {xs : Array Value} {Q : Option Value → Shared → Prop} (hA : A.handled = none) (ha : a < n)
    (hz : IsZip s.heap (n + 5) (n + 3) (n + 4) .none) (hI : Is3 s.heap (n + 3) (.ref n) (.ref (n + 1)) (.ref (n + 2)))
    (i1 : s.heap.IsTupleIter n a k) (t1 : s.heap.IsTuple a xs) (e1 : xs[k]? = none)
    (q : ∀ h1, (∀ d o, d ≠ n → d ≠ n + 5 → s.heap.get? d = some o → h1.get? d = some o) → Q none { s with heap := h1 }) : wpAny (model prog w) A (pyNext (.ref (n + 5))) Q E s := by
  have hT : s.TypeIs (.ref (n + 5)) "zip" := ⟨_, hz, rfl⟩
  unfold pyNext
  refine wpAny_bind (wpAny_attempt (wpAny_callSpecial?_slot (name := Str.ofString "__next__") hT F.slot_zip_next (wpAny_call_entry F.slot_zip_next hT F.entry_zip_next ?_ (F.args_zip_next_1 _))))
  refine z3_end (b := a) (c := a) hA ha hz hI i1 t1 e1 fun h1 e hk he => ?_
  obtain ⟨o, ho, hc⟩ := he
  refine wpAny_bind (wpAny_isInstance (T := "StopIteration") (b := true) ⟨o, ho, hc⟩ isSubtype_stop (wpAny_pure (q _ hk)))
end
abbrev zg2 (h : Heap) (a b : Addr) : Heap := (h.push { cls := .type "tuple_iterator", data := .fields #[.ref a, .int 0 0] }).push { cls := .type "list_iterator", data := .fields #[.ref b, .int 0 0] }
abbrev zg3 (h : Heap) (a b c : Addr) : Heap := (zg2 h a b).push { cls := .type "tuple_iterator", data := .fields #[.ref c, .int 0 0] }
abbrev zg4 (h : Heap) (a b c : Addr) : Heap := (zg3 h a b c).push { cls := .type "tuple", data := .seq #[.ref h.objs.size, .ref (h.push { cls := .type "tuple_iterator", data := .fields #[.ref a, .int 0 0] }).objs.size, .ref (zg2 h a b).objs.size] }
abbrev zg5 (h : Heap) (a b c : Addr) : Heap := (zg4 h a b c).push { cls := .type "tuple", data := .seq #[.none, .none, .none] }
abbrev zg6 (h : Heap) (a b c : Addr) : Heap := (zg5 h a b c).push { cls := .type "zip", data := .fields #[.none, .bool false, .bool false, .ref (zg3 h a b c).objs.size, .ref (zg4 h a b c).objs.size] }
theorem meets_z3 (a b c : Addr) (xs ys us : Array Value) :
    Meets (Builtin.«zip.__new__» ⟨[.type "zip", .ref a, .ref b, .ref c], []⟩) (fun _ R s => s.heap.IsTuple a xs ∧ s.heap.IsList b ys ∧ s.heap.IsTuple c us ∧ R (.ok (.ret (.ref (zg5 s.heap a b c).objs.size))) { s with heap := zg6 s.heap a b c }) :=
  .of_wp fun prog w A R s h => by
    obtain ⟨hp, g, d, tk, os⟩ := s
    obtain ⟨t1, t2, t3, h⟩ := h
    have hsub := sub_zip
    have u1 : Heap.IsTuple (Shared.heap ⟨hp, g, d, tk, os⟩) a xs := t1
    have u2 : Heap.IsList (Shared.heap ⟨hp.push { cls := .type "tuple_iterator", data := .fields #[.ref a, .int 0 0] }, g, d, tk, os⟩) b ys := Heap.IsList.push t2 _
    have u3 : Heap.IsTuple (Shared.heap ⟨(hp.push { cls := .type "tuple_iterator", data := .fields #[.ref a, .int 0 0] }).push { cls := .type "list_iterator", data := .fields #[.ref b, .int 0 0] }, g, d, tk, os⟩) c us := Heap.IsTuple.push (Heap.IsTuple.push t3 _) _
    wp_walk using wpAny_pyIter_tuple u1, wpAny_pyIter_list u2, wpAny_pyIter_tuple u3
    exact ⟨_, rfl, h⟩
theorem typ3 (a b c : Value) : checkTypeCall "zip" ⟨[a, b, c], []⟩ = pure () := by kernel_rfl
theorem new3 (a b c : Value) : checkBuiltinCall "zip.__new__" ⟨[.type "zip", a, b, c], []⟩ = pure () := by kernel_rfl
open F in
theorem arg4 (a b c d : Value) : argsOk "object.__init__" ⟨[a, b, c, d], []⟩ := by
  unfold argsOk; rw [signature?_of (id := "object.__init__") (n := ['_', '_', 't', 'i', 'n', 'i', '_', '_']) (o := ['t', 'c', 'e', 'j', 'b', 'o']) (by kernel_rfl) owner_object]; kernel_rfl
theorem call_z3 {prog : Program} {w : World} {A : Around} {E : Value → Shared → Prop} {s : Shared} {a b c : Addr} {xs ys us : Array Value} {Q : Value → Shared → Prop} (t1 : s.heap.IsTuple a xs) (t2 : s.heap.IsList b ys) (t3 : s.heap.IsTuple c us)
    (h : ∀ h1, IsZip h1 (s.heap.objs.size + 5) (s.heap.objs.size + 3) (s.heap.objs.size + 4) .none → Is3 h1 (s.heap.objs.size + 3) (.ref s.heap.objs.size) (.ref (s.heap.objs.size + 1)) (.ref (s.heap.objs.size + 2)) →
      Is3 h1 (s.heap.objs.size + 4) .none .none .none → h1.IsTupleIter s.heap.objs.size a 0 → h1.IsListIter (s.heap.objs.size + 1) b 0 → h1.IsTupleIter (s.heap.objs.size + 2) c 0 →
      (∀ d o, s.heap.get? d = some o → h1.get? d = some o) → Q (.ref (s.heap.objs.size + 5)) { s with heap := h1 }) :
    wpAny (model prog w) A (call (.type "zip") [.ref a, .ref b, .ref c]) Q E s := by
  refine callType_new F.called_zip (by decide) (typ3 _ _ _) (new3 _ _ _) (fun obj => arg4 obj _ _ _) F.entry_zip_new (meets_z3 a b c xs ys us) ⟨t1, t2, t3, ?_⟩
  have z1 : (s.heap.push { cls := .type "tuple_iterator", data := .fields #[.ref a, .int 0 0] }).objs.size = s.heap.objs.size + 1 := Heap.size_push ..
  have z2 : (zg2 s.heap a b).objs.size = s.heap.objs.size + 2 := by rw [Heap.size_push, z1]
  have z3 : (zg3 s.heap a b c).objs.size = s.heap.objs.size + 3 := by rw [Heap.size_push, z2]
  have z4 : (zg4 s.heap a b c).objs.size = s.heap.objs.size + 4 := by rw [Heap.size_push, z3]
  have z5 : (zg5 s.heap a b c).objs.size = s.heap.objs.size + 5 := by rw [Heap.size_push, z4]
  have g6 : (zg6 s.heap a b c).get? (zg5 s.heap a b c).objs.size = some _ := Heap.get?_push_size _ rfl
  have g5 : (zg6 s.heap a b c).get? (zg4 s.heap a b c).objs.size = some _ := Heap.get?_push_of_some _ (Heap.get?_push_size _ rfl)
  have g4 : (zg6 s.heap a b c).get? (zg3 s.heap a b c).objs.size = some _ := Heap.get?_push_of_some _ (Heap.get?_push_of_some _ (Heap.get?_push_size _ rfl))
  have g3 : (zg6 s.heap a b c).get? (zg2 s.heap a b).objs.size = some _ := Heap.get?_push_of_some _ (Heap.get?_push_of_some _ (Heap.get?_push_of_some _ (Heap.get?_push_size _ rfl)))
  have g2 : (zg6 s.heap a b c).get? (s.heap.push { cls := .type "tuple_iterator", data := .fields #[.ref a, .int 0 0] }).objs.size = some _ := Heap.get?_push_of_some _ (Heap.get?_push_of_some _ (Heap.get?_push_of_some _ (Heap.get?_push_of_some _ (Heap.get?_push_size _ rfl))))
  have g1 : (zg6 s.heap a b c).get? s.heap.objs.size = some _ := Heap.get?_push_of_some _ (Heap.get?_push_of_some _ (Heap.get?_push_of_some _ (Heap.get?_push_of_some _ (Heap.get?_push_of_some _ (Heap.get?_push_size _ rfl)))))
  show _ ∧ _
  rw [z3, z4, z5] at g6
  rw [z4] at g5
  rw [z1, z2, z3] at g4
  rw [z2] at g3
  rw [z1] at g2
  rw [z5]
  exact ⟨⟨_, g6, rfl⟩, h _ g6 g4 g5 ⟨_, g1, rfl, rfl⟩ ⟨_, g2, rfl, rfl⟩ ⟨_, g3, rfl, rfl⟩ fun d o x => Heap.get?_push_of_some _ (Heap.get?_push_of_some _ (Heap.get?_push_of_some _ (Heap.get?_push_of_some _ (Heap.get?_push_of_some _ (Heap.get?_push_of_some _ x)))))⟩
end EN


set_option linter.all false
set_option maxRecDepth 100000
set_option maxHeartbeats 4000000 -- own
namespace L2
open PySem PySem.Spec PyProof.Rows EN
def Iz3 (K : PySem.W.Frag) (a b c : Addr) : It :=
  ⟨fun i H => ∃ xs ys us x y u, SqT K H a xs ∧ SqL K H b ys ∧ SqT K H c us ∧ xs[i]? = some x ∧ ys[i]? = some y ∧ us[i]? = some u,
    fun i H v H' => ∃ T x y u, H T = none ∧ v = .ref T ∧ H' = upd H T (.tup [x, y, u]) ∧ ∀ xs ys us, SqT K H a xs → SqL K H b ys → SqT K H c us → xs[i]? = some x ∧ ys[i]? = some y ∧ us[i]? = some u,
    fun i H => ∃ xs, SqT K H a xs ∧ xs[i]? = none⟩
theorem turn_z3 {P : Program} {w : World} {K : PySem.W.Frag} {elts : List Expr} {k1} {tpos : Pos} (n a b c : Nat) (ha : a < n) (hb : b < n) (hc3 : c < n) : Turn P w K (.Tuple elts k1 tpos) (Iz3 K a b c) [n, n + 1, n + 2, n + 3, n + 4, n + 5] (n + 5)
    (fun i h => IsZip h (n + 5) (n + 3) (n + 4) .none ∧ Is3 h (n + 3) (.ref n) (.ref (n + 1)) (.ref (n + 2)) ∧ (∃ x y z, Is3 h (n + 4) x y z) ∧ h.IsTupleIter n a i ∧ h.IsListIter (n + 1) b i ∧ h.IsTupleIter (n + 2) c i) where
  mem := by simp
  obj := fun i h st d hd => by
    obtain ⟨hz, hI, ⟨x, y, z, hO⟩, ⟨o1, e1, _, d1⟩, ⟨o2, e2, _, d2⟩, ⟨o3, e3, _, d3⟩⟩ := st
    simp only [List.mem_cons, List.not_mem_nil, or_false] at hd
    rcases hd with rfl | rfl | rfl | rfl | rfl | rfl
    · exact ⟨_, e1, fun v q => by rw [d1] at q; cases q⟩
    · exact ⟨_, e2, fun v q => by rw [d2] at q; cases q⟩
    · exact ⟨_, e3, fun v q => by rw [d3] at q; cases q⟩
    · exact ⟨_, hI, fun v q => by cases (show Data.seq _ _ = Data.cell v from q)⟩
    · exact ⟨_, hO, fun v q => by cases (show Data.seq _ _ = Data.cell v from q)⟩
    · exact ⟨_, hz, fun v q => by cases (show Data.fields _ = Data.cell v from q)⟩
  keep := fun i h h' st k => by
    obtain ⟨hz, hI, ⟨x, y, z, hO⟩, i1, i2, i3⟩ := st
    exact ⟨k (n + 5) (by simp) _ hz, k (n + 3) (by simp) _ hI, ⟨x, y, z, k (n + 4) (by simp) _ hO⟩, i1.at fun o e => k n (by simp) o e, i2.at fun o e => k (n + 1) (by simp) o e, i3.at fun o e => k (n + 2) (by simp) o e⟩
  item := by
    intro X hP hw hK hc i pins s σ H E I hf st hg
    subst hP hw hK
    obtain ⟨xs, ys, us, x, y, u, qx, qy, qu, hx, hy, hu⟩ := hg
    obtain ⟨l1, r1, p1, _⟩ := I.tuple qx
    obtain ⟨l2, r2, p2, _⟩ := I.list qy
    obtain ⟨l3, r3, p3, _⟩ := I.tuple qu
    obtain ⟨x', hx', rx⟩ := r1.get hx
    obtain ⟨y', hy', ry⟩ := r2.get hy
    obtain ⟨u', hu', ru⟩ := r3.get hu
    obtain ⟨hz, hI, ⟨x0, y0, z0, hO⟩, i1, i2, i3⟩ := st
    refine nx3 ha hb hc3 hz hI hO i1 i2 i3 (show s.heap.IsTuple a l1.toArray from p1) p2.isList (show s.heap.IsTuple c l3.toArray from p3) (x := x') (y := y') (u := u') (by simpa using hx') (by simpa using hy') (by simpa using hu') fun h' w1 w2 w3 w4 w5 w6 hk => ?_
    refine ⟨_, rfl, wpAny_letOwnedTupleGo_zip (s := { s with heap := h' }) w1 fun g gz sb => ?_⟩
    have sb2 : Heap.SameBut (n + 5) h' g := sb
    have lz : n + 5 < s.heap.objs.size := Heap.lt_size hz
    have T2 : g.get? s.heap.objs.size = some { cls := .type "tuple", data := .seq #[x', y', u'] } := (sb2.2 _ (Nat.ne_of_gt lz)).trans w6
    have kk : ∀ d o, d ∉ [n, n + 1, n + 2, n + 4, n + 5] → s.heap.get? d = some o → g.get? d = some o := fun d o m q => by
      simp only [List.mem_cons, List.not_mem_nil, or_false, not_or] at m
      exact (sb2.2 d m.2.2.2.2).trans (hk d o m.1 m.2.1 m.2.2.1 m.2.2.2.1 m.2.2.2.2 q)
    have hn : H s.heap.objs.size = none := I.hok.fresh (Nat.le_refl _)
    have sub5 : ∀ d, d ∈ [n, n + 1, n + 2, n + 4, n + 5] → d ∈ [n, n + 1, n + 2, n + 3, n + 4, n + 5] := fun d hd => by
      simp only [List.mem_cons, List.not_mem_nil, or_false] at hd ⊢
      rcases hd with e | e | e | e | e <;> simp [e]
    have hf5 : ∀ d ∈ [n, n + 1, n + 2, n + 4, n + 5], FpOk X pins H d := fun d hd => hf d (sub5 d hd)
    have nit : ∀ d v, H d = some v → d ∉ [n, n + 1, n + 2, n + 4, n + 5] := fun d v q m => by rw [(hf5 d m).1] at q; cases q
    have up : ∀ {d o}, d ≠ n + 5 → h'.get? d = some o → g.get? d = some o := fun {d o} m e => (sb2.2 d m).trans e
    refine ⟨.ref s.heap.objs.size, upd H s.heap.objs.size (.tup [x, y, u]), ?_, rfl, ⟨_, x, y, u, hn, rfl, rfl, fun as bs cs q1 q2 q3 => ⟨by rw [I.tuple_inj q1 qx]; exact hx, by rw [I.list_inj q2 qy]; exact hy, by rw [I.tuple_inj q3 qu]; exact hu⟩⟩, ?_, fun d hd => ?_⟩
    · show Inv X pins σ _ { s with heap := g, toks := s.toks }
      refine I.step (h' := g) (g' := s.gens) (d' := s.drawn) (t' := s.toks) (ch := [n, n + 1, n + 2, n + 4, n + 5]) (fun d hd => ?_) (fun d o _ _ m q _ => kk d o m q) (fun d o _ _ m q _ => ⟨o.slots, kk d o m q⟩)
        (fun d o _ q m => by rw [upd_ne (Nat.ne_of_lt (Heap.lt_size q))]; exact m) (fun d o m q => ⟨o, kk d o m q⟩) (fun d ys q => by rw [upd_ne (ne_of_none q hn)]; exact q) (fun d o v q => by rw [upd_ne (ne_of_none q hn)]; exact q)
        (fun d ps q => ⟨#[], by rw [upd_ne (ne_of_none q hn), q]; simp⟩) (fun m hm => ?_) (fun d v q => ?_) I.bare
      · have f := hf5 d hd
        exact ⟨f.2.2.2.1, f.2.1, f.2.2.2.2.1, f.2.2.2.2.2⟩
      · obtain ⟨o, es, ep, q, r⟩ := hm
        exact ⟨o, es, ep, kk _ o (fun m => (hf5 _ m).2.1 rfl) q, r⟩
      · by_cases hd : d = s.heap.objs.size
        · subst hd
          rw [upd_same] at q; cases q
          exact ⟨by show 3 ≤ sizeLine; rw [sizeLine_eq]; omega, [x', y', u'], .cons rx (.cons ry (.cons ru .nil)), ⟨_, T2, rfl, _, rfl⟩⟩
        · rw [upd_ne hd] at q
          refine (I.hok d v q).stay (fun e z he q2 => ?_) (fun e q2 => by rw [upd_ne (ne_of_none q2 hn)]; exact q2) fun e ys q2 => by rw [upd_ne (ne_of_none q2 hn)]; exact q2
          have m : e ∉ [n, n + 1, n + 2, n + 4, n + 5] := by
            rcases he with z | z
            · rw [z]; exact nit d v q
            · exact nit e _ z
          exact kk e z m q2
    · refine ⟨gz, ?_, ⟨_, _, _, up (apt (by decide)) w2⟩, w3.at fun o e => up (Nat.ne_of_lt (Nat.lt_add_of_pos_right (by decide))) e, w4.at fun o e => up (apt (by decide)) e, w5.at fun o e => up (apt (by decide)) e⟩
      exact kk _ _ (by simp) hI
    · have d2 : d < s.heap.objs.size := by
        have lz' : d ≤ n + 5 := by
          simp only [List.mem_cons, List.not_mem_nil, or_false] at hd
          rcases hd with e | e | e | e | e | e <;> rw [e]
          · exact Nat.le_add_right n 5
          all_goals exact Nat.add_le_add_left (by decide) n
        exact Nat.lt_of_le_of_lt lz' lz
      rw [upd_ne (Nat.ne_of_lt d2)]
      exact (hf d hd).1
  done := by
    intro X hP hw hK hc i pins s σ H E I hf st hg
    subst hP hw hK
    obtain ⟨xs, qx, hend⟩ := hg
    obtain ⟨l1, r1, p1, _⟩ := I.tuple qx
    obtain ⟨hz, hI, _, i1, _, _⟩ := st
    refine end3 (I.ok.hd hc) ha hz hI i1 (show s.heap.IsTuple a l1.toArray from p1) (by simpa using vals_none r1 hend) fun h' hk => ⟨rfl, I.turnedN (t' := s.toks) (ch := [n, n + 5]) (fun d o m q => ?_) fun d hd => hf d ?_⟩
    · simp only [List.mem_cons, List.not_mem_nil, or_false, not_or] at m
      exact hk d o m.1 m.2 q
    · simp only [List.mem_cons, List.not_mem_nil, or_false] at hd ⊢
      rcases hd with e | e <;> simp [e]
  self := fun _ _ _ _ _ st h => wpAny_pyIter_zip st.1 h
section
variable {X : Cx}
def iZ3 (K : PySem.W.Frag) (ta : TA) : TI := fun σ H R => ta σ H fun vs H1 => ∃ a b c, vs = [.ref a, .ref b, .ref c] ∧ (∃ xs, SqT K H1 a xs) ∧ (∃ ys, SqL K H1 b ys) ∧ (∃ us, SqT K H1 c us) ∧ R (Iz3 K a b c) H1
theorem pi_z3 {elts : List Expr} {k1} {tpos : Pos} {c d e : Expr} {ta : TA} {p pos : Pos} (hg : Gl X "zip") (hm : X.mg "zip" = none) (ha : PA X [c, d, e] ta)
    (hs : starEach [c, d, e] X.env = [(false, eval c X.env), (false, eval d X.env), (false, eval e X.env)] := by rfl) (hs2 : starEach [d, e] X.env = [(false, eval d X.env), (false, eval e X.env)] := by rfl) :
    PI X (.Tuple elts k1 tpos) (.Call (.Name "zip" p) [c, d, e] [] pos) (iZ3 X.K ta) := by
  intro pins s σ H R I h
  refine Call_ (ld_blt I hg hm PyProof.Rows.boot_zip (PyProof.Rows.callWith_type1 (thn (ha pos pins s σ H _ I h) fun us s1 ⟨vs, H1, I1, r1, q1⟩ => ?_) (by rw [hs, hs2]) (by rw [hs2]; rfl)))
  obtain ⟨a, b, c, e, ⟨xs, qx⟩, ⟨ys, qy⟩, ⟨us, qu⟩, q⟩ := q1
  subst e
  cases r1 with
  | cons r rr =>
    cases rr with
    | cons r' rr =>
      cases rr with
      | cons r'' rr =>
        cases rr
        cases r
        cases r'
        cases r''
        obtain ⟨l1, _, p1, _⟩ := I1.tuple qx
        obtain ⟨l2, _, p2, _⟩ := I1.list qy
        obtain ⟨l3, _, p3, _⟩ := I1.tuple qu
        have p1' : s1.heap.IsTuple a l1.toArray := p1
        have p3' : s1.heap.IsTuple c l3.toArray := p3
        obtain ⟨_, ea, _⟩ := id p1'
        obtain ⟨_, eb, _⟩ := id p2.isList
        obtain ⟨_, ec, _⟩ := id p3'
        refine call_z3 p1' p2.isList p3' fun h1 hz hI hO i1 i2 i3 kk => wpAny_pyIter_zip hz ?_
        refine ⟨_, _, _, _, H1, rfl, I1.kept (t' := s1.toks) kk, turn_z3 _ a b c (Heap.lt_size ea) (Heap.lt_size eb) (Heap.lt_size ec), ⟨hz, hI, ⟨_, _, _, hO⟩, i1, i2, i3⟩, fun f hf => ?_, q⟩
        have hb2 : s1.heap.objs.size ≤ f := by
          simp only [List.mem_cons, List.not_mem_nil, or_false] at hf
          rcases hf with e | e | e | e | e | e <;> rw [e]
          · exact Nat.le_refl _
          all_goals exact Nat.le_add_right _ _
        exact I1.fpOk hb2 (I1.hok.fresh hb2)
end
end L2
namespace U
open PySem PySem.Spec PyProof.Rows L2
variable {B : Bs} {X : Cx} {pos : Pos}
def zipT (l m r : List PV) : List PV := (List.range l.length).map fun i => .tup [l.getD i .non, m.getD i .non, r.getD i .non]
def zip3 (vs : List PV) (H1 : PHp) (R : It' → PHp → Prop) : Prop := match vs with
  | [.tup l, .ref b, .tup r] => ∃ m, H1 b = some (.lst m) ∧ m.length = l.length ∧ r.length = l.length ∧ R ⟨zipT l m r, fun H => H b = some (.lst m)⟩ H1
  | _ => False
theorem w_z3 {l r : List PV} {b : Addr} {H : PHp} {R : It' → PHp → Prop} : zip3 [.tup l, .ref b, .tup r] H R = ∃ m, H b = some (.lst m) ∧ m.length = l.length ∧ r.length = l.length ∧ R ⟨zipT l m r, fun H => H b = some (.lst m)⟩ H := rfl
def uZ3 (t : TA') : TI' := fun σ H R => t σ H fun vs H1 => zip3 vs H1 R
theorem getD_at {l : List PV} {i : Nat} (h : i < l.length) : l[i]? = some (l.getD i .non) := by
  rw [List.getD_eq_getElem?_getD, List.getElem?_eq_getElem h]; rfl
theorem qi_z3 {elts : List Expr} {k1} {tpos : Pos} {c d e : Expr} {t : TA'} {p : Pos} (hg : Gl X "zip") (hm : X.mg "zip" = none) (ha : PA' X B [c, d, e] t)
    (hs : starEach [c, d, e] X.env = [(false, eval c X.env), (false, eval d X.env), (false, eval e X.env)] := by rfl) (hs2 : starEach [d, e] X.env = [(false, eval d X.env), (false, eval e X.env)] := by rfl) :
    PIH X B (.Tuple elts k1 tpos) (.Call (.Name "zip" p) [c, d, e] [] pos) (uZ3 t) := pi_imp (pi_z3 hg hm ha hs hs2) fun σ H R ⟨σ', H', R', s, h, k⟩ => by
  refine ⟨σ', H', _, s, h, fun vs' H1' vs H1 h1 r1 s1 e1 => ?_⟩
  unfold zip3 at h1
  split at h1
  · rename_i l b r
    simp only [RPs, RP] at r1
    obtain ⟨v1, r1, rfl, ⟨a, us, rfl, q1, rl⟩, v2, r2, rfl, rfl, v3, r3, rfl, ⟨c, ws, rfl, q3, rr⟩, rfl⟩ := r1
    obtain ⟨m, hb, lm, lr, h1⟩ := h1
    obtain ⟨ms, q2, _⟩ := s1.hp _ _ hb
    have zl : (zipT l m r).length = l.length := by unfold zipT; rw [List.length_map, List.length_range]
    have lk : ∀ H2' H2, HR X.K H2' H2 → H2' b = some (.lst m) → ∃ ms, SqL X.K H2 b ms ∧ RPs X.K H2 m ms := fun H2' H2 hr o => by
      obtain ⟨ms, a1, a2⟩ := hr _ _ o
      exact ⟨ms, SqL.of a1, a2⟩
    refine ⟨a, b, c, rfl, ⟨us, q1⟩, ⟨ms, SqL.of q2⟩, ⟨ws, q3⟩, k _ H1' _ H1 h1 ⟨fun H2' H2 i k2 hr o hi => ?_, fun H2' H2 i x H3 k2 hr o y => ?_, fun H2' H2 k2 hr o => ?_⟩ s1 e1⟩
    · have hi : i < l.length := by rw [← zl]; exact hi
      obtain ⟨ms, c2, d2⟩ := lk _ _ hr o
      obtain ⟨u, f1, _⟩ := RPs.get _ rl (getD_at hi)
      obtain ⟨v, f2, _⟩ := RPs.get _ d2 (getD_at (l := m) (i := i) (by omega))
      obtain ⟨z, f3, _⟩ := RPs.get _ rr (getD_at (l := r) (i := i) (by omega))
      exact ⟨us, ms, ws, u, v, z, k2.sqT q1, c2, k2.sqT q3, f1, f2, f3⟩
    · obtain ⟨T, u, v, z, hT, rfl, rfl, hy⟩ := y
      obtain ⟨ms, c2, d2⟩ := lk _ _ hr o
      refine ⟨hr.hid hT, Ev.hid hT, fun x' hx => ?_⟩
      have hi : i < l.length := by rw [← zl]; exact (List.getElem?_eq_some_iff.mp hx).1
      have ex : x' = .tup [l.getD i .non, m.getD i .non, r.getD i .non] := by
        have hx : (zipT l m r)[i]? = some x' := hx
        unfold zipT at hx
        rw [List.getElem?_map, List.getElem?_range hi] at hx
        exact (Option.some.inj hx).symm
      subst ex
      obtain ⟨u', f1, g1⟩ := RPs.get _ (RPs.kp _ k2 rl) (getD_at hi)
      obtain ⟨v', f2, g2⟩ := RPs.get _ d2 (getD_at (l := m) (i := i) (by omega))
      obtain ⟨z', f3, g3⟩ := RPs.get _ (RPs.kp _ k2 rr) (getD_at (l := r) (i := i) (by omega))
      obtain ⟨y1, y2, y3⟩ := hy us ms ws (k2.sqT q1) c2 (k2.sqT q3)
      rw [f1] at y1; cases y1
      rw [f2] at y2; cases y2
      rw [f3] at y3; cases y3
      exact newT hT (RPs.cons _ g1 (RPs.cons _ g2 (RPs.cons _ g3 (RPs.nil _))))
    · refine ⟨us, k2.sqT q1, ?_⟩
      show us[(zipT l m r).length]? = none
      rw [zl, List.getElem?_eq_none_iff, RPs.length _ rl]
      exact Nat.le_refl _
  · exact h1.elim
end U


set_option Elab.async false
set_option linter.all false
set_option maxRecDepth 100000
namespace L2
open PySem PySem.Spec PyProof.Rows

section
variable {κ : Type} [DecidableEq κ]
end


section
variable {P : Program} {w : World} {H : Hp} {h : Heap} {a : Addr}
end

section
variable {X : Cx} {pins : List (Addr × Obj)} {σ : St} {H : Hp} {s : Shared} {a : Addr} {y v : V} {u r : Value} {o : Option V} {A : Around} {E : Value → Shared → Prop}

theorem Inv.big (I : Inv X pins σ H s) : sysModules < s.heap.objs.size := by
  have h : mainGlobals < s.heap.objs.size := (I.mod.glob.keeps I.bk).lt
  exact Nat.lt_trans (by decide) h

end

section
variable {X : Cx} {pins : List (Addr × Obj)} {σ : St} {H : Hp} {s : Shared} {a : Addr} {kvs : List (Key × V)} {k : Key} {u : Value} {A : Around} {E : Value → Shared → Prop}
end


section
variable {X : Cx} {o i e value : Expr} {pos pos' tpos : Pos} {td ty tv : TE}
end


theorem dk_empty {P : Program} {w : World} {H : Hp} (h : Heap) (hb : sysModules < h.objs.size) : ObjOk P w H (h.push { cls := .type "dict", data := .dict #[] }) h.objs.size (.dK []) :=
  ⟨Nat.zero_le _, beq_eq_false_iff_ne.mpr (Ne.symm (Nat.ne_of_lt hb)), [], .nil, Heap.DictOf.new h⟩
def tDNewK : TE := fun _ H Q => ∀ p, H p = none → Q (.ref p) (upd H p (.dK []))
section
variable {X : Cx} {pos : Pos}
theorem pe_dnewK : PE X (.Dict [] [] pos) tDNewK := fun pins s σ H Q I h =>
  wpAny_Dict_empty ⟨.ref s.heap.objs.size, _, I.laid (a := s.heap.objs.size) (o := .dK []) (t' := s.toks) (fun _ _ q => Heap.get?_push_of_some _ q) (Nat.le_refl _) (dk_empty s.heap I.big), rfl, h _ (I.hok.fresh (Nat.le_refl _))⟩
end

end L2


set_option linter.all false
set_option maxRecDepth 100000
set_option maxHeartbeats 4000000
namespace SI
open PySem PyProof.Rows
section
variable {prog : Program} {w : World} {A : Around} {E : Value → Shared → Prop} {s : Shared} {T : String} {r d : Addr} {n : Nat} {P : Nat → Value → Prop} {OK : Heap → Prop}
end
end SI


set_option linter.all false
set_option maxRecDepth 100000
set_option maxHeartbeats 4000000
namespace L2
open PySem PySem.Spec PyProof.Rows
variable {X : Cx}
end L2
namespace U
open PySem PySem.Spec PyProof.Rows L2
variable {B : Bs} {X : Cx} {a b o i value : Expr} {ta tb td ty : TE'} {pos pos' : Pos}
end U
namespace U
open PySem PySem.Spec PyProof.Rows L2
end U


set_option linter.all false
set_option maxRecDepth 100000
set_option maxHeartbeats 4000000
namespace L2
open PySem PySem.Spec PyProof.Rows
variable {X : Cx}
end L2
namespace U
open PySem PySem.Spec PyProof.Rows L2
variable {B : Bs} {X : Cx} {a b e : Expr} {ta tb : TE'} {p p2 pos pos2 : Pos}
def uShl : R2' := uI CPow fun i j => .int (i * 2 ^ j.toNat)
theorem qe_shl (ha : PE' X B a ta) (hb : PE' X B b tb) : PE' X B (.BinOp a .LShift b pos) (uOp uShl ta tb) := qe_op op_shl (vr_I fun _ _ _ => by simp [RP]) ha hb
end U


set_option linter.all false
set_option maxRecDepth 100000
set_option maxHeartbeats 4000000 -- own
namespace NM
open PySem
open Sem (wp)
variable {prog : Program} {w : World} {A : Around} {E : Value → Shared → Prop} {s : Shared}
def b2 (b : Bool) : Int := if b then 1 else 0
end NM


set_option linter.all false
set_option maxRecDepth 100000
set_option maxHeartbeats 4000000 -- own
namespace L2
open PySem PySem.Spec PyProof.Rows
variable {X : Cx}
end L2
namespace U
open PySem PySem.Spec PyProof.Rows L2
variable {B : Bs} {X : Cx} {pos : Pos}
def uDNewK : TE' := fun _ H Q => ∀ p, H p = none → Q (.ref p) (put H p (.dK []))
theorem qe_dnewK : PE' X B (.Dict [] [] pos) uDNewK := pe_imp pe_dnewK fun σ H Q ⟨σ', H', Q', s, h, k⟩ p hp => by
  have hp' := s.hp.free hp
  refine k _ _ _ _ (h p hp') (by simp [RP]) (s.new hp ⟨[], upd_same, .nil⟩) (Ev.new hp)
end U



set_option linter.all false
set_option maxRecDepth 100000
set_option maxHeartbeats 4000000 -- own
namespace L2
open PySem PySem.Spec PyProof.Rows
variable {X : Cx}
end L2
namespace U
open PySem PySem.Spec PyProof.Rows L2
variable {B : Bs} {X : Cx} {a b o e : Expr} {es : List Expr} {ta tb to : TE'} {t : TA'} {pos apos cpos : Pos} {name : Str}
def uIxS : R2' := fun x y H Q => match x, y with
  | .str z, .int i => z.length ≤ sizeLine ∧ ∃ c, atI z.cps.toList i = some c ∧ Q (.str ⟨#[c]⟩) H
  | _, _ => False
def uJoin : PV → List PV → PHp → VK' → Prop := fun x vs H Q => match x, vs with
  | .str z, [.ref a] => ∃ ys : List Str, H a = some (.lst (ys.map PV.str)) ∧ z.length ≤ 16 ∧ (ys.map (·.length)).sum + ys.length ≤ 1048576 ∧ Q (.str (Txt.join z ys)) H
  | _, _ => False
def setA (o i v : PV) (H : PHp) (Q : PHp → Prop) : Prop := match o, i with
  | .ref a, .int k => ∃ l j, H a = some (.lst l) ∧ ixN l.length k = some j ∧ Q (put H a (.lst (l.set j v)))
  | _, _ => False
theorem w_sI {a : Addr} {k : Int} {v : PV} {H : PHp} {Q : PHp → Prop} : setA (.ref a) (.int k) v H Q = ∃ l j, H a = some (.lst l) ∧ ixN l.length k = some j ∧ Q (put H a (.lst (l.set j v))) := rfl
def vSub (to ti : TE') : TG' := fun v σ H Q => to σ H fun o H1 => ti σ H1 fun i H2 => setA o i v H2 fun H3 => Q σ H3
theorem qg_sub {i : Expr} {ti : TE'} (ho : PE' X B o to) (hi : PE' X B i ti) (ha : ∀ v, assign (.Subscript o i pos) X.env v = (do
      let ov ← holding [v] (eval o X.env)
      let iv ← holding [v, ov] (eval i X.env)
      standAt pos
      holding [v, ov, iv] (setItem ov iv v)
      release [v, ov, iv] []) := by intro _; rfl) : PG' X B (.Subscript o i pos) (vSub to ti) := pg_imp (pg_sub ho hi set_list ha) fun v σ H Q h => by
  obtain ⟨v', σ', H', Q', rv, s, h, k⟩ := h
  refine ⟨σ', H', _, s, h, fun o' H1' o H1 h1 ro s1 e1 => ⟨σ', H1', _, s1, h1, fun i' H2' i H2 h2 ri s2 e2 => ?_⟩⟩
  unfold setA at h2
  split at h2
  · rename_i a n
    obtain ⟨l, j, ea, ej, q⟩ := h2
    have ro2 := RP.kp X.K (e2.kp s1.hp) ro
    have rv2 := RP.kp X.K ((e1.trans e2).kp s.hp) rv
    simp only [RP] at ro2 ri
    obtain ⟨us, eg, r⟩ := s2.hp _ _ ea
    have new : OAt X.K (upd H2 a (.lst (us.set j v))) a (.lst (l.set j v')) := ⟨_, upd_same, RPs.kp X.K (s2.hp.kpw ea) (RPs.set X.K rv2 j r)⟩
    exact ⟨a, us, n, j, ro2, ri, eg, by rw [RPs.length _ r]; exact ej, k _ _ _ _ q (s2.wr ea new) ((e1.trans e2).trans (Ev.wr ea))⟩
  · exact h2.elim
end U


set_option linter.all false
namespace DM
abbrev P2 := Int × Int
def pk (p : P2) : Int := 6 * p.1 + p.2
structure Good (c : Int) (l : List P2) : Prop where
  nd : l.Nodup
  lo : ∀ p ∈ l, 0 ≤ p.1 ∧ p.1 < p.2 ∧ p.2 < c
theorem sorted_eq {α : Type} (k : α → Int) : ∀ {a b : List α}, a.Pairwise (fun x y => k x < k y) → b.Pairwise (fun x y => k x < k y) → (∀ x, x ∈ a ↔ x ∈ b) → a = b
  | [], [], _, _, _ => rfl
  | [], y :: b, _, _, h => by have := (h y).mpr List.mem_cons_self; simp at this
  | x :: a, [], _, _, h => by have := (h x).mp List.mem_cons_self; simp at this
  | x :: a, y :: b, ha, hb, h => by
    obtain ⟨h1, h2⟩ := List.pairwise_cons.mp ha
    obtain ⟨g1, g2⟩ := List.pairwise_cons.mp hb
    have e : x = y := by
      rcases List.mem_cons.mp ((h x).mp List.mem_cons_self) with e | m
      · exact e
      · rcases List.mem_cons.mp ((h y).mpr List.mem_cons_self) with e | m'
        · exact e.symm
        · have a1 := g1 x m
          have a2 := h1 y m'
          omega
    subst e
    congr 1
    refine sorted_eq k h2 g2 fun z => ⟨fun m => ?_, fun m => ?_⟩
    · rcases List.mem_cons.mp ((h z).mp (List.mem_cons_of_mem _ m)) with e | m'
      · subst e; have := h1 z m; omega
      · exact m'
    · rcases List.mem_cons.mp ((h z).mpr (List.mem_cons_of_mem _ m)) with e | m'
      · subst e; have := g1 z m; omega
      · exact m'
theorem perm_eq {a b l : List P2} (ha : a.Perm l) (sa : a.Pairwise (fun x y => pk x < pk y)) (hb : b.Perm l) (sb : b.Pairwise (fun x y => pk x < pk y)) : a = b :=
  sorted_eq pk sa sb fun x => ha.mem_iff.trans hb.mem_iff.symm
theorem Good.perm {c : Int} {l m : List P2} (g : Good c l) (h : m.Perm l) : Good c m := ⟨h.nodup_iff.mpr g.nd, fun p hp => g.lo p (h.mem_iff.mp hp)⟩
theorem Good.prs {c : Int} {l : List P2} (g : Good c l) (hc : c ≤ 6) : ∀ p ∈ l, p ∈ SP.prs := fun p hp => by
  have := g.lo p hp
  exact SP.mem_prs (u := p.1) (v := p.2) this.1 this.2.1 (by omega)
theorem nodup_le {α : Type} [BEq α] [LawfulBEq α] {l m : List α} (nd : l.Nodup) (h : ∀ x ∈ l, x ∈ m) : l.length ≤ m.length := by
  induction l generalizing m with
  | nil => simp
  | cons x l ih =>
    obtain ⟨h1, h2⟩ := List.nodup_cons.mp nd
    have hx := h x List.mem_cons_self
    have := ih (m := m.erase x) h2 fun y hy => (List.mem_erase_of_ne (by rintro rfl; exact h1 hy)).mpr (h y (List.mem_cons_of_mem _ hy))
    have e := List.length_erase_of_mem hx
    have : 0 < m.length := List.length_pos_of_mem hx
    simp only [List.length_cons]
    omega
theorem Good.len {c : Int} {l : List P2} (g : Good c l) (hc : c ≤ 6) : l.length ≤ 15 := nodup_le g.nd (g.prs hc)
theorem src_eq {c n : Int} (hc : c ≤ 6) {l : List P2} (g : Good c l) (s : l.Pairwise (fun x y => pk x < pk y)) (hn : n < c) :
    (l.filter (fun p => decide (p.2 = n))).map (·.1) = ((List.range n.toNat).map fun k => ((k : Nat) : Int)).filter (fun u => decide ((u, n) ∈ l)) := by
  refine sorted_eq id ?_ ?_ fun x => ?_
  · rw [List.pairwise_map]
    refine List.Pairwise.imp_of_mem (fun {a b} ha hb h => ?_) (s.filter _)
    have h1 := List.mem_filter.mp ha
    have h2 := List.mem_filter.mp hb
    have e1 : a.2 = n := by simpa using h1.2
    have e2 : b.2 = n := by simpa using h2.2
    unfold pk at h
    show a.1 < b.1
    omega
  · refine List.Pairwise.filter _ ?_
    rw [List.pairwise_map]
    refine List.Pairwise.imp (fun h => ?_) List.pairwise_lt_range
    simp only [id]
    omega
  · simp only [List.mem_map, List.mem_filter, decide_eq_true_eq, List.mem_range]
    constructor
    · rintro ⟨p, ⟨hp, e⟩, rfl⟩
      have := g.lo p hp
      refine ⟨⟨p.1.toNat, by omega, by omega⟩, ?_⟩
      rw [← e]; exact hp
    · rintro ⟨⟨k, hk, rfl⟩, hm⟩
      exact ⟨_, ⟨hm, rfl⟩, rfl⟩
def tri : Nat → Nat
  | 0 => 0
  | n + 1 => tri n + n
theorem tri_le : ∀ v, v < 6 → tri v + v ≤ 15 := by decide
end DM


namespace My
def gd (a b : Int) : Int := (Int.gcd a b : Nat)
theorem gd_zero (a : Int) : gd a 0 = if a < 0 then -a else a := by
  unfold gd; rw [Int.gcd_zero_right]; split <;> omega
theorem gd_abs (a b : Int) : gd (if a < 0 then -a else a) (if b < 0 then -b else b) = gd a b := by
  unfold gd
  have h : ∀ x : Int, (if x < 0 then -x else x) = (x.natAbs : Int) := fun x => by split <;> omega
  rw [h, h]
  simp [Int.gcd]
theorem gd_turn (a b : Int) : gd b (Int.fmod a b) = gd a b := by
  unfold gd
  congr 1
  apply Nat.dvd_antisymm
  · apply Int.dvd_gcd
    · have h1 := Int.gcd_dvd_left b (a.fmod b)
      have h2 := Int.gcd_dvd_right b (a.fmod b)
      have e : a = b * a.fdiv b + a.fmod b := by rw [Int.fmod_def]; omega
      have h3 : ((b.gcd (a.fmod b) : Nat) : Int) ∣ b * a.fdiv b + a.fmod b := Int.dvd_add (Int.dvd_mul_of_dvd_left h1) h2
      rw [← e] at h3
      exact h3
    · exact Int.gcd_dvd_left b (a.fmod b)
  · apply Int.dvd_gcd
    · exact Int.gcd_dvd_right a b
    · have h1 := Int.gcd_dvd_left a b
      have h2 := Int.gcd_dvd_right a b
      rw [Int.fmod_def]
      exact Int.dvd_sub h1 (Int.dvd_mul_of_dvd_left h2)
theorem gd_pos (a b : Int) (h : b ≠ 0) : 0 < gd a b := by
  unfold gd
  have : 0 < a.gcd b := Int.gcd_pos_iff.mpr (Or.inr h)
  omega
theorem gd_dvd_l (a b : Int) : gd a b ∣ a := Int.gcd_dvd_left a b
theorem gd_dvd_r (a b : Int) : gd a b ∣ b := Int.gcd_dvd_right a b
theorem gd_le (a b : Int) (h : b ≠ 0) : gd a b ≤ if b < 0 then -b else b := by
  have d := gd_dvd_r a b
  have : gd a b ∣ (if b < 0 then -b else b) := by
    split
    · exact Int.dvd_neg.mpr d
    · exact d
  exact Int.le_of_dvd (by split <;> omega) this
theorem gd_low (a b : Int) (h : b ≠ 0) {x y : Int} (ex : a = gd a b * x) (ey : b = gd a b * y) : gd x y = 1 := by
  have hp := gd_pos a b h
  have hd : gd a b * gd x y ∣ gd a b := by
    have h1 : gd a b * gd x y ∣ a := by
      conv => rhs; rw [ex]
      exact Int.mul_dvd_mul_left _ (gd_dvd_l x y)
    have h2 : gd a b * gd x y ∣ b := by
      conv => rhs; rw [ey]
      exact Int.mul_dvd_mul_left _ (gd_dvd_r x y)
    have h3 := Int.dvd_coe_gcd h1 h2
    exact h3
  obtain ⟨k, hk⟩ := hd
  have e1 : gd a b * (gd x y * k) = gd a b * 1 := by rw [← Int.mul_assoc, ← hk, Int.mul_one]
  have e2 : gd x y * k = 1 := Int.eq_of_mul_eq_mul_left (by omega) e1
  have hn : 0 ≤ gd x y := Int.natCast_nonneg _
  have : gd x y ∣ 1 := ⟨k, e2.symm⟩
  exact Int.eq_one_of_dvd_one hn this
theorem v_turn {a b c d : Int} (h : gd a b = gd c d) (p : 0 ≤ b) (z : b ≠ 0) : 0 ≤ b ∧ 0 ≤ Int.fmod a b ∧ gd b (Int.fmod a b) = gd c d :=
  ⟨p, Int.fmod_nonneg_of_pos a (by omega), (gd_turn a b).trans h⟩
theorem gd_fact (a b : Int) : 0 < b → 0 < gd a b ∧ gd a b ≤ b := fun h => by
  have := gd_le a b (by omega)
  rw [if_neg (by omega)] at this
  exact ⟨gd_pos a b (by omega), this⟩
theorem gd_neg (a b : Int) : gd (-a) (-b) = gd a b := by
  unfold gd; simp [Int.gcd]
structure Low (a b x y : Int) : Prop where
  ex : ∃ g, a = g * x ∧ b = g * y
  one : gd x y = 1
theorem low_of {a b x y g : Int} (hb : b ≠ 0) (hg : g = gd a b ∨ g = -gd a b) (ex : a = g * x) (ey : b = g * y) : Low a b x y := by
  refine ⟨⟨g, ex, ey⟩, ?_⟩
  rcases hg with rfl | rfl
  · exact gd_low a b hb ex ey
  · have h := gd_low (-a) (-b) (by omega) (x := x) (y := y)
    rw [gd_neg] at h
    refine h ?_ ?_
    · conv => lhs; rw [ex]
      rw [Int.neg_mul, Int.neg_neg]
    · conv => lhs; rw [ey]
      rw [Int.neg_mul, Int.neg_neg]
theorem Low.cross {a b x y : Int} (h : Low a b x y) : x * b = a * y := by
  obtain ⟨g, e1, e2⟩ := h.ex
  rw [e1, e2, ← Int.mul_assoc, Int.mul_comm x g]
theorem div_ex {a g : Int} (hg : g ≠ 0) (d : g ∣ a) : a = g * Int.fdiv a g := by
  rw [Int.fdiv_eq_ediv_of_dvd d]
  exact (Int.mul_ediv_cancel' d).symm
theorem div_pos {b g : Int} (hb : b ≠ 0) (hg : g ≠ 0) (d : g ∣ b) (s : (0 < b ∧ 0 < g) ∨ (b < 0 ∧ g < 0)) : 0 < Int.fdiv b g := by
  have e := div_ex hg d
  generalize Int.fdiv b g = q at e
  rcases (show q ≤ 0 ∨ 0 < q by omega) with h | h
  · rcases s with ⟨s1, s2⟩ | ⟨s1, s2⟩
    · have := Int.mul_nonpos_of_nonneg_of_nonpos (Int.le_of_lt s2) h; omega
    · have := Int.mul_nonneg_of_nonpos_of_nonpos (Int.le_of_lt s2) h; omega
  · exact h
theorem frac_ok {a b g : Int} (hb : b ≠ 0) (hg : (0 < b ∧ g = gd a b) ∨ (b < 0 ∧ g = -gd a b)) : Low a b (Int.fdiv a g) (Int.fdiv b g) ∧ 0 < Int.fdiv b g := by
  have hp := gd_pos a b hb
  have hgn : g ≠ 0 := by omega
  have d1 : g ∣ a := by
    rcases hg with ⟨_, rfl⟩ | ⟨_, rfl⟩
    · exact gd_dvd_l a b
    · exact Int.neg_dvd.mpr (gd_dvd_l a b)
  have d2 : g ∣ b := by
    rcases hg with ⟨_, rfl⟩ | ⟨_, rfl⟩
    · exact gd_dvd_r a b
    · exact Int.neg_dvd.mpr (gd_dvd_r a b)
  refine ⟨low_of hb (by omega) (div_ex hgn d1) (div_ex hgn d2), div_pos hb hgn d2 (by omega)⟩
end My


set_option linter.all false
namespace My
open U
theorem fmod_abs (a b : Int) (h : b ≠ 0) : (a.fmod b).natAbs < b.natAbs := by
  rcases (show 0 < b ∨ b < 0 by omega) with hb | hb
  · have h1 := Int.fmod_nonneg_of_pos a hb
    have h2 := Int.fmod_lt_of_pos a hb
    omega
  · have e : a.fmod b = -((-a).fmod (-b)) := by rw [Int.neg_fmod_neg]; omega
    have h1 := Int.fmod_nonneg_of_pos (-a) (show 0 < -b by omega)
    have h2 := Int.fmod_lt_of_pos (-a) (show 0 < -b by omega)
    omega
def BN (n : Nat) (i : Int) : Prop := i.natAbs < 2 ^ n
theorem BN.fit {n : Nat} {i : Int} (h : BN n i) (hn : n ≤ 9000) : Fit i := by
  unfold Fit
  unfold BN at h
  rcases Nat.eq_zero_or_pos i.natAbs with h0 | hp
  · rw [h0, Nat.log2_zero]; omega
  · have := (Nat.log2_lt (Nat.ne_of_gt hp)).mpr h
    omega
theorem BN.of_le {n : Nat} {i j : Int} (h : BN n i) (g : j.natAbs ≤ i.natAbs) : BN n j := Nat.lt_of_le_of_lt g h
def num (c : Int) : Int := if c.fmod 4 = 0 then (c.fdiv 4 * 982451653).fmod (2 * 10 ^ 60 - 1) - 10 ^ 60 + 1 else if c.fmod 4 = 1 then (c.fdiv 4).fmod 2001 - 1000 else (c.fdiv 4).fmod 25 - 12
def low0 (a b : Int) : Int × Int := (a.fdiv (gd a (if b = 0 then 1 else b)), (if b = 0 then 1 else b).fdiv (gd a (if b = 0 then 1 else b)))
def lowest (a b : Int) : Int × Int := if b < 0 then low0 (-a) (-b) else low0 a b
end My


namespace My
abbrev P2 := Int × Int
theorem nodup_le : ∀ (m : Nat) (f : List Int), f.Nodup → (∀ x ∈ f, 0 ≤ x ∧ x < (m : Int)) → f.length ≤ m
  | 0, f, _, h => by
    cases f with
    | nil => exact Nat.le_refl _
    | cons x f => have := h x List.mem_cons_self; omega
  | m + 1, f, hn, h => by
    have q := nodup_le m (f.erase (m : Int)) (hn.erase _) (fun x hx => by
      have hx' := List.mem_of_mem_erase hx
      have := h x hx'
      have ne : x ≠ (m : Int) := (List.Nodup.mem_erase_iff hn).mp hx |>.1
      omega)
    by_cases hm : (m : Int) ∈ f
    · rw [List.length_erase_of_mem hm] at q; omega
    · rw [List.erase_of_not_mem hm] at q; omega
end My


set_option linter.all false
set_option maxRecDepth 100000
set_option maxHeartbeats 4000000
namespace Lw
open PySem L2 U PyProof.Rows
theorem boot_all : bootBuiltins "all" = some (.builtin "all") := by decide +kernel
theorem boot_sorted : bootBuiltins "sorted" = some (.builtin "sorted") := by decide +kernel
theorem boot_set : bootBuiltins "set" = some (.type "set") := by decide +kernel
theorem boot_min : bootBuiltins "min" = some (.builtin "min") := by decide +kernel
theorem atI2_0 {x y : PV} : atI [x, y] 0 = some x := rfl
theorem atI2_1 {x y : PV} : atI [x, y] 1 = some y := rfl
theorem boot_bool : bootBuiltins "bool" = some (.type "bool") := by decide +kernel
def top (i : Nat) : Stmt := PySem.Challenge.pw_doingbook_k21_worlds_made.main.body.getD i (.Pass ⟨0, 0, 0, 0⟩)
abbrev s_product : Stmt := top 2
theorem sc_product : FnScope ["numbers", "told", "number"] ["numbers"] (defScope s_product) := ⟨rfl, rfl, rfl, by decide +kernel, rfl, by decide +kernel, by decide +kernel⟩
abbrev s_is_pair : Stmt := top 14
theorem sc_is_pair : FnScope ["count", "pair"] ["count", "pair"] (defScope s_is_pair) := ⟨rfl, rfl, rfl, by decide +kernel, rfl, by decide +kernel, by decide +kernel⟩
abbrev s_are_pairs : Stmt := top 15
theorem sc_are_pairs : FnScope ["count", "pairs"] ["count", "pairs"] (defScope s_are_pairs) := ⟨rfl, rfl, rfl, by decide +kernel, rfl, by decide +kernel, by decide +kernel⟩
abbrev s_Drawing_init : Stmt := inClass (top 17) 0
theorem sc_Drawing_init : FnScope ["self", "count", "ties", "bows", "own_ties", "own_bows"] ["self", "count", "ties", "bows"] (defScope s_Drawing_init) := ⟨rfl, rfl, rfl, by decide +kernel, rfl, by decide +kernel, by decide +kernel⟩
abbrev s_Drawing_shape : Stmt := inClass (top 17) 1
theorem sc_Drawing_shape : FnScope ["self"] ["self"] (defScope s_Drawing_shape) := ⟨rfl, rfl, rfl, by decide +kernel, rfl, by decide +kernel, by decide +kernel⟩
abbrev s_Drawing_need_name : Stmt := inClass (top 17) 2
theorem sc_Drawing_need_name : FnScope ["self", "name"] ["self", "name"] (defScope s_Drawing_need_name) := ⟨rfl, rfl, rfl, by decide +kernel, rfl, by decide +kernel, by decide +kernel⟩
abbrev s_Drawing_sources : Stmt := inClass (top 17) 4
theorem sc_Drawing_sources : FnScope ["self", "name"] ["self", "name"] (defScope s_Drawing_sources) := ⟨rfl, rfl, rfl, by decide +kernel, rfl, by decide +kernel, by decide +kernel⟩
abbrev s_greatest_divisor : Stmt := top 19
theorem sc_greatest_divisor : FnScope ["a", "b", "rest"] ["a", "b"] (defScope s_greatest_divisor) := ⟨rfl, rfl, rfl, by decide +kernel, rfl, by decide +kernel, by decide +kernel⟩
abbrev s_fraction : Stmt := top 20
theorem sc_fraction : FnScope ["top", "bottom", "divisor"] ["top", "bottom"] (defScope s_fraction) := ⟨rfl, rfl, rfl, by decide +kernel, rfl, by decide +kernel, by decide +kernel⟩
abbrev s_common_bottom : Stmt := top 21
theorem sc_common_bottom : FnScope ["parts", "bottom", "part"] ["parts"] (defScope s_common_bottom) := ⟨rfl, rfl, rfl, by decide +kernel, rfl, by decide +kernel, by decide +kernel⟩
abbrev s_tops_over : Stmt := top 22
theorem sc_tops_over : FnScope ["parts", "bottom"] ["parts", "bottom"] (defScope s_tops_over) := ⟨rfl, rfl, rfl, by decide +kernel, rfl, by decide +kernel, by decide +kernel⟩
abbrev s_total : Stmt := top 23
theorem sc_total : FnScope ["parts", "bottom"] ["parts"] (defScope s_total) := ⟨rfl, rfl, rfl, by decide +kernel, rfl, by decide +kernel, by decide +kernel⟩
abbrev s_is_share : Stmt := top 29
theorem sc_is_share : FnScope ["part"] ["part"] (defScope s_is_share) := ⟨rfl, rfl, rfl, by decide +kernel, rfl, by decide +kernel, by decide +kernel⟩
abbrev s_are_shares : Stmt := top 30
theorem sc_are_shares : FnScope ["parts"] ["parts"] (defScope s_are_shares) := ⟨rfl, rfl, rfl, by decide +kernel, rfl, by decide +kernel, by decide +kernel⟩
abbrev s_copied : Stmt := top 31
theorem sc_copied : FnScope ["parts"] ["parts"] (defScope s_copied) := ⟨rfl, rfl, rfl, by decide +kernel, rfl, by decide +kernel, by decide +kernel⟩
abbrev s_are_sizes : Stmt := top 32
theorem sc_are_sizes : FnScope ["drawing", "sizes"] ["drawing", "sizes"] (defScope s_are_sizes) := ⟨rfl, rfl, rfl, by decide +kernel, rfl, by decide +kernel, by decide +kernel⟩
abbrev s_are_hidden : Stmt := top 33
theorem sc_are_hidden : FnScope ["drawing", "hidden"] ["drawing", "hidden"] (defScope s_are_hidden) := ⟨rfl, rfl, rfl, by decide +kernel, rfl, by decide +kernel, by decide +kernel⟩
abbrev s_bow_places : Stmt := top 34
theorem sc_bow_places : FnScope ["drawing", "name"] ["drawing", "name"] (defScope s_bow_places) := ⟨rfl, rfl, rfl, by decide +kernel, rfl, by decide +kernel, by decide +kernel⟩
abbrev s_hidden_sizes : Stmt := top 35
theorem sc_hidden_sizes : FnScope ["drawing", "hidden", "name"] ["drawing", "hidden", "name"] (defScope s_hidden_sizes) := ⟨rfl, rfl, rfl, by decide +kernel, rfl, by decide +kernel, by decide +kernel⟩
abbrev s_head_sizes : Stmt := top 36
theorem sc_head_sizes : FnScope ["drawing", "sizes", "hidden", "name"] ["drawing", "sizes", "hidden", "name"] (defScope s_head_sizes) := ⟨rfl, rfl, rfl, by decide +kernel, rfl, by decide +kernel, by decide +kernel⟩
abbrev s_is_table : Stmt := top 37
theorem sc_is_table : FnScope ["table", "rows", "size"] ["table", "rows", "size"] (defScope s_is_table) := ⟨rfl, rfl, rfl, by decide +kernel, rfl, by decide +kernel, by decide +kernel⟩
abbrev s_are_tables : Stmt := top 38
theorem sc_are_tables : FnScope ["drawing", "sizes", "hidden", "tables", "rows"] ["drawing", "sizes", "hidden", "tables"] (defScope s_are_tables) := ⟨rfl, rfl, rfl, by decide +kernel, rfl, by decide +kernel, by decide +kernel⟩
abbrev s_World_init : Stmt := inClass (top 39) 0
theorem sc_World_init : FnScope ["self", "drawing", "sizes", "hidden", "tables", "own_drawing", "own_sizes", "own_hidden", "own_tables"] ["self", "drawing", "sizes", "hidden", "tables"] (defScope s_World_init) := ⟨rfl, rfl, rfl, by decide +kernel, rfl, by decide +kernel, by decide +kernel⟩
abbrev s_law_cell_at : Stmt := top 41
theorem sc_law_cell_at : FnScope ["_law_script", "_law_k"] ["_law_script", "_law_k"] (defScope s_law_cell_at) := ⟨rfl, rfl, rfl, by decide +kernel, rfl, by decide +kernel, by decide +kernel⟩
abbrev s_law_mixed : Stmt := top 42
theorem sc_law_mixed : FnScope ["_law_cell", "_law_many", "_law_found", "_law_number", "_law_k"] ["_law_cell", "_law_many"] (defScope s_law_mixed) := ⟨rfl, rfl, rfl, by decide +kernel, rfl, by decide +kernel, by decide +kernel⟩
abbrev s_law_divisor : Stmt := top 43
theorem sc_law_divisor : FnScope ["_law_one", "_law_other", "_law_rest"] ["_law_one", "_law_other"] (defScope s_law_divisor) := ⟨rfl, rfl, rfl, by decide +kernel, rfl, by decide +kernel, by decide +kernel⟩
abbrev s_law_lowest : Stmt := top 44
theorem sc_law_lowest : FnScope ["_law_top", "_law_bottom", "_law_share"] ["_law_top", "_law_bottom"] (defScope s_law_lowest) := ⟨rfl, rfl, rfl, by decide +kernel, rfl, by decide +kernel, by decide +kernel⟩
abbrev s_law_pairs : Stmt := top 45
theorem sc_law_pairs : FnScope ["_law_script", "_law_at", "_law_first", "_law_count", "_law_kind", "_law_xs", "_law_ties", "_law_bows", "_law_k", "_law_v", "_law_u"] ["_law_script", "_law_at"] (defScope s_law_pairs) := ⟨rfl, rfl, rfl, by decide +kernel, rfl, by decide +kernel, by decide +kernel⟩
abbrev s_law_weights : Stmt := top 46
theorem sc_law_weights : FnScope ["_law_digit", "_law_size", "_law_full", "_law_found", "_law_k"] ["_law_digit", "_law_size", "_law_full"] (defScope s_law_weights) := ⟨rfl, rfl, rfl, by decide +kernel, rfl, by decide +kernel, by decide +kernel⟩
abbrev s_law_rows : Stmt := top 47
theorem sc_law_rows : FnScope ["_law_cell", "_law_many", "_law_size", "_law_full", "_law_xs"] ["_law_cell", "_law_many", "_law_size", "_law_full"] (defScope s_law_rows) := ⟨rfl, rfl, rfl, by decide +kernel, rfl, by decide +kernel, by decide +kernel⟩
abbrev s_law_heads : Stmt := top 48
theorem sc_law_heads : FnScope ["_law_shape", "_law_name", "_law_bows"] ["_law_shape", "_law_name"] (defScope s_law_heads) := ⟨rfl, rfl, rfl, by decide +kernel, rfl, by decide +kernel, by decide +kernel⟩
abbrev s_law_world : Stmt := top 49
theorem sc_law_world : FnScope ["_law_script", "_law_at", "_law_shape", "_law_most", "_law_count", "_law_ties", "_law_bows", "_law_xs", "_law_full", "_law_sizes", "_law_ways", "_law_name", "_law_size", "_law_hidden", "_law_k", "_law_width", "_law_tables", "_law_sources", "_law_under", "_law_many", "_law_other"] ["_law_script", "_law_at", "_law_shape", "_law_most"] (defScope s_law_world) := ⟨rfl, rfl, rfl, by decide +kernel, rfl, by decide +kernel, by decide +kernel⟩
abbrev s_law_shares : Stmt := top 50
theorem sc_law_shares : FnScope ["_law_weights_here"] ["_law_weights_here"] (defScope s_law_shares) := ⟨rfl, rfl, rfl, by decide +kernel, rfl, by decide +kernel, by decide +kernel⟩
abbrev s_law_told_world : Stmt := top 51
theorem sc_law_told_world : FnScope ["_law_world_here", "_law_sizes", "_law_hidden", "_law_tables", "_law_rows_here"] ["_law_world_here"] (defScope s_law_told_world) := ⟨rfl, rfl, rfl, by decide +kernel, rfl, by decide +kernel, by decide +kernel⟩
abbrev s_law_handed : Stmt := top 52
theorem sc_law_handed : FnScope ["_law_told", "_law_bits", "_law_sizes", "_law_hidden", "_law_tables", "_law_rows_here", "_law_table"] ["_law_told", "_law_bits"] (defScope s_law_handed) := ⟨rfl, rfl, rfl, by decide +kernel, rfl, by decide +kernel, by decide +kernel⟩
abbrev s_law_drawn : Stmt := top 53
theorem sc_law_drawn : FnScope ["_law_script", "_law_count", "_law_ties", "_law_bows"] ["_law_script"] (defScope s_law_drawn) := ⟨rfl, rfl, rfl, by decide +kernel, rfl, by decide +kernel, by decide +kernel⟩
abbrev s_law_same : Stmt := top 55
theorem sc_law_same : FnScope ["_law_found", "_law_due", "_law_k"] ["_law_found", "_law_due"] (defScope s_law_same) := ⟨rfl, rfl, rfl, by decide +kernel, rfl, by decide +kernel, by decide +kernel⟩
abbrev s_law_right : Stmt := top 56
theorem sc_law_right : FnScope ["_law_world_here", "_law_shape", "_law_told"] ["_law_world_here", "_law_shape", "_law_told"] (defScope s_law_right) := ⟨rfl, rfl, rfl, by decide +kernel, rfl, by decide +kernel, by decide +kernel⟩
abbrev s_law : Stmt := top 57
theorem sc_law : FnScope ["_law_script", "_law_shape", "_law_told", "_law_bits", "_law_handed_here", "_law_drawing", "_law_world_here", "_law_table", "_law_row", "_law_rows_here", "_law_again"] ["_law_script"] (defScope s_law) := ⟨rfl, rfl, rfl, by decide +kernel, rfl, by decide +kernel, by decide +kernel⟩
set_option genInjectivity false
structure Ad where
  a_product : Addr
  d_product : FuncData
  a_is_pair : Addr
  d_is_pair : FuncData
  a_are_pairs : Addr
  d_are_pairs : FuncData
  a_Drawing_init : Addr
  d_Drawing_init : FuncData
  a_Drawing_shape : Addr
  d_Drawing_shape : FuncData
  a_Drawing_need_name : Addr
  d_Drawing_need_name : FuncData
  a_Drawing_sources : Addr
  d_Drawing_sources : FuncData
  a_greatest_divisor : Addr
  d_greatest_divisor : FuncData
  a_fraction : Addr
  d_fraction : FuncData
  a_common_bottom : Addr
  d_common_bottom : FuncData
  a_tops_over : Addr
  d_tops_over : FuncData
  a_total : Addr
  d_total : FuncData
  a_is_share : Addr
  d_is_share : FuncData
  a_are_shares : Addr
  d_are_shares : FuncData
  a_copied : Addr
  d_copied : FuncData
  a_are_sizes : Addr
  d_are_sizes : FuncData
  a_are_hidden : Addr
  d_are_hidden : FuncData
  a_bow_places : Addr
  d_bow_places : FuncData
  a_hidden_sizes : Addr
  d_hidden_sizes : FuncData
  a_head_sizes : Addr
  d_head_sizes : FuncData
  a_is_table : Addr
  d_is_table : FuncData
  a_are_tables : Addr
  d_are_tables : FuncData
  a_World_init : Addr
  d_World_init : FuncData
  a_law_cell_at : Addr
  d_law_cell_at : FuncData
  a_law_mixed : Addr
  d_law_mixed : FuncData
  a_law_divisor : Addr
  d_law_divisor : FuncData
  a_law_lowest : Addr
  d_law_lowest : FuncData
  a_law_pairs : Addr
  d_law_pairs : FuncData
  a_law_weights : Addr
  d_law_weights : FuncData
  a_law_rows : Addr
  d_law_rows : FuncData
  a_law_heads : Addr
  d_law_heads : FuncData
  a_law_world : Addr
  d_law_world : FuncData
  a_law_shares : Addr
  d_law_shares : FuncData
  a_law_told_world : Addr
  d_law_told_world : FuncData
  a_law_handed : Addr
  d_law_handed : FuncData
  a_law_drawn : Addr
  d_law_drawn : FuncData
  a_law_same : Addr
  d_law_same : FuncData
  a_law_right : Addr
  d_law_right : FuncData
  a_law : Addr
  d_law : FuncData
  a_Drawing : Addr
  a_World : Addr
structure Tx (K : PySem.W.Frag) (mg : Str → Option Value) (t : Ad) : Prop where
  F_product : Fun K "product" "product" s_product t.a_product t.d_product
  B_product : Binds K t.d_product ["numbers"] []
  g_product : mg "product" = some (.ref t.a_product)
  F_is_pair : Fun K "is_pair" "is_pair" s_is_pair t.a_is_pair t.d_is_pair
  B_is_pair : Binds K t.d_is_pair ["count", "pair"] []
  g_is_pair : mg "is_pair" = some (.ref t.a_is_pair)
  F_are_pairs : Fun K "are_pairs" "are_pairs" s_are_pairs t.a_are_pairs t.d_are_pairs
  B_are_pairs : Binds K t.d_are_pairs ["count", "pairs"] []
  g_are_pairs : mg "are_pairs" = some (.ref t.a_are_pairs)
  F_Drawing_init : Fun K "__init__" "Drawing.__init__" s_Drawing_init t.a_Drawing_init t.d_Drawing_init
  B_Drawing_init : Binds K t.d_Drawing_init ["self", "count", "ties", "bows"] []
  F_Drawing_shape : Fun K "shape" "Drawing.shape" s_Drawing_shape t.a_Drawing_shape t.d_Drawing_shape
  B_Drawing_shape : Binds K t.d_Drawing_shape ["self"] []
  m_Drawing_shape : Meth K t.a_Drawing "shape" t.a_Drawing_shape
  F_Drawing_need_name : Fun K "need_name" "Drawing.need_name" s_Drawing_need_name t.a_Drawing_need_name t.d_Drawing_need_name
  B_Drawing_need_name : Binds K t.d_Drawing_need_name ["self", "name"] []
  m_Drawing_need_name : Meth K t.a_Drawing "need_name" t.a_Drawing_need_name
  F_Drawing_sources : Fun K "sources" "Drawing.sources" s_Drawing_sources t.a_Drawing_sources t.d_Drawing_sources
  B_Drawing_sources : Binds K t.d_Drawing_sources ["self", "name"] []
  m_Drawing_sources : Meth K t.a_Drawing "sources" t.a_Drawing_sources
  F_greatest_divisor : Fun K "greatest_divisor" "greatest_divisor" s_greatest_divisor t.a_greatest_divisor t.d_greatest_divisor
  B_greatest_divisor : Binds K t.d_greatest_divisor ["a", "b"] []
  g_greatest_divisor : mg "greatest_divisor" = some (.ref t.a_greatest_divisor)
  F_fraction : Fun K "fraction" "fraction" s_fraction t.a_fraction t.d_fraction
  B_fraction : Binds K t.d_fraction ["top", "bottom"] []
  g_fraction : mg "fraction" = some (.ref t.a_fraction)
  F_common_bottom : Fun K "common_bottom" "common_bottom" s_common_bottom t.a_common_bottom t.d_common_bottom
  B_common_bottom : Binds K t.d_common_bottom ["parts"] []
  g_common_bottom : mg "common_bottom" = some (.ref t.a_common_bottom)
  F_tops_over : Fun K "tops_over" "tops_over" s_tops_over t.a_tops_over t.d_tops_over
  B_tops_over : Binds K t.d_tops_over ["parts", "bottom"] []
  g_tops_over : mg "tops_over" = some (.ref t.a_tops_over)
  F_total : Fun K "total" "total" s_total t.a_total t.d_total
  B_total : Binds K t.d_total ["parts"] []
  g_total : mg "total" = some (.ref t.a_total)
  F_is_share : Fun K "is_share" "is_share" s_is_share t.a_is_share t.d_is_share
  B_is_share : Binds K t.d_is_share ["part"] []
  g_is_share : mg "is_share" = some (.ref t.a_is_share)
  F_are_shares : Fun K "are_shares" "are_shares" s_are_shares t.a_are_shares t.d_are_shares
  B_are_shares : Binds K t.d_are_shares ["parts"] []
  g_are_shares : mg "are_shares" = some (.ref t.a_are_shares)
  F_copied : Fun K "copied" "copied" s_copied t.a_copied t.d_copied
  B_copied : Binds K t.d_copied ["parts"] []
  g_copied : mg "copied" = some (.ref t.a_copied)
  F_are_sizes : Fun K "are_sizes" "are_sizes" s_are_sizes t.a_are_sizes t.d_are_sizes
  B_are_sizes : Binds K t.d_are_sizes ["drawing", "sizes"] []
  g_are_sizes : mg "are_sizes" = some (.ref t.a_are_sizes)
  F_are_hidden : Fun K "are_hidden" "are_hidden" s_are_hidden t.a_are_hidden t.d_are_hidden
  B_are_hidden : Binds K t.d_are_hidden ["drawing", "hidden"] []
  g_are_hidden : mg "are_hidden" = some (.ref t.a_are_hidden)
  F_bow_places : Fun K "bow_places" "bow_places" s_bow_places t.a_bow_places t.d_bow_places
  B_bow_places : Binds K t.d_bow_places ["drawing", "name"] []
  g_bow_places : mg "bow_places" = some (.ref t.a_bow_places)
  F_hidden_sizes : Fun K "hidden_sizes" "hidden_sizes" s_hidden_sizes t.a_hidden_sizes t.d_hidden_sizes
  B_hidden_sizes : Binds K t.d_hidden_sizes ["drawing", "hidden", "name"] []
  g_hidden_sizes : mg "hidden_sizes" = some (.ref t.a_hidden_sizes)
  F_head_sizes : Fun K "head_sizes" "head_sizes" s_head_sizes t.a_head_sizes t.d_head_sizes
  B_head_sizes : Binds K t.d_head_sizes ["drawing", "sizes", "hidden", "name"] []
  g_head_sizes : mg "head_sizes" = some (.ref t.a_head_sizes)
  F_is_table : Fun K "is_table" "is_table" s_is_table t.a_is_table t.d_is_table
  B_is_table : Binds K t.d_is_table ["table", "rows", "size"] []
  g_is_table : mg "is_table" = some (.ref t.a_is_table)
  F_are_tables : Fun K "are_tables" "are_tables" s_are_tables t.a_are_tables t.d_are_tables
  B_are_tables : Binds K t.d_are_tables ["drawing", "sizes", "hidden", "tables"] []
  g_are_tables : mg "are_tables" = some (.ref t.a_are_tables)
  F_World_init : Fun K "__init__" "World.__init__" s_World_init t.a_World_init t.d_World_init
  B_World_init : Binds K t.d_World_init ["self", "drawing", "sizes", "hidden", "tables"] []
  F_law_cell_at : Fun K "_law_cell_at" "_law_cell_at" s_law_cell_at t.a_law_cell_at t.d_law_cell_at
  B_law_cell_at : Binds K t.d_law_cell_at ["_law_script", "_law_k"] []
  g_law_cell_at : mg "_law_cell_at" = some (.ref t.a_law_cell_at)
  F_law_mixed : Fun K "_law_mixed" "_law_mixed" s_law_mixed t.a_law_mixed t.d_law_mixed
  B_law_mixed : Binds K t.d_law_mixed ["_law_cell", "_law_many"] []
  g_law_mixed : mg "_law_mixed" = some (.ref t.a_law_mixed)
  F_law_divisor : Fun K "_law_divisor" "_law_divisor" s_law_divisor t.a_law_divisor t.d_law_divisor
  B_law_divisor : Binds K t.d_law_divisor ["_law_one", "_law_other"] []
  g_law_divisor : mg "_law_divisor" = some (.ref t.a_law_divisor)
  F_law_lowest : Fun K "_law_lowest" "_law_lowest" s_law_lowest t.a_law_lowest t.d_law_lowest
  B_law_lowest : Binds K t.d_law_lowest ["_law_top", "_law_bottom"] []
  g_law_lowest : mg "_law_lowest" = some (.ref t.a_law_lowest)
  F_law_pairs : Fun K "_law_pairs" "_law_pairs" s_law_pairs t.a_law_pairs t.d_law_pairs
  B_law_pairs : Binds K t.d_law_pairs ["_law_script", "_law_at"] []
  g_law_pairs : mg "_law_pairs" = some (.ref t.a_law_pairs)
  F_law_weights : Fun K "_law_weights" "_law_weights" s_law_weights t.a_law_weights t.d_law_weights
  B_law_weights : Binds K t.d_law_weights ["_law_digit", "_law_size", "_law_full"] []
  g_law_weights : mg "_law_weights" = some (.ref t.a_law_weights)
  F_law_rows : Fun K "_law_rows" "_law_rows" s_law_rows t.a_law_rows t.d_law_rows
  B_law_rows : Binds K t.d_law_rows ["_law_cell", "_law_many", "_law_size", "_law_full"] []
  g_law_rows : mg "_law_rows" = some (.ref t.a_law_rows)
  F_law_heads : Fun K "_law_heads" "_law_heads" s_law_heads t.a_law_heads t.d_law_heads
  B_law_heads : Binds K t.d_law_heads ["_law_shape", "_law_name"] []
  g_law_heads : mg "_law_heads" = some (.ref t.a_law_heads)
  F_law_world : Fun K "_law_world" "_law_world" s_law_world t.a_law_world t.d_law_world
  B_law_world : Binds K t.d_law_world ["_law_script", "_law_at", "_law_shape", "_law_most"] []
  g_law_world : mg "_law_world" = some (.ref t.a_law_world)
  F_law_shares : Fun K "_law_shares" "_law_shares" s_law_shares t.a_law_shares t.d_law_shares
  B_law_shares : Binds K t.d_law_shares ["_law_weights_here"] []
  g_law_shares : mg "_law_shares" = some (.ref t.a_law_shares)
  F_law_told_world : Fun K "_law_told_world" "_law_told_world" s_law_told_world t.a_law_told_world t.d_law_told_world
  B_law_told_world : Binds K t.d_law_told_world ["_law_world_here"] []
  g_law_told_world : mg "_law_told_world" = some (.ref t.a_law_told_world)
  F_law_handed : Fun K "_law_handed" "_law_handed" s_law_handed t.a_law_handed t.d_law_handed
  B_law_handed : Binds K t.d_law_handed ["_law_told", "_law_bits"] []
  g_law_handed : mg "_law_handed" = some (.ref t.a_law_handed)
  F_law_drawn : Fun K "_law_drawn" "_law_drawn" s_law_drawn t.a_law_drawn t.d_law_drawn
  B_law_drawn : Binds K t.d_law_drawn ["_law_script"] []
  g_law_drawn : mg "_law_drawn" = some (.ref t.a_law_drawn)
  F_law_same : Fun K "_law_same" "_law_same" s_law_same t.a_law_same t.d_law_same
  B_law_same : Binds K t.d_law_same ["_law_found", "_law_due"] []
  g_law_same : mg "_law_same" = some (.ref t.a_law_same)
  F_law_right : Fun K "_law_right" "_law_right" s_law_right t.a_law_right t.d_law_right
  B_law_right : Binds K t.d_law_right ["_law_world_here", "_law_shape", "_law_told"] []
  g_law_right : mg "_law_right" = some (.ref t.a_law_right)
  F_law : Fun K "law" "law" s_law t.a_law t.d_law
  B_law : Binds K t.d_law ["_law_script"] []
  g_law : mg "law" = some (.ref t.a_law)
  g_Drawing : mg "Drawing" = some (.ref t.a_Drawing)
  cl_Drawing : Cls K t.a_Drawing
  mk_Drawing : Mk K t.a_Drawing t.a_Drawing_init
  g_World : mg "World" = some (.ref t.a_World)
  cl_World : Cls K t.a_World
  mk_World : Mk K t.a_World t.a_World_init
  b_abs : mg "abs" = none
  b_all : mg "all" = none
  b_bool : mg "bool" = none
  b_enumerate : mg "enumerate" = none
  b_int : mg "int" = none
  b_isinstance : mg "isinstance" = none
  b_len : mg "len" = none
  b_list : mg "list" = none
  b_min : mg "min" = none
  b_range : mg "range" = none
  b_set : mg "set" = none
  b_sorted : mg "sorted" = none
  b_str : mg "str" = none
  b_sum : mg "sum" = none
  b_tuple : mg "tuple" = none
  b_zip : mg "zip" = none
  c_LEAST_SIZE : ∃ u, mg "LEAST_SIZE" = some u ∧ RelV (.int 2) u
  c_MOST_BOWS : ∃ u, mg "MOST_BOWS" = some u ∧ RelV (.int 6) u
  c_MOST_HIDDEN : ∃ u, mg "MOST_HIDDEN" = some u ∧ RelV (.int 4) u
  c_MOST_NAMES : ∃ u, mg "MOST_NAMES" = some u ∧ RelV (.int 6) u
  c_MOST_SIZE : ∃ u, mg "MOST_SIZE" = some u ∧ RelV (.int 4) u
  c_MOST_WEIGHTS : ∃ u, mg "MOST_WEIGHTS" = some u ∧ RelV (.int 200000) u
  nf_Drawing_bows : NoAttr K t.a_Drawing "bows"
  nf_Drawing_count : NoAttr K t.a_Drawing "count"
  nf_Drawing_ties : NoAttr K t.a_Drawing "ties"
  nf_World_drawing : NoAttr K t.a_World "drawing"
  nf_World_hidden : NoAttr K t.a_World "hidden"
  nf_World_sizes : NoAttr K t.a_World "sizes"
  nf_World_tables : NoAttr K t.a_World "tables"
  nf_World_weighed : NoAttr K t.a_World "weighed"
section
variable {P : Program} {w : World} {K : PySem.W.Frag} {mg : Str → Option Value} {base : Heap} {t : Ad}

open DM (P2 Good)
def DF (c : Int) (ts bs : List P2) : List (Str × PV) := [("count", .int c), ("ties", .tup (ts.map prV)), ("bows", .tup (bs.map prV))]
def Srt (l : List P2) : Prop := l.Pairwise (fun x y => ST.pk x < ST.pk y)
def Row (H : PHp) (y : PV) (p : P2) : Prop := y = prV p ∨ ∃ r, y = .ref r ∧ H r = some (.lst [.int p.1, .int p.2])
abbrev Rows (H : PHp) : List PV → List P2 → Prop := Paired (Row H)
def sp_ispair : Sp' := fun vs H Q _ => match vs with
  | [.int c, .tup [.int u, .int v]] => (0 ≤ u ∧ u < v ∧ v < c) ∧ Q (.bl true) H
  | _ => False
theorem e_ispair {c u v : Int} {H : PHp} {Q : VK'} {E : XK'} : sp_ispair [.int c, .tup [.int u, .int v]] H Q E = ((0 ≤ u ∧ u < v ∧ v < c) ∧ Q (.bl true) H) := rfl
def sp_arepairs : Sp' := fun vs H Q _ => match vs with
  | [.int c, .ref a] => ∃ ps, H a = some (.lst (ps.map prV)) ∧ Good c ps ∧ c ≤ 6 ∧ Q (.bl true) H
  | _ => False
theorem e_arepairs {c : Int} {a : Addr} {H : PHp} {Q : VK'} {E : XK'} : sp_arepairs [.int c, .ref a] H Q E = ∃ ps, H a = some (.lst (ps.map prV)) ∧ Good c ps ∧ c ≤ 6 ∧ Q (.bl true) H := rfl
def Seq (H : PHp) (v : PV) (xs : List PV) : Prop := v = .tup xs ∨ ∃ a, v = .ref a ∧ H a = some (.lst xs)
theorem Seq.up {H H1 : PHp} {v : PV} {xs : List PV} (h : Seq H v xs) (s : U.Sub H H1) : Seq H1 v xs := h.elim .inl fun ⟨a, e, q⟩ => .inr ⟨a, e, s _ _ q⟩
theorem it_seq {H : PHp} {v : PV} {ys : List PV} {R : It' → PHp → Prop} (q : Seq H v ys) (k : ∀ ok : PHp → Prop, (∀ H1, U.Sub H H1 → ok H1) → R ⟨ys, ok⟩ H) : itOf v H R := by
  rcases q with rfl | ⟨a, rfl, e⟩
  · exact k _ fun _ _ => trivial
  · exact ⟨ys, e, k _ fun H1 s => s _ _ e⟩
def sp_init (t : Ad) : Sp' := fun vs H Q _ => match vs with
  | [.ref x, .int c, va, vb] => ∃ dx ys zs ps qs, H x = some (.ins t.a_Drawing dx []) ∧ Seq H va ys ∧ Seq H vb zs ∧ Rows H ys ps ∧ Rows H zs qs ∧ Good c ps ∧ Good c qs ∧ (1 ≤ c ∧ c ≤ 6 ∧ qs.length ≤ 6) ∧
    ∀ ts bs, ts.Perm ps → Srt ts → bs.Perm qs → Srt bs → Q .non (put H x (.ins t.a_Drawing dx (DF c ts bs)))
  | _ => False
theorem e_init {x : Addr} {va vb : PV} {c : Int} {H : PHp} {Q : VK'} {E : XK'} : sp_init t [.ref x, .int c, va, vb] H Q E = ∃ dx ys zs ps qs, H x = some (.ins t.a_Drawing dx []) ∧ Seq H va ys ∧ Seq H vb zs ∧ Rows H ys ps ∧ Rows H zs qs ∧ Good c ps ∧ Good c qs ∧ (1 ≤ c ∧ c ≤ 6 ∧ qs.length ≤ 6) ∧
    ∀ ts bs, ts.Perm ps → Srt ts → bs.Perm qs → Srt bs → Q .non (put H x (.ins t.a_Drawing dx (DF c ts bs))) := rfl
def sp_needname (t : Ad) : Sp' := fun vs H Q _ => match vs with
  | [.ref x, .int n] => ∃ dx c ts bs, H x = some (.ins t.a_Drawing dx (DF c ts bs)) ∧ (0 ≤ n ∧ n < c) ∧ Q .non H
  | _ => False
theorem e_needname {x : Addr} {n : Int} {H : PHp} {Q : VK'} {E : XK'} : sp_needname t [.ref x, .int n] H Q E = ∃ dx c ts bs, H x = some (.ins t.a_Drawing dx (DF c ts bs)) ∧ (0 ≤ n ∧ n < c) ∧ Q .non H := rfl
def sp_sources (t : Ad) : Sp' := fun vs H Q _ => match vs with
  | [.ref x, .int n] => ∃ dx c ts bs, H x = some (.ins t.a_Drawing dx (DF c ts bs)) ∧ (0 ≤ n ∧ n < c) ∧ ts.length ≤ 15 ∧ Q (.tup (((ts.filter (fun p => decide (p.2 = n))).map (·.1)).map PV.int)) H
  | _ => False
theorem e_sources {x : Addr} {n : Int} {H : PHp} {Q : VK'} {E : XK'} : sp_sources t [.ref x, .int n] H Q E = ∃ dx c ts bs, H x = some (.ins t.a_Drawing dx (DF c ts bs)) ∧ (0 ≤ n ∧ n < c) ∧ ts.length ≤ 15 ∧ Q (.tup (((ts.filter (fun p => decide (p.2 = n))).map (·.1)).map PV.int)) H := rfl
def sp_shape (t : Ad) : Sp' := fun vs H Q _ => match vs with
  | [.ref x] => ∃ dx c ts bs, H x = some (.ins t.a_Drawing dx (DF c ts bs)) ∧ Q (.tup [.int c, .tup (ts.map prV), .tup (bs.map prV)]) H
  | _ => False
theorem e_shape {x : Addr} {H : PHp} {Q : VK'} {E : XK'} : sp_shape t [.ref x] H Q E = ∃ dx c ts bs, H x = some (.ins t.a_Drawing dx (DF c ts bs)) ∧ Q (.tup [.int c, .tup (ts.map prV), .tup (bs.map prV)]) H := rfl
def sp_cell : Sp' := fun vs H Q _ => match vs with
  | [.fls l, .int k] => (0 ≤ k ∧ k < 100) ∧ ∃ ns : List Int, l = ns.map PV.int ∧ Q (.int (ns.getD k.toNat 0)) H
  | _ => False
theorem e_cell {l : List PV} {k : Int} {H : PHp} {Q : VK'} {E : XK'} : sp_cell [.fls l, .int k] H Q E = ((0 ≤ k ∧ k < 100) ∧ ∃ ns : List Int, l = ns.map PV.int ∧ Q (.int (ns.getD k.toNat 0)) H) := rfl
def sp_mixed : Sp' := fun vs H Q _ => match vs with
  | [.int c, .int m] => (0 ≤ m ∧ m ≤ 64) ∧ ∀ p (xs : List Int), H p = none → xs.length = m.toNat → Q (.ref p) (put H p (.lst (xs.map PV.int)))
  | _ => False
theorem e_mixed {c m : Int} {H : PHp} {Q : VK'} {E : XK'} : sp_mixed [.int c, .int m] H Q E = ((0 ≤ m ∧ m ≤ 64) ∧ ∀ p (xs : List Int), H p = none → xs.length = m.toNat → Q (.ref p) (put H p (.lst (xs.map PV.int)))) := rfl
def sp_pairs : Sp' := fun vs H Q _ => match vs with
  | [.fls l, .int k] => (0 ≤ k ∧ k < 60) ∧ ∃ ns : List Int, l = ns.map PV.int ∧ ∀ c ts bs p q, (1 ≤ c ∧ c ≤ 6) → Good c ts → Good c bs → bs.length ≤ 6 → H p = none → H q = none → p ≠ q → Q (.tup [.int c, .ref p, .ref q]) (put (put H p (.lst (ts.map prV))) q (.lst (bs.map prV)))
  | _ => False
theorem e_pairs {l : List PV} {k : Int} {H : PHp} {Q : VK'} {E : XK'} : sp_pairs [.fls l, .int k] H Q E = ((0 ≤ k ∧ k < 60) ∧ ∃ ns : List Int, l = ns.map PV.int ∧ ∀ c ts bs p q, (1 ≤ c ∧ c ≤ 6) → Good c ts → Good c bs → bs.length ≤ 6 → H p = none → H q = none → p ≠ q → Q (.tup [.int c, .ref p, .ref q]) (put (put H p (.lst (ts.map prV))) q (.lst (bs.map prV)))) := rfl
theorem atI_at {l : List PV} {i : Nat} (h : i < l.length) : atI l ((i : Nat) : Int) = some l[i] := by
  unfold atI ixN
  rw [if_pos (by omega), if_pos (by omega)]
  show l[((i : Nat) : Int).toNat]? = _
  rw [Int.toNat_natCast, List.getElem?_eq_getElem h]
theorem pd_get {α β : Type} {R : α → β → Prop} : ∀ {l : List α} {m : List β} {i : Nat}, Paired R l m → (hi : i < l.length) → (hj : i < m.length) → R l[i] m[i]
  | _ :: _, _ :: _, 0, .cons h _, _, _ => h
  | _ :: _, _ :: _, i + 1, .cons _ t, hi, hj => pd_get t (by simpa using hi) (by simpa using hj)
theorem pd_mem {α β : Type} {R : α → β → Prop} {x : α} {l : List α} {m : List β} (h : Paired R l m) (hx : x ∈ l) : ∃ y ∈ m, R x y := by
  induction h with
  | nil => cases hx
  | cons h t ih =>
    rcases List.mem_cons.mp hx with rfl | hx
    · exact ⟨_, List.mem_cons_self, h⟩
    · obtain ⟨y, hy, r⟩ := ih hx
      exact ⟨y, List.mem_cons_of_mem _ hy, r⟩
theorem fm {a b : Int} (h : 0 < b) : 0 ≤ a.fmod b ∧ a.fmod b < b := by
  rw [Int.fmod_eq_emod_of_nonneg _ (by omega)]
  exact ⟨Int.emod_nonneg _ (by omega), Int.emod_lt_of_pos _ h⟩
theorem sub_put {A B : PHp} {x : Addr} {o : PO} (s : U.Sub A B) (h : B x = some o) : U.Sub (put A x o) B := fun a u e => by
  by_cases q : a = x
  · subst q; rw [put_same] at e; cases e; exact h
  · rw [put_ne q] at e; exact s a u e
theorem sub_putx {A B : PHp} {x : Addr} {o : PO} (s : ∀ a u, a ≠ x → A a = some u → B a = some u) (h : B x = some o) : U.Sub (put A x o) B := fun a u e => by
  by_cases q : a = x
  · subst q; rw [put_same] at e; cases e; exact h
  · rw [put_ne q] at e; exact s a u q e
theorem putU_len {f : Str} {v : PV} : ∀ {fs : List (Str × PV)}, (putU f v fs).length ≤ fs.length + 1
  | [] => by simp [putU]
  | (g, y) :: r => by
    unfold putU
    split
    · simp
    · have := putU_len (f := f) (v := v) (fs := r); simp only [List.length_cons]; omega
theorem cdvB {i j : Int} (h : j ≠ 0) (f : j.natAbs < 2 ^ 64) : CDivB i j := ⟨h, (show My.BN 64 j from f).fit (by decide)⟩
theorem fit64 {i : Int} (f : i.natAbs < 2 ^ 64) : Fit i := (show My.BN 64 i from f).fit (by decide)
def rowT (H : PHp) (y : PV) : PV := match y with
  | .ref r => (match H r with | some (.lst l) => .tup l | _ => .non)
  | y => y
theorem rowT_ref {H : PHp} {r : Addr} {l : List PV} (h : H r = some (.lst l)) : rowT H (.ref r) = .tup l := by
  unfold rowT; dsimp only; rw [h]
theorem rows_map {H : PHp} {ys : List PV} {ps : List P2} (h : Rows H ys ps) : ys.map (rowT H) = ps.map prV := by
  induction h with
  | nil => rfl
  | cons h t ih =>
    rw [List.map_cons, List.map_cons, ih]
    congr 1
    rcases h with rfl | ⟨r, rfl, hr⟩
    · rfl
    · exact rowT_ref hr
theorem Rows.up {H H1 : PHp} {ys : List PV} {ps : List P2} (h : Rows H ys ps) (s : U.Sub H H1) : Rows H1 ys ps := Paired.mapP h fun y p r => r.elim .inl fun ⟨q, e, hq⟩ => .inr ⟨q, e, s _ _ hq⟩
theorem rows_prV {H : PHp} : ∀ {ps : List P2}, Rows H (ps.map prV) ps
  | [] => .nil
  | _ :: _ => .cons (.inl rfl) rows_prV
def at1 (n : Int) (y : PV) : Bool := match y with | .tup [.int _, .int v] => decide (v = n) | _ => false
def g0 (y : PV) : PV := match y with | .tup [u, _] => u | _ => .non
def g1 (y : PV) : PV := match y with | .tup [_, v] => v | _ => .non
theorem src_list {n : Int} : ∀ {ts : List P2}, ((ts.map prV).filter (at1 n)).map g0 = ((ts.filter (fun p => decide (p.2 = n))).map (·.1)).map PV.int
  | [] => rfl
  | p :: ts => by
    have e : at1 n (prV p) = decide (p.2 = n) := rfl
    rw [List.map_cons, List.filter_cons, List.filter_cons, e]
    by_cases q : decide (p.2 = n) = true
    · rw [if_pos q, if_pos q, List.map_cons, List.map_cons, List.map_cons, src_list]; rfl
    · rw [if_neg q, if_neg q, src_list]
structure GJ (v j : Int) (l : List P2) : Prop where
  nd : l.Nodup
  lo : ∀ p ∈ l, 0 ≤ p.1 ∧ p.1 < p.2 ∧ (p.2 < v ∨ (p.2 = v ∧ p.1 < j))
theorem GJ.app {v j : Int} {l : List P2} (h : GJ v j l) (h0 : 0 ≤ j) (hj : j < v) : GJ v (j + 1) (l ++ [(j, v)]) := by
  refine ⟨List.nodup_append.mpr ⟨h.nd, by simp, ?_⟩, fun p hp => ?_⟩
  · intro a ha b hb e
    rw [List.mem_singleton] at hb
    subst hb; subst e
    have := h.lo _ ha
    simp only at this
    omega
  · rcases List.mem_append.mp hp with hp | hp
    · have := h.lo p hp; omega
    · rw [List.mem_singleton] at hp; subst hp; exact ⟨h0, hj, .inr ⟨rfl, Int.lt_succ j⟩⟩
theorem GJ.up {v j : Int} {l : List P2} (h : GJ v j l) : GJ v (j + 1) l := ⟨h.nd, fun p hp => by have := h.lo p hp; omega⟩
theorem GJ.of {v : Int} {l : List P2} (h : Good v l) : GJ v 0 l := ⟨h.nd, fun p hp => by have := h.lo p hp; omega⟩
theorem GJ.good {v : Int} {l : List P2} (h : GJ v v l) : Good (v + 1) l := ⟨h.nd, fun p hp => by have := h.lo p hp; omega⟩
theorem ix4a {d : Int} (h0 : 0 ≤ d) (h : d < 4) : ∃ e, atI [PV.int 2, PV.int 3, PV.int 2, PV.int 4] d = some (.int e) ∧ e ≠ 0 := by
  have : d = 0 ∨ d = 1 ∨ d = 2 ∨ d = 3 := by omega
  rcases this with rfl | rfl | rfl | rfl
  · exact ⟨2, rfl, by decide⟩
  · exact ⟨3, rfl, by decide⟩
  · exact ⟨2, rfl, by decide⟩
  · exact ⟨4, rfl, by decide⟩
theorem ix4b {d : Int} (h0 : 0 ≤ d) (h : d < 4) : ∃ e, atI [PV.int 2, PV.int 3, PV.int 5, PV.int 2] d = some (.int e) ∧ e ≠ 0 := by
  have : d = 0 ∨ d = 1 ∨ d = 2 ∨ d = 3 := by omega
  rcases this with rfl | rfl | rfl | rfl
  · exact ⟨2, rfl, by decide⟩
  · exact ⟨3, rfl, by decide⟩
  · exact ⟨5, rfl, by decide⟩
  · exact ⟨2, rfl, by decide⟩
def Same (H : PHp) : Nat → PV → PV → Prop
  | _, .int a, .int b => a = b
  | n + 1, .tup l, .tup m => l.length ≤ 1000 ∧ Paired (Same H n) l m
  | n + 1, .ref a, .ref b => ∃ l m, H a = some (.lst l) ∧ H b = some (.lst m) ∧ l.length ≤ 1000 ∧ Paired (Same H n) l m
  | _, _, _ => False
def sp_same (n : Nat) : Sp' := fun vs H Q _ => match vs with
  | [x, y] => Same H n x y ∧ Q (.bl true) H
  | _ => False
theorem e_same {n : Nat} {x y : PV} {H : PHp} {Q : VK'} {E : XK'} : sp_same n [x, y] H Q E = (Same H n x y ∧ Q (.bl true) H) := rfl
def sp_divisor : Sp' := fun vs H Q _ => match vs with
  | [.int a, .int b] => Q (.int (My.gd a b)) H
  | _ => False
theorem e_divisor {a b : Int} {H : PHp} {Q : VK'} {E : XK'} : sp_divisor [.int a, .int b] H Q E = Q (.int (My.gd a b)) H := rfl
def frac (p : Int × Int) : PV := .tup [.int p.1, .int p.2]
def sp_low0 : Sp' := fun vs H Q _ => match vs with
  | [.int a, .int b] => (0 ≤ b ∧ My.BN 300 b) ∧ Q (frac (My.low0 a b)) H
  | _ => False
def sp_lowest : Sp' := fun vs H Q _ => match vs with
  | [.int a, .int b] => My.BN 300 b ∧ Q (frac (My.lowest a b)) H
  | _ => False
theorem e_low0 {a b : Int} {H : PHp} {Q : VK'} {E : XK'} : sp_low0 [.int a, .int b] H Q E = ((0 ≤ b ∧ My.BN 300 b) ∧ Q (.tup [.int (My.low0 a b).1, .int (My.low0 a b).2]) H) := rfl
theorem e_lowest {a b : Int} {H : PHp} {Q : VK'} {E : XK'} : sp_lowest [.int a, .int b] H Q E = (My.BN 300 b ∧ Q (.tup [.int (My.lowest a b).1, .int (My.lowest a b).2]) H) := rfl
theorem gd_fit {a b : Int} (hb : My.BN 300 b) (h : b ≠ 0) : Fit (My.gd a b) := by
  refine (hb.of_le ?_).fit (by decide)
  have h1 := My.gd_le a b h
  have h2 := My.gd_pos a b h
  split at h1 <;> omega
theorem one_bn : My.BN 300 1 := by unfold My.BN; exact Nat.one_lt_two_pow (by decide)
theorem len5 {P : List Value → Prop} (h : ∀ a b c d e, P [a, b, c, d, e]) (us : List Value) (hl : us.length = 5) : P us := by
  cases us with
  | nil => exact absurd hl.symm (Nat.succ_ne_zero _)
  | cons a r => exact len4 (P := fun r => P (a :: r)) (h a) r (Nat.succ.inj hl)
theorem for_atD {ok : PHp → Prop} {g : TG'} {tb : TS'} {D : Ends'} {xs : List PV} (Pv : Nat → St' → PHp → Prop) (hd : ∀ σ H, Pv xs.length σ H → ok H ∧ D.nx σ H)
    (hs : ∀ (D' : Ends') i x σ H, xs[i]? = some x → Pv i σ H → (∀ σ' H', Pv (i + 1) σ' H' → D'.nx σ' H') → ok H ∧ g x σ H fun σ2 H2 => tb D' σ2 H2)
    {σ : St'} {H : PHp} (h0 : Pv 0 σ H) : uForL ok g tb D xs σ H := for_at Pv hd (fun G i x σ H hx p k => hs _ i x σ H hx p k) h0
theorem for_rngD {ok : PHp → Prop} {g : TG'} {tb : TS'} {D : Ends'} {lo : Int} {n : Nat} (Pv : Nat → St' → PHp → Prop) (hd : ∀ σ H, Pv n σ H → ok H ∧ D.nx σ H)
    (hs : ∀ (D' : Ends') i σ H, i < n → Pv i σ H → (∀ σ' H', Pv (i + 1) σ' H' → D'.nx σ' H') → ok H ∧ g (.int (lo + (i : Nat))) σ H fun σ2 H2 => tb D' σ2 H2)
    {σ : St'} {H : PHp} (h0 : Pv 0 σ H) : uForL ok g tb D (rngL lo n) σ H := for_rng Pv hd (fun G i σ H hi p k => hs _ i σ H hi p k) h0
def shr (s w : Int) : P2 := My.low0 w s
theorem shr_pos {s w : Int} (hs : 0 < s) (hw : 0 ≤ w) : 0 ≤ (shr s w).1 ∧ 1 ≤ (shr s w).2 ∧ (shr s w).1 * s = w * (shr s w).2 ∧ (shr s w).2 ∣ s ∧ My.gd (shr s w).1 (shr s w).2 = 1 ∧ (shr s w).1 ≤ w := by
  have hn : ¬ s = 0 := by omega
  obtain ⟨lo, po⟩ := My.frac_ok (a := w) (b := s) (g := My.gd w s) hn (.inl ⟨hs, rfl⟩)
  have g1 := My.gd_pos w s hn
  have e : shr s w = (w.fdiv (My.gd w s), s.fdiv (My.gd w s)) := by
    unfold shr My.low0
    rw [if_neg hn]
  rw [e]
  have x0 : 0 ≤ w.fdiv (My.gd w s) := Int.fdiv_nonneg hw (by omega)
  have ew := My.div_ex (a := w) (g := My.gd w s) (by omega) (My.gd_dvd_l w s)
  obtain ⟨k, _, e2⟩ := lo.ex
  refine ⟨x0, by show 1 ≤ s.fdiv _; omega, lo.cross, ⟨k, by rw [Int.mul_comm]; exact e2⟩, lo.one, ?_⟩
  have := Int.mul_le_mul_of_nonneg_right (show 1 ≤ My.gd w s by omega) x0
  show w.fdiv (My.gd w s) ≤ w
  omega
theorem lcm_ok {B b s : Int} (hB : 0 < B) (hb : 0 < b) (h1 : B ∣ s) (h2 : b ∣ s) : 0 < B.fdiv (My.gd B b) * b ∧ B ∣ B.fdiv (My.gd B b) * b ∧ b ∣ B.fdiv (My.gd B b) * b ∧ B.fdiv (My.gd B b) * b ∣ s := by
  have g1 := My.gd_pos B b (by omega)
  have e := My.div_ex (a := B) (g := My.gd B b) (by omega) (My.gd_dvd_l B b)
  have x0 : 0 ≤ B.fdiv (My.gd B b) := Int.fdiv_nonneg (by omega) (by omega)
  have x1 : 0 < B.fdiv (My.gd B b) := by
    rcases Int.lt_or_eq_of_le x0 with h | h
    · exact h
    · rw [← h, Int.mul_zero] at e; omega
  have hl : ((Int.lcm B b : Nat) : Int) = B.fdiv (My.gd B b) * b := by
    have q : Int.gcd B b * Int.lcm B b = B.natAbs * b.natAbs := Int.gcd_mul_lcm B b
    have q2 : My.gd B b * ((Int.lcm B b : Nat) : Int) = B * b := by
      unfold My.gd
      rw [← Int.natCast_mul, q, Int.natCast_mul, Int.natAbs_of_nonneg (Int.le_of_lt hB), Int.natAbs_of_nonneg (Int.le_of_lt hb)]
    refine Int.eq_of_mul_eq_mul_left (show My.gd B b ≠ 0 by omega) ?_
    rw [q2, ← Int.mul_assoc, ← e]
  refine ⟨Int.mul_pos x1 hb, ?_, ⟨B.fdiv (My.gd B b), by rw [Int.mul_comm]⟩, ?_⟩
  · rw [← hl]; exact Int.dvd_lcm_left _ _
  · rw [← hl]; exact Int.coe_lcm_dvd h1 h2
def Sh (ws : List Int) (s : Int) : Prop := s = ws.sum ∧ 0 < s ∧ (∀ w ∈ ws, 0 ≤ w) ∧ s ≤ 1000 ∧ ws.length ≤ 100
def sp_gdiv : Sp' := fun vs H Q _ => match vs with
  | [.int a, .int b] => (0 ≤ a ∧ 0 ≤ b) ∧ Q (.int (My.gd a b)) H
  | _ => False
theorem e_gdiv {a b : Int} {H : PHp} {Q : VK'} {E : XK'} : sp_gdiv [.int a, .int b] H Q E = ((0 ≤ a ∧ 0 ≤ b) ∧ Q (.int (My.gd a b)) H) := rfl
def sp_fraction : Sp' := fun vs H Q _ => match vs with
  | [.int a, .int b] => (0 ≤ a ∧ 0 < b ∧ b < 1000000) ∧ Q (.tup [.int (a.fdiv (My.gd a b)), .int (b.fdiv (My.gd a b))]) H
  | _ => False
theorem e_fraction {a b : Int} {H : PHp} {Q : VK'} {E : XK'} : sp_fraction [.int a, .int b] H Q E = ((0 ≤ a ∧ 0 < b ∧ b < 1000000) ∧ Q (.tup [.int (a.fdiv (My.gd a b)), .int (b.fdiv (My.gd a b))]) H) := rfl
def sp_cbot : Sp' := fun vs H Q _ => match vs with
  | [.tup l] => ∃ ws s, Sh ws s ∧ l = ws.map (fun w => prV (shr s w)) ∧ ∀ B, 0 < B → B ∣ s → (∀ w ∈ ws, (shr s w).2 ∣ B) → Q (.int B) H
  | _ => False
theorem e_cbot {l : List PV} {H : PHp} {Q : VK'} {E : XK'} : sp_cbot [.tup l] H Q E = ∃ ws s, Sh ws s ∧ l = ws.map (fun w => prV (shr s w)) ∧ ∀ B, 0 < B → B ∣ s → (∀ w ∈ ws, (shr s w).2 ∣ B) → Q (.int B) H := rfl
def topO (s B w : Int) : Int := (shr s w).1 * (B.fdiv (shr s w).2)
def sp_tops : Sp' := fun vs H Q _ => match vs with
  | [.tup l, .int B] => ∃ ws s, Sh ws s ∧ l = ws.map (fun w => prV (shr s w)) ∧ (0 < B ∧ B ∣ s) ∧ ∀ p, H p = none → Q (.ref p) (put H p (.lst ((ws.map (topO s B)).map PV.int)))
  | _ => False
theorem e_tops {l : List PV} {B : Int} {H : PHp} {Q : VK'} {E : XK'} : sp_tops [.tup l, .int B] H Q E = ∃ ws s, Sh ws s ∧ l = ws.map (fun w => prV (shr s w)) ∧ (0 < B ∧ B ∣ s) ∧ ∀ p, H p = none → Q (.ref p) (put H p (.lst ((ws.map (topO s B)).map PV.int))) := rfl
def sp_total : Sp' := fun vs H Q _ => match vs with
  | [.tup l] => ∃ ws s, Sh ws s ∧ l = ws.map (fun w => prV (shr s w)) ∧ Q (.tup [.int 1, .int 1]) H
  | _ => False
theorem e_total {l : List PV} {H : PHp} {Q : VK'} {E : XK'} : sp_total [.tup l] H Q E = ∃ ws s, Sh ws s ∧ l = ws.map (fun w => prV (shr s w)) ∧ Q (.tup [.int 1, .int 1]) H := rfl
def sp_isshare : Sp' := fun vs H Q _ => match vs with
  | [.tup [.int a, .int b]] => (0 ≤ a ∧ 1 ≤ b ∧ b < 1000000 ∧ My.gd a b = 1) ∧ Q (.bl true) H
  | _ => False
theorem e_isshare {a b : Int} {H : PHp} {Q : VK'} {E : XK'} : sp_isshare [.tup [.int a, .int b]] H Q E = ((0 ≤ a ∧ 1 ≤ b ∧ b < 1000000 ∧ My.gd a b = 1) ∧ Q (.bl true) H) := rfl
def sp_shares : Sp' := fun vs H Q _ => match vs with
  | [.tup l] => ∃ ws s, Sh ws s ∧ l = ws.map (fun w => prV (shr s w)) ∧ Q (.bl true) H
  | _ => False
theorem e_shares {l : List PV} {H : PHp} {Q : VK'} {E : XK'} : sp_shares [.tup l] H Q E = ∃ ws s, Sh ws s ∧ l = ws.map (fun w => prV (shr s w)) ∧ Q (.bl true) H := rfl
theorem top_one {s B w : Int} (hs : 0 < s) (hw : 0 ≤ w) (hd : (shr s w).2 ∣ B) : topO s B w * s = w * B := by
  obtain ⟨p1, p2, p3, _⟩ := shr_pos hs hw
  have e := My.div_ex (a := B) (g := (shr s w).2) (by omega) hd
  unfold topO
  rw [Int.mul_right_comm, p3, Int.mul_assoc, ← e]
theorem top_sum {s B : Int} (hs : 0 < s) : ∀ {ws : List Int}, (∀ w ∈ ws, 0 ≤ w) → (∀ w ∈ ws, (shr s w).2 ∣ B) → (ws.map (topO s B)).sum * s = ws.sum * B
  | [], _, _ => by simp
  | w :: ws, h0, hd => by
    rw [List.map_cons, List.sum_cons, List.sum_cons, Int.add_mul, Int.add_mul, top_one hs (h0 w List.mem_cons_self) (hd w List.mem_cons_self), top_sum hs (fun x hx => h0 x (List.mem_cons_of_mem _ hx)) fun x hx => hd x (List.mem_cons_of_mem _ hx)]
theorem top_all {s B : Int} {ws : List Int} (h : Sh ws s) (hd : ∀ w ∈ ws, (shr s w).2 ∣ B) : (ws.map (topO s B)).sum = B := by
  obtain ⟨e, hs, h0, _⟩ := h
  have q := top_sum hs h0 hd
  rw [← e, Int.mul_comm s B] at q
  exact Int.eq_of_mul_eq_mul_right (by omega) q
def fT (B : Int) (y : PV) : PV := match y with | .tup [.int a, .int b] => .int (a * B.fdiv b) | _ => .non
theorem Sh.le {ws : List Int} {s w : Int} (h : Sh ws s) (hw : w ∈ ws) : 0 ≤ (shr s w).1 ∧ (shr s w).1 ≤ 1000 ∧ 1 ≤ (shr s w).2 ∧ (shr s w).2 ≤ 1000 := by
  obtain ⟨e, hs, h0, s1, _⟩ := h
  obtain ⟨p1, p2, p3, p4, _, p6⟩ := shr_pos hs (h0 w hw)
  have q := Int.le_of_dvd hs p4
  have sm : ∀ {l : List Int}, (∀ x ∈ l, 0 ≤ x) → w ∈ l → w ≤ l.sum := by
    intro l
    induction l with
    | nil => intro _ z; cases z
    | cons x l ih =>
      intro hx z
      have x0 := hx x List.mem_cons_self
      have l0 : 0 ≤ l.sum := by
        have : ∀ {l : List Int}, (∀ x ∈ l, 0 ≤ x) → 0 ≤ l.sum := by
          intro l
          induction l with
          | nil => intro _; simp
          | cons y l ih => intro h; rw [List.sum_cons]; have := h y List.mem_cons_self; have := ih fun z hz => h z (List.mem_cons_of_mem _ hz); omega
        exact this fun z hz => hx z (List.mem_cons_of_mem _ hz)
      rw [List.sum_cons]
      rcases List.mem_cons.mp z with rfl | z
      · omega
      · have := ih (fun z hz => hx z (List.mem_cons_of_mem _ hz)) z
        omega
  have := sm h0 hw
  omega
theorem fdiv_le {a b : Int} (h0 : 0 ≤ a) (h1 : 0 < b) : 0 ≤ a.fdiv b ∧ a.fdiv b ≤ a := by
  refine ⟨Int.fdiv_nonneg h0 (by omega), ?_⟩
  rw [Int.fdiv_eq_ediv_of_nonneg _ (by omega)]
  exact Int.ediv_le_self _ h0
theorem fitS {i : Int} (h0 : 0 ≤ i) (h1 : i ≤ 1000000) : Fit i := fit64 (by have : (1000000 : Nat) < 2 ^ 64 := by decide
                                                                            omega)
theorem cdvS {i j : Int} (h0 : 0 < j) (h1 : j ≤ 1000000) : CDivB i j := ⟨by omega, fitS (by omega) h1⟩
theorem fmod_dvd {a b : Int} (h : 0 < b) (e : a.fmod b = 0) : b ∣ a := by
  rw [Int.fmod_eq_emod_of_nonneg _ (by omega)] at e
  exact Int.dvd_of_emod_eq_zero e
def sp_copied : Sp' := fun vs H Q _ => match vs with
  | [v] => ∃ ps : List P2, Seq H v (ps.map prV) ∧ ps.length ≤ 500 ∧ Q (.tup (ps.map prV)) H
  | _ => False
theorem e_copied {v : PV} {H : PHp} {Q : VK'} {E : XK'} : sp_copied [v] H Q E = ∃ ps : List P2, Seq H v (ps.map prV) ∧ ps.length ≤ 500 ∧ Q (.tup (ps.map prV)) H := rfl
def prod (l : List Int) : Int := l.foldl (· * ·) 1
def sp_product : Sp' := fun vs H Q _ => match vs with
  | [v] => ∃ ns : List Int, Seq H v (ns.map PV.int) ∧ ns.length ≤ 500 ∧ (∀ k, (prod (ns.take k)).natAbs ≤ 1000000) ∧ (∀ n ∈ ns, n.natAbs ≤ 1000000) ∧ Q (.int (prod ns)) H
  | _ => False
theorem e_product {v : PV} {H : PHp} {Q : VK'} {E : XK'} : sp_product [v] H Q E = ∃ ns : List Int, Seq H v (ns.map PV.int) ∧ ns.length ≤ 500 ∧ (∀ k, (prod (ns.take k)).natAbs ≤ 1000000) ∧ (∀ n ∈ ns, n.natAbs ≤ 1000000) ∧ Q (.int (prod ns)) H := rfl
theorem prod_snoc {l : List Int} {n : Int} : prod (l ++ [n]) = prod l * n := by unfold prod; rw [List.foldl_append]; rfl
theorem fitN {i : Int} (h : i.natAbs ≤ 1000000) : Fit i := fit64 (Nat.lt_of_le_of_lt h (by decide))
def shT (ws : List Int) : PV := .tup (ws.map fun w => prV (shr ws.sum w))
def Shr (ws : List Int) : Prop := Sh ws ws.sum
def sp_sizes (t : Ad) : Sp' := fun vs H Q _ => match vs with
  | [.ref x, .tup l] => ∃ dx c ts bs, ∃ ns : List Int, H x = some (.ins t.a_Drawing dx (DF c ts bs)) ∧ l = ns.map PV.int ∧ (ns.length : Int) = c ∧ ns.length ≤ 6 ∧ (∀ n ∈ ns, 2 ≤ n ∧ n ≤ 4) ∧ Q (.bl true) H
  | _ => False
theorem e_sizes {x : Addr} {l : List PV} {H : PHp} {Q : VK'} {E : XK'} : sp_sizes t [.ref x, .tup l] H Q E = ∃ dx c ts bs, ∃ ns : List Int, H x = some (.ins t.a_Drawing dx (DF c ts bs)) ∧ l = ns.map PV.int ∧ (ns.length : Int) = c ∧ ns.length ≤ 6 ∧ (∀ n ∈ ns, 2 ≤ n ∧ n ≤ 4) ∧ Q (.bl true) H := rfl
def sp_hidden (t : Ad) : Sp' := fun vs H Q _ => match vs with
  | [.ref x, .tup l] => ∃ dx c ts bs, ∃ Hd : List (List Int), H x = some (.ins t.a_Drawing dx (DF c ts bs)) ∧ l = Hd.map shT ∧ Hd.length = bs.length ∧ Hd.length ≤ 6 ∧ (∀ ws ∈ Hd, Shr ws ∧ 1 ≤ ws.length ∧ ws.length ≤ 4) ∧ Q (.bl true) H
  | _ => False
theorem e_hidden {x : Addr} {l : List PV} {H : PHp} {Q : VK'} {E : XK'} : sp_hidden t [.ref x, .tup l] H Q E = ∃ dx c ts bs, ∃ Hd : List (List Int), H x = some (.ins t.a_Drawing dx (DF c ts bs)) ∧ l = Hd.map shT ∧ Hd.length = bs.length ∧ Hd.length ≤ 6 ∧ (∀ ws ∈ Hd, Shr ws ∧ 1 ≤ ws.length ∧ ws.length ≤ 4) ∧ Q (.bl true) H := rfl
theorem all_t {α : Type} {l : List α} : ((l.map fun _ => true).all id) = true := by simp
def hasN (n : Int) (p : P2) : Bool := decide (p.1 = n) || decide (p.2 = n)
def bpl (bs : List P2) (n : Int) : List Nat := (List.range bs.length).filter fun k => match bs[k]? with | some p => hasN n p | none => false
def sp_places (t : Ad) : Sp' := fun vs H Q _ => match vs with
  | [.ref x, .int n] => ∃ dx c ts bs, H x = some (.ins t.a_Drawing dx (DF c ts bs)) ∧ bs.length ≤ 6 ∧ ∀ p, H p = none → Q (.ref p) (put H p (.lst ((bpl bs n).map fun k => PV.int (k : Nat))))
  | _ => False
theorem e_places {x : Addr} {n : Int} {H : PHp} {Q : VK'} {E : XK'} : sp_places t [.ref x, .int n] H Q E = ∃ dx c ts bs, H x = some (.ins t.a_Drawing dx (DF c ts bs)) ∧ bs.length ≤ 6 ∧ ∀ p, H p = none → Q (.ref p) (put H p (.lst ((bpl bs n).map fun k => PV.int (k : Nat)))) := rfl
theorem num_snoc {l : List PV} {x : PV} : numL (l ++ [x]) = numL l ++ [.tup [.int (l.length : Nat), x]] := by
  unfold numL; rw [List.mapIdx_concat]
theorem snoc_ind {α : Type} {P : List α → Prop} (h0 : P []) (h1 : ∀ l x, P l → P (l ++ [x])) (l : List α) : P l := by
  have key : ∀ r : List α, P r.reverse := fun r => by
    induction r with
    | nil => exact h0
    | cons x r ih => rw [List.reverse_cons]; exact h1 _ _ ih
  have := key l.reverse
  rwa [List.reverse_reverse] at this
def fB (y : PV) : PV := match y with | .tup [.int k, _] => .int k | _ => .non
def pB (n : Int) (y : PV) : Bool := match y with | .tup [_, .tup [.int u, .int v]] => hasN n (u, v) | _ => false
theorem bpl_snoc {bs : List P2} {p : P2} {n : Int} : bpl (bs ++ [p]) n = bpl bs n ++ (if hasN n p then [bs.length] else []) := by
  unfold bpl
  rw [List.length_append, List.length_singleton, List.range_succ, List.filter_append]
  congr 1
  · refine List.filter_congr fun k hk => ?_
    rw [List.getElem?_append_left (List.mem_range.mp hk)]
  · rw [List.filter_cons, List.filter_nil, List.getElem?_append_right (Nat.le_refl _), Nat.sub_self]
    rfl
theorem bpl_num {bs : List P2} {n : Int} : ((numL (bs.map prV)).filter (pB n)).map fB = (bpl bs n).map fun k => PV.int (k : Nat) := by
  refine snoc_ind (P := fun bs => ((numL (bs.map prV)).filter (pB n)).map fB = (bpl bs n).map fun k => PV.int (k : Nat)) rfl (fun l p ih => ?_) bs
  rw [List.map_append, List.map_cons, List.map_nil, num_snoc, List.filter_append, List.map_append, ih, bpl_snoc, List.map_append, List.length_map]
  congr 1
  rw [List.filter_cons, List.filter_nil]
  have e : pB n (.tup [.int (l.length : Nat), prV p]) = hasN n p := rfl
  rw [e]
  split
  · rfl
  · rfl
theorem num_in {bs : List P2} {y : PV} (h : y ∈ numL (bs.map prV)) : ∃ (k : Nat) (p : P2), y = .tup [.int (k : Nat), prV p] := by
  unfold numL at h
  rw [List.mem_mapIdx] at h
  obtain ⟨i, hi, rfl⟩ := h
  rw [List.getElem_map]
  exact ⟨i, _, rfl⟩
theorem any_has {n : Int} {p : P2} : ([PV.int p.1, PV.int p.2].any fun z => deq z (.int n)) = hasN n p := by
  unfold hasN
  simp [deq, List.any]
  rfl
def hsz (Hd : List (List Int)) (bs : List P2) (n : Int) : List Int := (bpl bs n).map fun k => ((Hd.getD k []).length : Int)
def ssz (ns : List Int) (ts : List P2) (n : Int) : List Int := ((ts.filter fun p => decide (p.2 = n)).map (·.1)).map fun u => ns.getD u.toNat 0
theorem bpl_lt {bs : List P2} {n : Int} {k : Nat} (h : k ∈ bpl bs n) : k < bs.length := List.mem_range.mp (List.mem_filter.mp h).1
theorem bpl_len {bs : List P2} {n : Int} : (bpl bs n).length ≤ bs.length := by
  unfold bpl
  have := List.length_filter_le (fun k => match bs[k]? with | some p => hasN n p | none => false) (List.range bs.length)
  rwa [List.length_range] at this
def sp_hsz (t : Ad) : Sp' := fun vs H Q _ => match vs with
  | [.ref x, .tup l, .int n] => ∃ dx c ts bs, ∃ Hd : List (List Int), H x = some (.ins t.a_Drawing dx (DF c ts bs)) ∧ l = Hd.map shT ∧ Hd.length = bs.length ∧ bs.length ≤ 6 ∧ ∀ p H1, Sub H H1 → H p = none → H1 p = some (.lst ((hsz Hd bs n).map PV.int)) → Q (.ref p) H1
  | _ => False
theorem e_hsz {x : Addr} {l : List PV} {n : Int} {H : PHp} {Q : VK'} {E : XK'} : sp_hsz t [.ref x, .tup l, .int n] H Q E = ∃ dx c ts bs, ∃ Hd : List (List Int), H x = some (.ins t.a_Drawing dx (DF c ts bs)) ∧ l = Hd.map shT ∧ Hd.length = bs.length ∧ bs.length ≤ 6 ∧ ∀ p H1, Sub H H1 → H p = none → H1 p = some (.lst ((hsz Hd bs n).map PV.int)) → Q (.ref p) H1 := rfl
def fH (Hd : List (List Int)) (y : PV) : PV := match y with | .int k => .int ((Hd.getD k.toNat []).length : Nat) | _ => .non
theorem atI_hd {Hd : List (List Int)} {k : Nat} (h : k < Hd.length) : atI (Hd.map shT) (k : Nat) = some (shT (Hd.getD k [])) := by
  rw [atI_at (by rw [List.length_map]; exact h), List.getElem_map, List.getD_eq_getElem?_getD, List.getElem?_eq_getElem h]
  rfl
def sp_heads (t : Ad) : Sp' := fun vs H Q _ => match vs with
  | [.ref x, .tup k, .tup l, .int n] => ∃ dx c ts bs, ∃ (ns : List Int) (Hd : List (List Int)), H x = some (.ins t.a_Drawing dx (DF c ts bs)) ∧ k = ns.map PV.int ∧ (ns.length : Int) = c ∧ Good c ts ∧ c ≤ 6 ∧ l = Hd.map shT ∧ Hd.length = bs.length ∧ bs.length ≤ 6 ∧ (0 ≤ n ∧ n < c) ∧ ∀ p H1, Sub H H1 → H p = none → H1 p = some (.lst ((ssz ns ts n ++ hsz Hd bs n).map PV.int)) → Q (.ref p) H1
  | _ => False
theorem e_heads {x : Addr} {k l : List PV} {n : Int} {H : PHp} {Q : VK'} {E : XK'} : sp_heads t [.ref x, .tup k, .tup l, .int n] H Q E = ∃ dx c ts bs, ∃ (ns : List Int) (Hd : List (List Int)), H x = some (.ins t.a_Drawing dx (DF c ts bs)) ∧ k = ns.map PV.int ∧ (ns.length : Int) = c ∧ Good c ts ∧ c ≤ 6 ∧ l = Hd.map shT ∧ Hd.length = bs.length ∧ bs.length ≤ 6 ∧ (0 ≤ n ∧ n < c) ∧ ∀ p H1, Sub H H1 → H p = none → H1 p = some (.lst ((ssz ns ts n ++ hsz Hd bs n).map PV.int)) → Q (.ref p) H1 := rfl
def fN (ns : List Int) (y : PV) : PV := match y with | .int k => .int (ns.getD k.toNat 0) | _ => .non
theorem line_ge {n : Nat} (h : n ≤ 100000) : n ≤ sizeLine := by rw [sizeLine_eq]; omega
def sp_table : Sp' := fun vs H Q _ => match vs with
  | [.tup l, .int r, .int z] => ∃ Rw : List (List Int), l = Rw.map shT ∧ (Rw.length : Int) = r ∧ Rw.length ≤ 1000 ∧ (∀ ws ∈ Rw, Shr ws ∧ (ws.length : Int) = z) ∧ Q (.bl true) H
  | _ => False
theorem e_table {l : List PV} {r z : Int} {H : PHp} {Q : VK'} {E : XK'} : sp_table [.tup l, .int r, .int z] H Q E = ∃ Rw : List (List Int), l = Rw.map shT ∧ (Rw.length : Int) = r ∧ Rw.length ≤ 1000 ∧ (∀ ws ∈ Rw, Shr ws ∧ (ws.length : Int) = z) ∧ Q (.bl true) H := rfl
def sp_wts : Sp' := fun vs H Q _ => match vs with
  | [.int d, .int z, .bl f] => (1 ≤ z ∧ z ≤ 4) ∧ ∀ p (ws : List Int), H p = none → (ws.length : Int) = z → Shr ws → Q (.ref p) (put H p (.lst (ws.map PV.int)))
  | _ => False
theorem e_wts {d z : Int} {f : Bool} {H : PHp} {Q : VK'} {E : XK'} : sp_wts [.int d, .int z, .bl f] H Q E = ((1 ≤ z ∧ z ≤ 4) ∧ ∀ p (ws : List Int), H p = none → (ws.length : Int) = z → Shr ws → Q (.ref p) (put H p (.lst (ws.map PV.int)))) := rfl
theorem sum_le {b : Int} : ∀ {ws : List Int}, (∀ w ∈ ws, 0 ≤ w ∧ w ≤ b) → 0 ≤ ws.sum ∧ ws.sum ≤ b * ws.length
  | [], _ => by simp
  | w :: ws, h => by
    obtain ⟨h1, h2⟩ := h w List.mem_cons_self
    obtain ⟨i1, i2⟩ := sum_le (ws := ws) fun x hx => h x (List.mem_cons_of_mem _ hx)
    rw [List.sum_cons, List.length_cons]
    have : b * ((ws.length + 1 : Nat) : Int) = b * ws.length + b := by rw [Int.natCast_add, Int.mul_add]; simp
    omega
theorem shr_of {ws : List Int} (h : ∀ w ∈ ws, 0 ≤ w ∧ w ≤ 8) (hl : ws.length ≤ 4) (hs : ws.sum ≠ 0) : Shr ws := by
  obtain ⟨a, b⟩ := sum_le h
  exact ⟨rfl, by omega, fun w hw => (h w hw).1, by omega, by omega⟩
def sp_lshares : Sp' := fun vs H Q _ => match vs with
  | [.ref a] => ∃ ws : List Int, H a = some (.lst (ws.map PV.int)) ∧ Shr ws ∧ Q (shT ws) H
  | _ => False
theorem e_lshares {a : Addr} {H : PHp} {Q : VK'} {E : XK'} : sp_lshares [.ref a] H Q E = ∃ ws : List Int, H a = some (.lst (ws.map PV.int)) ∧ Shr ws ∧ Q (shT ws) H := rfl
def fW (s : Int) (y : PV) : PV := match y with | .int w => prV (shr s w) | _ => .non
theorem bnS {i : Int} (h0 : 0 ≤ i) (h1 : i ≤ 1000) : My.BN 300 i := by
  have : i.natAbs < 2 ^ 10 := by have : (1000 : Nat) < 2 ^ 10 := by decide
                                 omega
  exact Nat.lt_of_lt_of_le this (Nat.pow_le_pow_right (by decide) (by decide))
theorem lowest_shr {s w : Int} (h : 0 < s) : My.lowest w s = shr s w := by unfold My.lowest; rw [if_neg (by omega)]; rfl
def shpV (c : Int) (ts bs : List P2) : PV := .tup [.int c, .tup (ts.map prV), .tup (bs.map prV)]
structure Shp (c : Int) (ts bs : List P2) : Prop where
  hc : 1 ≤ c ∧ c ≤ 6
  gt : Good c ts
  gb : Good c bs
  l6 : bs.length ≤ 6
  st : Srt ts
  sb : Srt bs
def sp_drawn : Sp' := fun vs H Q _ => match vs with
  | [.fls l] => ∃ ns : List Int, l = ns.map PV.int ∧ ∀ c ts bs, Shp c ts bs → Q (.tup [.int c, .tup (ts.map prV), .tup (bs.map prV)]) H
  | _ => False
theorem e_drawn {l : List PV} {H : PHp} {Q : VK'} {E : XK'} : sp_drawn [.fls l] H Q E = ∃ ns : List Int, l = ns.map PV.int ∧ ∀ c ts bs, Shp c ts bs → Q (.tup [.int c, .tup (ts.map prV), .tup (bs.map prV)]) H := rfl
def srcs (ts : List P2) (n : Int) : List Int := ((List.range n.toNat).map fun k : Nat => (k : Int)).filter fun u => decide ((u, n) ∈ ts)
def sp_lheads : Sp' := fun vs H Q _ => match vs with
  | [.tup [.int c, .tup k, .tup l], .int n] => ∃ ts bs, k = ts.map prV ∧ l = bs.map prV ∧ (0 ≤ n ∧ n ≤ 6) ∧ bs.length ≤ 6 ∧ ∀ p q, H q = none → H p = none → p ≠ q → Q (.tup [.ref p, .ref q]) (put (put H q (.lst ((bpl bs n).map fun k => PV.int (k : Nat)))) p (.lst ((srcs ts n).map PV.int)))
  | _ => False
theorem e_lheads {c n : Int} {k l : List PV} {H : PHp} {Q : VK'} {E : XK'} : sp_lheads [.tup [.int c, .tup k, .tup l], .int n] H Q E = ∃ ts bs, k = ts.map prV ∧ l = bs.map prV ∧ (0 ≤ n ∧ n ≤ 6) ∧ bs.length ≤ 6 ∧ ∀ p q, H q = none → H p = none → p ≠ q → Q (.tup [.ref p, .ref q]) (put (put H q (.lst ((bpl bs n).map fun k => PV.int (k : Nat)))) p (.lst ((srcs ts n).map PV.int))) := rfl
def idP (y : PV) : PV := y
def pK (bs : List P2) (n : Int) (y : PV) : Bool := match y with | .int k => (match bs[k.toNat]? with | some p => hasN n p | none => false) | _ => false
def pU (ts : List P2) (n : Int) (y : PV) : Bool := match y with | .int u => decide ((u, n) ∈ ts) | _ => false
theorem e_at31 {x y z : PV} : atI [x, y, z] 1 = some y := rfl
theorem e_at32 {x y z : PV} : atI [x, y, z] 2 = some z := rfl
theorem rng0 {n : Nat} : rngL 0 n = (List.range n).map fun k => PV.int (k : Nat) := by
  unfold rngL
  refine List.map_congr_left fun k _ => ?_
  rw [Int.zero_add]
theorem bpl_rng {bs : List P2} {n : Int} : ((rngL 0 bs.length).filter (pK bs n)).map idP = (bpl bs n).map fun k => PV.int (k : Nat) := by
  rw [rng0, List.filter_map, List.map_map]
  unfold bpl
  rfl
theorem srcs_rng {ts : List P2} {n : Int} : ((rngL 0 n.toNat).filter (pU ts n)).map idP = (srcs ts n).map PV.int := by
  rw [rng0, List.filter_map, List.map_map]
  unfold srcs
  rw [List.filter_map, List.map_map]
  rfl
theorem atI_prs {bs : List P2} {k : Nat} {p : P2} (h : bs[k]? = some p) : atI (bs.map prV) (k : Nat) = some (prV p) := by
  have hl := (List.getElem?_eq_some_iff.mp h).1
  rw [atI_at (by rw [List.length_map]; exact hl), List.getElem_map, (List.getElem?_eq_some_iff.mp h).2]
theorem any_pair {ts : List P2} {u n : Int} : ((ts.map prV).any fun z => deq z (.tup [.int u, .int n])) = decide ((u, n) ∈ ts) := by
  rw [Bool.eq_iff_iff, List.any_eq_true, decide_eq_true_eq]
  constructor
  · rintro ⟨z, hz, e⟩
    obtain ⟨p, hp, rfl⟩ := List.mem_map.mp hz
    have : p = (u, n) := by
      unfold prV at e
      simp [deq, deqs] at e
      exact Prod.ext e.1 e.2
    rw [← this]; exact hp
  · intro h
    exact ⟨_, List.mem_map.mpr ⟨_, h, rfl⟩, by unfold prV; simp [deq, deqs]⟩
theorem flat_prs {ts : List P2} : (ts.map prV).all (flat 8) = true := by
  rw [List.all_eq_true]
  intro y hy
  obtain ⟨p, _, rfl⟩ := List.mem_map.mp hy
  rfl
theorem comp_inv {ok : PHp → Prop} {g : TG'} {tt : TT'} {te : TE'} {acc : Addr} {Q : VK'} {xs : List PV} (I : Nat → St' → PHp → Prop)
    (hs : ∀ (i : Nat) (x : PV) (σ : St') (H : PHp) (R : St' → PHp → Prop), xs[i]? = some x → I i σ H → (∀ σ' H', I (i + 1) σ' H' → R σ' H') →
      ok H ∧ g x σ H fun σ3 H2 => tt σ3 H2 fun b H3 => cif b (te σ3 H3 fun y H4 => ∃ l', H4 acc = some (.lst l') ∧ l'.length < sizeLine ∧ R σ3 (put H4 acc (.lst (l' ++ [y])))) (R σ3 H3))
    (hq : ∀ σ H, I xs.length σ H → ok H ∧ Q (.ref acc) H) {σ : St'} {H : PHp} (h0 : I 0 σ H) : uCompL ok g tt te acc Q xs σ H := by
  have key : ∀ (r d : List PV) (σ : St') (H : PHp), xs = d ++ r → I d.length σ H → uCompL ok g tt te acc Q r σ H := by
    intro r
    induction r with
    | nil =>
      intro d σ H e hv
      rw [List.append_nil] at e
      subst e
      exact hq σ H hv
    | cons x r ih =>
      intro d σ H e hv
      refine hs d.length x σ H _ (by rw [e]; simp) hv fun σ' H' h' => ?_
      exact ih (d ++ [x]) σ' H' (by rw [e]; simp) (by rw [List.length_append]; exact h')
  exact key xs [] σ H rfl h0
def RowW (H0 H1 : PHp) (p : Addr) (y : PV) (ws : List Int) : Prop := ∃ r, y = .ref r ∧ H1 r = some (.lst (ws.map PV.int)) ∧ r ≠ p ∧ H0 r = none
def sp_lrows : Sp' := fun vs H Q _ => match vs with
  | [.int cell, .int m, .int z, .bl f] => (1 ≤ m ∧ m ≤ 400) ∧ (1 ≤ z ∧ z ≤ 4) ∧ ∀ p H1 ys Rw, Sub H H1 → H p = none → H1 p = some (.lst ys) → Paired (RowW H H1 p) ys Rw → (Rw.length : Int) = m → (∀ ws ∈ Rw, Shr ws ∧ (ws.length : Int) = z) → Q (.ref p) H1
  | _ => False
theorem e_lrows {cell m z : Int} {f : Bool} {H : PHp} {Q : VK'} {E : XK'} : sp_lrows [.int cell, .int m, .int z, .bl f] H Q E = ((1 ≤ m ∧ m ≤ 400) ∧ (1 ≤ z ∧ z ≤ 4) ∧ ∀ p H1 ys Rw, Sub H H1 → H p = none → H1 p = some (.lst ys) → Paired (RowW H H1 p) ys Rw → (Rw.length : Int) = m → (∀ ws ∈ Rw, Shr ws ∧ (ws.length : Int) = z) → Q (.ref p) H1) := rfl
theorem pd_snoc {α β : Type} {R : α → β → Prop} {x : α} {y : β} (h : R x y) : ∀ {l : List α} {m : List β}, Paired R l m → Paired R (l ++ [x]) (m ++ [y]) := by
  intro l m p
  induction p with
  | nil => exact .cons h .nil
  | cons a _ ih => exact .cons a ih
theorem pd_len {α β : Type} {R : α → β → Prop} {l : List α} {m : List β} (p : Paired R l m) : l.length = m.length := by
  induction p with
  | nil => rfl
  | cons _ _ ih => rw [List.length_cons, List.length_cons, ih]
theorem pd_imp {α β : Type} {R S : α → β → Prop} (h : ∀ x y, R x y → S x y) {l : List α} {m : List β} (p : Paired R l m) : Paired S l m := by
  induction p with
  | nil => exact .nil
  | cons a _ ih => exact .cons (h _ _ a) ih
def RowR (H : PHp) (y : PV) (ws : List Int) : Prop := ∃ r, y = .ref r ∧ H r = some (.lst (ws.map PV.int))
def TabR (H : PHp) (z : PV) (Rw : List (List Int)) : Prop := ∃ r ys, z = .ref r ∧ H r = some (.lst ys) ∧ Paired (RowR H) ys Rw
def tbT (Rw : List (List Int)) : PV := .tup (Rw.map shT)
def sp_told : Sp' := fun vs H Q _ => match vs with
  | [.tup [.ref a, .ref b, .ref d]] => ∃ (ns : List Int) (Hd : List (List Int)) (Tb : List (List (List Int))) (ys zs : List PV), H a = some (.lst (ns.map PV.int)) ∧ H b = some (.lst ys) ∧ H d = some (.lst zs) ∧ Paired (RowR H) ys Hd ∧ Paired (TabR H) zs Tb ∧ ((∀ ws ∈ Hd, Shr ws) ∧ Hd.length ≤ 6) ∧ ((∀ Rw ∈ Tb, Rw.length ≤ 400 ∧ ∀ ws ∈ Rw, Shr ws) ∧ Tb.length ≤ 6) ∧ Q (.tup [.tup (ns.map PV.int), .tup (Hd.map shT), .tup (Tb.map tbT)]) H
  | _ => False
theorem e_told {a b d : Addr} {H : PHp} {Q : VK'} {E : XK'} : sp_told [.tup [.ref a, .ref b, .ref d]] H Q E = ∃ (ns : List Int) (Hd : List (List Int)) (Tb : List (List (List Int))) (ys zs : List PV), H a = some (.lst (ns.map PV.int)) ∧ H b = some (.lst ys) ∧ H d = some (.lst zs) ∧ Paired (RowR H) ys Hd ∧ Paired (TabR H) zs Tb ∧ ((∀ ws ∈ Hd, Shr ws) ∧ Hd.length ≤ 6) ∧ ((∀ Rw ∈ Tb, Rw.length ≤ 400 ∧ ∀ ws ∈ Rw, Shr ws) ∧ Tb.length ≤ 6) ∧ Q (.tup [.tup (ns.map PV.int), .tup (Hd.map shT), .tup (Tb.map tbT)]) H := rfl
def unI (y : PV) : Int := match y with | .int i => i | _ => 0
theorem un_map {l : List Int} : (l.map PV.int).map unI = l := by
  rw [List.map_map]; exact List.map_id'' (fun _ => rfl) l
def fR (H : PHp) (y : PV) : PV := match y with
  | .ref r => (match H r with | some (.lst l) => shT (l.map unI) | _ => .non)
  | _ => .non
theorem fR_row {H : PHp} {y : PV} {ws : List Int} (h : RowR H y ws) : fR H y = shT ws := by
  obtain ⟨r, rfl, e⟩ := h
  show (match H r with | some (.lst l) => shT (l.map unI) | _ => .non) = _
  rw [e]
  show shT ((ws.map PV.int).map unI) = _
  rw [un_map]
theorem rows_fR {H : PHp} {ys : List PV} {Rw : List (List Int)} (p : Paired (RowR H) ys Rw) : ((ys.filter fun _ => true).map (fR H)) = Rw.map shT := by
  rw [List.filter_eq_self.mpr (fun _ _ => rfl)]
  induction p with
  | nil => rfl
  | cons a _ ih => rw [List.map_cons, List.map_cons, ih, fR_row a]
theorem le_mul1 {a b : Int} (h0 : 0 ≤ a) (h1 : 1 ≤ b) : a ≤ a * b := by
  have := Int.mul_le_mul_of_nonneg_left h1 h0
  rwa [Int.mul_one] at this
theorem prod_app {a b : List Int} : prod (a ++ b) = prod a * prod b := by
  refine snoc_ind (P := fun b => prod (a ++ b) = prod a * prod b) (by rw [List.append_nil]; exact (Int.mul_one _).symm) (fun l n ih => ?_) b
  rw [← List.append_assoc, prod_snoc, prod_snoc, ih, Int.mul_assoc]
theorem prod_pos : ∀ {l : List Int}, (∀ n ∈ l, 1 ≤ n) → 1 ≤ prod l := fun {l} => by
  refine snoc_ind (P := fun l => (∀ n ∈ l, 1 ≤ n) → 1 ≤ prod l) (fun _ => Int.le_refl _) (fun l n ih h => ?_) l
  rw [prod_snoc]
  have a := ih fun x hx => h x (List.mem_append_left _ hx)
  have b := h n (List.mem_append_right _ List.mem_cons_self)
  exact Int.le_trans a (le_mul1 (by omega) b)
theorem prod_take {l : List Int} (h : ∀ n ∈ l, 1 ≤ n) (k : Nat) : prod (l.take k) ≤ prod l ∧ 1 ≤ prod (l.take k) := by
  have a := prod_pos (l := l.take k) fun x hx => h x (List.mem_of_mem_take hx)
  have b := prod_pos (l := l.drop k) fun x hx => h x (List.mem_of_mem_drop hx)
  have e : prod l = prod (l.take k) * prod (l.drop k) := by rw [← prod_app, List.take_append_drop]
  exact ⟨by rw [e]; exact le_mul1 (by omega) b, a⟩
theorem mul_mono {a b c d : Int} (ha : 0 ≤ a) (hc : 0 ≤ c) (h1 : a ≤ b) (h2 : c ≤ d) : a * c ≤ b * d := Int.mul_le_mul h1 h2 hc (by omega)
theorem prod_sel {α : Type} {p : α → Bool} {f : α → Int} : ∀ {L : List α}, (∀ x ∈ L, 1 ≤ f x) → prod ((L.filter p).map f) ≤ prod (L.map f) := fun {L} => by
  refine snoc_ind (P := fun L => (∀ x ∈ L, 1 ≤ f x) → prod ((L.filter p).map f) ≤ prod (L.map f)) (fun _ => Int.le_refl _) (fun l n ih h => ?_) L
  have a := ih fun x hx => h x (List.mem_append_left _ hx)
  have b := h n (List.mem_append_right _ List.mem_cons_self)
  have c := prod_pos (l := (l.filter p).map f) fun y hy => by
    obtain ⟨x, hx, rfl⟩ := List.mem_map.mp hy
    exact h x (List.mem_append_left _ (List.mem_filter.mp hx).1)
  rw [List.filter_append, List.map_append, List.map_append, prod_app, prod_app]
  refine mul_mono (by omega) ?_ a ?_
  · rw [List.filter_cons, List.filter_nil]
    split
    · show 0 ≤ prod [f n]; unfold prod; simp; omega
    · show (0 : Int) ≤ 1; decide
  · rw [List.filter_cons, List.filter_nil]
    split
    · exact Int.le_refl _
    · show 1 ≤ prod [f n]; unfold prod; simp; omega
def hdz (ns : List Int) (Hd : List (List Int)) (ts bs : List P2) (n : Int) : List Int := ssz ns ts n ++ hsz Hd bs n
structure Wld (c : Int) (ts bs : List P2) (ns : List Int) (Hd : List (List Int)) (Tb : List (List (List Int))) : Prop where
  ln : (ns.length : Int) = c
  n4 : ∀ n ∈ ns, 2 ≤ n ∧ n ≤ 4
  lh : Hd.length = bs.length
  h4 : ∀ ws ∈ Hd, Shr ws ∧ 1 ≤ ws.length ∧ ws.length ≤ 4
  lt : Tb.length = ns.length
  most : prod ns * prod (Hd.map fun ws => (ws.length : Int)) ≤ 200000
  tb : ∀ (k : Nat) Rw, Tb[k]? = some Rw → (Rw.length : Int) = prod (hdz ns Hd ts bs (k : Nat)) ∧ Rw.length ≤ 400 ∧ ∀ ws ∈ Rw, Shr ws ∧ (ws.length : Int) = ns.getD k 0
theorem hdz_pos {c : Int} {ts bs : List P2} {ns : List Int} {Hd : List (List Int)} (ln : (ns.length : Int) = c) (n4 : ∀ n ∈ ns, 2 ≤ n ∧ n ≤ 4) (lh : Hd.length = bs.length) (h4 : ∀ ws ∈ Hd, Shr ws ∧ 1 ≤ ws.length ∧ ws.length ≤ 4) (g : Good c ts) (n : Int) : ∀ x ∈ hdz ns Hd ts bs n, 1 ≤ x ∧ x ≤ 4 := fun x hx => by
  unfold hdz ssz hsz at hx
  rcases List.mem_append.mp hx with hx | hx
  · obtain ⟨u, hu, rfl⟩ := List.mem_map.mp hx
    obtain ⟨p, hp, rfl⟩ := List.mem_map.mp hu
    have b := g.lo p (List.mem_filter.mp hp).1
    have hk : p.1.toNat < ns.length := by omega
    rw [List.getD_eq_getElem?_getD, List.getElem?_eq_getElem hk]
    have := n4 _ (List.getElem_mem hk)
    exact ⟨by show 1 ≤ ns[p.1.toNat]; omega, this.2⟩
  · obtain ⟨k, hk, rfl⟩ := List.mem_map.mp hx
    have hk2 : k < Hd.length := by rw [lh]; exact bpl_lt hk
    rw [List.getD_eq_getElem?_getD, List.getElem?_eq_getElem hk2]
    have := h4 _ (List.getElem_mem hk2)
    exact ⟨by show (1 : Int) ≤ ((Hd[k]).length : Nat); omega, by show ((Hd[k].length : Nat) : Int) ≤ 4; omega⟩
theorem Wld.pos {c : Int} {ts bs : List P2} {ns : List Int} {Hd : List (List Int)} {Tb : List (List (List Int))} (h : Wld c ts bs ns Hd Tb) (g : Good c ts) (n : Int) : ∀ x ∈ hdz ns Hd ts bs n, 1 ≤ x ∧ x ≤ 4 := hdz_pos h.ln h.n4 h.lh h.h4 g n
theorem hdz_len {ns : List Int} {Hd : List (List Int)} {ts bs : List P2} {n : Int} : (hdz ns Hd ts bs n).length ≤ ts.length + bs.length := by
  unfold hdz ssz hsz
  rw [List.length_append, List.length_map, List.length_map, List.length_map]
  have a : (ts.filter fun p => decide (p.2 = n)).length ≤ ts.length := List.length_filter_le _ _
  have b := bpl_len (bs := bs) (n := n)
  omega
def sp_tables (t : Ad) : Sp' := fun vs H Q _ => match vs with
  | [.ref x, .tup k, .tup l, .tup m] => ∃ dx c ts bs ns Hd Tb, H x = some (.ins t.a_Drawing dx (DF c ts bs)) ∧ k = ns.map PV.int ∧ l = Hd.map shT ∧ m = Tb.map tbT ∧ Shp c ts bs ∧ Wld c ts bs ns Hd Tb ∧ Q (.bl true) H
  | _ => False
theorem e_tables {x : Addr} {k l m : List PV} {H : PHp} {Q : VK'} {E : XK'} : sp_tables t [.ref x, .tup k, .tup l, .tup m] H Q E = ∃ dx c ts bs ns Hd Tb, H x = some (.ins t.a_Drawing dx (DF c ts bs)) ∧ k = ns.map PV.int ∧ l = Hd.map shT ∧ m = Tb.map tbT ∧ Shp c ts bs ∧ Wld c ts bs ns Hd Tb ∧ Q (.bl true) H := rfl
def RowQ (H : PHp) (y : PV) (ws : List Int) : Prop := Seq H y (ws.map fun w => prV (shr ws.sum w))
def TabQ (H : PHp) (z : PV) (Rw : List (List Int)) : Prop := ∃ ys, Seq H z ys ∧ Paired (RowQ H) ys Rw
def WF (y w : Addr) (ns : List Int) (Hd : List (List Int)) (Tb : List (List (List Int))) : List (Str × PV) := [("drawing", .ref y), ("sizes", .tup (ns.map PV.int)), ("hidden", .tup (Hd.map shT)), ("tables", .tup (Tb.map tbT)), ("weighed", .ref w)]
def sp_winit (t : Ad) : Sp' := fun vs H Q _ => match vs with
  | [.ref x, .ref d0, .ref a, .ref b, .ref d] => ∃ dx d1 c ts bs ns Hd Tb ys zs, H x = some (.ins t.a_World dx []) ∧ H d0 = some (.ins t.a_Drawing d1 (DF c ts bs)) ∧ H a = some (.lst (ns.map PV.int)) ∧ H b = some (.lst ys) ∧ H d = some (.lst zs) ∧ Paired (RowQ H) ys Hd ∧ Paired (TabQ H) zs Tb ∧ Shp c ts bs ∧ Wld c ts bs ns Hd Tb ∧
    ∀ y dy w H1, (∀ a u, a ≠ x → H a = some u → H1 a = some u) → H1 x = some (.ins t.a_World dx (WF y w ns Hd Tb)) → H1 y = some (.ins t.a_Drawing dy (DF c ts bs)) → H y = none → Q .non H1
  | _ => False
theorem e_winit {x d0 a b d : Addr} {H : PHp} {Q : VK'} {E : XK'} : sp_winit t [.ref x, .ref d0, .ref a, .ref b, .ref d] H Q E = ∃ dx d1 c ts bs ns Hd Tb ys zs, H x = some (.ins t.a_World dx []) ∧ H d0 = some (.ins t.a_Drawing d1 (DF c ts bs)) ∧ H a = some (.lst (ns.map PV.int)) ∧ H b = some (.lst ys) ∧ H d = some (.lst zs) ∧ Paired (RowQ H) ys Hd ∧ Paired (TabQ H) zs Tb ∧ Shp c ts bs ∧ Wld c ts bs ns Hd Tb ∧
    ∀ y dy w H1, (∀ a u, a ≠ x → H a = some u → H1 a = some u) → H1 x = some (.ins t.a_World dx (WF y w ns Hd Tb)) → H1 y = some (.ins t.a_Drawing dy (DF c ts bs)) → H y = none → Q .non H1 := rfl
theorem shT_eq {ws : List Int} : shT ws = .tup ((ws.map (shr ws.sum)).map prV) := by unfold shT; rw [List.map_map]; rfl
theorem RowQ.cp {H : PHp} {y : PV} {ws : List Int} (h : RowQ H y ws) : Seq H y ((ws.map (shr ws.sum)).map prV) := by rw [List.map_map]; exact h
theorem RowQ.tp {H : PHp} {y : PV} {ws : List Int} (h : RowQ H y ws) : rowT H y = shT ws := by
  rcases h with rfl | ⟨r, rfl, e⟩
  · rfl
  · exact rowT_ref e
theorem RowQ.up {H H1 : PHp} (s : U.Sub H H1) {ys : List PV} {Hd : List (List Int)} (h : Paired (RowQ H) ys Hd) : Paired (RowQ H1) ys Hd := pd_imp (fun _ _ r => Seq.up r s) h
theorem rows_q {H : PHp} {ys : List PV} {Hd : List (List Int)} (h : Paired (RowQ H) ys Hd) : ((ys.filter fun _ => true).map (rowT H)) = Hd.map shT := by
  rw [List.filter_eq_self.mpr (fun _ _ => rfl)]
  induction h with
  | nil => rfl
  | cons a _ ih => rw [List.map_cons, List.map_cons, ih, RowQ.tp a]
def fL (y : PV) : PV := match y with | .tup l => .int (l.length : Nat) | _ => .non
theorem len_sh {Hd : List (List Int)} : (((Hd.map shT).filter fun _ => true).map fL) = (Hd.map fun ws => ((ws.length : Nat) : Int)).map PV.int := by
  rw [List.filter_eq_self.mpr (fun _ _ => rfl), List.map_map, List.map_map]
  refine List.map_congr_left fun ws _ => ?_
  show PV.int _ = PV.int _
  rw [List.length_map]
theorem prod_one {n : Int} {l : List Int} : prod (n :: l) = n * prod l := by
  have := prod_app (a := [n]) (b := l)
  rw [List.singleton_append] at this
  rw [this]
  show (1 * n) * prod l = _
  rw [Int.one_mul]
theorem prod_set {l : List Int} {i : Nat} {v s : Int} (h : l[i]? = some v) : prod (l.set i s) * v = prod l * s := by
  obtain ⟨hi, rfl⟩ := List.getElem?_eq_some_iff.mp h
  have e : prod l = prod (l.take i) * (l[i] * prod (l.drop (i + 1))) := by
    rw [← prod_one, ← prod_app, ← List.drop_eq_getElem_cons hi, List.take_append_drop]
  rw [List.set_eq_take_append_cons_drop, if_pos hi, prod_app, prod_one, e]
  simp only [Int.mul_assoc, Int.mul_comm, Int.mul_left_comm]
theorem rng_getD {α : Type} {l : List α} {d : α} {n : Nat} (h : n ≤ l.length) : (List.range n).map (fun k => l.getD k d) = l.take n := by
  refine List.ext_getElem (by rw [List.length_map, List.length_range, List.length_take]; omega) fun i h1 h2 => ?_
  rw [List.getElem_map, List.getElem_range, List.getElem_take, List.getD_eq_getElem?_getD, List.getElem?_eq_getElem (by rw [List.length_take] at h2; omega)]
  rfl
theorem hdz_eq {c n : Int} {ts bs : List P2} {ns : List Int} {Hd : List (List Int)} (hs : Shp c ts bs) (hn : n < c) : hdz ns Hd ts bs n = ((srcs ts n).map fun u => ns.getD u.toNat 0) ++ hsz Hd bs n := by
  unfold hdz ssz srcs
  rw [DM.src_eq hs.hc.2 hs.gt hs.st hn]
theorem hdz_le {c n : Int} {ts bs : List P2} {ns : List Int} {Hd : List (List Int)} (hs : Shp c ts bs) (hn : 0 ≤ n ∧ n < c) (ln : (ns.length : Int) = c) (n4 : ∀ n ∈ ns, 2 ≤ n ∧ n ≤ 4) (lh : Hd.length = bs.length) (h4 : ∀ ws ∈ Hd, Shr ws ∧ 1 ≤ ws.length ∧ ws.length ≤ 4) : 1 ≤ prod (hdz ns Hd ts bs n) ∧ prod (hdz ns Hd ts bs n) ≤ prod ns * prod (Hd.map fun ws => (ws.length : Int)) := by
  have pos := hdz_pos ln n4 lh h4 hs.gt n
  refine ⟨prod_pos fun x hx => (pos x hx).1, ?_⟩
  have p1 := prod_pos (l := ssz ns ts n) fun x hx => (pos x (List.mem_append_left _ hx)).1
  have p2 := prod_pos (l := hsz Hd bs n) fun x hx => (pos x (List.mem_append_right _ hx)).1
  unfold hdz
  rw [prod_app]
  have n1 : ∀ k : Nat, k < ns.length → 1 ≤ ns.getD k 0 := fun k hk => by
    rw [List.getD_eq_getElem?_getD, List.getElem?_eq_getElem hk]
    have := n4 _ (List.getElem_mem hk)
    show 1 ≤ ns[k]
    omega
  refine mul_mono (by omega) (by omega) ?_ ?_
  · unfold ssz
    rw [DM.src_eq hs.hc.2 hs.gt hs.st hn.2]
    refine Int.le_trans (prod_sel fun x hx => ?_) ?_
    · obtain ⟨k, hk, rfl⟩ := List.mem_map.mp hx
      have := List.mem_range.mp hk
      exact n1 _ (by rw [Int.toNat_natCast]; omega)
    · rw [List.map_map]
      have e : (List.range n.toNat).map ((fun u : Int => ns.getD u.toNat 0) ∘ fun k : Nat => (k : Int)) = ns.take n.toNat := by
        rw [← rng_getD (d := 0) (show n.toNat ≤ ns.length by omega)]
        rfl
      rw [e]
      exact (prod_take (fun x hx => by have := n4 x hx; omega) _).1
  · unfold hsz bpl
    refine Int.le_trans (prod_sel fun k hk => ?_) ?_
    · have hk2 : k < Hd.length := by rw [lh]; exact List.mem_range.mp hk
      rw [List.getD_eq_getElem?_getD, List.getElem?_eq_getElem hk2]
      have := h4 _ (List.getElem_mem hk2)
      show (1 : Int) ≤ ((Hd[k]).length : Nat)
      omega
    · have e : (List.range bs.length).map (fun k => ((Hd.getD k []).length : Int)) = Hd.map fun ws => (ws.length : Int) := by
        have := congrArg (List.map fun ws : List Int => (ws.length : Int)) (rng_getD (l := Hd) (d := []) (n := bs.length) (by omega))
        rw [List.map_map, ← lh, List.take_length] at this
        rw [← lh]
        exact this
      rw [e]
      exact Int.le_refl _
def Kx (p : Addr) (H H1 : PHp) : Prop := ∀ a u, a ≠ p → H a = some u → H1 a = some u
def RowX (p : Addr) (H : PHp) (y : PV) (ws : List Int) : Prop := ∃ r, y = .ref r ∧ r ≠ p ∧ H r = some (.lst (ws.map PV.int))
def TabX (p : Addr) (H : PHp) (z : PV) (Rw : List (List Int)) : Prop := ∃ r ys, z = .ref r ∧ r ≠ p ∧ H r = some (.lst ys) ∧ Paired (RowX p H) ys Rw
theorem RowX.up {p : Addr} {H H1 : PHp} (k : Kx p H H1) {ys : List PV} {Hd : List (List Int)} (h : Paired (RowX p H) ys Hd) : Paired (RowX p H1) ys Hd := pd_imp (fun _ _ ⟨r, e, n, q⟩ => ⟨r, e, n, k _ _ n q⟩) h
theorem TabX.up {p : Addr} {H H1 : PHp} (k : Kx p H H1) {ys : List PV} {Tb : List (List (List Int))} (h : Paired (TabX p H) ys Tb) : Paired (TabX p H1) ys Tb := pd_imp (fun _ _ ⟨r, ys, e, n, q, w⟩ => ⟨r, ys, e, n, k _ _ n q, RowX.up k w⟩) h
def sp_world : Sp' := fun vs H Q _ => match vs with
  | [.fls l, .int k, .tup [.int c, .tup tv, .tup bv], .int m] => ∃ (is : List Int) (ts bs : List P2), l = is.map PV.int ∧ tv = ts.map prV ∧ bv = bs.map prV ∧ (0 ≤ k ∧ k ≤ 10) ∧ m = 300 ∧ Shp c ts bs ∧
    ∀ a b d ns Hd Tb ys zs H1, Sub H H1 → H1 a = some (.lst (ns.map PV.int)) → H1 b = some (.lst ys) → H1 d = some (.lst zs) → Paired (RowR H1) ys Hd → Paired (TabR H1) zs Tb → Wld c ts bs ns Hd Tb → Q (.tup [.ref a, .ref b, .ref d]) H1
  | _ => False
theorem e_world {l tv bv : List PV} {k c m : Int} {H : PHp} {Q : VK'} {E : XK'} : sp_world [.fls l, .int k, .tup [.int c, .tup tv, .tup bv], .int m] H Q E = ∃ (is : List Int) (ts bs : List P2), l = is.map PV.int ∧ tv = ts.map prV ∧ bv = bs.map prV ∧ (0 ≤ k ∧ k ≤ 10) ∧ m = 300 ∧ Shp c ts bs ∧
    ∀ a b d ns Hd Tb ys zs H1, Sub H H1 → H1 a = some (.lst (ns.map PV.int)) → H1 b = some (.lst ys) → H1 d = some (.lst zs) → Paired (RowR H1) ys Hd → Paired (TabR H1) zs Tb → Wld c ts bs ns Hd Tb → Q (.tup [.ref a, .ref b, .ref d]) H1 := rfl
theorem ix4c {d : Int} (h0 : 0 ≤ d) (h : d < 4) : ∃ e, atI [PV.int 2, PV.int 2, PV.int 3, PV.int 4] d = some (.int e) ∧ 2 ≤ e ∧ e ≤ 4 := by
  rcases (show d = 0 ∨ d = 1 ∨ d = 2 ∨ d = 3 by omega) with rfl | rfl | rfl | rfl
  · exact ⟨2, rfl, by decide⟩
  · exact ⟨2, rfl, by decide⟩
  · exact ⟨3, rfl, by decide⟩
  · exact ⟨4, rfl, by decide⟩
theorem ix5c {d : Int} (h0 : 0 ≤ d) (h : d < 5) : ∃ e, atI [PV.int 1, PV.int 2, PV.int 2, PV.int 3, PV.int 4] d = some (.int e) ∧ 1 ≤ e ∧ e ≤ 4 := by
  rcases (show d = 0 ∨ d = 1 ∨ d = 2 ∨ d = 3 ∨ d = 4 by omega) with rfl | rfl | rfl | rfl | rfl
  · exact ⟨1, rfl, by decide⟩
  · exact ⟨2, rfl, by decide⟩
  · exact ⟨2, rfl, by decide⟩
  · exact ⟨3, rfl, by decide⟩
  · exact ⟨4, rfl, by decide⟩
structure Sz (c : Int) (i : Nat) (ns : List Int) : Prop where
  ln : ns.length = c.toNat
  n4 : ∀ n ∈ ns, 2 ≤ n ∧ n ≤ 4
  tw : ∀ j, i ≤ j → j < ns.length → ns[j]? = some 2
  le : prod ns ≤ 150
theorem Sz.zero {c : Int} (h : 1 ≤ c ∧ c ≤ 6) : Sz c 0 (List.replicate c.toNat 2) ∧ prod (List.replicate c.toNat 2) = 1 * 2 ^ c.toNat := by
  refine ⟨⟨List.length_replicate, fun n hn => by rw [(List.mem_replicate.mp hn).2]; decide, fun j _ hj => by rw [List.length_replicate] at hj; exact List.getElem?_replicate_of_lt hj, ?_⟩, ?_⟩
  · rcases (show c = 1 ∨ c = 2 ∨ c = 3 ∨ c = 4 ∨ c = 5 ∨ c = 6 by omega) with rfl | rfl | rfl | rfl | rfl | rfl <;> decide
  · rcases (show c = 1 ∨ c = 2 ∨ c = 3 ∨ c = 4 ∨ c = 5 ∨ c = 6 by omega) with rfl | rfl | rfl | rfl | rfl | rfl <;> decide
theorem Sz.up {c : Int} {i : Nat} {ns : List Int} (h : Sz c i ns) : Sz c (i + 1) ns := ⟨h.ln, h.n4, fun j hj hl => h.tw j (by omega) hl, h.le⟩
theorem Sz.half {c : Int} {i : Nat} {ns : List Int} (h : Sz c i ns) (hi : i < ns.length) (s : Int) : (prod ns).fdiv 2 * s = prod (ns.set i s) := by
  have q := prod_set (s := s) (h.tw i (Nat.le_refl _) hi)
  have o := prod_set (s := 1) (h.tw i (Nat.le_refl _) hi)
  rw [Int.mul_one] at o
  rw [← o, Int.mul_fdiv_cancel _ (by decide)]
  rw [← o] at q
  have : prod (ns.set i s) * 2 = (prod (ns.set i 1) * s) * 2 := by rw [q]; simp only [Int.mul_assoc, Int.mul_comm, Int.mul_left_comm]
  omega
theorem Sz.set {c : Int} {i : Nat} {ns : List Int} (h : Sz c i ns) {s : Int} (hs : 2 ≤ s ∧ s ≤ 4) (hl : prod (ns.set i s) ≤ 150) : Sz c (i + 1) (ns.set i s) := by
  refine ⟨by rw [List.length_set]; exact h.ln, fun n hn => ?_, fun j hj hl => ?_, hl⟩
  · rcases List.mem_or_eq_of_mem_set hn with hn | rfl
    · exact h.n4 n hn
    · exact hs
  · rw [List.length_set] at hl
    rw [List.getElem?_set_ne (by omega)]
    exact h.tw j (by omega) hl
theorem prod_next {Z : List Int} {m : Nat} {v : Int} (h : Z[m]? = some v) : prod (Z.take (m + 1)) = prod (Z.take m) * v := by
  rw [List.take_add_one, h]
  exact prod_snoc
theorem len_map {Hd : List (List Int)} {ws : List Int} : prod ((Hd ++ [ws]).map fun ws : List Int => (ws.length : Int)) = prod (Hd.map fun ws : List Int => (ws.length : Int)) * (ws.length : Int) := by
  rw [List.map_append]
  exact prod_snoc
theorem get_snoc {α : Type} {l : List α} {x y : α} {k : Nat} (h : (l ++ [x])[k]? = some y) : l[k]? = some y ∨ (k = l.length ∧ y = x) := by
  rcases Nat.lt_trichotomy k l.length with q | q | q
  · rw [List.getElem?_append_left q] at h; exact .inl h
  · rw [List.getElem?_append_right (by omega), q, Nat.sub_self] at h
    exact .inr ⟨q, (Option.some.inj h).symm⟩
  · rw [List.getElem?_eq_none (by rw [List.length_append]; simp; omega)] at h
    cases h
theorem srcs_lt {ts : List P2} {n u : Int} (h : u ∈ srcs ts n) : 0 ≤ u ∧ u < n := by
  obtain ⟨k, hk, rfl⟩ := List.mem_map.mp (List.mem_filter.mp h).1
  have := List.mem_range.mp hk
  omega
def shs (ws : List Int) : List PV := ws.map fun w => prV (shr ws.sum w)
def fb (b : Int) : Bool := decide (b.fmod 2 = 1)
def gb (b : Int) : Bool := decide ((b.fdiv 2).fmod 2 = 1)
def bj (b : Int) : Nat → Int
  | 0 => b
  | n + 1 => (bj b n).fdiv 4
def RowK (f : Bool) (N : Addr → Prop) (H : PHp) (y : PV) (ws : List Int) : Prop := (f = true ∧ y = shT ws) ∨ (f = false ∧ ∃ r, y = .ref r ∧ ¬ N r ∧ H r = some (.lst (shs ws)))
def TabK (f g : Bool) (N : Addr → Prop) (d : Addr) (H : PHp) (z : PV) (Rw : List (List Int)) : Prop := ∃ ys, Paired (RowK f N H) ys Rw ∧ ((g = true ∧ z = .tup ys) ∨ (g = false ∧ ∃ t, z = .ref t ∧ t ≠ d ∧ N t ∧ H t = some (.lst ys)))
theorem RowK.imp {f : Bool} {N N' : Addr → Prop} {H H' : PHp} (k : ∀ r u, ¬ N r → H r = some u → ¬ N' r ∧ H' r = some u) {ys : List PV} {Rw : List (List Int)} (h : Paired (RowK f N H) ys Rw) : Paired (RowK f N' H') ys Rw :=
  pd_imp (fun _ _ q => q.elim .inl fun ⟨e, r, e1, n, e2⟩ => .inr ⟨e, r, e1, (k r _ n e2).1, (k r _ n e2).2⟩) h
theorem TabK.imp {f g : Bool} {N N' : Addr → Prop} {d : Addr} {H H' : PHp} (k : ∀ r u, ¬ N r → H r = some u → ¬ N' r ∧ H' r = some u) (m : ∀ r u, r ≠ d → N r → H r = some u → N' r ∧ H' r = some u) {z : PV} {Rw : List (List Int)} (h : TabK f g N d H z Rw) : TabK f g N' d H' z Rw := by
  obtain ⟨ys, p, q⟩ := h
  refine ⟨ys, RowK.imp k p, q.elim .inl fun ⟨e, t, e1, n, nt, e2⟩ => .inr ⟨e, t, e1, n, (m t _ n nt e2).1, (m t _ n nt e2).2⟩⟩
structure Hnd (bits : Int) (N : Addr → Prop) (d : Addr) (H : PHp) (zs : List PV) (Tb : List (List (List Int))) : Prop where
  nd : N d
  ls : ∀ x, N x → H x ≠ none
  tb : ∀ i z Rw, zs[i]? = some z → Tb[i]? = some Rw → TabK (fb (bj bits i)) (gb (bj bits i)) N d H z Rw
def sp_handed : Sp' := fun vs H Q _ => match vs with
  | [.tup [.tup a, .tup b, .tup c], .int bits] => ∃ (ns : List Int) (Hd : List (List Int)) (Tb : List (List (List Int))), a = ns.map PV.int ∧ b = Hd.map shT ∧ c = Tb.map tbT ∧ (Hd.length ≤ 6 ∧ Tb.length ≤ 6 ∧ ∀ Rw ∈ Tb, Rw.length ≤ 400) ∧
    ∀ r0 a b d N ys zs H1, Sub H H1 → H1 r0 = some (.lst [.ref a, .ref b, .ref d]) → (a ≠ r0 ∧ b ≠ r0 ∧ d ≠ r0) → (H a = none ∧ H b = none ∧ H d = none) → (∀ x, ¬ N x → H x = none) → N r0 → H1 a = some (.lst (ns.map PV.int)) → H1 b = some (.lst ys) → H1 d = some (.lst zs) → Paired (RowK (fb (bj bits Tb.length)) (fun _ => False) H1) ys Hd → zs.length = Tb.length → (∀ t, PV.ref t ∈ zs → t ≠ r0 ∧ H t = none) → Hnd bits N d H1 zs Tb → Q (.ref r0) H1
  | _ => False
theorem e_handed {a b c : List PV} {bits : Int} {H : PHp} {Q : VK'} {E : XK'} : sp_handed [.tup [.tup a, .tup b, .tup c], .int bits] H Q E = (∃ (ns : List Int) (Hd : List (List Int)) (Tb : List (List (List Int))), a = ns.map PV.int ∧ b = Hd.map shT ∧ c = Tb.map tbT ∧ (Hd.length ≤ 6 ∧ Tb.length ≤ 6 ∧ ∀ Rw ∈ Tb, Rw.length ≤ 400) ∧
    ∀ r0 a b d N ys zs H1, Sub H H1 → H1 r0 = some (.lst [.ref a, .ref b, .ref d]) → (a ≠ r0 ∧ b ≠ r0 ∧ d ≠ r0) → (H a = none ∧ H b = none ∧ H d = none) → (∀ x, ¬ N x → H x = none) → N r0 → H1 a = some (.lst (ns.map PV.int)) → H1 b = some (.lst ys) → H1 d = some (.lst zs) → Paired (RowK (fb (bj bits Tb.length)) (fun _ => False) H1) ys Hd → zs.length = Tb.length → (∀ t, PV.ref t ∈ zs → t ≠ r0 ∧ H t = none) → Hnd bits N d H1 zs Tb → Q (.ref r0) H1) := rfl
theorem ix_last {l : List PV} {x : PV} : ixN (l ++ [x]).length (-1) = some l.length := by
  unfold ixN
  rw [if_neg (by decide), if_pos (by rw [List.length_append]; simp; omega)]
  congr 1
  rw [List.length_append]
  simp
  omega
theorem at_last {l : List PV} {x : PV} : atI (l ++ [x]) (-1) = some x := by
  unfold atI
  rw [ix_last]
  show (l ++ [x])[l.length]? = some x
  rw [List.getElem?_append_right (Nat.le_refl _), Nat.sub_self]
  rfl
theorem set_last {l : List PV} {x y : PV} : (l ++ [x]).set l.length y = l ++ [y] := by
  rw [List.set_append_right _ _ (Nat.le_refl _), Nat.sub_self]
  rfl
def toldV (ns : List Int) (Hd : List (List Int)) (Tb : List (List (List Int))) : PV := .tup [.tup (ns.map PV.int), .tup (Hd.map shT), .tup (Tb.map tbT)]
def Wr (t : Ad) (H : PHp) (x : Addr) (c : Int) (ts bs : List P2) (ns : List Int) (Hd : List (List Int)) (Tb : List (List (List Int))) : Prop := ∃ dx y dy w, H x = some (.ins t.a_World dx (WF y w ns Hd Tb)) ∧ H y = some (.ins t.a_Drawing dy (DF c ts bs))
def sp_right (t : Ad) : Sp' := fun vs H Q _ => match vs with
  | [.ref x, u, v] => ∃ c ts bs ns Hd Tb, Wr t H x c ts bs ns Hd Tb ∧ u = shpV c ts bs ∧ v = toldV ns Hd Tb ∧ Shp c ts bs ∧ Wld c ts bs ns Hd Tb ∧ Q (.bl true) H
  | _ => False
theorem e_right {x : Addr} {u v : PV} {H : PHp} {Q : VK'} {E : XK'} : sp_right t [.ref x, u, v] H Q E = ∃ c ts bs ns Hd Tb, Wr t H x c ts bs ns Hd Tb ∧ u = shpV c ts bs ∧ v = toldV ns Hd Tb ∧ Shp c ts bs ∧ Wld c ts bs ns Hd Tb ∧ Q (.bl true) H := rfl
theorem pd_refl {α : Type} {R : α → α → Prop} : ∀ {l : List α}, (∀ x ∈ l, R x x) → Paired R l l
  | [], _ => .nil
  | x :: l, h => .cons (h x List.mem_cons_self) (pd_refl fun y hy => h y (List.mem_cons_of_mem _ hy))
theorem pd_of {α β : Type} {R : α → β → Prop} : ∀ {l : List α} {m : List β}, l.length = m.length → (∀ (i : Nat) x y, l[i]? = some x → m[i]? = some y → R x y) → Paired R l m
  | [], [], _, _ => .nil
  | [], _ :: _, h, _ => by cases h
  | _ :: _, [], h, _ => by cases h
  | x :: l, y :: m, h, k => .cons (k 0 x y rfl rfl) (pd_of (by simpa using h) fun i a b ha hb => k (i + 1) a b ha hb)
theorem same_tup {H : PHp} {n : Nat} {l : List PV} (h : l.length ≤ 1000) (k : ∀ x ∈ l, Same H n x x) : Same H (n + 1) (.tup l) (.tup l) := ⟨h, pd_refl k⟩
theorem same_int {H : PHp} {n : Nat} {i : Int} : Same H n (.int i) (.int i) := by cases n <;> exact rfl
theorem same_pr {H : PHp} {n : Nat} {p : P2} : Same H (n + 1) (prV p) (prV p) := same_tup (by simp) fun x hx => by
  rcases List.mem_cons.mp hx with rfl | hx
  · exact same_int
  · rw [List.mem_singleton.mp hx]; exact same_int
theorem same_prs {H : PHp} {n : Nat} {ps : List P2} (h : ps.length ≤ 1000) : Same H (n + 2) (.tup (ps.map prV)) (.tup (ps.map prV)) := same_tup (by rw [List.length_map]; exact h) fun x hx => by
  obtain ⟨p, _, rfl⟩ := List.mem_map.mp hx
  exact same_pr
theorem same_ints {H : PHp} {n : Nat} {ns : List Int} (h : ns.length ≤ 1000) : Same H (n + 1) (.tup (ns.map PV.int)) (.tup (ns.map PV.int)) := same_tup (by rw [List.length_map]; exact h) fun x hx => by
  obtain ⟨p, _, rfl⟩ := List.mem_map.mp hx
  exact same_int
theorem shs_len {ws : List Int} (h : Shr ws) : (shs ws).length ≤ 1000 := by
  unfold shs
  rw [List.length_map]
  have := h.2.2.2.2
  omega
theorem same_el {H : PHp} {n : Nat} {ws : List Int} : ∀ x ∈ shs ws, Same H (n + 1) x x := fun x hx => by
  obtain ⟨p, _, rfl⟩ := List.mem_map.mp hx
  exact same_pr
theorem same_sh {H : PHp} {n : Nat} {ws : List Int} (h : Shr ws) : Same H (n + 2) (shT ws) (shT ws) := same_tup (shs_len h) same_el
theorem same_shs {H : PHp} {n : Nat} {Rw : List (List Int)} (h : Rw.length ≤ 1000) (k : ∀ ws ∈ Rw, Shr ws) : Same H (n + 3) (.tup (Rw.map shT)) (.tup (Rw.map shT)) := same_tup (by rw [List.length_map]; exact h) fun x hx => by
  obtain ⟨p, hp, rfl⟩ := List.mem_map.mp hx
  exact same_sh (k p hp)
theorem same_rowK {H : PHp} {n : Nat} {f : Bool} {N N' : Addr → Prop} {ys ys' : List PV} {Rw : List (List Int)} (k : ∀ ws ∈ Rw, Shr ws) (h : Paired (RowK f N H) ys Rw) (h' : Paired (RowK f N' H) ys' Rw) : Paired (Same H (n + 2)) ys ys' := by
  induction h generalizing ys' with
  | nil => cases h'; exact .nil
  | cons a _ ih =>
    cases h' with
    | cons a' p' =>
      refine .cons ?_ (ih (fun ws hw => k ws (List.mem_cons_of_mem _ hw)) p')
      have sw := k _ List.mem_cons_self
      rcases a with ⟨e, rfl⟩ | ⟨e, r, rfl, _, q⟩
      · rcases a' with ⟨_, rfl⟩ | ⟨e', _⟩
        · exact same_sh sw
        · rw [e] at e'; cases e'
      · rcases a' with ⟨e', _⟩ | ⟨_, r', rfl, _, q'⟩
        · rw [e] at e'; cases e'
        · exact ⟨_, _, q, q', shs_len sw, pd_refl same_el⟩
theorem same_tabK {H : PHp} {n : Nat} {f g : Bool} {N N' : Addr → Prop} {d d' : Addr} {z z' : PV} {Rw : List (List Int)} (hl : Rw.length ≤ 1000) (k : ∀ ws ∈ Rw, Shr ws) (h : TabK f g N d H z Rw) (h' : TabK f g N' d' H z' Rw) : Same H (n + 3) z z' := by
  obtain ⟨ys, p, q⟩ := h
  obtain ⟨ys', p', q'⟩ := h'
  have s := same_rowK (n := n) k p p'
  have ll : ys.length ≤ 1000 := by rw [pd_len p]; exact hl
  rcases q with ⟨e, rfl⟩ | ⟨e, r, rfl, _, _, q⟩
  · rcases q' with ⟨_, rfl⟩ | ⟨e', _⟩
    · exact ⟨ll, s⟩
    · rw [e] at e'; cases e'
  · rcases q' with ⟨e', _⟩ | ⟨_, r', rfl, _, _, q'⟩
    · rw [e] at e'; cases e'
    · exact ⟨_, _, q, q', ll, s⟩
theorem rowQ_of {H : PHp} {f : Bool} {N : Addr → Prop} {ys : List PV} {Rw : List (List Int)} (h : Paired (RowK f N H) ys Rw) : Paired (RowQ H) ys Rw := pd_imp (fun _ _ q => q.elim (fun q => .inl q.2) fun ⟨_, r, e, _, q⟩ => .inr ⟨r, e, q⟩) h
theorem tabQ_of {H : PHp} {f g : Bool} {N : Addr → Prop} {d : Addr} {z : PV} {Rw : List (List Int)} (h : TabK f g N d H z Rw) : TabQ H z Rw := by
  obtain ⟨ys, p, q⟩ := h
  exact ⟨ys, q.elim (fun q => .inl q.2) fun ⟨_, r, e, _, _, q⟩ => .inr ⟨r, e, q⟩, rowQ_of p⟩
theorem Hnd.up {bits : Int} {N : Addr → Prop} {d : Addr} {H H1 : PHp} {zs : List PV} {Tb : List (List (List Int))} (h : Hnd bits N d H zs Tb) (s : U.Sub H H1) : Hnd bits N d H1 zs Tb := by
  refine ⟨h.nd, fun x nx e => h.ls x nx (s.free e), fun i z Rw e1 e2 => TabK.imp (fun r u n e => ⟨n, s _ _ e⟩) (fun r u _ n e => ⟨n, s _ _ e⟩) (h.tb i z Rw e1 e2)⟩
structure Mt (H H1 : PHp) : Prop where
  ls : ∀ x l, H x = some (.lst l) → ∃ m, H1 x = some (.lst m)
  el : ∀ x u, H x = some u → (∀ l, u ≠ .lst l) → H1 x = some u
theorem Mt.refl (H : PHp) : Mt H H := ⟨fun _ l e => ⟨l, e⟩, fun _ _ e _ => e⟩
theorem Mt.trans {A B C : PHp} (h : Mt A B) (k : Mt B C) : Mt A C := ⟨fun x l e => let ⟨m, q⟩ := h.ls x l e; k.ls x m q, fun x u e n => k.el x u (h.el x u e n) n⟩
theorem Mt.set {A B : PHp} {p : Addr} {l m : List PV} (h : Mt A B) (e : B p = some (.lst l)) : Mt A (put B p (.lst m)) := by
  refine ⟨fun x k q => ?_, fun x u q n => ?_⟩
  · by_cases xp : x = p
    · rw [xp]; exact ⟨m, put_same⟩
    · rw [put_ne xp]; exact h.ls x k q
  · have b := h.el x u q n
    have xp : x ≠ p := fun z => by rw [z, e] at b; exact n l (Option.some.inj b).symm
    rw [put_ne xp]; exact b
def Ty (N : Addr → Prop) (d r0 : Addr) (H0 H : PHp) (zs : List PV) : Prop := ∀ z ∈ zs, ∃ ys, (z = .tup ys ∨ ∃ t, z = .ref t ∧ N t ∧ t ≠ d ∧ (t ≠ r0 ∧ H0 t = none) ∧ H t = some (.lst ys)) ∧ ∀ y ∈ ys, (∃ l, y = .tup l) ∨ ∃ r l, y = .ref r ∧ ¬ N r ∧ H r = some (.lst l)
theorem Ty.mut {N : Addr → Prop} {d r0 : Addr} {H0 H H1 : PHp} {zs : List PV} (h : Ty N d r0 H0 H zs) (m : Mt H H1) (k : ∀ x, N x → H1 x = H x) : Ty N d r0 H0 H1 zs := fun z hz => by
  obtain ⟨ys, q, w⟩ := h z hz
  refine ⟨ys, q.imp id fun ⟨t, e, n, n1, n2, e2⟩ => ⟨t, e, n, n1, n2, (k t n).trans e2⟩, fun y hy => (w y hy).imp id fun ⟨r, l, e, n, e2⟩ => ?_⟩
  obtain ⟨l', e3⟩ := m.ls r l e2
  exact ⟨r, l', e, n, e3⟩
theorem Ty.clr {N : Addr → Prop} {d r0 t : Addr} {H0 H : PHp} {zs : List PV} (h : Ty N d r0 H0 H zs) (nt : N t) : Ty N d r0 H0 (put H t (.lst [])) zs := fun z hz => by
  obtain ⟨ys, q, w⟩ := h z hz
  have w' : ∀ y ∈ ys, (∃ l, y = .tup l) ∨ ∃ r l, y = .ref r ∧ ¬ N r ∧ put H t (.lst []) r = some (.lst l) := fun y hy => (w y hy).imp id fun ⟨r, l, e, n, e2⟩ => ⟨r, l, e, n, (put_ne fun z => n (by rw [z]; exact nt)).trans e2⟩
  rcases q with e | ⟨t', e, n, n1, n2, e2⟩
  · exact ⟨ys, .inl e, w'⟩
  · by_cases tt : t' = t
    · exact ⟨[], .inr ⟨t', e, n, n1, n2, by rw [tt]; exact put_same⟩, fun y hy => by cases hy⟩
    · exact ⟨ys, .inr ⟨t', e, n, n1, n2, (put_ne tt).trans e2⟩, w'⟩
theorem Ty.of {bits : Int} {N : Addr → Prop} {d r0 : Addr} {H0 H : PHp} {zs : List PV} {Tb : List (List (List Int))} (h : Hnd bits N d H zs Tb) (hl : zs.length = Tb.length) (n0 : ∀ t, PV.ref t ∈ zs → t ≠ r0 ∧ H0 t = none) : Ty N d r0 H0 H zs := fun z hz => by
  obtain ⟨i, hi, rfl⟩ := List.getElem_of_mem hz
  obtain ⟨ys, p, q⟩ := h.tb i _ (Tb[i]'(by omega)) (List.getElem?_eq_getElem hi) (List.getElem?_eq_getElem (by omega))
  refine ⟨ys, q.imp (fun q => q.2) fun ⟨_, t, e, n1, n, e2⟩ => ⟨t, e, n, n1, n0 t (by rw [← e]; exact hz), e2⟩, fun y hy => ?_⟩
  obtain ⟨ws, _, row⟩ := pd_mem p hy
  exact Or.imp (fun q => ⟨_, q.2⟩) (fun ⟨_, r, e, n, e2⟩ => ⟨r, _, e, n, e2⟩) row
theorem it_seq2 {H : PHp} {v : PV} {ys : List PV} {R : It' → PHp → Prop} (q : Seq H v ys) (k : ∀ ok : PHp → Prop, (∀ H1, (∀ a, v = .ref a → H1 a = H a) → ok H1) → R ⟨ys, ok⟩ H) : itOf v H R := by
  rcases q with rfl | ⟨a, rfl, e⟩
  · exact k _ fun _ _ => trivial
  · exact ⟨ys, e, k _ fun H1 s => (s a rfl).trans e⟩
theorem same3 {H : PHp} {n : Nat} {a b c : PV} (h1 : Same H n a a) (h2 : Same H n b b) (h3 : Same H n c c) : Same H (n + 1) (.tup [a, b, c]) (.tup [a, b, c]) := ⟨by simp, .cons h1 (.cons h2 (.cons h3 .nil))⟩
theorem same_told {H : PHp} {c : Int} {ts bs : List P2} {ns : List Int} {Hd : List (List Int)} {Tb : List (List (List Int))} (hs : Shp c ts bs) (hw : Wld c ts bs ns Hd Tb) : Same H 5 (.tup [.tup (ns.map PV.int), .tup (Hd.map shT), .tup (Tb.map tbT)]) (.tup [.tup (ns.map PV.int), .tup (Hd.map shT), .tup (Tb.map tbT)]) := by
  have c6 := hs.hc
  have ln := hw.ln
  have lt := hw.lt
  have lh := hw.lh
  have b6 := hs.l6
  refine same3 (same_ints (n := 3) (by omega)) (same_shs (n := 1) (by omega) fun ws hws => (hw.h4 ws hws).1) (same_tup (by rw [List.length_map]; omega) fun x hx => ?_)
  obtain ⟨Rw, hR, rfl⟩ := List.mem_map.mp hx
  obtain ⟨k, hk, rfl⟩ := List.getElem_of_mem hR
  have tb := hw.tb k _ (List.getElem?_eq_getElem hk)
  exact same_shs (n := 0) (by omega) fun ws hws => (tb.2.2 ws hws).1
theorem e_at30 {x y z : PV} : atI [x, y, z] 0 = some x := rfl

end
section
variable {P : Program} {w : World} {K : PySem.W.Frag} {mg : Str → Option Value} {base : Heap} {t : Ad}
local macro_rules | `(tactic| walk_at "rd") => `(tactic| simp only [uRet, uRetN, uOp, uI, uI0, uIx, uVar, uC, uSeq, uAsg, vName, uIfS, uNext, uDrop, uTest, uChain, uAnd, uOr, uNot, uAndV, uOrV, uNotV, uIf, uUn, uNil, uCons, uTup, uLst, uCB, uLen, uAbs, uInt, uList, uTuple, uSlice, uNoPart, uPart,
  uCall, uComp, uYes, uChain3, uFld, w_fl, uStFld, w_sf, uMeth, w_ii, uMake, w_al, w_ls, w_sp, uLenSet, w_rv, w_cl, w_in,uCat, w_ca, uSum, w_su, uEn, w_en, uMeth, w_ii, vSub, w_sI, w_mi, uZ3, w_z3, uDNewK, uShl,  uFor, uSeqI, uEqG, uInG, BT.sub, BT.nm, w_bm, w_il, uBM0, ends, uBreak, uCont, start', flat, deq, deqs, w_V, w_B, w_I, w_O, w_St, w_Sf, w_Sr, w_Dr, w_Dn, w_Db, w_Di, w_Ds, w_Dt, w_Df, w_Tn, w_Tb, w_Ti, w_Ts, w_Tt, w_Tf, w_Tr, w_Ni, w_Nb, w_Lf, w_Lr, w_Lt, w_Xt, w_Xf, w_Xr, w_1, w_isi, w_n0, w_n1, w_n2, w_n3, w_n4, w_vt, w_vc, w_vn, w_r1, w_r1', w_r2, w_r2', w_ap, w_ex, w_po, cif_t, cif_f,
  List.map_cons, List.map_nil, List.length_cons, List.length_nil, Nat.reduceAdd, Nat.reduceSub, Nat.add_sub_cancel, Nat.sub_self, Nat.zero_add, List.replicate_succ, List.replicate_zero, List.cons_append, List.nil_append, List.append_nil, List.getElem?_cons_zero, List.getElem?_cons_succ, List.set_cons_zero, List.set_cons_succ,
  atI2_0, atI2_1, List.all_cons, List.all_nil, Bool.and_self, Bool.and_true, Bool.true_and, Bool.not_true, Bool.not_false, true_and, and_true, put_same, Option.some.injEq, PO.lst.injEq, exists_eq_left', Int.zero_add , e_ispair, e_arepairs, e_init, e_needname, e_sources, e_shape, e_cell, e_mixed, e_pairs, e_same, e_divisor, e_low0, e_lowest, e_gdiv, e_fraction, e_cbot, e_tops, e_total, e_isshare, e_shares, e_copied, e_product, e_sizes, e_hidden, e_places, e_hsz, e_heads, e_table, e_wts, e_lshares, e_drawn, e_lheads, e_at31, e_at32, e_lrows, e_told, e_tables, e_winit, e_world, e_handed, e_right, e_at30])
theorem G_is_pair (T : Tx K mg t) : FnOk' P w K mg base CX0 1 t.a_is_pair t.d_is_pair ["count", "pair"] sp_ispair := by
  refine okU (k := 0) T.F_is_pair sc_is_pair (fun vs H Q E h => by
    unfold sp_ispair at h
    split at h
    · rfl
    · exact h.elim) (fun cdv A outer s H E B hr => ⟨_, (qss_one (qs_ret (qe_and (qe_cmp (op_eqU hr.units) vr_eq (qe_callB call_len_seq vc_len rfl T.b_len PySem.boot_len (qa_cons (qv 1) qa_nil)) qe_int (nomark _)) (qe_one (qe_chain3 op_le vr_le op_lt vr_lt op_lt vr_lt qe_int (qe_ix (qv 1) qe_int (fun _ _ => rfl)) (qe_ix (qv 1) qe_int (fun _ _ => rfl)) (qv 0)))))), ?_⟩)
  intro vs H Q E h
  unfold sp_ispair at h
  split at h
  · rename_i c u v
    obtain ⟨⟨h1, h2, h3⟩, h⟩ := h
    walk_at "rd"
    exact cif_pos rfl (cif_pos (by simpa using h1) (cif_pos (by simpa using h2) ⟨H, Sub.refl _, by rw [decide_eq_true h3]; exact h⟩))
  · exact h.elim

theorem G_are_pairs (T : Tx K mg t) : FnOk' P w K mg base CX0 2 t.a_are_pairs t.d_are_pairs ["count", "pairs"] sp_arepairs := by
  refine okU (k := 1) T.F_are_pairs sc_are_pairs (fun vs H Q E h => by
    unfold sp_arepairs at h
    split at h
    · rfl
    · exact h.elim) (fun cdv A outer s H E B hr => ⟨_, (qss_one (qs_ret (qe_and (qe_callB (call_all rfl) vc_all rfl T.b_all boot_all (qa_cons (qe_comp (N2 := ["pair", "count"]) (nt := 1) (js := [0]) (cok (sc := defScope s_are_pairs) (by exact rfl) (by repeat (first | exact trivial | refine ⟨rfl, ?_⟩)) rfl (by rfl) (by decide +kernel) (by decide +kernel) (by rfl) (by decide +kernel) (by rfl) (by rfl)) rfl (qi_seq (qv 1)) (fun s0 H0 fp ps => ⟨(qg_name (i := 0) (show List.Nodup (["pair", "count"] : List Str) by decide +kernel) rfl (by first | exact Or.inl rfl | exact Or.inr rfl)), qif_nil, (qe_call (G_is_pair T) (hr.mono (by decide)) rfl T.g_is_pair T.F_is_pair.kp T.B_is_pair (qa_cons (qv 1) (qa_cons (qv 0) qa_nil)))⟩)) qa_nil)) (qe_one (qe_cmp (op_eqU hr.units) vr_eq (qe_len_set rfl hr.units rfl T.b_len rfl T.b_set boot_set (qv 1)) (qe_callB call_len_seq vc_len rfl T.b_len PySem.boot_len (qa_cons (qv 1) qa_nil)) (nomark _)))))), ?_⟩)
  intro vs H Q E h
  unfold sp_arepairs at h
  split at h
  · rename_i c a
    obtain ⟨ps, ha, gd, hc, h⟩ := h
    have h15 := gd.len hc
    walk_at "rd"
    refine ⟨_, ha, fun acc hacc => ?_⟩
    have hna := ne_none ha hacc
    refine comp_pure (fun _ => .bl true) (fun _ => true) (fun σ => ∃ x, σ = [x, some (.int c)]) (by rw [List.length_map]; omega) (fun l => (put_ne hna).trans ha) ?step ?fin ⟨_, rfl⟩
    case step =>
      rintro y hy l σ R ⟨x, rfl⟩ hl kT kF
      obtain ⟨p, hp, rfl⟩ := List.mem_map.mp hy
      have b := gd.lo p hp
      unfold prV
      walk_at "rd"
      exact ⟨b, hl, by rw [put_put]; exact kT rfl _ ⟨_, rfl⟩⟩
    case fin =>
      walk_at "rd"
      refine ⟨ps.map fun _ => true, by rw [List.filter_eq_self.mpr (fun _ _ => rfl), List.map_map, List.map_map]; rfl, cif_pos (by simp) ⟨ps, (put_ne hna).trans ha, gd.nd, gd.prs hc, h15, _, (put_ne hna).trans ha, H, Sub.put (Sub.refl _) hacc, ?_⟩⟩
      rw [List.length_map, beq_self_eq_true]
      exact h
  · exact h.elim

theorem G_Drawing_init (T : Tx K mg t) : FnOk' P w K mg base CX0 3 t.a_Drawing_init t.d_Drawing_init ["self", "count", "ties", "bows"] (sp_init t) := by
  refine okU (k := 2) T.F_Drawing_init sc_Drawing_init (fun vs H Q E h => by
    unfold sp_init at h
    split at h
    · rfl
    · exact h.elim) (fun cdv A outer s H E B hr => ⟨_, (qss_cons (qs_if (qt_bool (qw_or (qt_cmp op_lt vr_lt (qv 1) qe_int (nomark _)) (qw_or1 (qt_cmp op_gt vr_gt (qv 1) (qe_globE (v' := .int 6) rfl T.c_MOST_NAMES (fun _ => by simp [RP])) (nomark _)))))
    qss_never
    qss_nil)
    (qss_cons (qs_setC (i := 4) sc_Drawing_init.nd rfl (by first | exact Or.inl rfl | exact Or.inr rfl) (N2 := ["tie"]) (nt := 1) (js := []) (cok (sc := defScope s_Drawing_init) (by exact rfl) (by repeat (first | exact trivial | refine ⟨rfl, ?_⟩)) rfl (by rfl) (by decide +kernel) (by decide +kernel) (by rfl) (by decide +kernel) (by rfl) (by rfl)) rfl (qi_seq (qv 2)) (fun s0 H0 fp ps => ⟨(qg_name (i := 0) (show List.Nodup (["tie"] : List Str) by decide +kernel) rfl (by first | exact Or.inl rfl | exact Or.inr rfl)), qif_nil, (qe_callTy call_tuple_of vc_tuple rfl T.b_tuple boot_tuple (qa_cons (qv 0) qa_nil))⟩))
    (qss_cons (qs_if (qt_not (qt_val (qe_call (G_are_pairs T) (hr.mono (by decide)) rfl T.g_are_pairs T.F_are_pairs.kp T.B_are_pairs (qa_cons (qv 1) (qa_cons (qv 4) qa_nil)))))
    qss_never
    qss_nil)
    (qss_cons (qs_setC (i := 5) sc_Drawing_init.nd rfl (by first | exact Or.inl rfl | exact Or.inr rfl) (N2 := ["bow"]) (nt := 1) (js := []) (cok (sc := defScope s_Drawing_init) (by exact rfl) (by repeat (first | exact trivial | refine ⟨rfl, ?_⟩)) rfl (by rfl) (by decide +kernel) (by decide +kernel) (by rfl) (by decide +kernel) (by rfl) (by rfl)) rfl (qi_seq (qv 3)) (fun s0 H0 fp ps => ⟨(qg_name (i := 0) (show List.Nodup (["bow"] : List Str) by decide +kernel) rfl (by first | exact Or.inl rfl | exact Or.inr rfl)), qif_nil, (qe_callTy call_tuple_of vc_tuple rfl T.b_tuple boot_tuple (qa_cons (qv 0) qa_nil))⟩))
    (qss_cons (qs_if (qt_not (qt_val (qe_call (G_are_pairs T) (hr.mono (by decide)) rfl T.g_are_pairs T.F_are_pairs.kp T.B_are_pairs (qa_cons (qv 1) (qa_cons (qv 5) qa_nil)))))
    qss_never
    qss_nil)
    (qss_cons (qs_if (qt_cmp op_gt vr_gt (qe_callB call_len_seq vc_len rfl T.b_len PySem.boot_len (qa_cons (qv 5) qa_nil)) (qe_globE (v' := .int 6) rfl T.c_MOST_BOWS (fun _ => by simp [RP])) (nomark _))
    qss_never
    qss_nil)
    (qss_cons (qs_fld (qv 0) (qv 1) T.cl_Drawing T.nf_Drawing_count rfl)
    (qss_cons (qs_fld (qv 0) (qe_callTy call_tuple_of vc_tuple rfl T.b_tuple boot_tuple (qa_cons (qe_callB call_sortP vc_sortP rfl T.b_sorted boot_sorted (qa_cons (qv 4) qa_nil)) qa_nil)) T.cl_Drawing T.nf_Drawing_ties rfl)
    (qss_one (qs_fld (qv 0) (qe_callTy call_tuple_of vc_tuple rfl T.b_tuple boot_tuple (qa_cons (qe_callB call_sortP vc_sortP rfl T.b_sorted boot_sorted (qa_cons (qv 5) qa_nil)) qa_nil)) T.cl_Drawing T.nf_Drawing_bows rfl)))))))))), ?_⟩)
  intro vs H Q E h
  unfold sp_init at h
  split at h
  · rename_i x c a b
    obtain ⟨dx, ys, zs, ps, qs, hx, ha, hb, ry, rz, gp, gq, ⟨c1, c6, q6⟩, h⟩ := h
    have hp15 := gp.len c6
    have hq15 := gq.len c6
    refine seq_abs fun R hR => ?_
    walk_at "rd"
    refine cif_neg (by simp; omega) (cif_neg (by simp; omega) ?_)
    subst hR
    refine seq_abs fun R hR => ?_
    walk_at "rd"
    refine it_seq ha fun ok hok p1 hp1 => ?_
    refine comp_pure (rowT H) (fun _ => true) (fun σ => ∃ z, σ = [z]) (by rw [ry.length]; omega) (fun l => hok _ ((Sub.refl _).put hp1)) ?_ ?_ ⟨_, rfl⟩
    · rintro y hy l σ R' ⟨z, rfl⟩ hl kT kF
      obtain ⟨p, hp, row⟩ := pd_mem ry hy
      rcases row with rfl | ⟨r, rfl, hr⟩
      · unfold prV
        walk_at "rd"
        exact ⟨hl, by rw [put_put]; exact kT rfl _ ⟨_, rfl⟩⟩
      · rw [rowT_ref hr] at kT
        walk_at "rd"
        exact ⟨_, (put_ne (ne_none hr hp1)).trans hr, hl, by rw [put_put]; exact kT rfl _ ⟨_, rfl⟩⟩
    rw [List.filter_eq_self.mpr (fun _ _ => rfl), rows_map ry]
    subst hR
    have sb1 : U.Sub H (put H p1 (.lst (ps.map prV))) := Sub.put (Sub.refl _) hp1
    refine seq_abs fun R hR => ?_
    walk_at "rd"
    refine ⟨ps, rfl, gp, c6, ?_⟩
    try walk_at "rd"
    subst hR
    have hp1s : put H p1 (.lst (ps.map prV)) p1 = some (.lst (ps.map prV)) := put_same
    have hx1 := sb1 _ _ hx
    have hb1 := hb.up sb1
    have rz1 := rz.up sb1
    generalize put H p1 (.lst (ps.map prV)) = H1 at *
    refine seq_abs fun R hR => ?_
    walk_at "rd"
    refine it_seq hb1 fun ok hok p2 hp2 => ?_
    refine comp_pure (rowT H1) (fun _ => true) (fun σ => ∃ z, σ = [z]) (by rw [rz1.length]; omega) (fun l => hok _ ((Sub.refl _).put hp2)) ?_ ?_ ⟨_, rfl⟩
    · rintro y hy l σ R' ⟨z, rfl⟩ hl kT kF
      obtain ⟨p, hp, row⟩ := pd_mem rz1 hy
      rcases row with rfl | ⟨r, rfl, hr⟩
      · unfold prV
        walk_at "rd"
        exact ⟨hl, by rw [put_put]; exact kT rfl _ ⟨_, rfl⟩⟩
      · rw [rowT_ref hr] at kT
        walk_at "rd"
        exact ⟨_, (put_ne (ne_none hr hp2)).trans hr, hl, by rw [put_put]; exact kT rfl _ ⟨_, rfl⟩⟩
    rw [List.filter_eq_self.mpr (fun _ _ => rfl), rows_map rz1]
    subst hR
    have sb2 : U.Sub H1 (put H1 p2 (.lst (qs.map prV))) := Sub.put (Sub.refl _) hp2
    have hp1t := sb2 _ _ hp1s
    have hx2 := sb2 _ _ hx1
    have hp2s : put H1 p2 (.lst (qs.map prV)) p2 = some (.lst (qs.map prV)) := put_same
    refine seq_abs fun R hR => ?_
    walk_at "rd"
    refine ⟨qs, rfl, gq, c6, ?_⟩
    try walk_at "rd"
    subst hR
    have sb3 := sb1.trans sb2
    generalize put H1 p2 (.lst (qs.map prV)) = H2 at *
    refine seq_abs fun R hR => ?_
    walk_at "rd"
    refine ⟨_, hp2s, cif_neg (by rw [List.length_map]; simp; omega) ?_⟩
    subst hR
    refine seq_abs fun R hR => ?_
    walk_at "rd"
    refine ⟨_, _, hx2, by simp, ?_⟩
    subst hR
    have n1 : p1 ≠ x := fun e => by subst e; rw [hx2] at hp1t; cases hp1t
    have n2 : p2 ≠ x := fun e => by subst e; rw [hx2] at hp2s; cases hp2s
    refine seq_abs fun R hR => ?_
    walk_at "rd"
    refine ⟨ps, (put_ne n1).trans hp1t, gp.nd, fun p hp => ?_, by omega, fun r1 ts hr1 pt st => ?_⟩
    · have := gp.lo p hp; omega
    try walk_at "rd"
    have nx1 : x ≠ r1 := fun e => by subst e; rw [put_same] at hr1; cases hr1
    refine ⟨_, _, (put_ne nx1).trans put_same, Nat.lt_of_le_of_lt putU_len (by decide), ?_⟩
    subst hR
    have n3 : p2 ≠ r1 := fun e => by subst e; rw [put_ne n2, hp2s] at hr1; cases hr1
    walk_at "rd"
    refine ⟨qs, (put_ne n2).trans ((put_ne n3).trans ((put_ne n2).trans hp2s)), gq.nd, fun p hp => ?_, by omega, fun r2 bs hr2 pb sb => ?_⟩
    · have := gq.lo p hp; omega
    try walk_at "rd"
    have nx2 : x ≠ r2 := fun e => by subst e; rw [put_same] at hr2; cases hr2
    have ul := fun f v fs => @putU_len f v fs
    refine ⟨_, _, (put_ne nx2).trans put_same, ?_, put H x (.ins t.a_Drawing dx (DF c ts bs)), sub_putx ?_ put_same, h ts bs pt st pb sb⟩
    · have l1 := ul "ties" (.tup (ts.map prV)) (putU "count" (.int c) [])
      have l2 := ul "count" (.int c) []
      simp only [List.length_nil] at l2
      omega
    · intro z o hzx hz
      have hz2 := sb3 _ _ hz
      have z1 : z ≠ r1 := fun e => by subst e; rw [put_ne hzx, hz2] at hr1; cases hr1
      have z2 : z ≠ r2 := fun e => by subst e; rw [put_ne hzx, put_ne z1, put_ne hzx, hz2] at hr2; cases hr2
      rw [put_ne hzx, put_ne z2, put_ne hzx, put_ne z1, put_ne hzx]
      exact hz2
  · exact h.elim

theorem G_Drawing_need_name (T : Tx K mg t) : FnOk' P w K mg base CX0 1 t.a_Drawing_need_name t.d_Drawing_need_name ["self", "name"] (sp_needname t) := by
  refine okU (k := 0) T.F_Drawing_need_name sc_Drawing_need_name (fun vs H Q E h => by
    unfold sp_needname at h
    split at h
    · rfl
    · exact h.elim) (fun cdv A outer s H E B hr => ⟨_, (qss_one (qs_if (qt_bool (qw_or (qt_cmp op_lt vr_lt (qv 1) qe_int (nomark _)) (qw_or1 (qt_cmp op_ge vr_ge (qv 1) (qe_fld (qv 0) T.cl_Drawing T.nf_Drawing_count rfl) (nomark _)))))
    qss_never
    qss_nil)), ?_⟩)
  intro vs H Q E h
  unfold sp_needname at h
  split at h
  · rename_i x n
    obtain ⟨dx, c, ts, bs, hx, ⟨h0, h1⟩, h⟩ := h
    walk_at "rd"
    exact cif_neg (by simpa using h0) ⟨_, _, _, hx, rfl, cif_neg (by simpa using h1) ⟨H, Sub.refl _, h⟩⟩
  · exact h.elim

theorem G_Drawing_shape (T : Tx K mg t) : FnOk' P w K mg base CX0 1 t.a_Drawing_shape t.d_Drawing_shape ["self"] (sp_shape t) := by
  refine okU (k := 0) T.F_Drawing_shape sc_Drawing_shape (fun vs H Q E h => by
    unfold sp_shape at h
    split at h
    · rfl
    · exact h.elim) (fun cdv A outer s H E B hr => ⟨_, (qss_one (qs_ret (qe_tup (qa_cons (qe_fld (qv 0) T.cl_Drawing T.nf_Drawing_count rfl) (qa_cons (qe_fld (qv 0) T.cl_Drawing T.nf_Drawing_ties rfl) (qa_cons (qe_fld (qv 0) T.cl_Drawing T.nf_Drawing_bows rfl) qa_nil)))))), ?_⟩)
  intro vs H Q E h
  unfold sp_shape at h
  split at h
  · rename_i x
    obtain ⟨dx, c, ts, bs, hx, h⟩ := h
    walk_at "rd"
    exact ⟨_, _, _, hx, rfl, _, _, _, hx, rfl, _, _, _, hx, rfl, small_size (by decide), H, Sub.refl _, h⟩
  · exact h.elim

theorem G_Drawing_sources (T : Tx K mg t) : FnOk' P w K mg base CX0 2 t.a_Drawing_sources t.d_Drawing_sources ["self", "name"] (sp_sources t) := by
  refine okU (k := 1) T.F_Drawing_sources sc_Drawing_sources (fun vs H Q E h => by
    unfold sp_sources at h
    split at h
    · rfl
    · exact h.elim) (fun cdv A outer s H E B hr => ⟨_, (qss_cons (qs_expr (qe_meth (qv 0) T.cl_Drawing T.m_Drawing_need_name (G_Drawing_need_name T) (hr.mono (by decide)) T.B_Drawing_need_name (qa_cons (qv 1) qa_nil)))
    (qss_one (qs_ret (qe_callTy call_tuple_of vc_tuple rfl T.b_tuple boot_tuple (qa_cons (qe_comp (N2 := ["tie", "name"]) (nt := 1) (js := [1]) (cok (sc := defScope s_Drawing_sources) (by exact rfl) (by repeat (first | exact trivial | refine ⟨rfl, ?_⟩)) rfl (by rfl) (by decide +kernel) (by decide +kernel) (by rfl) (by decide +kernel) (by rfl) (by rfl)) rfl (qi_seq (qe_fld (qv 0) T.cl_Drawing T.nf_Drawing_ties rfl)) (fun s0 H0 fp ps => ⟨(qg_name (i := 0) (show List.Nodup (["tie", "name"] : List Str) by decide +kernel) rfl (by first | exact Or.inl rfl | exact Or.inr rfl)), (qif_one (qt_cmp (op_eqU hr.units) vr_eq (qe_ix (qv 0) qe_int (fun _ _ => rfl)) (qv 1) (nomark _))), (qe_ix (qv 0) qe_int (fun _ _ => rfl))⟩)) qa_nil))))), ?_⟩)
  intro vs H Q E h
  unfold sp_sources at h
  split at h
  · rename_i x n
    obtain ⟨dx, c, ts, bs, hx, ⟨h0, h1⟩, h15, h⟩ := h
    walk_at "rd"
    refine ⟨⟨_, _, hx, rfl⟩, _, _, _, _, hx, ⟨h0, h1⟩, _, _, _, hx, rfl, ?_⟩
    show ∀ acc, H acc = none → _
    intro acc hacc
    refine comp_pure g0 (at1 n) (fun σ => ∃ z, σ = [z, some (.int n)]) (by rw [List.length_map]; omega) (fun _ => trivial) ?step ?fin ⟨_, rfl⟩
    case step =>
      rintro y hy l σ R ⟨z, rfl⟩ hl kT kF
      obtain ⟨p, hp, rfl⟩ := List.mem_map.mp hy
      have e : at1 n (prV p) = decide (p.2 = n) := rfl
      rw [e] at kT kF
      unfold prV at *
      walk_at "rd"
      refine cif_by (fun q => ?_) (fun q => ?_)
      · exact ⟨hl, by rw [put_put]; exact kT (by simpa using q) _ ⟨_, rfl⟩⟩
      · exact kF (by simpa using q) _ ⟨_, rfl⟩
    case fin =>
      refine ⟨_, put_same, H, Sub.put (Sub.refl _) hacc, ?_⟩
      rw [src_list]
      exact h
  · exact h.elim

theorem G_law_cell_at (T : Tx K mg t) : FnOk' P w K mg base CX0 1 t.a_law_cell_at t.d_law_cell_at ["_law_script", "_law_k"] sp_cell := by
  refine okU (k := 0) T.F_law_cell_at sc_law_cell_at (fun vs H Q E h => by
    unfold sp_cell at h
    split at h
    · rfl
    · exact h.elim) (fun cdv A outer s H E B hr => ⟨_, (qss_cons (qs_if (qt_cmp op_lt vr_lt (qv 1) (qe_callB call_len_seq vc_len rfl T.b_len PySem.boot_len (qa_cons (qv 0) qa_nil)) (nomark _))
    (qss_one (qs_ret (qe_ix (qv 0) (qv 1) (fun _ _ => rfl))))
    qss_nil)
    (qss_one (qs_ret qe_int))), ?_⟩)
  intro vs H Q E h
  unfold sp_cell at h
  split at h
  · rename_i l k
    obtain ⟨⟨h0, h1⟩, ns, rfl, h⟩ := h
    walk_at "rd"
    by_cases hk : k < ns.length
    · refine cif_pos (by rw [List.length_map]; simpa using hk) ?_
      rw [atI_int h0 hk]
      exact ⟨H, Sub.refl _, h⟩
    · refine cif_neg (by rw [List.length_map]; simpa using hk) ⟨H, Sub.refl _, ?_⟩
      rw [List.getD_eq_getElem?_getD, List.getElem?_eq_none (by omega)] at h
      exact h
  · exact h.elim

theorem G_law_mixed (T : Tx K mg t) : FnOk' P w K mg base CX0 1 t.a_law_mixed t.d_law_mixed ["_law_cell", "_law_many"] sp_mixed := by
  refine okU (k := 0) T.F_law_mixed sc_law_mixed (fun vs H Q E h => by
    unfold sp_mixed at h
    split at h
    · rfl
    · exact h.elim) (fun cdv A outer s H E B hr => ⟨_, (qss_cons (qs_set (i := 2) sc_law_mixed.nd rfl (by first | exact Or.inl rfl | exact Or.inr rfl) (qe_lst qa_nil))
    (qss_cons (qs_set (i := 3) sc_law_mixed.nd rfl (by first | exact Or.inl rfl | exact Or.inr rfl) (qe_fdiv (qv 0) qe_int))
    (qss_cons (qs_if (qt_cmp (op_eqU hr.units) vr_eq (qe_mod (qv 0) qe_int) qe_int (nomark _))
    (qss_cons (qs_for PassesOwn.never rfl (qi_range1 rfl T.b_range (qa_cons (qv 1) qa_nil)) (qg_name (i := 4) sc_law_mixed.nd rfl (by first | exact Or.inl rfl | exact Or.inr rfl))
      (qss_cons (qs_expr (qe_bm PySem.F.slot_list_append PySem.F.type_list_append mt_append vm_append (qv 2) (qa_cons (qe_mod (qv 3) qe_int) qa_nil)))
        (qss_one (qs_set (i := 3) sc_law_mixed.nd rfl (by first | exact Or.inl rfl | exact Or.inr rfl) (qe_fdiv (qv 3) qe_int)))))
      (qss_one (qs_ret (qv 2))))
    qss_nil)
    (qss_cons (qs_set (i := 3) sc_law_mixed.nd rfl (by first | exact Or.inl rfl | exact Or.inr rfl) (qe_mod (qe_add (qe_mul (qe_mod (qv 3) qe_int) qe_int) qe_int) qe_int))
    (qss_cons (qs_for PassesOwn.never rfl (qi_range1 rfl T.b_range (qa_cons (qv 1) qa_nil)) (qg_name (i := 4) sc_law_mixed.nd rfl (by first | exact Or.inl rfl | exact Or.inr rfl))
    (qss_cons (qs_set (i := 3) sc_law_mixed.nd rfl (by first | exact Or.inl rfl | exact Or.inr rfl) (qe_mod (qe_add (qe_add (qe_add (qe_mul (qv 3) (qv 3)) (qe_mul qe_int (qv 3))) (qv 4)) qe_int) qe_int))
      (qss_one (qs_expr (qe_bm PySem.F.slot_list_append PySem.F.type_list_append mt_append vm_append (qv 2) (qa_cons (qv 3) qa_nil))))))
    (qss_one (qs_ret (qv 2)))))))), ?_⟩)
  intro vs H Q E h
  unfold sp_mixed at h
  split at h
  · rename_i c m
    obtain ⟨⟨h0, h1⟩, h⟩ := h
    walk_at "rd"
    refine ⟨small_size (by decide), fun p hp => ⟨cdvB (by decide) (by decide), by decide, ?_⟩⟩
    have hs : ∀ (xs : List Int) (i : Nat), xs.length = i → i < m.toNat → (xs.map PV.int).length < sizeLine := fun xs i h1 h2 => by
      rw [List.length_map]; exact small1000 (by omega)
    refine cif_by (fun _ => ⟨⟨by omega, by omega⟩, ?_⟩) (fun _ => ⟨by decide, .inr ⟨?f1, ?f2⟩, by decide, ⟨by omega, by omega⟩, ?_⟩)
    · refine for_rng (fun i σ H2 => ∃ num k xs, σ = [some (.int c), some (.int m), some (.ref p), some (.int num), k] ∧ H2 = put H p (.lst (xs.map PV.int)) ∧ xs.length = i) ?_ ?_ ⟨_, _, [], rfl, rfl, rfl⟩
      · rintro σ H2 ⟨num, k, xs, rfl, rfl, hl⟩
        exact ⟨trivial, _, Sub.refl _, h p xs hp hl⟩
      · rintro G i σ H2 hi ⟨num, k, xs, rfl, rfl, hl⟩ kk
        refine ⟨trivial, ?_⟩
        walk_at "rd"
        exact ⟨⟨_, rfl⟩, by decide, hs xs i hl hi, cdvB (by decide) (by decide), kk _ _ ⟨_, _, xs ++ [num.fmod 5040], rfl, by rw [put_put, List.map_append]; rfl, by rw [List.length_append, hl]; rfl⟩⟩
    case f1 => have := fm (a := c.fdiv 2) (b := 2147483647) (by decide); exact fit64 (by omega)
    case f2 => exact fit64 (by decide)
    · have b0 := fm (a := (c.fdiv 2).fmod 2147483647 * 16807 + 11) (b := 2147483647) (by decide)
      generalize ((c.fdiv 2).fmod 2147483647 * 16807 + 11).fmod 2147483647 = num at *
      refine for_rng (fun i σ H2 => ∃ num k xs, (0 ≤ num ∧ num < 2147483647) ∧ σ = [some (.int c), some (.int m), some (.ref p), some (.int num), k] ∧ H2 = put H p (.lst (xs.map PV.int)) ∧ xs.length = i) ?_ ?_ ⟨_, _, [], b0, rfl, rfl, rfl⟩
      · rintro σ H2 ⟨num, k, xs, _, rfl, rfl, hl⟩
        exact ⟨trivial, _, Sub.refl _, h p xs hp hl⟩
      · rintro G i σ H2 hi ⟨num, k, xs, ⟨b1, b2⟩, rfl, rfl, hl⟩ kk
        refine ⟨trivial, ?_⟩
        walk_at "rd"
        exact ⟨.inr ⟨fit64 (by omega), fit64 (by omega)⟩, .inr ⟨fit64 (by decide), fit64 (by omega)⟩, by decide, ⟨_, rfl⟩, hs xs i hl hi, kk _ _ ⟨_, _, xs ++ [_], fm (by decide), rfl, by rw [put_put, List.map_append]; rfl, by rw [List.length_append, hl]; rfl⟩⟩
  · exact h.elim

theorem G_law_pairs (T : Tx K mg t) : FnOk' P w K mg base CX0 2 t.a_law_pairs t.d_law_pairs ["_law_script", "_law_at"] sp_pairs := by
  refine okU (k := 1) T.F_law_pairs sc_law_pairs (fun vs H Q E h => by
    unfold sp_pairs at h
    split at h
    · rfl
    · exact h.elim) (fun cdv A outer s H E B hr => ⟨_, (qss_cons (qs_set (i := 2) sc_law_pairs.nd rfl (by first | exact Or.inl rfl | exact Or.inr rfl) (qe_call (G_law_cell_at T) (hr.mono (by decide)) rfl T.g_law_cell_at T.F_law_cell_at.kp T.B_law_cell_at (qa_cons (qv 0) (qa_cons (qv 1) qa_nil))))
    (qss_cons (qs_set (i := 3) sc_law_pairs.nd rfl (by first | exact Or.inl rfl | exact Or.inr rfl) (qe_add qe_int (qe_mod (qv 2) qe_int)))
    (qss_cons (qs_set (i := 4) sc_law_pairs.nd rfl (by first | exact Or.inl rfl | exact Or.inr rfl) (qe_mod (qe_fdiv (qv 2) qe_int) qe_int))
    (qss_cons (qs_set (i := 5) sc_law_pairs.nd rfl (by first | exact Or.inl rfl | exact Or.inr rfl) (qe_call (G_law_mixed T) (hr.mono (by decide)) rfl T.g_law_mixed T.F_law_mixed.kp T.B_law_mixed (qa_cons (qe_call (G_law_cell_at T) (hr.mono (by decide)) rfl T.g_law_cell_at T.F_law_cell_at.kp T.B_law_cell_at (qa_cons (qv 0) (qa_cons (qe_add (qv 1) qe_int) qa_nil))) (qa_cons qe_int qa_nil))))
    (qss_cons (qs_set (i := 6) sc_law_pairs.nd rfl (by first | exact Or.inl rfl | exact Or.inr rfl) (qe_lst qa_nil))
    (qss_cons (qs_set (i := 7) sc_law_pairs.nd rfl (by first | exact Or.inl rfl | exact Or.inr rfl) (qe_lst qa_nil))
    (qss_cons (qs_set (i := 8) sc_law_pairs.nd rfl (by first | exact Or.inl rfl | exact Or.inr rfl) qe_int)
    (qss_cons (qs_for PassesOwn.never rfl (qi_range1 rfl T.b_range (qa_cons (qv 3) qa_nil)) (qg_name (i := 9) sc_law_pairs.nd rfl (by first | exact Or.inl rfl | exact Or.inr rfl))
    (qss_one (qs_for PassesOwn.never rfl (qi_range1 rfl T.b_range (qa_cons (qv 9) qa_nil)) (qg_name (i := 10) sc_law_pairs.nd rfl (by first | exact Or.inl rfl | exact Or.inr rfl))
      (qss_cons (qs_if (qt_cmp (op_eqU hr.units) vr_eq (qe_mod (qe_ix (qv 5) (qv 8) (fun _ _ => rfl)) (qe_ix (qe_lst (qa_cons qe_int (qa_cons qe_int (qa_cons qe_int (qa_cons qe_int qa_nil))))) (qv 4) (fun _ _ => rfl))) qe_int (nomark _))
        (qss_one (qs_expr (qe_bm PySem.F.slot_list_append PySem.F.type_list_append mt_append vm_append (qv 6) (qa_cons (qe_tup (qa_cons (qv 10) (qa_cons (qv 9) qa_nil))) qa_nil))))
        qss_nil)
        (qss_cons (qs_if (qt_bool (qw_and (qt_cmp (op_eqU hr.units) vr_eq (qe_mod (qe_fdiv (qe_ix (qv 5) (qv 8) (fun _ _ => rfl)) qe_int) (qe_ix (qe_lst (qa_cons qe_int (qa_cons qe_int (qa_cons qe_int (qa_cons qe_int qa_nil))))) (qv 4) (fun _ _ => rfl))) qe_int (nomark _)) (qw_and1 (qt_cmp op_lt vr_lt (qe_callB call_len_seq vc_len rfl T.b_len PySem.boot_len (qa_cons (qv 7) qa_nil)) qe_int (nomark _)))))
        (qss_one (qs_expr (qe_bm PySem.F.slot_list_append PySem.F.type_list_append mt_append vm_append (qv 7) (qa_cons (qe_tup (qa_cons (qv 10) (qa_cons (qv 9) qa_nil))) qa_nil))))
        qss_nil)
        (qss_one (qs_set (i := 8) sc_law_pairs.nd rfl (by first | exact Or.inl rfl | exact Or.inr rfl) (qe_add (qv 8) qe_int))))))))
    (qss_one (qs_ret (qe_tup (qa_cons (qv 3) (qa_cons (qv 6) (qa_cons (qv 7) qa_nil)))))))))))))), ?_⟩)
  intro vs H Q E h
  unfold sp_pairs at h
  split at h
  · rename_i l k
    obtain ⟨⟨h0, h1⟩, ns, rfl, h⟩ := h
    walk_at "rd"
    refine ⟨⟨h0, by omega⟩, ns, rfl, by decide, cdvB (by decide) (by decide), by decide, ⟨by omega, by omega⟩, ns, rfl, ⟨by decide, by decide⟩, fun p xs hp hxs => ⟨small_size (by decide), fun p1 hp1 => ⟨small_size (by decide), fun p2 hp2 => ?_⟩⟩⟩
    have hc := fm (a := ns.getD k.toNat 0) (b := 6) (by decide)
    have hd := fm (a := (ns.getD k.toNat 0).fdiv 6) (b := 4) (by decide)
    generalize ((ns.getD k.toNat 0).fdiv 6).fmod 4 = d at *
    generalize hcc : 1 + (ns.getD k.toNat 0).fmod 6 = c at *
    have hc1 : 1 ≤ c ∧ c ≤ 6 := by omega
    refine ⟨⟨by omega, by omega⟩, ?_⟩
    have q1 : H p1 = none := (Sub.put (Sub.refl H) hp).free hp1
    have n12 : p1 ≠ p2 := fun e => by subst e; rw [put_same] at hp2; cases hp2
    have q2 : H p2 = none := ((Sub.put (Sub.refl H) hp).put (o := .lst []) q1).free hp2
    refine for_rng (fun i σ H2 => ∃ v u ts bs, σ = [some (.fls (ns.map PV.int)), some (.int k), some (.int (ns.getD k.toNat 0)), some (.int c), some (.int d), some (.ref p), some (.ref p1), some (.ref p2), some (.int (DM.tri i : Nat)), v, u] ∧ (U.Sub H H2 ∧ H2 p = some (.lst (xs.map PV.int)) ∧ H2 p1 = some (.lst (ts.map prV)) ∧ H2 p2 = some (.lst (bs.map prV))) ∧ DM.Good (i : Nat) ts ∧ DM.Good (i : Nat) bs ∧ bs.length ≤ 6) ?_ ?_ ?_
    · rintro σ H2 ⟨v, u, ts, bs, rfl, ⟨s1, s2, s3, s4⟩, g1, g2, l6⟩
      refine ⟨trivial, ?_⟩
      walk_at "rd"
      have ec : ((c.toNat : Nat) : Int) = c := by omega
      rw [ec] at g1 g2
      exact ⟨small_size (by decide), _, sub_put (sub_put s1 s3) s4, h c ts bs p1 p2 hc1 g1 g2 l6 q1 q2 n12⟩
    · rintro G i σ H2 hi ⟨v, u, ts, bs, rfl, hH, g1, g2, l6⟩ kk
      refine ⟨trivial, ?_⟩
      walk_at "rd"
      obtain ⟨s1, s2, s3, s4⟩ := hH
      obtain ⟨da, hda, da0⟩ := ix4a hd.1 hd.2
      obtain ⟨db, hdb, db0⟩ := ix4b hd.1 hd.2
      have ht := DM.tri_le i (by omega)
      refine ⟨⟨by omega, by omega⟩, ?_⟩
      rw [Int.toNat_natCast]
      refine for_rng (fun j σ H3 => ∃ u ts bs, σ = [some (.fls (ns.map PV.int)), some (.int k), some (.int (ns.getD k.toNat 0)), some (.int c), some (.int d), some (.ref p), some (.ref p1), some (.ref p2), some (.int (DM.tri i + j : Nat)), some (.int (i : Nat)), u] ∧ (U.Sub H H3 ∧ H3 p = some (.lst (xs.map PV.int)) ∧ H3 p1 = some (.lst (ts.map prV)) ∧ H3 p2 = some (.lst (bs.map prV))) ∧ GJ (i : Nat) (j : Nat) ts ∧ GJ (i : Nat) (j : Nat) bs ∧ bs.length ≤ 6) ?_ ?_ ⟨_, ts, bs, rfl, ⟨s1, s2, s3, s4⟩, GJ.of g1, GJ.of g2, l6⟩
      · rintro σ H3 ⟨u, ts, bs, rfl, hH, a1, a2, l6⟩
        exact ⟨trivial, kk _ _ ⟨_, _, ts, bs, rfl, hH, a1.good, a2.good, l6⟩⟩
      · rintro G' j σ H3 hj ⟨u, ts, bs, rfl, ⟨s1, s2, s3, s4⟩, a1, a2, l6⟩ kk'
        refine ⟨trivial, ?_⟩
        have hx : atI (xs.map PV.int) ((DM.tri i + j : Nat) : Int) = some (.int (xs.getD ((DM.tri i + j : Nat) : Int).toNat 0)) := atI_int (by omega) (by rw [hxs]; omega)
        generalize xs.getD ((DM.tri i + j : Nat) : Int).toNat 0 = xv at hx
        have last : ∀ ts' bs' H4, (U.Sub H H4 ∧ H4 p = some (.lst (xs.map PV.int)) ∧ H4 p1 = some (.lst (ts'.map prV)) ∧ H4 p2 = some (.lst (bs'.map prV))) → GJ (i : Nat) ((j : Nat) + 1 : Int) ts' → GJ (i : Nat) ((j : Nat) + 1 : Int) bs' → bs'.length ≤ 6 →
            G' [some (.fls (ns.map PV.int)), some (.int k), some (.int (ns.getD k.toNat 0)), some (.int c), some (.int d), some (.ref p), some (.ref p1), some (.ref p2), some (.int (((DM.tri i + j : Nat) : Int) + 1)), some (.int (i : Nat)), some (.int (j : Nat))] H4 := fun ts' bs' H4 x1 x2 x3 x4 => kk' _ _ ⟨_, ts', bs', rfl, x1, x2, x3, x4⟩
        refine seq_abs fun R hR => ?_
        have second : ∀ (ts' : List DM.P2) (H4 : PHp), (U.Sub H H4 ∧ H4 p = some (.lst (xs.map PV.int)) ∧ H4 p1 = some (.lst (ts'.map prV)) ∧ H4 p2 = some (.lst (bs.map prV))) → GJ (i : Nat) ((j : Nat) + 1 : Int) ts' →
            R { nx := G', rt := fun v H => ∃ H3, U.Sub H3 H ∧ Q v H3, bk := G, ct := G' } [some (.fls (ns.map PV.int)), some (.int k), some (.int (ns.getD k.toNat 0)), some (.int c), some (.int d), some (.ref p), some (.ref p1), some (.ref p2), some (.int ((DM.tri i + j : Nat) : Int)), some (.int (i : Nat)), some (.int (j : Nat))] H4 := by
          rintro ts' H4 ⟨u1, u2, u3, u4⟩ b1
          subst hR
          refine seq_abs fun R hR => ?_
          walk_at "rd"
          refine ⟨_, u2, ?_⟩
          rw [hx]
          walk_at "rd"
          refine ⟨cdvB (by decide) (by decide), small_size (by decide), fun p4 hp4 => ?_⟩
          try walk_at "rd"
          rw [hdb]
          try walk_at "rd"
          have m1 := ne_none u2 hp4
          have m2 := ne_none u3 hp4
          have m3 := ne_none u4 hp4
          have sb4 := u1.put (o := .lst [.int 2, .int 3, .int 5, .int 2]) (u1.free hp4)
          have w2 := (put_ne (o := .lst [.int 2, .int 3, .int 5, .int 2]) m1).trans u2
          have w3 := (put_ne (o := .lst [.int 2, .int 3, .int 5, .int 2]) m2).trans u3
          have w4 := (put_ne (o := .lst [.int 2, .int 3, .int 5, .int 2]) m3).trans u4
          generalize put H4 p4 (.lst [.int 2, .int 3, .int 5, .int 2]) = H5 at *
          refine ⟨db0, ?_⟩
          have nxt : R { nx := G', rt := fun v H => ∃ H3, U.Sub H3 H ∧ Q v H3, bk := G, ct := G' } [some (.fls (ns.map PV.int)), some (.int k), some (.int (ns.getD k.toNat 0)), some (.int c), some (.int d), some (.ref p), some (.ref p1), some (.ref p2), some (.int ((DM.tri i + j : Nat) : Int)), some (.int (i : Nat)), some (.int (j : Nat))] H5 := by
            subst hR
            walk_at "rd"
            exact last ts' bs H5 ⟨sb4, w2, w3, w4⟩ b1 a2.up l6
          refine cif_by (fun _ => ?_) (fun _ => ?_)
          · refine ⟨_, w4, ?_⟩
            by_cases h6 : bs.length < 6
            · refine cif_pos (by rw [List.length_map]; simp; omega) ?_
              refine ⟨⟨_, w4⟩, small_size (by decide), _, w4, by rw [List.length_map]; exact small1000 (by omega), ?_⟩
              subst hR
              walk_at "rd"
              have n12' : p1 ≠ p2 := n12
              have np2 : p ≠ p2 := fun e => by
                subst e
                rw [put_ne (fun e => by subst e; rw [put_same] at hp1; cases hp1), put_same] at hp2; cases hp2
              refine last ts' (bs ++ [(((j : Nat) : Int), ((i : Nat) : Int))]) _ ⟨sb4.put q2, (put_ne np2).trans w2, (put_ne n12).trans w3, ?_⟩ b1 (a2.app (by omega) (by omega)) (by rw [List.length_append]; simp; omega)
              rw [put_same, List.map_append]; rfl
            · refine cif_neg (by rw [List.length_map]; simp; omega) nxt
          · exact nxt
        walk_at "rd"
        refine ⟨_, s2, ?_⟩
        rw [hx]
        walk_at "rd"
        refine ⟨small_size (by decide), fun p3 hp3 => ?_⟩
        try walk_at "rd"
        rw [hda]
        try walk_at "rd"
        have m1 := ne_none s2 hp3
        have m2 := ne_none s3 hp3
        have m3 := ne_none s4 hp3
        have sb3 := s1.put (o := .lst [.int 2, .int 3, .int 2, .int 4]) (s1.free hp3)
        have w2 := (put_ne (o := .lst [.int 2, .int 3, .int 2, .int 4]) m1).trans s2
        have w3 := (put_ne (o := .lst [.int 2, .int 3, .int 2, .int 4]) m2).trans s3
        have w4 := (put_ne (o := .lst [.int 2, .int 3, .int 2, .int 4]) m3).trans s4
        generalize put H3 p3 (.lst [.int 2, .int 3, .int 2, .int 4]) = H5 at *
        have t15 : ts.length ≤ 15 := (show DM.Good ((i : Nat) + 1 : Int) ts from ⟨a1.nd, fun p hp => by have := a1.lo p hp; omega⟩).len (by omega)
        refine ⟨da0, cif_by (fun _ => ?_) (fun _ => second ts H5 ⟨sb3, w2, w3, w4⟩ a1.up)⟩
        refine ⟨⟨_, w3⟩, small_size (by decide), _, w3, by rw [List.length_map]; exact small1000 (by omega), ?_⟩
        have np1 : p ≠ p1 := fun e => by subst e; rw [put_same] at hp1; cases hp1
        refine second (ts ++ [(((j : Nat) : Int), ((i : Nat) : Int))]) _ ⟨sb3.put q1, (put_ne np1).trans w2, ?_, (put_ne n12.symm).trans w4⟩ (a1.app (by omega) (by omega))
        rw [put_same, List.map_append]; rfl
    · have np1 : p ≠ p1 := fun e => by subst e; rw [put_same] at hp1; cases hp1
      have np2 : p ≠ p2 := fun e => by subst e; rw [put_ne np1, put_same] at hp2; cases hp2
      refine ⟨_, _, [], [], rfl, ⟨?_, ?_, ?_, put_same⟩, ⟨List.nodup_nil, by simp⟩, ⟨List.nodup_nil, by simp⟩, by simp⟩
      · exact (((Sub.refl H).put hp).put q1).put q2
      · rw [put_ne np2, put_ne np1, put_same]
      · rw [put_ne n12, put_same]; rfl
  · exact h.elim

theorem G_same0 (T : Tx K mg t) : FnOk' P w K mg base CX0 1 t.a_law_same t.d_law_same ["_law_found", "_law_due"] (sp_same 0) := by
  refine okU (k := 0) T.F_law_same sc_law_same (fun vs H Q E h => by
    unfold sp_same at h
    split at h
    · rfl
    · exact h.elim) (fun cdv A outer s H E B hr => ⟨_, (qss_cons (qs_if (qt_bool (qw_or (qt_val (qe_callB (call_isiB .tuple) (vc_isi .tuple) rfl T.b_isinstance boot_isinstance (qa_cons (qv 1) (qa_cons (qe_bty rfl T.b_tuple boot_tuple) qa_nil)))) (qw_or1 (qt_val (qe_callB (call_isiB .list) (vc_isi .list) rfl T.b_isinstance boot_isinstance (qa_cons (qv 1) (qa_cons (qe_bty rfl T.b_list boot_list) qa_nil)))))))
    qss_never
    qss_nil)
    (qss_cons (qs_if (qt_val (qe_callB (call_isiB .bool) (vc_isi .bool) rfl T.b_isinstance boot_isinstance (qa_cons (qv 1) (qa_cons (qe_bty rfl T.b_bool boot_bool) qa_nil))))
    (qss_one (qs_ret (qe_and (qe_callB (call_isiB .bool) (vc_isi .bool) rfl T.b_isinstance boot_isinstance (qa_cons (qv 0) (qa_cons (qe_bty rfl T.b_bool boot_bool) qa_nil))) (qe_one (qe_cmp (op_eqU hr.units) vr_eq (qv 0) (qv 1) (nomark _))))))
    qss_nil)
    (qss_cons (qs_if (qt_val (qe_callB (call_isiB .int) (vc_isi .int) rfl T.b_isinstance boot_isinstance (qa_cons (qv 1) (qa_cons (qe_bty rfl T.b_int boot_int) qa_nil))))
    (qss_one (qs_ret (qe_and (qe_callB (call_isiB .int) (vc_isi .int) rfl T.b_isinstance boot_isinstance (qa_cons (qv 0) (qa_cons (qe_bty rfl T.b_int boot_int) qa_nil))) (qe_and (qe_not (qe_callB (call_isiB .bool) (vc_isi .bool) rfl T.b_isinstance boot_isinstance (qa_cons (qv 0) (qa_cons (qe_bty rfl T.b_bool boot_bool) qa_nil)))) (qe_one (qe_cmp (op_eqU hr.units) vr_eq (qv 0) (qv 1) (nomark _)))))))
    qss_nil)
    (qss_cons (qs_if (qt_val (qe_callB (call_isiB .str) (vc_isi .str) rfl T.b_isinstance boot_isinstance (qa_cons (qv 1) (qa_cons (qe_bty rfl T.b_str boot_str) qa_nil))))
    (qss_one (qs_ret (qe_and (qe_callB (call_isiB .str) (vc_isi .str) rfl T.b_isinstance boot_isinstance (qa_cons (qv 0) (qa_cons (qe_bty rfl T.b_str boot_str) qa_nil))) (qe_one (qe_cmp (op_eqU hr.units) vr_eq (qv 0) (qv 1) (nomark _))))))
    qss_nil)
    (qss_one (qs_ret (qe_and (qe_cmp op_isN vr_isN (qv 1) qe_non (nomark _)) (qe_one (qe_cmp op_isN vr_isN (qv 0) qe_non (nomark _)))))))))), ?_⟩)
  intro vs H Q E h
  unfold sp_same at h
  split at h
  · rename_i x y
    obtain ⟨hs, h⟩ := h
    unfold Same at hs
    split at hs
    · subst hs
      walk_at "rd"
      exact ⟨H, Sub.refl _, by rw [beq_self_eq_true]; exact h⟩
    · rename_i e; cases e
    · rename_i e; cases e
    · exact hs.elim
  · exact h.elim

theorem G_sameS (T : Tx K mg t) {n : Nat} (ih : FnOk' P w K mg base CX0 (n + 1) t.a_law_same t.d_law_same ["_law_found", "_law_due"] (sp_same n)) : FnOk' P w K mg base CX0 (n + 2) t.a_law_same t.d_law_same ["_law_found", "_law_due"] (sp_same (n + 1)) := by
  refine okU (k := n + 1) T.F_law_same sc_law_same (fun vs H Q E h => by
    unfold sp_same at h
    split at h
    · rfl
    · exact h.elim) (fun cdv A outer s H E B hr => ⟨_, (qss_cons (qs_if (qt_bool (qw_or (qt_val (qe_callB (call_isiB .tuple) (vc_isi .tuple) rfl T.b_isinstance boot_isinstance (qa_cons (qv 1) (qa_cons (qe_bty rfl T.b_tuple boot_tuple) qa_nil)))) (qw_or1 (qt_val (qe_callB (call_isiB .list) (vc_isi .list) rfl T.b_isinstance boot_isinstance (qa_cons (qv 1) (qa_cons (qe_bty rfl T.b_list boot_list) qa_nil)))))))
    (qss_cons (qs_if (qt_bool (qw_or (qt_cmp (op_neU hr.units) vr_eq (qe_callB (call_isiB .tuple) (vc_isi .tuple) rfl T.b_isinstance boot_isinstance (qa_cons (qv 0) (qa_cons (qe_bty rfl T.b_tuple boot_tuple) qa_nil))) (qe_callB (call_isiB .tuple) (vc_isi .tuple) rfl T.b_isinstance boot_isinstance (qa_cons (qv 1) (qa_cons (qe_bty rfl T.b_tuple boot_tuple) qa_nil))) (nomark _)) (qw_or1 (qt_cmp (op_neU hr.units) vr_eq (qe_callB (call_isiB .list) (vc_isi .list) rfl T.b_isinstance boot_isinstance (qa_cons (qv 0) (qa_cons (qe_bty rfl T.b_list boot_list) qa_nil))) (qe_callB (call_isiB .list) (vc_isi .list) rfl T.b_isinstance boot_isinstance (qa_cons (qv 1) (qa_cons (qe_bty rfl T.b_list boot_list) qa_nil))) (nomark _)))))
      (qss_one (qs_ret qe_bl))
      qss_nil)
      (qss_cons (qs_if (qt_cmp (op_neU hr.units) vr_eq (qe_callB call_len_seq vc_len rfl T.b_len PySem.boot_len (qa_cons (qv 0) qa_nil)) (qe_callB call_len_seq vc_len rfl T.b_len PySem.boot_len (qa_cons (qv 1) qa_nil)) (nomark _))
      (qss_one (qs_ret qe_bl))
      qss_nil)
      (qss_cons (qs_for PassesOwn.never rfl (qi_range1 rfl T.b_range (qa_cons (qe_callB call_len_seq vc_len rfl T.b_len PySem.boot_len (qa_cons (qv 1) qa_nil)) qa_nil)) (qg_name (i := 2) sc_law_same.nd rfl (by first | exact Or.inl rfl | exact Or.inr rfl))
      (qss_one (qs_if (qt_not (qt_val (qe_call ih (hr.mono (Nat.le_refl _)) rfl T.g_law_same T.F_law_same.kp T.B_law_same (qa_cons (qe_ix (qv 0) (qv 2) (fun _ _ => rfl)) (qa_cons (qe_ix (qv 1) (qv 2) (fun _ _ => rfl)) qa_nil)))))
        (qss_one (qs_ret qe_bl))
        qss_nil)))
      (qss_one (qs_ret qe_bl)))))
    qss_nil)
    (qss_cons (qs_if (qt_val (qe_callB (call_isiB .bool) (vc_isi .bool) rfl T.b_isinstance boot_isinstance (qa_cons (qv 1) (qa_cons (qe_bty rfl T.b_bool boot_bool) qa_nil))))
    (qss_one (qs_ret (qe_and (qe_callB (call_isiB .bool) (vc_isi .bool) rfl T.b_isinstance boot_isinstance (qa_cons (qv 0) (qa_cons (qe_bty rfl T.b_bool boot_bool) qa_nil))) (qe_one (qe_cmp (op_eqU hr.units) vr_eq (qv 0) (qv 1) (nomark _))))))
    qss_nil)
    (qss_cons (qs_if (qt_val (qe_callB (call_isiB .int) (vc_isi .int) rfl T.b_isinstance boot_isinstance (qa_cons (qv 1) (qa_cons (qe_bty rfl T.b_int boot_int) qa_nil))))
    (qss_one (qs_ret (qe_and (qe_callB (call_isiB .int) (vc_isi .int) rfl T.b_isinstance boot_isinstance (qa_cons (qv 0) (qa_cons (qe_bty rfl T.b_int boot_int) qa_nil))) (qe_and (qe_not (qe_callB (call_isiB .bool) (vc_isi .bool) rfl T.b_isinstance boot_isinstance (qa_cons (qv 0) (qa_cons (qe_bty rfl T.b_bool boot_bool) qa_nil)))) (qe_one (qe_cmp (op_eqU hr.units) vr_eq (qv 0) (qv 1) (nomark _)))))))
    qss_nil)
    (qss_cons (qs_if (qt_val (qe_callB (call_isiB .str) (vc_isi .str) rfl T.b_isinstance boot_isinstance (qa_cons (qv 1) (qa_cons (qe_bty rfl T.b_str boot_str) qa_nil))))
    (qss_one (qs_ret (qe_and (qe_callB (call_isiB .str) (vc_isi .str) rfl T.b_isinstance boot_isinstance (qa_cons (qv 0) (qa_cons (qe_bty rfl T.b_str boot_str) qa_nil))) (qe_one (qe_cmp (op_eqU hr.units) vr_eq (qv 0) (qv 1) (nomark _))))))
    qss_nil)
    (qss_one (qs_ret (qe_and (qe_cmp op_isN vr_isN (qv 1) qe_non (nomark _)) (qe_one (qe_cmp op_isN vr_isN (qv 0) qe_non (nomark _)))))))))), ?_⟩)
  intro vs H Q E h
  unfold sp_same at h
  split at h
  · rename_i x y
    obtain ⟨hs, h⟩ := h
    unfold Same at hs
    split at hs
    · subst hs
      walk_at "rd"
      exact ⟨H, Sub.refl _, by rw [beq_self_eq_true]; exact h⟩
    · rename_i n0 l m e
      obtain ⟨hl, hp⟩ := hs
      cases e
      have hlen := hp.length
      walk_at "rd"
      refine cif_neg rfl (cif_neg rfl (cif_neg (by rw [hlen]; simp) ⟨⟨by omega, by omega⟩, ?_⟩))
      rw [Int.toNat_natCast]
      refine for_rng (fun i σ H2 => ∃ k, σ = [some (.tup l), some (.tup m), k] ∧ H2 = H) ?_ ?_ ⟨none, rfl, rfl⟩
      · rintro σ H2 ⟨k, rfl, rfl⟩
        exact ⟨trivial, H2, Sub.refl _, h⟩
      · rintro G i σ H2 hi ⟨k, rfl, rfl⟩ kk
        refine ⟨trivial, ?_⟩
        walk_at "rd"
        rw [atI_at (show i < l.length by omega), atI_at (show i < m.length by omega)]
        walk_at "rd"
        exact ⟨pd_get hp _ _, kk _ _ ⟨_, rfl, rfl⟩⟩
    · rename_i n0 a b e
      obtain ⟨l, m, ha, hb, hl, hp⟩ := hs
      cases e
      have hlen := hp.length
      walk_at "rd"
      refine ⟨_, hb, _, hb, _, ha, _, hb, cif_neg rfl ⟨_, ha, _, hb, cif_neg rfl ⟨_, ha, _, hb, cif_neg (by rw [hlen]; simp) ⟨_, hb, ⟨by omega, by omega⟩, ?_⟩⟩⟩⟩
      rw [Int.toNat_natCast]
      refine for_rng (fun i σ H2 => ∃ k, σ = [some (.ref a), some (.ref b), k] ∧ H2 = H) ?_ ?_ ⟨none, rfl, rfl⟩
      · rintro σ H2 ⟨k, rfl, rfl⟩
        exact ⟨trivial, H2, Sub.refl _, h⟩
      · rintro G i σ H2 hi ⟨k, rfl, rfl⟩ kk
        refine ⟨trivial, ?_⟩
        walk_at "rd"
        refine ⟨_, ha, ?_⟩
        rw [atI_at (show i < l.length by omega)]
        walk_at "rd"
        refine ⟨_, hb, ?_⟩
        rw [atI_at (show i < m.length by omega)]
        walk_at "rd"
        exact ⟨pd_get hp _ _, kk _ _ ⟨_, rfl, rfl⟩⟩
    · exact hs.elim
  · exact h.elim

theorem G_law_same (T : Tx K mg t) : ∀ n, FnOk' P w K mg base CX0 (n + 1) t.a_law_same t.d_law_same ["_law_found", "_law_due"] (sp_same n)
  | 0 => G_same0 T
  | n + 1 => G_sameS T (G_law_same T n)

theorem G_greatest_divisor (T : Tx K mg t) : FnOk' P w K mg base CX0 1 t.a_greatest_divisor t.d_greatest_divisor ["a", "b"] sp_gdiv := by
  refine okU (k := 0) T.F_greatest_divisor sc_greatest_divisor (fun vs H Q E h => by
    unfold sp_gdiv at h
    split at h
    · rfl
    · exact h.elim) (fun cdv A outer s H E B hr => ⟨_, (qss_cons (qs_while PassesOwn.never (qt_cmp (op_neU hr.units) vr_eq (qv 1) qe_int (nomark _))
    (qss_cons (qs_set (i := 2) sc_greatest_divisor.nd rfl (by first | exact Or.inl rfl | exact Or.inr rfl) (qe_mod (qv 0) (qv 1)))
      (qss_cons (qs_set (i := 0) sc_greatest_divisor.nd rfl (by first | exact Or.inl rfl | exact Or.inr rfl) (qv 1))
      (qss_one (qs_set (i := 1) sc_greatest_divisor.nd rfl (by first | exact Or.inl rfl | exact Or.inr rfl) (qv 2))))))
    (qss_one (qs_ret (qv 0)))), ?_⟩)
  intro vs H Q E h
  unfold sp_gdiv at h
  split at h
  · rename_i a b
    obtain ⟨⟨ha, hb⟩, h⟩ := h
    walk_at "rd"
    refine while_by (fun m σ H' => ∃ x y r, σ = [some (.int x), some (.int y), r] ∧ H' = H ∧ (0 ≤ x ∧ 0 ≤ y ∧ My.gd x y = My.gd a b) ∧ m = y.natAbs) b.natAbs ⟨a, b, none, rfl, rfl, ⟨ha, hb, rfl⟩, rfl⟩ ?_
    rintro m σ H' ⟨x, y, r, rfl, rfl, ⟨hx, hy0, hg⟩, rfl⟩
    walk_at "rd"
    by_cases hy : y = 0
    · refine cif_neg (by simp [hy]) ⟨H', Sub.refl _, ?_⟩
      rw [← hg, hy, My.gd_zero, if_neg (by omega)] at h
      exact h
    · refine cif_pos (by simp [hy]) ?_
      exact ⟨_, fun σ' H' z => z, hy, _, My.fmod_abs x y hy, _, _, _, rfl, rfl, My.v_turn hg hy0 hy, rfl⟩
  · exact h.elim

theorem G_fraction (T : Tx K mg t) : FnOk' P w K mg base CX0 2 t.a_fraction t.d_fraction ["top", "bottom"] sp_fraction := by
  refine okU (k := 1) T.F_fraction sc_fraction (fun vs H Q E h => by
    unfold sp_fraction at h
    split at h
    · rfl
    · exact h.elim) (fun cdv A outer s H E B hr => ⟨_, (qss_cons (qs_if (qt_cmp (op_eqU hr.units) vr_eq (qv 1) qe_int (nomark _))
    qss_never
    qss_nil)
    (qss_cons (qs_set (i := 2) sc_fraction.nd rfl (by first | exact Or.inl rfl | exact Or.inr rfl) (qe_call (G_greatest_divisor T) (hr.mono (by decide)) rfl T.g_greatest_divisor T.F_greatest_divisor.kp T.B_greatest_divisor (qa_cons (qe_callB call_abs vc_abs rfl T.b_abs boot_abs (qa_cons (qv 0) qa_nil)) (qa_cons (qe_callB call_abs vc_abs rfl T.b_abs boot_abs (qa_cons (qv 1) qa_nil)) qa_nil))))
    (qss_cons (qs_if (qt_cmp op_lt vr_lt (qv 1) qe_int (nomark _))
    (qss_one (qs_set (i := 2) sc_fraction.nd rfl (by first | exact Or.inl rfl | exact Or.inr rfl) (qe_neg (qv 2))))
    qss_nil)
    (qss_one (qs_ret (qe_tup (qa_cons (qe_fdiv (qv 0) (qv 2)) (qa_cons (qe_fdiv (qv 1) (qv 2)) qa_nil)))))))), ?_⟩)
  intro vs H Q E h
  unfold sp_fraction at h
  split at h
  · rename_i a b
    obtain ⟨⟨h0, h1, h2⟩, h⟩ := h
    have g := My.gd_fact a b h1
    walk_at "rd"
    refine cif_neg (by simp; omega) ?_
    rw [My.gd_abs]
    refine ⟨⟨by split <;> omega, by split <;> omega⟩, cif_neg (by simp; omega) ?_⟩
    try walk_at "rd"
    exact ⟨cdvS g.1 (by omega), cdvS g.1 (by omega), small_size (by decide), H, Sub.refl _, h⟩
  · exact h.elim

theorem G_common_bottom (T : Tx K mg t) : FnOk' P w K mg base CX0 2 t.a_common_bottom t.d_common_bottom ["parts"] sp_cbot := by
  refine okU (k := 1) T.F_common_bottom sc_common_bottom (fun vs H Q E h => by
    unfold sp_cbot at h
    split at h
    · rfl
    · exact h.elim) (fun cdv A outer s H E B hr => ⟨_, (qss_cons (qs_set (i := 1) sc_common_bottom.nd rfl (by first | exact Or.inl rfl | exact Or.inr rfl) qe_int)
    (qss_cons (qs_for PassesOwn.never rfl (qi_seq (qv 0)) (qg_name (i := 2) sc_common_bottom.nd rfl (by first | exact Or.inl rfl | exact Or.inr rfl))
    (qss_one (qs_if (qt_cmp (op_neU hr.units) vr_eq (qe_mod (qv 1) (qe_ix (qv 2) qe_int (fun _ _ => rfl))) qe_int (nomark _))
      (qss_one (qs_set (i := 1) sc_common_bottom.nd rfl (by first | exact Or.inl rfl | exact Or.inr rfl) (qe_mul (qe_fdiv (qv 1) (qe_call (G_greatest_divisor T) (hr.mono (by decide)) rfl T.g_greatest_divisor T.F_greatest_divisor.kp T.B_greatest_divisor (qa_cons (qv 1) (qa_cons (qe_ix (qv 2) qe_int (fun _ _ => rfl)) qa_nil)))) (qe_ix (qv 2) qe_int (fun _ _ => rfl)))))
      qss_nil)))
    (qss_one (qs_ret (qv 1))))), ?_⟩)
  intro vs H Q E h
  unfold sp_cbot at h
  split at h
  · rename_i l
    obtain ⟨ws, s, sh, rfl, h⟩ := h
    refine seq_abs fun R hR => ?_
    walk_at "rd"
    subst hR
    refine seq_abs fun R hR => ?_
    walk_at "rd"
    refine for_atD (fun i σ H2 => ∃ B z, σ = [some (.tup (ws.map fun w => prV (shr s w))), some (.int B), z] ∧ H2 = H ∧ 0 < B ∧ B ∣ s ∧ ∀ w ∈ ws.take i, (shr s w).2 ∣ B) ?_ ?_ ⟨1, none, rfl, rfl, by decide, Int.one_dvd _, fun w hw => by rw [List.take_zero] at hw; cases hw⟩
    · rintro σ H2 ⟨B, z, rfl, rfl, b0, b1, b2⟩
      refine ⟨trivial, ?_⟩
      subst hR
      walk_at "rd"
      exact ⟨H2, Sub.refl _, h B b0 b1 (by rw [List.length_map, List.take_length] at b2; exact b2)⟩
    · rintro D i y σ H2 hy ⟨B, z, rfl, rfl, b0, b1, b2⟩ kk
      refine ⟨trivial, ?_⟩
      rw [List.getElem?_map] at hy
      cases hg : ws[i]? with
      | none => rw [hg] at hy; cases hy
      | some w =>
        rw [hg] at hy
        cases hy
        have hw := List.mem_of_getElem? hg
        obtain ⟨q1, q2, q3, q4⟩ := sh.le hw
        obtain ⟨_, _, _, d1, _⟩ := shr_pos sh.2.1 (sh.2.2.1 w hw)
        have sB := Int.le_of_dvd sh.2.1 b1
        have s3 := sh.2.2.2.1
        try simp only [Option.map_some]
        obtain ⟨l1, l2, l3, l4⟩ := lcm_ok b0 (show 0 < (shr s w).2 by omega) b1 d1
        have fl := fdiv_le (a := B) (b := My.gd B (shr s w).2) (by omega) (My.gd_pos _ _ (by omega))
        have g := My.gd_fact B (shr s w).2 (by omega)
        unfold prV at *
        walk_at "rd"
        refine ⟨by omega, cif_by (fun q => ⟨⟨by omega, by omega⟩, cdvS g.1 (by omega), .inr ⟨fitS fl.1 (by omega), fitS (by omega) (by omega)⟩, kk _ _ ⟨_, _, rfl, rfl, l1, l4, fun x hx => ?_⟩⟩) (fun q => kk _ _ ⟨B, _, rfl, rfl, b0, b1, fun x hx => ?_⟩)⟩
        · rw [List.take_add_one, hg] at hx
          rcases List.mem_append.mp hx with hx | hx
          · exact Int.dvd_trans (b2 x hx) l2
          · have : x = w := by simpa using hx
            rw [this]; exact l3
        · rw [List.take_add_one, hg] at hx
          rcases List.mem_append.mp hx with hx | hx
          · exact b2 x hx
          · have : x = w := by simpa using hx
            rw [this]; exact fmod_dvd (by omega) (by simpa using q)
  · exact h.elim

theorem G_tops_over (T : Tx K mg t) : FnOk' P w K mg base CX0 1 t.a_tops_over t.d_tops_over ["parts", "bottom"] sp_tops := by
  refine okU (k := 0) T.F_tops_over sc_tops_over (fun vs H Q E h => by
    unfold sp_tops at h
    split at h
    · rfl
    · exact h.elim) (fun cdv A outer s H E B hr => ⟨_, (qss_one (qs_ret (qe_comp (N2 := ["part", "bottom"]) (nt := 1) (js := [1]) (cok (sc := defScope s_tops_over) (by exact rfl) (by repeat (first | exact trivial | refine ⟨rfl, ?_⟩)) rfl (by rfl) (by decide +kernel) (by decide +kernel) (by rfl) (by decide +kernel) (by rfl) (by rfl)) rfl (qi_seq (qv 0)) (fun s0 H0 fp ps => ⟨(qg_name (i := 0) (show List.Nodup (["part", "bottom"] : List Str) by decide +kernel) rfl (by first | exact Or.inl rfl | exact Or.inr rfl)), qif_nil, (qe_mul (qe_ix (qv 0) qe_int (fun _ _ => rfl)) (qe_fdiv (qv 1) (qe_ix (qv 0) qe_int (fun _ _ => rfl))))⟩)))), ?_⟩)
  intro vs H Q E h
  unfold sp_tops at h
  split at h
  · rename_i l B
    obtain ⟨ws, s, sh, rfl, ⟨b0, b1⟩, h⟩ := h
    walk_at "rd"
    intro acc hacc
    refine comp_pure (fT B) (fun _ => true) (fun σ => ∃ z, σ = [z, some (.int B)]) (by rw [List.length_map]; have := sh.2.2.2.2; omega) (fun _ => trivial) ?_ ?_ ⟨_, rfl⟩
    · rintro y hy l σ R ⟨z, rfl⟩ hl kT kF
      obtain ⟨w, hw, rfl⟩ := List.mem_map.mp hy
      obtain ⟨q1, q2, q3, q4⟩ := sh.le hw
      have sB := Int.le_of_dvd sh.2.1 b1
      have s3 := sh.2.2.2.1
      unfold prV at *
      walk_at "rd"
      have fB : 0 ≤ B.fdiv (shr s w).2 := Int.fdiv_nonneg (by omega) (by omega)
      refine ⟨cdvS (by omega) (by omega), ?_, hl, by rw [put_put]; exact kT rfl _ ⟨_, rfl⟩⟩
      have fl := fdiv_le (a := B) (b := (shr s w).2) (by omega) (by omega)
      exact .inr ⟨fitS q1 (by omega), fitS fl.1 (by omega)⟩
    have em : (((ws.map fun w => prV (shr s w)).filter fun _ => true).map (fT B)) = (ws.map (topO s B)).map PV.int := by
      rw [List.filter_eq_self.mpr (fun _ _ => rfl), List.map_map, List.map_map]
      rfl
    rw [em]
    exact ⟨_, Sub.refl _, h acc hacc⟩
  · exact h.elim

theorem G_total (T : Tx K mg t) : FnOk' P w K mg base CX0 3 t.a_total t.d_total ["parts"] sp_total := by
  refine okU (k := 2) T.F_total sc_total (fun vs H Q E h => by
    unfold sp_total at h
    split at h
    · rfl
    · exact h.elim) (fun cdv A outer s H E B hr => ⟨_, (qss_cons (qs_set (i := 1) sc_total.nd rfl (by first | exact Or.inl rfl | exact Or.inr rfl) (qe_call (G_common_bottom T) (hr.mono (by decide)) rfl T.g_common_bottom T.F_common_bottom.kp T.B_common_bottom (qa_cons (qv 0) qa_nil)))
    (qss_one (qs_ret (qe_call (G_fraction T) (hr.mono (by decide)) rfl T.g_fraction T.F_fraction.kp T.B_fraction (qa_cons (qe_callB (call_sumI rfl) vc_sum rfl T.b_sum boot_sum (qa_cons (qe_call (G_tops_over T) (hr.mono (by decide)) rfl T.g_tops_over T.F_tops_over.kp T.B_tops_over (qa_cons (qv 0) (qa_cons (qv 1) qa_nil))) qa_nil)) (qa_cons (qv 1) qa_nil)))))), ?_⟩)
  intro vs H Q E h
  unfold sp_total at h
  split at h
  · rename_i l
    obtain ⟨ws, s, sh, rfl, h⟩ := h
    refine seq_abs fun R hR => ?_
    walk_at "rd"
    refine ⟨ws, s, sh, rfl, fun B b0 b1 b2 => ?_⟩
    have sB := Int.le_of_dvd sh.2.1 b1
    have s3 := sh.2.2.2.1
    subst hR
    walk_at "rd"
    refine ⟨ws, s, sh, rfl, ⟨b0, b1⟩, fun p hp => ⟨_, rfl, ?_⟩⟩
    rw [top_all sh b2]
    try walk_at "rd"
    have gB : My.gd B B = B := by unfold My.gd; rw [Int.gcd_self]; omega
    refine ⟨⟨by omega, by omega, by omega⟩, H, (Sub.refl H).put hp, ?_⟩
    rw [gB, Int.fdiv_self (by omega)]
    exact h
  · exact h.elim

theorem G_is_share (T : Tx K mg t) : FnOk' P w K mg base CX0 3 t.a_is_share t.d_is_share ["part"] sp_isshare := by
  refine okU (k := 2) T.F_is_share sc_is_share (fun vs H Q E h => by
    unfold sp_isshare at h
    split at h
    · rfl
    · exact h.elim) (fun cdv A outer s H E B hr => ⟨_, (qss_one (qs_ret (qe_and (qe_cmp (op_eqU hr.units) vr_eq (qe_callB call_len_seq vc_len rfl T.b_len PySem.boot_len (qa_cons (qv 0) qa_nil)) qe_int (nomark _)) (qe_and (qe_cmp op_ge vr_ge (qe_ix (qv 0) qe_int (fun _ _ => rfl)) qe_int (nomark _)) (qe_and (qe_cmp op_ge vr_ge (qe_ix (qv 0) qe_int (fun _ _ => rfl)) qe_int (nomark _)) (qe_one (qe_cmp (op_eqU hr.units) vr_eq (qe_call (G_fraction T) (hr.mono (by decide)) rfl T.g_fraction T.F_fraction.kp T.B_fraction (qa_cons (qe_ix (qv 0) qe_int (fun _ _ => rfl)) (qa_cons (qe_ix (qv 0) qe_int (fun _ _ => rfl)) qa_nil))) (qv 0) (nomark _)))))))), ?_⟩)
  intro vs H Q E h
  unfold sp_isshare at h
  split at h
  · rename_i a b
    obtain ⟨⟨h0, h1, h2, h3⟩, h⟩ := h
    walk_at "rd"
    exact cif_pos rfl (cif_pos (by simpa using h0) (cif_pos (by simpa using h1) ⟨⟨h0, by omega, h2⟩, H, Sub.refl _, by rw [h3, Int.fdiv_one, Int.fdiv_one, beq_self_eq_true, beq_self_eq_true]; exact h⟩))
  · exact h.elim

theorem G_are_shares (T : Tx K mg t) : FnOk' P w K mg base CX0 4 t.a_are_shares t.d_are_shares ["parts"] sp_shares := by
  refine okU (k := 3) T.F_are_shares sc_are_shares (fun vs H Q E h => by
    unfold sp_shares at h
    split at h
    · rfl
    · exact h.elim) (fun cdv A outer s H E B hr => ⟨_, (qss_one (qs_ret (qe_and (qe_callB (call_all rfl) vc_all rfl T.b_all boot_all (qa_cons (qe_comp (N2 := ["part"]) (nt := 1) (js := []) (cok (sc := defScope s_are_shares) (by exact rfl) (by repeat (first | exact trivial | refine ⟨rfl, ?_⟩)) rfl (by rfl) (by decide +kernel) (by decide +kernel) (by rfl) (by decide +kernel) (by rfl) (by rfl)) rfl (qi_seq (qv 0)) (fun s0 H0 fp ps => ⟨(qg_name (i := 0) (show List.Nodup (["part"] : List Str) by decide +kernel) rfl (by first | exact Or.inl rfl | exact Or.inr rfl)), qif_nil, (qe_call (G_is_share T) (hr.mono (by decide)) rfl T.g_is_share T.F_is_share.kp T.B_is_share (qa_cons (qv 0) qa_nil))⟩)) qa_nil)) (qe_one (qe_cmp (op_eqU hr.units) vr_eq (qe_call (G_total T) (hr.mono (by decide)) rfl T.g_total T.F_total.kp T.B_total (qa_cons (qv 0) qa_nil)) (qe_tup (qa_cons qe_int (qa_cons qe_int qa_nil))) (nomark _)))))), ?_⟩)
  intro vs H Q E h
  unfold sp_shares at h
  split at h
  · rename_i l
    obtain ⟨ws, s, sh, rfl, h⟩ := h
    walk_at "rd"
    intro acc hacc
    refine comp_pure (fun _ => PV.bl true) (fun _ => true) (fun σ => ∃ z, σ = [z]) (by rw [List.length_map]; have := sh.2.2.2.2; omega) (fun _ => trivial) ?_ ?_ ⟨_, rfl⟩
    · rintro y hy l σ R ⟨z, rfl⟩ hl kT kF
      obtain ⟨w, hw, rfl⟩ := List.mem_map.mp hy
      obtain ⟨q1, q2, q3, q4⟩ := sh.le hw
      obtain ⟨_, _, _, _, g1, _⟩ := shr_pos sh.2.1 (sh.2.2.1 w hw)
      unfold prV at *
      walk_at "rd"
      exact ⟨⟨q1, q3, by omega, g1⟩, hl, by rw [put_put]; exact kT rfl _ ⟨_, rfl⟩⟩
    have em : (((ws.map fun w => prV (shr s w)).filter fun _ => true).map fun _ => PV.bl true) = (ws.map fun _ => true).map PV.bl := by
      rw [List.filter_eq_self.mpr (fun _ _ => rfl), List.map_map, List.map_map]
      rfl
    rw [em]
    try walk_at "rd"
    refine ⟨ws.map fun _ => true, rfl, cif_pos (by simp) ⟨ws, s, sh, rfl, small_size (by decide), H, (Sub.refl H).put hacc, h⟩⟩
  · exact h.elim

theorem G_copied (T : Tx K mg t) : FnOk' P w K mg base CX0 1 t.a_copied t.d_copied ["parts"] sp_copied := by
  refine okU (k := 0) T.F_copied sc_copied (fun vs H Q E h => by
    unfold sp_copied at h
    split at h
    · rfl
    · exact h.elim) (fun cdv A outer s H E B hr => ⟨_, (qss_one (qs_ret (qe_callTy call_tuple_of vc_tuple rfl T.b_tuple boot_tuple (qa_cons (qe_comp (N2 := ["part"]) (nt := 1) (js := []) (cok (sc := defScope s_copied) (by exact rfl) (by repeat (first | exact trivial | refine ⟨rfl, ?_⟩)) rfl (by rfl) (by decide +kernel) (by decide +kernel) (by rfl) (by decide +kernel) (by rfl) (by rfl)) rfl (qi_seq (qv 0)) (fun s0 H0 fp ps => ⟨(qg_name (i := 0) (show List.Nodup (["part"] : List Str) by decide +kernel) rfl (by first | exact Or.inl rfl | exact Or.inr rfl)), qif_nil, (qe_callTy call_tuple_of vc_tuple rfl T.b_tuple boot_tuple (qa_cons (qv 0) qa_nil))⟩)) qa_nil)))), ?_⟩)
  intro vs H Q E h
  unfold sp_copied at h
  split at h
  · rename_i v
    obtain ⟨ps, sq, hl, h⟩ := h
    rcases sq with rfl | ⟨a, rfl, ha⟩
    · walk_at "rd"
      intro acc hacc
      refine comp_pure (fun y => y) (fun _ => true) (fun σ => ∃ z, σ = [z]) (by rw [List.length_map]; omega) (fun _ => trivial) ?_ ?_ ⟨_, rfl⟩
      · rintro y hy l σ R ⟨z, rfl⟩ hl' kT kF
        obtain ⟨p, hp, rfl⟩ := List.mem_map.mp hy
        unfold prV at *
        walk_at "rd"
        exact ⟨hl', by rw [put_put]; exact kT rfl _ ⟨_, rfl⟩⟩
      rw [List.filter_eq_self.mpr (fun _ _ => rfl), List.map_id']
      try walk_at "rd"
      exact ⟨H, (Sub.refl H).put hacc, h⟩
    · walk_at "rd"
      refine ⟨_, ha, fun acc hacc => ?_⟩
      refine comp_pure (fun y => y) (fun _ => true) (fun σ => ∃ z, σ = [z]) (by rw [List.length_map]; omega) (fun l => (put_ne (ne_none ha hacc)).trans ha) ?_ ?_ ⟨_, rfl⟩
      · rintro y hy l σ R ⟨z, rfl⟩ hl' kT kF
        obtain ⟨p, hp, rfl⟩ := List.mem_map.mp hy
        unfold prV at *
        walk_at "rd"
        exact ⟨hl', by rw [put_put]; exact kT rfl _ ⟨_, rfl⟩⟩
      rw [List.filter_eq_self.mpr (fun _ _ => rfl), List.map_id']
      try walk_at "rd"
      exact ⟨H, (Sub.refl H).put hacc, h⟩
  · exact h.elim

theorem G_product (T : Tx K mg t) : FnOk' P w K mg base CX0 1 t.a_product t.d_product ["numbers"] sp_product := by
  refine okU (k := 0) T.F_product sc_product (fun vs H Q E h => by
    unfold sp_product at h
    split at h
    · rfl
    · exact h.elim) (fun cdv A outer s H E B hr => ⟨_, (qss_cons (qs_set (i := 1) sc_product.nd rfl (by first | exact Or.inl rfl | exact Or.inr rfl) qe_int)
    (qss_cons (qs_for PassesOwn.never rfl (qi_seq (qv 0)) (qg_name (i := 2) sc_product.nd rfl (by first | exact Or.inl rfl | exact Or.inr rfl))
    (qss_one (qs_set (i := 1) sc_product.nd rfl (by first | exact Or.inl rfl | exact Or.inr rfl) (qe_mul (qv 1) (qv 2)))))
    (qss_one (qs_ret (qv 1))))), ?_⟩)
  intro vs H Q E h
  unfold sp_product at h
  split at h
  · rename_i v
    obtain ⟨ns, sq, hl, hp, hn, h⟩ := h
    rcases sq with rfl | ⟨a, rfl, ha⟩
    · refine seq_abs fun R hR => ?_
      walk_at "rd"
      subst hR
      refine seq_abs fun R hR => ?_
      walk_at "rd"
      refine for_atD (fun i σ H2 => ∃ z, σ = [some (.tup (ns.map PV.int)), some (.int (prod (ns.take i))), z] ∧ H2 = H) ?_ ?_ ⟨none, rfl, rfl⟩
      · rintro σ H2 ⟨z, rfl, rfl⟩
        refine ⟨trivial, ?_⟩
        rw [List.length_map, List.take_length]
        subst hR
        walk_at "rd"
        exact ⟨H2, Sub.refl _, h⟩
      · rintro D i y σ H2 hy ⟨z, rfl, rfl⟩ kk
        refine ⟨trivial, ?_⟩
        rw [List.getElem?_map] at hy
        cases hg : ns[i]? with
        | none => rw [hg] at hy; cases hy
        | some n =>
          rw [hg] at hy
          cases hy
          have e : prod (ns.take (i + 1)) = prod (ns.take i) * n := by rw [List.take_add_one, hg]; exact prod_snoc
          try simp only [Option.map_some]
          walk_at "rd"
          exact ⟨.inr ⟨fitN (hp i), fitN (hn n (List.mem_of_getElem? hg))⟩, kk _ _ ⟨_, by rw [e], rfl⟩⟩
    · refine seq_abs fun R hR => ?_
      walk_at "rd"
      subst hR
      refine seq_abs fun R hR => ?_
      walk_at "rd"
      refine ⟨_, ha, ?_⟩
      refine for_atD (fun i σ H2 => ∃ z, σ = [some (.ref a), some (.int (prod (ns.take i))), z] ∧ H2 = H) ?_ ?_ ⟨none, rfl, rfl⟩
      · rintro σ H2 ⟨z, rfl, rfl⟩
        refine ⟨ha, ?_⟩
        rw [List.length_map, List.take_length]
        subst hR
        walk_at "rd"
        exact ⟨H2, Sub.refl _, h⟩
      · rintro D i y σ H2 hy ⟨z, rfl, rfl⟩ kk
        refine ⟨ha, ?_⟩
        rw [List.getElem?_map] at hy
        cases hg : ns[i]? with
        | none => rw [hg] at hy; cases hy
        | some n =>
          rw [hg] at hy
          cases hy
          have e : prod (ns.take (i + 1)) = prod (ns.take i) * n := by rw [List.take_add_one, hg]; exact prod_snoc
          try simp only [Option.map_some]
          walk_at "rd"
          exact ⟨.inr ⟨fitN (hp i), fitN (hn n (List.mem_of_getElem? hg))⟩, kk _ _ ⟨_, by rw [e], rfl⟩⟩
  · exact h.elim

theorem G_are_sizes (T : Tx K mg t) : FnOk' P w K mg base CX0 1 t.a_are_sizes t.d_are_sizes ["drawing", "sizes"] (sp_sizes t) := by
  refine okU (k := 0) T.F_are_sizes sc_are_sizes (fun vs H Q E h => by
    unfold sp_sizes at h
    split at h
    · rfl
    · exact h.elim) (fun cdv A outer s H E B hr => ⟨_, (qss_one (qs_ret (qe_and (qe_cmp op_eqI vr_eqI (qe_callB call_len_seq vc_len rfl T.b_len PySem.boot_len (qa_cons (qv 1) qa_nil)) (qe_fld (qv 0) T.cl_Drawing T.nf_Drawing_count rfl) (nomark _)) (qe_one (qe_callB (call_all rfl) vc_all rfl T.b_all boot_all (qa_cons (qe_comp (N2 := ["size"]) (nt := 1) (js := []) (cok (sc := defScope s_are_sizes) (by exact rfl) (by repeat (first | exact trivial | refine ⟨rfl, ?_⟩)) rfl (by rfl) (by decide +kernel) (by decide +kernel) (by rfl) (by decide +kernel) (by rfl) (by rfl)) rfl (qi_seq (qv 1)) (fun s0 H0 fp ps => ⟨(qg_name (i := 0) (show List.Nodup (["size"] : List Str) by decide +kernel) rfl (by first | exact Or.inl rfl | exact Or.inr rfl)), qif_nil, (qe_chain op_le vr_le op_le vr_le (qe_globE (v' := .int 2) rfl T.c_LEAST_SIZE (fun _ => by simp [RP])) (qv 0) (qe_globE (v' := .int 4) rfl T.c_MOST_SIZE (fun _ => by simp [RP])))⟩)) qa_nil)))))), ?_⟩)
  intro vs H Q E h
  unfold sp_sizes at h
  split at h
  · rename_i x l
    obtain ⟨dx, c, ts, bs, ns, hx, rfl, hc, h6, hn, h⟩ := h
    walk_at "rd"
    refine ⟨dx, _, _, hx, rfl, ?_⟩
    try walk_at "rd"
    rw [List.length_map]
    refine cif_pos (by simp [hc]) fun acc hacc => ?_
    refine comp_pure (fun _ => PV.bl true) (fun _ => true) (fun σ => ∃ z, σ = [z]) (by rw [List.length_map]; omega) (fun _ => trivial) ?_ ?_ ⟨_, rfl⟩
    · rintro y hy l σ R ⟨z, rfl⟩ hl kT kF
      obtain ⟨n, hm, rfl⟩ := List.mem_map.mp hy
      have q := hn n hm
      walk_at "rd"
      rw [decide_eq_true q.2]
      exact cif_pos (by simpa using q.1) ⟨hl, by rw [put_put]; exact kT rfl _ ⟨_, rfl⟩⟩
    have em : (((ns.map PV.int).filter fun _ => true).map fun _ => PV.bl true) = (ns.map fun _ => true).map PV.bl := by
      rw [List.filter_eq_self.mpr (fun _ _ => rfl), List.map_map, List.map_map]
      rfl
    rw [em]
    try walk_at "rd"
    exact ⟨_, rfl, H, (Sub.refl H).put hacc, by rw [all_t]; exact h⟩
  · exact h.elim

theorem G_are_hidden (T : Tx K mg t) : FnOk' P w K mg base CX0 5 t.a_are_hidden t.d_are_hidden ["drawing", "hidden"] (sp_hidden t) := by
  refine okU (k := 4) T.F_are_hidden sc_are_hidden (fun vs H Q E h => by
    unfold sp_hidden at h
    split at h
    · rfl
    · exact h.elim) (fun cdv A outer s H E B hr => ⟨_, (qss_cons (qs_if (qt_cmp (op_neU hr.units) vr_eq (qe_callB call_len_seq vc_len rfl T.b_len PySem.boot_len (qa_cons (qv 1) qa_nil)) (qe_callB call_len_seq vc_len rfl T.b_len PySem.boot_len (qa_cons (qe_fld (qv 0) T.cl_Drawing T.nf_Drawing_bows rfl) qa_nil)) (nomark _))
    (qss_one (qs_ret qe_bl))
    qss_nil)
    (qss_one (qs_ret (qe_callB (call_all rfl) vc_all rfl T.b_all boot_all (qa_cons (qe_comp (N2 := ["shares"]) (nt := 1) (js := []) (cok (sc := defScope s_are_hidden) (by exact rfl) (by repeat (first | exact trivial | refine ⟨rfl, ?_⟩)) rfl (by rfl) (by decide +kernel) (by decide +kernel) (by rfl) (by decide +kernel) (by rfl) (by rfl)) rfl (qi_seq (qv 1)) (fun s0 H0 fp ps => ⟨(qg_name (i := 0) (show List.Nodup (["shares"] : List Str) by decide +kernel) rfl (by first | exact Or.inl rfl | exact Or.inr rfl)), qif_nil, (qe_and (qe_chain op_le vr_le op_le vr_le qe_int (qe_callB call_len_seq vc_len rfl T.b_len PySem.boot_len (qa_cons (qv 0) qa_nil)) (qe_globE (v' := .int 4) rfl T.c_MOST_HIDDEN (fun _ => by simp [RP]))) (qe_one (qe_call (G_are_shares T) (hr.mono (by decide)) rfl T.g_are_shares T.F_are_shares.kp T.B_are_shares (qa_cons (qv 0) qa_nil))))⟩)) qa_nil))))), ?_⟩)
  intro vs H Q E h
  unfold sp_hidden at h
  split at h
  · rename_i x l
    obtain ⟨dx, c, ts, bs, Hd, hx, rfl, hc, h6, hn, h⟩ := h
    refine seq_abs fun R hR => ?_
    walk_at "rd"
    refine ⟨dx, _, _, hx, rfl, ?_⟩
    try walk_at "rd"
    refine cif_neg (by rw [List.length_map, List.length_map, hc]; simp) ?_
    subst hR
    walk_at "rd"
    intro acc hacc
    refine comp_pure (fun _ => PV.bl true) (fun _ => true) (fun σ => ∃ z, σ = [z]) (by rw [List.length_map]; omega) (fun _ => trivial) ?_ ?_ ⟨_, rfl⟩
    · rintro y hy l σ R ⟨z, rfl⟩ hl kT kF
      obtain ⟨ws, hm, rfl⟩ := List.mem_map.mp hy
      have q := hn ws hm
      unfold shT at *
      walk_at "rd"
      rw [List.length_map]
      exact cif_pos (by simp; omega) (cif_pos (by simp; omega) ⟨ws, _, q.1, rfl, hl, by rw [put_put]; exact kT rfl _ ⟨_, rfl⟩⟩)
    have em : (((Hd.map shT).filter fun _ => true).map fun _ => PV.bl true) = (Hd.map fun _ => true).map PV.bl := by
      rw [List.filter_eq_self.mpr (fun _ _ => rfl), List.map_map, List.map_map]
      rfl
    rw [em]
    try walk_at "rd"
    exact ⟨_, rfl, H, (Sub.refl H).put hacc, by rw [all_t]; exact h⟩
  · exact h.elim

theorem G_bow_places (T : Tx K mg t) : FnOk' P w K mg base CX0 1 t.a_bow_places t.d_bow_places ["drawing", "name"] (sp_places t) := by
  refine okU (k := 0) T.F_bow_places sc_bow_places (fun vs H Q E h => by
    unfold sp_places at h
    split at h
    · rfl
    · exact h.elim) (fun cdv A outer s H E B hr => ⟨_, (qss_one (qs_ret (qe_compH (N2 := ["place", "bow", "name"]) (nt := 2) (js := [1]) (cok (sc := defScope s_bow_places) (by exact rfl) (by repeat (first | exact trivial | refine ⟨rfl, ?_⟩)) rfl (by rfl) (by decide +kernel) (by decide +kernel) (by rfl) (by decide +kernel) (by rfl) (by rfl)) rfl (qi_en rfl T.b_enumerate (qa_cons (qe_fld (qv 0) T.cl_Drawing T.nf_Drawing_bows rfl) qa_nil)) (fun s0 H0 fp ps => ⟨(qg_tup (n := 2) rfl (qgs_cons (qg_name (i := 0) (show List.Nodup (["place", "bow", "name"] : List Str) by decide +kernel) rfl (by first | exact Or.inl rfl | exact Or.inr rfl)) (qgs_cons (qg_name (i := 1) (show List.Nodup (["place", "bow", "name"] : List Str) by decide +kernel) rfl (by first | exact Or.inl rfl | exact Or.inr rfl)) qgs_nil))), (qif_one (qt_cmp (op_inU hr.units) vr_in (qv 2) (qv 1) (by with_unfolding_all rfl))), (qv 0)⟩)))), ?_⟩)
  intro vs H Q E h
  unfold sp_places at h
  split at h
  · rename_i x n
    obtain ⟨dx, c, ts, bs, hx, h6, h⟩ := h
    walk_at "rd"
    refine ⟨dx, _, _, hx, rfl, ?_⟩
    try walk_at "rd"
    intro acc hacc
    refine comp_pure fB (pB n) (fun σ => ∃ z0 z1, σ = [z0, z1, some (.int n)]) (by unfold numL; rw [List.length_mapIdx, List.length_map]; omega) (fun _ => trivial) ?_ ?_ ⟨_, _, rfl⟩
    · rintro y hy l σ R ⟨z0, z1, rfl⟩ hl kT kF
      obtain ⟨k, p, rfl⟩ := num_in hy
      have e : pB n (.tup [.int (k : Nat), prV p]) = hasN n p := rfl
      rw [e] at kT kF
      unfold prV at *
      walk_at "rd"
      rw [any_has]
      exact cif_by (fun q => ⟨hl, by rw [put_put]; exact kT q _ ⟨_, _, rfl⟩⟩) (fun q => kF q _ ⟨_, _, rfl⟩)
    rw [bpl_num]
    exact ⟨_, Sub.refl _, h acc hacc⟩
  · exact h.elim

theorem G_hidden_sizes (T : Tx K mg t) : FnOk' P w K mg base CX0 2 t.a_hidden_sizes t.d_hidden_sizes ["drawing", "hidden", "name"] (sp_hsz t) := by
  refine okU (k := 1) T.F_hidden_sizes sc_hidden_sizes (fun vs H Q E h => by
    unfold sp_hsz at h
    split at h
    · rfl
    · exact h.elim) (fun cdv A outer s H E B hr => ⟨_, (qss_one (qs_ret (qe_comp (N2 := ["place", "hidden"]) (nt := 1) (js := [1]) (cok (sc := defScope s_hidden_sizes) (by exact rfl) (by repeat (first | exact trivial | refine ⟨rfl, ?_⟩)) rfl (by rfl) (by decide +kernel) (by decide +kernel) (by rfl) (by decide +kernel) (by rfl) (by rfl)) rfl (qi_seq (qe_call (G_bow_places T) (hr.mono (by decide)) rfl T.g_bow_places T.F_bow_places.kp T.B_bow_places (qa_cons (qv 0) (qa_cons (qv 2) qa_nil)))) (fun s0 H0 fp ps => ⟨(qg_name (i := 0) (show List.Nodup (["place", "hidden"] : List Str) by decide +kernel) rfl (by first | exact Or.inl rfl | exact Or.inr rfl)), qif_nil, (qe_callB call_len_seq vc_len rfl T.b_len PySem.boot_len (qa_cons (qe_ix (qv 1) (qv 0) (fun _ _ => rfl)) qa_nil))⟩)))), ?_⟩)
  intro vs H Q E h
  unfold sp_hsz at h
  split at h
  · rename_i x l n
    obtain ⟨dx, c, ts, bs, Hd, hx, rfl, hl, h6, h⟩ := h
    walk_at "rd"
    refine ⟨dx, c, ts, bs, hx, h6, fun q hq => ?_⟩
    try walk_at "rd"
    intro acc hacc
    have s1 := (Sub.refl H).put (o := .lst ((bpl bs n).map fun k => PV.int (k : Nat))) hq
    have eq : put H q (.lst ((bpl bs n).map fun k => PV.int (k : Nat))) q = some (.lst ((bpl bs n).map fun k => PV.int (k : Nat))) := put_same
    generalize put H q (.lst ((bpl bs n).map fun k => PV.int (k : Nat))) = H1 at *
    have bl := bpl_len (bs := bs) (n := n)
    refine comp_pure (fH Hd) (fun _ => true) (fun σ => ∃ z, σ = [z, some (.tup (Hd.map shT))]) (by rw [List.length_map]; omega) (fun l => (put_ne (ne_none eq hacc)).trans eq) ?_ ?_ ⟨_, rfl⟩
    · rintro y hy l σ R ⟨z, rfl⟩ hl' kT kF
      obtain ⟨k, hk, rfl⟩ := List.mem_map.mp hy
      have e := atI_hd (Hd := Hd) (k := k) (by rw [hl]; exact bpl_lt hk)
      walk_at "rd"
      rw [e]
      unfold shT
      try walk_at "rd"
      rw [List.length_map]
      exact ⟨hl', by rw [put_put]; exact kT rfl _ ⟨_, rfl⟩⟩
    have em : ((((bpl bs n).map fun k => PV.int (k : Nat)).filter fun _ => true).map (fH Hd)) = (hsz Hd bs n).map PV.int := by
      rw [List.filter_eq_self.mpr (fun _ _ => rfl), List.map_map]
      unfold hsz
      rw [List.map_map]
      rfl
    rw [em]
    exact ⟨_, Sub.refl _, h acc _ (s1.put (s1.free hacc)) (s1.free hacc) put_same⟩
  · exact h.elim

theorem G_head_sizes (T : Tx K mg t) : FnOk' P w K mg base CX0 3 t.a_head_sizes t.d_head_sizes ["drawing", "sizes", "hidden", "name"] (sp_heads t) := by
  refine okU (k := 2) T.F_head_sizes sc_head_sizes (fun vs H Q E h => by
    unfold sp_heads at h
    split at h
    · rfl
    · exact h.elim) (fun cdv A outer s H E B hr => ⟨_, (qss_one (qs_ret (qe_cat (qe_comp (N2 := ["source", "sizes"]) (nt := 1) (js := [1]) (cok (sc := defScope s_head_sizes) (by exact rfl) (by repeat (first | exact trivial | refine ⟨rfl, ?_⟩)) rfl (by rfl) (by decide +kernel) (by decide +kernel) (by rfl) (by decide +kernel) (by rfl) (by rfl)) rfl (qi_seq (qe_meth (qv 0) T.cl_Drawing T.m_Drawing_sources (G_Drawing_sources T) (hr.mono (by decide)) T.B_Drawing_sources (qa_cons (qv 3) qa_nil))) (fun s0 H0 fp ps => ⟨(qg_name (i := 0) (show List.Nodup (["source", "sizes"] : List Str) by decide +kernel) rfl (by first | exact Or.inl rfl | exact Or.inr rfl)), qif_nil, (qe_ix (qv 1) (qv 0) (fun _ _ => rfl))⟩)) (qe_call (G_hidden_sizes T) (hr.mono (by decide)) rfl T.g_hidden_sizes T.F_hidden_sizes.kp T.B_hidden_sizes (qa_cons (qv 0) (qa_cons (qv 2) (qa_cons (qv 3) qa_nil))))))), ?_⟩)
  intro vs H Q E h
  unfold sp_heads at h
  split at h
  · rename_i x k l n
    obtain ⟨dx, c, ts, bs, ns, Hd, hx, rfl, hc, gt, c6, rfl, hl, h6, n0, h⟩ := h
    have t15 := gt.len c6
    walk_at "rd"
    refine ⟨⟨dx, _, hx, rfl⟩, dx, c, ts, bs, hx, n0, t15, fun acc hacc => ?_⟩
    have lf : (ts.filter fun p => decide (p.2 = n)).length ≤ ts.length := List.length_filter_le _ _
    refine comp_pure (fN ns) (fun _ => true) (fun σ => ∃ z, σ = [z, some (.tup (ns.map PV.int))]) (by rw [List.length_map, List.length_map]; omega) (fun _ => trivial) ?_ ?_ ⟨_, rfl⟩
    · rintro y hy l σ R ⟨z, rfl⟩ hl' kT kF
      obtain ⟨u, hu, rfl⟩ := List.mem_map.mp hy
      obtain ⟨p, hp, rfl⟩ := List.mem_map.mp hu
      have b := gt.lo p (List.mem_filter.mp hp).1
      have e : atI (ns.map PV.int) p.1 = some (.int (ns.getD p.1.toNat 0)) := atI_int (by omega) (by omega)
      walk_at "rd"
      rw [e]
      try walk_at "rd"
      exact ⟨hl', by rw [put_put]; exact kT rfl _ ⟨_, rfl⟩⟩
    have em : (((((ts.filter fun p => decide (p.2 = n)).map (·.1)).map PV.int).filter fun _ => true).map (fN ns)) = (ssz ns ts n).map PV.int := by
      rw [List.filter_eq_self.mpr (fun _ _ => rfl), List.map_map]
      unfold ssz
      rw [List.map_map, List.map_map, List.map_map]
      rfl
    rw [em]
    have s1 := (Sub.refl H).put (o := .lst ((ssz ns ts n).map PV.int)) hacc
    have ea : put H acc (.lst ((ssz ns ts n).map PV.int)) acc = some (.lst ((ssz ns ts n).map PV.int)) := put_same
    generalize put H acc (.lst ((ssz ns ts n).map PV.int)) = H1 at *
    try walk_at "rd"
    refine ⟨dx, c, ts, bs, Hd, s1 _ _ hx, rfl, hl, h6, fun p H2 s2 hp e2 => ?_⟩
    try walk_at "rd"
    have bl := bpl_len (bs := bs) (n := n)
    have s3 := s1.trans s2
    refine ⟨_, _, s2 _ _ ea, e2, line_ge ?_, fun q hq => ⟨_, Sub.refl _, h q _ (s3.put (s3.free hq)) (s3.free hq) (by rw [List.map_append]; exact put_same)⟩⟩
    rw [List.length_map, List.length_map]
    unfold ssz hsz
    rw [List.length_map, List.length_map, List.length_map]
    omega
  · exact h.elim

theorem G_is_table (T : Tx K mg t) : FnOk' P w K mg base CX0 5 t.a_is_table t.d_is_table ["table", "rows", "size"] sp_table := by
  refine okU (k := 4) T.F_is_table sc_is_table (fun vs H Q E h => by
    unfold sp_table at h
    split at h
    · rfl
    · exact h.elim) (fun cdv A outer s H E B hr => ⟨_, (qss_one (qs_ret (qe_and (qe_cmp op_eqI vr_eqI (qe_callB call_len_seq vc_len rfl T.b_len PySem.boot_len (qa_cons (qv 0) qa_nil)) (qv 1) (nomark _)) (qe_one (qe_callB (call_all rfl) vc_all rfl T.b_all boot_all (qa_cons (qe_comp (N2 := ["row", "size"]) (nt := 1) (js := [2]) (cok (sc := defScope s_is_table) (by exact rfl) (by repeat (first | exact trivial | refine ⟨rfl, ?_⟩)) rfl (by rfl) (by decide +kernel) (by decide +kernel) (by rfl) (by decide +kernel) (by rfl) (by rfl)) rfl (qi_seq (qv 0)) (fun s0 H0 fp ps => ⟨(qg_name (i := 0) (show List.Nodup (["row", "size"] : List Str) by decide +kernel) rfl (by first | exact Or.inl rfl | exact Or.inr rfl)), qif_nil, (qe_and (qe_cmp op_eqI vr_eqI (qe_callB call_len_seq vc_len rfl T.b_len PySem.boot_len (qa_cons (qv 0) qa_nil)) (qv 1) (nomark _)) (qe_one (qe_call (G_are_shares T) (hr.mono (by decide)) rfl T.g_are_shares T.F_are_shares.kp T.B_are_shares (qa_cons (qv 0) qa_nil))))⟩)) qa_nil)))))), ?_⟩)
  intro vs H Q E h
  unfold sp_table at h
  split at h
  · rename_i l r z
    obtain ⟨Rw, rfl, hr', hl, hn, h⟩ := h
    walk_at "rd"
    rw [List.length_map]
    refine cif_pos (by simp [hr']) fun acc hacc => ?_
    refine comp_pure (fun _ => PV.bl true) (fun _ => true) (fun σ => ∃ y, σ = [y, some (.int z)]) (by rw [List.length_map]; omega) (fun _ => trivial) ?_ ?_ ⟨_, rfl⟩
    · rintro y hy l σ R ⟨z', rfl⟩ hl' kT kF
      obtain ⟨ws, hm, rfl⟩ := List.mem_map.mp hy
      have q := hn ws hm
      unfold shT at *
      walk_at "rd"
      rw [List.length_map]
      exact cif_pos (by simp [q.2]) ⟨ws, _, q.1, rfl, hl', by rw [put_put]; exact kT rfl _ ⟨_, rfl⟩⟩
    have em : (((Rw.map shT).filter fun _ => true).map fun _ => PV.bl true) = (Rw.map fun _ => true).map PV.bl := by
      rw [List.filter_eq_self.mpr (fun _ _ => rfl), List.map_map, List.map_map]
      rfl
    rw [em]
    try walk_at "rd"
    exact ⟨_, rfl, H, (Sub.refl H).put hacc, by rw [all_t]; exact h⟩
  · exact h.elim

theorem G_law_divisor (T : Tx K mg t) : FnOk' P w K mg base CX0 1 t.a_law_divisor t.d_law_divisor ["_law_one", "_law_other"] sp_divisor := by
  refine okU (k := 0) T.F_law_divisor sc_law_divisor (fun vs H Q E h => by
    unfold sp_divisor at h
    split at h
    · rfl
    · exact h.elim) (fun cdv A outer s H E B hr => ⟨_, (qss_cons (qs_while PassesOwn.never (qt_cmp (op_neU hr.units) vr_eq (qv 1) qe_int (nomark _))
    (qss_cons (qs_set (i := 2) sc_law_divisor.nd rfl (by first | exact Or.inl rfl | exact Or.inr rfl) (qe_mod (qv 0) (qv 1)))
      (qss_cons (qs_set (i := 0) sc_law_divisor.nd rfl (by first | exact Or.inl rfl | exact Or.inr rfl) (qv 1))
      (qss_one (qs_set (i := 1) sc_law_divisor.nd rfl (by first | exact Or.inl rfl | exact Or.inr rfl) (qv 2))))))
    (qss_one (qs_ret (qe_callB call_abs vc_abs rfl T.b_abs boot_abs (qa_cons (qv 0) qa_nil))))), ?_⟩)
  intro vs H Q E h
  unfold sp_divisor at h
  split at h
  · rename_i a b
    walk_at "rd"
    refine while_by (fun m σ H' => ∃ x y r, σ = [some (.int x), some (.int y), r] ∧ H' = H ∧ My.gd x y = My.gd a b ∧ m = y.natAbs) b.natAbs ⟨a, b, none, rfl, rfl, rfl, rfl⟩ ?_
    rintro m σ H' ⟨x, y, r, rfl, rfl, hg, rfl⟩
    walk_at "rd"
    by_cases hy : y = 0
    · refine cif_neg (by simp [hy]) ⟨H', Sub.refl _, ?_⟩
      rw [← hg, hy, My.gd_zero] at h
      exact h
    · refine cif_pos (by simp [hy]) ?_
      exact ⟨_, fun σ' H' z => z, hy, _, My.fmod_abs x y hy, _, _, _, rfl, rfl, (My.gd_turn x y).trans hg, rfl⟩
  · exact h.elim

theorem G_low0 (T : Tx K mg t) : FnOk' P w K mg base CX0 2 t.a_law_lowest t.d_law_lowest ["_law_top", "_law_bottom"] sp_low0 := by
  refine okU (k := 1) T.F_law_lowest sc_law_lowest (fun vs H Q E h => by
    unfold sp_low0 at h
    split at h
    · rfl
    · exact h.elim) (fun cdv A outer s H E B hr => ⟨_, (qss_cons (qs_if (qt_cmp op_lt vr_lt (qv 1) qe_int (nomark _))
    qss_never
    qss_nil)
    (qss_cons (qs_if (qt_cmp (op_eqU hr.units) vr_eq (qv 1) qe_int (nomark _))
    (qss_one (qs_set (i := 1) sc_law_lowest.nd rfl (by first | exact Or.inl rfl | exact Or.inr rfl) qe_int))
    qss_nil)
    (qss_cons (qs_set (i := 2) sc_law_lowest.nd rfl (by first | exact Or.inl rfl | exact Or.inr rfl) (qe_call (G_law_divisor T) (hr.mono (by decide)) rfl T.g_law_divisor T.F_law_divisor.kp T.B_law_divisor (qa_cons (qv 0) (qa_cons (qv 1) qa_nil))))
    (qss_one (qs_ret (qe_tup (qa_cons (qe_fdiv (qv 0) (qv 2)) (qa_cons (qe_fdiv (qv 1) (qv 2)) qa_nil)))))))), ?_⟩)
  intro vs H Q E h
  unfold sp_low0 at h
  split at h
  · rename_i a b
    obtain ⟨⟨h0, hb⟩, h⟩ := h
    walk_at "rd"
    refine cif_neg (by simp; omega) ?_
    unfold My.low0 frac at h
    by_cases e : b = 0
    · refine cif_pos (by simp [e]) ?_
      rw [if_pos e] at h
      have g := My.gd_pos a 1 (by decide)
      try walk_at "rd"
      exact ⟨⟨by omega, gd_fit one_bn (by decide)⟩, ⟨by omega, gd_fit one_bn (by decide)⟩, by decide, H, Sub.refl _, h⟩
    · refine cif_neg (by simp [e]) ?_
      rw [if_neg e] at h
      have g := My.gd_pos a b e
      try walk_at "rd"
      exact ⟨⟨by omega, gd_fit hb e⟩, ⟨by omega, gd_fit hb e⟩, by decide, H, Sub.refl _, h⟩
  · exact h.elim

theorem G_law_lowest (T : Tx K mg t) : FnOk' P w K mg base CX0 3 t.a_law_lowest t.d_law_lowest ["_law_top", "_law_bottom"] sp_lowest := by
  refine okU (k := 2) T.F_law_lowest sc_law_lowest (fun vs H Q E h => by
    unfold sp_lowest at h
    split at h
    · rfl
    · exact h.elim) (fun cdv A outer s H E B hr => ⟨_, (qss_cons (qs_if (qt_cmp op_lt vr_lt (qv 1) qe_int (nomark _))
    (qss_one (qs_ret (qe_call (G_low0 T) (hr.mono (by decide)) rfl T.g_law_lowest T.F_law_lowest.kp T.B_law_lowest (qa_cons (qe_sub qe_int (qv 0)) (qa_cons (qe_sub qe_int (qv 1)) qa_nil)))))
    qss_nil)
    (qss_cons (qs_if (qt_cmp (op_eqU hr.units) vr_eq (qv 1) qe_int (nomark _))
    (qss_one (qs_set (i := 1) sc_law_lowest.nd rfl (by first | exact Or.inl rfl | exact Or.inr rfl) qe_int))
    qss_nil)
    (qss_cons (qs_set (i := 2) sc_law_lowest.nd rfl (by first | exact Or.inl rfl | exact Or.inr rfl) (qe_call (G_law_divisor T) (hr.mono (by decide)) rfl T.g_law_divisor T.F_law_divisor.kp T.B_law_divisor (qa_cons (qv 0) (qa_cons (qv 1) qa_nil))))
    (qss_one (qs_ret (qe_tup (qa_cons (qe_fdiv (qv 0) (qv 2)) (qa_cons (qe_fdiv (qv 1) (qv 2)) qa_nil)))))))), ?_⟩)
  intro vs H Q E h
  unfold sp_lowest at h
  split at h
  · rename_i a b
    obtain ⟨hb, h⟩ := h
    walk_at "rd"
    unfold My.lowest at h
    by_cases lt : b < 0
    · refine cif_pos (by simpa using lt) ?_
      rw [if_pos lt] at h
      exact ⟨⟨by omega, hb.of_le (by omega)⟩, H, Sub.refl _, by rw [Int.zero_sub, Int.zero_sub]; exact h⟩
    · refine cif_neg (by simpa using lt) ?_
      rw [if_neg lt] at h
      unfold My.low0 frac at h
      by_cases e : b = 0
      · refine cif_pos (by simp [e]) ?_
        rw [if_pos e] at h
        have g := My.gd_pos a 1 (by decide)
        try walk_at "rd"
        exact ⟨⟨by omega, gd_fit one_bn (by decide)⟩, ⟨by omega, gd_fit one_bn (by decide)⟩, by decide, H, Sub.refl _, h⟩
      · refine cif_neg (by simp [e]) ?_
        rw [if_neg e] at h
        have g := My.gd_pos a b e
        try walk_at "rd"
        exact ⟨⟨by omega, gd_fit hb e⟩, ⟨by omega, gd_fit hb e⟩, by decide, H, Sub.refl _, h⟩
  · exact h.elim

theorem G_law_weights (T : Tx K mg t) : FnOk' P w K mg base CX0 1 t.a_law_weights t.d_law_weights ["_law_digit", "_law_size", "_law_full"] sp_wts := by
  refine okU (k := 0) T.F_law_weights sc_law_weights (fun vs H Q E h => by
    unfold sp_wts at h
    split at h
    · rfl
    · exact h.elim) (fun cdv A outer s H E B hr => ⟨_, (qss_cons (qs_set (i := 3) sc_law_weights.nd rfl (by first | exact Or.inl rfl | exact Or.inr rfl) (qe_lst qa_nil))
    (qss_cons (qs_for PassesOwn.never rfl (qi_range1 rfl T.b_range (qa_cons (qv 1) qa_nil)) (qg_name (i := 4) sc_law_weights.nd rfl (by first | exact Or.inl rfl | exact Or.inr rfl))
    (qss_cons (qs_expr (qe_bm PySem.F.slot_list_append PySem.F.type_list_append mt_append vm_append (qv 3) (qa_cons (qe_add (qe_mod (qv 0) qe_int) (qe_callTy call_int1 vc_int rfl T.b_int boot_int (qa_cons (qv 2) qa_nil))) qa_nil)))
      (qss_one (qs_set (i := 0) sc_law_weights.nd rfl (by first | exact Or.inl rfl | exact Or.inr rfl) (qe_fdiv (qv 0) qe_int)))))
    (qss_cons (qs_if (qt_cmp (op_eqU hr.units) vr_eq (qe_callB (call_sumI rfl) vc_sum rfl T.b_sum boot_sum (qa_cons (qv 3) qa_nil)) qe_int (nomark _))
    (qss_one (qs_asg qe_int (qg_sub (qv 3) qe_int)))
    qss_nil)
    (qss_one (qs_ret (qv 3)))))), ?_⟩)
  intro vs H Q E h
  unfold sp_wts at h
  split at h
  · rename_i d z f
    obtain ⟨hz, h⟩ := h
    refine seq_abs fun R hR => ?_
    walk_at "rd"
    refine ⟨small_size (by decide), fun p hp => ?_⟩
    subst hR
    refine seq_abs fun R hR => ?_
    walk_at "rd"
    refine ⟨⟨by omega, by omega⟩, ?_⟩
    refine for_rngD (fun i σ H2 => ∃ d' z4, ∃ ws : List Int, σ = [some (.int d'), some (.int z), some (.bl f), some (.ref p), z4] ∧ H2 = put H p (.lst (ws.map PV.int)) ∧ ws.length = i ∧ ∀ w ∈ ws, 0 ≤ w ∧ w ≤ 8) ?_ ?_ ⟨d, none, [], rfl, rfl, rfl, fun w hw => by cases hw⟩
    · rintro σ H2 ⟨d', z4, ws, rfl, rfl, hl, hw⟩
      refine ⟨trivial, ?_⟩
      subst hR
      dsimp only
      refine seq_abs fun R hR => ?_
      walk_at "rd"
      have hl2 : (ws.length : Int) = z := by omega
      refine ⟨ws, rfl, cif_by (fun q => ⟨_, 0, rfl, by unfold ixN; rw [if_pos (by decide), if_pos (by rw [List.length_map]; omega)]; rfl, ?_⟩) (fun q => ?_)⟩
      · cases ws with
        | nil => simp at hl2; omega
        | cons w0 r =>
          rw [put_put]
          subst hR
          walk_at "rd"
          have hr' : ∀ w ∈ (1 :: r : List Int), 0 ≤ w ∧ w ≤ 8 := fun w hw' => by
            rcases List.mem_cons.mp hw' with rfl | hw'
            · decide
            · exact hw w (List.mem_cons_of_mem _ hw')
          obtain ⟨s0, _⟩ := sum_le (b := 8) (ws := r) fun w hw' => hw w (List.mem_cons_of_mem _ hw')
          rw [List.length_cons] at hl2
          exact ⟨_, Sub.refl _, h p (1 :: r) hp (by rw [List.length_cons]; exact hl2) (shr_of hr' (by rw [List.length_cons]; omega) (by rw [List.sum_cons]; omega))⟩
      · subst hR
        walk_at "rd"
        exact ⟨_, Sub.refl _, h p ws hp hl2 (shr_of hw (by omega) (by simpa using q))⟩
    · rintro D i σ H2 hi ⟨d', z4, ws, rfl, rfl, hl, hw⟩ kk
      refine ⟨trivial, ?_⟩
      walk_at "rd"
      have f7 := fm (a := d') (b := 7) (by decide)
      have b1 : 0 ≤ b2n f ∧ b2n f ≤ 1 := by cases f <;> decide
      refine ⟨⟨_, rfl⟩, by decide, small1000 (by rw [List.length_map]; omega), cdvB (by decide) (by decide), kk _ _ ⟨_, _, ws ++ [d'.fmod 7 + b2n f], rfl, by rw [put_put, List.map_append]; rfl, by rw [List.length_append, hl]; rfl, fun w hw' => ?_⟩⟩
      rcases List.mem_append.mp hw' with hw' | hw'
      · exact hw w hw'
      · rw [List.mem_singleton.mp hw']; omega
  · exact h.elim

theorem G_law_shares (T : Tx K mg t) : FnOk' P w K mg base CX0 4 t.a_law_shares t.d_law_shares ["_law_weights_here"] sp_lshares := by
  refine okU (k := 3) T.F_law_shares sc_law_shares (fun vs H Q E h => by
    unfold sp_lshares at h
    split at h
    · rfl
    · exact h.elim) (fun cdv A outer s H E B hr => ⟨_, (qss_one (qs_ret (qe_callTy call_tuple_of vc_tuple rfl T.b_tuple boot_tuple (qa_cons (qe_comp (N2 := ["_law_weight", "_law_weights_here"]) (nt := 1) (js := [0]) (cok (sc := defScope s_law_shares) (by exact rfl) (by repeat (first | exact trivial | refine ⟨rfl, ?_⟩)) rfl (by rfl) (by decide +kernel) (by decide +kernel) (by rfl) (by decide +kernel) (by rfl) (by rfl)) rfl (qi_seq (qv 0)) (fun s0 H0 fp ps => ⟨(qg_name (i := 0) (show List.Nodup (["_law_weight", "_law_weights_here"] : List Str) by decide +kernel) rfl (by first | exact Or.inl rfl | exact Or.inr rfl)), qif_nil, (qe_call (G_law_lowest T) (hr.mono (by decide)) rfl T.g_law_lowest T.F_law_lowest.kp T.B_law_lowest (qa_cons (qv 0) (qa_cons (qe_callB (call_sumI rfl) vc_sum rfl T.b_sum boot_sum (qa_cons (qv 1) qa_nil)) qa_nil)))⟩)) qa_nil)))), ?_⟩)
  intro vs H Q E h
  unfold sp_lshares at h
  split at h
  · rename_i a
    obtain ⟨ws, ha, sh, h⟩ := h
    walk_at "rd"
    refine ⟨_, ha, fun acc hacc => ?_⟩
    refine comp_pure (fW ws.sum) (fun _ => true) (fun σ => ∃ z, σ = [z, some (.ref a)]) (by rw [List.length_map]; have := sh.2.2.2.2; omega) (fun l => (put_ne (ne_none ha hacc)).trans ha) ?_ ?_ ⟨_, rfl⟩
    · rintro y hy l σ R ⟨z, rfl⟩ hl kT kF
      obtain ⟨w, hw, rfl⟩ := List.mem_map.mp hy
      have e := lowest_shr (w := w) sh.2.1
      walk_at "rd"
      refine ⟨ws, (put_ne (ne_none ha hacc)).trans ha, bnS (by have := sh.2.1; omega) sh.2.2.2.1, hl, ?_⟩
      rw [put_put, e]
      exact kT rfl _ ⟨_, rfl⟩
    have em : (((ws.map PV.int).filter fun _ => true).map (fW ws.sum)) = ws.map fun w => prV (shr ws.sum w) := by
      rw [List.filter_eq_self.mpr (fun _ _ => rfl), List.map_map]
      rfl
    rw [em]
    try walk_at "rd"
    exact ⟨H, (Sub.refl H).put hacc, h⟩
  · exact h.elim

theorem G_law_drawn (T : Tx K mg t) : FnOk' P w K mg base CX0 3 t.a_law_drawn t.d_law_drawn ["_law_script"] sp_drawn := by
  refine okU (k := 2) T.F_law_drawn sc_law_drawn (fun vs H Q E h => by
    unfold sp_drawn at h
    split at h
    · rfl
    · exact h.elim) (fun cdv A outer s H E B hr => ⟨_, (qss_cons (qs_asg (qe_call (G_law_pairs T) (hr.mono (by decide)) rfl T.g_law_pairs T.F_law_pairs.kp T.B_law_pairs (qa_cons (qv 0) (qa_cons qe_int qa_nil))) (qg_tup (n := 3) rfl (qgs_cons (qg_name (i := 1) sc_law_drawn.nd rfl (by first | exact Or.inl rfl | exact Or.inr rfl)) (qgs_cons (qg_name (i := 2) sc_law_drawn.nd rfl (by first | exact Or.inl rfl | exact Or.inr rfl)) (qgs_cons (qg_name (i := 3) sc_law_drawn.nd rfl (by first | exact Or.inl rfl | exact Or.inr rfl)) qgs_nil)))))
    (qss_one (qs_ret (qe_tup (qa_cons (qv 1) (qa_cons (qe_callTy call_tuple_of vc_tuple rfl T.b_tuple boot_tuple (qa_cons (qe_callB call_sortP vc_sortP rfl T.b_sorted boot_sorted (qa_cons (qv 2) qa_nil)) qa_nil)) (qa_cons (qe_callTy call_tuple_of vc_tuple rfl T.b_tuple boot_tuple (qa_cons (qe_callB call_sortP vc_sortP rfl T.b_sorted boot_sorted (qa_cons (qv 3) qa_nil)) qa_nil)) qa_nil))))))), ?_⟩)
  intro vs H Q E h
  unfold sp_drawn at h
  split at h
  · rename_i l
    obtain ⟨ns, rfl, h⟩ := h
    refine seq_abs fun R hR => ?_
    walk_at "rd"
    refine ⟨⟨by decide, by decide⟩, ns, rfl, fun c ts bs p q hc gt gb l6 hp hq npq => ?_⟩
    try walk_at "rd"
    have t15 := gt.len hc.2
    have s3 : U.Sub H (put (put H p (.lst (ts.map prV))) q (.lst (bs.map prV))) := ((Sub.refl H).put hp).put hq
    have e1 : put (put H p (.lst (ts.map prV))) q (.lst (bs.map prV)) p = some (.lst (ts.map prV)) := (put_ne npq).trans put_same
    have e2 : put (put H p (.lst (ts.map prV))) q (.lst (bs.map prV)) q = some (.lst (bs.map prV)) := put_same
    generalize put (put H p (.lst (ts.map prV))) q (.lst (bs.map prV)) = H3 at *
    subst hR
    walk_at "rd"
    refine ⟨ts, e1, gt.nd, fun p hp => by have := gt.lo p hp; omega, by omega, fun r3 T3 hr3 pT3 sT3 => ?_⟩
    try walk_at "rd"
    refine ⟨bs, (put_ne (ne_none e2 hr3)).trans e2, gb.nd, fun p hp => by have := gb.lo p hp; omega, by omega, fun r4 B3 hr4 pB3 sB3 => ?_⟩
    have s8 := s3.put (o := .lst (T3.map prV)) (s3.free hr3)
    try walk_at "rd"
    exact ⟨small_size (by decide), H, s8.put (s8.free hr4), h c T3 B3 ⟨hc, gt.perm pT3, gb.perm pB3, by rw [pB3.length_eq]; exact l6, sT3, sB3⟩⟩
  · exact h.elim

theorem G_law_heads (T : Tx K mg t) : FnOk' P w K mg base CX0 1 t.a_law_heads t.d_law_heads ["_law_shape", "_law_name"] sp_lheads := by
  refine okU (k := 0) T.F_law_heads sc_law_heads (fun vs H Q E h => by
    unfold sp_lheads at h
    split at h
    · rfl
    · exact h.elim) (fun cdv A outer s H E B hr => ⟨_, (qss_cons (qs_setC (i := 2) sc_law_heads.nd rfl (by first | exact Or.inl rfl | exact Or.inr rfl) (N2 := ["_law_k", "_law_name", "_law_shape"]) (nt := 1) (js := [1, 0]) (cok (sc := defScope s_law_heads) (by exact rfl) (by repeat (first | exact trivial | refine ⟨rfl, ?_⟩)) rfl (by rfl) (by decide +kernel) (by decide +kernel) (by rfl) (by decide +kernel) (by rfl) (by rfl)) rfl (qi_range1 rfl T.b_range (qa_cons (qe_callB call_len_seq vc_len rfl T.b_len PySem.boot_len (qa_cons (qe_ix (qv 0) qe_int (fun _ _ => rfl)) qa_nil)) qa_nil)) (fun s0 H0 fp ps => ⟨(qg_name (i := 0) (show List.Nodup (["_law_k", "_law_name", "_law_shape"] : List Str) by decide +kernel) rfl (by first | exact Or.inl rfl | exact Or.inr rfl)), (qif_one (qt_cmp (op_inU hr.units) vr_in (qv 1) (qe_ix (qe_ix (qv 2) qe_int (fun _ _ => rfl)) (qv 0) (fun _ _ => rfl)) (by with_unfolding_all rfl))), (qv 0)⟩))
    (qss_one (qs_ret (qe_tup (qa_cons (qe_comp (N2 := ["_law_u", "_law_name", "_law_shape"]) (nt := 1) (js := [1, 0]) (cok (sc := defScope s_law_heads) (by exact rfl) (by repeat (first | exact trivial | refine ⟨rfl, ?_⟩)) rfl (by rfl) (by decide +kernel) (by decide +kernel) (by rfl) (by decide +kernel) (by rfl) (by rfl)) rfl (qi_range1 rfl T.b_range (qa_cons (qv 1) qa_nil)) (fun s0 H0 fp ps => ⟨(qg_name (i := 0) (show List.Nodup (["_law_u", "_law_name", "_law_shape"] : List Str) by decide +kernel) rfl (by first | exact Or.inl rfl | exact Or.inr rfl)), (qif_one (qt_cmp (op_inU hr.units) vr_in (qe_tup (qa_cons (qv 0) (qa_cons (qv 1) qa_nil))) (qe_ix (qv 2) qe_int (fun _ _ => rfl)) (by with_unfolding_all rfl))), (qv 0)⟩)) (qa_cons (qv 2) qa_nil)))))), ?_⟩)
  intro vs H Q E h
  unfold sp_lheads at h
  split at h
  · rename_i c k l n
    obtain ⟨ts, bs, rfl, rfl, hn, h6, h⟩ := h
    refine seq_abs fun R hR => ?_
    walk_at "rd"
    refine ⟨⟨by omega, by rw [List.length_map]; omega⟩, fun q hq => ?_⟩
    rw [Int.toNat_natCast, List.length_map]
    refine comp_pure idP (pK bs n) (fun σ => ∃ z, σ = [z, some (.int n), some (.tup [.int c, .tup (ts.map prV), .tup (bs.map prV)])]) (by rw [rng0, List.length_map, List.length_range]; omega) (fun _ => trivial) ?_ ?_ ⟨_, rfl⟩
    · rintro y hy l σ R' ⟨z, rfl⟩ hl kT kF
      rw [rng0] at hy
      obtain ⟨k, hk, rfl⟩ := List.mem_map.mp hy
      have hk' := List.mem_range.mp hk
      have hg : bs[k]? = some bs[k] := List.getElem?_eq_getElem hk'
      have e := atI_prs hg
      have ep : pK bs n (.int (k : Nat)) = hasN n bs[k] := by
        show (match bs[((k : Nat) : Int).toNat]? with | some p => hasN n p | none => false) = _
        rw [Int.toNat_natCast, hg]
      rw [ep] at kT kF
      walk_at "rd"
      rw [e]
      unfold prV at *
      try walk_at "rd"
      rw [any_has]
      exact cif_by (fun q => ⟨hl, by rw [put_put]; exact kT q _ ⟨_, rfl⟩⟩) (fun q => kF q _ ⟨_, rfl⟩)
    rw [bpl_rng]
    have s1 := (Sub.refl H).put (o := .lst ((bpl bs n).map fun k => PV.int (k : Nat))) hq
    subst hR
    walk_at "rd"
    refine ⟨⟨by omega, by omega⟩, fun p hp => ?_⟩
    have npq : p ≠ q := fun e => by subst e; rw [put_same] at hp; cases hp
    refine comp_pure idP (pU ts n) (fun σ => ∃ z, σ = [z, some (.int n), some (.tup [.int c, .tup (ts.map prV), .tup (bs.map prV)])]) (by rw [rng0, List.length_map, List.length_range]; omega) (fun _ => trivial) ?_ ?_ ⟨_, rfl⟩
    · rintro y hy l σ R' ⟨z, rfl⟩ hl kT kF
      rw [rng0] at hy
      obtain ⟨k, hk, rfl⟩ := List.mem_map.mp hy
      have ep : pU ts n (.int (k : Nat)) = decide ((((k : Nat) : Int), n) ∈ ts) := rfl
      rw [ep] at kT kF
      walk_at "rd"
      rw [any_pair]
      exact ⟨small_size (by decide), flat_prs, cif_by (fun q => ⟨hl, by rw [put_put]; exact kT q _ ⟨_, rfl⟩⟩) (fun q => kF q _ ⟨_, rfl⟩)⟩
    rw [srcs_rng]
    exact ⟨small_size (by decide), _, Sub.refl _, h p q hq (s1.free hp) npq⟩
  · exact h.elim

theorem G_law_rows (T : Tx K mg t) : FnOk' P w K mg base CX0 2 t.a_law_rows t.d_law_rows ["_law_cell", "_law_many", "_law_size", "_law_full"] sp_lrows := by
  refine okU (k := 1) T.F_law_rows sc_law_rows (fun vs H Q E h => by
    unfold sp_lrows at h
    split at h
    · rfl
    · exact h.elim) (fun cdv A outer s H E B hr => ⟨_, (qss_cons (qs_set (i := 4) sc_law_rows.nd rfl (by first | exact Or.inl rfl | exact Or.inr rfl) (qe_call (G_law_mixed T) (hr.mono (by decide)) rfl T.g_law_mixed T.F_law_mixed.kp T.B_law_mixed (qa_cons (qv 0) (qa_cons (qe_callB (call_min2 rfl) vc_min rfl T.b_min boot_min (qa_cons (qv 1) (qa_cons qe_int qa_nil))) qa_nil))))
    (qss_one (qs_ret (qe_comp (N2 := ["_law_k", "_law_size", "_law_full", "_law_xs"]) (nt := 1) (js := [2, 3, 4]) (cok (sc := defScope s_law_rows) (by exact rfl) (by repeat (first | exact trivial | refine ⟨rfl, ?_⟩)) rfl (by rfl) (by decide +kernel) (by decide +kernel) (by rfl) (by decide +kernel) (by rfl) (by rfl)) rfl (qi_range1 rfl T.b_range (qa_cons (qv 1) qa_nil)) (fun s0 H0 fp ps => ⟨(qg_name (i := 0) (show List.Nodup (["_law_k", "_law_size", "_law_full", "_law_xs"] : List Str) by decide +kernel) rfl (by first | exact Or.inl rfl | exact Or.inr rfl)), qif_nil, (qe_call (G_law_weights T) (hr.mono (by decide)) rfl T.g_law_weights T.F_law_weights.kp T.B_law_weights (qa_cons (qe_add (qe_ix (qv 3) (qe_mod (qv 0) (qe_callB call_len_seq vc_len rfl T.b_len PySem.boot_len (qa_cons (qv 3) qa_nil))) (fun _ _ => rfl)) (qe_mul qe_int (qe_fdiv (qv 0) qe_int))) (qa_cons (qv 1) (qa_cons (qv 2) qa_nil))))⟩))))), ?_⟩)
  intro vs H Q E h
  unfold sp_lrows at h
  split at h
  · rename_i cell m z f
    obtain ⟨hm, hz, h⟩ := h
    refine seq_abs fun R hR => ?_
    walk_at "rd"
    refine ⟨⟨by split <;> omega, by split <;> omega⟩, fun q xs hq hxs => ?_⟩
    have lx : 1 ≤ xs.length ∧ xs.length ≤ 60 := by rw [hxs]; split <;> omega
    have s1 := (Sub.refl H).put (o := .lst (xs.map PV.int)) hq
    have eq : put H q (.lst (xs.map PV.int)) q = some (.lst (xs.map PV.int)) := put_same
    generalize put H q (.lst (xs.map PV.int)) = H1 at *
    subst hR
    walk_at "rd"
    refine ⟨⟨by omega, by omega⟩, fun acc hacc => ?_⟩
    refine comp_inv (fun i σ H2 => ∃ z0 ys Rw, σ = [z0, some (.int z), some (.bl f), some (.ref q)] ∧ U.Sub H H2 ∧ H2 q = some (.lst (xs.map PV.int)) ∧ H2 acc = some (.lst ys) ∧ Paired (RowW H H2 acc) ys Rw ∧ Rw.length = i ∧ ∀ ws ∈ Rw, Shr ws ∧ (ws.length : Int) = z) ?_ ?_ ⟨_, [], [], rfl, s1.put (s1.free hacc), (put_ne (ne_none eq hacc)).trans eq, put_same, .nil, rfl, fun ws hw => by cases hw⟩
    · rintro i y σ H2 R hy ⟨z0, ys, Rw, rfl, s2, hq2, ha2, pd, hl, hw⟩ kk
      refine ⟨trivial, ?_⟩
      rw [rng0] at hy
      obtain ⟨k, hk, rfl⟩ : ∃ k : Nat, k < 400 ∧ y = .int (k : Nat) := by
        obtain ⟨k, hk, rfl⟩ := List.mem_map.mp (List.mem_of_getElem? hy)
        exact ⟨k, by have := List.mem_range.mp hk; omega, rfl⟩
      have hi : i < m.toNat := by
        have := (List.getElem?_eq_some_iff.mp hy).1
        rwa [List.length_map, List.length_range] at this
      walk_at "rd"
      refine ⟨_, hq2, by rw [List.length_map]; omega, _, hq2, ?_⟩
      rw [List.length_map]
      have fk := fm (a := (k : Int)) (b := ((xs.length : Nat) : Int)) (by omega)
      have e : atI (xs.map PV.int) ((k : Int).fmod ((xs.length : Nat) : Int)) = some (.int (xs.getD ((k : Int).fmod ((xs.length : Nat) : Int)).toNat 0)) := atI_int fk.1 fk.2
      rw [e]
      try walk_at "rd"
      have fl := fdiv_le (a := (k : Int)) (b := 60) (by omega) (by decide)
      refine ⟨cdvB (by decide) (by decide), .inr ⟨fitS (by decide) (by decide), fitS fl.1 (by omega)⟩, hz, fun p ws hp hl2 sh => ?_⟩
      have npa : p ≠ acc := fun e => by subst e; rw [ha2] at hp; cases hp
      have nqa : q ≠ acc := ne_none eq hacc
      have nqp : q ≠ p := ne_none hq2 hp
      have pl := pd_len pd
      refine ⟨ys, (put_ne npa.symm).trans ha2, small1000 (by omega), kk _ _ ⟨_, ys ++ [.ref p], Rw ++ [ws], rfl, (s2.put (s2.free hp)).put (s1.free hacc), (put_ne nqa).trans ((put_ne nqp).trans hq2), put_same, pd_snoc ⟨p, rfl, (put_ne npa).trans put_same, npa, s2.free hp⟩ (pd_imp (fun y ws ⟨r, e1, e2, e3, e4⟩ => ⟨r, e1, (put_ne e3).trans ((put_ne (ne_none e2 hp)).trans e2), e3, e4⟩) pd), by rw [List.length_append, hl]; rfl, fun w hw' => ?_⟩⟩
      rcases List.mem_append.mp hw' with hw' | hw'
      · exact hw w hw'
      · rw [List.mem_singleton.mp hw']; exact ⟨sh, hl2⟩
    · rintro σ H2 ⟨z0, ys, Rw, rfl, s2, hq2, ha2, pd, hl, hw⟩
      refine ⟨trivial, _, Sub.refl _, h acc H2 ys Rw s2 (s1.free hacc) ha2 pd ?_ hw⟩
      rw [hl, rng0, List.length_map, List.length_range]
      omega
  · exact h.elim

theorem G_law_told_world (T : Tx K mg t) : FnOk' P w K mg base CX0 5 t.a_law_told_world t.d_law_told_world ["_law_world_here"] sp_told := by
  refine okU (k := 4) T.F_law_told_world sc_law_told_world (fun vs H Q E h => by
    unfold sp_told at h
    split at h
    · rfl
    · exact h.elim) (fun cdv A outer s H E B hr => ⟨_, (qss_cons (qs_asg (qv 0) (qg_tup (n := 3) rfl (qgs_cons (qg_name (i := 1) sc_law_told_world.nd rfl (by first | exact Or.inl rfl | exact Or.inr rfl)) (qgs_cons (qg_name (i := 2) sc_law_told_world.nd rfl (by first | exact Or.inl rfl | exact Or.inr rfl)) (qgs_cons (qg_name (i := 3) sc_law_told_world.nd rfl (by first | exact Or.inl rfl | exact Or.inr rfl)) qgs_nil)))))
    (qss_cons (qs_set (i := 4) sc_law_told_world.nd rfl (by first | exact Or.inl rfl | exact Or.inr rfl) (qe_callTy call_tuple_of vc_tuple rfl T.b_tuple boot_tuple (qa_cons (qe_comp (N2 := ["_law_table"]) (nt := 1) (js := []) (cok (sc := defScope s_law_told_world) (by exact rfl) (by repeat (first | exact trivial | refine ⟨rfl, ?_⟩)) rfl (by rfl) (by decide +kernel) (by decide +kernel) (by rfl) (by decide +kernel) (by rfl) (by rfl)) rfl (qi_seq (qv 3)) (fun s0 H0 fp ps => ⟨(qg_name (i := 0) (show List.Nodup (["_law_table"] : List Str) by decide +kernel) rfl (by first | exact Or.inl rfl | exact Or.inr rfl)), qif_nil, (qe_callTy call_tuple_of vc_tuple rfl T.b_tuple boot_tuple (qa_cons (qe_comp (N2 := ["_law_row"]) (nt := 1) (js := []) (cok (by exact rfl) (by repeat (first | exact trivial | refine ⟨rfl, ?_⟩)) rfl (by rfl) (by decide +kernel) (by decide +kernel) (by rfl) (fun x hx => absurd hx (by simp)) (by rfl) (by rfl)) rfl (qi_seq (qv 0)) (fun s0 H0 fp ps => ⟨(qg_name (i := 0) (show List.Nodup (["_law_row"] : List Str) by decide +kernel) rfl (by first | exact Or.inl rfl | exact Or.inr rfl)), qif_nil, (qe_call (G_law_shares T) (hr.mono (by decide)) rfl T.g_law_shares T.F_law_shares.kp T.B_law_shares (qa_cons (qv 0) qa_nil))⟩)) qa_nil))⟩)) qa_nil)))
    (qss_one (qs_ret (qe_tup (qa_cons (qe_callTy call_tuple_of vc_tuple rfl T.b_tuple boot_tuple (qa_cons (qv 1) qa_nil)) (qa_cons (qe_callTy call_tuple_of vc_tuple rfl T.b_tuple boot_tuple (qa_cons (qe_comp (N2 := ["_law_row"]) (nt := 1) (js := []) (cok (sc := defScope s_law_told_world) (by exact rfl) (by repeat (first | exact trivial | refine ⟨rfl, ?_⟩)) rfl (by rfl) (by decide +kernel) (by decide +kernel) (by rfl) (by decide +kernel) (by rfl) (by rfl)) rfl (qi_seq (qv 2)) (fun s0 H0 fp ps => ⟨(qg_name (i := 0) (show List.Nodup (["_law_row"] : List Str) by decide +kernel) rfl (by first | exact Or.inl rfl | exact Or.inr rfl)), qif_nil, (qe_call (G_law_shares T) (hr.mono (by decide)) rfl T.g_law_shares T.F_law_shares.kp T.B_law_shares (qa_cons (qv 0) qa_nil))⟩)) qa_nil)) (qa_cons (qv 4) qa_nil)))))))), ?_⟩)
  intro vs H Q E h
  unfold sp_told at h
  split at h
  · rename_i a b d
    obtain ⟨ns, Hd, Tb, ys, zs, ha, hb, hd, ry, rz, h1, h2, h⟩ := h
    refine seq_abs fun R hR => ?_
    walk_at "rd"
    try subst hR
    refine seq_abs fun R hR => ?_
    walk_at "rd"
    refine ⟨_, hd, fun acc hacc => ?_⟩
    have lz := pd_len rz
    refine comp_inv (fun i σ H2 => ∃ z, σ = [z] ∧ U.Sub H H2 ∧ H2 acc = some (.lst ((Tb.take i).map tbT))) ?_ ?_ ⟨_, rfl, (Sub.refl H).put hacc, put_same⟩
    · rintro i y σ H2 R1 hy ⟨z, rfl, s2, ha2⟩ kk
      refine ⟨s2 _ _ hd, ?_⟩
      have hi := (List.getElem?_eq_some_iff.mp hy).1
      have tr := pd_get rz hi (by omega)
      rw [(List.getElem?_eq_some_iff.mp hy).2] at tr
      have hg : Tb[i]? = some (Tb[i]'(by omega)) := List.getElem?_eq_getElem (by omega)
      generalize Tb[i]'(by omega) = Rw at *
      have hR2 := h2.1 Rw (List.mem_of_getElem? hg)
      obtain ⟨r, ys', rfl, er, pr⟩ := tr
      have er2 := s2 _ _ er
      have pr2 : Paired (RowR H2) ys' Rw := pd_imp (fun y ws ⟨r, e1, e2⟩ => ⟨r, e1, s2 _ _ e2⟩) pr
      have ll := pd_len pr2
      walk_at "rd"
      refine ⟨_, er2, fun acc2 hacc2 => ?_⟩
      refine comp_pure (fR H2) (fun _ => true) (fun σ => ∃ z, σ = [z]) (by rw [pd_len pr2]; omega) (fun l => (put_ne (ne_none er2 hacc2)).trans er2) ?_ ?_ ⟨_, rfl⟩
      · rintro y' hy' l σ' R' ⟨z', rfl⟩ hl' kT kF
        obtain ⟨ws, hws, row⟩ := pd_mem pr2 hy'
        rw [fR_row row] at kT
        obtain ⟨r', rfl, er⟩ := row
        walk_at "rd"
        exact ⟨ws, (put_ne (ne_none er hacc2)).trans er, hR2.2 ws hws, hl', by rw [put_put]; exact kT rfl _ ⟨_, rfl⟩⟩
      rw [rows_fR pr2]
      try walk_at "rd"
      refine ⟨_, (put_ne (ne_none ha2 hacc2)).trans ha2, small1000 (by rw [List.length_map, List.length_take]; omega), kk _ _ ⟨_, rfl, (s2.put (s2.free hacc2)).put hacc, ?_⟩⟩
      rw [put_same, List.take_add_one, hg, List.map_append]
      rfl
    · rintro σ H2 ⟨z, rfl, s2, ha2⟩
      refine ⟨s2 _ _ hd, ?_⟩
      rw [lz, List.take_length] at ha2
      try walk_at "rd"
      refine ⟨_, ha2, ?_⟩
      subst hR
      have hb2 := s2 _ _ hb
      have ry2 : Paired (RowR H2) ys Hd := pd_imp (fun y ws ⟨r, e1, e2⟩ => ⟨r, e1, s2 _ _ e2⟩) ry
      have ll := pd_len ry2
      walk_at "rd"
      refine ⟨_, s2 _ _ ha, _, hb2, fun acc3 hacc3 => ?_⟩
      refine comp_pure (fR H2) (fun _ => true) (fun σ => ∃ z, σ = [z]) (by rw [pd_len ry2]; omega) (fun l => (put_ne (ne_none hb2 hacc3)).trans hb2) ?_ ?_ ⟨_, rfl⟩
      · rintro y' hy' l σ' R' ⟨z', rfl⟩ hl' kT kF
        obtain ⟨ws, hws, row⟩ := pd_mem ry2 hy'
        rw [fR_row row] at kT
        obtain ⟨r', rfl, er⟩ := row
        walk_at "rd"
        exact ⟨ws, (put_ne (ne_none er hacc3)).trans er, h1.1 ws hws, hl', by rw [put_put]; exact kT rfl _ ⟨_, rfl⟩⟩
      rw [rows_fR ry2]
      try walk_at "rd"
      exact ⟨small_size (by decide), H, s2.put (s2.free hacc3), h⟩
  · exact h.elim

theorem G_are_tables (T : Tx K mg t) : FnOk' P w K mg base CX0 6 t.a_are_tables t.d_are_tables ["drawing", "sizes", "hidden", "tables"] (sp_tables t) := by
  refine okU (k := 5) T.F_are_tables sc_are_tables (fun vs H Q E h => by
    unfold sp_tables at h
    split at h
    · rfl
    · exact h.elim) (fun cdv A outer s H E B hr => ⟨_, (qss_cons (qs_if (qt_cmp op_neI vr_neI (qe_callB call_len_seq vc_len rfl T.b_len PySem.boot_len (qa_cons (qv 3) qa_nil)) (qe_fld (qv 0) T.cl_Drawing T.nf_Drawing_count rfl) (nomark _))
    (qss_one (qs_ret qe_bl))
    qss_nil)
    (qss_cons (qs_setC (i := 4) sc_are_tables.nd rfl (by first | exact Or.inl rfl | exact Or.inr rfl) (N2 := ["name", "drawing", "sizes", "hidden"]) (nt := 1) (js := [0, 1, 2]) (cok (sc := defScope s_are_tables) (by exact rfl) (by repeat (first | exact trivial | refine ⟨rfl, ?_⟩)) rfl (by rfl) (by decide +kernel) (by decide +kernel) (by rfl) (by decide +kernel) (by rfl) (by rfl)) rfl (qi_range1 rfl T.b_range (qa_cons (qe_fld (qv 0) T.cl_Drawing T.nf_Drawing_count rfl) qa_nil)) (fun s0 H0 fp ps => ⟨(qg_name (i := 0) (show List.Nodup (["name", "drawing", "sizes", "hidden"] : List Str) by decide +kernel) rfl (by first | exact Or.inl rfl | exact Or.inr rfl)), qif_nil, (qe_call (G_product T) (hr.mono (by decide)) rfl T.g_product T.F_product.kp T.B_product (qa_cons (qe_call (G_head_sizes T) (hr.mono (by decide)) rfl T.g_head_sizes T.F_head_sizes.kp T.B_head_sizes (qa_cons (qv 1) (qa_cons (qv 2) (qa_cons (qv 3) (qa_cons (qv 0) qa_nil))))) qa_nil))⟩))
    (qss_one (qs_ret (qe_callB (call_all rfl) vc_all rfl T.b_all boot_all (qa_cons (qe_compH (N2 := ["table", "count", "size"]) (nt := 3) (js := []) (cok (sc := defScope s_are_tables) (by exact rfl) (by repeat (first | exact trivial | refine ⟨rfl, ?_⟩)) rfl (by rfl) (by decide +kernel) (by decide +kernel) (by rfl) (by decide +kernel) (by rfl) (by rfl)) rfl (qi_z3 rfl T.b_zip (qa_cons (qv 3) (qa_cons (qv 4) (qa_cons (qv 1) qa_nil)))) (fun s0 H0 fp ps => ⟨(qg_tup (n := 3) rfl (qgs_cons (qg_name (i := 0) (show List.Nodup (["table", "count", "size"] : List Str) by decide +kernel) rfl (by first | exact Or.inl rfl | exact Or.inr rfl)) (qgs_cons (qg_name (i := 1) (show List.Nodup (["table", "count", "size"] : List Str) by decide +kernel) rfl (by first | exact Or.inl rfl | exact Or.inr rfl)) (qgs_cons (qg_name (i := 2) (show List.Nodup (["table", "count", "size"] : List Str) by decide +kernel) rfl (by first | exact Or.inl rfl | exact Or.inr rfl)) qgs_nil)))), qif_nil, (qe_call (G_is_table T) (hr.mono (by decide)) rfl T.g_is_table T.F_is_table.kp T.B_is_table (qa_cons (qv 0) (qa_cons (qv 1) (qa_cons (qv 2) qa_nil))))⟩)) qa_nil)))))), ?_⟩)
  intro vs H Q E h
  unfold sp_tables at h
  split at h
  · rename_i x k l m
    obtain ⟨dx, c, ts, bs, ns, Hd, Tb, hx, rfl, rfl, rfl, hs, hw, h⟩ := h
    have t15 := hs.gt.len hs.hc.2
    have c6 := hs.hc
    have ln := hw.ln
    have lt := hw.lt
    have b6 := hs.l6
    refine seq_abs fun R hR => ?_
    walk_at "rd"
    refine ⟨dx, _, _, hx, rfl, cif_neg (by rw [List.length_map]; simp; omega) ?_⟩
    subst hR
    refine seq_abs fun R hR => ?_
    walk_at "rd"
    refine ⟨dx, _, _, hx, rfl, ⟨by omega, by omega⟩, fun acc hacc => ?_⟩
    refine comp_inv (fun i σ H2 => ∃ z, σ = [z, some (.ref x), some (.tup (ns.map PV.int)), some (.tup (Hd.map shT))] ∧ U.Sub H H2 ∧ H2 acc = some (.lst ((List.range i).map fun k => PV.int (prod (hdz ns Hd ts bs (k : Nat)))))) ?_ ?_ ⟨_, rfl, (Sub.refl H).put hacc, put_same⟩
    · rintro i y σ H2 R1 hy ⟨z, rfl, s2, ha2⟩ kk
      refine ⟨trivial, ?_⟩
      rw [rng0] at hy
      have hi : i < c.toNat := by
        have := (List.getElem?_eq_some_iff.mp hy).1
        rwa [List.length_map, List.length_range] at this
      obtain rfl : y = .int (i : Nat) := by
        rw [List.getElem?_map, List.getElem?_range hi] at hy
        exact (Option.some.inj hy).symm
      walk_at "rd"
      refine ⟨dx, c, ts, bs, ns, Hd, s2 _ _ hx, rfl, ln, hs.gt, c6.2, rfl, hw.lh, b6, ⟨by omega, by omega⟩, fun p H3 s3 hp e3 => ?_⟩
      try walk_at "rd"
      have ep : H3 p = some (.lst ((hdz ns Hd ts bs (i : Nat)).map PV.int)) := e3
      have hl := hdz_len (ns := ns) (Hd := Hd) (ts := ts) (bs := bs) (n := (i : Nat))
      have pos := hw.pos hs.gt (i : Nat)
      have hg : Tb[i]? = some (Tb[i]'(by omega)) := List.getElem?_eq_getElem (by omega)
      have tb := hw.tb i _ hg
      have pt := fun k => prod_take (l := hdz ns Hd ts bs (i : Nat)) (fun n hn => (pos n hn).1) k
      refine ⟨_, .inr ⟨p, rfl, ep⟩, by omega, fun k => by have := pt k; omega, fun n hn => by have := pos n hn; omega, _, s3 _ _ ha2, small1000 (by rw [List.length_map, List.length_range]; omega), kk _ _ ⟨_, rfl, (s2.trans s3).put hacc, ?_⟩⟩
      rw [put_same, List.range_succ, List.map_append]
      rfl
    · rintro σ H2 ⟨z, rfl, s2, ha2⟩
      refine ⟨trivial, ?_⟩
      rw [rng0, List.length_map, List.length_range] at ha2
      subst hR
      walk_at "rd"
      refine ⟨_, ha2, by rw [List.length_map, List.length_map, List.length_range]; omega, by rw [List.length_map, List.length_map]; omega, fun acc3 hacc3 => ?_⟩
      refine comp_pure (fun _ => PV.bl true) (fun _ => true) (fun σ => ∃ y1 y2 y3, σ = [y1, y2, y3]) (by unfold zipT; rw [List.length_map, List.length_map, List.length_range]; omega) (fun l => (put_ne (ne_none ha2 hacc3)).trans ha2) ?_ ?_ ⟨_, _, _, rfl⟩
      · rintro y hy l σ R' ⟨y1, y2, y3, rfl⟩ hl' kT kF
        obtain ⟨k, hk, rfl⟩ := List.mem_map.mp hy
        have hk := List.mem_range.mp hk
        rw [List.length_map] at hk
        have hg : Tb[k]? = some Tb[k] := List.getElem?_eq_getElem hk
        have tb := hw.tb k _ hg
        have e1 : (Tb.map tbT).getD k .non = tbT Tb[k] := by rw [List.getD_eq_getElem?_getD, List.getElem?_map, hg]; rfl
        have e2 : ((List.range c.toNat).map fun k => PV.int (prod (hdz ns Hd ts bs (k : Nat)))).getD k .non = .int (prod (hdz ns Hd ts bs (k : Nat))) := by rw [List.getD_eq_getElem?_getD, List.getElem?_map, List.getElem?_range (by omega)]; rfl
        have e3 : (ns.map PV.int).getD k .non = .int (ns.getD k 0) := by
          have : k < ns.length := by omega
          rw [List.getD_eq_getElem?_getD, List.getD_eq_getElem?_getD, List.getElem?_map, List.getElem?_eq_getElem this]; rfl
        rw [e1, e2, e3] at *
        unfold tbT at *
        walk_at "rd"
        exact ⟨_, rfl, tb.1, by omega, tb.2.2, hl', by rw [put_put]; exact kT rfl _ ⟨_, _, _, rfl⟩⟩
      have em : ∀ L : List PV, ((L.filter fun _ => true).map fun _ => PV.bl true) = (L.map fun _ => true).map PV.bl := fun L => by
        rw [List.filter_eq_self.mpr (fun _ _ => rfl), List.map_map]
        rfl
      rw [em]
      try walk_at "rd"
      exact ⟨_, rfl, H, s2.put (s2.free hacc3), by rw [all_t]; exact h⟩
  · exact h.elim

theorem G_World_init (T : Tx K mg t) : FnOk' P w K mg base CX0 7 t.a_World_init t.d_World_init ["self", "drawing", "sizes", "hidden", "tables"] (sp_winit t) := by
  refine okU (k := 6) T.F_World_init sc_World_init (fun vs H Q E h => by
    unfold sp_winit at h
    split at h
    · rfl
    · exact h.elim) (fun cdv A outer s H E B hr => ⟨_, (qss_cons (qs_set (i := 5) sc_World_init.nd rfl (by first | exact Or.inl rfl | exact Or.inr rfl) (qe_make T.mk_Drawing (G_Drawing_init T) (hr.mono (by decide)) rfl T.g_Drawing T.B_Drawing_init (qa_cons (qe_fld (qv 1) T.cl_Drawing T.nf_Drawing_count rfl) (qa_cons (qe_fld (qv 1) T.cl_Drawing T.nf_Drawing_ties rfl) (qa_cons (qe_fld (qv 1) T.cl_Drawing T.nf_Drawing_bows rfl) qa_nil)))))
    (qss_cons (qs_set (i := 6) sc_World_init.nd rfl (by first | exact Or.inl rfl | exact Or.inr rfl) (qe_callTy call_tuple_of vc_tuple rfl T.b_tuple boot_tuple (qa_cons (qv 2) qa_nil)))
    (qss_cons (qs_if (qt_not (qt_val (qe_call (G_are_sizes T) (hr.mono (by decide)) rfl T.g_are_sizes T.F_are_sizes.kp T.B_are_sizes (qa_cons (qv 5) (qa_cons (qv 6) qa_nil)))))
    qss_never
    qss_nil)
    (qss_cons (qs_set (i := 7) sc_World_init.nd rfl (by first | exact Or.inl rfl | exact Or.inr rfl) (qe_callTy call_tuple_of vc_tuple rfl T.b_tuple boot_tuple (qa_cons (qe_comp (N2 := ["shares"]) (nt := 1) (js := []) (cok (sc := defScope s_World_init) (by exact rfl) (by repeat (first | exact trivial | refine ⟨rfl, ?_⟩)) rfl (by rfl) (by decide +kernel) (by decide +kernel) (by rfl) (by decide +kernel) (by rfl) (by rfl)) rfl (qi_seq (qv 3)) (fun s0 H0 fp ps => ⟨(qg_name (i := 0) (show List.Nodup (["shares"] : List Str) by decide +kernel) rfl (by first | exact Or.inl rfl | exact Or.inr rfl)), qif_nil, (qe_call (G_copied T) (hr.mono (by decide)) rfl T.g_copied T.F_copied.kp T.B_copied (qa_cons (qv 0) qa_nil))⟩)) qa_nil)))
    (qss_cons (qs_if (qt_not (qt_val (qe_call (G_are_hidden T) (hr.mono (by decide)) rfl T.g_are_hidden T.F_are_hidden.kp T.B_are_hidden (qa_cons (qv 5) (qa_cons (qv 7) qa_nil)))))
    qss_never
    qss_nil)
    (qss_cons (qs_if (qt_cmp op_gt vr_gt (qe_mul (qe_call (G_product T) (hr.mono (by decide)) rfl T.g_product T.F_product.kp T.B_product (qa_cons (qv 6) qa_nil)) (qe_call (G_product T) (hr.mono (by decide)) rfl T.g_product T.F_product.kp T.B_product (qa_cons (qe_comp (N2 := ["shares"]) (nt := 1) (js := []) (cok (sc := defScope s_World_init) (by exact rfl) (by repeat (first | exact trivial | refine ⟨rfl, ?_⟩)) rfl (by rfl) (by decide +kernel) (by decide +kernel) (by rfl) (by decide +kernel) (by rfl) (by rfl)) rfl (qi_seq (qv 7)) (fun s0 H0 fp ps => ⟨(qg_name (i := 0) (show List.Nodup (["shares"] : List Str) by decide +kernel) rfl (by first | exact Or.inl rfl | exact Or.inr rfl)), qif_nil, (qe_callB call_len_seq vc_len rfl T.b_len PySem.boot_len (qa_cons (qv 0) qa_nil))⟩)) qa_nil))) (qe_globE (v' := .int 200000) rfl T.c_MOST_WEIGHTS (fun _ => by simp [RP])) (nomark _))
    qss_never
    qss_nil)
    (qss_cons (qs_set (i := 8) sc_World_init.nd rfl (by first | exact Or.inl rfl | exact Or.inr rfl) (qe_callTy call_tuple_of vc_tuple rfl T.b_tuple boot_tuple (qa_cons (qe_comp (N2 := ["table"]) (nt := 1) (js := []) (cok (sc := defScope s_World_init) (by exact rfl) (by repeat (first | exact trivial | refine ⟨rfl, ?_⟩)) rfl (by rfl) (by decide +kernel) (by decide +kernel) (by rfl) (by decide +kernel) (by rfl) (by rfl)) rfl (qi_seq (qv 4)) (fun s0 H0 fp ps => ⟨(qg_name (i := 0) (show List.Nodup (["table"] : List Str) by decide +kernel) rfl (by first | exact Or.inl rfl | exact Or.inr rfl)), qif_nil, (qe_callTy call_tuple_of vc_tuple rfl T.b_tuple boot_tuple (qa_cons (qe_comp (N2 := ["row"]) (nt := 1) (js := []) (cok (by exact rfl) (by repeat (first | exact trivial | refine ⟨rfl, ?_⟩)) rfl (by rfl) (by decide +kernel) (by decide +kernel) (by rfl) (fun x hx => absurd hx (by simp)) (by rfl) (by rfl)) rfl (qi_seq (qv 0)) (fun s0 H0 fp ps => ⟨(qg_name (i := 0) (show List.Nodup (["row"] : List Str) by decide +kernel) rfl (by first | exact Or.inl rfl | exact Or.inr rfl)), qif_nil, (qe_call (G_copied T) (hr.mono (by decide)) rfl T.g_copied T.F_copied.kp T.B_copied (qa_cons (qv 0) qa_nil))⟩)) qa_nil))⟩)) qa_nil)))
    (qss_cons (qs_if (qt_not (qt_val (qe_call (G_are_tables T) (hr.mono (by decide)) rfl T.g_are_tables T.F_are_tables.kp T.B_are_tables (qa_cons (qv 5) (qa_cons (qv 6) (qa_cons (qv 7) (qa_cons (qv 8) qa_nil)))))))
    qss_never
    qss_nil)
    (qss_cons (qs_fld (qv 0) (qv 5) T.cl_World T.nf_World_drawing rfl)
    (qss_cons (qs_fld (qv 0) (qv 6) T.cl_World T.nf_World_sizes rfl)
    (qss_cons (qs_fld (qv 0) (qv 7) T.cl_World T.nf_World_hidden rfl)
    (qss_cons (qs_fld (qv 0) (qv 8) T.cl_World T.nf_World_tables rfl)
    (qss_one (qs_fld (qv 0) qe_dnewK T.cl_World T.nf_World_weighed rfl)))))))))))))), ?_⟩)
  intro vs H Q E h
  unfold sp_winit at h
  split at h
  · rename_i x d0 a b d
    obtain ⟨dx, d1, c, ts, bs, ns, Hd, Tb, ys, zs, hx, h0, ha, hb, hd, ry, rz, hs, hw, h⟩ := h
    have t15 := hs.gt.len hs.hc.2
    have c6 := hs.hc
    have ln := hw.ln
    have lt := hw.lt
    have lh := hw.lh
    have b6 := hs.l6
    have ly := pd_len ry
    have lz := pd_len rz
    refine seq_abs fun R hR => ?_
    walk_at "rd"
    refine ⟨d1, _, _, h0, rfl, d1, _, _, h0, rfl, d1, _, _, h0, rfl, fun y dy hy hdy ne => ⟨dy, _, _, ts, bs, put_same, .inl rfl, .inl rfl, rows_prV, rows_prV, hs.gt, hs.gb, ⟨c6.1, c6.2, b6⟩, fun ts' bs' pt st pb sb => ?_⟩⟩
    obtain rfl : ts' = ts := DM.perm_eq pt st (List.Perm.refl _) hs.st
    obtain rfl : bs' = bs := DM.perm_eq pb sb (List.Perm.refl _) hs.sb
    try walk_at "rd"
    rw [put_put]
    have s1 := (Sub.refl H).put (o := .ins t.a_Drawing dy (DF c ts' bs')) hy
    have hy1 : put H y (.ins t.a_Drawing dy (DF c ts' bs')) y = some (.ins t.a_Drawing dy (DF c ts' bs')) := put_same
    generalize put H y (.ins t.a_Drawing dy (DF c ts' bs')) = H1 at *
    subst hR
    refine seq_abs fun R hR => ?_
    walk_at "rd"
    refine ⟨_, s1 _ _ ha, ?_⟩
    subst hR
    refine seq_abs fun R hR => ?_
    walk_at "rd"
    refine ⟨dy, c, ts', bs', ns, hy1, rfl, ln, by omega, hw.n4, ?_⟩
    try walk_at "rd"
    subst hR
    refine seq_abs fun R hR => ?_
    walk_at "rd"
    have ry1 := RowQ.up s1 ry
    have hb1 := s1 _ _ hb
    refine ⟨_, hb1, fun p1 hp1 => ?_⟩
    refine comp_pure (rowT H1) (fun _ => true) (fun σ => ∃ z, σ = [z]) (by rw [pd_len ry1]; omega) (fun l => (put_ne (ne_none hb1 hp1)).trans hb1) ?_ ?_ ⟨_, rfl⟩
    · rintro y' hy' l σ' R' ⟨z', rfl⟩ hl' kT kF
      obtain ⟨ws, hws, row⟩ := pd_mem ry1 hy'
      have sw := ((hw.h4 ws hws).1).2.2.2.2
      rw [RowQ.tp row, shT_eq] at kT
      walk_at "rd"
      exact ⟨_, (RowQ.cp row).up ((Sub.refl _).put hp1), by rw [List.length_map]; omega, hl', by rw [put_put]; exact kT rfl _ ⟨_, rfl⟩⟩
    rw [rows_q ry1]
    have s2 := s1.put (o := .lst (Hd.map shT)) (s1.free hp1)
    have hy2 := (put_ne (o := .lst (Hd.map shT)) (ne_none hy1 hp1)).trans hy1
    have hp12 : put H1 p1 (.lst (Hd.map shT)) p1 = some (.lst (Hd.map shT)) := put_same
    generalize put H1 p1 (.lst (Hd.map shT)) = H2 at *
    try walk_at "rd"
    refine ⟨_, hp12, ?_⟩
    subst hR
    refine seq_abs fun R hR => ?_
    walk_at "rd"
    refine ⟨dy, c, ts', bs', Hd, hy2, rfl, lh, by omega, hw.h4, ?_⟩
    try walk_at "rd"
    subst hR
    refine seq_abs fun R hR => ?_
    walk_at "rd"
    have n1 : ∀ n ∈ ns, 1 ≤ n := fun n hn => by have := hw.n4 n hn; omega
    have m1 : ∀ n ∈ Hd.map fun ws => ((ws.length : Nat) : Int), 1 ≤ n ∧ n ≤ 4 := fun n hn => by
      obtain ⟨ws, hws, rfl⟩ := List.mem_map.mp hn
      have := hw.h4 ws hws
      omega
    have pn := prod_pos n1
    have pm := prod_pos fun n hn => (m1 n hn).1
    have most := hw.most
    have le1 := le_mul1 (a := prod ns) (b := prod (Hd.map fun ws => ((ws.length : Nat) : Int))) (by omega) pm
    have le2 := le_mul1 (a := prod (Hd.map fun ws => ((ws.length : Nat) : Int))) (b := prod ns) (by omega) pn
    rw [Int.mul_comm] at le2
    refine ⟨ns, .inl rfl, by omega, fun k => by have := prod_take n1 k; omega, fun n hn => by have := hw.n4 n hn; omega, fun p2 hp2 => ?_⟩
    refine comp_pure fL (fun _ => true) (fun σ => ∃ z, σ = [z]) (by rw [List.length_map]; omega) (fun _ => trivial) ?_ ?_ ⟨_, rfl⟩
    · rintro y' hy' l σ' R' ⟨z', rfl⟩ hl' kT kF
      obtain ⟨ws, hws, rfl⟩ := List.mem_map.mp hy'
      unfold shT at *
      walk_at "rd"
      exact ⟨hl', by rw [put_put]; exact kT rfl _ ⟨_, rfl⟩⟩
    rw [len_sh]
    have s3 := s2.put (o := .lst ((Hd.map fun ws => ((ws.length : Nat) : Int)).map PV.int)) (s2.free hp2)
    have hy3 := (put_ne (o := .lst ((Hd.map fun ws => ((ws.length : Nat) : Int)).map PV.int)) (ne_none hy2 hp2)).trans hy2
    have hp3 : put H2 p2 (.lst ((Hd.map fun ws => ((ws.length : Nat) : Int)).map PV.int)) p2 = some (.lst ((Hd.map fun ws => ((ws.length : Nat) : Int)).map PV.int)) := put_same
    generalize put H2 p2 (.lst ((Hd.map fun ws => ((ws.length : Nat) : Int)).map PV.int)) = H3 at *
    try walk_at "rd"
    refine ⟨_, .inr ⟨p2, rfl, hp3⟩, by rw [List.length_map]; omega, fun k => by have := prod_take (fun n hn => (m1 n hn).1) k; omega, fun n hn => by have := m1 n hn; omega, ?_⟩
    try walk_at "rd"
    refine ⟨.inr ⟨fitS (by omega) (by omega), fitS (by omega) (by omega)⟩, cif_neg (by simp; omega) ?_⟩
    subst hR
    refine seq_abs fun R hR => ?_
    walk_at "rd"
    refine ⟨_, s3 _ _ hd, fun p4 hp4 => ?_⟩
    refine comp_inv (fun i σ H4 => ∃ z, σ = [z] ∧ U.Sub H3 H4 ∧ H4 p4 = some (.lst ((Tb.take i).map tbT))) ?_ ?_ ⟨_, rfl, (Sub.refl H3).put hp4, put_same⟩
    · rintro i y' σ H4 R1 hy' ⟨z, rfl, s4, ha4⟩ kk
      have s34 := s3.trans s4
      refine ⟨s34 _ _ hd, ?_⟩
      have hi := (List.getElem?_eq_some_iff.mp hy').1
      have tr := pd_get rz hi (by omega)
      rw [(List.getElem?_eq_some_iff.mp hy').2] at tr
      have hg : Tb[i]? = some (Tb[i]'(by omega)) := List.getElem?_eq_getElem (by omega)
      generalize Tb[i]'(by omega) = Rw at *
      have tb := hw.tb i Rw hg
      obtain ⟨ys', sq, pr⟩ := tr
      have pr4 := RowQ.up s34 pr
      have ll := pd_len pr4
      walk_at "rd"
      refine it_seq (sq.up s34) fun ok hok p5 hp5 => ?_
      refine comp_pure (rowT H4) (fun _ => true) (fun σ => ∃ z, σ = [z]) (by rw [pd_len pr4]; omega) (fun l => hok _ ((Sub.refl _).put hp5)) ?_ ?_ ⟨_, rfl⟩
      · rintro y' hy' l σ' R' ⟨z', rfl⟩ hl' kT kF
        obtain ⟨ws, hws, row⟩ := pd_mem pr4 hy'
        have sw := ((tb.2.2 ws hws).1).2.2.2.2
        rw [RowQ.tp row, shT_eq] at kT
        walk_at "rd"
        exact ⟨_, (RowQ.cp row).up ((Sub.refl _).put hp5), by rw [List.length_map]; omega, hl', by rw [put_put]; exact kT rfl _ ⟨_, rfl⟩⟩
      rw [rows_q pr4]
      try walk_at "rd"
      refine ⟨_, (put_ne (ne_none ha4 hp5)).trans ha4, small1000 (by rw [List.length_map, List.length_take]; omega), kk _ _ ⟨_, rfl, (s4.put (s4.free hp5)).put hp4, ?_⟩⟩
      rw [put_same, List.take_add_one, hg, List.map_append]
      rfl
    · rintro σ H4 ⟨z, rfl, s4, ha4⟩
      have s34 := s3.trans s4
      refine ⟨s34 _ _ hd, ?_⟩
      rw [lz, List.take_length] at ha4
      have hy4 := s4 _ _ hy3
      have hx4 := s34 _ _ hx
      try walk_at "rd"
      refine ⟨_, ha4, ?_⟩
      subst hR
      refine seq_abs fun R hR => ?_
      walk_at "rd"
      refine ⟨dy, c, ts', bs', ns, Hd, Tb, hy4, rfl, rfl, rfl, hs, hw, ?_⟩
      try walk_at "rd"
      subst hR
      have nyx : y ≠ x := fun e => by subst e; rw [hx] at hy; cases hy
      have k4 : ∀ a u, a ≠ x → H a = some u → H4 a = some u := fun a u _ e => s34 _ _ e
      refine seq_abs fun R hR => ?_
      walk_at "rd"
      refine ⟨_, _, hx4, by simp, ?_⟩
      subst hR
      rw [show putU "drawing" (PV.ref y) ([] : List (Str × PV)) = ([("drawing", PV.ref y)] : List (Str × PV)) from rfl]
      have hx5 : put H4 x (.ins t.a_World dx [("drawing", PV.ref y)]) x = some (.ins t.a_World dx [("drawing", PV.ref y)]) := put_same
      have hy5 := (put_ne (o := .ins t.a_World dx [("drawing", PV.ref y)]) nyx).trans hy4
      have k5 : ∀ a u, a ≠ x → H a = some u → put H4 x (.ins t.a_World dx [("drawing", PV.ref y)]) a = some u := fun a u n e => (put_ne n).trans (k4 a u n e)
      generalize put H4 x (.ins t.a_World dx [("drawing", PV.ref y)]) = H5 at *
      refine seq_abs fun R hR => ?_
      walk_at "rd"
      refine ⟨_, _, hx5, by simp, ?_⟩
      subst hR
      rw [show putU "sizes" (PV.tup (ns.map PV.int)) ([("drawing", PV.ref y)] : List (Str × PV)) = ([("drawing", PV.ref y), ("sizes", PV.tup (ns.map PV.int))] : List (Str × PV)) from rfl]
      have hx6 : put H5 x (.ins t.a_World dx [("drawing", PV.ref y), ("sizes", PV.tup (ns.map PV.int))]) x = some (.ins t.a_World dx [("drawing", PV.ref y), ("sizes", PV.tup (ns.map PV.int))]) := put_same
      have hy6 := (put_ne (o := .ins t.a_World dx [("drawing", PV.ref y), ("sizes", PV.tup (ns.map PV.int))]) nyx).trans hy5
      have k6 : ∀ a u, a ≠ x → H a = some u → put H5 x (.ins t.a_World dx [("drawing", PV.ref y), ("sizes", PV.tup (ns.map PV.int))]) a = some u := fun a u n e => (put_ne n).trans (k5 a u n e)
      generalize put H5 x (.ins t.a_World dx [("drawing", PV.ref y), ("sizes", PV.tup (ns.map PV.int))]) = H6 at *
      refine seq_abs fun R hR => ?_
      walk_at "rd"
      refine ⟨_, _, hx6, by simp, ?_⟩
      subst hR
      rw [show putU "hidden" (PV.tup (Hd.map shT)) ([("drawing", PV.ref y), ("sizes", PV.tup (ns.map PV.int))] : List (Str × PV)) = ([("drawing", PV.ref y), ("sizes", PV.tup (ns.map PV.int)), ("hidden", PV.tup (Hd.map shT))] : List (Str × PV)) from rfl]
      have hx7 : put H6 x (.ins t.a_World dx [("drawing", PV.ref y), ("sizes", PV.tup (ns.map PV.int)), ("hidden", PV.tup (Hd.map shT))]) x = some (.ins t.a_World dx [("drawing", PV.ref y), ("sizes", PV.tup (ns.map PV.int)), ("hidden", PV.tup (Hd.map shT))]) := put_same
      have hy7 := (put_ne (o := .ins t.a_World dx [("drawing", PV.ref y), ("sizes", PV.tup (ns.map PV.int)), ("hidden", PV.tup (Hd.map shT))]) nyx).trans hy6
      have k7 : ∀ a u, a ≠ x → H a = some u → put H6 x (.ins t.a_World dx [("drawing", PV.ref y), ("sizes", PV.tup (ns.map PV.int)), ("hidden", PV.tup (Hd.map shT))]) a = some u := fun a u n e => (put_ne n).trans (k6 a u n e)
      generalize put H6 x (.ins t.a_World dx [("drawing", PV.ref y), ("sizes", PV.tup (ns.map PV.int)), ("hidden", PV.tup (Hd.map shT))]) = H7 at *
      refine seq_abs fun R hR => ?_
      walk_at "rd"
      refine ⟨_, _, hx7, by simp, ?_⟩
      subst hR
      rw [show putU "tables" (PV.tup (Tb.map tbT)) ([("drawing", PV.ref y), ("sizes", PV.tup (ns.map PV.int)), ("hidden", PV.tup (Hd.map shT))] : List (Str × PV)) = ([("drawing", PV.ref y), ("sizes", PV.tup (ns.map PV.int)), ("hidden", PV.tup (Hd.map shT)), ("tables", PV.tup (Tb.map tbT))] : List (Str × PV)) from rfl]
      have hx8 : put H7 x (.ins t.a_World dx [("drawing", PV.ref y), ("sizes", PV.tup (ns.map PV.int)), ("hidden", PV.tup (Hd.map shT)), ("tables", PV.tup (Tb.map tbT))]) x = some (.ins t.a_World dx [("drawing", PV.ref y), ("sizes", PV.tup (ns.map PV.int)), ("hidden", PV.tup (Hd.map shT)), ("tables", PV.tup (Tb.map tbT))]) := put_same
      have hy8 := (put_ne (o := .ins t.a_World dx [("drawing", PV.ref y), ("sizes", PV.tup (ns.map PV.int)), ("hidden", PV.tup (Hd.map shT)), ("tables", PV.tup (Tb.map tbT))]) nyx).trans hy7
      have k8 : ∀ a u, a ≠ x → H a = some u → put H7 x (.ins t.a_World dx [("drawing", PV.ref y), ("sizes", PV.tup (ns.map PV.int)), ("hidden", PV.tup (Hd.map shT)), ("tables", PV.tup (Tb.map tbT))]) a = some u := fun a u n e => (put_ne n).trans (k7 a u n e)
      generalize put H7 x (.ins t.a_World dx [("drawing", PV.ref y), ("sizes", PV.tup (ns.map PV.int)), ("hidden", PV.tup (Hd.map shT)), ("tables", PV.tup (Tb.map tbT))]) = H8 at *
      walk_at "rd"
      refine fun q hq => ⟨_, _, (put_ne (ne_none hx8 hq)).trans hx8, by simp, _, Sub.refl _, h y dy q _ (fun a u n e => (put_ne n).trans ((put_ne (ne_none (k8 a u n e) hq)).trans (k8 a u n e))) put_same ((put_ne nyx).trans ((put_ne (ne_none hy8 hq)).trans hy8)) hy⟩
  · exact h.elim

theorem G_law_world (T : Tx K mg t) : FnOk' P w K mg base CX0 6 t.a_law_world t.d_law_world ["_law_script", "_law_at", "_law_shape", "_law_most"] sp_world := by
  refine okU (k := 5) T.F_law_world sc_law_world (fun vs H Q E h => by
    unfold sp_world at h
    split at h
    · rfl
    · exact h.elim) (fun cdv A outer s H E B hr => ⟨_, (qss_cons (qs_asg (qv 2) (qg_tup (n := 3) rfl (qgs_cons (qg_name (i := 4) sc_law_world.nd rfl (by first | exact Or.inl rfl | exact Or.inr rfl)) (qgs_cons (qg_name (i := 5) sc_law_world.nd rfl (by first | exact Or.inl rfl | exact Or.inr rfl)) (qgs_cons (qg_name (i := 6) sc_law_world.nd rfl (by first | exact Or.inl rfl | exact Or.inr rfl)) qgs_nil)))))
    (qss_cons (qs_set (i := 7) sc_law_world.nd rfl (by first | exact Or.inl rfl | exact Or.inr rfl) (qe_call (G_law_mixed T) (hr.mono (by decide)) rfl T.g_law_mixed T.F_law_mixed.kp T.B_law_mixed (qa_cons (qe_call (G_law_cell_at T) (hr.mono (by decide)) rfl T.g_law_cell_at T.F_law_cell_at.kp T.B_law_cell_at (qa_cons (qv 0) (qa_cons (qv 1) qa_nil))) (qa_cons qe_int qa_nil))))
    (qss_cons (qs_set (i := 8) sc_law_world.nd rfl (by first | exact Or.inl rfl | exact Or.inr rfl) (qe_cmp op_gt vr_gt (qe_mod (qe_call (G_law_cell_at T) (hr.mono (by decide)) rfl T.g_law_cell_at T.F_law_cell_at.kp T.B_law_cell_at (qa_cons (qv 0) (qa_cons (qe_add (qv 1) qe_int) qa_nil))) qe_int) qe_int (nomark _)))
    (qss_cons (qs_setC (i := 9) sc_law_world.nd rfl (by first | exact Or.inl rfl | exact Or.inr rfl) (N2 := ["_law_name"]) (nt := 1) (js := []) (cok (sc := defScope s_law_world) (by exact rfl) (by repeat (first | exact trivial | refine ⟨rfl, ?_⟩)) rfl (by rfl) (by decide +kernel) (by decide +kernel) (by rfl) (by decide +kernel) (by rfl) (by rfl)) rfl (qi_range1 rfl T.b_range (qa_cons (qv 4) qa_nil)) (fun s0 H0 fp ps => ⟨(qg_name (i := 0) (show List.Nodup (["_law_name"] : List Str) by decide +kernel) rfl (by first | exact Or.inl rfl | exact Or.inr rfl)), qif_nil, qe_int⟩))
    (qss_cons (qs_set (i := 10) sc_law_world.nd rfl (by first | exact Or.inl rfl | exact Or.inr rfl) (qe_shl qe_int (qv 4)))
    (qss_cons (qs_for PassesOwn.never rfl (qi_range1 rfl T.b_range (qa_cons (qv 4) qa_nil)) (qg_name (i := 11) sc_law_world.nd rfl (by first | exact Or.inl rfl | exact Or.inr rfl))
    (qss_cons (qs_set (i := 12) sc_law_world.nd rfl (by first | exact Or.inl rfl | exact Or.inr rfl) (qe_ix (qe_lst (qa_cons qe_int (qa_cons qe_int (qa_cons qe_int (qa_cons qe_int qa_nil))))) (qe_mod (qe_ix (qv 7) (qv 11) (fun _ _ => rfl)) qe_int) (fun _ _ => rfl)))
      (qss_one (qs_if (qt_cmp op_le vr_le (qe_mul (qe_fdiv (qv 10) qe_int) (qv 12)) (qe_fdiv (qv 3) qe_int) (nomark _))
      (qss_cons (qs_set (i := 10) sc_law_world.nd rfl (by first | exact Or.inl rfl | exact Or.inr rfl) (qe_mul (qe_fdiv (qv 10) qe_int) (qv 12)))
        (qss_one (qs_asg (qv 12) (qg_sub (qv 9) (qv 11)))))
      qss_nil))))
    (qss_cons (qs_set (i := 13) sc_law_world.nd rfl (by first | exact Or.inl rfl | exact Or.inr rfl) (qe_lst qa_nil))
    (qss_cons (qs_for PassesOwn.never rfl (qi_range1 rfl T.b_range (qa_cons (qe_callB call_len_seq vc_len rfl T.b_len PySem.boot_len (qa_cons (qv 6) qa_nil)) qa_nil)) (qg_name (i := 14) sc_law_world.nd rfl (by first | exact Or.inl rfl | exact Or.inr rfl))
    (qss_cons (qs_set (i := 15) sc_law_world.nd rfl (by first | exact Or.inl rfl | exact Or.inr rfl) (qe_ix (qe_lst (qa_cons qe_int (qa_cons qe_int (qa_cons qe_int (qa_cons qe_int (qa_cons qe_int qa_nil)))))) (qe_mod (qe_ix (qv 7) (qe_add qe_int (qv 14)) (fun _ _ => rfl)) qe_int) (fun _ _ => rfl)))
      (qss_cons (qs_if (qt_cmp op_gt vr_gt (qe_mul (qv 10) (qv 15)) (qv 3) (nomark _))
      (qss_one (qs_set (i := 15) sc_law_world.nd rfl (by first | exact Or.inl rfl | exact Or.inr rfl) qe_int))
      qss_nil)
      (qss_cons (qs_set (i := 10) sc_law_world.nd rfl (by first | exact Or.inl rfl | exact Or.inr rfl) (qe_mul (qv 10) (qv 15)))
      (qss_one (qs_expr (qe_bm PySem.F.slot_list_append PySem.F.type_list_append mt_append vm_append (qv 13) (qa_cons (qe_call (G_law_weights T) (hr.mono (by decide)) rfl T.g_law_weights T.F_law_weights.kp T.B_law_weights (qa_cons (qe_fdiv (qe_ix (qv 7) (qe_add qe_int (qv 14)) (fun _ _ => rfl)) qe_int) (qa_cons (qv 15) (qa_cons qe_bl qa_nil)))) qa_nil))))))))
    (qss_cons (qs_set (i := 16) sc_law_world.nd rfl (by first | exact Or.inl rfl | exact Or.inr rfl) (qe_lst qa_nil))
    (qss_cons (qs_for PassesOwn.never rfl (qi_range1 rfl T.b_range (qa_cons (qv 4) qa_nil)) (qg_name (i := 11) sc_law_world.nd rfl (by first | exact Or.inl rfl | exact Or.inr rfl))
    (qss_cons (qs_asg (qe_call (G_law_heads T) (hr.mono (by decide)) rfl T.g_law_heads T.F_law_heads.kp T.B_law_heads (qa_cons (qv 2) (qa_cons (qv 11) qa_nil))) (qg_tup (n := 2) rfl (qgs_cons (qg_name (i := 17) sc_law_world.nd rfl (by first | exact Or.inl rfl | exact Or.inr rfl)) (qgs_cons (qg_name (i := 18) sc_law_world.nd rfl (by first | exact Or.inl rfl | exact Or.inr rfl)) qgs_nil))))
      (qss_cons (qs_set (i := 19) sc_law_world.nd rfl (by first | exact Or.inl rfl | exact Or.inr rfl) qe_int)
      (qss_cons (qs_for PassesOwn.never rfl (qi_seq (qv 17)) (qg_name (i := 20) sc_law_world.nd rfl (by first | exact Or.inl rfl | exact Or.inr rfl))
      (qss_one (qs_set (i := 19) sc_law_world.nd rfl (by first | exact Or.inl rfl | exact Or.inr rfl) (qe_mul (qv 19) (qe_ix (qv 9) (qv 20) (fun _ _ => rfl))))))
      (qss_cons (qs_for PassesOwn.never rfl (qi_seq (qv 18)) (qg_name (i := 14) sc_law_world.nd rfl (by first | exact Or.inl rfl | exact Or.inr rfl))
      (qss_one (qs_set (i := 19) sc_law_world.nd rfl (by first | exact Or.inl rfl | exact Or.inr rfl) (qe_mul (qv 19) (qe_callB call_len_seq vc_len rfl T.b_len PySem.boot_len (qa_cons (qe_ix (qv 13) (qv 14) (fun _ _ => rfl)) qa_nil))))))
      (qss_one (qs_expr (qe_bm PySem.F.slot_list_append PySem.F.type_list_append mt_append vm_append (qv 16) (qa_cons (qe_call (G_law_rows T) (hr.mono (by decide)) rfl T.g_law_rows T.F_law_rows.kp T.B_law_rows (qa_cons (qe_call (G_law_cell_at T) (hr.mono (by decide)) rfl T.g_law_cell_at T.F_law_cell_at.kp T.B_law_cell_at (qa_cons (qv 0) (qa_cons (qe_add (qe_add (qv 1) qe_int) (qv 11)) qa_nil))) (qa_cons (qv 19) (qa_cons (qe_ix (qv 9) (qv 11) (fun _ _ => rfl)) (qa_cons (qv 8) qa_nil))))) qa_nil)))))))))
    (qss_one (qs_ret (qe_tup (qa_cons (qv 9) (qa_cons (qv 13) (qa_cons (qv 16) qa_nil)))))))))))))))), ?_⟩)
  intro vs H Q E h
  unfold sp_world at h
  split at h
  · rename_i l k c tv bv m
    obtain ⟨is, ts, bs, rfl, rfl, rfl, hk, rfl, hs, h⟩ := h
    have c6 := hs.hc
    have b6 := hs.l6
    refine seq_abs fun R hR => ?_
    walk_at "rd"
    subst hR
    refine seq_abs fun R hR => ?_
    walk_at "rd"
    refine ⟨⟨by omega, by omega⟩, is, rfl, ⟨by decide, by decide⟩, fun xa xs hxa hxs => ?_⟩
    have s1 := (Sub.refl H).put (o := .lst (xs.map PV.int)) hxa
    have ex : put H xa (.lst (xs.map PV.int)) xa = some (.lst (xs.map PV.int)) := put_same
    generalize put H xa (.lst (xs.map PV.int)) = H1 at *
    subst hR
    refine seq_abs fun R hR => ?_
    walk_at "rd"
    refine ⟨⟨by omega, by omega⟩, is, rfl, by decide, ?_⟩
    generalize decide (0 < (is.getD (k + 1).toNat 0).fmod 3) = f at *
    subst hR
    refine seq_abs fun R hR => ?_
    walk_at "rd"
    refine ⟨⟨by omega, by omega⟩, fun sa hsa => ?_⟩
    refine comp_pure (fun _ => PV.int 2) (fun _ => true) (fun σ => ∃ z, σ = [z]) (by rw [rng0, List.length_map, List.length_range]; omega) (fun _ => trivial) ?_ ?_ ⟨_, rfl⟩
    · rintro y hy l σ R' ⟨z, rfl⟩ hl kT kF
      walk_at "rd"
      exact ⟨hl, by rw [put_put]; exact kT rfl _ ⟨_, rfl⟩⟩
    have em : (((rngL 0 c.toNat).filter fun _ => true).map fun _ => PV.int 2) = (List.replicate c.toNat (2 : Int)).map PV.int := by
      rw [List.filter_eq_self.mpr (fun _ _ => rfl), rng0, List.map_map, List.map_replicate]
      refine List.ext_getElem (by simp) fun j h1 h2 => ?_
      simp
    rw [em]
    obtain ⟨z0, zp⟩ := Sz.zero c6
    subst hR
    refine seq_abs fun R hR => ?_
    walk_at "rd"
    refine ⟨⟨by omega, by omega, by decide⟩, ?_⟩
    rw [← zp]
    clear zp
    have s2 := s1.put (o := .lst ((List.replicate c.toNat (2 : Int)).map PV.int)) (s1.free hsa)
    have nxs : xa ≠ sa := ne_none ex hsa
    subst hR
    refine seq_abs fun R hR => ?_
    walk_at "rd"
    refine ⟨⟨by omega, by omega⟩, ?_⟩
    refine for_rngD (fun i σ H2 => ∃ ns z11 z12, σ = [some (.fls (is.map PV.int)), some (.int k), some (.tup [.int c, .tup (ts.map prV), .tup (bs.map prV)]), some (.int 300), some (.int c), some (.tup (ts.map prV)), some (.tup (bs.map prV)), some (.ref xa), some (.bl f), some (.ref sa), some (.int (prod ns)), z11, z12, none, none, none, none, none, none, none, none] ∧ U.Sub H1 H2 ∧ H2 sa = some (.lst (ns.map PV.int)) ∧ Sz c i ns) ?_ ?_ ⟨_, _, _, rfl, (Sub.refl H1).put hsa, put_same, z0⟩
    · rintro σ H2 ⟨ns, z11, z12, rfl, s2, es, sz⟩
      refine ⟨trivial, ?_⟩
      subst hR
      dsimp only
      refine seq_abs fun R hR => ?_
      walk_at "rd"
      refine ⟨small_size (by decide), fun hb hhb => ?_⟩
      subst hR
      have ex2 := s2 _ _ ex
      have nxh := ne_none ex2 hhb
      have nsh := ne_none es hhb
      have p1 := prod_pos (l := ns) fun n hn => by have := sz.n4 n hn; omega
      have p2 := sz.le
      refine seq_abs fun R hR => ?_
      walk_at "rd"
      rw [List.length_map]
      refine ⟨⟨by omega, by omega⟩, ?_⟩
      refine for_rngD (fun i σ H3 => ∃ ys Hd z12 z14 z15, σ = [some (.fls (is.map PV.int)), some (.int k), some (.tup [.int c, .tup (ts.map prV), .tup (bs.map prV)]), some (.int 300), some (.int c), some (.tup (ts.map prV)), some (.tup (bs.map prV)), some (.ref xa), some (.bl f), some (.ref sa), some (.int (prod ns * prod (Hd.map fun ws : List Int => (ws.length : Int)))), z11, z12, some (.ref hb), z14, z15, none, none, none, none, none] ∧ U.Sub H2 H3 ∧ H3 hb = some (.lst ys) ∧ Paired (RowX hb H3) ys Hd ∧ Hd.length = i ∧ (∀ ws ∈ Hd, Shr ws ∧ 1 ≤ ws.length ∧ ws.length ≤ 4) ∧ prod ns * prod (Hd.map fun ws : List Int => (ws.length : Int)) ≤ 300) ?_ ?_ ⟨[], [], _, _, _, by rw [List.map_nil]; show _ = [_, _, _, _, _, _, _, _, _, _, some (PV.int (prod ns * 1)), _, _, _, _, _, _, _, _, _, _]; rw [Int.mul_one], (Sub.refl H2).put hhb, put_same, .nil, rfl, fun ws hw => (by cases hw), by show prod ns * 1 ≤ 300; omega⟩
      · rintro σ H3 ⟨ys, Hd, z12, z14, z15, rfl, s3, eh, pd, lh, h4, mst⟩
        refine ⟨trivial, ?_⟩
        subst hR
        dsimp only
        refine seq_abs fun R hR => ?_
        walk_at "rd"
        refine ⟨small_size (by decide), fun td htd => ?_⟩
        subst hR
        have es3 := s3 _ _ es
        have ly := pd_len pd
        have lh' : Hd.length = bs.length := lh
        refine seq_abs fun R hR => ?_
        walk_at "rd"
        refine ⟨⟨by omega, by omega⟩, ?_⟩
        refine for_rngD (fun i σ H5 => ∃ zs Tb z11 z14 z17 z18 z19 z20, σ = [some (.fls (is.map PV.int)), some (.int k), some (.tup [.int c, .tup (ts.map prV), .tup (bs.map prV)]), some (.int 300), some (.int c), some (.tup (ts.map prV)), some (.tup (bs.map prV)), some (.ref xa), some (.bl f), some (.ref sa), some (.int (prod ns * prod (Hd.map fun ws : List Int => (ws.length : Int)))), z11, z12, some (.ref hb), z14, z15, some (.ref td), z17, z18, z19, z20] ∧ U.Sub H3 H5 ∧ H5 td = some (.lst zs) ∧ Paired (TabX td H5) zs Tb ∧ Tb.length = i ∧ ∀ (k : Nat) Rw, Tb[k]? = some Rw → (Rw.length : Int) = prod (hdz ns Hd ts bs (k : Nat)) ∧ Rw.length ≤ 400 ∧ ∀ ws ∈ Rw, Shr ws ∧ (ws.length : Int) = ns.getD k 0) ?_ ?_ ⟨[], [], _, _, _, _, _, _, rfl, (Sub.refl H3).put htd, put_same, .nil, rfl, fun k Rw q => by cases q⟩
        · rintro σ H5 ⟨zs, Tb, z11, z14, z17, z18, z19, z20, rfl, s5, et, pt, lt, ht⟩
          refine ⟨trivial, ?_⟩
          subst hR
          walk_at "rd"
          have s15 := s2.trans (s3.trans s5)
          have ln := sz.ln
          refine ⟨small_size (by decide), H5, Sub.refl _, h sa hb td ns Hd Tb ys zs H5 (s1.trans s15) (s5 _ _ es3) (s5 _ _ eh) et (pd_imp (fun y ws ⟨r, e1, _, e2⟩ => ⟨r, e1, s5 _ _ e2⟩) pd) (pd_imp (fun z Rw ⟨r, ys, e1, _, e2, w⟩ => ⟨r, ys, e1, e2, pd_imp (fun y ws ⟨r, e1, _, e2⟩ => ⟨r, e1, e2⟩) w⟩) pt) ⟨by omega, sz.n4, lh', h4, by omega, by omega, ht⟩⟩
        · rintro D i σ H5 hi ⟨zs, Tb, z11, z14, z17, z18, z19, z20, rfl, s5, et, pt, lt, ht⟩ kk
          refine ⟨trivial, ?_⟩
          have ln := sz.ln
          have hic : 0 ≤ ((i : Nat) : Int) ∧ ((i : Nat) : Int) < c := by omega
          have hZ := hdz_eq (ns := ns) (Hd := Hd) hs hic.2
          have zle := hdz_le hs hic (by omega) sz.n4 lh' h4
          have zpos := hdz_pos (c := c) (by omega) sz.n4 lh' h4 hs.gt ((i : Nat) : Int)
          have zt := fun m => prod_take (fun x hx => (zpos x hx).1) m
          generalize eZ : hdz ns Hd ts bs ((i : Nat) : Int) = Z at hZ zle zpos zt
          simp only [vName, List.set_cons_zero, List.set_cons_succ]
          refine seq_abs fun R hR => ?_
          walk_at "rd"
          refine ⟨ts, bs, rfl, rfl, ⟨by omega, by omega⟩, b6, fun p q hq hp npq => ?_⟩
          have k6 : ∀ a u, H5 a = some u → put (put H5 q (.lst ((bpl bs (i : Nat)).map fun k => PV.int (k : Nat)))) p (.lst ((srcs ts (i : Nat)).map PV.int)) a = some u := fun a u e => (put_ne (ne_none e hp)).trans ((put_ne (ne_none e hq)).trans e)
          have ep : put (put H5 q (.lst ((bpl bs (i : Nat)).map fun k => PV.int (k : Nat)))) p (.lst ((srcs ts (i : Nat)).map PV.int)) p = some (.lst ((srcs ts (i : Nat)).map PV.int)) := put_same
          have eq : put (put H5 q (.lst ((bpl bs (i : Nat)).map fun k => PV.int (k : Nat)))) p (.lst ((srcs ts (i : Nat)).map PV.int)) q = some (.lst ((bpl bs (i : Nat)).map fun k => PV.int (k : Nat))) := (put_ne npq.symm).trans put_same
          generalize put (put H5 q (.lst ((bpl bs (i : Nat)).map fun k => PV.int (k : Nat)))) p (.lst ((srcs ts (i : Nat)).map PV.int)) = H6 at *
          have s6 : U.Sub H3 H6 := fun a u e => k6 _ _ (s5 _ _ e)
          have et6 := k6 _ _ et
          have pt6 := TabX.up (fun a u _ e => k6 a u e) pt
          have es6 := s6 _ _ es3
          have eh6 := s6 _ _ eh
          subst hR
          refine seq_abs fun R hR => ?_
          walk_at "rd"
          subst hR
          refine seq_abs fun R hR => ?_
          walk_at "rd"
          refine ⟨_, ep, ?_⟩
          refine for_atD (fun j σ H7 => ∃ z20, σ = [some (.fls (is.map PV.int)), some (.int k), some (.tup [.int c, .tup (ts.map prV), .tup (bs.map prV)]), some (.int 300), some (.int c), some (.tup (ts.map prV)), some (.tup (bs.map prV)), some (.ref xa), some (.bl f), some (.ref sa), some (.int (prod ns * prod (Hd.map fun ws : List Int => (ws.length : Int)))), some (.int (i : Nat)), z12, some (.ref hb), z14, z15, some (.ref td), some (.ref p), some (.ref q), some (.int (prod (Z.take j))), z20] ∧ H7 = H6) ?_ ?_ ⟨_, rfl, rfl⟩
          · rintro σ H7 ⟨z20, rfl, rfl⟩
            refine ⟨ep, ?_⟩
            subst hR
            dsimp only
            refine seq_abs fun R hR => ?_
            walk_at "rd"
            refine ⟨_, eq, ?_⟩
            rw [List.length_map]
            refine for_atD (fun j σ H8 => ∃ z14, σ = [some (.fls (is.map PV.int)), some (.int k), some (.tup [.int c, .tup (ts.map prV), .tup (bs.map prV)]), some (.int 300), some (.int c), some (.tup (ts.map prV)), some (.tup (bs.map prV)), some (.ref xa), some (.bl f), some (.ref sa), some (.int (prod ns * prod (Hd.map fun ws : List Int => (ws.length : Int)))), some (.int (i : Nat)), z12, some (.ref hb), z14, z15, some (.ref td), some (.ref p), some (.ref q), some (.int (prod (Z.take ((srcs ts (i : Nat)).length + j)))), z20] ∧ H8 = H7) ?_ ?_ ⟨_, rfl, rfl⟩
            · rintro σ H8 ⟨z14, rfl, rfl⟩
              refine ⟨eq, ?_⟩
              rw [List.length_map]
              have zz : Z.take ((srcs ts (i : Nat)).length + (bpl bs (i : Nat)).length) = Z := by
                refine List.take_of_length_le ?_
                rw [hZ, List.length_append, List.length_map]
                unfold hsz
                rw [List.length_map]
                exact Nat.le_refl _
              rw [zz]
              subst hR
              walk_at "rd"
              have hin : i < ns.length := by omega
              have e1 : atI (ns.map PV.int) (i : Nat) = some (.int (ns.getD ((i : Nat) : Int).toNat 0)) := atI_int (by omega) (by omega)
              rw [Int.toNat_natCast] at e1
              have nv : 2 ≤ ns.getD i 0 ∧ ns.getD i 0 ≤ 4 := by
                rw [List.getD_eq_getElem?_getD, List.getElem?_eq_getElem hin]
                exact sz.n4 _ (List.getElem_mem hin)
              refine ⟨⟨_, et6⟩, ⟨by omega, by omega⟩, is, rfl, _, es6, ?_⟩
              rw [e1]
              try walk_at "rd"
              have lzt := pd_len pt6
              refine ⟨⟨zle.1, by omega⟩, ⟨by omega, nv.2⟩, fun p' H9 ys' Rw s9 hp' ep' pr lr hr' => ⟨zs, s9 _ _ et6, small1000 (by omega), kk _ _ ⟨zs ++ [.ref p'], Tb ++ [Rw], _, _, _, _, _, _, rfl, ?_, put_same, ?_, by rw [List.length_append, lt]; rfl, fun k Rw' hk => ?_⟩⟩⟩
              · exact (s6.trans s9).put htd
              · have npt : p' ≠ td := (ne_none et6 hp').symm
                refine pd_snoc ⟨p', ys', rfl, npt, (put_ne npt).trans ep', pd_imp (fun y ws ⟨r, e1, e2, _, e4⟩ => ?_) pr⟩ (TabX.up (fun a u n e => (put_ne n).trans (s9 _ _ e)) pt6)
                have nrt : r ≠ td := (ne_none et6 e4).symm
                exact ⟨r, e1, nrt, (put_ne nrt).trans e2⟩
              · rcases get_snoc hk with hk | ⟨rfl, rfl⟩
                · exact ht k Rw' hk
                · rw [lt, eZ]
                  exact ⟨lr, by omega, hr'⟩
            · rintro D2 j y σ H8 hy ⟨z14, rfl, rfl⟩ kk2
              refine ⟨eq, ?_⟩
              rw [List.getElem?_map] at hy
              cases hg : (bpl bs (i : Nat))[j]? with
              | none => rw [hg] at hy; cases hy
              | some k' =>
                rw [hg] at hy
                cases hy
                have hk' : k' < bs.length := bpl_lt (List.mem_of_getElem? hg)
                have ez : Z[(srcs ts (i : Nat)).length + j]? = some ((Hd.getD k' []).length : Int) := by
                  rw [hZ, List.getElem?_append_right (by rw [List.length_map]; omega), List.length_map, Nat.add_sub_cancel_left]
                  unfold hsz
                  rw [List.getElem?_map, hg]
                  rfl
                have zn := prod_next ez
                have zv := zpos _ (List.mem_of_getElem? ez)
                have z1 := zt ((srcs ts (i : Nat)).length + j)
                have row := pd_get pd (show k' < ys.length by omega) (show k' < Hd.length by omega)
                have e1 := atI_at (l := ys) (show k' < ys.length by omega)
                have e2 : Hd.getD k' [] = Hd[k']'(by omega) := by rw [List.getD_eq_getElem?_getD, List.getElem?_eq_getElem (by omega)]; rfl
                rw [e2] at zn zv
                generalize Hd[k']'(by omega) = ws' at *
                obtain ⟨r', er, _, er2⟩ := row
                rw [er] at e1
                try simp only [Option.map_some]
                walk_at "rd"
                refine ⟨_, eh6, ?_⟩
                rw [e1]
                try walk_at "rd"
                refine ⟨_, s6 _ _ er2, ?_⟩
                rw [List.length_map]
                exact ⟨.inr ⟨fitS (by omega) (by omega), fitS (by omega) (by omega)⟩, kk2 _ _ ⟨_, by rw [Nat.add_assoc] at zn; rw [zn], rfl⟩⟩
          · rintro D2 j y σ H7 hy ⟨z20, rfl, rfl⟩ kk2
            refine ⟨ep, ?_⟩
            rw [List.getElem?_map] at hy
            cases hg : (srcs ts (i : Nat))[j]? with
            | none => rw [hg] at hy; cases hy
            | some u =>
              rw [hg] at hy
              cases hy
              have hu := srcs_lt (List.mem_of_getElem? hg)
              have ez : Z[j]? = some (ns.getD u.toNat 0) := by
                rw [hZ, List.getElem?_append_left (by rw [List.length_map]; exact (List.getElem?_eq_some_iff.mp hg).1), List.getElem?_map, hg]
                rfl
              have zn := prod_next ez
              have zv := zpos _ (List.mem_of_getElem? ez)
              have z1 := zt j
              have e1 : atI (ns.map PV.int) u = some (.int (ns.getD u.toNat 0)) := atI_int (by omega) (by omega)
              try simp only [Option.map_some]
              walk_at "rd"
              refine ⟨_, es6, ?_⟩
              rw [e1]
              try walk_at "rd"
              exact ⟨.inr ⟨fitS (by omega) (by omega), fitS (by omega) (by omega)⟩, kk2 _ _ ⟨_, by rw [zn], rfl⟩⟩
      · rintro D i σ H3 hi ⟨ys, Hd, z12, z14, z15, rfl, s3, eh, pd, lh, h4, mst⟩ kk
        refine ⟨trivial, ?_⟩
        simp only [vName, List.set_cons_zero, List.set_cons_succ]
        refine seq_abs fun R hR => ?_
        walk_at "rd"
        have ex3 := s3 _ _ ex2
        refine ⟨small_size (by decide), fun p hp => ⟨_, (put_ne (ne_none ex3 hp)).trans ex3, ?_⟩⟩
        have ei : atI (xs.map PV.int) (6 + (i : Nat)) = some (.int (xs.getD (6 + ((i : Nat) : Int)).toNat 0)) := atI_int (by omega) (by rw [hxs]; omega)
        rw [ei]
        try walk_at "rd"
        have fd := fm (a := xs.getD (6 + ((i : Nat) : Int)).toNat 0) (b := 5) (by decide)
        obtain ⟨e, he, e2⟩ := ix5c fd.1 fd.2
        rw [he]
        try walk_at "rd"
        refine ⟨by decide, ?_⟩
        have s4 := s3.put (o := .lst [.int 1, .int 2, .int 2, .int 3, .int 4]) (s3.free hp)
        have eh4 := (put_ne (o := .lst [.int 1, .int 2, .int 2, .int 3, .int 4]) (ne_none eh hp)).trans eh
        have pd4 := RowX.up (fun a u _ e => (put_ne (o := .lst [.int 1, .int 2, .int 2, .int 3, .int 4]) (ne_none e hp)).trans e) pd
        generalize put H3 p (.lst [.int 1, .int 2, .int 2, .int 3, .int 4]) = H4 at *
        have q1 := prod_pos (l := Hd.map fun ws : List Int => (ws.length : Int)) fun n hn => by
          obtain ⟨ws, hws, rfl⟩ := List.mem_map.mp hn
          have := h4 ws hws
          omega
        have q2 : 1 ≤ prod ns * prod (Hd.map fun ws : List Int => (ws.length : Int)) := Int.le_trans p1 (le_mul1 (by omega) q1)
        subst hR
        refine seq_abs fun R hR => ?_
        have go : ∀ wd : Int, 1 ≤ wd ∧ wd ≤ 4 → prod ns * prod (Hd.map fun ws : List Int => (ws.length : Int)) * wd ≤ 300 → R D [some (.fls (is.map PV.int)), some (.int k), some (.tup [.int c, .tup (ts.map prV), .tup (bs.map prV)]), some (.int 300), some (.int c), some (.tup (ts.map prV)), some (.tup (bs.map prV)), some (.ref xa), some (.bl f), some (.ref sa), some (.int (prod ns * prod (Hd.map fun ws : List Int => (ws.length : Int)))), z11, z12, some (.ref hb), some (.int (i : Nat)), some (.int wd), none, none, none, none, none] H4 := by
          intro wd w1 w3
          subst hR
          walk_at "rd"
          refine ⟨.inr ⟨fitS (by omega) (by omega), fitS (by omega) (by omega)⟩, ⟨_, eh4⟩, _, s4 _ _ ex2, ?_⟩
          rw [ei]
          try walk_at "rd"
          have ly := pd_len pd4
          refine ⟨cdvB (by decide) (by decide), w1, fun p' ws hp' hl sh => ⟨ys, (put_ne (ne_none eh4 hp')).trans eh4, small1000 (by omega), kk _ _ ⟨ys ++ [.ref p'], Hd ++ [ws], z12, some (.int (i : Nat)), some (.int wd), ?_, (s4.put (s4.free hp')).put hhb, put_same, ?_, by rw [List.length_append, lh]; rfl, fun w hw => ?_, ?_⟩⟩⟩
          · rw [len_map, hl, ← Int.mul_assoc]
          · have npb : p' ≠ hb := (ne_none eh4 hp').symm
            exact pd_snoc ⟨p', rfl, npb, (put_ne npb).trans put_same⟩ (RowX.up (fun a u n e => (put_ne n).trans ((put_ne (ne_none e hp')).trans e)) pd4)
          · rcases List.mem_append.mp hw with hw | hw
            · exact h4 w hw
            · rw [List.mem_singleton.mp hw]; exact ⟨sh, by omega, by omega⟩
          · rw [len_map, hl, ← Int.mul_assoc]; exact w3
        walk_at "rd"
        refine ⟨.inr ⟨fitS (by omega) (by omega), fitS (by omega) (by omega)⟩, cif_by (fun q => go 1 (by decide) (by omega)) (fun q => go e e2 ?_)⟩
        have := of_decide_eq_false q
        omega
    · rintro D i σ H2 hi ⟨ns, z11, z12, rfl, s2, es, sz⟩ kk
      refine ⟨trivial, ?_⟩
      have ln := sz.ln
      simp only [vName, List.set_cons_zero, List.set_cons_succ]
      refine seq_abs fun R hR => ?_
      walk_at "rd"
      refine ⟨small_size (by decide), fun p hp => ⟨_, (put_ne (ne_none (s2 _ _ ex) hp)).trans (s2 _ _ ex), ?_⟩⟩
      have ei : atI (xs.map PV.int) (i : Nat) = some (.int (xs.getD ((i : Nat) : Int).toNat 0)) := atI_int (by omega) (by rw [hxs]; omega)
      rw [ei]
      try walk_at "rd"
      have fd := fm (a := xs.getD ((i : Nat) : Int).toNat 0) (b := 4) (by decide)
      obtain ⟨e, he, e2⟩ := ix4c fd.1 fd.2
      rw [he]
      try walk_at "rd"
      have s3 := s2.put (o := .lst [.int 2, .int 2, .int 3, .int 4]) (s2.free hp)
      have es3 := (put_ne (o := .lst [.int 2, .int 2, .int 3, .int 4]) (ne_none es hp)).trans es
      generalize put H2 p (.lst [.int 2, .int 2, .int 3, .int 4]) = H3 at *
      subst hR
      walk_at "rd"
      have p1 := prod_pos (l := ns) fun n hn => by have := sz.n4 n hn; omega
      have p2 := sz.le
      have hh := sz.half (i := i) (by omega) e
      have fd2 := fdiv_le (a := prod ns) (b := 2) (by omega) (by decide)
      have mf : CMulN ((prod ns).fdiv 2) e := .inr ⟨fitS fd2.1 (by omega), fitS (by omega) (by omega)⟩
      refine ⟨by decide, cdvB (by decide) (by decide), mf, cdvB (by decide) (by decide), cif_by (fun q => ⟨cdvB (by decide) (by decide), mf, _, i, es3, ?_, kk _ _ ⟨ns.set i e, _, _, by rw [hh], s3.put hsa, by rw [put_same, List.map_set], sz.set e2 ?_⟩⟩) (fun q => kk _ _ ⟨ns, _, _, rfl, s3, es3, sz.up⟩)⟩
      · unfold ixN
        rw [if_pos (by omega), if_pos (by rw [List.length_map]; omega), Int.toNat_natCast]
      · rw [← hh]
        exact of_decide_eq_true q
  · exact h.elim

theorem G_handC {acc : Addr} {Q : VK'} {Rw : List (List Int)} {b : Int} {H : PHp} {σ : St'} (hσ : ∃ z, σ = [z, some (.int b)]) (hacc : H acc = none) (hl : Rw.length ≤ 400)
    (k : ∀ ys H1, U.Sub H H1 → H1 acc = some (.lst ys) → Paired (RowK (fb b) (fun x => H x ≠ none ∨ x = acc) H1) ys Rw → Q (.ref acc) H1) :
    uCompL (fun _ => True) (vName 0) uYes (uOp uIx (uLst (uCons (uCB (arg1 fun x H Q => withS x H fun l => ∀ (p : Addr), H p = none → Q (PV.ref p) (put H p (PO.lst l))) (uCons (uVar 0) uNil)) (uCons (uVar 0) uNil))) (uOp uMod (uVar 1) (uC (PV.int 2)))) acc Q (Rw.map shT) σ (put H acc (.lst [])) := by
  obtain ⟨z, rfl⟩ := hσ
  refine comp_inv (fun i σ H2 => ∃ z ys, σ = [z, some (.int b)] ∧ U.Sub H H2 ∧ H2 acc = some (.lst ys) ∧ Paired (RowK (fb b) (fun x => H x ≠ none ∨ x = acc) H2) ys (Rw.take i)) ?_ ?_ ⟨_, [], rfl, (Sub.refl H).put hacc, put_same, .nil⟩
  · rintro i y σ H2 R hy ⟨z, ys, rfl, s2, ha, pd⟩ kk
    refine ⟨trivial, ?_⟩
    rw [List.getElem?_map] at hy
    cases hg : Rw[i]? with
    | none => rw [hg] at hy; cases hy
    | some ws =>
      rw [hg] at hy
      cases hy
      have hi := (List.getElem?_eq_some_iff.mp hg).1
      have ly := pd_len pd
      rw [List.length_take] at ly
      have et : Rw.take (i + 1) = Rw.take i ++ [ws] := by rw [List.take_add_one, hg]; rfl
      have sw : shT ws = .tup (shs ws) := rfl
      try simp only [Option.map_some]
      rw [sw]
      walk_at "rd"
      intro p hp
      refine ⟨small_size (by decide), fun p2 hp2 => ?_⟩
      have q2 := ((Sub.refl H2).put (o := .lst (shs ws)) hp).free hp2
      have npa := (ne_none ha hp).symm
      have nqa := (ne_none ha q2).symm
      have npq : p ≠ p2 := fun e => by subst e; rw [put_same] at hp2; cases hp2
      have up : ∀ a u, H2 a = some u → put (put H2 p (.lst (shs ws))) p2 (.lst [.ref p, .tup (shs ws)]) a = some u := fun a u e => (put_ne (ne_none e q2)).trans ((put_ne (ne_none e hp)).trans e)
      have ep : put (put H2 p (.lst (shs ws))) p2 (.lst [.ref p, .tup (shs ws)]) p = some (.lst (shs ws)) := (put_ne npq).trans put_same
      generalize put (put H2 p (.lst (shs ws))) p2 (.lst [.ref p, .tup (shs ws)]) = H3 at *
      have s3 : U.Sub H H3 := fun a u e => up _ _ (s2 _ _ e)
      refine ⟨by decide, ?_⟩
      have fd := fm (a := b) (b := 2) (by decide)
      have stp : ∀ y, RowK (fb b) (fun x => H x ≠ none ∨ x = acc) (put H3 acc (.lst (ys ++ [y]))) y ws → R [some (.tup (shs ws)), some (.int b)] (put H3 acc (.lst (ys ++ [y]))) := fun y q => by
        refine kk _ _ ⟨_, ys ++ [y], rfl, s3.put hacc, put_same, ?_⟩
        rw [et]
        refine pd_snoc q (RowK.imp (fun r u n e => ⟨n, (put_ne fun e => n (.inr e)).trans (up _ _ e)⟩) pd)
      rcases (show b.fmod 2 = 0 ∨ b.fmod 2 = 1 by omega) with e | e
      · rw [e]
        show withO (some (PV.ref p)) _
        try walk_at "rd"
        refine ⟨ys, up _ _ ha, small1000 (by omega), stp _ (.inr ⟨by unfold fb; rw [e]; rfl, p, rfl, fun n => ?_, (put_ne npa).trans ep⟩)⟩
        rcases n with n | n
        · exact n (s2.free hp)
        · exact npa n
      · rw [e]
        show withO (some (PV.tup (shs ws))) _
        try walk_at "rd"
        exact ⟨ys, up _ _ ha, small1000 (by omega), stp _ (.inl ⟨by unfold fb; rw [e]; rfl, rfl⟩)⟩
  · rintro σ H2 ⟨z, ys, rfl, s2, ha, pd⟩
    refine ⟨trivial, k ys H2 s2 ha ?_⟩
    rw [List.length_map, List.take_length] at pd
    exact pd

theorem G_law_handed (T : Tx K mg t) : FnOk' P w K mg base CX0 1 t.a_law_handed t.d_law_handed ["_law_told", "_law_bits"] sp_handed := by
  refine okU (k := 0) T.F_law_handed sc_law_handed (fun vs H Q E h => by
    unfold sp_handed at h
    split at h
    · rfl
    · exact h.elim) (fun cdv A outer s H E B hr => ⟨_, (qss_cons (qs_asg (qv 0) (qg_tup (n := 3) rfl (qgs_cons (qg_name (i := 2) sc_law_handed.nd rfl (by first | exact Or.inl rfl | exact Or.inr rfl)) (qgs_cons (qg_name (i := 3) sc_law_handed.nd rfl (by first | exact Or.inl rfl | exact Or.inr rfl)) (qgs_cons (qg_name (i := 4) sc_law_handed.nd rfl (by first | exact Or.inl rfl | exact Or.inr rfl)) qgs_nil)))))
    (qss_cons (qs_set (i := 5) sc_law_handed.nd rfl (by first | exact Or.inl rfl | exact Or.inr rfl) (qe_lst qa_nil))
    (qss_cons (qs_for PassesOwn.never rfl (qi_seq (qv 4)) (qg_name (i := 6) sc_law_handed.nd rfl (by first | exact Or.inl rfl | exact Or.inr rfl))
    (qss_cons (qs_expr (qe_bm PySem.F.slot_list_append PySem.F.type_list_append mt_append vm_append (qv 5) (qa_cons (qe_comp (N2 := ["_law_row", "_law_bits"]) (nt := 1) (js := [1]) (cok (sc := defScope s_law_handed) (by exact rfl) (by repeat (first | exact trivial | refine ⟨rfl, ?_⟩)) rfl (by rfl) (by decide +kernel) (by decide +kernel) (by rfl) (by decide +kernel) (by rfl) (by rfl)) rfl (qi_seq (qv 6)) (fun s0 H0 fp ps => ⟨(qg_name (i := 0) (show List.Nodup (["_law_row", "_law_bits"] : List Str) by decide +kernel) rfl (by first | exact Or.inl rfl | exact Or.inr rfl)), qif_nil, (qe_ix (qe_lst (qa_cons (qe_callTy call_list_of vc_list rfl T.b_list boot_list (qa_cons (qv 0) qa_nil)) (qa_cons (qv 0) qa_nil))) (qe_mod (qv 1) qe_int) (fun _ _ => rfl))⟩)) qa_nil)))
      (qss_cons (qs_if (qt_cmp (op_eqU hr.units) vr_eq (qe_mod (qe_fdiv (qv 1) qe_int) qe_int) qe_int (nomark _))
      (qss_one (qs_asg (qe_callTy call_tuple_of vc_tuple rfl T.b_tuple boot_tuple (qa_cons (qe_ix (qv 5) (qe_neg qe_int) (fun _ _ => rfl)) qa_nil)) (qg_sub (qv 5) (qe_neg qe_int))))
      qss_nil)
      (qss_one (qs_set (i := 1) sc_law_handed.nd rfl (by first | exact Or.inl rfl | exact Or.inr rfl) (qe_fdiv (qv 1) qe_int))))))
    (qss_one (qs_ret (qe_lst (qa_cons (qe_callTy call_list_of vc_list rfl T.b_list boot_list (qa_cons (qv 2) qa_nil)) (qa_cons (qe_comp (N2 := ["_law_row", "_law_bits"]) (nt := 1) (js := [1]) (cok (sc := defScope s_law_handed) (by exact rfl) (by repeat (first | exact trivial | refine ⟨rfl, ?_⟩)) rfl (by rfl) (by decide +kernel) (by decide +kernel) (by rfl) (by decide +kernel) (by rfl) (by rfl)) rfl (qi_seq (qv 3)) (fun s0 H0 fp ps => ⟨(qg_name (i := 0) (show List.Nodup (["_law_row", "_law_bits"] : List Str) by decide +kernel) rfl (by first | exact Or.inl rfl | exact Or.inr rfl)), qif_nil, (qe_ix (qe_lst (qa_cons (qe_callTy call_list_of vc_list rfl T.b_list boot_list (qa_cons (qv 0) qa_nil)) (qa_cons (qv 0) qa_nil))) (qe_mod (qv 1) qe_int) (fun _ _ => rfl))⟩)) (qa_cons (qv 5) qa_nil))))))))), ?_⟩)
  intro vs H Q E h
  unfold sp_handed at h
  split at h
  · rename_i a b c bits
    obtain ⟨ns, Hd, Tb, rfl, rfl, rfl, ⟨l1, l2, l3⟩, h⟩ := h
    refine seq_abs fun R hR => ?_
    walk_at "rd"
    subst hR
    refine seq_abs fun R hR => ?_
    walk_at "rd"
    refine ⟨small_size (by decide), fun d hd => ?_⟩
    subst hR
    refine seq_abs fun R hR => ?_
    walk_at "rd"
    have m0 : ∀ x, ¬ (x = d ∨ H x ≠ none) → H x = none := fun x n => Classical.byContradiction fun e => n (.inr e)
    have m1 : ∀ x, (x = d ∨ H x ≠ none) → put H d (.lst []) x ≠ none := fun x e => by
      by_cases q : x = d
      · rw [q, put_same]; simp
      · rw [put_ne q]; exact e.elim (fun e => absurd e q) id
    refine for_atD (fun j σ H2 => ∃ N zs z6, σ = [some (.tup [.tup (ns.map PV.int), .tup (Hd.map shT), .tup (Tb.map tbT)]), some (.int (bj bits j)), some (.tup (ns.map PV.int)), some (.tup (Hd.map shT)), some (.tup (Tb.map tbT)), some (.ref d), z6] ∧ U.Sub H H2 ∧ H2 d = some (.lst zs) ∧ zs.length = j ∧ (∀ x, ¬ N x → H x = none) ∧ (∀ t, PV.ref t ∈ zs → H t = none) ∧ Hnd bits N d H2 zs Tb) ?_ ?_ ⟨fun x => x = d ∨ H x ≠ none, [], _, rfl, (Sub.refl H).put hd, put_same, rfl, m0, (fun t q => (by cases q)), .inl rfl, m1, fun i z Rw e => by cases e⟩
    · rintro σ H2 ⟨N, zs, z6, rfl, s2, ed, lz, nN, nT, hn⟩
      refine ⟨trivial, ?_⟩
      rw [List.length_map] at *
      subst hR
      walk_at "rd"
      intro a ha b hb
      have s3 := s2.put (o := .lst (ns.map PV.int)) (s2.free ha)
      have ea : put H2 a (.lst (ns.map PV.int)) a = some (.lst (ns.map PV.int)) := put_same
      have up3 : ∀ x u, H2 x = some u → put H2 a (.lst (ns.map PV.int)) x = some u := fun x u e => (put_ne (ne_none e ha)).trans e
      generalize put H2 a (.lst (ns.map PV.int)) = H3 at *
      refine G_handC ⟨_, rfl⟩ hb (by omega) fun ys H4 s4 eb pd => ⟨small_size (by decide), fun r0 hr0 => ⟨_, Sub.refl _, ?_⟩⟩
      have up : ∀ x u, H2 x = some u → put H4 r0 (.lst [.ref a, .ref b, .ref d]) x = some u := fun x u e => (put_ne (ne_none (s4 _ _ (up3 _ _ e)) hr0)).trans (s4 _ _ (up3 _ _ e))
      have s5 := (s3.trans s4).put (o := .lst [.ref a, .ref b, .ref d]) ((s3.trans s4).free hr0)
      have ea4 := s4 _ _ ea
      have ed4 := s4 _ _ (up3 _ _ ed)
      refine h r0 a b d (fun x => N x ∨ x = r0) ys zs _ s5 put_same ⟨ne_none ea4 hr0, ne_none eb hr0, ne_none ed4 hr0⟩ ⟨s2.free ha, s3.free hb, hd⟩ (fun x n => nN x fun q => n (.inl q)) (.inr rfl) ((put_ne (ne_none ea4 hr0)).trans ea4) ((put_ne (ne_none eb hr0)).trans eb) ((put_ne (ne_none ed4 hr0)).trans ed4) (RowK.imp (fun r u n e => ⟨fun z => z.elim, (put_ne (ne_none e hr0)).trans e⟩) pd) lz ?_ ⟨.inl hn.nd, ?_, ?_⟩
      · intro t ht
        obtain ⟨i, hi, e⟩ := List.getElem_of_mem ht
        obtain ⟨ys', _, q⟩ := hn.tb i _ (Tb[i]'(by omega)) (List.getElem?_eq_getElem hi) (List.getElem?_eq_getElem (by omega))
        rw [e] at q
        rcases q with ⟨_, q⟩ | ⟨_, t', q, _, _, e2⟩
        · cases q
        · cases q
          exact ⟨ne_none (s4 _ _ (up3 _ _ e2)) hr0, nT _ ht⟩
      · rintro x (nx | rfl)
        · intro e
          cases hx : H2 x with
          | none => exact hn.ls x nx hx
          | some u => rw [up _ _ hx] at e; cases e
        · rw [put_same]; simp
      · intro i z Rw e1 e2
        exact TabK.imp (fun r u n e => ⟨fun q => q.elim n fun q => ne_none (s4 _ _ (up3 _ _ e)) hr0 q, up _ _ e⟩) (fun r u _ nr e => ⟨.inl nr, up _ _ e⟩) (hn.tb i z Rw e1 e2)
    · rintro D j y σ H2 hy ⟨N, zs, z6, rfl, s2, ed, lz, nN, nT, hn⟩ kk
      refine ⟨trivial, ?_⟩
      simp only [vName, List.set_cons_zero, List.set_cons_succ]
      refine seq_abs fun R hR => ?_
      rw [List.getElem?_map] at hy
      cases hg : Tb[j]? with
      | none => rw [hg] at hy; cases hy
      | some Rw =>
        rw [hg] at hy
        cases hy
        have r4 := l3 Rw (List.mem_of_getElem? hg)
        have hj := (List.getElem?_eq_some_iff.mp hg).1
        have tbe : tbT Rw = .tup (Rw.map shT) := rfl
        try simp only [Option.map_some]
        rw [tbe]
        walk_at "rd"
        refine ⟨⟨_, ed⟩, fun acc hacc => ?_⟩
        refine G_handC ⟨_, rfl⟩ hacc r4 fun ys H3 s3 ea pd => ?_
        refine ⟨zs, s3 _ _ ed, small1000 (by omega), ?_⟩
        have nda : d ≠ acc := ne_none ed hacc
        have ed4 : put H3 d (.lst (zs ++ [.ref acc])) d = some (.lst (zs ++ [.ref acc])) := put_same
        have ea4 := (put_ne (o := .lst (zs ++ [.ref acc])) nda.symm).trans ea
        have up : ∀ x u, x ≠ d → H3 x = some u → put H3 d (.lst (zs ++ [.ref acc])) x = some u := fun x u n e => (put_ne n).trans e
        have s4 := (s2.trans s3).put (o := .lst (zs ++ [.ref acc])) hd
        generalize put H3 d (.lst (zs ++ [.ref acc])) = H4 at *
        subst hR
        refine seq_abs fun R hR => ?_
        have go : ∀ z H5, U.Sub H H5 → (∀ x u, x ≠ d → H4 x = some u → H5 x = some u) → H5 d = some (.lst (zs ++ [z])) → (gb (bj bits j) = true ∧ z = .tup ys ∨ gb (bj bits j) = false ∧ z = .ref acc) → R D [some (.tup [.tup (ns.map PV.int), .tup (Hd.map shT), .tup (Tb.map tbT)]), some (.int (bj bits j)), some (.tup (ns.map PV.int)), some (.tup (Hd.map shT)), some (.tup (Tb.map tbT)), some (.ref d), some (.tup (Rw.map shT))] H5 := by
          intro z H5 s5 k5 ed5 hz
          subst hR
          walk_at "rd"
          have rn : ∀ r u, ¬ (H2 r ≠ none ∨ r = acc) → H3 r = some u → ¬ (N r ∨ r = acc) ∧ H5 r = some u := fun r u n e => by
            have nd : r ≠ d := fun q => n (.inl (by rw [q, ed]; simp))
            exact ⟨fun q => q.elim (fun q => n (.inl (hn.ls r q))) fun q => n (.inr q), k5 _ _ nd (up _ _ nd e)⟩
          refine ⟨cdvB (by decide) (by decide), kk _ _ ⟨fun x => N x ∨ x = acc, zs ++ [z], _, rfl, s5, ed5, by rw [List.length_append, lz]; rfl, fun x n => nN x fun q => n (.inl q), fun t ht => ?_, .inl hn.nd, ?_, ?_⟩⟩
          · rcases List.mem_append.mp ht with ht | ht
            · exact nT t ht
            · have e := List.mem_singleton.mp ht
              rcases hz with ⟨_, e'⟩ | ⟨_, e'⟩
              · rw [← e] at e'; cases e'
              · rw [← e] at e'; cases e'; exact s2.free hacc
          · rintro x (nx | rfl)
            · by_cases xd : x = d
              · rw [xd, ed5]; simp
              · cases hx : H2 x with
                | none => exact absurd hx (hn.ls x nx)
                | some u => rw [k5 _ _ xd (up _ _ xd (s3 _ _ hx))]; simp
            · rw [k5 _ _ nda.symm ea4]; simp
          · intro i z' Rw' e1 e2
            rcases get_snoc e1 with e1 | ⟨rfl, rfl⟩
            · refine TabK.imp (fun r u n e => ?_) (fun r u nd nr e => ⟨.inl nr, k5 _ _ nd (up _ _ nd (s3 _ _ e))⟩) (hn.tb i z' Rw' e1 e2)
              have nd : r ≠ d := fun q => n (by rw [q]; exact hn.nd)
              exact ⟨fun q => q.elim n fun q => ne_none e hacc q, k5 _ _ nd (up _ _ nd (s3 _ _ e))⟩
            · rw [lz, hg] at e2
              cases e2
              rw [lz]
              refine ⟨ys, RowK.imp rn pd, ?_⟩
              rcases hz with ⟨e, e'⟩ | ⟨e, e'⟩
              · exact .inl ⟨e, e'⟩
              · exact .inr ⟨e, acc, e', nda.symm, .inr rfl, k5 _ _ nda.symm ea4⟩
        walk_at "rd"
        refine ⟨cdvB (by decide) (by decide), by decide, cif_by (fun q => ⟨_, ed4, ?_⟩) (fun q => go (.ref acc) H4 s4 (fun x u _ e => e) ed4 (.inr ⟨decide_eq_false (by simpa using q), rfl⟩))⟩
        rw [at_last]
        try walk_at "rd"
        refine ⟨_, ea4, _, _, ed4, ix_last, ?_⟩
        rw [set_last]
        exact go (.tup ys) _ (s4.put hd) (fun x u n e => (put_ne n).trans e) put_same (.inl ⟨decide_eq_true (by simpa using q), rfl⟩)
  · exact h.elim

theorem G_law_right (T : Tx K mg t) : FnOk' P w K mg base CX0 7 t.a_law_right t.d_law_right ["_law_world_here", "_law_shape", "_law_told"] (sp_right t) := by
  refine okU (k := 6) T.F_law_right sc_law_right (fun vs H Q E h => by
    unfold sp_right at h
    split at h
    · rfl
    · exact h.elim) (fun cdv A outer s H E B hr => ⟨_, (qss_cons (qs_if (qt_not (qt_val (qe_call (G_law_same T 5) (hr.mono (by decide)) rfl T.g_law_same T.F_law_same.kp T.B_law_same (qa_cons (qe_meth0 (qe_fld (qv 0) T.cl_World T.nf_World_drawing rfl) T.cl_Drawing T.m_Drawing_shape (G_Drawing_shape T) (hr.mono (by decide)) T.B_Drawing_shape) (qa_cons (qv 1) qa_nil)))))
    (qss_one (qs_ret qe_bl))
    qss_nil)
    (qss_one (qs_ret (qe_call (G_law_same T 5) (hr.mono (by decide)) rfl T.g_law_same T.F_law_same.kp T.B_law_same (qa_cons (qe_tup (qa_cons (qe_fld (qv 0) T.cl_World T.nf_World_sizes rfl) (qa_cons (qe_fld (qv 0) T.cl_World T.nf_World_hidden rfl) (qa_cons (qe_fld (qv 0) T.cl_World T.nf_World_tables rfl) qa_nil)))) (qa_cons (qv 2) qa_nil)))))), ?_⟩)
  intro vs H Q E h
  unfold sp_right at h
  split at h
  · rename_i x u v
    obtain ⟨c, ts, bs, ns, Hd, Tb, ⟨dx, y, dy, w, hx, hy⟩, rfl, rfl, hs, hw, h⟩ := h
    have t15 := hs.gt.len hs.hc.2
    have c6 := hs.hc
    have ln := hw.ln
    have lt := hw.lt
    have lh := hw.lh
    have b6 := hs.l6
    unfold shpV toldV
    refine seq_abs fun R hR => ?_
    walk_at "rd"
    refine ⟨dx, _, _, hx, rfl, ?_⟩
    try walk_at "rd"
    refine ⟨⟨dy, _, hy, rfl⟩, dy, c, ts, bs, hy, same3 same_int (same_prs (n := 2) (by omega)) (same_prs (n := 2) (by omega)), ?_⟩
    subst hR
    walk_at "rd"
    exact ⟨dx, _, _, hx, rfl, dx, _, _, hx, rfl, dx, _, _, hx, rfl, small_size (by decide), same_told hs hw, H, Sub.refl _, h⟩
  · exact h.elim

theorem G_law (T : Tx K mg t) : FnOk' P w K mg base CX0 9 t.a_law t.d_law ["_law_script"] spL := by
  refine okU (k := 8) T.F_law sc_law (fun vs H Q E h => by
    unfold spL at h
    split at h
    · rfl
    · exact h.elim) (fun cdv A outer s H E B hr => ⟨_, (qss_cons (qs_set (i := 1) sc_law.nd rfl (by first | exact Or.inl rfl | exact Or.inr rfl) (qe_call (G_law_drawn T) (hr.mono (by decide)) rfl T.g_law_drawn T.F_law_drawn.kp T.B_law_drawn (qa_cons (qv 0) qa_nil)))
    (qss_cons (qs_set (i := 2) sc_law.nd rfl (by first | exact Or.inl rfl | exact Or.inr rfl) (qe_call (G_law_told_world T) (hr.mono (by decide)) rfl T.g_law_told_world T.F_law_told_world.kp T.B_law_told_world (qa_cons (qe_call (G_law_world T) (hr.mono (by decide)) rfl T.g_law_world T.F_law_world.kp T.B_law_world (qa_cons (qv 0) (qa_cons qe_int (qa_cons (qv 1) (qa_cons qe_int qa_nil))))) qa_nil)))
    (qss_cons (qs_set (i := 3) sc_law.nd rfl (by first | exact Or.inl rfl | exact Or.inr rfl) (qe_call (G_law_cell_at T) (hr.mono (by decide)) rfl T.g_law_cell_at T.F_law_cell_at.kp T.B_law_cell_at (qa_cons (qv 0) (qa_cons qe_int qa_nil))))
    (qss_cons (qs_set (i := 4) sc_law.nd rfl (by first | exact Or.inl rfl | exact Or.inr rfl) (qe_call (G_law_handed T) (hr.mono (by decide)) rfl T.g_law_handed T.F_law_handed.kp T.B_law_handed (qa_cons (qv 2) (qa_cons (qv 3) qa_nil))))
    (qss_cons (qs_set (i := 5) sc_law.nd rfl (by first | exact Or.inl rfl | exact Or.inr rfl) (qe_make T.mk_Drawing (G_Drawing_init T) (hr.mono (by decide)) rfl T.g_Drawing T.B_Drawing_init (qa_cons (qe_ix (qv 1) qe_int (fun _ _ => rfl)) (qa_cons (qe_callTy call_list_of vc_list rfl T.b_list boot_list (qa_cons (qe_ix (qv 1) qe_int (fun _ _ => rfl)) qa_nil)) (qa_cons (qe_callTy call_list_of vc_list rfl T.b_list boot_list (qa_cons (qe_ix (qv 1) qe_int (fun _ _ => rfl)) qa_nil)) qa_nil)))))
    (qss_cons (qs_set (i := 6) sc_law.nd rfl (by first | exact Or.inl rfl | exact Or.inr rfl) (qe_make T.mk_World (G_World_init T) (hr.mono (by decide)) rfl T.g_World T.B_World_init (qa_cons (qv 5) (qa_cons (qe_ix (qv 4) qe_int (fun _ _ => rfl)) (qa_cons (qe_ix (qv 4) qe_int (fun _ _ => rfl)) (qa_cons (qe_ix (qv 4) qe_int (fun _ _ => rfl)) qa_nil))))))
    (qss_cons (qs_if (qt_bool (qw_or (qt_not (qt_val (qe_call (G_law_same T 5) (hr.mono (by decide)) rfl T.g_law_same T.F_law_same.kp T.B_law_same (qa_cons (qv 4) (qa_cons (qe_call (G_law_handed T) (hr.mono (by decide)) rfl T.g_law_handed T.F_law_handed.kp T.B_law_handed (qa_cons (qv 2) (qa_cons (qv 3) qa_nil))) qa_nil))))) (qw_or1 (qt_not (qt_val (qe_call (G_law_right T) (hr.mono (by decide)) rfl T.g_law_right T.F_law_right.kp T.B_law_right (qa_cons (qv 6) (qa_cons (qv 1) (qa_cons (qv 2) qa_nil)))))))))
    (qss_one (qs_ret qe_bl))
    qss_nil)
    (qss_cons (qs_for PassesOwn.never rfl (qi_seq (qe_ix (qv 4) qe_int (fun _ _ => rfl))) (qg_name (i := 7) sc_law.nd rfl (by first | exact Or.inl rfl | exact Or.inr rfl))
    (qss_cons (qs_for PassesOwn.never rfl (qi_seq (qv 7)) (qg_name (i := 8) sc_law.nd rfl (by first | exact Or.inl rfl | exact Or.inr rfl))
      (qss_one (qs_if (qt_val (qe_callB (call_isiB .list) (vc_isi .list) rfl T.b_isinstance boot_isinstance (qa_cons (qv 8) (qa_cons (qe_bty rfl T.b_list boot_list) qa_nil))))
        (qss_one (qs_expr (qe_bm0 PySem.F.slot_list_reverse PySem.F.type_list_reverse mt_reverse vm_reverse hl_reverse (qv 8))))
        qss_nil)))
      (qss_one (qs_if (qt_val (qe_callB (call_isiB .list) (vc_isi .list) rfl T.b_isinstance boot_isinstance (qa_cons (qv 7) (qa_cons (qe_bty rfl T.b_list boot_list) qa_nil))))
      (qss_one (qs_expr (qe_bm0 PySem.F.slot_list_clear PySem.F.type_list_clear mt_clear vm_clear hl_clear (qv 7))))
      qss_nil))))
    (qss_cons (qs_for PassesOwn.never rfl (qi_seq (qv 4)) (qg_name (i := 9) sc_law.nd rfl (by first | exact Or.inl rfl | exact Or.inr rfl))
    (qss_one (qs_expr (qe_bm0 PySem.F.slot_list_clear PySem.F.type_list_clear mt_clear vm_clear hl_clear (qv 9)))))
    (qss_cons (qs_set (i := 10) sc_law.nd rfl (by first | exact Or.inl rfl | exact Or.inr rfl) (qe_make T.mk_World (G_World_init T) (hr.mono (by decide)) rfl T.g_World T.B_World_init (qa_cons (qe_fld (qv 6) T.cl_World T.nf_World_drawing rfl) (qa_cons (qe_callTy call_list_of vc_list rfl T.b_list boot_list (qa_cons (qe_fld (qv 6) T.cl_World T.nf_World_sizes rfl) qa_nil)) (qa_cons (qe_callTy call_list_of vc_list rfl T.b_list boot_list (qa_cons (qe_fld (qv 6) T.cl_World T.nf_World_hidden rfl) qa_nil)) (qa_cons (qe_callTy call_list_of vc_list rfl T.b_list boot_list (qa_cons (qe_fld (qv 6) T.cl_World T.nf_World_tables rfl) qa_nil)) qa_nil))))))
    (qss_one (qs_ret (qe_and (qe_call (G_law_right T) (hr.mono (by decide)) rfl T.g_law_right T.F_law_right.kp T.B_law_right (qa_cons (qv 6) (qa_cons (qv 1) (qa_cons (qv 2) qa_nil)))) (qe_one (qe_call (G_law_right T) (hr.mono (by decide)) rfl T.g_law_right T.F_law_right.kp T.B_law_right (qa_cons (qv 10) (qa_cons (qv 1) (qa_cons (qv 2) qa_nil)))))))))))))))))), ?_⟩)
  intro vs H Q E h
  unfold spL at h
  split at h
  · rename_i l
    obtain ⟨is, rfl, hl, h⟩ := h
    refine seq_abs fun R hR => ?_
    walk_at "rd"
    refine ⟨is, rfl, fun c ts bs hs => ?_⟩
    have t15 := hs.gt.len hs.hc.2
    have c6 := hs.hc
    have b6 := hs.l6
    try walk_at "rd"
    subst hR
    refine seq_abs fun R hR => ?_
    walk_at "rd"
    refine ⟨is, ts, bs, rfl, rfl, rfl, ⟨by decide, by decide⟩, hs, fun a b d ns Hd Tb ys zs H1 s1 ea eb ed ry rz hw => ?_⟩
    have ln := hw.ln
    have lt := hw.lt
    have lh := hw.lh
    have t4 : ∀ Rw ∈ Tb, Rw.length ≤ 400 ∧ ∀ ws ∈ Rw, Shr ws := fun Rw hR => by
      obtain ⟨k, hk, rfl⟩ := List.getElem_of_mem hR
      have tb := hw.tb k _ (List.getElem?_eq_getElem hk)
      exact ⟨tb.2.1, fun ws hws => (tb.2.2 ws hws).1⟩
    try walk_at "rd"
    refine ⟨ns, Hd, Tb, ys, zs, ea, eb, ed, ry, rz, ⟨fun ws hws => (hw.h4 ws hws).1, by omega⟩, ⟨t4, by omega⟩, ?_⟩
    try walk_at "rd"
    clear ry rz ea eb ed
    subst hR
    refine seq_abs fun R hR => ?_
    walk_at "rd"
    refine ⟨⟨by decide, by decide⟩, is, rfl, ?_⟩
    try walk_at "rd"
    generalize is.getD _ 0 = bits
    subst hR
    refine seq_abs fun R hR => ?_
    walk_at "rd"
    refine ⟨ns, Hd, Tb, rfl, rfl, rfl, ⟨by omega, by omega, fun Rw hR => (t4 Rw hR).1⟩, fun r0 a b d N ys zs H2 s2 er ner fre nN nr0 ea eb ed rk lz n0 hn => ?_⟩
    try walk_at "rd"
    subst hR
    refine seq_abs fun R hR => ?_
    walk_at "rd"
    intro p hp p1 hp1 x0 dx0 hx0 hdx0 ne0
    have s3 := (s2.put (o := .lst (ts.map prV)) (s2.free hp))
    have up3 : U.Sub H2 (put H2 p (.lst (ts.map prV))) := (Sub.refl H2).put hp
    have ep : put H2 p (.lst (ts.map prV)) p = some (.lst (ts.map prV)) := put_same
    generalize put H2 p (.lst (ts.map prV)) = H3 at *
    have up4 := up3.put (o := .lst (bs.map prV)) (up3.free hp1)
    have ep4 := (put_ne (o := .lst (bs.map prV)) (ne_none ep hp1)).trans ep
    have eq4 : put H3 p1 (.lst (bs.map prV)) p1 = some (.lst (bs.map prV)) := put_same
    generalize put H3 p1 (.lst (bs.map prV)) = H4 at *
    refine ⟨dx0, _, _, ts, bs, rfl, .inr ⟨p, rfl, (put_ne (ne_none ep4 hx0)).trans ep4⟩, .inr ⟨p1, rfl, (put_ne (ne_none eq4 hx0)).trans eq4⟩, rows_prV, rows_prV, hs.gt, hs.gb, ⟨c6.1, c6.2, b6⟩, fun ts' bs' pt st pb sb => ?_⟩
    obtain rfl : ts' = ts := DM.perm_eq pt st (List.Perm.refl _) hs.st
    obtain rfl : bs' = bs := DM.perm_eq pb sb (List.Perm.refl _) hs.sb
    try walk_at "rd"
    rw [put_put]
    have up5 := up4.put (o := .ins t.a_Drawing dx0 (DF c ts' bs')) (up4.free hx0)
    have ex0 : put H4 x0 (.ins t.a_Drawing dx0 (DF c ts' bs')) x0 = some (.ins t.a_Drawing dx0 (DF c ts' bs')) := put_same
    generalize put H4 x0 (.ins t.a_Drawing dx0 (DF c ts' bs')) = H5 at *
    have s5 : U.Sub H1 H5 := s2.trans up5
    subst hR
    refine seq_abs fun R hR => ?_
    walk_at "rd"
    refine ⟨_, up5 _ _ er, ?_⟩
    try walk_at "rd"
    refine ⟨_, up5 _ _ er, ?_⟩
    try walk_at "rd"
    refine ⟨_, up5 _ _ er, ?_⟩
    try walk_at "rd"
    intro x dx hx hdx ne
    have up6 := (Sub.refl H5).put (o := .ins t.a_World dx []) hx
    have up26 := up5.trans up6
    refine ⟨dx, dx0, c, ts', bs', ns, Hd, Tb, ys, zs, rfl, up6 _ _ ex0, up26 _ _ ea, up26 _ _ eb, up26 _ _ ed, rowQ_of (RowK.imp (fun r u n e => ⟨n, up26 _ _ e⟩) rk), pd_of lz fun i z Rw e1 e2 => tabQ_of ((hn.up up26).tb i z Rw e1 e2), hs, hw, fun y dy w H7 k7 ex ey hy => ?_⟩
    have up7 : U.Sub H2 H7 := fun a u e => k7 a u (ne_none (up5 _ _ e) hx) (up26 _ _ e)
    clear k7 up6 up26 hy
    try walk_at "rd"
    subst hR
    refine seq_abs fun R hR => ?_
    walk_at "rd"
    refine ⟨ns, Hd, Tb, rfl, rfl, rfl, ⟨by omega, by omega, fun Rw hR => (t4 Rw hR).1⟩, fun r1 a1 b1 d1 N1 ys1 zs1 H8 s8 er1 _ _ _ _ ea1 eb1 ed1 rk1 lz1 _ hn1 => ?_⟩
    have up8 := up7.trans s8
    have s18 := s2.trans up8
    have ll := pd_len rk
    have rk8 := RowK.imp (N' := fun _ => False) (fun r u n e => ⟨n, up8 _ _ e⟩) rk
    have hn8 := hn.up up8
    have sm : Same H8 5 (.ref r0) (.ref r1) := by
      refine ⟨_, _, up8 _ _ er, er1, by simp, .cons ⟨_, _, up8 _ _ ea, ea1, by rw [List.length_map]; omega, pd_refl fun v hv => ?_⟩ (.cons ⟨_, _, up8 _ _ eb, eb1, by omega, same_rowK (n := 1) (fun ws hws => (hw.h4 ws hws).1) rk8 rk1⟩ (.cons ⟨_, _, up8 _ _ ed, ed1, by omega, pd_of (by omega) fun i z z' e e' => ?_⟩ .nil))⟩
      · obtain ⟨n, _, rfl⟩ := List.mem_map.mp hv
        exact same_int
      · have hi := (List.getElem?_eq_some_iff.mp e).1
        have hg : Tb[i]? = some (Tb[i]'(by omega)) := List.getElem?_eq_getElem (by omega)
        have q4 := t4 _ (List.mem_of_getElem? hg)
        exact same_tabK (n := 0) (by omega) q4.2 (hn8.tb i z _ e hg) (hn1.tb i z' _ e' hg)
    try walk_at "rd"
    have wr8 : Wr t H8 x c ts' bs' ns Hd Tb := ⟨dx, y, dy, w, s8 _ _ ex, s8 _ _ ey⟩
    refine ⟨sm, c, ts', bs', ns, Hd, Tb, wr8, rfl, rfl, hs, hw, ?_⟩
    try walk_at "rd"
    have ty8 := Ty.of hn8 lz n0
    have er8 := up8 _ _ er
    have ea8 := up8 _ _ ea
    have eb8 := up8 _ _ eb
    have ed8 := up8 _ _ ed
    have ndd := hn.nd
    clear hn hn8 hn1 rk rk1 rk8 sm er1 ea1 eb1 ed1 s8 up8 up7 up5 up4 up3 ep4 eq4 ep ex0 er ea eb ed ex ey
    subst hR
    refine seq_abs fun R hR => ?_
    walk_at "rd"
    refine ⟨_, er8, ?_⟩
    try walk_at "rd"
    refine ⟨_, ed8, ?_⟩
    refine for_atD (fun i σ H9 => ∃ z7 z8, σ = [some (.fls (is.map PV.int)), some (.tup [.int c, .tup (ts'.map prV), .tup (bs'.map prV)]), some (.tup [.tup (ns.map PV.int), .tup (Hd.map shT), .tup (Tb.map tbT)]), some (.int bits), some (.ref r0), some (.ref x0), some (.ref x), z7, z8, none, none] ∧ Mt H8 H9 ∧ U.Sub H1 H9 ∧ H9 d = some (.lst zs) ∧ H9 r0 = some (.lst [.ref a, .ref b, .ref d]) ∧ Ty N d r0 H1 H9 zs) ?_ ?_ ⟨_, _, rfl, Mt.refl _, s18, ed8, er8, ty8⟩
    · rintro σ H9 ⟨z7, z8, rfl, mt, s19, ed9, er9, ty9⟩
      refine ⟨ed9, ?_⟩
      subst hR
      dsimp only
      refine seq_abs fun R hR => ?_
      walk_at "rd"
      refine ⟨_, er9, ?_⟩
      refine for_atD (fun i σ H10 => ∃ z9, σ = [some (.fls (is.map PV.int)), some (.tup [.int c, .tup (ts'.map prV), .tup (bs'.map prV)]), some (.tup [.tup (ns.map PV.int), .tup (Hd.map shT), .tup (Tb.map tbT)]), some (.int bits), some (.ref r0), some (.ref x0), some (.ref x), z7, z8, z9, none] ∧ Mt H8 H10 ∧ U.Sub H1 H10 ∧ H10 r0 = some (.lst [.ref a, .ref b, .ref d])) ?_ ?_ ⟨_, rfl, mt, s19, er9⟩
      · rintro σ H10 ⟨z9, rfl, m10, s10, er10⟩
        refine ⟨er10, ?_⟩
        subst hR
        dsimp only
        obtain ⟨dx, y, dy, w, ex8, ey8⟩ := wr8
        have ex := m10.el _ _ ex8 (fun l e => by cases e)
        have ey := m10.el _ _ ey8 (fun l e => by cases e)
        refine seq_abs fun R hR => ?_
        walk_at "rd"
        refine ⟨dx, _, _, ex, rfl, ?_⟩
        try walk_at "rd"
        refine ⟨dx, _, _, ex, rfl, fun p1 hp1 => ⟨dx, _, _, (put_ne (ne_none ex hp1)).trans ex, rfl, fun p2 hp2 => ?_⟩⟩
        have u1 := (Sub.refl H10).put (o := .lst (ns.map PV.int)) hp1
        have e1 : put H10 p1 (.lst (ns.map PV.int)) p1 = some (.lst (ns.map PV.int)) := put_same
        generalize put H10 p1 (.lst (ns.map PV.int)) = H11 at *
        have u2 := u1.put (o := .lst (Hd.map shT)) (u1.free hp2)
        have e2 := (put_ne (o := .lst (Hd.map shT)) (ne_none e1 hp2)).trans e1
        have f2 : put H11 p2 (.lst (Hd.map shT)) p2 = some (.lst (Hd.map shT)) := put_same
        generalize put H11 p2 (.lst (Hd.map shT)) = H12 at *
        refine ⟨dx, _, _, u2 _ _ ex, rfl, fun p3 hp3 => ?_⟩
        have u3 := u2.put (o := .lst (Tb.map tbT)) (u2.free hp3)
        have e3 := (put_ne (o := .lst (Tb.map tbT)) (ne_none e2 hp3)).trans e2
        have f3 := (put_ne (o := .lst (Tb.map tbT)) (ne_none f2 hp3)).trans f2
        have g3 : put H12 p3 (.lst (Tb.map tbT)) p3 = some (.lst (Tb.map tbT)) := put_same
        generalize put H12 p3 (.lst (Tb.map tbT)) = H13 at *
        intro x2 dx2 hx2 hdx2 ne2
        have u4 := (Sub.refl H13).put (o := .ins t.a_World dx2 []) hx2
        refine ⟨dx2, dy, c, ts', bs', ns, Hd, Tb, _, _, rfl, u4 _ _ (u3 _ _ ey), u4 _ _ e3, u4 _ _ f3, u4 _ _ g3, pd_of (by rw [List.length_map]) fun i z ws q1 q2 => ?_, pd_of (by rw [List.length_map]) fun i z Rw q1 q2 => ?_, hs, hw, fun y2 dy2 w2 H14 k14 ex2 ey2 hy2 => ?_⟩
        · rw [List.getElem?_map, q2] at q1
          cases q1
          exact .inl rfl
        · rw [List.getElem?_map, q2] at q1
          cases q1
          refine ⟨_, .inl rfl, pd_of (by rw [List.length_map]) fun i z ws q1 q2 => ?_⟩
          rw [List.getElem?_map, q2] at q1
          cases q1
          exact .inl rfl
        have u14 : U.Sub H10 H14 := fun a u e => k14 a u (ne_none (u3 _ _ e) hx2) (u4 _ _ (u3 _ _ e))
        try walk_at "rd"
        subst hR
        walk_at "rd"
        refine ⟨c, ts', bs', ns, Hd, Tb, ⟨dx, y, dy, w, u14 _ _ ex, u14 _ _ ey⟩, rfl, rfl, hs, hw, ?_⟩
        try walk_at "rd"
        exact ⟨c, ts', bs', ns, Hd, Tb, ⟨dx2, y2, dy2, w2, ex2, ey2⟩, rfl, rfl, hs, hw, H, s1.trans (s10.trans u14), h⟩
      · rintro D i v σ H10 hv ⟨z9, rfl, m10, s10, er10⟩ kk
        refine ⟨er10, ?_⟩
        have lst : ∃ q l, v = .ref q ∧ (q ≠ r0 ∧ H1 q = none) ∧ H8 q = some (.lst l) := by
          have := List.mem_of_getElem? hv
          simp only [List.mem_cons, List.not_mem_nil, or_false] at this
          rcases this with rfl | rfl | rfl
          · exact ⟨a, _, rfl, ⟨ner.1, fre.1⟩, ea8⟩
          · exact ⟨b, _, rfl, ⟨ner.2.1, fre.2.1⟩, eb8⟩
          · exact ⟨d, _, rfl, ⟨ner.2.2, fre.2.2⟩, ed8⟩
        obtain ⟨q, l, rfl, nq, eq⟩ := lst
        obtain ⟨l2, e3⟩ := m10.ls _ _ eq
        walk_at "rd"
        exact ⟨_, e3, kk _ _ ⟨_, rfl, m10.set e3, s10.put nq.2, (put_ne (Ne.symm nq.1)).trans er10⟩⟩
    · rintro D i v σ H9 hv ⟨z7, z8, rfl, mt, s19, ed9, er9, ty9⟩ kk
      refine ⟨ed9, ?_⟩
      obtain ⟨vs, q, w⟩ := ty9 v (List.mem_of_getElem? hv)
      have sq : Seq H9 v vs := q.imp id fun ⟨t, e, _, _, _, e2⟩ => ⟨t, e, e2⟩
      simp only [vName, List.set_cons_zero, List.set_cons_succ]
      refine seq_abs fun R hR => ?_
      walk_at "rd"
      refine it_seq2 sq fun ok hok => ?_
      refine for_atD (fun j σ H10 => ∃ z8, σ = [some (.fls (is.map PV.int)), some (.tup [.int c, .tup (ts'.map prV), .tup (bs'.map prV)]), some (.tup [.tup (ns.map PV.int), .tup (Hd.map shT), .tup (Tb.map tbT)]), some (.int bits), some (.ref r0), some (.ref x0), some (.ref x), some v, z8, none, none] ∧ Mt H9 H10 ∧ U.Sub H1 H10 ∧ ∀ x, N x → H10 x = H9 x) ?_ ?_ ⟨_, rfl, Mt.refl _, s19, fun _ _ => rfl⟩
      · rintro σ H10 ⟨z8, rfl, m10, s10, n10⟩
        refine ⟨hok _ fun a e => n10 _ ?_, ?_⟩
        · rcases q with q | ⟨t, e', nt, _⟩
          · rw [q] at e; cases e
          · rw [e'] at e; cases e; exact nt
        subst hR
        have ed10 := (n10 d ndd).trans ed9
        have er10 := (n10 r0 nr0).trans er9
        have ty10 := ty9.mut m10 n10
        rcases q with rfl | ⟨t, rfl, nt, td, tr, e2⟩
        · walk_at "rd"
          exact kk _ _ ⟨_, _, rfl, mt.trans m10, s10, ed10, er10, ty10⟩
        · have e10 := (n10 t nt).trans e2
          walk_at "rd"
          exact ⟨_, e10, _, e10, kk _ _ ⟨_, _, rfl, (mt.trans m10).set e10, s10.put tr.2, (put_ne (Ne.symm td)).trans ed10, (put_ne (Ne.symm tr.1)).trans er10, ty10.clr nt⟩⟩
      · rintro D2 j y' σ H10 hy' ⟨z8, rfl, m10, s10, n10⟩ kk2
        refine ⟨hok _ fun a e => n10 _ ?_, ?_⟩
        · rcases q with q | ⟨t, e', nt, _⟩
          · rw [q] at e; cases e
          · rw [e'] at e; cases e; exact nt
        rcases w y' (List.mem_of_getElem? hy') with ⟨l', rfl⟩ | ⟨r', l', rfl, nr, e2⟩
        · walk_at "rd"
          exact kk2 _ _ ⟨_, rfl, m10, s10, n10⟩
        · obtain ⟨l2, e3⟩ := m10.ls _ _ e2
          walk_at "rd"
          exact ⟨_, e3, _, e3, kk2 _ _ ⟨_, rfl, m10.set e3, s10.put (nN _ nr), fun x nx => (put_ne fun z => nr (by rw [← z]; exact nx)).trans (n10 x nx)⟩⟩
  · exact h.elim

end
theorem txt_mk {K : PySem.W.Frag} {h : Heap} {mg : Str → Option Value} {f_product f_is_pair f_are_pairs f_Drawing_init f_Drawing_shape f_Drawing_need_name f_Drawing_sources f_greatest_divisor f_fraction f_common_bottom f_tops_over f_total f_is_share f_are_shares f_copied f_are_sizes f_are_hidden f_bow_places f_hidden_sizes f_head_sizes f_is_table f_are_tables f_World_init f_law_cell_at f_law_mixed f_law_divisor f_law_lowest f_law_pairs f_law_weights f_law_rows f_law_heads f_law_world f_law_shares f_law_told_world f_law_handed f_law_drawn f_law_same f_law_right f_law k_Drawing k_World : Addr} (X : K.In h) (G : h.Ns mainGlobals mg)
    {od_product an_product od_is_pair an_is_pair od_are_pairs an_are_pairs od_Drawing_init an_Drawing_init od_Drawing_shape an_Drawing_shape od_Drawing_need_name an_Drawing_need_name od_Drawing_sources an_Drawing_sources od_greatest_divisor an_greatest_divisor od_fraction an_fraction od_common_bottom an_common_bottom od_tops_over an_tops_over od_total an_total od_is_share an_is_share od_are_shares an_are_shares od_copied an_copied od_are_sizes an_are_sizes od_are_hidden an_are_hidden od_bow_places an_bow_places od_hidden_sizes an_hidden_sizes od_head_sizes an_head_sizes od_is_table an_is_table od_are_tables an_are_tables od_World_init an_World_init od_law_cell_at an_law_cell_at od_law_mixed an_law_mixed od_law_divisor an_law_divisor od_law_lowest an_law_lowest od_law_pairs an_law_pairs od_law_weights an_law_weights od_law_rows an_law_rows od_law_heads an_law_heads od_law_world an_law_world od_law_shares an_law_shares od_law_told_world an_law_told_world od_law_handed an_law_handed od_law_drawn an_law_drawn od_law_same an_law_same od_law_right an_law_right od_law an_law : Option Addr} {sl_product sl_is_pair sl_are_pairs sl_Drawing_init sl_Drawing_shape sl_Drawing_need_name sl_Drawing_sources sl_greatest_divisor sl_fraction sl_common_bottom sl_tops_over sl_total sl_is_share sl_are_shares sl_copied sl_are_sizes sl_are_hidden sl_bow_places sl_hidden_sizes sl_head_sizes sl_is_table sl_are_tables sl_World_init sl_law_cell_at sl_law_mixed sl_law_divisor sl_law_lowest sl_law_pairs sl_law_weights sl_law_rows sl_law_heads sl_law_world sl_law_shares sl_law_told_world sl_law_handed sl_law_drawn sl_law_same sl_law_right sl_law : Array (Option Value)} {oc_product kV_product dc_product pm_product cd_product ct_product oc_is_pair kV_is_pair dc_is_pair pm_is_pair cd_is_pair ct_is_pair oc_are_pairs kV_are_pairs dc_are_pairs pm_are_pairs cd_are_pairs ct_are_pairs oc_Drawing_init kV_Drawing_init dc_Drawing_init pm_Drawing_init cd_Drawing_init ct_Drawing_init oc_Drawing_shape kV_Drawing_shape dc_Drawing_shape pm_Drawing_shape cd_Drawing_shape ct_Drawing_shape oc_Drawing_need_name kV_Drawing_need_name dc_Drawing_need_name pm_Drawing_need_name cd_Drawing_need_name ct_Drawing_need_name oc_Drawing_sources kV_Drawing_sources dc_Drawing_sources pm_Drawing_sources cd_Drawing_sources ct_Drawing_sources oc_greatest_divisor kV_greatest_divisor dc_greatest_divisor pm_greatest_divisor cd_greatest_divisor ct_greatest_divisor oc_fraction kV_fraction dc_fraction pm_fraction cd_fraction ct_fraction oc_common_bottom kV_common_bottom dc_common_bottom pm_common_bottom cd_common_bottom ct_common_bottom oc_tops_over kV_tops_over dc_tops_over pm_tops_over cd_tops_over ct_tops_over oc_total kV_total dc_total pm_total cd_total ct_total oc_is_share kV_is_share dc_is_share pm_is_share cd_is_share ct_is_share oc_are_shares kV_are_shares dc_are_shares pm_are_shares cd_are_shares ct_are_shares oc_copied kV_copied dc_copied pm_copied cd_copied ct_copied oc_are_sizes kV_are_sizes dc_are_sizes pm_are_sizes cd_are_sizes ct_are_sizes oc_are_hidden kV_are_hidden dc_are_hidden pm_are_hidden cd_are_hidden ct_are_hidden oc_bow_places kV_bow_places dc_bow_places pm_bow_places cd_bow_places ct_bow_places oc_hidden_sizes kV_hidden_sizes dc_hidden_sizes pm_hidden_sizes cd_hidden_sizes ct_hidden_sizes oc_head_sizes kV_head_sizes dc_head_sizes pm_head_sizes cd_head_sizes ct_head_sizes oc_is_table kV_is_table dc_is_table pm_is_table cd_is_table ct_is_table oc_are_tables kV_are_tables dc_are_tables pm_are_tables cd_are_tables ct_are_tables oc_World_init kV_World_init dc_World_init pm_World_init cd_World_init ct_World_init oc_law_cell_at kV_law_cell_at dc_law_cell_at pm_law_cell_at cd_law_cell_at ct_law_cell_at oc_law_mixed kV_law_mixed dc_law_mixed pm_law_mixed cd_law_mixed ct_law_mixed oc_law_divisor kV_law_divisor dc_law_divisor pm_law_divisor cd_law_divisor ct_law_divisor oc_law_lowest kV_law_lowest dc_law_lowest pm_law_lowest cd_law_lowest ct_law_lowest oc_law_pairs kV_law_pairs dc_law_pairs pm_law_pairs cd_law_pairs ct_law_pairs oc_law_weights kV_law_weights dc_law_weights pm_law_weights cd_law_weights ct_law_weights oc_law_rows kV_law_rows dc_law_rows pm_law_rows cd_law_rows ct_law_rows oc_law_heads kV_law_heads dc_law_heads pm_law_heads cd_law_heads ct_law_heads oc_law_world kV_law_world dc_law_world pm_law_world cd_law_world ct_law_world oc_law_shares kV_law_shares dc_law_shares pm_law_shares cd_law_shares ct_law_shares oc_law_told_world kV_law_told_world dc_law_told_world pm_law_told_world cd_law_told_world ct_law_told_world oc_law_handed kV_law_handed dc_law_handed pm_law_handed cd_law_handed ct_law_handed oc_law_drawn kV_law_drawn dc_law_drawn pm_law_drawn cd_law_drawn ct_law_drawn oc_law_same kV_law_same dc_law_same pm_law_same cd_law_same ct_law_same oc_law_right kV_law_right dc_law_right pm_law_right cd_law_right ct_law_right oc_law kV_law dc_law pm_law cd_law ct_law : Value}
    {tk_LEAST_SIZE tk_MOST_BOWS tk_MOST_HIDDEN tk_MOST_NAMES tk_MOST_SIZE tk_MOST_WEIGHTS : Tok}
    (C_Drawing : PySem.W.nsIn K mainGlobals "Drawing" = some (some (.ref k_Drawing)))
    (C_World : PySem.W.nsIn K mainGlobals "World" = some (some (.ref k_World)))
    (a_product : PySem.W.nsIn K mainGlobals "product" = some (some (.ref f_product)))
    (l_product : K.lookup f_product = some ⟨oc_product, od_product, .func (PySem.W.fnOf "product" "product" (defArgs s_product) (defBody s_product) (defScope s_product) .none kV_product dc_product pm_product an_product cd_product ct_product), sl_product⟩)
    (c_product : PySem.W.codeIn K cd_product "product" = true)
    (k_product : PySem.W.keepIn K (.ref f_product) = true)
    (a_is_pair : PySem.W.nsIn K mainGlobals "is_pair" = some (some (.ref f_is_pair)))
    (l_is_pair : K.lookup f_is_pair = some ⟨oc_is_pair, od_is_pair, .func (PySem.W.fnOf "is_pair" "is_pair" (defArgs s_is_pair) (defBody s_is_pair) (defScope s_is_pair) .none kV_is_pair dc_is_pair pm_is_pair an_is_pair cd_is_pair ct_is_pair), sl_is_pair⟩)
    (c_is_pair : PySem.W.codeIn K cd_is_pair "is_pair" = true)
    (k_is_pair : PySem.W.keepIn K (.ref f_is_pair) = true)
    (a_are_pairs : PySem.W.nsIn K mainGlobals "are_pairs" = some (some (.ref f_are_pairs)))
    (l_are_pairs : K.lookup f_are_pairs = some ⟨oc_are_pairs, od_are_pairs, .func (PySem.W.fnOf "are_pairs" "are_pairs" (defArgs s_are_pairs) (defBody s_are_pairs) (defScope s_are_pairs) .none kV_are_pairs dc_are_pairs pm_are_pairs an_are_pairs cd_are_pairs ct_are_pairs), sl_are_pairs⟩)
    (c_are_pairs : PySem.W.codeIn K cd_are_pairs "are_pairs" = true)
    (k_are_pairs : PySem.W.keepIn K (.ref f_are_pairs) = true)
    (a_Drawing_init : PySem.W.findIn K (.ref k_Drawing) "__init__" = some (some (.ref f_Drawing_init)))
    (i_Drawing_init : PySem.W.isFn K (.ref f_Drawing_init) = true)
    (l_Drawing_init : K.lookup f_Drawing_init = some ⟨oc_Drawing_init, od_Drawing_init, .func (PySem.W.fnOf "__init__" "Drawing.__init__" (defArgs s_Drawing_init) (defBody s_Drawing_init) (defScope s_Drawing_init) .none kV_Drawing_init dc_Drawing_init pm_Drawing_init an_Drawing_init cd_Drawing_init ct_Drawing_init), sl_Drawing_init⟩)
    (c_Drawing_init : PySem.W.codeIn K cd_Drawing_init "Drawing.__init__" = true)
    (k_Drawing_init : PySem.W.keepIn K (.ref f_Drawing_init) = true)
    (a_Drawing_shape : PySem.W.findIn K (.ref k_Drawing) "shape" = some (some (.ref f_Drawing_shape)))
    (i_Drawing_shape : PySem.W.isFn K (.ref f_Drawing_shape) = true)
    (l_Drawing_shape : K.lookup f_Drawing_shape = some ⟨oc_Drawing_shape, od_Drawing_shape, .func (PySem.W.fnOf "shape" "Drawing.shape" (defArgs s_Drawing_shape) (defBody s_Drawing_shape) (defScope s_Drawing_shape) .none kV_Drawing_shape dc_Drawing_shape pm_Drawing_shape an_Drawing_shape cd_Drawing_shape ct_Drawing_shape), sl_Drawing_shape⟩)
    (c_Drawing_shape : PySem.W.codeIn K cd_Drawing_shape "Drawing.shape" = true)
    (k_Drawing_shape : PySem.W.keepIn K (.ref f_Drawing_shape) = true)
    (a_Drawing_need_name : PySem.W.findIn K (.ref k_Drawing) "need_name" = some (some (.ref f_Drawing_need_name)))
    (i_Drawing_need_name : PySem.W.isFn K (.ref f_Drawing_need_name) = true)
    (l_Drawing_need_name : K.lookup f_Drawing_need_name = some ⟨oc_Drawing_need_name, od_Drawing_need_name, .func (PySem.W.fnOf "need_name" "Drawing.need_name" (defArgs s_Drawing_need_name) (defBody s_Drawing_need_name) (defScope s_Drawing_need_name) .none kV_Drawing_need_name dc_Drawing_need_name pm_Drawing_need_name an_Drawing_need_name cd_Drawing_need_name ct_Drawing_need_name), sl_Drawing_need_name⟩)
    (c_Drawing_need_name : PySem.W.codeIn K cd_Drawing_need_name "Drawing.need_name" = true)
    (k_Drawing_need_name : PySem.W.keepIn K (.ref f_Drawing_need_name) = true)
    (a_Drawing_sources : PySem.W.findIn K (.ref k_Drawing) "sources" = some (some (.ref f_Drawing_sources)))
    (i_Drawing_sources : PySem.W.isFn K (.ref f_Drawing_sources) = true)
    (l_Drawing_sources : K.lookup f_Drawing_sources = some ⟨oc_Drawing_sources, od_Drawing_sources, .func (PySem.W.fnOf "sources" "Drawing.sources" (defArgs s_Drawing_sources) (defBody s_Drawing_sources) (defScope s_Drawing_sources) .none kV_Drawing_sources dc_Drawing_sources pm_Drawing_sources an_Drawing_sources cd_Drawing_sources ct_Drawing_sources), sl_Drawing_sources⟩)
    (c_Drawing_sources : PySem.W.codeIn K cd_Drawing_sources "Drawing.sources" = true)
    (k_Drawing_sources : PySem.W.keepIn K (.ref f_Drawing_sources) = true)
    (a_greatest_divisor : PySem.W.nsIn K mainGlobals "greatest_divisor" = some (some (.ref f_greatest_divisor)))
    (l_greatest_divisor : K.lookup f_greatest_divisor = some ⟨oc_greatest_divisor, od_greatest_divisor, .func (PySem.W.fnOf "greatest_divisor" "greatest_divisor" (defArgs s_greatest_divisor) (defBody s_greatest_divisor) (defScope s_greatest_divisor) .none kV_greatest_divisor dc_greatest_divisor pm_greatest_divisor an_greatest_divisor cd_greatest_divisor ct_greatest_divisor), sl_greatest_divisor⟩)
    (c_greatest_divisor : PySem.W.codeIn K cd_greatest_divisor "greatest_divisor" = true)
    (k_greatest_divisor : PySem.W.keepIn K (.ref f_greatest_divisor) = true)
    (a_fraction : PySem.W.nsIn K mainGlobals "fraction" = some (some (.ref f_fraction)))
    (l_fraction : K.lookup f_fraction = some ⟨oc_fraction, od_fraction, .func (PySem.W.fnOf "fraction" "fraction" (defArgs s_fraction) (defBody s_fraction) (defScope s_fraction) .none kV_fraction dc_fraction pm_fraction an_fraction cd_fraction ct_fraction), sl_fraction⟩)
    (c_fraction : PySem.W.codeIn K cd_fraction "fraction" = true)
    (k_fraction : PySem.W.keepIn K (.ref f_fraction) = true)
    (a_common_bottom : PySem.W.nsIn K mainGlobals "common_bottom" = some (some (.ref f_common_bottom)))
    (l_common_bottom : K.lookup f_common_bottom = some ⟨oc_common_bottom, od_common_bottom, .func (PySem.W.fnOf "common_bottom" "common_bottom" (defArgs s_common_bottom) (defBody s_common_bottom) (defScope s_common_bottom) .none kV_common_bottom dc_common_bottom pm_common_bottom an_common_bottom cd_common_bottom ct_common_bottom), sl_common_bottom⟩)
    (c_common_bottom : PySem.W.codeIn K cd_common_bottom "common_bottom" = true)
    (k_common_bottom : PySem.W.keepIn K (.ref f_common_bottom) = true)
    (a_tops_over : PySem.W.nsIn K mainGlobals "tops_over" = some (some (.ref f_tops_over)))
    (l_tops_over : K.lookup f_tops_over = some ⟨oc_tops_over, od_tops_over, .func (PySem.W.fnOf "tops_over" "tops_over" (defArgs s_tops_over) (defBody s_tops_over) (defScope s_tops_over) .none kV_tops_over dc_tops_over pm_tops_over an_tops_over cd_tops_over ct_tops_over), sl_tops_over⟩)
    (c_tops_over : PySem.W.codeIn K cd_tops_over "tops_over" = true)
    (k_tops_over : PySem.W.keepIn K (.ref f_tops_over) = true)
    (a_total : PySem.W.nsIn K mainGlobals "total" = some (some (.ref f_total)))
    (l_total : K.lookup f_total = some ⟨oc_total, od_total, .func (PySem.W.fnOf "total" "total" (defArgs s_total) (defBody s_total) (defScope s_total) .none kV_total dc_total pm_total an_total cd_total ct_total), sl_total⟩)
    (c_total : PySem.W.codeIn K cd_total "total" = true)
    (k_total : PySem.W.keepIn K (.ref f_total) = true)
    (a_is_share : PySem.W.nsIn K mainGlobals "is_share" = some (some (.ref f_is_share)))
    (l_is_share : K.lookup f_is_share = some ⟨oc_is_share, od_is_share, .func (PySem.W.fnOf "is_share" "is_share" (defArgs s_is_share) (defBody s_is_share) (defScope s_is_share) .none kV_is_share dc_is_share pm_is_share an_is_share cd_is_share ct_is_share), sl_is_share⟩)
    (c_is_share : PySem.W.codeIn K cd_is_share "is_share" = true)
    (k_is_share : PySem.W.keepIn K (.ref f_is_share) = true)
    (a_are_shares : PySem.W.nsIn K mainGlobals "are_shares" = some (some (.ref f_are_shares)))
    (l_are_shares : K.lookup f_are_shares = some ⟨oc_are_shares, od_are_shares, .func (PySem.W.fnOf "are_shares" "are_shares" (defArgs s_are_shares) (defBody s_are_shares) (defScope s_are_shares) .none kV_are_shares dc_are_shares pm_are_shares an_are_shares cd_are_shares ct_are_shares), sl_are_shares⟩)
    (c_are_shares : PySem.W.codeIn K cd_are_shares "are_shares" = true)
    (k_are_shares : PySem.W.keepIn K (.ref f_are_shares) = true)
    (a_copied : PySem.W.nsIn K mainGlobals "copied" = some (some (.ref f_copied)))
    (l_copied : K.lookup f_copied = some ⟨oc_copied, od_copied, .func (PySem.W.fnOf "copied" "copied" (defArgs s_copied) (defBody s_copied) (defScope s_copied) .none kV_copied dc_copied pm_copied an_copied cd_copied ct_copied), sl_copied⟩)
    (c_copied : PySem.W.codeIn K cd_copied "copied" = true)
    (k_copied : PySem.W.keepIn K (.ref f_copied) = true)
    (a_are_sizes : PySem.W.nsIn K mainGlobals "are_sizes" = some (some (.ref f_are_sizes)))
    (l_are_sizes : K.lookup f_are_sizes = some ⟨oc_are_sizes, od_are_sizes, .func (PySem.W.fnOf "are_sizes" "are_sizes" (defArgs s_are_sizes) (defBody s_are_sizes) (defScope s_are_sizes) .none kV_are_sizes dc_are_sizes pm_are_sizes an_are_sizes cd_are_sizes ct_are_sizes), sl_are_sizes⟩)
    (c_are_sizes : PySem.W.codeIn K cd_are_sizes "are_sizes" = true)
    (k_are_sizes : PySem.W.keepIn K (.ref f_are_sizes) = true)
    (a_are_hidden : PySem.W.nsIn K mainGlobals "are_hidden" = some (some (.ref f_are_hidden)))
    (l_are_hidden : K.lookup f_are_hidden = some ⟨oc_are_hidden, od_are_hidden, .func (PySem.W.fnOf "are_hidden" "are_hidden" (defArgs s_are_hidden) (defBody s_are_hidden) (defScope s_are_hidden) .none kV_are_hidden dc_are_hidden pm_are_hidden an_are_hidden cd_are_hidden ct_are_hidden), sl_are_hidden⟩)
    (c_are_hidden : PySem.W.codeIn K cd_are_hidden "are_hidden" = true)
    (k_are_hidden : PySem.W.keepIn K (.ref f_are_hidden) = true)
    (a_bow_places : PySem.W.nsIn K mainGlobals "bow_places" = some (some (.ref f_bow_places)))
    (l_bow_places : K.lookup f_bow_places = some ⟨oc_bow_places, od_bow_places, .func (PySem.W.fnOf "bow_places" "bow_places" (defArgs s_bow_places) (defBody s_bow_places) (defScope s_bow_places) .none kV_bow_places dc_bow_places pm_bow_places an_bow_places cd_bow_places ct_bow_places), sl_bow_places⟩)
    (c_bow_places : PySem.W.codeIn K cd_bow_places "bow_places" = true)
    (k_bow_places : PySem.W.keepIn K (.ref f_bow_places) = true)
    (a_hidden_sizes : PySem.W.nsIn K mainGlobals "hidden_sizes" = some (some (.ref f_hidden_sizes)))
    (l_hidden_sizes : K.lookup f_hidden_sizes = some ⟨oc_hidden_sizes, od_hidden_sizes, .func (PySem.W.fnOf "hidden_sizes" "hidden_sizes" (defArgs s_hidden_sizes) (defBody s_hidden_sizes) (defScope s_hidden_sizes) .none kV_hidden_sizes dc_hidden_sizes pm_hidden_sizes an_hidden_sizes cd_hidden_sizes ct_hidden_sizes), sl_hidden_sizes⟩)
    (c_hidden_sizes : PySem.W.codeIn K cd_hidden_sizes "hidden_sizes" = true)
    (k_hidden_sizes : PySem.W.keepIn K (.ref f_hidden_sizes) = true)
    (a_head_sizes : PySem.W.nsIn K mainGlobals "head_sizes" = some (some (.ref f_head_sizes)))
    (l_head_sizes : K.lookup f_head_sizes = some ⟨oc_head_sizes, od_head_sizes, .func (PySem.W.fnOf "head_sizes" "head_sizes" (defArgs s_head_sizes) (defBody s_head_sizes) (defScope s_head_sizes) .none kV_head_sizes dc_head_sizes pm_head_sizes an_head_sizes cd_head_sizes ct_head_sizes), sl_head_sizes⟩)
    (c_head_sizes : PySem.W.codeIn K cd_head_sizes "head_sizes" = true)
    (k_head_sizes : PySem.W.keepIn K (.ref f_head_sizes) = true)
    (a_is_table : PySem.W.nsIn K mainGlobals "is_table" = some (some (.ref f_is_table)))
    (l_is_table : K.lookup f_is_table = some ⟨oc_is_table, od_is_table, .func (PySem.W.fnOf "is_table" "is_table" (defArgs s_is_table) (defBody s_is_table) (defScope s_is_table) .none kV_is_table dc_is_table pm_is_table an_is_table cd_is_table ct_is_table), sl_is_table⟩)
    (c_is_table : PySem.W.codeIn K cd_is_table "is_table" = true)
    (k_is_table : PySem.W.keepIn K (.ref f_is_table) = true)
    (a_are_tables : PySem.W.nsIn K mainGlobals "are_tables" = some (some (.ref f_are_tables)))
    (l_are_tables : K.lookup f_are_tables = some ⟨oc_are_tables, od_are_tables, .func (PySem.W.fnOf "are_tables" "are_tables" (defArgs s_are_tables) (defBody s_are_tables) (defScope s_are_tables) .none kV_are_tables dc_are_tables pm_are_tables an_are_tables cd_are_tables ct_are_tables), sl_are_tables⟩)
    (c_are_tables : PySem.W.codeIn K cd_are_tables "are_tables" = true)
    (k_are_tables : PySem.W.keepIn K (.ref f_are_tables) = true)
    (a_World_init : PySem.W.findIn K (.ref k_World) "__init__" = some (some (.ref f_World_init)))
    (i_World_init : PySem.W.isFn K (.ref f_World_init) = true)
    (l_World_init : K.lookup f_World_init = some ⟨oc_World_init, od_World_init, .func (PySem.W.fnOf "__init__" "World.__init__" (defArgs s_World_init) (defBody s_World_init) (defScope s_World_init) .none kV_World_init dc_World_init pm_World_init an_World_init cd_World_init ct_World_init), sl_World_init⟩)
    (c_World_init : PySem.W.codeIn K cd_World_init "World.__init__" = true)
    (k_World_init : PySem.W.keepIn K (.ref f_World_init) = true)
    (a_law_cell_at : PySem.W.nsIn K mainGlobals "_law_cell_at" = some (some (.ref f_law_cell_at)))
    (l_law_cell_at : K.lookup f_law_cell_at = some ⟨oc_law_cell_at, od_law_cell_at, .func (PySem.W.fnOf "_law_cell_at" "_law_cell_at" (defArgs s_law_cell_at) (defBody s_law_cell_at) (defScope s_law_cell_at) .none kV_law_cell_at dc_law_cell_at pm_law_cell_at an_law_cell_at cd_law_cell_at ct_law_cell_at), sl_law_cell_at⟩)
    (c_law_cell_at : PySem.W.codeIn K cd_law_cell_at "_law_cell_at" = true)
    (k_law_cell_at : PySem.W.keepIn K (.ref f_law_cell_at) = true)
    (a_law_mixed : PySem.W.nsIn K mainGlobals "_law_mixed" = some (some (.ref f_law_mixed)))
    (l_law_mixed : K.lookup f_law_mixed = some ⟨oc_law_mixed, od_law_mixed, .func (PySem.W.fnOf "_law_mixed" "_law_mixed" (defArgs s_law_mixed) (defBody s_law_mixed) (defScope s_law_mixed) .none kV_law_mixed dc_law_mixed pm_law_mixed an_law_mixed cd_law_mixed ct_law_mixed), sl_law_mixed⟩)
    (c_law_mixed : PySem.W.codeIn K cd_law_mixed "_law_mixed" = true)
    (k_law_mixed : PySem.W.keepIn K (.ref f_law_mixed) = true)
    (a_law_divisor : PySem.W.nsIn K mainGlobals "_law_divisor" = some (some (.ref f_law_divisor)))
    (l_law_divisor : K.lookup f_law_divisor = some ⟨oc_law_divisor, od_law_divisor, .func (PySem.W.fnOf "_law_divisor" "_law_divisor" (defArgs s_law_divisor) (defBody s_law_divisor) (defScope s_law_divisor) .none kV_law_divisor dc_law_divisor pm_law_divisor an_law_divisor cd_law_divisor ct_law_divisor), sl_law_divisor⟩)
    (c_law_divisor : PySem.W.codeIn K cd_law_divisor "_law_divisor" = true)
    (k_law_divisor : PySem.W.keepIn K (.ref f_law_divisor) = true)
    (a_law_lowest : PySem.W.nsIn K mainGlobals "_law_lowest" = some (some (.ref f_law_lowest)))
    (l_law_lowest : K.lookup f_law_lowest = some ⟨oc_law_lowest, od_law_lowest, .func (PySem.W.fnOf "_law_lowest" "_law_lowest" (defArgs s_law_lowest) (defBody s_law_lowest) (defScope s_law_lowest) .none kV_law_lowest dc_law_lowest pm_law_lowest an_law_lowest cd_law_lowest ct_law_lowest), sl_law_lowest⟩)
    (c_law_lowest : PySem.W.codeIn K cd_law_lowest "_law_lowest" = true)
    (k_law_lowest : PySem.W.keepIn K (.ref f_law_lowest) = true)
    (a_law_pairs : PySem.W.nsIn K mainGlobals "_law_pairs" = some (some (.ref f_law_pairs)))
    (l_law_pairs : K.lookup f_law_pairs = some ⟨oc_law_pairs, od_law_pairs, .func (PySem.W.fnOf "_law_pairs" "_law_pairs" (defArgs s_law_pairs) (defBody s_law_pairs) (defScope s_law_pairs) .none kV_law_pairs dc_law_pairs pm_law_pairs an_law_pairs cd_law_pairs ct_law_pairs), sl_law_pairs⟩)
    (c_law_pairs : PySem.W.codeIn K cd_law_pairs "_law_pairs" = true)
    (k_law_pairs : PySem.W.keepIn K (.ref f_law_pairs) = true)
    (a_law_weights : PySem.W.nsIn K mainGlobals "_law_weights" = some (some (.ref f_law_weights)))
    (l_law_weights : K.lookup f_law_weights = some ⟨oc_law_weights, od_law_weights, .func (PySem.W.fnOf "_law_weights" "_law_weights" (defArgs s_law_weights) (defBody s_law_weights) (defScope s_law_weights) .none kV_law_weights dc_law_weights pm_law_weights an_law_weights cd_law_weights ct_law_weights), sl_law_weights⟩)
    (c_law_weights : PySem.W.codeIn K cd_law_weights "_law_weights" = true)
    (k_law_weights : PySem.W.keepIn K (.ref f_law_weights) = true)
    (a_law_rows : PySem.W.nsIn K mainGlobals "_law_rows" = some (some (.ref f_law_rows)))
    (l_law_rows : K.lookup f_law_rows = some ⟨oc_law_rows, od_law_rows, .func (PySem.W.fnOf "_law_rows" "_law_rows" (defArgs s_law_rows) (defBody s_law_rows) (defScope s_law_rows) .none kV_law_rows dc_law_rows pm_law_rows an_law_rows cd_law_rows ct_law_rows), sl_law_rows⟩)
    (c_law_rows : PySem.W.codeIn K cd_law_rows "_law_rows" = true)
    (k_law_rows : PySem.W.keepIn K (.ref f_law_rows) = true)
    (a_law_heads : PySem.W.nsIn K mainGlobals "_law_heads" = some (some (.ref f_law_heads)))
    (l_law_heads : K.lookup f_law_heads = some ⟨oc_law_heads, od_law_heads, .func (PySem.W.fnOf "_law_heads" "_law_heads" (defArgs s_law_heads) (defBody s_law_heads) (defScope s_law_heads) .none kV_law_heads dc_law_heads pm_law_heads an_law_heads cd_law_heads ct_law_heads), sl_law_heads⟩)
    (c_law_heads : PySem.W.codeIn K cd_law_heads "_law_heads" = true)
    (k_law_heads : PySem.W.keepIn K (.ref f_law_heads) = true)
    (a_law_world : PySem.W.nsIn K mainGlobals "_law_world" = some (some (.ref f_law_world)))
    (l_law_world : K.lookup f_law_world = some ⟨oc_law_world, od_law_world, .func (PySem.W.fnOf "_law_world" "_law_world" (defArgs s_law_world) (defBody s_law_world) (defScope s_law_world) .none kV_law_world dc_law_world pm_law_world an_law_world cd_law_world ct_law_world), sl_law_world⟩)
    (c_law_world : PySem.W.codeIn K cd_law_world "_law_world" = true)
    (k_law_world : PySem.W.keepIn K (.ref f_law_world) = true)
    (a_law_shares : PySem.W.nsIn K mainGlobals "_law_shares" = some (some (.ref f_law_shares)))
    (l_law_shares : K.lookup f_law_shares = some ⟨oc_law_shares, od_law_shares, .func (PySem.W.fnOf "_law_shares" "_law_shares" (defArgs s_law_shares) (defBody s_law_shares) (defScope s_law_shares) .none kV_law_shares dc_law_shares pm_law_shares an_law_shares cd_law_shares ct_law_shares), sl_law_shares⟩)
    (c_law_shares : PySem.W.codeIn K cd_law_shares "_law_shares" = true)
    (k_law_shares : PySem.W.keepIn K (.ref f_law_shares) = true)
    (a_law_told_world : PySem.W.nsIn K mainGlobals "_law_told_world" = some (some (.ref f_law_told_world)))
    (l_law_told_world : K.lookup f_law_told_world = some ⟨oc_law_told_world, od_law_told_world, .func (PySem.W.fnOf "_law_told_world" "_law_told_world" (defArgs s_law_told_world) (defBody s_law_told_world) (defScope s_law_told_world) .none kV_law_told_world dc_law_told_world pm_law_told_world an_law_told_world cd_law_told_world ct_law_told_world), sl_law_told_world⟩)
    (c_law_told_world : PySem.W.codeIn K cd_law_told_world "_law_told_world" = true)
    (k_law_told_world : PySem.W.keepIn K (.ref f_law_told_world) = true)
    (a_law_handed : PySem.W.nsIn K mainGlobals "_law_handed" = some (some (.ref f_law_handed)))
    (l_law_handed : K.lookup f_law_handed = some ⟨oc_law_handed, od_law_handed, .func (PySem.W.fnOf "_law_handed" "_law_handed" (defArgs s_law_handed) (defBody s_law_handed) (defScope s_law_handed) .none kV_law_handed dc_law_handed pm_law_handed an_law_handed cd_law_handed ct_law_handed), sl_law_handed⟩)
    (c_law_handed : PySem.W.codeIn K cd_law_handed "_law_handed" = true)
    (k_law_handed : PySem.W.keepIn K (.ref f_law_handed) = true)
    (a_law_drawn : PySem.W.nsIn K mainGlobals "_law_drawn" = some (some (.ref f_law_drawn)))
    (l_law_drawn : K.lookup f_law_drawn = some ⟨oc_law_drawn, od_law_drawn, .func (PySem.W.fnOf "_law_drawn" "_law_drawn" (defArgs s_law_drawn) (defBody s_law_drawn) (defScope s_law_drawn) .none kV_law_drawn dc_law_drawn pm_law_drawn an_law_drawn cd_law_drawn ct_law_drawn), sl_law_drawn⟩)
    (c_law_drawn : PySem.W.codeIn K cd_law_drawn "_law_drawn" = true)
    (k_law_drawn : PySem.W.keepIn K (.ref f_law_drawn) = true)
    (a_law_same : PySem.W.nsIn K mainGlobals "_law_same" = some (some (.ref f_law_same)))
    (l_law_same : K.lookup f_law_same = some ⟨oc_law_same, od_law_same, .func (PySem.W.fnOf "_law_same" "_law_same" (defArgs s_law_same) (defBody s_law_same) (defScope s_law_same) .none kV_law_same dc_law_same pm_law_same an_law_same cd_law_same ct_law_same), sl_law_same⟩)
    (c_law_same : PySem.W.codeIn K cd_law_same "_law_same" = true)
    (k_law_same : PySem.W.keepIn K (.ref f_law_same) = true)
    (a_law_right : PySem.W.nsIn K mainGlobals "_law_right" = some (some (.ref f_law_right)))
    (l_law_right : K.lookup f_law_right = some ⟨oc_law_right, od_law_right, .func (PySem.W.fnOf "_law_right" "_law_right" (defArgs s_law_right) (defBody s_law_right) (defScope s_law_right) .none kV_law_right dc_law_right pm_law_right an_law_right cd_law_right ct_law_right), sl_law_right⟩)
    (c_law_right : PySem.W.codeIn K cd_law_right "_law_right" = true)
    (k_law_right : PySem.W.keepIn K (.ref f_law_right) = true)
    (a_law : PySem.W.nsIn K mainGlobals "law" = some (some (.ref f_law)))
    (l_law : K.lookup f_law = some ⟨oc_law, od_law, .func (PySem.W.fnOf "law" "law" (defArgs s_law) (defBody s_law) (defScope s_law) .none kV_law dc_law pm_law an_law cd_law ct_law), sl_law⟩)
    (c_law : PySem.W.codeIn K cd_law "law" = true)
    (k_law : PySem.W.keepIn K (.ref f_law) = true)
    (pg_Drawing : PySem.W.plainGet K k_Drawing Str.empty = true)
    (hd_Drawing : PySem.W.hasDictIn K k_Drawing = true)
    (po_Drawing : PySem.W.plainOver K k_Drawing = true)
    (sa_Drawing : PySem.W.findIn K (.ref k_Drawing) "__setattr__" = some (some (.builtin "object.__setattr__")))
    (mk_Drawing : PySem.W.makesIn K k_Drawing = true)
    (kc_Drawing : PySem.W.keepIn K (.ref k_Drawing) = true)
    (pg_World : PySem.W.plainGet K k_World Str.empty = true)
    (hd_World : PySem.W.hasDictIn K k_World = true)
    (po_World : PySem.W.plainOver K k_World = true)
    (sa_World : PySem.W.findIn K (.ref k_World) "__setattr__" = some (some (.builtin "object.__setattr__")))
    (mk_World : PySem.W.makesIn K k_World = true)
    (kc_World : PySem.W.keepIn K (.ref k_World) = true)
    (z_abs : PySem.W.nsIn K mainGlobals "abs" = some none)
    (z_all : PySem.W.nsIn K mainGlobals "all" = some none)
    (z_bool : PySem.W.nsIn K mainGlobals "bool" = some none)
    (z_enumerate : PySem.W.nsIn K mainGlobals "enumerate" = some none)
    (z_int : PySem.W.nsIn K mainGlobals "int" = some none)
    (z_isinstance : PySem.W.nsIn K mainGlobals "isinstance" = some none)
    (z_len : PySem.W.nsIn K mainGlobals "len" = some none)
    (z_list : PySem.W.nsIn K mainGlobals "list" = some none)
    (z_min : PySem.W.nsIn K mainGlobals "min" = some none)
    (z_range : PySem.W.nsIn K mainGlobals "range" = some none)
    (z_set : PySem.W.nsIn K mainGlobals "set" = some none)
    (z_sorted : PySem.W.nsIn K mainGlobals "sorted" = some none)
    (z_str : PySem.W.nsIn K mainGlobals "str" = some none)
    (z_sum : PySem.W.nsIn K mainGlobals "sum" = some none)
    (z_tuple : PySem.W.nsIn K mainGlobals "tuple" = some none)
    (z_zip : PySem.W.nsIn K mainGlobals "zip" = some none)
    (v_LEAST_SIZE : PySem.W.nsIn K mainGlobals "LEAST_SIZE" = some (some (.int 2 tk_LEAST_SIZE)))
    (v_MOST_BOWS : PySem.W.nsIn K mainGlobals "MOST_BOWS" = some (some (.int 6 tk_MOST_BOWS)))
    (v_MOST_HIDDEN : PySem.W.nsIn K mainGlobals "MOST_HIDDEN" = some (some (.int 4 tk_MOST_HIDDEN)))
    (v_MOST_NAMES : PySem.W.nsIn K mainGlobals "MOST_NAMES" = some (some (.int 6 tk_MOST_NAMES)))
    (v_MOST_SIZE : PySem.W.nsIn K mainGlobals "MOST_SIZE" = some (some (.int 4 tk_MOST_SIZE)))
    (v_MOST_WEIGHTS : PySem.W.nsIn K mainGlobals "MOST_WEIGHTS" = some (some (.int 200000 tk_MOST_WEIGHTS)))
    (n_Drawing_bows : PySem.W.findIn K (.ref k_Drawing) "bows" = some none)
    (n_Drawing_count : PySem.W.findIn K (.ref k_Drawing) "count" = some none)
    (n_Drawing_ties : PySem.W.findIn K (.ref k_Drawing) "ties" = some none)
    (n_World_drawing : PySem.W.findIn K (.ref k_World) "drawing" = some none)
    (n_World_hidden : PySem.W.findIn K (.ref k_World) "hidden" = some none)
    (n_World_sizes : PySem.W.findIn K (.ref k_World) "sizes" = some none)
    (n_World_tables : PySem.W.findIn K (.ref k_World) "tables" = some none)
    (n_World_weighed : PySem.W.findIn K (.ref k_World) "weighed" = some none) :
    ∃ t : Ad, Tx K mg t ∧ t.a_law = f_law ∧ ∀ (s : Shared) (v : Value), BindsTo s t.d_law ⟨[v], []⟩ [("_law_script", v)] := by
  have F_product := fun_mk (st := s_product) l_product c_product k_product
  have B_product := F_product.binds (ps := ["numbers"]) fun _ _ _ _ _ _ us hl => len1 (P := fun us => bindArgs _ ⟨us, []⟩ = pure (List.zip _ us)) (fun _ => rfl) us hl
  have F_is_pair := fun_mk (st := s_is_pair) l_is_pair c_is_pair k_is_pair
  have B_is_pair := F_is_pair.binds (ps := ["count", "pair"]) fun _ _ _ _ _ _ us hl => len2 (P := fun us => bindArgs _ ⟨us, []⟩ = pure (List.zip _ us)) (fun _ _ => rfl) us hl
  have F_are_pairs := fun_mk (st := s_are_pairs) l_are_pairs c_are_pairs k_are_pairs
  have B_are_pairs := F_are_pairs.binds (ps := ["count", "pairs"]) fun _ _ _ _ _ _ us hl => len2 (P := fun us => bindArgs _ ⟨us, []⟩ = pure (List.zip _ us)) (fun _ _ => rfl) us hl
  have F_Drawing_init := fun_mk (st := s_Drawing_init) l_Drawing_init c_Drawing_init k_Drawing_init
  have B_Drawing_init := F_Drawing_init.binds (ps := ["self", "count", "ties", "bows"]) fun _ _ _ _ _ _ us hl => len4 (P := fun us => bindArgs _ ⟨us, []⟩ = pure (List.zip _ us)) (fun _ _ _ _ => rfl) us hl
  have F_Drawing_shape := fun_mk (st := s_Drawing_shape) l_Drawing_shape c_Drawing_shape k_Drawing_shape
  have B_Drawing_shape := F_Drawing_shape.binds (ps := ["self"]) fun _ _ _ _ _ _ us hl => len1 (P := fun us => bindArgs _ ⟨us, []⟩ = pure (List.zip _ us)) (fun _ => rfl) us hl
  have F_Drawing_need_name := fun_mk (st := s_Drawing_need_name) l_Drawing_need_name c_Drawing_need_name k_Drawing_need_name
  have B_Drawing_need_name := F_Drawing_need_name.binds (ps := ["self", "name"]) fun _ _ _ _ _ _ us hl => len2 (P := fun us => bindArgs _ ⟨us, []⟩ = pure (List.zip _ us)) (fun _ _ => rfl) us hl
  have F_Drawing_sources := fun_mk (st := s_Drawing_sources) l_Drawing_sources c_Drawing_sources k_Drawing_sources
  have B_Drawing_sources := F_Drawing_sources.binds (ps := ["self", "name"]) fun _ _ _ _ _ _ us hl => len2 (P := fun us => bindArgs _ ⟨us, []⟩ = pure (List.zip _ us)) (fun _ _ => rfl) us hl
  have F_greatest_divisor := fun_mk (st := s_greatest_divisor) l_greatest_divisor c_greatest_divisor k_greatest_divisor
  have B_greatest_divisor := F_greatest_divisor.binds (ps := ["a", "b"]) fun _ _ _ _ _ _ us hl => len2 (P := fun us => bindArgs _ ⟨us, []⟩ = pure (List.zip _ us)) (fun _ _ => rfl) us hl
  have F_fraction := fun_mk (st := s_fraction) l_fraction c_fraction k_fraction
  have B_fraction := F_fraction.binds (ps := ["top", "bottom"]) fun _ _ _ _ _ _ us hl => len2 (P := fun us => bindArgs _ ⟨us, []⟩ = pure (List.zip _ us)) (fun _ _ => rfl) us hl
  have F_common_bottom := fun_mk (st := s_common_bottom) l_common_bottom c_common_bottom k_common_bottom
  have B_common_bottom := F_common_bottom.binds (ps := ["parts"]) fun _ _ _ _ _ _ us hl => len1 (P := fun us => bindArgs _ ⟨us, []⟩ = pure (List.zip _ us)) (fun _ => rfl) us hl
  have F_tops_over := fun_mk (st := s_tops_over) l_tops_over c_tops_over k_tops_over
  have B_tops_over := F_tops_over.binds (ps := ["parts", "bottom"]) fun _ _ _ _ _ _ us hl => len2 (P := fun us => bindArgs _ ⟨us, []⟩ = pure (List.zip _ us)) (fun _ _ => rfl) us hl
  have F_total := fun_mk (st := s_total) l_total c_total k_total
  have B_total := F_total.binds (ps := ["parts"]) fun _ _ _ _ _ _ us hl => len1 (P := fun us => bindArgs _ ⟨us, []⟩ = pure (List.zip _ us)) (fun _ => rfl) us hl
  have F_is_share := fun_mk (st := s_is_share) l_is_share c_is_share k_is_share
  have B_is_share := F_is_share.binds (ps := ["part"]) fun _ _ _ _ _ _ us hl => len1 (P := fun us => bindArgs _ ⟨us, []⟩ = pure (List.zip _ us)) (fun _ => rfl) us hl
  have F_are_shares := fun_mk (st := s_are_shares) l_are_shares c_are_shares k_are_shares
  have B_are_shares := F_are_shares.binds (ps := ["parts"]) fun _ _ _ _ _ _ us hl => len1 (P := fun us => bindArgs _ ⟨us, []⟩ = pure (List.zip _ us)) (fun _ => rfl) us hl
  have F_copied := fun_mk (st := s_copied) l_copied c_copied k_copied
  have B_copied := F_copied.binds (ps := ["parts"]) fun _ _ _ _ _ _ us hl => len1 (P := fun us => bindArgs _ ⟨us, []⟩ = pure (List.zip _ us)) (fun _ => rfl) us hl
  have F_are_sizes := fun_mk (st := s_are_sizes) l_are_sizes c_are_sizes k_are_sizes
  have B_are_sizes := F_are_sizes.binds (ps := ["drawing", "sizes"]) fun _ _ _ _ _ _ us hl => len2 (P := fun us => bindArgs _ ⟨us, []⟩ = pure (List.zip _ us)) (fun _ _ => rfl) us hl
  have F_are_hidden := fun_mk (st := s_are_hidden) l_are_hidden c_are_hidden k_are_hidden
  have B_are_hidden := F_are_hidden.binds (ps := ["drawing", "hidden"]) fun _ _ _ _ _ _ us hl => len2 (P := fun us => bindArgs _ ⟨us, []⟩ = pure (List.zip _ us)) (fun _ _ => rfl) us hl
  have F_bow_places := fun_mk (st := s_bow_places) l_bow_places c_bow_places k_bow_places
  have B_bow_places := F_bow_places.binds (ps := ["drawing", "name"]) fun _ _ _ _ _ _ us hl => len2 (P := fun us => bindArgs _ ⟨us, []⟩ = pure (List.zip _ us)) (fun _ _ => rfl) us hl
  have F_hidden_sizes := fun_mk (st := s_hidden_sizes) l_hidden_sizes c_hidden_sizes k_hidden_sizes
  have B_hidden_sizes := F_hidden_sizes.binds (ps := ["drawing", "hidden", "name"]) fun _ _ _ _ _ _ us hl => len3 (P := fun us => bindArgs _ ⟨us, []⟩ = pure (List.zip _ us)) (fun _ _ _ => rfl) us hl
  have F_head_sizes := fun_mk (st := s_head_sizes) l_head_sizes c_head_sizes k_head_sizes
  have B_head_sizes := F_head_sizes.binds (ps := ["drawing", "sizes", "hidden", "name"]) fun _ _ _ _ _ _ us hl => len4 (P := fun us => bindArgs _ ⟨us, []⟩ = pure (List.zip _ us)) (fun _ _ _ _ => rfl) us hl
  have F_is_table := fun_mk (st := s_is_table) l_is_table c_is_table k_is_table
  have B_is_table := F_is_table.binds (ps := ["table", "rows", "size"]) fun _ _ _ _ _ _ us hl => len3 (P := fun us => bindArgs _ ⟨us, []⟩ = pure (List.zip _ us)) (fun _ _ _ => rfl) us hl
  have F_are_tables := fun_mk (st := s_are_tables) l_are_tables c_are_tables k_are_tables
  have B_are_tables := F_are_tables.binds (ps := ["drawing", "sizes", "hidden", "tables"]) fun _ _ _ _ _ _ us hl => len4 (P := fun us => bindArgs _ ⟨us, []⟩ = pure (List.zip _ us)) (fun _ _ _ _ => rfl) us hl
  have F_World_init := fun_mk (st := s_World_init) l_World_init c_World_init k_World_init
  have B_World_init := F_World_init.binds (ps := ["self", "drawing", "sizes", "hidden", "tables"]) fun _ _ _ _ _ _ us hl => len5 (P := fun us => bindArgs _ ⟨us, []⟩ = pure (List.zip _ us)) (fun _ _ _ _ _ => rfl) us hl
  have F_law_cell_at := fun_mk (st := s_law_cell_at) l_law_cell_at c_law_cell_at k_law_cell_at
  have B_law_cell_at := F_law_cell_at.binds (ps := ["_law_script", "_law_k"]) fun _ _ _ _ _ _ us hl => len2 (P := fun us => bindArgs _ ⟨us, []⟩ = pure (List.zip _ us)) (fun _ _ => rfl) us hl
  have F_law_mixed := fun_mk (st := s_law_mixed) l_law_mixed c_law_mixed k_law_mixed
  have B_law_mixed := F_law_mixed.binds (ps := ["_law_cell", "_law_many"]) fun _ _ _ _ _ _ us hl => len2 (P := fun us => bindArgs _ ⟨us, []⟩ = pure (List.zip _ us)) (fun _ _ => rfl) us hl
  have F_law_divisor := fun_mk (st := s_law_divisor) l_law_divisor c_law_divisor k_law_divisor
  have B_law_divisor := F_law_divisor.binds (ps := ["_law_one", "_law_other"]) fun _ _ _ _ _ _ us hl => len2 (P := fun us => bindArgs _ ⟨us, []⟩ = pure (List.zip _ us)) (fun _ _ => rfl) us hl
  have F_law_lowest := fun_mk (st := s_law_lowest) l_law_lowest c_law_lowest k_law_lowest
  have B_law_lowest := F_law_lowest.binds (ps := ["_law_top", "_law_bottom"]) fun _ _ _ _ _ _ us hl => len2 (P := fun us => bindArgs _ ⟨us, []⟩ = pure (List.zip _ us)) (fun _ _ => rfl) us hl
  have F_law_pairs := fun_mk (st := s_law_pairs) l_law_pairs c_law_pairs k_law_pairs
  have B_law_pairs := F_law_pairs.binds (ps := ["_law_script", "_law_at"]) fun _ _ _ _ _ _ us hl => len2 (P := fun us => bindArgs _ ⟨us, []⟩ = pure (List.zip _ us)) (fun _ _ => rfl) us hl
  have F_law_weights := fun_mk (st := s_law_weights) l_law_weights c_law_weights k_law_weights
  have B_law_weights := F_law_weights.binds (ps := ["_law_digit", "_law_size", "_law_full"]) fun _ _ _ _ _ _ us hl => len3 (P := fun us => bindArgs _ ⟨us, []⟩ = pure (List.zip _ us)) (fun _ _ _ => rfl) us hl
  have F_law_rows := fun_mk (st := s_law_rows) l_law_rows c_law_rows k_law_rows
  have B_law_rows := F_law_rows.binds (ps := ["_law_cell", "_law_many", "_law_size", "_law_full"]) fun _ _ _ _ _ _ us hl => len4 (P := fun us => bindArgs _ ⟨us, []⟩ = pure (List.zip _ us)) (fun _ _ _ _ => rfl) us hl
  have F_law_heads := fun_mk (st := s_law_heads) l_law_heads c_law_heads k_law_heads
  have B_law_heads := F_law_heads.binds (ps := ["_law_shape", "_law_name"]) fun _ _ _ _ _ _ us hl => len2 (P := fun us => bindArgs _ ⟨us, []⟩ = pure (List.zip _ us)) (fun _ _ => rfl) us hl
  have F_law_world := fun_mk (st := s_law_world) l_law_world c_law_world k_law_world
  have B_law_world := F_law_world.binds (ps := ["_law_script", "_law_at", "_law_shape", "_law_most"]) fun _ _ _ _ _ _ us hl => len4 (P := fun us => bindArgs _ ⟨us, []⟩ = pure (List.zip _ us)) (fun _ _ _ _ => rfl) us hl
  have F_law_shares := fun_mk (st := s_law_shares) l_law_shares c_law_shares k_law_shares
  have B_law_shares := F_law_shares.binds (ps := ["_law_weights_here"]) fun _ _ _ _ _ _ us hl => len1 (P := fun us => bindArgs _ ⟨us, []⟩ = pure (List.zip _ us)) (fun _ => rfl) us hl
  have F_law_told_world := fun_mk (st := s_law_told_world) l_law_told_world c_law_told_world k_law_told_world
  have B_law_told_world := F_law_told_world.binds (ps := ["_law_world_here"]) fun _ _ _ _ _ _ us hl => len1 (P := fun us => bindArgs _ ⟨us, []⟩ = pure (List.zip _ us)) (fun _ => rfl) us hl
  have F_law_handed := fun_mk (st := s_law_handed) l_law_handed c_law_handed k_law_handed
  have B_law_handed := F_law_handed.binds (ps := ["_law_told", "_law_bits"]) fun _ _ _ _ _ _ us hl => len2 (P := fun us => bindArgs _ ⟨us, []⟩ = pure (List.zip _ us)) (fun _ _ => rfl) us hl
  have F_law_drawn := fun_mk (st := s_law_drawn) l_law_drawn c_law_drawn k_law_drawn
  have B_law_drawn := F_law_drawn.binds (ps := ["_law_script"]) fun _ _ _ _ _ _ us hl => len1 (P := fun us => bindArgs _ ⟨us, []⟩ = pure (List.zip _ us)) (fun _ => rfl) us hl
  have F_law_same := fun_mk (st := s_law_same) l_law_same c_law_same k_law_same
  have B_law_same := F_law_same.binds (ps := ["_law_found", "_law_due"]) fun _ _ _ _ _ _ us hl => len2 (P := fun us => bindArgs _ ⟨us, []⟩ = pure (List.zip _ us)) (fun _ _ => rfl) us hl
  have F_law_right := fun_mk (st := s_law_right) l_law_right c_law_right k_law_right
  have B_law_right := F_law_right.binds (ps := ["_law_world_here", "_law_shape", "_law_told"]) fun _ _ _ _ _ _ us hl => len3 (P := fun us => bindArgs _ ⟨us, []⟩ = pure (List.zip _ us)) (fun _ _ _ => rfl) us hl
  have F_law := fun_mk (st := s_law) l_law c_law k_law
  have B_law := F_law.binds (ps := ["_law_script"]) fun _ _ _ _ _ _ us hl => len1 (P := fun us => bindArgs _ ⟨us, []⟩ = pure (List.zip _ us)) (fun _ => rfl) us hl
  exact ⟨⟨f_product, _, f_is_pair, _, f_are_pairs, _, f_Drawing_init, _, f_Drawing_shape, _, f_Drawing_need_name, _, f_Drawing_sources, _, f_greatest_divisor, _, f_fraction, _, f_common_bottom, _, f_tops_over, _, f_total, _, f_is_share, _, f_are_shares, _, f_copied, _, f_are_sizes, _, f_are_hidden, _, f_bow_places, _, f_hidden_sizes, _, f_head_sizes, _, f_is_table, _, f_are_tables, _, f_World_init, _, f_law_cell_at, _, f_law_mixed, _, f_law_divisor, _, f_law_lowest, _, f_law_pairs, _, f_law_weights, _, f_law_rows, _, f_law_heads, _, f_law_world, _, f_law_shares, _, f_law_told_world, _, f_law_handed, _, f_law_drawn, _, f_law_same, _, f_law_right, _, f_law, _, k_Drawing, k_World⟩, ⟨F_product,
    B_product,
    PySem.W.mg_of X G a_product,
    F_is_pair,
    B_is_pair,
    PySem.W.mg_of X G a_is_pair,
    F_are_pairs,
    B_are_pairs,
    PySem.W.mg_of X G a_are_pairs,
    F_Drawing_init,
    B_Drawing_init,
    F_Drawing_shape,
    B_Drawing_shape,
    ⟨a_Drawing_shape, i_Drawing_shape, k_Drawing_shape⟩,
    F_Drawing_need_name,
    B_Drawing_need_name,
    ⟨a_Drawing_need_name, i_Drawing_need_name, k_Drawing_need_name⟩,
    F_Drawing_sources,
    B_Drawing_sources,
    ⟨a_Drawing_sources, i_Drawing_sources, k_Drawing_sources⟩,
    F_greatest_divisor,
    B_greatest_divisor,
    PySem.W.mg_of X G a_greatest_divisor,
    F_fraction,
    B_fraction,
    PySem.W.mg_of X G a_fraction,
    F_common_bottom,
    B_common_bottom,
    PySem.W.mg_of X G a_common_bottom,
    F_tops_over,
    B_tops_over,
    PySem.W.mg_of X G a_tops_over,
    F_total,
    B_total,
    PySem.W.mg_of X G a_total,
    F_is_share,
    B_is_share,
    PySem.W.mg_of X G a_is_share,
    F_are_shares,
    B_are_shares,
    PySem.W.mg_of X G a_are_shares,
    F_copied,
    B_copied,
    PySem.W.mg_of X G a_copied,
    F_are_sizes,
    B_are_sizes,
    PySem.W.mg_of X G a_are_sizes,
    F_are_hidden,
    B_are_hidden,
    PySem.W.mg_of X G a_are_hidden,
    F_bow_places,
    B_bow_places,
    PySem.W.mg_of X G a_bow_places,
    F_hidden_sizes,
    B_hidden_sizes,
    PySem.W.mg_of X G a_hidden_sizes,
    F_head_sizes,
    B_head_sizes,
    PySem.W.mg_of X G a_head_sizes,
    F_is_table,
    B_is_table,
    PySem.W.mg_of X G a_is_table,
    F_are_tables,
    B_are_tables,
    PySem.W.mg_of X G a_are_tables,
    F_World_init,
    B_World_init,
    F_law_cell_at,
    B_law_cell_at,
    PySem.W.mg_of X G a_law_cell_at,
    F_law_mixed,
    B_law_mixed,
    PySem.W.mg_of X G a_law_mixed,
    F_law_divisor,
    B_law_divisor,
    PySem.W.mg_of X G a_law_divisor,
    F_law_lowest,
    B_law_lowest,
    PySem.W.mg_of X G a_law_lowest,
    F_law_pairs,
    B_law_pairs,
    PySem.W.mg_of X G a_law_pairs,
    F_law_weights,
    B_law_weights,
    PySem.W.mg_of X G a_law_weights,
    F_law_rows,
    B_law_rows,
    PySem.W.mg_of X G a_law_rows,
    F_law_heads,
    B_law_heads,
    PySem.W.mg_of X G a_law_heads,
    F_law_world,
    B_law_world,
    PySem.W.mg_of X G a_law_world,
    F_law_shares,
    B_law_shares,
    PySem.W.mg_of X G a_law_shares,
    F_law_told_world,
    B_law_told_world,
    PySem.W.mg_of X G a_law_told_world,
    F_law_handed,
    B_law_handed,
    PySem.W.mg_of X G a_law_handed,
    F_law_drawn,
    B_law_drawn,
    PySem.W.mg_of X G a_law_drawn,
    F_law_same,
    B_law_same,
    PySem.W.mg_of X G a_law_same,
    F_law_right,
    B_law_right,
    PySem.W.mg_of X G a_law_right,
    F_law,
    B_law,
    PySem.W.mg_of X G a_law,
    PySem.W.mg_of X G C_Drawing,
    ⟨pg_Drawing, hd_Drawing, po_Drawing, sa_Drawing⟩,
    ⟨mk_Drawing, a_Drawing_init, i_Drawing_init, kc_Drawing⟩,
    PySem.W.mg_of X G C_World,
    ⟨pg_World, hd_World, po_World, sa_World⟩,
    ⟨mk_World, a_World_init, i_World_init, kc_World⟩,
    PySem.W.mg_none_of X G z_abs,
    PySem.W.mg_none_of X G z_all,
    PySem.W.mg_none_of X G z_bool,
    PySem.W.mg_none_of X G z_enumerate,
    PySem.W.mg_none_of X G z_int,
    PySem.W.mg_none_of X G z_isinstance,
    PySem.W.mg_none_of X G z_len,
    PySem.W.mg_none_of X G z_list,
    PySem.W.mg_none_of X G z_min,
    PySem.W.mg_none_of X G z_range,
    PySem.W.mg_none_of X G z_set,
    PySem.W.mg_none_of X G z_sorted,
    PySem.W.mg_none_of X G z_str,
    PySem.W.mg_none_of X G z_sum,
    PySem.W.mg_none_of X G z_tuple,
    PySem.W.mg_none_of X G z_zip,
    ⟨_, PySem.W.mg_of X G v_LEAST_SIZE, ⟨_, rfl⟩⟩,
    ⟨_, PySem.W.mg_of X G v_MOST_BOWS, ⟨_, rfl⟩⟩,
    ⟨_, PySem.W.mg_of X G v_MOST_HIDDEN, ⟨_, rfl⟩⟩,
    ⟨_, PySem.W.mg_of X G v_MOST_NAMES, ⟨_, rfl⟩⟩,
    ⟨_, PySem.W.mg_of X G v_MOST_SIZE, ⟨_, rfl⟩⟩,
    ⟨_, PySem.W.mg_of X G v_MOST_WEIGHTS, ⟨_, rfl⟩⟩,
    n_Drawing_bows,
    n_Drawing_count,
    n_Drawing_ties,
    n_World_drawing,
    n_World_hidden,
    n_World_sizes,
    n_World_tables,
    n_World_weighed⟩, rfl, fun s v => .of_eq rfl⟩
theorem tx_of {K : PySem.W.Frag} {mg : Str → Option Value} {f : Addr} {x : Str} (h : ∃ t : Ad, Tx K mg t ∧ t.a_law = f ∧ ∀ (s : Shared) (v : Value), BindsTo s t.d_law ⟨[v], []⟩ [(x, v)]) (e : mg "law" = some (.ref f)) :
    ∃ t : Ad, Tx K mg t ∧ mg "law" = some (.ref t.a_law) ∧ ∀ (s : Shared) (v : Value), BindsTo s t.d_law ⟨[v], []⟩ [(x, v)] := by
  obtain ⟨t, T, rfl, b⟩ := h
  exact ⟨t, T, e, b⟩
end Lw
open PySem PySem.W PyProof.Rows
set_option maxRecDepth 100000 in
set_option maxHeartbeats 0 in
theorem PySem.Challenge.cw_doingbook_k21_worlds_made_holds : PySem.Challenge.rw_doingbook_k21_worlds_made.Holds := by
  w_on; o_law; k_head; (case hw => w_witness2)
  k_fill
  refine L2.walk_ofK (l := PySem.Challenge.rw_doingbook_k21_worlds_made) (n := 63) (k := 9) (x := "_law_script") (CX := L2.CX0) (sp := fun K => U.lowSp K U.spL) rfl (by decide) rfl ⟨rfl, by decide, by decide⟩ (fun w h Y => PySem.W.kIn_of Y) ?F (fun K H a ns hl hO hS => U.spL_start hl hO hS) (fun _ _ _ _ z => z)
  case F =>
    intro w mg fa h KX G hmg
    have T : ∃ t : Lw.Ad, Lw.Tx (L2.KOf KX) mg t ∧ mg "law" = some (.ref t.a_law) ∧ ∀ (s : Shared) (v : Value), BindsTo s t.d_law ⟨[v], []⟩ [("_law_script", v)] := by
      dsimp only [L2.KOf]
      refine' Lw.tx_of (Lw.txt_mk KX G ?C_Drawing ?C_World ?a_product ?l_product ?c_product ?k_product ?a_is_pair ?l_is_pair ?c_is_pair ?k_is_pair ?a_are_pairs ?l_are_pairs ?c_are_pairs ?k_are_pairs ?a_Drawing_init ?i_Drawing_init ?l_Drawing_init ?c_Drawing_init ?k_Drawing_init ?a_Drawing_shape ?i_Drawing_shape ?l_Drawing_shape ?c_Drawing_shape ?k_Drawing_shape ?a_Drawing_need_name ?i_Drawing_need_name ?l_Drawing_need_name ?c_Drawing_need_name ?k_Drawing_need_name ?a_Drawing_sources ?i_Drawing_sources ?l_Drawing_sources ?c_Drawing_sources ?k_Drawing_sources ?a_greatest_divisor ?l_greatest_divisor ?c_greatest_divisor ?k_greatest_divisor ?a_fraction ?l_fraction ?c_fraction ?k_fraction ?a_common_bottom ?l_common_bottom ?c_common_bottom ?k_common_bottom ?a_tops_over ?l_tops_over ?c_tops_over ?k_tops_over ?a_total ?l_total ?c_total ?k_total ?a_is_share ?l_is_share ?c_is_share ?k_is_share ?a_are_shares ?l_are_shares ?c_are_shares ?k_are_shares ?a_copied ?l_copied ?c_copied ?k_copied ?a_are_sizes ?l_are_sizes ?c_are_sizes ?k_are_sizes ?a_are_hidden ?l_are_hidden ?c_are_hidden ?k_are_hidden ?a_bow_places ?l_bow_places ?c_bow_places ?k_bow_places ?a_hidden_sizes ?l_hidden_sizes ?c_hidden_sizes ?k_hidden_sizes ?a_head_sizes ?l_head_sizes ?c_head_sizes ?k_head_sizes ?a_is_table ?l_is_table ?c_is_table ?k_is_table ?a_are_tables ?l_are_tables ?c_are_tables ?k_are_tables ?a_World_init ?i_World_init ?l_World_init ?c_World_init ?k_World_init ?a_law_cell_at ?l_law_cell_at ?c_law_cell_at ?k_law_cell_at ?a_law_mixed ?l_law_mixed ?c_law_mixed ?k_law_mixed ?a_law_divisor ?l_law_divisor ?c_law_divisor ?k_law_divisor ?a_law_lowest ?l_law_lowest ?c_law_lowest ?k_law_lowest ?a_law_pairs ?l_law_pairs ?c_law_pairs ?k_law_pairs ?a_law_weights ?l_law_weights ?c_law_weights ?k_law_weights ?a_law_rows ?l_law_rows ?c_law_rows ?k_law_rows ?a_law_heads ?l_law_heads ?c_law_heads ?k_law_heads ?a_law_world ?l_law_world ?c_law_world ?k_law_world ?a_law_shares ?l_law_shares ?c_law_shares ?k_law_shares ?a_law_told_world ?l_law_told_world ?c_law_told_world ?k_law_told_world ?a_law_handed ?l_law_handed ?c_law_handed ?k_law_handed ?a_law_drawn ?l_law_drawn ?c_law_drawn ?k_law_drawn ?a_law_same ?l_law_same ?c_law_same ?k_law_same ?a_law_right ?l_law_right ?c_law_right ?k_law_right ?a_law ?l_law ?c_law ?k_law ?pg_Drawing ?hd_Drawing ?po_Drawing ?sa_Drawing ?mk_Drawing ?kc_Drawing ?pg_World ?hd_World ?po_World ?sa_World ?mk_World ?kc_World ?z_abs ?z_all ?z_bool ?z_enumerate ?z_int ?z_isinstance ?z_len ?z_list ?z_min ?z_range ?z_set ?z_sorted ?z_str ?z_sum ?z_tuple ?z_zip ?v_LEAST_SIZE ?v_MOST_BOWS ?v_MOST_HIDDEN ?v_MOST_NAMES ?v_MOST_SIZE ?v_MOST_WEIGHTS ?n_Drawing_bows ?n_Drawing_count ?n_Drawing_ties ?n_World_drawing ?n_World_hidden ?n_World_sizes ?n_World_tables ?n_World_weighed) ?tl
      (case C_Drawing => k_is)
      (case C_World => k_is)
      (case a_product => k_is)
      (case l_product => k_is)
      (case c_product => k_is)
      (case k_product => k_is)
      (case a_is_pair => k_is)
      (case l_is_pair => k_is)
      (case c_is_pair => k_is)
      (case k_is_pair => k_is)
      (case a_are_pairs => k_is)
      (case l_are_pairs => k_is)
      (case c_are_pairs => k_is)
      (case k_are_pairs => k_is)
      (case a_Drawing_init => k_is)
      (case i_Drawing_init => k_is)
      (case l_Drawing_init => k_is)
      (case c_Drawing_init => k_is)
      (case k_Drawing_init => k_is)
      (case a_Drawing_shape => k_is)
      (case i_Drawing_shape => k_is)
      (case l_Drawing_shape => k_is)
      (case c_Drawing_shape => k_is)
      (case k_Drawing_shape => k_is)
      (case a_Drawing_need_name => k_is)
      (case i_Drawing_need_name => k_is)
      (case l_Drawing_need_name => k_is)
      (case c_Drawing_need_name => k_is)
      (case k_Drawing_need_name => k_is)
      (case a_Drawing_sources => k_is)
      (case i_Drawing_sources => k_is)
      (case l_Drawing_sources => k_is)
      (case c_Drawing_sources => k_is)
      (case k_Drawing_sources => k_is)
      (case a_greatest_divisor => k_is)
      (case l_greatest_divisor => k_is)
      (case c_greatest_divisor => k_is)
      (case k_greatest_divisor => k_is)
      (case a_fraction => k_is)
      (case l_fraction => k_is)
      (case c_fraction => k_is)
      (case k_fraction => k_is)
      (case a_common_bottom => k_is)
      (case l_common_bottom => k_is)
      (case c_common_bottom => k_is)
      (case k_common_bottom => k_is)
      (case a_tops_over => k_is)
      (case l_tops_over => k_is)
      (case c_tops_over => k_is)
      (case k_tops_over => k_is)
      (case a_total => k_is)
      (case l_total => k_is)
      (case c_total => k_is)
      (case k_total => k_is)
      (case a_is_share => k_is)
      (case l_is_share => k_is)
      (case c_is_share => k_is)
      (case k_is_share => k_is)
      (case a_are_shares => k_is)
      (case l_are_shares => k_is)
      (case c_are_shares => k_is)
      (case k_are_shares => k_is)
      (case a_copied => k_is)
      (case l_copied => k_is)
      (case c_copied => k_is)
      (case k_copied => k_is)
      (case a_are_sizes => k_is)
      (case l_are_sizes => k_is)
      (case c_are_sizes => k_is)
      (case k_are_sizes => k_is)
      (case a_are_hidden => k_is)
      (case l_are_hidden => k_is)
      (case c_are_hidden => k_is)
      (case k_are_hidden => k_is)
      (case a_bow_places => k_is)
      (case l_bow_places => k_is)
      (case c_bow_places => k_is)
      (case k_bow_places => k_is)
      (case a_hidden_sizes => k_is)
      (case l_hidden_sizes => k_is)
      (case c_hidden_sizes => k_is)
      (case k_hidden_sizes => k_is)
      (case a_head_sizes => k_is)
      (case l_head_sizes => k_is)
      (case c_head_sizes => k_is)
      (case k_head_sizes => k_is)
      (case a_is_table => k_is)
      (case l_is_table => k_is)
      (case c_is_table => k_is)
      (case k_is_table => k_is)
      (case a_are_tables => k_is)
      (case l_are_tables => k_is)
      (case c_are_tables => k_is)
      (case k_are_tables => k_is)
      (case a_World_init => k_is)
      (case i_World_init => k_is)
      (case l_World_init => k_is)
      (case c_World_init => k_is)
      (case k_World_init => k_is)
      (case a_law_cell_at => k_is)
      (case l_law_cell_at => k_is)
      (case c_law_cell_at => k_is)
      (case k_law_cell_at => k_is)
      (case a_law_mixed => k_is)
      (case l_law_mixed => k_is)
      (case c_law_mixed => k_is)
      (case k_law_mixed => k_is)
      (case a_law_divisor => k_is)
      (case l_law_divisor => k_is)
      (case c_law_divisor => k_is)
      (case k_law_divisor => k_is)
      (case a_law_lowest => k_is)
      (case l_law_lowest => k_is)
      (case c_law_lowest => k_is)
      (case k_law_lowest => k_is)
      (case a_law_pairs => k_is)
      (case l_law_pairs => k_is)
      (case c_law_pairs => k_is)
      (case k_law_pairs => k_is)
      (case a_law_weights => k_is)
      (case l_law_weights => k_is)
      (case c_law_weights => k_is)
      (case k_law_weights => k_is)
      (case a_law_rows => k_is)
      (case l_law_rows => k_is)
      (case c_law_rows => k_is)
      (case k_law_rows => k_is)
      (case a_law_heads => k_is)
      (case l_law_heads => k_is)
      (case c_law_heads => k_is)
      (case k_law_heads => k_is)
      (case a_law_world => k_is)
      (case l_law_world => k_is)
      (case c_law_world => k_is)
      (case k_law_world => k_is)
      (case a_law_shares => k_is)
      (case l_law_shares => k_is)
      (case c_law_shares => k_is)
      (case k_law_shares => k_is)
      (case a_law_told_world => k_is)
      (case l_law_told_world => k_is)
      (case c_law_told_world => k_is)
      (case k_law_told_world => k_is)
      (case a_law_handed => k_is)
      (case l_law_handed => k_is)
      (case c_law_handed => k_is)
      (case k_law_handed => k_is)
      (case a_law_drawn => k_is)
      (case l_law_drawn => k_is)
      (case c_law_drawn => k_is)
      (case k_law_drawn => k_is)
      (case a_law_same => k_is)
      (case l_law_same => k_is)
      (case c_law_same => k_is)
      (case k_law_same => k_is)
      (case a_law_right => k_is)
      (case l_law_right => k_is)
      (case c_law_right => k_is)
      (case k_law_right => k_is)
      (case a_law => k_is)
      (case l_law => k_is)
      (case c_law => k_is)
      (case k_law => k_is)
      (case pg_Drawing => k_is)
      (case hd_Drawing => k_is)
      (case po_Drawing => k_is)
      (case sa_Drawing => k_is)
      (case mk_Drawing => k_is)
      (case kc_Drawing => k_is)
      (case pg_World => k_is)
      (case hd_World => k_is)
      (case po_World => k_is)
      (case sa_World => k_is)
      (case mk_World => k_is)
      (case kc_World => k_is)
      (case z_abs => k_is)
      (case z_all => k_is)
      (case z_bool => k_is)
      (case z_enumerate => k_is)
      (case z_int => k_is)
      (case z_isinstance => k_is)
      (case z_len => k_is)
      (case z_list => k_is)
      (case z_min => k_is)
      (case z_range => k_is)
      (case z_set => k_is)
      (case z_sorted => k_is)
      (case z_str => k_is)
      (case z_sum => k_is)
      (case z_tuple => k_is)
      (case z_zip => k_is)
      (case v_LEAST_SIZE => k_is)
      (case v_MOST_BOWS => k_is)
      (case v_MOST_HIDDEN => k_is)
      (case v_MOST_NAMES => k_is)
      (case v_MOST_SIZE => k_is)
      (case v_MOST_WEIGHTS => k_is)
      (case n_Drawing_bows => k_is)
      (case n_Drawing_count => k_is)
      (case n_Drawing_ties => k_is)
      (case n_World_drawing => k_is)
      (case n_World_hidden => k_is)
      (case n_World_sizes => k_is)
      (case n_World_tables => k_is)
      (case n_World_weighed => k_is)
      (case tl => exact PySem.W.mg_of KX G (by k_is))
    obtain ⟨t, T, e, hb⟩ := T
    have e0 := hmg.symm.trans e
    cases e0
    exact ⟨t.d_law, hb, fun base kb nb => Lw.G_law T⟩
