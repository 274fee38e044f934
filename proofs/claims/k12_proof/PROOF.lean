import PyProof.Rows.All
import Wide.All
import OpenK.AllK
import Wide.FinOn
import Lean
import PyProof.EqAt
import PyProof.EqKinds
import PyProof.TupleCall
import PyProof.TupleKey
import PyProof.DictKinds
import PyProof.DictRoadsH
import PyProof.FactsAll.bool
import PyProof.NeKinds
import PyProof.StationsW
import PyProof.RulesAs
import PyProof.ExcClass2
import PyProof.IsiH_tuple
import PyProof.NsDelKeeps
import PyProof.ConsumeWalk
import PyProof.Rows.SortWalk
import PySem.SetOps
import PySem.Builtin.Tuple.Common
import PyProof.Rows.SetFrom
import PyProof.SetRoads
import KE.KSortTup
import PyProof.DictWalks
import PyProof.FactsAll.set
import PyProof.CollectWalk
import KE.KDictList
import PyProof.Rows.Range3
import KE.KUnpack
import PyProof.Draws
import PyProof.EnumMake
import PyProof.TupleIter
import PyProof.WalksMore
import PyProof.ZipIter
import PyProof.Rows.ZipGen
import PyProof.ListRange
import PyProof.TupleOfStr
import KE.KRevIter
import PyProof.CollectIter
import PyProof.Rows.Tup
import PyProof.Rows.StrWeight2
import PyProof.StrBlock
import PyProof.ListStr
import PyProof.SliceStr2
import PyProof.StrBlockI
import KE.KRevSl
import PyProof.StrLawsTight
import PyProof.StrLawsIn
import PyProof.Rows.StrNews
import PyProof.SumAny
import PySem.Challenge.RW_doingbook_k12_papers_looked_at
set_option Elab.async false
namespace PySem.W.Fast
def tw4781602912395012509:=()
def tw8432141383422948882:=()
def tw1629438588723807708:=()
def tw8987915522180529605:=()
def tw10984900299709227292:=()
def tw3427435920294062160:=()
def tw8057100034313607681:=()
def tw10437005138956230777:=()
def tw16243891273892099445:=()
def tw229276701054259281:=()
def tw1403357404420121490:=()
def tw17231385242369391139:=()
def tw7789405064615055039:=()
def tw15767386227281053720:=()
def tw12921393694794479646:=()
def tw9128915792782077455:=()
def tw6308320898071294246:=()
def tw10844190222607254547:=()
def tw5998621150432290430:=()
def tw12595398151022700820:=()
def tw11845677034338639388:=()
def tw11173710769856655725:=()
def tw818956382124246636:=()
def tw2513160880239527896:=()
def tw6261292483669284685:=()
def tw4095657311085970080:=()
def tw8493048416552358843:=()
def tw6603992199680276168:=()
def tw15860522729033545913:=()
def tw12602114236172117834:=()
def tw998578036140362110:=()
def tw4961916816119925457:=()
def tw2018716411336057338:=()
def tw8092167344179627267:=()
def tw3619853222621308308:=()
def tw12346930611686307159:=()
def tw17558701175505101118:=()
def tw15156276415939006945:=()
def tw13805142505037556098:=()
def tw94142350643660712:=()
def tw10525377296088457314:=()
def tw1652684557578670924:=()
def tw8245398480806147329:=()
def tw7016788077159297909:=()
def tw15704505366249734421:=()
def tw17785195205761102851:=()
def tw83835148247228801:=()
def tw13161820107194120638:=()
def tw4063824304511485101:=()
def tw13394495159352349174:=()
def tw15853825624381450930:=()
def tw9087702319324312405:=()
def tw18018327140517772214:=()
def tw9146228127175601506:=()
def tw17974018906851390921:=()
def tw927117714418286476:=()
def tw5304935564370737816:=()
def tw17931975211159843275:=()
def tw15254506962349699724:=()
def tw3099018678758107827:=()
def tw15770022548450577288:=()
def tw9540002018041277337:=()
def tw11951025811470808754:=()
def tw17420465010111942550:=()
def tw2074586691855148843:=()
def tw17325858552866674938:=()
def tw10488943978358354526:=()
def tw5926756967608778807:=()
def tw17036801609869782534:=()
def tw11313789277828309740:=()
def tw10799099556963698556:=()
def tw10359832936980080623:=()
def tw5001746249605022796:=()
def tw9238324509741086815:=()
def tw3167851176731678698:=()
def tw14660871737913398336:=()
def tw8730545512731251437:=()
def tw1087848359727661862:=()
def tw6858684078384247745:=()
def tw6051510627016486206:=()
def tw14028629949422881069:=()
def tw16151259229053797941:=()
def tw2372411880973308565:=()
def tw3307513279401948912:=()
def tw18256016164540743251:=()
def tw14368157075120243775:=()
def tw12187685001748279295:=()
def tw7310119996635096829:=()
def tw6120814738355023632:=()
def tw4983947518589766061:=()
def tw17150985308806263664:=()
def tw9383255402737468565:=()
def tw6906410120515765778:=()
def tw11878643167831069374:=()
def tw16572692667392738913:=()
def tw1480586253356698420:=()
def tw9043312561886285575:=()
def tw13941350523177155046:=()
def tw9151861087726732108:=()
def tw12828931106368060635:=()
def tw655173103951000888:=()
def tw15266198941701870496:=()
def tw8911649175390099965:=()
def tw10453833731302108967:=()
def tw1092716549789082355:=()
def tw3501471635860532917:=()
def tw6517148429467833791:=()
def tw16699657452069934431:=()
def tw710593247958176514:=()
def tw8165161372893148021:=()
def tw7383978295673347373:=()
def tw12655244005678399270:=()
def tw10243501291661773307:=()
def tw182482841478234265:=()
def tw5287350563446411237:=()
def tw12735181933544285714:=()
def tw5015241059594449261:=()
def tw13109088368741956906:=()
def tw17861593154741226137:=()
def tw7295338077017893420:=()
def tw1046806625486851789:=()
def tw12610470245391896848:=()
def tw6031407188038999863:=()
def tw17597185634855337197:=()
def tw9755727230069795253:=()
def tw4890553134860249728:=()
def tw7048909896192880411:=()
def tw13733727276857096013:=()
def tw17523767355882233817:=()
def tw1318698777085623802:=()
def tw7871755584934466426:=()
def tw12825445352842326873:=()
def tw8006235325606149522:=()
def tw7364141545553547948:=()
def tw3311318480348672263:=()
def tw16248993302911391061:=()
def tw12927479480847141129:=()
def tw5747923293853072732:=()
def tw18303040455217490083:=()
def tw820045255801243332:=()
def tw11335504981073054962:=()
def tw16635335724237130835:=()
def tw3337903171779592956:=()
def tw8401822807147045735:=()
def tw8642084273596003288:=()
def tw5286862277270545645:=()
def tw10642507382870093054:=()
def tw4834817162098643442:=()
def tw3304151550274994941:=()
def tw16079998574565040159:=()
def tw2017651294539614450:=()
def tw11148879765548328462:=()
def tw6243246428290068778:=()
def tw8828799155336306515:=()
def tw14597918489957029087:=()
def tw15324677901148782061:=()
def tw11583622229359858297:=()
def tw17352548471706041333:=()
def tw10831633615267819216:=()
def tw15178930486286315308:=()
def tw3289284875299482516:=()
def tw10630682692662308299:=()
def tw981721099147743170:=()
def tw6894826361548281322:=()
def tw16747621853449372673:=()
def tw202317594333220620:=()
def tw17139899342771915278:=()
def tw12517009724002687828:=()
def tw1956460563680045357:=()
def tw15811589925675037445:=()
def tw9919743108507541918:=()
def tw5726209185081301399:=()
def tw14379095556552378223:=()
def tw8248786897977130104:=()
def tw8877152852159666405:=()
def tw16597770016898813719:=()
def tw10076596708412823126:=()
def tw13698601931825293912:=()
def tw9086275723214736940:=()
def tw15949531867382285781:=()
def tw7961060195117602970:=()
def tw10484979273845052815:=()
def tw9259706245625277171:=()
def tw1787912434927805085:=()
def tw798703369695481866:=()
def tw16727578483510098019:=()
def tw2434494496921302277:=()
def tw1987415695712525766:=()
def tw9231894118153133646:=()
def tw8822805646752018189:=()
def tw1149552224523680586:=()
def tw5782800144727586798:=()
def tw14038883909145189934:=()
def tw971011264996538414:=()
def tw7488094859747217827:=()
def tw18393257733228326259:=()
def tw1131591731735439520:=()
def tw4415797260162426780:=()
def tw10058708943101804947:=()
def tw11813782562977055210:=()
def tw16885270513808603620:=()
def tw14174455288708126728:=()
def tw13963870594607606881:=()
def tw8808101477575768465:=()
def tw2472689254841870985:=()
def tw17417833237498111053:=()
def tw16095408699931868770:=()
def tw14948009336894662789:=()
def tw5677546877426037202:=()
def tw13105103723078939627:=()
def tw1514046406201624084:=()
def tw4742077982480031409:=()
def tw14561431673874187366:=()
def tw8239761503171087948:=()
def tw6276771606480089253:=()
def tw8858928333678132328:=()
def tw14217585927604130033:=()
def tw11303473679801663753:=()
def tw274918112651161836:=()
def tw13142872807468350273:=()
def tw4279482395740792052:=()
def tw4327073744761199681:=()
def tw11825444283125184103:=()
def tw11380126558021198019:=()
def tw17910472384794141555:=()
def tw12012404700214672008:=()
def tw6690991451489027512:=()
def tw5517872076558236304:=()
def tw11782502649304862369:=()
def tw7099133185536518706:=()
def tw3015938891357459628:=()
def tw537617182258866739:=()
def tw11891603774506824672:=()
def tw15040599919465815776:=()
def tw14144448325354268525:=()
def tw656901667334065601:=()
def tw18360941870181250573:=()
def tw10318802586606856463:=()
def tw18403918413807939348:=()
def tw16609531720223732497:=()
def tw488918303537580541:=()
def tw14080894493093964301:=()
def tw14121669495950729594:=()
def tw15026537204870438180:=()
def tw15408003847814008434:=()
def tw9187727882097808667:=()
def tw10670973376675619994:=()
def tw17264578273469858415:=()
def tw17792461083175868304:=()
def tw12902325955655676767:=()
def tw3147770987505504004:=()
def tw16636695123230277791:=()
def tw13822805788821948771:=()
def tw8394385961279026426:=()
def tw12205187999241625326:=()
def tw10821065400361660139:=()
def tw1621358994329902642:=()
def tw11231325697327015959:=()
def tw3030002187589357404:=()
def tw8283034747739826124:=()
def tw6376309374480304304:=()
def tw18025249328861887696:=()
def tw15084199644977737713:=()
def tw11396232155532775307:=()
def tw7490301476493777921:=()
def tw8500553718367322692:=()
def tw321369185090787407:=()
def tw8743133377158006371:=()
def tw16950458011187279093:=()
def tw12896462401043584546:=()
def tw15536129107590227286:=()
def tw2173246153249257563:=()
def tw15819129661137086424:=()
def tw5271902001576453112:=()
def tw15233111929045533160:=()
def tw16984536501355463679:=()
def tw6171370305635495244:=()
def tw11718452971573193619:=()
def tw301049397006518035:=()
def tw9460783358352210879:=()
def tw18140214274824723319:=()
def tw15328121667304293761:=()
def tw4963971850360976092:=()
def tw11333298778563737853:=()
def tw10018334670631028787:=()
def tw1674865593726916041:=()
def tw7533653681564505565:=()
def tw6276724488993115137:=()
def tw17264442432264480896:=()
def tw15210545256783522461:=()
def tw18014059953036622123:=()
def tw15634305942469089898:=()
def tw5310035334981370666:=()
def tw7364597985977577759:=()
def tw12591920576759834236:=()
def tw13817389936811266658:=()
def tw883399714013578342:=()
def tw4245495094335094005:=()
def tw16041628725121435483:=()
def tw5289534531238940552:=()
def tw9051260534640730926:=()
def tw12385317543844046358:=()
def tw4127620702261813618:=()
def tw17067008145750356872:=()
def tw13211470249280169157:=()
def tw7151469219759921414:=()
end PySem.W.Fast
set_option genSizeOf false
set_option Elab.async false
set_option linter.all false
set_option maxRecDepth 100000
section
open PySem PySem.Spec PyProof.Rows
theorem F0:type_of% @List.length_map:=@List.length_map
theorem F1:type_of% @wpAny_bind:=@wpAny_bind
theorem F2:type_of% @List.getElem?_eq_getElem:=@List.getElem?_eq_getElem
theorem F3:type_of% @List.length_append:=@List.length_append
theorem F4:type_of% @List.mem_map:=@List.mem_map
theorem F5:type_of% @wpAny_pure:=@wpAny_pure
theorem F6:type_of% @Heap.get?_push_of_some:=@Heap.get?_push_of_some
theorem F7:type_of% @List.getD_eq_getElem?_getD:=@List.getD_eq_getElem?_getD
theorem F8:type_of% @List.map_append:=@List.map_append
theorem F9:type_of% @Nat.le_refl:=@Nat.le_refl
theorem Ga:type_of% @List.mem_cons_self:=@List.mem_cons_self
theorem Gb:type_of% @List.mem_cons_of_mem:=@List.mem_cons_of_mem
theorem Gd:type_of% @Heap.lt_size:=@Heap.lt_size
theorem Ge:type_of% @List.map_cons:=@List.map_cons
theorem Gf:type_of% @List.mem_append:=@List.mem_append
theorem Gg:type_of% @List.mem_of_getElem?:=@List.mem_of_getElem?
theorem Gh:type_of% @List.mem_cons:=@List.mem_cons
theorem Gi:type_of% @List.size_toArray:=@List.size_toArray
theorem Gj:type_of% @List.getElem?_eq_some_iff:=@List.getElem?_eq_some_iff
theorem Gk:type_of% @List.mem_singleton:=@List.mem_singleton
theorem Gm:type_of% @Heap.get?_push_size:=@Heap.get?_push_size
theorem Gn:type_of% @PySem.boot_len:=@PySem.boot_len
theorem Gp:type_of% @if_neg:=@if_neg
theorem Gq:type_of% @if_pos:=@if_pos
theorem Gr:type_of% @List.length_singleton:=@List.length_singleton
theorem Gs:type_of% @List.getElem?_map:=@List.getElem?_map
theorem Gu:type_of% @Array.getElem?_eq_getElem:=@Array.getElem?_eq_getElem
theorem Gv:type_of% @Nat.ne_of_lt:=@Nat.ne_of_lt
theorem Gw:type_of% @Option.some.inj:=@Option.some.inj
theorem Gx:type_of% @List.length_cons:=@List.length_cons
theorem Gy:type_of% @List.mem_append_right:=@List.mem_append_right
theorem Gz:type_of% @List.getElem_mem:=@List.getElem_mem
theorem GA:type_of% @Nat.lt_of_lt_of_le:=@Nat.lt_of_lt_of_le
theorem GB:type_of% @List.all_eq_true:=@List.all_eq_true
theorem GC:type_of% @List.mem_range:=@List.mem_range
theorem GD:type_of% @List.nodup_iff_pairwise_ne:=@List.nodup_iff_pairwise_ne
theorem GF:type_of% @PassesOwn.never:=@PassesOwn.never
theorem GG:type_of% @boot_isinstance:=@boot_isinstance
theorem GH:type_of% @List.mem_append_left:=@List.mem_append_left
theorem GI:type_of% @decide_eq_true_eq:=@decide_eq_true_eq
theorem GK:type_of% @List.map_map:=@List.map_map
theorem GN:type_of% @List.length_take:=@List.length_take
theorem GO:type_of% @wpAny_newObj_type:=@wpAny_newObj_type
theorem GP:type_of% @decide_eq_true:=@decide_eq_true
theorem GQ:type_of% @List.lookup_cons:=@List.lookup_cons
theorem GR:type_of% @decide_eq_false:=@decide_eq_false
theorem GS:type_of% @List.append_nil:=@List.append_nil
theorem GU:type_of% @Nat.le_trans:=@Nat.le_trans
theorem GV:type_of% @wpAny_call_entry:=@wpAny_call_entry
theorem GW:type_of% @List.filter_cons:=@List.filter_cons
theorem GX:type_of% @Option.map_eq_some_iff:=@Option.map_eq_some_iff
theorem GY:type_of% @PySem.F.slot_list_append:=@PySem.F.slot_list_append
theorem GZ:type_of% @PySem.F.type_list_append:=@PySem.F.type_list_append
theorem G0:type_of% @PyProof.Rows.callWith_type1:=@PyProof.Rows.callWith_type1
theorem G6:type_of% @Heap.get?_update_self:=@Heap.get?_update_self
theorem G7:type_of% @Array.getElem?_toList:=@Array.getElem?_toList
theorem G8:type_of% @Heap.SameBut.update:=@Heap.SameBut.update
theorem G9:type_of% @PySem.W.kia_one:=@PySem.W.kia_one
theorem Hm:type_of% @List.length_drop:=@List.length_drop
theorem Ho:type_of% @List.take_length:=@List.take_length
theorem Hq:type_of% @List.getLast?_cons_cons:=@List.getLast?_cons_cons
theorem Hr:type_of% @wpAny_truthy_bool:=@wpAny_truthy_bool
theorem Hs:type_of% @wpAny_holding:=@wpAny_holding
theorem Ht:type_of% @Int.toNat_natCast:=@Int.toNat_natCast
theorem Hu:type_of% @List.pairwise_map:=@List.pairwise_map
theorem Hv:type_of% @Around.under_plainId:=@Around.under_plainId
theorem Hw:type_of% @List.not_mem_nil:=@List.not_mem_nil
theorem Hx:type_of% @sizeLine_eq:=@sizeLine_eq
theorem Hy:type_of% @List.append_assoc:=@List.append_assoc
theorem HA:type_of% @Bool.false_ne_true:=@Bool.false_ne_true
theorem HB:type_of% @List.length_dropLast:=@List.length_dropLast
theorem HC:type_of% @List.mem_filter:=@List.mem_filter
theorem HD:type_of% @Bool.eq_iff_iff:=@Bool.eq_iff_iff
theorem HE:type_of% @codeAny_builtin:=@codeAny_builtin
theorem HF:type_of% @List.drop_eq_getElem_cons:=@List.drop_eq_getElem_cons
theorem HG:type_of% @List.replicate_succ:=@List.replicate_succ
theorem HH:type_of% @List.filter_eq_self:=@List.filter_eq_self
theorem HI:type_of% @List.flatten_cons:=@List.flatten_cons
theorem HJ:type_of% @List.length_replicate:=@List.length_replicate
theorem HK:type_of% @List.getElem?_eq_none:=@List.getElem?_eq_none
theorem HL:type_of% @PySem.F.slot_list_extend:=@PySem.F.slot_list_extend
theorem HM:type_of% @PySem.F.type_list_extend:=@PySem.F.type_list_extend
theorem HN:type_of% @List.nodup_cons:=@List.nodup_cons
theorem HP:type_of% @List.cons.injEq:=@List.cons.injEq
theorem HQ:type_of% @Nat.zero_le:=@Nat.zero_le
theorem HS:type_of% @wpAny_callSpecial?_slot:=@wpAny_callSpecial?_slot
theorem HU:type_of% @Bool.and_eq_true:=@Bool.and_eq_true
theorem HV:type_of% @F.plain_set_update_loop:=@F.plain_set_update_loop
theorem HW:type_of% @List.getElem_map:=@List.getElem_map
theorem HX:type_of% @List.take_of_length_le:=@List.take_of_length_le
theorem HY:type_of% @wpAny_setState_of:=@wpAny_setState_of
theorem HZ:type_of% @Array.length_toList:=@Array.length_toList
theorem Ia:type_of% @List.length_pos_iff:=@List.length_pos_iff
theorem Ib:type_of% @List.getElem?_append_left:=@List.getElem?_append_left
theorem Ic:type_of% @builtinLookup_eq_fast:=@builtinLookup_eq_fast
theorem Ie:type_of% @boot_tuple:=@boot_tuple
theorem Ig:type_of% @List.nodup_append:=@List.nodup_append
theorem Ih:type_of% @Nat.lt_succ_of_lt:=@Nat.lt_succ_of_lt
theorem Ii:type_of% @List.pairwise_singleton:=@List.pairwise_singleton
theorem Ij:type_of% @wpAny_ite_split:=@wpAny_ite_split
theorem Ik:type_of% @beq_eq_false_iff_ne:=@beq_eq_false_iff_ne
theorem Il:type_of% @List.getElem?_set_self:=@List.getElem?_set_self
theorem Im:type_of% @Array.getElem?_eq_none:=@Array.getElem?_eq_none
theorem Io:type_of% @Nat.lt_irrefl:=@Nat.lt_irrefl
theorem Ip:type_of% @List.any_eq_true:=@List.any_eq_true
theorem Iq:type_of% @Nat.succ_ne_zero:=@Nat.succ_ne_zero
theorem Ir:type_of% @beq_iff_eq:=@beq_iff_eq
theorem Iu:type_of% @isSubtype_type:=@isSubtype_type
theorem Iw:type_of% @List.pairwise_cons:=@List.pairwise_cons
theorem Iy:type_of% @wpAny_passesOwn:=@wpAny_passesOwn
theorem Iz:type_of% @wpAny_specialOf:=@wpAny_specialOf
theorem IA:type_of% @List.length_nil:=@List.length_nil
theorem IB:type_of% @boot_list:=@boot_list
theorem IC:type_of% @List.length_range:=@List.length_range
theorem ID:type_of% @Classical.not_not:=@Classical.not_not
theorem IE:type_of% @wpAny_mono:=@wpAny_mono
theorem IF:type_of% @List.take_succ:=@List.take_succ
theorem IG:type_of% @codeAny_mono:=@codeAny_mono
namespace L2
section
abbrev Key:=Sum Int Str
def vX:Key->Value->Bool
 | .inl k,v=>Value.isInt k v
 | .inr x,v=>Value.isStrOf x v
def DC(w:World):Key->Int
 | .inl k=>hashInt k
 | .inr x=>hashStr w x
theorem bI:∀{k:Key} {v:Value},vX k v=true->(∃i t,k=Sum.inl i/\v=Value.int i t)∨(∃x t,k=Sum.inr x/\v=Value.str x t)
 | .inl i,v,h=>by
  obtain⟨t,e⟩:=Value.isInt_shape (k:=i) (v:=v) h;exact .inl ⟨i,t,rfl,e⟩
 | .inr x,v,h=>by
  obtain⟨t,e⟩:=Value.isStrOf_shape (x:=x) (v:=v) h;exact .inr ⟨x,t,rfl,e⟩
theorem zl(a b:Int):decide ((Sum.inl a:Key)=Sum.inl b)=(a==b):=by
 by_cases e:a=b
 ·subst e;simp
 ·have h:¬(Sum.inl a:Key)=Sum.inl b:=fun q=>e (Sum.inl.inj q);rw[GR h];exact(Ik.mpr e).symm
theorem xZ(a b:Str):decide ((Sum.inr a:Key)=Sum.inr b)=decide (a=b):=by
 by_cases e:a=b
 ·subst e;simp
 ·have h:¬(Sum.inr a:Key)=Sum.inr b:=fun q=>e (Sum.inr.inj q);rw[GR h,GR e]
theorem ya(a:Int)(b:Str):decide ((Sum.inl a:Key)=Sum.inr b)=false:=GR (fun q=>nomatch q)
theorem yZ(a:Str)(b:Int):decide ((Sum.inr a:Key)=Sum.inl b)=false:=GR (fun q=>nomatch q)
def nA(prog:Program)(w:World):PySem.KeyKind prog w Key where
 is:=vX
 hash:=DC w
 inj:=fun v a b ha hb=>by
  rcases bI ha with⟨i,t,rfl,rfl⟩ |⟨x,t,rfl,rfl⟩
  ·rcases bI hb with⟨j,u,rfl,e⟩ |⟨y,u,rfl,e⟩
   ·injection e with e1 _;rw[e1]
   ·exact nomatch e
  ·rcases bI hb with⟨j,u,rfl,e⟩ |⟨y,u,rfl,e⟩
   ·exact nomatch e
   ·injection e with e1 _;rw[e1]
 byValue:=fun k v h=>by
  rcases bI h with⟨i,t,rfl,rfl⟩ |⟨x,t,rfl,rfl⟩<;>rfl
 pyHash:=fun hv h=>by
  rcases bI hv with⟨i,t,rfl,rfl⟩ |⟨x,t,rfl,rfl⟩
  ·exact wpAny_pyHash_int h
  ·exact wpAny_pyHash_str h
 eqBool:=fun hu hv h=>by
  rcases bI hu with⟨i,t,rfl,rfl⟩ |⟨x,t,rfl,rfl⟩
  ·rcases bI hv with⟨j,u,rfl,rfl⟩ |⟨y,u,rfl,rfl⟩
   ·rw[zl]at h;exact wpAny_eqBool_int h
   ·rw[ya]at h;exact SeqAt.EqAt.int_str i t y u _ _ _ _ h
  ·rcases bI hv with⟨j,u,rfl,rfl⟩ |⟨y,u,rfl,rfl⟩
   ·rw[yZ]at h;exact SeqAt.EqAt.str_int x t j u _ _ _ _ h
   ·rw[xZ]at h;exact wpAny_eqBool_str h
 «strs»:=fun k x t v h=>by
  rcases bI h with⟨i,u,rfl,e⟩ |⟨y,u,rfl,e⟩
  ·exact nomatch e
  ·injection e with e1 _;subst e1;cases v<;>rfl
end
section
inductive V where
 | non | bl (b:Bool) | int (i:Int) | str (x:Str) | byt (b:Array UInt8) | flt (b:UInt64) | ref (a:Addr) | ty (n:String)
 deriving DecidableEq
def RelV:V->Value->Prop
 | .non,u=>u=Value.none
 | .bl b,u=>u=Value.bool b
 | .int i,u=>∃t,u=Value.int i t
 | .str x,u=>∃t,u=Value.str x t
 | .byt b,u=>∃t,u=Value.bytes b t
 | .flt b,u=>∃t,u=Value.float b t
 | .ref a,u=>u=Value.ref a
 | .ty n,u=>u=Value.type n
abbrev Vals:List V->List Value->Prop:=Paired RelV
theorem Vals.length(r:Vals xs us):xs.length=us.length:=Paired.length r
theorem Vals.get:∀{xs:List V} {us:List Value} {i:Nat} {x:V},Vals xs us->xs[i]?=some x->∃u,us[i]?=some u/\RelV x u
 | _,_,_,_,.nil,e=>by simp at e
 | _,_,0,_,.cons r _,e=>by simp at e;subst e;exact⟨_,rfl,r⟩
 | _,_,i+1,x,.cons _ t,e=>by
  obtain⟨u,h1,h2⟩:=Vals.get (i:=i) (x:=x) t (by simpa using e);exact⟨u,by simpa using h1,h2⟩
theorem Vals.set{x:V}{u:Value}(r:RelV x u):∀{xs:List V} {us:List Value} (i:Nat),Vals xs us->Vals (xs.set i x) (us.set i u)
 | _,_,_,.nil=>.nil
 | _,_,0,.cons _ t=>.cons r t
 | _,_,i+1,.cons q t=>.cons q (Vals.set r i t)
theorem Vals.append:∀{xs ys:List V} {us ws:List Value},Vals xs us->Vals ys ws->Vals (xs++ys) (us++ws)
 | _,_,_,_,.nil,s=>s
 | _,_,_,_,.cons r t,s=>.cons r (Vals.append t s)
theorem Vals.take:∀{xs:List V} {us:List Value} (n:Nat),Vals xs us->Vals (xs.take n) (us.take n)
 | _,_,0,_=>.nil
 | _,_,_+1,.nil=>.nil
 | _,_,n+1,.cons r t=>.cons r (Vals.take n t)
theorem Vals.drop:∀{xs:List V} {us:List Value} (n:Nat),Vals xs us->Vals (xs.drop n) (us.drop n)
 | _,_,0,r=>r
 | _,_,_+1,.nil=>.nil
 | _,_,n+1,.cons _ t=>Vals.drop n t
def iE:Option V->Option Value->Prop
 | some v,some u=>RelV v u
 | none,none=>True
 | _,_=>False
def KV{κ:Type}:List (κ×V)->List (κ×Value)->Prop:=Paired fun(p:κ×V) (q:κ×Value)=>p.1=q.1/\RelV p.2 q.2
def kV:Key->V
 | .inl i=>.int i
 | .inr x=>.str x
inductive HO where
  | lst (xs:List V)
  | tup (xs:List V)
  | dK (kvs:List (Key×V)) | dT (kvs:List (List Key×V))
  | set (S:Int->Bool) (n:Nat)
  | ins (C dx:Addr) (fs:List (Str×V))
  | own (x:Addr)
  | xd (fs:List (Str×V))
  | met (f x:Addr)
  | rng (lo hi:Int)
  | frz (o:Obj) (u:HO)
  | tbl (ps:Array Value)
  | ext (φ:Heap->Prop)
abbrev Hp:=Addr->Option HO
def upd(H:Hp)(a:Addr)(o:HO):Hp:=fun b=>if b=a then some o else H b
theorem bh:upd H a o a=some o:=by unfold upd;rw[Gq rfl]
theorem aR(h:b≠a):upd H a o b=H b:=by unfold upd;rw[Gp h]
theorem wL{H:Hp}(h:H a=some o)(h':H b=some u)(d:o≠u):a≠b:=by
 intro e;subst e;rw[h]at h';exact d (Gw h')
theorem bf{H:Hp}(h:H a=some o)(h':H b=none):a≠b:=by
 intro e;subst e;rw[h]at h';cases h'
section
variable (P:Program)(w:World)
def bP(H:Hp)(h:Heap)(a:Addr):HO->Prop
 | .lst xs=>xs.length≤sizeLine/\∃(its:List Value) (n:Nat),Vals xs its/\h.get? a=some { cls:=.type "list",data:=.seq its.toArray n }
 | .tup xs=>xs.length≤sizeLine/\∃its:List Value,Vals xs its/\IsTup h a its.toArray
 | .dK kvs=>kvs.length≤sizeLine/\(a==sysModules)=false/\∃vs,KV kvs vs/\h.DictOf (nA P w) a vs
 | .dT kvs=>kvs.length≤sizeLine/\(a==sysModules)=false/\∃xs:List (List Key×Addr×Value),
   Paired (fun(p:List Key×V) (q:List Key×Addr×Value)=>p.1=q.1/\H q.2.1=some (.tup (p.1.map kV))/\RelV p.2 q.2.2) kvs xs /\
   ∃o es ep,h.get? a=some o/\o.ExactDict/\o.data=.dict es ep/\es.toList=xs.map (entryOfKey (tupleKind (nA P w)))/\(xs.map (·.1)).Nodup
 | .set S n=>h.SetOf (intKind P w) a S n
 | .ins C dx fs=>H dx=some (.own a)/\fs.length≤1000/\dx≠a/\h.get? a=some (PySem.W.instObj C dx) /\
   ∃mA,h.Ns1 dx mA/\(∀f,iE (fs.lookup f) (mA f))/\PySem.Within mA (fs.map (·.1))
 | .own _=>∃o,h.get? a=some o
 | .xd fs=>∃mA,h.Ns1 a mA/\∀f,iE (fs.lookup f) (mA f)
 | .rng lo hi=>∃t u v,h.get? a=some { cls:=.type "range",data:=.fields #[.int lo t,.int hi u,.int 1 v] }
 | .frz o u=>h.get? a=some o/\bP H h a u
 | .tbl ps=>h.get? a=some { cls:=.none,data:=.fields ps }
 | .met f x=>h.get? a=some (PySem.W.methodObj (.ref f) (.ref x))
 | .ext φ=>φ h/\(∃o,h.get? a=some o)/\∀h1 h2:Heap,φ h1->(∀o,h1.get? a=some o->h2.get? a=some o)->φ h2
def HOk(H:Hp)(h:Heap):Prop:=∀a o,H a=some o->bP P w H h a o
end
section
variable {P:Program}{w:World}{H H':Hp}{h h':Heap}{a:Addr}{o:HO}
theorem bP.lt(x:bP P w H h a o):a<h.objs.size:=by
 cases o with
 | lst xs=>obtain⟨_,_,_,_,e⟩:=x;exact Gd e
 | tup xs=>obtain⟨_,_,_,p⟩:=x;exact p.lt
 | dK kvs=>obtain⟨_,_,_,_,o,_,_,e,_⟩:=x;exact Gd e
 | dT kvs=>obtain⟨_,_,_,_,o,_,_,e,_⟩:=x;exact Gd e
 | set S n=>obtain⟨o,_,_,_,e,_⟩:=x;exact Gd e
 | ins C dx fs=>obtain⟨_,_,_,e,_⟩:=x;exact Gd e
 | own y=>obtain⟨_,e⟩:=x;exact Gd e
 | xd fs=>obtain⟨_,⟨_,_,_,e,_⟩,_⟩:=x;exact Gd e
 | rng lo hi=>obtain⟨_,_,_,e⟩:=x;exact Gd e
 | frz ob u=>obtain⟨e,_⟩:=x;exact Gd e
 | tbl ps=>exact Gd (show h.get? a=some _ from x)
 | met f y=>exact Gd (show h.get? a=some _ from x)
 | ext φ=>obtain⟨_,⟨_,e⟩,_⟩:=x;exact Gd e
theorem Paired.mapP{α β:Type}{F G:α->β->Prop}:∀{l₁:List α} {l₂:List β},Paired F l₁ l₂->(∀a b,F a b->G a b)->Paired G l₁ l₂
 | _,_,.nil,_=>.nil
 | _,_,.cons r t,f=>.cons (f _ _ r) (Paired.mapP t f)
theorem bP.stay(x:bP P w H h a o)(k:∀b u,(b=a∨H b=some (.own a))->h.get? b=some u->h'.get? b=some u)
  (ho:∀b,H b=some (.own a)->H' b=some (.own a)) (ht:∀b xs,H b=some (.tup xs)->H' b=some (.tup xs)):bP P w H' h' a o:=by
 induction o with
 | lst xs=>obtain⟨z,its,n,r,e⟩:=x;exact⟨z,its,n,r,k _ _ (.inl rfl) e⟩
 | tup xs=>obtain⟨z,its,r,ob,e,c⟩:=x;exact⟨z,its,r,ob,k _ _ (.inl rfl) e,c⟩
 | dK kvs=>obtain⟨z,y,vs,r,ob,es,ep,e,c⟩:=x;exact⟨z,y,vs,r,ob,es,ep,k _ _ (.inl rfl) e,c⟩
 | dT kvs =>
  obtain⟨z,y,xs,r,ob,es,ep,e,c⟩:=x;exact⟨z,y,xs,Paired.mapP r fun p q z=>⟨z.1,ht _ _ z.2.1,z.2.2⟩,ob,es,ep,k _ _ (.inl rfl) e,c⟩
 | set S n=>obtain⟨ob,es,ep,t,e,c⟩:=x;exact⟨ob,es,ep,t,k _ _ (.inl rfl) e,c⟩
 | ins C dx fs =>
  obtain⟨d,z,ne,e,mA,⟨od,es,ep,e2,c⟩,r⟩:=x;exact⟨ho _ d,z,ne,k _ _ (.inl rfl) e,mA,⟨od,es,ep,k _ _ (.inr d) e2,c⟩,r⟩
 | own y=>obtain⟨ob,e⟩:=x;exact⟨ob,k _ _ (.inl rfl) e⟩
 | xd fs=>obtain⟨mA,⟨od,es,ep,e,c⟩,r⟩:=x;exact⟨mA,⟨od,es,ep,k _ _ (.inl rfl) e,c⟩,r⟩
 | rng lo hi=>obtain⟨t,u,v,e⟩:=x;exact⟨t,u,v,k _ _ (.inl rfl) e⟩
 | frz ob u ih=>obtain⟨e,q⟩:=x;exact⟨k _ _ (.inl rfl) e,ih q⟩
 | tbl ps =>
  have e:h.get? a=some { cls:=.none,data:=.fields ps }:=x;show h'.get? a=some { cls:=.none,data:=.fields ps };exact k a _ (.inl rfl) e
 | met f y =>
  have e:h.get? a=some (PySem.W.methodObj (.ref f) (.ref y)):=x;show h'.get? a=some (PySem.W.methodObj (.ref f) (.ref y));exact k a _ (.inl rfl) e
 | ext φ=>obtain⟨p,⟨o,e⟩,st⟩:=x;exact⟨st _ _ p fun o q=>k _ _ (.inl rfl) q,⟨o,k _ _ (.inl rfl) e⟩,st⟩
theorem HOk.lt(x:HOk P w H h)(e:H a=some o):a<h.objs.size:=(x a o e).lt
theorem HOk.fresh(x:HOk P w H h)(e:h.objs.size≤a):H a=none:=by
 cases q:H a with
 | none=>rfl
 | some u=>exact absurd (GA (x.lt q) e) (Io _)
theorem HOk.kept(x:HOk P w H h)(k:∀b u,h.get? b=some u->h'.get? b=some u):HOk P w H h':=fun a o e =>
 (x a o e).stay (fun b u _ q=>k b u q) (fun _ q=>q) fun _ _ q=>q
theorem HOk.laid(x:HOk P w H h)(k:∀b u,h.get? b=some u->h'.get? b=some u)(hp:h.objs.size≤a)(new:bP P w (upd H a o) h' a o):HOk P w (upd H a o) h':=fun b u e=>by
 have hn:=x.fresh hp;by_cases hb:b=a
 ·subst hb;rw[bh]at e;cases e;exact new
 ·rw[aR hb]at e;exact(x b u e).stay (fun c v _ q=>k c v q) (fun c q=>by rw[aR (bf q hn)];exact q) fun c xs q=>by rw[aR (bf q hn)];exact q
end
def Rd(H:Hp)(a:Addr)(u:HO):Prop:=H a=some u∨∃o,H a=some (.frz o u)
theorem Rd.ok(r:Rd H a u)(x:HOk P w H h):bP P w H h a u:=by
 rcases r with r |⟨o,r⟩
 ·exact x a u r
 ·obtain⟨_,q⟩:=x a _ r;exact q
def Mut:Option HO->Prop
 | some (.lst _)=>True
 | some (.dK _)=>True
 | some (.dT _)=>True
 | some (.set _ _)=>True
 | some (.ins _ _ _)=>True
 | some (.ext _)=>True
 | _=>False
section
variable {P:Program}{w:World}{H:Hp}{h h':Heap}{x e:Addr}{o':HO}
theorem HOk.write(ok:HOk P w H h)(mu:Mut (H x))(he:e=x∨H e=some (.own x))(k:∀b u,b≠e->h.get? b=some u->h'.get? b=some u)(heo:∃u,h'.get? e=some u)
  (new:bP P w (upd H x o') h' x o'):HOk P w (upd H x o') h':=fun b u q=>by
 have nown:∀c y,H c=some (.own y)->c≠x:=fun c y r z=>by subst z;rw[r]at mu;exact mu
 have ntup:∀c xs,H c=some (.tup xs)->c≠x:=fun c xs r z=>by subst z;rw[r]at mu;exact mu
 by_cases hb:b=x
 ·subst hb;rw[bh]at q;cases q;exact new
 ·rw[aR hb]at q;by_cases hbe:b=e
  ·have q':H b=some (.own x):=by
    rcases he with z | z
    ·exact absurd (hbe.trans z) hb
    ·rw[hbe];exact z
   rw[q]at q';cases q';obtain⟨v,hv⟩:=heo;exact⟨v,by rw[hbe];exact hv⟩
  ·refine(ok b u q).stay (fun c v hc r=>k c v ?_ r) (fun c r=>by rw[aR (nown c b r)];exact r) fun c xs r=>by rw[aR (ntup c xs r)];exact r
   rcases hc with rfl | hc
   ·exact hbe
   ·rintro rfl;rcases he with z | z
    ·exact nown c b hc z
    ·rw[hc]at z;cases z;exact hb rfl
end
structure Un (fs ex:List Addr) (H H':Hp) (h h':Heap):Prop where
 keep:∀b o,h.get? b=some o->H b=none->b∉fs->b∉ex->h'.get? b=some o
 slot:∀b o,h.get? b=some o->H b=none->b∈fs->b∉ex->∃sl,h'.get? b=some { o with slots:=sl }
 free:∀b o,h.get? b=some o->H b=none->b∉ex->H' b=none
 there:∀b o,h.get? b=some o->b∉ex->∃o',h'.get? b=some o'
 tups:∀b xs,H b=some (.tup xs)->H' b=some (.tup xs)
 frzs:∀b o u,H b=some (.frz o u)->H' b=some (.frz o u)
 tbls:∀b ps,H b=some (.tbl ps)->∃more,H' b=some (.tbl (ps++more))
section
variable {fs fs' ex ex':List Addr}{H H1 H2:Hp}{h h1 h2 h':Heap}{a x e:Addr}{o:HO}
theorem Un.any(u:Un fs ex H H1 h h1){b:Addr}{ob:Obj}(q:h.get? b=some ob)(n:H b=none)(hx:b∉ex):∃sl,h1.get? b=some { ob with slots:=sl }:=by
 by_cases hb:b∈fs
 ·exact u.slot b ob q n hb hx
 ·exact⟨ob.slots,u.keep b ob q n hb hx⟩
theorem Un.kept(k:∀b u,h.get? b=some u->h'.get? b=some u):Un fs ex H H h h' :=
 ⟨fun b ob q _ _ _=>k b ob q,fun b ob q _ _ _=>⟨ob.slots,k b ob q⟩,fun _ _ _ n _=>n,fun b ob q _=>⟨ob,k b ob q⟩,fun _ _ q=>q,fun _ _ _ q=>q,fun _ ps q=>⟨#[],by rw[q];simp⟩⟩
theorem Un.refl:Un fs ex H H h h:=Un.kept fun _ _ q=>q
theorem Un.laid(k:∀b u,h.get? b=some u->h'.get? b=some u)(hp:h.objs.size≤a)(hn:H a=none):Un fs ex H (upd H a o) h h' where
 keep:=fun b u q _ _ _=>k b u q
 slot:=fun b u q _ _ _=>⟨u.slots,k b u q⟩
 free:=fun b u q n _=>by rw[aR (Gv (GA (Gd q) hp))];exact n
 there:=fun b u q _=>⟨u,k b u q⟩
 tups:=fun b xs q=>by rw[aR (bf q hn)];exact q
 frzs:=fun b u xs q=>by rw[aR (bf q hn)];exact q
 tbls:=fun b ps q=>⟨#[],by rw[aR (bf q hn),q];simp⟩
theorem Un.write(mu:Mut (H x))(he:e=x∨H e=some (.own x))(k:∀b u,b≠e->h.get? b=some u->h'.get? b=some u)(heo:∃u,h'.get? e=some u):Un fs ex H (upd H x o) h h':=by
 have hx:∀b,H b=none->b≠x:=fun b n z=>by subst z;rw[n]at mu;exact mu
 have hb:∀b,H b=none->b≠e:=fun b n z=>by
  subst z;rcases he with r | r
  ·exact hx b n r
  ·rw[n]at r;cases r
 have hm:∀b u,H b=some u->¬Mut (some u)->b≠x:=fun b u q nm z=>by subst z;rw[q]at mu;exact nm mu
 refine⟨fun b u q n _ _=>k b u (hb b n) q,fun b u q n _ _=>⟨u.slots,k b u (hb b n) q⟩,fun b u q n _=>by rw[aR (hx b n)];exact n,fun b u q _=>?_,
  fun b xs q=>by rw[aR (hm b _ q fun z=>z)];exact q,fun b u xs q=>by rw[aR (hm b _ q fun z=>z)];exact q,fun b ps q=>⟨#[],by rw[aR (hm b _ q fun z=>z),q];simp⟩⟩
 by_cases hbe:b=e
 ·subst hbe;exact heo
 ·exact⟨u,k b u hbe q⟩
end
def trk(h:Heap)(H:Hp):List Addr:=(List.range h.objs.size).filter fun a=>(H a).isSome
def jJ(h:Heap)(H:Hp):Heap:=PySem.W.hideAll h (trk h H)
theorem pd(h:Heap)(H:Hp):(jJ h H).objs.size=h.objs.size:=PySem.W.hideAll_size _ _
theorem qY(e:h.get? b=some o)(n:H b=none):(jJ h H).get? b=some o :=
 PySem.W.hideAll_get _ e fun hm=>by
  have q:(H b).isSome=true:=(HC.mp hm).2;rw[n]at q;simp at q
theorem vL(e:(jJ h H).get? b=some o):h.get? b=some o/\H b=none:=by
 have e':h.get? b=some o:=PySem.W.of_hideAll (trk h H) e;refine⟨e',?_⟩;cases q:H b with
 | none=>rfl
 | some x =>
  have hm:b∈trk h H:=HC.mpr ⟨GC.mpr (Gd e'),by simp[q]⟩;have z:(jJ h H).get? b=none:=PySem.W.hideAll_none (trk h H) hm;rw[z]at e;cases e
def vq(g h:Heap)(L:Addr):List (Addr×Obj):=(List.range h.objs.size).filterMap fun a=>if a=L∨(g.get? a).isSome=true then none else(h.get? a).map fun o=>(a,o)
def rest(g h:Heap)(L d:Addr):List (Addr×Obj):=(vq g h L).filter fun p=>decide (p.1≠d)
end
section
structure Mod (K:PySem.W.Frag) (mg:Str→Option Value) (base:Heap):Prop where
 kin:K.In base
 glob:base.Ns mainGlobals mg
 blt:∃mb,base.Ns builtinsNs mb/\∀x:Str,x≠"__name__"->mb x=bootBuiltins x
 nolimit:base.NoLimit
structure Cx where
 prog:Program
 w:World
 K:PySem.W.Frag
 mg:Str->Option Value
 base:Heap
 A:Around
 N:List Str
 s₀:Shared
 H₀:Hp
 env:Env
 outer:List Env
 stack:List Env
 ex:List Addr
 fn:Str->Bool
 calm:Bool
 pn:List (Addr×Obj)
 xe:Value->Shared->Prop
def frs(l:List Env):List Addr:=l.filterMap (·.frame)
abbrev Cx.fs(X:Cx):List Addr:=frs X.outer
def Vis(sc:Scope)(x:Str):Prop:=sc.names.lookup x=some .local∨sc.names.lookup x=some .cell∨sc.names.lookup x=some .free
def Loc(sc:Scope)(x:Str):Prop:=sc.names.lookup x=some .local∨sc.names.lookup x=some .cell
def Look(env:Env)(h:Heap)(m:Str->Option Value)(x:Str)(u:Value):Prop :=
 (env.kindOf x=some .local/\m x=some u)∨((env.kindOf x=some .cell∨env.kindOf x=some .free)/\∃c,env.cells.lookup x=some c/\h.IsCell c (some u))
structure Cx.Ok (X:Cx):Prop where
 mod:Mod X.K X.mg X.base
 kind:X.env.scope.kind=.function
 glob:X.env.globals=mainGlobals
 blt:X.env.builtins=builtinsNs
 above:X.s₀.heap.objs.size≤X.env.locals
 inj:∀x y c,X.env.cells.lookup x=some c->X.env.cells.lookup y=some c->x=y
 has:∀x,(X.env.kindOf x=some .cell∨X.env.kindOf x=some .free)->∃c,X.env.cells.lookup x=some c
 cab:∀x c,X.fn x=true->X.env.cells.lookup x=some c->X.s₀.heap.objs.size≤c
 hd:X.calm=true->X.A.handled=none
 frames:X.A.frames=some X.stack
 stk:X.stack=X.outer∨(X.stack=X.env::X.outer/\X.env.frame=some X.env.locals)
 exf:∀b∈X.ex,b≠X.env.locals/\∀x c,X.env.cells.lookup x=some c->c≠b
 bs:∀b o,X.base.get? b=some o->X.s₀.heap.get? b=some o/\X.H₀ b=none
 bsz:X.base.objs.size≤X.s₀.heap.objs.size
 noex:∀b o,X.base.get? b=some o->b∉X.ex
 exfs:∀b∈X.ex,b∉X.fs
 funs:X.s₀.heap.FunFrames X.base X.outer
 frf:∀b∈X.fs,X.H₀ b=none
structure Inv (X:Cx) (pins:List (Addr × Obj)) (σ:List (Option V)) (H:Hp) (s:Shared):Prop where
 ok:X.Ok
 os:s.os=X.s₀.os
 bare:AllBare s.gens
 base:Un X.fs X.ex X.H₀ H X.s₀.heap s.heap
 loc:∃m,s.heap.Ns X.env.locals m/\∀(i:Nat) (x:Str) (v:V),X.N[i]?=some x->σ[i]?=some (some v)->Vis X.env.scope x->∃u,RelV v u/\Look X.env s.heap m x u
 cell:∀x c,X.env.cells.lookup x=some c->∃v,s.heap.IsCell c v
 free:H X.env.locals=none
 freeC:∀x c,X.env.cells.lookup x=some c->H c=none
 pin:∀p∈X.pn++pins,s.heap.get? p.1=some p.2/\H p.1=none/\p.1≠X.env.locals/\p.1∉X.fs/\∀v,p.2.data≠.cell v
 hok:HOk X.prog X.w H s.heap
 len:σ.length=X.N.length
section
variable {X:Cx}{pins:List (Addr×Obj)}{σ:List (Option V)}{H H':Hp}{s:Shared}{h':Heap}
theorem Cx.Ok.nofr(ok:X.Ok){b:Addr}{o:Obj}(e:X.base.get? b=some o):b∉X.fs:=fun hb=>by
 have:=(ok.funs.mem hb).1;rw[e]at this;cases this
theorem Inv.bs(I:Inv X pins σ H s):∀b o,X.base.get? b=some o->s.heap.get? b=some o/\H b=none:=fun b o e =>
 ⟨I.base.keep b o (I.ok.bs b o e).1 (I.ok.bs b o e).2 (I.ok.nofr e) (I.ok.noex b o e),I.base.free b o (I.ok.bs b o e).1 (I.ok.bs b o e).2 (I.ok.noex b o e)⟩
theorem Inv.bk(I:Inv X pins σ H s):∀b o,X.base.get? b=some o->s.heap.get? b=some o:=fun b o e=>(I.bs b o e).1
theorem Inv.mod(I:Inv X pins σ H s):Mod X.K X.mg X.base:=I.ok.mod
theorem Inv.kIn(I:Inv X pins σ H s):X.K.In s.heap:=I.ok.mod.kin.keeps I.bk
theorem Inv.lt(I:Inv X pins σ H s):X.env.locals<s.heap.objs.size:=let ⟨_,hn,_⟩:=I.loc;hn.lt
theorem Inv.sz(I:Inv X pins σ H s):X.s₀.heap.objs.size≤s.heap.objs.size:=GU I.ok.above (Nat.le_of_lt I.lt)
theorem Inv.nofs(I:Inv X pins σ H s){a:Addr}(h:s.heap.objs.size≤a):a∉X.fs:=fun hb=>by
 obtain⟨_,o,ho,_⟩:=I.ok.funs.mem hb;exact absurd (GA (Gd ho) (GU I.sz h)) (Io _)
theorem Inv.cne(I:Inv X pins σ H s):∀x c,X.env.cells.lookup x=some c->c≠X.env.locals:=fun x c e z=>by
 obtain⟨v,o,ho,hd⟩:=I.cell x c e;obtain⟨m,⟨o',es,ep,ho',hd',_⟩,_⟩:=I.loc;rw[z,ho']at ho;cases ho;rw[hd']at hd;cases hd
theorem Inv.funs(I:Inv X pins σ H s):s.heap.FunFrames X.base X.outer:=by
 have all:∀(l:List Env),(∀b∈frs l,b∈X.fs)->X.s₀.heap.FunFrames X.base l->s.heap.FunFrames X.base l:=by
  intro l
  induction l with
  | nil=>intro _ _;trivial
  | cons env r ih =>
   intro hs hl;obtain⟨hk,⟨L,o,hf,hn,ho,hd⟩,hr⟩:=hl;have hL:L∈X.fs:=hs L (by unfold frs;rw[List.filterMap_cons,hf];exact Ga);obtain⟨sl,e⟩:=I.base.slot L o ho (I.ok.frf L hL) hL fun z=>I.ok.exfs L z hL;exact⟨hk,⟨L,_,hf,hn,e,hd⟩,ih (fun b hb=>hs b (by unfold frs;rw[List.filterMap_cons,hf];exact Gb _ hb)) hr⟩
 exact all X.outer (fun _ hb=>hb) I.ok.funs
theorem Inv.stack(I:Inv X pins σ H s):s.heap.FunFrames X.base X.stack:=by
 rcases I.ok.stk with e |⟨e,hf⟩
 ·rw[e];exact I.funs
 ·rw[e];obtain⟨m,hn,_⟩:=I.loc;refine .cons (by rw[I.ok.kind];decide) hf hn ?_ I.funs;exact Heap.get?_none_of_le (GU I.ok.bsz I.ok.above)
theorem Inv.stkSub(I:Inv X pins σ H s):∀b∈frs X.stack,b∈X.env.locals::X.fs:=fun b hb=>by
 rcases I.ok.stk with e |⟨e,hf⟩
 ·rw[e]at hb;exact Gb _ hb
 ·rw[e]at hb;unfold frs at hb;rw[List.filterMap_cons,hf]at hb;exact hb
theorem Inv.stkFree(I:Inv X pins σ H s):∀b∈frs X.stack,H b=none:=fun b hb=>by
 rcases Gh.mp (I.stkSub b hb)with e | hb
 ·rw[e];exact I.free
 ·obtain⟨_,o,ho,_⟩:=I.ok.funs.mem hb;exact I.base.free b o ho (I.ok.frf b hb) fun z=>I.ok.exfs b z hb
theorem Inv.step{ch:List Addr}(I:Inv X pins σ H s)
  (hch:∀b∈ch,(b∈X.ex∨X.s₀.heap.objs.size≤b)/\b≠X.env.locals/\(∀x c,X.env.cells.lookup x=some c->c≠b)/\∀p∈X.pn++pins,p.1≠b)
  (keep:∀b o,b≠X.env.locals->b∉X.fs->b∉ch->s.heap.get? b=some o->H b=none->h'.get? b=some o)
  (slot:∀b o,b≠X.env.locals->b∈X.fs->b∉ch->s.heap.get? b=some o->H b=none->∃sl,h'.get? b=some { o with slots:=sl }) (free:∀b o,b∉ch->s.heap.get? b=some o->H b=none->H' b=none)
  (there:∀b o,b∉ch->s.heap.get? b=some o->∃o',h'.get? b=some o')
  (tups:∀b xs,H b=some (.tup xs)->H' b=some (.tup xs)) (frzs:∀b o u,H b=some (.frz o u)->H' b=some (.frz o u)) (tbls:∀b ps,H b=some (.tbl ps)->∃more,H' b=some (.tbl (ps++more)))
  (ns:∀m,s.heap.Ns X.env.locals m->h'.Ns X.env.locals m) (hok:HOk X.prog X.w H' h') (hg:AllBare g') :
  Inv X pins σ H' { s with heap:=h',gens:=g',drawn:=d',toks:=t' }:=by
 have neL:∀b o,X.s₀.heap.get? b=some o->b≠X.env.locals:=fun b o e=>Gv (GA (Gd e) I.ok.above);have neC:∀b o,X.s₀.heap.get? b=some o->b∉X.ex->b∉ch:=fun b o e hx hb=>by
  rcases (hch b hb).1 with z | z
  ·exact hx z
  ·exact absurd (GA (Gd e) z) (Io _)
 have cellK:∀x c,X.env.cells.lookup x=some c->∀v,s.heap.IsCell c v->h'.IsCell c v:=fun x c e v y_=>by
  obtain⟨o,ho,hd⟩:=y_;have nch:c∉ch:=fun z=>(hch c z).2.2.1 x c e rfl;by_cases hc:c∈X.fs
  ·obtain⟨sl,q⟩:=slot c o (I.cne x c e) hc nch ho (I.freeC x c e);exact⟨_,q,hd⟩
  ·exact⟨o,keep c o (I.cne x c e) hc nch ho (I.freeC x c e),hd⟩
 refine⟨I.ok,I.os,hg,⟨fun b o e n hb hx=>?_,fun b o e n hb hx=>?_,fun b o e n hx=>?_,fun b o e hx=>?_,fun b xs e=>tups b xs (I.base.tups b xs e),fun b o xs e=>frzs b o xs (I.base.frzs b o xs e),fun b ps e=>?_⟩,?_,fun x c e=>?_,?_,fun x c e=>?_,fun p hp=>?_,hok,I.len⟩
 ·exact keep b o (neL b o e) hb (neC b o e hx) (I.base.keep b o e n hb hx) (I.base.free b o e n hx)
 ·obtain⟨sl,e1⟩:=I.base.slot b o e n hb hx;obtain⟨sl',e2⟩:=slot b _ (neL b o e) hb (neC b o e hx) e1 (I.base.free b o e n hx);exact⟨sl',e2⟩
 ·obtain⟨o',e1⟩:=I.base.there b o e hx;exact free b o' (neC b o e hx) e1 (I.base.free b o e n hx)
 ·obtain⟨o',e1⟩:=I.base.there b o e hx;exact there b o' (neC b o e hx) e1
 ·obtain⟨m1,e1⟩:=I.base.tbls b ps e;obtain⟨m2,e2⟩:=tbls b _ e1;exact⟨m1++m2,by rw[e2,Array.append_assoc]⟩
 ·obtain⟨m,hn,hl⟩:=I.loc;refine⟨m,ns m hn,fun i x v e1 e2 e3=>?_⟩;obtain⟨u,r,l⟩:=hl i x v e1 e2 e3;refine⟨u,r,?_⟩;rcases l with l |⟨k,c,e,z⟩
  ·exact .inl l
  ·exact .inr ⟨k,c,e,cellK x c e _ z⟩
 ·obtain⟨v,z⟩:=I.cell x c e;exact⟨v,cellK x c e v z⟩
 ·obtain⟨m,⟨o,_,_,ho,_⟩,_⟩:=I.loc;exact free _ o (fun z=>(hch _ z).2.1 rfl) ho I.free
 ·obtain⟨v,o,ho,hd⟩:=I.cell x c e;exact free c o (fun z=>(hch c z).2.2.1 x c e rfl) ho (I.freeC x c e)
 ·obtain⟨e,n,ne,nf,d⟩:=I.pin p hp;have nch:p.1∉ch:=fun z=>(hch p.1 z).2.2.2 p hp rfl;exact⟨keep p.1 p.2 ne nf nch e n,free p.1 p.2 nch e n,ne,nf,d⟩
theorem Inv.un(I:Inv X pins σ H s)(u:Un X.fs [] H H' s.heap h')(hok:HOk X.prog X.w H' h'):Inv X pins σ H' { s with heap:=h',toks:=t' }:=by
 obtain⟨m,⟨o,es,ep,ho,r⟩,_⟩:=id I.loc;obtain⟨sl,hL⟩:=u.any ho I.free (by simp);exact I.step (g':=s.gens) (d':=s.drawn) (ch:=[]) (fun _ z=>nomatch z) (fun b o _ hb _ e n=>u.keep b o e n hb (by simp)) (fun b o _ hb _ e n=>u.slot b o e n hb (by simp)) (fun b o _ e n=>u.free b o e n (by simp)) (fun b o _ e=>u.there b o e (by simp)) u.tups u.frzs u.tbls (fun m' hm=>by
  obtain⟨o',es',ep',ho',r'⟩:=hm;rw[ho]at ho';cases ho';exact⟨_,es',ep',hL,r'⟩) hok I.bare
theorem Inv.call(I:Inv X pins σ H s)(u:Un (frs X.stack) ch H H' s.heap h')(hok:HOk X.prog X.w H' h')(hg:AllBare g')
  (hch:∀b∈ch,(b∈X.ex∨X.s₀.heap.objs.size≤b)/\b≠X.env.locals/\(∀x c,X.env.cells.lookup x=some c->c≠b)/\∀p∈X.pn++pins,p.1≠b) :
  Inv X pins σ H' { s with heap:=h',gens:=g',drawn:=d',toks:=t' }:=by
 obtain⟨m,⟨o,es,ep,ho,r⟩,_⟩:=id I.loc;obtain⟨sl,hL⟩:=u.any ho I.free fun z=>(hch _ z).2.1 rfl;exact I.step (ch:=ch) hch (fun b o hL hb hc e n=>u.keep b o e n (fun z=>(Gh.mp (I.stkSub b z)).elim hL hb) hc) (fun b o _ _ hc e n=>u.any e n hc) (fun b o hc e n=>u.free b o e n hc) (fun b o hc e=>u.there b o e hc) u.tups u.frzs u.tbls (fun m' hm=>by
  obtain⟨o',es',ep',ho',r'⟩:=hm;rw[ho]at ho';cases ho';exact⟨_,es',ep',hL,r'⟩) hok hg
theorem Inv.turned(I:Inv X pins σ H s)(k:∀b o,b≠it->s.heap.get? b=some o->h'.get? b=some o)(hn:H it=none)(hL:it≠X.env.locals)
  (h1:it∈X.ex∨X.s₀.heap.objs.size≤it) (h2:∀x c,X.env.cells.lookup x=some c->c≠it) (h3:∀p∈X.pn++pins,p.1≠it):Inv X pins σ H { s with heap:=h',toks:=t' }:=by
 have nit:∀b u,H b=some u->b≠it:=fun b u e z=>by rw[z,hn]at e;cases e
 refine I.step (g':=s.gens) (d':=s.drawn) (ch:=[it]) (fun b hb=>?_) (fun b o _ _ hc e _=>k b o (fun z=>hc (by simp[z])) e) (fun b o _ _ hc e _=>⟨o.slots,k b o (fun z=>hc (by simp[z])) e⟩) (fun _ _ _ _ n=>n)
  (fun b o hc e=>⟨o,k b o (fun z=>hc (by simp[z])) e⟩) (fun _ _ e=>e) (fun _ _ _ e=>e) (fun b ps e=>⟨#[],by rw[e];simp⟩) (fun m hm=>?_) (fun b u e=>?_) I.bare
 ·have e:b=it:=by simpa using hb
  subst e;exact⟨h1,hL,h2,h3⟩
 ·obtain⟨o,es,ep,ho,r⟩:=hm;exact⟨o,es,ep,k _ o (Ne.symm hL) ho,r⟩
 ·refine(I.hok b u e).stay (fun c v hc q=>k c v ?_ q) (fun _ q=>q) fun _ _ q=>q;rcases hc with z | z
  ·rw[z];exact nit b u e
  ·exact nit c _ z
theorem Inv.tok(I:Inv X pins σ H s)(t:Nat):Inv X pins σ H { s with toks:=t }:=I.un (h':=s.heap) (t':=t) Un.refl I.hok
theorem Inv.kept(I:Inv X pins σ H s)(k:∀b u,s.heap.get? b=some u->h'.get? b=some u):Inv X pins σ H { s with heap:=h',toks:=t' }:=I.un (Un.kept k) (I.hok.kept k)
theorem Inv.laid{a:Addr}(I:Inv X pins σ H s)(k:∀b u,s.heap.get? b=some u->h'.get? b=some u)(hp:s.heap.objs.size≤a)(new:bP X.prog X.w (upd H a o) h' a o) :
  Inv X pins σ (upd H a o) { s with heap:=h',toks:=t' }:=I.un (Un.laid k hp (I.hok.fresh hp)) (I.hok.laid k hp new)
theorem Inv.write(I:Inv X pins σ H s)(mu:Mut (H x))(he:e=x∨H e=some (.own x))(k:∀b u,b≠e->s.heap.get? b=some u->h'.get? b=some u)(heo:∃u,h'.get? e=some u)
  (new:bP X.prog X.w (upd H x o) h' x o):Inv X pins σ (upd H x o) { s with heap:=h',toks:=t' }:=I.un (Un.write mu he k heo) (I.hok.write mu he k heo new)
theorem Inv.pins_of(I:Inv X pins σ H s)(h:∀p∈pins',s.heap.get? p.1=some p.2/\H p.1=none/\p.1≠X.env.locals/\p.1∉X.fs/\∀v,p.2.data≠.cell v):Inv X pins' σ H s :=
 ⟨I.ok,I.os,I.bare,I.base,I.loc,I.cell,I.free,I.freeC,fun p hp=>(Gf.mp hp).elim (fun z=>I.pin p (GH _ z)) (h p),I.hok,I.len⟩
theorem lA{N:List Str}(hN:N.Nodup){i j:Nat}{x:Str}(a:N[i]?=some x)(b:N[j]?=some x):i=j:=by
 obtain⟨h1,e1⟩:=Gj.mp a;obtain⟨h2,e2⟩:=Gj.mp b;exact(List.getElem_inj hN).mp (e1.trans e2.symm)
theorem iS{M:Model}{A:Around}{E:Value->Shared->Prop}{i:Nat}{x:Str}{v:V}{u:Value}{Q:Unit->Shared->Prop}(I:Inv X pins σ H s)(hN:X.N.Nodup)(hi:X.N[i]?=some x)(hx:Loc X.env.scope x)(r:RelV v u)
  (h:∀s',Inv X pins (σ.set i (some v)) H s'->(∃a,Heap.SameBut a s.heap s'.heap/\(a=X.env.locals∨X.env.cells.lookup x=some a))->Q () s') (hf:X.fn x=true∨X.env.scope.names.lookup x=some .local:=by first | exact .inl rfl | exact .inr rfl | assumption):wpAny M A (storeName X.env x u) Q E s:=by
 obtain⟨m,hn,hl⟩:=id I.loc;have hcls:(X.env.scope.kind==.class||(X.env.scope.kind==.module&&X.env.locals !=X.env.globals))=false:=by rw[I.ok.kind];rfl
 have hiσ:i<σ.length:=by rw[I.len];exact(Gj.mp hi).1
 have cne:=I.cne;have tracked:∀{a:Addr} {h':Heap},(∃o,s.heap.get? a=some o/\H a=none)->Heap.SameBut a s.heap h'->HOk X.prog X.w H h':=fun {a h'} ha hs b ob e=>by
  obtain⟨_,_,hfree⟩:=ha;refine(I.hok b ob e).stay (fun c w' hc q=>(hs.2 c ?_).trans q) (fun _ q=>q) fun _ _ q=>q;rintro rfl;rcases hc with rfl | hc
  ·rw[hfree]at e;cases e
  ·rw[hfree]at hc;cases hc
 rcases hx with hk | hk
 ·refine wpAny_storeName_local hk hn (fun h' hn' hs=>?_) hcls;obtain⟨oL,_,_,hoL,_⟩:=id hn;refine h _ ⟨I.ok,I.os,I.bare,⟨fun b o e n hb hx=>?_,fun b o e n hb hx=>?_,I.base.free,fun b o e hx=>?_,I.base.tups,I.base.frzs,I.base.tbls⟩,⟨_,hn',fun j y v' e1 e2 e3=>?_⟩,fun y c e=>?_,I.free,I.freeC,fun p hp=>?_,tracked ⟨oL,hoL,I.free⟩ hs,by simpa using I.len⟩ ⟨_,hs,.inl rfl⟩
  ·exact(hs.2 b (Gv (GA (Gd e) I.ok.above))).trans (I.base.keep b o e n hb hx)
  ·obtain⟨sl,e1⟩:=I.base.slot b o e n hb hx;exact⟨sl,(hs.2 b (Gv (GA (Gd e) I.ok.above))).trans e1⟩
  ·obtain⟨o',e1⟩:=I.base.there b o e hx;exact⟨o',(hs.2 b (Gv (GA (Gd e) I.ok.above))).trans e1⟩
  ·by_cases hj:j=i
   ·subst hj;rw[hi]at e1;cases e1;rw[Il hiσ]at e2;cases e2;exact⟨u,r,.inl ⟨hk,by simp⟩⟩
   ·rw[List.getElem?_set_ne (Ne.symm hj)]at e2;obtain⟨u',r',q⟩:=hl j y v' e1 e2 e3;refine⟨u',r',?_⟩;rcases q with⟨k,e⟩ |⟨k,c,e,z⟩
    ·refine .inl ⟨k,?_⟩;have:y≠x:=fun e=>hj (lA hN e1 (e▸hi));simp[this,e]
    ·exact .inr ⟨k,c,e,z.sameBut hs (cne y c e)⟩
  ·obtain⟨w',z⟩:=I.cell y c e;exact⟨w',z.sameBut hs (cne y c e)⟩
  ·obtain⟨e,n,ne,nf,d⟩:=I.pin p hp;exact⟨(hs.2 p.1 ne).trans e,n,ne,nf,d⟩
 ·have hfn:X.fn x=true:=by
   rcases hf with z | z
   ·exact z
   ·rw[z]at hk;cases hk
  obtain⟨c,hc⟩:=I.ok.has x (.inl hk);obtain⟨w',z⟩:=I.cell x c hc;refine wpAny_storeName_cell I.ok.kind hk hc z (fun h' hc' hs=>?_);obtain⟨oc,hoc,hocd⟩:=id z;refine h { s with heap:=h' } ⟨I.ok,I.os,I.bare,⟨fun b o e n hb hx=>?_,fun b o e n hb hx=>?_,I.base.free,fun b o e hx=>?_,I.base.tups,I.base.frzs,I.base.tbls⟩,⟨m,hn.sameBut hs (Ne.symm (cne x c hc)),fun j y v' e1 e2 e3=>?_⟩,fun y c' e=>?_,I.free,I.freeC,fun p hp=>?_,tracked ⟨oc,hoc,I.freeC x c hc⟩ hs,by simpa using I.len⟩ ⟨c,hs,.inr hc⟩
  ·exact(hs.2 b (Gv (GA (Gd e) (I.ok.cab x c hfn hc)))).trans (I.base.keep b o e n hb hx)
  ·obtain⟨sl,e1⟩:=I.base.slot b o e n hb hx;exact⟨sl,(hs.2 b (Gv (GA (Gd e) (I.ok.cab x c hfn hc)))).trans e1⟩
  ·obtain⟨o',e1⟩:=I.base.there b o e hx;exact⟨o',(hs.2 b (Gv (GA (Gd e) (I.ok.cab x c hfn hc)))).trans e1⟩
  ·by_cases hj:j=i
   ·subst hj;rw[hi]at e1;cases e1;rw[Il hiσ]at e2;cases e2;exact⟨u,r,.inr ⟨.inl hk,c,hc,hc'⟩⟩
   ·rw[List.getElem?_set_ne (Ne.symm hj)]at e2;obtain⟨u',r',q⟩:=hl j y v' e1 e2 e3;refine⟨u',r',?_⟩;rcases q with q |⟨k,c',e,z'⟩
    ·exact .inl q
    ·refine .inr ⟨k,c',e,z'.sameBut hs ?_⟩;rintro rfl;exact hj (lA hN e1 (I.ok.inj _ _ _ e hc▸hi))
  ·by_cases hcc:c'=c
   ·subst hcc;exact⟨_,hc'⟩
   ·obtain⟨w2,z2⟩:=I.cell y c' e;exact⟨w2,z2.sameBut hs hcc⟩
  ·obtain⟨e,n,ne,nf,d⟩:=I.pin p hp;refine⟨(hs.2 p.1 ?_).trans e,n,ne,nf,d⟩;intro q;rw[q,hoc]at e;have q':oc=p.2:=Gw e;exact d w' (by rw[←q'];exact hocd)
theorem j7{M:Model}{A:Around}{E:Value->Shared->Prop}{i:Nat}{x:Str}{v:V}{u:Value}{Q:Unit->Shared->Prop}(I:Inv X pins σ H s)(hN:X.N.Nodup)(hi:X.N[i]?=some x)(hx:Loc X.env.scope x)(r:RelV v u)
  (h:∀s',Inv X pins (σ.set i (some v)) H s'->Q () s') (hf:X.fn x=true∨X.env.scope.names.lookup x=some .local:=by first | exact .inl rfl | exact .inr rfl | assumption):wpAny M A (storeName X.env x u) Q E s :=
 iS I hN hi hx r (fun s' I' _=>h s' I') hf
theorem Inv.call'(I:Inv X pins σ H s)(ho:s'.os=s.os)(u:Un (frs X.stack) ch H H' s.heap s'.heap)(hok:HOk X.prog X.w H' s'.heap)(hg:AllBare s'.gens)
  (hch:∀b∈ch,(b∈X.ex∨X.s₀.heap.objs.size≤b)/\b≠X.env.locals/\(∀x c,X.env.cells.lookup x=some c->c≠b)/\∀p∈X.pn++pins,p.1≠b):Inv X pins σ H' s':=by
 obtain⟨h',g',d',t',o'⟩:=s';have e:o'=s.os:=ho;subst e;exact I.call (g':=g') (t':=t') (d':=d') u hok hg hch
end
abbrev XK:=Value->Option Addr->Hp->Prop
abbrev St:=List (Option V)
abbrev VK:=V->Hp->Prop
abbrev TE:=St->Hp->VK->Prop
abbrev TT:=St->Hp->(Bool->Hp->Prop)->Prop
abbrev TA:=St->Hp->(List V->Hp->Prop)->Prop
structure Ends where
 nx:St->Hp->Prop
 rt:VK
 bk:St->Hp->Prop:=fun _ _=>False
 ct:St->Hp->Prop:=fun _ _=>False
abbrev TS:=Ends->St->Hp->Prop
def EP(X:Cx)(pins:List (Addr×Obj))(σ:St)(Q:VK)(u:Value)(s':Shared):Prop:=∃v H',Inv X pins σ H' s'/\RelV v u/\Q v H'
def TP(X:Cx)(pins:List (Addr×Obj))(σ:St)(Q:Bool->Hp->Prop)(b:Bool)(s':Shared):Prop:=∃H',Inv X pins σ H' s'/\Q b H'
def AP(X:Cx)(pins:List (Addr×Obj))(σ:St)(Q:List V->Hp->Prop)(us:List Value)(s':Shared):Prop:=∃vs H',Inv X pins σ H' s'/\Vals vs us/\Q vs H'
def SP(X:Cx)(pins:List (Addr×Obj))(D:Ends)(f:Flow)(s':Shared):Prop :=
 match f with
 | .next=>∃σ' H',Inv X pins σ' H' s'/\D.nx σ' H'
 | .brk=>∃σ' H',Inv X pins σ' H' s'/\D.bk σ' H'
 | .cont=>∃σ' H',Inv X pins σ' H' s'/\D.ct σ' H'
 | .ret u=>∃v σ' H',Inv X pins σ' H' s'/\RelV v u/\D.rt v H'
def PE(X:Cx)(e:Expr)(t:TE):Prop :=
 ∀(pins:List (Addr×Obj)) (s:Shared) (σ:St) (H:Hp) (Q:VK),Inv X pins σ H s->t σ H Q->wpAny (model X.prog X.w) X.A (eval e X.env) (EP X pins σ Q) X.xe s
def PT(X:Cx)(e:Expr)(t:TT):Prop :=
 ∀(pins:List (Addr×Obj)) (s:Shared) (σ:St) (H:Hp) (Q:Bool->Hp->Prop),Inv X pins σ H s->t σ H Q->wpAny (model X.prog X.w) X.A (isTrue e X.env (eval e X.env)) (TP X pins σ Q) X.xe s
def PW(X:Cx)(e:Expr)(t:TT):Prop :=
 ∀(whole:Sem Value) (pins:List (Addr×Obj)) (s:Shared) (σ:St) (H:Hp) (Q:Bool->Hp->Prop),Inv X pins σ H s->t σ H Q->wpAny (model X.prog X.w) X.A (isTrue e X.env whole) (TP X pins σ Q) X.xe s
theorem PW.pt(h:PW X e t):PT X e t:=h _
def PA(X:Cx)(es:List Expr)(t:TA):Prop :=
 ∀(pos:Pos) (pins:List (Addr×Obj)) (s:Shared) (σ:St) (H:Hp) (Q:List V->Hp->Prop),Inv X pins σ H s->t σ H Q->wpAny (model X.prog X.w) X.A (spliced (backTo pos (starEach es X.env))) (AP X pins σ Q) X.xe s
def PS(X:Cx)(st:Stmt)(t:TS):Prop :=
 ∀(pins:List (Addr×Obj)) (s:Shared) (σ:St) (H:Hp) (D:Ends),Inv X pins σ H s->t D σ H->wpAny (model X.prog X.w) X.A (exec st X.env) (SP X pins D) X.xe s
def PSs(X:Cx)(st:List Stmt)(t:TS):Prop :=
 ∀(pins:List (Addr×Obj)) (s:Shared) (σ:St) (H:Hp) (D:Ends),Inv X pins σ H s->t D σ H->wpAny (model X.prog X.w) X.A (execs st X.env) (SP X pins D) X.xe s
theorem thn{t:Sem α}{Q Q':α->Shared->Prop}(h:wpAny M A t Q E s)(hQ:∀a s,Q a s->Q' a s):wpAny M A t Q' E s:=IE h hQ fun _ _ x=>x
end
section
section
variable {X:Cx}
theorem bin{a b:Expr}{ta tb:TE}(ha:PE X a ta)(hb:PE X b tb){pins:List (Addr×Obj)}{s:Shared}{σ:St}{H:Hp}{R:V->V->Hp->Prop}(I:Inv X pins σ H s)(h:ta σ H fun x H1=>tb σ H1 fun y H2=>R x y H2)
  {α:Type} {Q:α->Shared->Prop} {f:Value->Value->Sem α}
  (hf:∀v u s2 x y H2,Inv X pins σ H2 s2->RelV x v->RelV y u->R x y H2->wpAny (model X.prog X.w) X.A (f v u) Q X.xe s2) :
  wpAny (model X.prog X.w) X.A (eval a X.env) (fun v s₁=>wpAny (model X.prog X.w) X.A (eval b X.env) (fun u s₂=>wpAny (model X.prog X.w) X.A (f v u) Q X.xe s₂) X.xe s₁) X.xe s:=by
 refine thn (ha pins s σ H _ I h) fun v s1 y_=>?_;obtain⟨x,H1,I1,r1,q1⟩:=y_;refine thn (hb pins s1 σ H1 _ I1 q1) fun u s2 y_=>?_;obtain⟨y,H2,I2,r2,q2⟩:=y_;exact hf v u s2 x y H2 I2 r1 r2 q2
def CO(i:Nat):TE:=fun σ H Q=>∃v,σ[i]?=some (some v)/\Q v H
def tC(v:V):TE:=fun _ H Q=>Q v H
theorem xB{i:Nat}{x:Str}{pos:Pos}(hN:X.N[i]?=some x)(hv:Vis X.env.scope x)(hd:(x==("__debug__":Str))=false:=by decide)(hcd:(x==("__classdict__":Str))=false:=by decide):PE X (.Name x pos) (CO i):=by
 intro pins s σ H Q I h;obtain⟨v,e,h⟩:=h;obtain⟨m,hn,hl⟩:=I.loc;obtain⟨u,r,l⟩:=hl i x v hN e hv;have fin:EP X pins σ Q u s:=⟨v,H,I,r,h⟩;rcases l with⟨hk,hm⟩ |⟨hk,c,hc,hcell⟩
 ·exact wpAny_Name (wpAny_loadName_local I.ok.kind hk hn hm fin) hd
 ·rcases hk with hk | hk
  ·exact wpAny_Name (wpAny_loadName_cell I.ok.kind hk hc hcell fin) hd
  ·exact wpAny_Name (wpAny_loadName_free I.ok.kind hk hc hcell fin hcd) hd
theorem xK:PE X (.Constant (.int i) j pos) (tC (.int i)):=fun _ _ _ H _ I h=>wpAny_Constant_int ⟨.int i,H,I.tok _,⟨_,rfl⟩,h⟩
theorem BO:PE X (.Constant (.bool b) j pos) (tC (.bl b)):=fun _ _ _ H _ I h=>Constant_bool ⟨.bl b,H,I,rfl,h⟩
theorem xt:PE X (.Constant .none j pos) (tC .non):=fun _ _ _ H _ I h=>Constant_none ⟨.non,H,I,rfl,h⟩
theorem xk:PE X (.Constant (.str x) j pos) (tC (.str x)):=fun _ _ _ H _ I h=>Calls.Constant_str ⟨.str x,H,I.tok _,⟨_,rfl⟩,h⟩
def Gl(X:Cx)(x:Str):Prop:=X.env.kindOf x=some .globalImplicit
theorem jP{E:Value->Shared->Prop}{pins:List (Addr×Obj)}{s:Shared}{σ:St}{H:Hp}{x:Str}{u:Value}{pos:Pos}{Q:Value->Shared->Prop}(I:Inv X pins σ H s)(hg:Gl X x)(hm:X.mg x=some u)(h:Q u s)
  (hd:(x==("__debug__":Str))=false:=by decide):wpAny (model X.prog X.w) X.A (eval (.Name x pos) X.env) Q E s :=
 Calls.Name_function_global I.ok.kind hg (Calls.loadGlobal_global (by rw[I.ok.glob];exact I.mod.glob.keeps I.bk) hm h) hd
theorem dD{E:Value->Shared->Prop}{pins:List (Addr×Obj)}{s:Shared}{σ:St}{H:Hp}{x:Str}{u:Value}{pos:Pos}{Q:Value->Shared->Prop}(I:Inv X pins σ H s)(hg:Gl X x)(hm:X.mg x=none)(hv:bootBuiltins x=some u)(h:Q u s)
  (hn:x≠"__name__":=by decide) (hd:(x==("__debug__":Str))=false:=by decide):wpAny (model X.prog X.w) X.A (eval (.Name x pos) X.env) Q E s:=by
 obtain⟨mb,h1,h2⟩:=I.mod.blt;exact Calls.Name_function_global I.ok.kind hg (Calls.loadGlobal_builtin (by rw[I.ok.glob];exact I.mod.glob.keeps I.bk) hm (by rw[I.ok.blt];exact h1.keeps I.bk) ((h2 x hn).trans hv) h) hd
theorem vM{x:Str}{v:V}{u:Value}{pos:Pos}(hg:Gl X x)(hm:X.mg x=some u)(r:RelV v u)(hd:(x==("__debug__":Str))=false:=by decide):PE X (.Name x pos) (tC v) :=
 fun _ _ _ H _ I h=>jP I hg hm ⟨v,H,I,r,h⟩ hd
theorem t9{x:Str}{v:V}{u:Value}{pos:Pos}(hg:Gl X x)(hm:X.mg x=none)(hv:bootBuiltins x=some u)(r:RelV v u)(hn:x≠"__name__":=by decide)(hd:(x==("__debug__":Str))=false:=by decide):PE X (.Name x pos) (tC v) :=
 fun _ _ _ H _ I h=>dD I hg hm hv ⟨v,H,I,r,h⟩ hn hd
variable {a b:Expr}{ta tb:TE}{pos:Pos}
def PC(X:Cx)(op:CmpOp)(a b:Expr)(t:TE):Prop :=
 ∀(pins:List (Addr×Obj)) (s:Shared) (σ:St) (H:Hp) (Q:VK),Inv X pins σ H s->t σ H Q ->
  wpAny (model X.prog X.w) X.A (eval a X.env) (fun v s₁=>wpAny (model X.prog X.w) X.A (eval b X.env) (fun u s₂=>wpAny (model X.prog X.w) X.A (compareOp op v u) (EP X pins σ Q) X.xe s₂) X.xe s₁) X.xe s
theorem rT(b:Expr){op:CmpOp}(h:op≠.In)(h2:op≠.NotIn):behindInMarks op b=false:=by
 have e1:(op==CmpOp.In)=false:=by cases op<;>first | rfl | exact absurd rfl h
 have e2:(op==CmpOp.NotIn)=false:=by cases op<;>first | rfl | exact absurd rfl h2
 cases b<;>simp[behindInMarks,e1,e2]
def tB(t:TE):TT:=fun σ H Q=>t σ H fun x H1=>∃c,x=.bl c/\Q c H1
theorem DS{op:CmpOp}{t:TE}(h:PC X op a b t)(h1:behindInMarks op b=false:=by first | exact rT _ (by decide) (by decide) | rfl):PT X (.Compare a [op] [b] pos) (tB t):=by
 intro pins s σ H Q I hw;refine wpAny_isTrue_Compare1 (thn (h pins s σ H _ I hw) fun v s1 h1=>thn h1 fun u s2 h2=>thn h2 fun c s3 ⟨x,H1,I1,r1,q1⟩=>?_) h1;obtain⟨d,rfl,q⟩:=q1;cases r1;exact Hr ⟨H1,I1,q⟩
theorem yr{e:Expr}{t:TE}(h:PE X e t)(he:∀whole,isTrue e X.env whole=(do let v←whole;standAt e.pos;holding [v] (truthy v)):=by intro _;rfl):PT X e (tB t):=by
 intro pins s σ H Q I hw;refine isTrue_plain (thn (h pins s σ H _ I hw) fun v s1 ⟨x,H1,I1,r1,q1⟩=>?_) (he _);obtain⟨d,rfl,q⟩:=q1;cases r1;exact Hr ⟨H1,I1,q⟩
variable {tA tB':TT}{rest:List Expr}
def Eo(t u:TT):TT:=fun σ H Q=>t σ H fun c H1=>if c=true then u σ H1 Q else Q false H1
def tOr(t u:TT):TT:=fun σ H Q=>t σ H fun c H1=>if c=true then Q true H1 else u σ H1 Q
def EO(t:TT):TT:=fun σ H Q=>t σ H fun c H1=>Q (!c) H1
theorem uu(ha:PT X a tA):PW X (.BoolOp .And [a] pos) tA:=by
 intro wh pins s σ H Q I h;refine isTrue_and (thn (ha pins s σ H Q I h) fun c s1 e=>?_);cases c with
 | true=>exact isTrue_and_nil e
 | false=>exact e
theorem yt(ha:PT X a tA):PW X (.BoolOp .Or [a] pos) tA:=by
 intro wh pins s σ H Q I h;refine isTrue_or (thn (ha pins s σ H Q I h) fun c s1 e=>?_);cases c with
 | false=>exact isTrue_or_nil e
 | true=>exact e
theorem yL(ha:PT X a tA)(hb:PW X (.BoolOp .And (b::rest) pos) tB'):PW X (.BoolOp .And (a::b::rest) pos) (Eo tA tB'):=by
 intro wh pins s σ H Q I h;refine isTrue_and (thn (ha pins s σ H _ I h) fun c s1 y_=>?_);obtain⟨H1,I1,q1⟩:=y_;cases c with
 | true=>exact hb wh pins s1 σ H1 Q I1 q1
 | false=>exact⟨H1,I1,q1⟩
theorem Cq(ha:PT X a tA)(hb:PW X (.BoolOp .Or (b::rest) pos) tB'):PW X (.BoolOp .Or (a::b::rest) pos) (tOr tA tB'):=by
 intro wh pins s σ H Q I h;refine isTrue_or (thn (ha pins s σ H _ I h) fun c s1 y_=>?_);obtain⟨H1,I1,q1⟩:=y_;cases c with
 | true=>exact⟨H1,I1,q1⟩
 | false=>exact hb wh pins s1 σ H1 Q I1 q1
theorem za(ha:PT X a tA):PT X (.UnaryOp .Not a pos) (EO tA):=by
 intro pins s σ H Q I h;exact isTrue_not (ha pins s σ H (fun c H1=>Q (!c) H1) I h)
def Bx(ta tb:TE):TE:=fun σ H Q=>ta σ H fun x H1=>∃c,x=.bl c/\if c=true then tb σ H1 Q else Q (.bl false) H1
def Fj(ta tb:TE):TE:=fun σ H Q=>ta σ H fun x H1=>∃c,x=.bl c/\if c=true then Q (.bl true) H1 else tb σ H1 Q
def CC(ta:TE):TE:=fun σ H Q=>ta σ H fun x H1=>∃c,x=.bl c/\Q (.bl (!c)) H1
theorem yb(h:PE X a t):PE X (.BoolOp op [a] pos) t:=fun pins s σ H Q I hw=>BoolOp_one (h pins s σ H Q I hw)
theorem y8(ha:PE X a ta)(hb:PE X (.BoolOp .And (b::rest) pos) tb):PE X (.BoolOp .And (a::b::rest) pos) (Bx ta tb):=by
 intro pins s σ H Q I h;refine BoolOp_and (thn (ha pins s σ H _ I h) fun v s1 y_=>?_);obtain⟨x,H1,I1,r1,q1⟩:=y_;obtain⟨c,rfl,q1⟩:=q1;cases r1;refine Hr ?_;cases c with
 | true=>exact hb pins s1 σ H1 Q I1 q1
 | false=>exact⟨.bl false,H1,I1,rfl,q1⟩
theorem CP(ha:PE X a ta)(hb:PE X (.BoolOp .Or (b::rest) pos) tb):PE X (.BoolOp .Or (a::b::rest) pos) (Fj ta tb):=by
 intro pins s σ H Q I h;refine BoolOp_or (thn (ha pins s σ H _ I h) fun v s1 y_=>?_);obtain⟨x,H1,I1,r1,q1⟩:=y_;obtain⟨c,rfl,q1⟩:=q1;cases r1;refine Hr ?_;cases c with
 | false=>exact hb pins s1 σ H1 Q I1 q1
 | true=>exact⟨.bl true,H1,I1,rfl,q1⟩
theorem zo(ha:PE X a ta):PE X (.UnaryOp .Not a pos) (CC ta):=by
 intro pins s σ H Q I h;refine UnaryOp_ (thn (ha pins s σ H _ I h) fun v s1 y_=>?_);obtain⟨x,H1,I1,r1,q1⟩:=y_;obtain⟨c,rfl,q1⟩:=q1;cases r1;exact not_of (Hr ⟨.bl (!c),H1,I1,rfl,q1⟩)
end
end
section
def SqL(K:PySem.W.Frag)(H:Hp)(a:Addr)(xs:List V):Prop :=
 Rd H a (.lst xs) ∨
  ∃(o:Obj) (its:Array Value) (n:Nat),K.lookup a=some o/\o.cls=.type "list"/\o.dict=none/\o.data=.seq its n/\its.size≤sizeLine/\Vals xs its.toList
def SqT(K:PySem.W.Frag)(H:Hp)(a:Addr)(xs:List V):Prop :=
 Rd H a (.tup xs) ∨
  ∃(o:Obj) (its:Array Value) (n:Nat),K.lookup a=some o/\o.cls=.type "tuple"/\o.data=.seq its n/\its.size≤sizeLine/\Vals xs its.toList
def ED:Value->Option V
 | .none=>some .non
 | .bool b=>some (.bl b)
 | .int i _=>some (.int i)
 | .str x _=>some (.str x)
 | .bytes b _=>some (.byt b)
 | .float b _=>some (.flt b)
 | .ref a=>some (.ref a)
 | .type n=>some (.ty n)
 | _=>none
theorem RelV.abs(r:RelV x u):ED u=some x:=by
 cases x with
 | non=>cases r;rfl
 | bl _=>cases r;rfl
 | int _=>obtain⟨t,rfl⟩:=r;rfl
 | str _=>obtain⟨t,rfl⟩:=r;rfl
 | byt _=>obtain⟨t,rfl⟩:=r;rfl
 | flt _=>obtain⟨t,rfl⟩:=r;rfl
 | ref _=>cases r;rfl
 | ty _=>cases r;rfl
theorem RelV.inj{x y:V}{u:Value}(r:RelV x u)(q:RelV y u):x=y:=Gw (r.abs.symm.trans q.abs)
theorem Vals.inj:∀{xs ys:List V} {us:List Value},Vals xs us->Vals ys us->xs=ys
 | _,_,_,.nil,.nil=>rfl
 | _,_,_,.cons r t,.cons r' t'=>by rw[r.inj r',Vals.inj t t']
section
variable {X:Cx}{pins:List (Addr×Obj)}{σ:St}{H:Hp}{s:Shared}{a:Addr}{xs ys:List V}
theorem SqL.of{K:PySem.W.Frag}(h:H a=some (.lst xs)):SqL K H a xs:=.inl (.inl h)
theorem SqT.of{K:PySem.W.Frag}(h:H a=some (.tup xs)):SqT K H a xs:=.inl (.inl h)
theorem Inv.list(I:Inv X pins σ H s)(h:SqL X.K H a xs):∃its:List Value,Vals xs its/\PlainL s.heap a its.toArray/\xs.length≤sizeLine:=by
 rcases h with h |⟨o,its,n,hk,hc,hd,hs,hz,r⟩
 ·obtain⟨z,its,n,r,e⟩:=h.ok I.hok;exact⟨its,r,⟨_,n,e,rfl,rfl,rfl⟩,z⟩
 ·refine⟨its.toList,r,⟨o,n,I.kIn a o hk,hc,hd,by simpa using hs⟩,?_⟩;have e:=r.length;simp only[HZ]at e;omega
theorem Inv.tuple(I:Inv X pins σ H s)(h:SqT X.K H a xs):∃its:List Value,Vals xs its/\IsTup s.heap a its.toArray/\xs.length≤sizeLine:=by
 rcases h with h |⟨o,its,n,hk,hc,hs,hz,r⟩
 ·obtain⟨z,its,r,p⟩:=h.ok I.hok;exact⟨its,r,p,z⟩
 ·refine⟨its.toList,r,⟨o,I.kIn a o hk,hc,n,by simpa using hs⟩,?_⟩;have e:=r.length;simp only[HZ]at e;omega
theorem Inv.list_inj(I:Inv X pins σ H s)(h:SqL X.K H a xs)(h':SqL X.K H a ys):xs=ys:=by
 obtain⟨its,r,⟨o,n,e,_,_,d⟩,_⟩:=I.list h;obtain⟨its',r',⟨o',n',e',_,_,d'⟩,_⟩:=I.list h';rw[e]at e';cases e';rw[d]at d';injection d' with d1 _;have:its=its':=by simpa using congrArg Array.toList d1
 subst this;exact r.inj r'
theorem Inv.tuple_inj(I:Inv X pins σ H s)(h:SqT X.K H a xs)(h':SqT X.K H a ys):xs=ys:=by
 obtain⟨its,r,⟨o,e,_,n,d⟩,_⟩:=I.tuple h;obtain⟨its',r',⟨o',e',_,n',d'⟩,_⟩:=I.tuple h';rw[e]at e';cases e';rw[d]at d';injection d' with d1 _;have:its=its':=by simpa using congrArg Array.toList d1
 subst this;exact r.inj r'
end
abbrev Cx.wish(X:Cx)(E:Value->Shared->Prop):Cx:={ X with xe:=E }
abbrev Cx.nox(X:Cx):Cx:=X.wish fun _ _=>False
theorem Cx.Ok.wish{X:Cx}(ok:X.Ok)(E:Value->Shared->Prop):(X.wish E).Ok :=
 ⟨ok.mod,ok.kind,ok.glob,ok.blt,ok.above,ok.inj,ok.has,ok.cab,ok.hd,ok.frames,ok.stk,ok.exf,ok.bs,ok.bsz,ok.noex,ok.exfs,ok.funs,ok.frf⟩
theorem Cx.Ok.unwish{X:Cx}(ok:(X.wish E).Ok):X.Ok :=
 ⟨ok.mod,ok.kind,ok.glob,ok.blt,ok.above,ok.inj,ok.has,ok.cab,ok.hd,ok.frames,ok.stk,ok.exf,ok.bs,ok.bsz,ok.noex,ok.exfs,ok.funs,ok.frf⟩
section
variable {X:Cx}{pins:List (Addr×Obj)}{σ:St}{H:Hp}{s:Shared}{E:Value->Shared->Prop}
theorem Inv.wish(I:Inv X pins σ H s)(E:Value->Shared->Prop):Inv (X.wish E) pins σ H s:=⟨I.ok.wish E,I.os,I.bare,I.base,I.loc,I.cell,I.free,I.freeC,I.pin,I.hok,I.len⟩
theorem Inv.unwish(I:Inv (X.wish E) pins σ H s):Inv X pins σ H s:=⟨I.ok.unwish,I.os,I.bare,I.base,I.loc,I.cell,I.free,I.freeC,I.pin,I.hok,I.len⟩
theorem SP.unwish(h:SP (X.wish E) pins D f s'):SP X pins D f s':=by
 cases f with
 | next=>obtain⟨σ',H',I,q⟩:=h;exact⟨σ',H',I.unwish,q⟩
 | brk=>obtain⟨σ',H',I,q⟩:=h;exact⟨σ',H',I.unwish,q⟩
 | cont=>obtain⟨σ',H',I,q⟩:=h;exact⟨σ',H',I.unwish,q⟩
 | ret u=>obtain⟨v,σ',H',I,r,q⟩:=h;exact⟨v,σ',H',I.unwish,r,q⟩
theorem PSs.nox{st:List Stmt}(h:PSs X.nox st t):PSs X st t:=fun pins s σ H D I hw =>
 IE (h pins s σ H D (I.wish _) hw) (fun _ _ q=>q.unwish) fun _ _ z=>False.elim z
end
section
variable {X:Cx}{st:Stmt}{rest:List Stmt}{t u:TS}{e:Expr}{te:TE}{pos:Pos}
def Bt:TS:=fun D σ H=>D.nx σ H
def EX(t u:TS):TS:=fun D σ H=>t { D with nx:=u D } σ H
theorem uS:PSs X [] Bt:=fun _ _ σ H _ I h=>wpAny_execs_nil ⟨σ,H,I,h⟩
theorem qJ(h1:PS X st t)(h2:PSs X rest u):PSs X (st::rest) (EX t u):=by
 intro pins s σ H D I h;refine wpAny_execs_cons (thn (h1 pins s σ H { D with nx:=u D } I h) fun f s1 q=>?_);cases f with
 | next =>
  obtain⟨σ',H',I',q⟩:=q;exact h2 pins s1 σ' H' D I' q
 | ret v=>exact q
 | brk=>exact q
 | cont=>exact q
theorem uK(h1:PS X st t):PSs X [st] t:=by
 intro pins s σ H D I h;refine wpAny_execs_cons (thn (h1 pins s σ H D I h) fun f s1 q=>?_);cases f with
 | next=>exact wpAny_execs_nil q
 | ret v=>exact q
 | brk=>exact q
 | cont=>exact q
theorem Inv.quiet{σ:St}(I:Inv X pins σ H s):interactive X.env=false:=by simp[interactive,I.ok.kind]
def AX(te:TE):TS:=fun D σ H=>te σ H fun _ H1=>D.nx σ H1
theorem vJ(he:PE X e te)(hs:swapsWith e none pos.line X.env=pure false:=by rfl):PS X (.Expr e pos) (AX te):=by
 intro pins s σ H D I h;exact wpAny_Expr_any (thn (he pins s σ H _ I h) fun v s1 y_=>by obtain⟨x,H1,I1,r1,q1⟩:=y_;exact ⟨σ,H1,I1,q1⟩) I.quiet hs
def FL(te:TE):TS:=fun D σ H=>te σ H D.rt
theorem x6(he:PE X e te):PS X (.Return (some e) pos) (FL te):=by
 intro pins s σ H D I h;exact wpAny_Return_some (thn (he pins s σ H _ I h) fun v s1 y_=>by obtain⟨x,H1,I1,r1,q1⟩:=y_;exact ⟨x,σ,H1,I1,r1,q1⟩)
def Du(c:TT)(t u:TS):TS:=fun D σ H=>c σ H fun b H1=>if b=true then t D σ H1 else u D σ H1
theorem Cn(hc:PT X c tc)(ha:PSs X a t)(hb:PSs X b u):PS X (.If c a b pos) (Du tc t u):=by
 intro pins s σ H D I h;refine wpAny_If (thn (hc pins s σ H _ I h) fun d s1 y_=>?_);obtain⟨H1,I1,q1⟩:=y_;cases d with
 | true=>exact ha pins s1 σ H1 D I1 q1
 | false=>exact hb pins s1 σ H1 D I1 q1
end
abbrev TG:=V->St->Hp->(St->Hp->Prop)->Prop
abbrev TGs:=List V->St->Hp->(St->Hp->Prop)->Prop
def PG(X:Cx)(target:Expr)(t:TG):Prop :=
 ∀(pins:List (Addr×Obj)) (s:Shared) (σ:St) (H:Hp) (v:V) (u:Value) (Q:St->Hp->Prop),Inv X pins σ H s->RelV v u->t v σ H Q ->
  wpAny (model X.prog X.w) X.A (assign target X.env u) (fun _ s'=>∃σ' H',Inv X pins σ' H' s'/\Q σ' H') X.xe s
def PGs(X:Cx)(ts:List Expr)(t:TGs):Prop :=
 ∀(pins:List (Addr×Obj)) (s:Shared) (σ:St) (H:Hp) (vs:List V) (us:List Value) (Q:St->Hp->Prop),Inv X pins σ H s->Vals vs us->t vs σ H Q ->
  wpAny (model X.prog X.w) X.A (assignInOrder ((assignEach ts X.env).map (·.2)) us) (fun _ s'=>∃σ' H',Inv X pins σ' H' s'/\Q σ' H') X.xe s
abbrev xF:=V->V->V->Hp->(Hp->Prop)->Prop
def hJ(X:Cx)(t:xF):Prop :=
 ∀(pins:List (Addr×Obj)) (s:Shared) (σ:St) (H:Hp) (o i v:V) (ov iv u:Value) (Q:Hp->Prop),Inv X pins σ H s->RelV o ov->RelV i iv->RelV v u->t o i v H Q ->
  wpAny (model X.prog X.w) X.A (setItem ov iv u) (fun _ s'=>∃H',Inv X pins σ H' s'/\Q H') X.xe s
section
variable {X:Cx}{pos:Pos}
def mO(i:Nat):TG:=fun v σ H Q=>Q (σ.set i (some v)) H
theorem ur{i:Nat}{x:Str}(hN:X.N.Nodup)(hi:X.N[i]?=some x)(hx:Loc X.env.scope x)(hf:X.fn x=true∨X.env.scope.names.lookup x=some .local:=by first | exact .inl rfl | exact .inr rfl | assumption):PG X (.Name x pos) (mO i):=by
 intro pins s σ H v u Q I r h;exact wpAny_assign_Name (j7 I hN hi hx r (fun s' I'=>⟨_,H,I',h⟩) hf)
def Fe:TGs:=fun vs σ H Q=>vs=[]/\Q σ H
def AJ(t:TG)(u:TGs):TGs:=fun vs σ H Q=>∃v r,vs=v::r/\t v σ H fun σ' H'=>u r σ' H' Q
theorem uj:PGs X [] Fe:=by
 intro pins s σ H vs us Q I r h;obtain⟨e,h⟩:=h;subst e;cases r;exact assignInOrder_nil ⟨σ,H,I,h⟩
theorem pM{e:Expr}{es:List Expr}{t:TG}{u:TGs}(h1:PG X e t)(h2:PGs X es u)
  (hs:(assignEach (e::es) X.env).map (·.2)=assign e X.env::(assignEach es X.env).map (·.2):=by rfl):PGs X (e::es) (AJ t u):=by
 intro pins s σ H vs us Q I r h;obtain⟨v,vr,e1,h⟩:=h;subst e1;cases r with
 | cons r rr =>
  rw[hs];refine assignInOrder_cons (thn (h1 pins s σ H _ _ _ I r h) fun _ s1 y_=>?_);obtain⟨σ1,H1,I1,q1⟩:=y_;exact h2 pins s1 σ1 H1 _ _ Q I1 rr q1
def DG(K:PySem.W.Frag)(n:Nat)(t:TGs):TG:=fun v σ H Q=>∃a xs,v=.ref a/\SqT K H a xs/\xs.length=n/\t xs σ H Q
theorem xb{es:List Expr}{k:Nat}{t:TGs}{n:Nat}(hc:X.calm=true)(h:PGs X es t)
  (hn:(assignEach es X.env).length=n:=by rfl) (hst:(assignEach es X.env).findIdx? (·.1)=none:=by rfl):PG X (.Tuple es k pos) (DG X.K n t):=by
 intro pins s σ H v u Q I r hw;obtain⟨a,xs,e1,hq,hl,hw⟩:=hw;subst e1;cases r;obtain⟨its,rv,ht,hz⟩:=I.tuple hq;refine assign_Tuple_tuple (I.ok.hd hc) ht (by simp[hn,← hl,rv.length]) hst fun h' hx=>?_;have I1:Inv X pins σ H { s with heap:=h' }:=I.kept (t':=s.toks) fun b o e=>hx b o (Gv (Gd e)) e;exact h pins _ σ H xs _ Q I1 (by simpa using rv) hw
def Fx(to ti:TE)(t:xF):TG:=fun v σ H Q=>to σ H fun o H1=>ti σ H1 fun i H2=>t o i v H2 fun H3=>Q σ H3
theorem pN{o i:Expr}{to ti:TE}{t:xF}(ho:PE X o to)(hi:PE X i ti)(hs:hJ X t)
  (ha:∀v,assign (.Subscript o i pos) X.env v=(do
   let ov←holding [v] (eval o X.env)
   let iv←holding [v,ov] (eval i X.env)
   standAt pos
   holding [v,ov,iv] (setItem ov iv v)
   release [v,ov,iv] []):=by intro _;rfl):PG X (.Subscript o i pos) (Fx to ti t):=by
 intro pins s σ H v u Q I r h;rw[ha];refine F1 (Hs (thn (ho pins s σ H _ I h) fun ov s1 y_=>?_));obtain⟨x,H1,I1,r1,q1⟩:=y_;refine F1 (Hs (thn (hi pins s1 σ H1 _ I1 q1) fun iv s2 y_=>?_));obtain⟨y,H2,I2,r2,q2⟩:=y_;refine F1 (wpAny_standAt (F1 (Hs (thn (hs pins s2 σ H2 x y v ov iv u _ I2 r1 r2 r q2) fun _ s3 y_=>?_))));obtain⟨H3,I3,q3⟩:=y_;exact wpAny_release ⟨σ,H3,I3,q3⟩
def vb(te:TE)(g:TG):TS:=fun D σ H=>te σ H fun x H1=>g x σ H1 D.nx
theorem y4{tg e:Expr}{te:TE}{g:TG}(he:PE X e te)(hg:PG X tg g)(hs:swapsWithSole [tg] e pos.line X.env=pure false:=by rfl)(hw:swappedStores [tg] e X.env=pure none:=by rfl)
  (h1:(assignEach [tg] X.env).map (·.2)=[assign tg X.env]:=by rfl):PS X (.Assign [tg] e pos) (vb te g):=by
 intro pins s σ H D I h;refine wpAny_Assign_stores (thn (he pins s σ H _ I h) fun v s1 ⟨x,H1,I1,r1,q1⟩=>?_) hs hw;rw[h1];exact thn (hg pins s1 σ H1 x v _ I1 r1 q1) fun _ s2 q=>q
theorem yR{i:Nat}{x:Str}{e:Expr}{te:TE}{pos':Pos}(hN:X.N.Nodup)(hi:X.N[i]?=some x)(hx:Loc X.env.scope x)(he:PE X e te)(hs:swapsWith e (some (.Name x pos')) pos.line X.env=pure false:=by rfl)(hf:X.fn x=true∨X.env.scope.names.lookup x=some .local:=by first | exact .inl rfl | exact .inr rfl | assumption) :
  PS X (.Assign [.Name x pos'] e pos) (vb te (mO i)):=by
 intro pins s σ H D I h;refine wpAny_Assign_Name (thn (he pins s σ H _ I h) fun v s1 ⟨y,H1,I1,r1,q1⟩=>?_) hs;exact j7 I1 hN hi hx r1 (fun s2 I2=>⟨_,H1,I2,q1⟩) hf
end
section
variable {X:Cx}{pos:Pos}
def rG(c:TT)(tb:TS):TS:=fun D σ H=>∃W:Nat->St->Hp->Prop,(∃m,W m σ H)/\∀m σ H,W m σ H ->
 c σ H fun b H1=>if b=true then ∃N:St->Hp->Prop,(∀σ' H',N σ' H'->∃m',m'<m/\W m' σ' H')/\tb { D with nx:=N,ct:=N,bk:=D.nx } σ H1 else D.nx σ H1
theorem qI(hp:PassesOwn (model X.prog X.w) X.A X.env X.xe)(hc:PT X c tc)(hb:PSs X body tb):PS X (.While c body [] pos) (rG tc tb):=by
 intro pins s σ H D I h;obtain⟨W,⟨m0,w0⟩,turn⟩:=h;refine wpAny_While (codeAny_whileLoop (fun n s'=>∃σ' H',Inv X pins σ' H' s'/\W n σ' H') ?_ m0 ⟨σ,H,I,w0⟩);rintro n s1 ⟨σ1,H1,I1,w1⟩;refine Iy hp (thn (hc pins s1 σ1 H1 _ I1 (turn n σ1 H1 w1)) fun b s2 y_=>?_);obtain⟨H2,I2,q2⟩:=y_;cases b with
 | true =>
  obtain⟨N,hN,q2⟩:=q2;rw[Gq rfl];refine Iy hp (thn (hb pins s2 σ1 H2 _ I2 q2) fun f s3 q3=>?_);cases f with
  | next =>
   obtain⟨σ3,H3,I3,n3⟩:=q3;obtain⟨m',hm,w3⟩:=hN σ3 H3 n3;exact⟨m',hm,σ3,H3,I3,w3⟩
  | cont =>
   obtain⟨σ3,H3,I3,n3⟩:=q3;obtain⟨m',hm,w3⟩:=hN σ3 H3 n3;exact⟨m',hm,σ3,H3,I3,w3⟩
  | brk=>exact q3
  | ret v=>exact q3
 | false =>
  rw[Gp HA];exact wpAny_execs_nil ⟨σ1,H2,I2,q2⟩
end
structure It where
 go:Nat->Hp->Prop
 yld:Nat->Hp->V->Hp->Prop
 stop:Nat->Hp->Prop
def fK(X:Cx)(pins:List (Addr×Obj))(H:Hp)(b:Addr):Prop :=
 H b=none/\b≠X.env.locals/\b∉X.fs/\(b∈X.ex∨X.s₀.heap.objs.size≤b)/\(∀x c,X.env.cells.lookup x=some c->c≠b)/\∀p∈X.pn++pins,p.1≠b
theorem Inv.fpOk{σ:St}{b:Addr}(I:Inv X pins σ H s)(hb:s.heap.objs.size≤b)(hn:H' b=none):fK X pins H' b:=by
 refine⟨hn,Nat.ne_of_gt (GA I.lt hb),I.nofs hb,.inr (GU I.sz hb),fun x c e z=>?_,fun p hp z=>?_⟩
 ·obtain⟨v,q⟩:=I.cell x c e;exact absurd (GA q.lt (by rw[z];exact hb)) (Io _)
 ·exact absurd (GA (Gd (I.pin p hp).1) (by rw[z];exact hb)) (Io _)
structure Turn (P:Program) (w:World) (K:PySem.W.Frag) (tg:Expr) (J:It) (fp:List Addr) (it:Addr) (tn:Nat→Heap→Prop):Prop where
 mem:it∈fp
 obj:∀i h,tn i h->∀b∈fp,∃o,h.get? b=some o/\∀v,o.data≠.cell v
 keep:∀i h h',tn i h->(∀b∈fp,∀o,h.get? b=some o->h'.get? b=some o)->tn i h'
 item:∀(X:Cx),X.prog=P->X.w=w->X.K=K->X.calm=true->∀(i:Nat) (pins:List (Addr×Obj)) (s:Shared) (σ:St) (H:Hp) (E:Value->Shared->Prop),Inv X pins σ H s->(∀b∈fp,fK X pins H b)->tn i s.heap->J.go i H ->
  wpAny (model P w) X.A (pyNext (.ref it)) (fun r s1=>∃u,r=some u /\
   wpAny (model P w) X.A (letOwnedTupleGo tg (.ref it) u) (fun _ s2=>∃x H',Inv X pins σ H' s2/\RelV x u/\J.yld i H x H'/\tn (i+1) s2.heap/\∀b∈fp,H' b=none) E s1) E s
 done:∀(X:Cx),X.prog=P->X.w=w->X.K=K->X.calm=true->∀(i:Nat) (pins:List (Addr×Obj)) (s:Shared) (σ:St) (H:Hp) (E:Value->Shared->Prop),Inv X pins σ H s->(∀b∈fp,fK X pins H b)->tn i s.heap->J.stop i H ->
  wpAny (model P w) X.A (pyNext (.ref it)) (fun r s1=>r=none/\Inv X pins σ H s1) E s
 self:∀(A:Around) (i:Nat) (s:Shared) (Q:Value->Shared->Prop) (E:Value->Shared->Prop),tn i s.heap->Q (.ref it) s->wpAny (model P w) A (pyIter (.ref it)) Q E s
abbrev TI:=St->Hp->(It->Hp->Prop)->Prop
def PIE(X:Cx)(pins:List (Addr×Obj))(σ:St)(tg:Expr)(R:It->Hp->Prop)(itv:Value)(s2:Shared):Prop :=
 ∃(it:Addr) (fp:List Addr) (tn:Nat->Heap->Prop) (J:It) (H':Hp),itv=.ref it/\Inv X pins σ H' s2/\Turn X.prog X.w X.K tg J fp it tn/\tn 0 s2.heap/\(∀b∈fp,fK X pins H' b)/\R J H'
def PI(X:Cx)(tg iter:Expr)(wi:TI):Prop :=
 ∀(pins:List (Addr×Obj)) (s:Shared) (σ:St) (H:Hp) (R:It->Hp->Prop),Inv X pins σ H s->wi σ H R ->
  wpAny (model X.prog X.w) X.A (eval iter X.env) (fun v s1=>wpAny (model X.prog X.w) X.A (pyIter v) (PIE X pins σ tg R) X.xe s1) X.xe s
theorem ja(ho:s.heap.get? it=some o)(hc:o.cls=.type n)(hd:o.data=.fields vs)
  (hn:["enumerate","zip","dict_itemiterator","dict_reverseitemiterator","odict_iterator","itertools.zip_longest","itertools.pairwise"].contains n=false) (hQ:Q () s):wpAny M A (letOwnedTupleGo tg (.ref it) u) Q E s:=by
 unfold letOwnedTupleGo;cases tg<;>first
  | exact F5 hQ
  |(cases u<;>first
    | exact F5 hQ
    | (refine F1 (wpAny_load ho ?_)
       rw [hc,hd];show wpAny M A (if (["enumerate","zip","dict_itemiterator","dict_reverseitemiterator","odict_iterator","itertools.zip_longest","itertools.pairwise"].contains n && vs[0]? == some (rawInt _))=true then _ else _) Q E s;rw [Gp (by intro h; rw [hn,Bool.false_and] at h; cases h)];exact F5 hQ))
def Itl(K:PySem.W.Frag)(a:Addr):It :=
 ⟨fun i H=>∃xs x,SqL K H a xs/\xs[i]?=some x,fun i H x H'=>H'=H/\∀xs,SqL K H a xs->xs[i]?=some x,fun i H=>∃xs,SqL K H a xs/\xs.length≤i⟩
def Itt(K:PySem.W.Frag)(a:Addr):It :=
 ⟨fun i H=>∃xs x,SqT K H a xs/\xs[i]?=some x,fun i H x H'=>H'=H/\∀xs,SqT K H a xs->xs[i]?=some x,fun i H=>∃xs,SqT K H a xs/\xs.length≤i⟩
def Itr(lo:Int)(n:Nat):It:=⟨fun i _=>i<n,fun i H x H'=>H'=H/\x=.int (lo+i),fun i _=>n≤i⟩
theorem oY{K:PySem.W.Frag}(a it:Addr):Turn P w K tg (Itl K a) [it] it (fun i h=>h.IsListIter it a i) where
 mem:=by simp
 obj:=fun i h st b hb=>by
  have e:b=it:=by simpa using hb
  subst e;obtain⟨o,e,c,d⟩:=st;exact⟨o,e,fun v z=>by rw[d]at z;cases z⟩
 keep:=fun i h h' st k=>st.at fun o e=>k it (by simp) o e
 item:=by
  intro X hP hw hK hc i pins s σ H E I hf st hg;subst hP hw hK;obtain⟨xs,x,hq,hx⟩:=hg;obtain⟨its,rv,p,hz⟩:=I.list hq;obtain⟨u,hu,ru⟩:=rv.get hx;obtain⟨f0,f1,f2,f3,f4,f5⟩:=hf it (by simp);refine wpAny_pyNext_list_item st p.isList (x:=u) (by simpa using hu) fun h' st' sb=>?_;have I1:Inv X pins σ H { s with heap:=h' }:=I.turned (t':=s.toks) (fun b o hb e=>(sb.2 b hb).trans e) f0 f1 f3 f4 f5;obtain⟨o,e,c,d⟩:=id st';exact⟨u,rfl,ja (s:={ s with heap:=h' }) e c d (by decide) ⟨x,H,I1,ru,⟨rfl,fun ys hy=>by rw[I.list_inj hy hq];exact hx⟩,st',fun b hb=>(hf b hb).1⟩⟩
 done:=by
  intro X hP hw hK hc i pins s σ H E I hf st hg;subst hP hw hK;obtain⟨xs,hq,hx⟩:=hg;obtain⟨its,rv,p,hz⟩:=I.list hq;obtain⟨f0,f1,f2,f3,f4,f5⟩:=hf it (by simp);have hl:=rv.length;exact wpAny_pyNext_list_end (I.ok.hd hc) st p.isList (by simp;omega) fun h' eb=>⟨rfl,I.turned (t':=s.toks) (fun b o hb e=>eb b o hb e) f0 f1 f3 f4 f5⟩
 self:=fun _ _ _ _ _ st h=>wpAny_pyIter_listiter st h
theorem mK{K:PySem.W.Frag}(a it:Addr):Turn P w K tg (Itt K a) [it] it (fun i h=>h.IsTupleIter it a i) where
 mem:=by simp
 obj:=fun i h st b hb=>by
  have e:b=it:=by simpa using hb
  subst e;obtain⟨o,e,c,d⟩:=st;exact⟨o,e,fun v z=>by rw[d]at z;cases z⟩
 keep:=fun i h h' st k=>st.at fun o e=>k it (by simp) o e
 item:=by
  intro X hP hw hK hc i pins s σ H E I hf st hg;subst hP hw hK;obtain⟨xs,x,hq,hx⟩:=hg;obtain⟨its,rv,p,hz⟩:=I.tuple hq;obtain⟨u,hu,ru⟩:=rv.get hx;obtain⟨f0,f1,f2,f3,f4,f5⟩:=hf it (by simp);refine wpAny_pyNext_tuple_item st (show s.heap.IsTuple a its.toArray from p) (x:=u) (by simpa using hu) fun h' st' sb=>?_;have I1:Inv X pins σ H { s with heap:=h' }:=I.turned (t':=s.toks) (fun b o hb e=>(sb.2 b hb).trans e) f0 f1 f3 f4 f5;obtain⟨o,e,c,d⟩:=id st';exact⟨u,rfl,ja (s:={ s with heap:=h' }) e c d (by decide) ⟨x,H,I1,ru,⟨rfl,fun ys hy=>by rw[I.tuple_inj hy hq];exact hx⟩,st',fun b hb=>(hf b hb).1⟩⟩
 done:=by
  intro X hP hw hK hc i pins s σ H E I hf st hg;subst hP hw hK;obtain⟨xs,hq,hx⟩:=hg;obtain⟨its,rv,p,hz⟩:=I.tuple hq;obtain⟨f0,f1,f2,f3,f4,f5⟩:=hf it (by simp);have hl:=rv.length;exact wpAny_pyNext_tuple_end (I.ok.hd hc) st (show s.heap.IsTuple a its.toArray from p) (by simp;omega) fun h' eb=>⟨rfl,I.turned (t':=s.toks) (fun b o hb e=>eb b o hb e) f0 f1 f3 f4 f5⟩
 self:=fun _ _ _ _ _ st h=>wpAny_pyIter_tupleiter st h
theorem mL{K:PySem.W.Frag}(it:Addr)(lo:Int)(n:Nat):Turn P w K tg (Itr lo n) [it] it (fun i h=>IsRangeIter h it (lo+(i:Nat)*1) ((n:Int) - (i:Nat)) 1) where
 mem:=by simp
 obj:=fun i h st b hb=>by
  have e:b=it:=by simpa using hb
  subst e;exact⟨_,st,fun v z=>by
   have z':Data.fields _=Data.cell v:=z;cases z'⟩
 keep:=fun i h h' st k=>k it (by simp) _ st
 item:=by
  intro X hP hw hK hc i pins s σ H E I hf st hg;subst hP hw hK;obtain⟨f0,f1,f2,f3,f4,f5⟩:=hf it (by simp);have W:=Walks.range (prog:=X.prog) (w:=X.w) (I.ok.hd hc) it lo 1 n;refine W.item i s _ _ hg st fun v h' tk hv st' kk=>?_;obtain⟨t,rfl⟩:=hv;have I1:Inv X pins σ H { s with heap:=h',toks:=tk }:=I.turned (fun b o hb e=>kk b o (by simpa using hb) e) f0 f1 f3 f4 f5;refine⟨_,rfl,ja (s:={ s with heap:=h',toks:=tk }) (n:="range_iterator") st' rfl rfl (by decide) ⟨.int (lo+i),H,I1,⟨t,?_⟩,⟨rfl,rfl⟩,st',fun b hb=>(hf b hb).1⟩⟩;rw[Int.mul_one]
 done:=by
  intro X hP hw hK hc i pins s σ H E I hf st hg;subst hP hw hK;obtain⟨f0,f1,f2,f3,f4,f5⟩:=hf it (by simp);exact wpAny_pyNext_range_end (I.ok.hd hc) st (by have:n≤i:=hg;omega) fun h' eb=>⟨rfl,I.turned (t':=s.toks) (fun b o hb e=>eb b o hb e) f0 f1 f3 f4 f5⟩
 self:=fun _ _ _ _ _ st h=>wpAny_pyIter_rangeiter st h
end
section
section
variable {X:Cx}{tg:Expr}
theorem ka{σ:St}{lo hi:Int}(I:Inv X pins σ H s)(h1:-(2 ^ 62)≤lo)(h2:lo<2 ^ 62)(h3:-(2 ^ 62)≤hi)(h4:hi<2 ^ 62)
  (q:R (Itr lo (hi - lo).toNat) H):wpAny (model X.prog X.w) X.A (pyIter (.ref s.heap.objs.size)) (PIE X pins σ tg R) E { s with heap:=s.heap.push { cls:=.type "range",data:=.fields #[.int lo t,.int hi u,.int 1 v] },toks:=tk }:=by
 refine wpAny_pyIter_range (IsRange.new ..) (small_one h1 h2 h3 h4) ?_;have I1:Inv X pins σ H { s with heap:=s.heap.push { cls:=.type "range",data:=.fields #[.int lo t,.int hi u,.int 1 v] },toks:=tk }:=I.kept fun b o e=>F6 _ e;refine⟨(s.heap.push { cls:=.type "range",data:=.fields #[.int lo t,.int hi u,.int 1 v] }).objs.size,[(s.heap.push { cls:=.type "range",data:=.fields #[.int lo t,.int hi u,.int 1 v] }).objs.size],_,_,H,rfl,
  I1.kept (t':=tk) fun b o e=>F6 _ e,mL _ lo (hi - lo).toNat,?_,fun b hb=>?_,q⟩
 ·have e1:lo+((0:Nat):Int)*1=lo:=by simp
  have e2:(((hi - lo).toNat:Nat):Int) - ((0:Nat):Int)=Builtin.Range.rangeSize lo hi 1:=by rw[rangeSize_one];split<;>omega
  show IsRangeIter _ _ (lo+((0:Nat):Int)*1) ((((hi - lo).toNat:Nat):Int) - ((0:Nat):Int)) 1;rw[e1,e2];exact Gm _ rfl
 ·have e:b=(s.heap.push { cls:=.type "range",data:=.fields #[.int lo t,.int hi u,.int 1 v] }).objs.size:=by simpa using hb
  subst e;exact I1.fpOk (F9 _) (I1.hok.fresh (F9 _))
def BC(ta:TA):TI:=fun σ H R=>ta σ H fun vs H1=>∃j:Int,vs=[.int j]/\-(2 ^ 62)≤j/\j<2 ^ 62/\R (Itr 0 j.toNat) H1
def Az(ta:TA):TI:=fun σ H R=>ta σ H fun vs H1=>∃i j:Int,vs=[.int i,.int j]/\(-(2 ^ 62)≤i/\i<2 ^ 62/\-(2 ^ 62)≤j/\j<2 ^ 62)/\R (Itr i (j - i).toNat) H1
theorem pH{a:Expr}{ta:TA}{p pos:Pos}(hg:Gl X "range")(hm:X.mg "range"=none)(ha:PA X [a] ta)(hs:starEach [a] X.env=[(false,eval a X.env)]:=by rfl):PI X tg (.Call (.Name "range" p) [a] [] pos) (BC ta):=by
 intro pins s σ H R I h;refine Call_ (dD I hg hm boot_range (G0 (thn (ha pos pins s σ H _ I h) fun us s1 ⟨vs,H1,I1,r1,q1⟩=>?_) hs rfl));obtain⟨j,e,q1,q2,q⟩:=q1;subst e;cases r1 with
 | cons r rr =>
  cases rr;obtain⟨t,rfl⟩:=r;exact call_range_1 (ka I1 (by omega) (by omega) q1 q2 (by simpa using q))
theorem o7{a b:Expr}{ta:TA}{p pos:Pos}(hg:Gl X "range")(hm:X.mg "range"=none)(ha:PA X [a,b] ta)(hs:starEach [a,b] X.env=[(false,eval a X.env),(false,eval b X.env)]:=by rfl)(hs2:starEach [b] X.env=[(false,eval b X.env)]:=by rfl) :
  PI X tg (.Call (.Name "range" p) [a,b] [] pos) (Az ta):=by
 intro pins s σ H R I h;refine Call_ (dD I hg hm boot_range (G0 (thn (ha pos pins s σ H _ I h) fun us s1 ⟨vs,H1,I1,r1,q1⟩=>?_) (by rw[hs,hs2]) (by rw[hs2];rfl)));obtain⟨i,j,e,⟨q1,q2,q3,q4⟩,q⟩:=q1;subst e;cases r1 with
 | cons r rr =>
  cases rr with
  | cons r' rr =>
   cases rr;obtain⟨t,rfl⟩:=r;obtain⟨t',rfl⟩:=r';exact call_range_2 (ka I1 q1 q2 q3 q4 q)
def CY(wi:TI)(g:TG)(tb:TS):TS:=fun D σ H=>wi σ H fun J H1=>∃W:Nat->Nat->St->Hp->Prop,(∃m,W 0 m σ H1)/\∀i m σ H,W i m σ H ->
 (J.stop i H/\D.nx σ H)∨(J.go i H/\∃N:St->Hp->Prop,(∀σ' H',N σ' H'->∃m',m'<m/\W (i+1) m' σ' H')/\∀x H',J.yld i H x H'->g x σ H' fun σ2 H2=>tb { D with nx:=N,ct:=N,bk:=D.nx } σ2 H2)
def iz(fp:List Addr)(h:Heap):List (Addr×Obj):=fp.filterMap fun b=>(h.get? b).map fun o=>(b,o)
theorem dz(hb:b∈fp)(e:h.get? b=some o):(b,o)∈iz fp h:=List.mem_filterMap.mpr ⟨b,hb,by rw[e];rfl⟩
theorem o4(hp:p∈iz fp h):p.1∈fp/\h.get? p.1=some p.2:=by
 obtain⟨b,hb,e⟩:=List.mem_filterMap.mp hp;cases q:h.get? b with
 | none=>rw[q]at e;cases e
 | some o =>
  rw[q]at e;have e':(b,o)=p:=Gw e;subst e';exact⟨hb,q⟩
theorem Inv.pinned{σ:St}(I:Inv X pins σ H s)(hf:∀b∈fp,fK X pins H b)(ho:∀b∈fp,∃o,s.heap.get? b=some o/\∀v,o.data≠.cell v):Inv X (pins++iz fp s.heap) σ H s :=
 I.pins_of fun p hp=>(Gf.mp hp).elim (fun z=>I.pin p (Gy _ z)) fun z=>by
  obtain⟨hb,e⟩:=o4 z;obtain⟨f0,f1,f2,_⟩:=hf p.1 hb;obtain⟨o,e',d⟩:=ho p.1 hb;rw[e]at e';cases e';exact⟨e,f0,f1,f2,d⟩
theorem Inv.unpinned{σ:St}(I:Inv X (pins++pl) σ H s):Inv X pins σ H s:=I.pins_of fun p hp=>I.pin p (Gy _ (GH _ hp))
theorem sR{iter:Expr}{body:List Stmt}{wi:TI}{g:TG}{tb:TS}{pos:Pos}(hp:PassesOwn (model X.prog X.w) X.A X.env X.xe)(hc:X.calm=true)(hi:PI X tg iter wi)(hg:PG X tg g)(hb:PSs X body tb)
  (hs:∀x,foldedSetIterable iter X.env x=pure x:=by intro _;rfl):PS X (.For tg iter body [] pos) (CY wi g tb):=by
 intro pins s σ H D I h;refine wpAny_For (thn (hi pins s σ H _ I h) fun v s1 h1=>thn h1 fun itv s2 h2=>?_) hs;obtain⟨it,fp,tn,J,H2,e,I2,T,st2,f2,W,⟨m0,w0⟩,turn⟩:=h2;subst e;have stat:∀{H':Hp},(∀b∈fp,H' b=none)->∀b∈fp,fK X pins H' b:=fun hn b hb=>⟨hn b hb,(f2 b hb).2⟩;refine codeAny_forLoop_any (fun n s'=>∃i σ' H',Inv X pins σ' H' s'/\tn i s'.heap/\(∀b∈fp,H' b=none)/\W i n σ' H') ?_ m0 ⟨0,σ,H2,I2,st2,fun b hb=>(f2 b hb).1,w0⟩;rintro n s3 ⟨i,σ3,H3,I3,st3,fr3,w3⟩;rcases turn i n σ3 H3 w3 with⟨stop,qn⟩ |⟨go,N,hN,step⟩
 ·refine Iy hp (thn (T.done X rfl rfl rfl hc i pins s3 σ3 H3 X.xe I3 (stat fr3) st3 stop) fun r s4 y_=>?_);obtain⟨hr,I4⟩:=y_;subst hr;exact wpAny_execs_nil ⟨σ3,H3,I4,qn⟩
 ·refine Iy hp (thn (T.item X rfl rfl rfl hc i pins s3 σ3 H3 X.xe I3 (stat fr3) st3 go) fun r s4 y_=>?_);obtain⟨u,hr,h4⟩:=y_;subst hr;refine Iy hp (thn h4 fun _ s5 y_=>?_);obtain⟨x,H5,I5,r5,y5,st5,fr5⟩:=y_;have I5':=I5.pinned (stat fr5) (T.obj _ _ st5);refine Iy hp (thn (hg _ s5 σ3 H5 x u _ I5' r5 (step x H5 y5)) fun _ s6 y_=>?_);obtain⟨σ6,H6,I6,q6⟩:=y_;refine Iy hp (thn (hb _ s6 σ6 H6 _ I6 q6) fun f s7 q7=>?_);have again:∀{σ7:St} {H7:Hp},Inv X (pins++iz fp s5.heap) σ7 H7 s7->N σ7 H7->∃m,m<n/\∃i σ' H',Inv X pins σ' H' s7/\tn i s7.heap/\(∀b∈fp,H' b=none)/\W i m σ' H':=fun {σ7 H7} I7 n7=>by
   obtain⟨m',hm,w7⟩:=hN σ7 H7 n7;refine⟨m',hm,i+1,σ7,H7,I7.unpinned,T.keep _ _ _ st5 fun b hb o e=>(I7.pin (b,o) (Gy _ (Gy _ (dz hb e)))).1,fun b hb=>?_,w7⟩;obtain⟨o,e,d⟩:=T.obj _ _ st5 b hb;exact(I7.pin (b,o) (Gy _ (Gy _ (dz hb e)))).2.1
  cases f with
  | next=>obtain⟨σ7,H7,I7,n7⟩:=q7;exact again I7 n7
  | cont=>obtain⟨σ7,H7,I7,n7⟩:=q7;exact again I7 n7
  | brk=>obtain⟨σ7,H7,I7,q7⟩:=q7;exact⟨σ7,H7,I7.unpinned,q7⟩
  | ret v=>obtain⟨x7,σ7,H7,I7,r7,q7⟩:=q7;exact⟨x7,σ7,H7,I7.unpinned,r7,q7⟩
end
theorem lH{c:TT}{tb:TS}{D:Ends}{σ:St}{H:Hp}(Pv:St->Hp->Prop)(μ:St->Hp->Nat)(h0:Pv σ H)
  (hs:∀σ H,Pv σ H->c σ H fun b H1=>if b=true then tb { D with nx:=fun σ' H'=>Pv σ' H'/\μ σ' H'<μ σ H,ct:=fun σ' H'=>Pv σ' H'/\μ σ' H'<μ σ H,bk:=D.nx } σ H1 else D.nx σ H1)
  (mono:∀σ H Q Q',(∀b H1,Q b H1->Q' b H1)->c σ H Q->c σ H Q'):rG c tb D σ H:=by
 refine⟨fun m σ H=>m=μ σ H/\Pv σ H,⟨_,rfl,h0⟩,?_⟩;rintro m σ H ⟨rfl,p⟩;refine mono σ H _ _ (fun b H1 q=>?_) (hs σ H p);cases b with
 | true=>exact⟨_,fun σ' H' y_=>by obtain⟨p',l⟩:=y_;exact ⟨_,l,rfl,p'⟩,q⟩
 | false=>exact q
end
section
abbrev R2:=V->V->Hp->VK->Prop
def OpR(X:Cx)(f:Value->Value->Sem Value)(r:R2):Prop :=
 ∀(pins:List (Addr×Obj)) (s:Shared) (σ:St) (H:Hp) (x y:V) (v u:Value) (Q:VK),Inv X pins σ H s->RelV x v->RelV y u->r x y H Q ->
  wpAny (model X.prog X.w) X.A (f v u) (EP X pins σ Q) X.xe s
def UnR(X:Cx)(f:Value->Sem Value)(r:V->Hp->VK->Prop):Prop :=
 ∀(pins:List (Addr×Obj)) (s:Shared) (σ:St) (H:Hp) (x:V) (v:Value) (Q:VK),Inv X pins σ H s->RelV x v->r x H Q ->
  wpAny (model X.prog X.w) X.A (f v) (EP X pins σ Q) X.xe s
def cA(X:Cx)(f:Value)(r:List V->Hp->VK->Prop):Prop :=
 ∀(pins:List (Addr×Obj)) (s:Shared) (σ:St) (H:Hp) (xs:List V) (us:List Value) (Q:VK),Inv X pins σ H s->Vals xs us->r xs H Q ->
  wpAny (model X.prog X.w) X.A (call f us) (EP X pins σ Q) X.xe s
def tOp(r:R2)(ta tb:TE):TE:=fun σ H Q=>ta σ H fun x H1=>tb σ H1 fun y H2=>r x y H2 Q
def tUn(r:V->Hp->VK->Prop)(ta:TE):TE:=fun σ H Q=>ta σ H fun x H1=>r x H1 Q
def rI(C:Int->Int->Prop)(g:Int->Int->V):R2:=fun x y H Q=>∃i j,x=.int i/\y=.int j/\C i j/\Q (g i j) H
def rI0(g:Int->Int->V):R2:=fun x y H Q=>∃i j,x=.int i/\y=.int j/\Q (g i j) H
def rU(g:Int->V):V->Hp->VK->Prop:=fun x H Q=>∃i,x=.int i/\Q (g i) H
section
variable {X:Cx}{a b c:Expr}{ta tb tc:TE}{pos:Pos}
theorem xo(ha:PE X a ta)(hb:PE X b tb){pins:List (Addr×Obj)}{s:Shared}{σ:St}{H:Hp}{R:V->V->Hp->Prop}(I:Inv X pins σ H s)
  (h:ta σ H fun x H1=>tb σ H1 fun y H2=>R x y H2) {Q:Value->Shared->Prop} {f:Value->Value->Sem Value}
  (hf:∀v u s2 x y H2,Inv X pins σ H2 s2->RelV x v->RelV y u->R x y H2->wpAny (model X.prog X.w) X.A (f v u) Q X.xe s2) :
  wpAny (model X.prog X.w) X.A (eval a X.env) (fun v s₁=>wpAny (model X.prog X.w) X.A (eval b X.env) (fun u s₂=>wpAny (model X.prog X.w) X.A (f v u) Q X.xe s₂) X.xe s₁) X.xe s:=by
 refine thn (ha pins s σ H _ I h) fun v s1 y_=>?_;obtain⟨x,H1,I1,r1,q1⟩:=y_;refine thn (hb pins s1 σ H1 _ I1 q1) fun u s2 y_=>?_;obtain⟨y,H2,I2,r2,q2⟩:=y_;exact hf v u s2 x y H2 I2 r1 r2 q2
theorem AB(ho:OpR X (binaryOp op) r)(ha:PE X a ta)(hb:PE X b tb):PE X (.BinOp a op b pos) (tOp r ta tb):=by
 intro pins s σ H Q I h;exact wpAny_BinOp (xo ha hb I h fun v u s2 x y H2 I2 rx ry q=>ho pins s2 σ H2 x y v u Q I2 rx ry q)
theorem Ay(ho:UnR X (unaryOp op) r)(ha:PE X a ta):PE X (.UnaryOp op a pos) (tUn r ta):=by
 intro pins s σ H Q I h;exact UnaryOp_ (thn (ha pins s σ H _ I h) fun v s1 y_=>by obtain⟨x,H1,I1,r1,q1⟩:=y_;exact ho pins s1 σ H1 x v Q I1 r1 q1)
theorem opI{g:Int->Int->Int}
  (rule:∀(i j:Int) (t u:Tok) (s:Shared) (Q:Value->Shared->Prop) (E:Value->Shared->Prop),C i j->Q (.int (g i j) s.toks) { s with toks:=s.toks+1 }->wpAny (model X.prog X.w) X.A (f (.int i t) (.int j u)) Q E s) :
  OpR X f (rI C fun i j=>.int (g i j)):=by
 intro pins s σ H x y v u Q I rx ry h;obtain⟨i,j,rfl,rfl,hc,q⟩:=h;obtain⟨t,rfl⟩:=rx;obtain⟨t',rfl⟩:=ry;exact rule i j t t' s _ _ hc ⟨.int (g i j),H,I.tok _,⟨_,rfl⟩,q⟩
theorem y3{g:Int->Int->Int}
  (rule:∀(i j:Int) (t u:Tok) (s:Shared) (Q:Value->Shared->Prop) (E:Value->Shared->Prop),Q (.int (g i j) s.toks) { s with toks:=s.toks+1 }->wpAny (model X.prog X.w) X.A (f (.int i t) (.int j u)) Q E s) :
  OpR X f (rI0 fun i j=>.int (g i j)):=by
 intro pins s σ H x y v u Q I rx ry h;obtain⟨i,j,rfl,rfl,q⟩:=h;obtain⟨t,rfl⟩:=rx;obtain⟨t',rfl⟩:=ry;exact rule i j t t' s _ _ ⟨.int (g i j),H,I.tok _,⟨_,rfl⟩,q⟩
theorem tf{g:Int->Int->Bool}
  (rule:∀(i j:Int) (t u:Tok) (s:Shared) (Q:Value->Shared->Prop) (E:Value->Shared->Prop),Q (.bool (g i j)) s->wpAny (model X.prog X.w) X.A (f (.int i t) (.int j u)) Q E s) :
  OpR X f (rI0 fun i j=>.bl (g i j)):=by
 intro pins s σ H x y v u Q I rx ry h;obtain⟨i,j,rfl,rfl,q⟩:=h;obtain⟨t,rfl⟩:=rx;obtain⟨t',rfl⟩:=ry;exact rule i j t t' s _ _ ⟨.bl (g i j),H,I,rfl,q⟩
def tV(i j:Int):Prop:=0≤j/\j≤1000000/\i.natAbs<2 ^ 64
def yo(i j:Int):Prop:=(-(2 ^ 64)<i/\i<2 ^ 64)∨(-(2 ^ 64)<j/\j<2 ^ 64)
theorem yo.ok(h:yo i j):IntMulOk i j:=by
 rcases h with⟨h1,h2⟩ |⟨h1,h2⟩
 ·exact .of_left (intBits_le_64 h1 h2)
 ·exact .of_right (intBits_le_64 h1 h2)
theorem lO(k:Nat):(0:Int)≤2 ^ k:=by
 rw[two_pow_cast];exact Int.natCast_nonneg _
theorem xw:OpR X (binaryOp .Add) (rI0 fun i j=>.int (i+j)):=y3 fun _ _ _ _ _ _ _ q=>add_int q
theorem xY:OpR X (binaryOp .Sub) (rI0 fun i j=>.int (i - j)):=y3 fun _ _ _ _ _ _ _ q=>sub_int q
theorem u9:OpR X (binaryOp .Mod) (rI (fun _ j=>j≠0) fun i j=>.int (i.fmod j)):=opI fun _ _ _ _ _ _ _ hc q=>mod_int' hc q
theorem yS:OpR X (binaryOp .Pow) (rI tV fun i j=>.int (i ^ j.toNat)):=opI fun _ _ _ _ _ _ _ hc q=>pow_int_small hc.1 hc.2.1 hc.2.2 q
theorem yI:OpR X (binaryOp .RShift) (rI (fun _ j=>0≤j) fun i j=>.int (i / 2 ^ j.toNat)):=opI fun i j _ _ _ _ _ hc q =>
 rshift_int hc (by rw[Int.fdiv_eq_ediv_of_nonneg i (lO _)];exact q)
theorem x9:OpR X (binaryOp .BitAnd) (rI0 fun i j=>.int (Builtin.bitAnd i j)):=y3 fun _ _ _ _ _ _ _ q=>and_int q
theorem unI{g:Int->Int}
  (rule:∀(i:Int) (t:Tok) (s:Shared) (Q:Value->Shared->Prop) (E:Value->Shared->Prop),Q (.int (g i) s.toks) { s with toks:=s.toks+1 }->wpAny (model X.prog X.w) X.A (f (.int i t)) Q E s) :
  UnR X f (rU fun i=>.int (g i)):=by
 intro pins s σ H x v Q I rx h;obtain⟨i,rfl,q⟩:=h;obtain⟨t,rfl⟩:=rx;exact rule i t s _ _ ⟨.int (g i),H,I.tok _,⟨_,rfl⟩,q⟩
theorem yM:UnR X (unaryOp .USub) (rU fun i=>.int (-i)):=unI fun _ _ _ _ _ q=>neg_int q
end
section
variable {X:Cx}{a b c:Expr}{ta tb tc:TE}{pos:Pos}
theorem sQ{σ:St}(I:Inv X pins σ H s)(q:Q (.bl k) H)(e:k=k'):EP X pins σ Q (.bool k') s:=by
 subst e;exact⟨.bl k,H,I,rfl,q⟩
theorem fc:OpR X (compareOp .Lt) (rI0 fun i j=>.bl (decide (i<j))):=tf fun _ _ _ _ _ _ _ q=>lt_int q
theorem qr:OpR X (compareOp .LtE) (rI0 fun i j=>.bl (decide (i≤j))):=tf fun _ _ _ _ _ _ _ q=>le_int q
theorem iW:OpR X (compareOp .Gt) (rI0 fun i j=>.bl (decide (j<i))):=tf fun _ _ _ _ _ _ _ q=>gt_int q
theorem mP:OpR X (compareOp .GtE) (rI0 fun i j=>.bl (decide (j≤i))):=tf fun _ _ _ _ _ _ _ q=>ge_int q
theorem p9:OpR X (compareOp .Is) (fun x y H Q=>y=.non/\Q (.bl (decide (x=.non))) H):=by
 intro pins s σ H x y v u Q I rx ry h;obtain⟨rfl,q⟩:=h;cases ry;refine is_none_gen (sQ I q ?_);cases x<;>first
  |(cases rx;rfl)
  |(obtain⟨t,rfl⟩:=rx;rfl)
theorem uc:OpR X (compareOp .IsNot) (fun x y H Q=>y=.non/\Q (.bl (!decide (x=.non))) H):=by
 intro pins s σ H x y v u Q I rx ry h;obtain⟨rfl,q⟩:=h;cases ry;refine isnot_none_gen (sQ I q ?_);cases x<;>first
  |(cases rx;rfl)
  |(obtain⟨t,rfl⟩:=rx;rfl)
theorem bQ(b:Expr){op:CmpOp}(h:op≠.In:=by decide)(h2:op≠.NotIn:=by decide):behindInMarks op b=false:=by
 have e1:(op==CmpOp.In)=false:=by cases op<;>first | rfl | exact absurd rfl h
 have e2:(op==CmpOp.NotIn)=false:=by cases op<;>first | rfl | exact absurd rfl h2
 cases b<;>simp[behindInMarks,e1,e2]
theorem vi(ho:OpR X (compareOp op) r)(ha:PE X a ta)(hb:PE X b tb)(hm:behindInMarks op b=false):PE X (.Compare a [op] [b] pos) (tOp r ta tb):=by
 intro pins s σ H Q I h;exact wpAny_Compare1 (xo ha hb I h fun v u s2 x y H2 I2 rx ry q=>ho pins s2 σ H2 x y v u Q I2 rx ry q) hm
def wj(t:TE):TT:=fun σ H Q=>t σ H fun x H'=>∃k,x=.bl k/\Q k H'
theorem vo(ho:OpR X (compareOp op) r)(ha:PE X a ta)(hb:PE X b tb)(hm:behindInMarks op b=false):PT X (.Compare a [op] [b] pos) (wj (tOp r ta tb)):=by
 intro pins s σ H Q I h;refine wpAny_isTrue_Compare1 (thn (ha pins s σ H _ I h) fun v s1 ⟨x,H1,I1,r1,q1⟩=>thn (hb pins s1 σ H1 _ I1 q1) fun u s2 ⟨y,H2,I2,r2,q2⟩ =>
  thn (ho pins s2 σ H2 x y v u _ I2 r1 r2 q2) fun c s3 ⟨z,H3,I3,r3,k,e,q3⟩=>?_) hm
 subst e;cases r3;exact Hr ⟨H3,I3,q3⟩
def tJ(r r':R2)(ta tb tc:TE):TE:=fun σ H Q=>ta σ H fun x H1=>tb σ H1 fun y H2=>r x y H2 fun z H3=>∃k,z=.bl k /\
 (if k=true then tc σ H3 fun w' H4=>r' y w' H4 Q else Q (.bl false) H3)
theorem ra{op op':CmpOp}{r r':R2}(ho:OpR X (compareOp op) r)(ho':OpR X (compareOp op') r')(ha:PE X a ta)(hb:PE X b tb)(hc:PE X c tc)
  (hm:lastMarks [op,op'] [b,c]=false:=by with_unfolding_all rfl):PE X (.Compare a [op,op'] [b,c] pos) (tJ r r' ta tb tc):=by
 intro pins s σ H Q I h;refine Compare_chain (thn (ha pins s σ H _ I h) fun v s1 ⟨x,H1,I1,r1,q1⟩=>chain_link (thn (hb pins s1 σ H1 _ I1 q1) fun u s2 ⟨y,H2,I2,r2,q2⟩ =>
  thn (ho pins s2 σ H2 x y v u _ I2 r1 r2 q2) fun d s3 ⟨z,H3,I3,r3,k,e,q3⟩=>?_)) hm
 subst e;cases r3;refine Hr ?_;cases k with
 | false=>exact ite_ff ⟨.bl false,H3,I3,rfl,q3⟩
 | true=>exact ite_tt (chain_last (thn (hc pins s3 σ H3 _ I3 q3) fun w' s4 y_=>by obtain⟨z',H4,I4,r4,q4⟩:=y_;exact ho' pins s4 σ H4 y z' u w' Q I4 r2 r4 q4))
theorem jX:(sizeLine:Nat)<2 ^ 63:=by rw[Hx];decide
theorem vals1(r:Vals [x] us):∃u,us=[u]/\RelV x u:=by
 cases r with
 | cons r1 r2=>cases r2;exact⟨_,rfl,r1⟩
theorem vals2(r:Vals [x,y] us):∃u w',us=[u,w']/\RelV x u/\RelV y w':=by
 cases r with
 | cons r1 r2 =>
  cases r2 with
  | cons r3 r4=>cases r4;exact⟨_,_,rfl,r1,r3⟩
theorem oC(hc:X.calm=true):cA X (.builtin "max") (fun xs H Q=>∃i j,xs=[.int i,.int j]/\Q (.int (if j>i then j else i)) H):=by
 intro pins s σ H xs us Q I r h;obtain⟨i,j,rfl,q⟩:=h;obtain⟨u,w',rfl,⟨t,rfl⟩,⟨t',rfl⟩⟩:=vals2 r;refine max_two_ints (I.ok.hd hc) fun h' tk k=>⟨_,H,I.kept k,?_,q⟩;by_cases hj:j>i
 ·rw[Gq hj,Gq hj];exact⟨_,rfl⟩
 ·rw[Gp hj,Gp hj];exact⟨_,rfl⟩
theorem oV(hc:X.calm=true):cA X (.builtin "min") (fun xs H Q=>∃i j,xs=[.int i,.int j]/\Q (.int (if j<i then j else i)) H):=by
 intro pins s σ H xs us Q I r h;obtain⟨i,j,rfl,q⟩:=h;obtain⟨u,w',rfl,⟨t,rfl⟩,⟨t',rfl⟩⟩:=vals2 r;refine min_two_ints (I.ok.hd hc) fun h' tk k=>⟨_,H,I.kept k,?_,q⟩;by_cases hj:j<i
 ·rw[Gq hj,Gq hj];exact⟨_,rfl⟩
 ·rw[Gp hj,Gp hj];exact⟨_,rfl⟩
theorem oQ:cA X (.type "int") (fun xs H Q=>(∃i,xs=[.int i]/\Q (.int i) H)∨∃k,xs=[.bl k]/\Q (.int (if k then 1 else 0)) H):=by
 intro pins s σ H xs us Q I r h;rcases h with⟨i,rfl,q⟩ |⟨k,rfl,q⟩
 ·obtain⟨u,rfl,t,rfl⟩:=vals1 r;exact call_int_int ⟨.int i,H,I,⟨_,rfl⟩,q⟩
 ·obtain⟨u,rfl,r1⟩:=vals1 r;cases r1;exact call_int_bool ⟨.int (if k then 1 else 0),H,I.tok _,⟨_,rfl⟩,q⟩
end
end
section
structure mf (h:Heap) (x dx C:Addr) (mA:Str→Option Value):Prop where
 obj:h.get? x=some (PySem.W.instObj C dx)
 ns:h.Ns1 dx mA
 ne:dx≠x
theorem oz{h:Heap}(n:h.Ns1 dx mA):∃od,h.get? dx=some od/\∀name,PySem.W.lookIn name od=some (mA name):=by
 obtain⟨o,es,ep,ho,hd,hk,_,hm⟩:=n;refine⟨o,ho,fun name=>?_⟩;have e:=hm name;unfold nsFind findBy at e;rw[←Array.find?_toList]at e;unfold PySem.W.lookIn;rw[hd];dsimp only;split
 ·rename_i y q;rw[q]at e;exact congrArg some e
 ·rename_i q;rw[q]at e;have a:es.toList.any (·.refKey)=false:=by
   rw[List.any_eq_false];intro y hy;obtain⟨z,t,hkey⟩:=hk y (Array.mem_toList_iff.mp hy);simp[DictEntry.refKey,hkey]
  have a':¬es.toList.any (·.refKey)=true:=by rw[a];exact HA
  rw[Gp a'];exact congrArg some e
theorem mf.look(I:mf h x dx C mA):∃od,PySem.W.InstAt h x (PySem.W.instObj C dx) C (some od)/\∀name,PySem.W.lookIn name od=some (mA name) :=
 let ⟨od,ho,hl⟩:=oz I.ns
 ⟨od,⟨I.obj,rfl,rfl,ho⟩,hl⟩
section
variable {prog:Program}{w:World}{A:Around}{E:Value->Shared->Prop}{s:Shared}{K:PySem.W.Frag}{x dx C f:Addr}{mA:Str->Option Value}{name:Str}{v:Value}
theorem get_map(X:K.In s.heap)(I:mf s.heap x dx C mA)(hg:PySem.W.plainGet K C name=true)(hh:PySem.W.hasDictIn K C=true)
  (ha:PySem.W.findIn K (.ref C) name=some none) (hv:mA name=some v) (hv':PySem.W.handedIn v=true) (h:Q v { s with toks:=s.toks+1 }) :
  wpAny (model prog w) A (getAttr (.ref x) name expr) Q E s:=by
 obtain⟨od,J,hl⟩:=I.look;exact PySem.W.get_value X J (PySem.W.plainGet_of hg).1 (PySem.W.findObj_own hh ha rfl (by rw[hl,hv])) hv' h
theorem qj(X:K.In s.heap)(I:mf s.heap x dx C mA)(hg:PySem.W.plainGet K C name=true)
  (hf:PySem.W.findIn K (.ref C) name=some (some (.ref f))) (ht:PySem.W.isFn K (.ref f)=true) (hv:mA name=none) (h:Q (.ref f,[.ref x]) s) :
  wpAny (model prog w) A (getMethod (.ref x) name pl) Q E s:=by
 obtain⟨od,J,hl⟩:=I.look;exact PySem.W.method_fn X J (PySem.W.plainGet_of hg).1 (PySem.W.plainGet_of hg).2 hf (Ir.mp ht) (by show(PySem.W.lookIn name od).map (·.isSome)=some false;rw[hl,hv];rfl) h
theorem vp(X:K.In s.heap)(I:mf s.heap x dx C mA)
  (hs:PySem.W.findIn K (.ref C) "__setattr__"=some (some (.builtin "object.__setattr__"))) (hp:PySem.W.plainOver K C=true) (ht:PySem.W.takerIn K C name=some none) (hh:PySem.W.hasDictIn K C=true)
  (hw:PySem.Within mA ns) (hsz:ns.length≤sizeLine)
  (h:∀h',mf h' x dx C (fun y=>if y=name then some v else mA y)->Heap.SameBut dx s.heap h'->Q () { s with heap:=h',toks:=s.toks+2 }) :
  wpAny (model prog w) A (setAttr (.ref x) name v) Q E s:=by
 obtain⟨od,J,hl⟩:=I.look;refine PySem.W.set_plain X J hs (PySem.W.osa_open (s:={ s with toks:=s.toks+1 }) (r:=none) X J hp ht fun b=>?_);obtain⟨cd,hc,hd'⟩:=PySem.W.any_some hh;have hx:s.heap.get? x=some ⟨.ref C,some dx,.plain,#[]⟩:=I.obj;refine F1 (F5 (F1 (F1 (wpAny_loadPart hx (F1 (PySem.W.Looks.here (s:={ s with toks:=s.toks+1 }) (PySem.W.looks_clsIn X hc) ?_))))));rw[hd'];refine F5 (a:=some dx) (F1 (F5 (F1 ?_)));refine wpAny_nsSet1 (s:={ s with toks:=s.toks+1 }) I.ns fun h' hn2 hs2=>?_;obtain⟨oD,esD,epD,hoD,hdD,hcD⟩:=hn2.count (PySem.Within.cons name v hw);refine F1 (wpAny_lookBehind hoD (by rw[hdD];exact pastItsLine_dict (GU hcD (by rw[Gx];omega))) ?_);exact F5 (h _ ⟨(hs2.2 _ (Ne.symm I.ne)).trans I.obj,hn2,I.ne⟩ hs2)
theorem tG(X:K.In s.heap)(hm:PySem.W.makesIn K C=true)
  (hi:PySem.W.findIn K (.ref C) "__init__"=some (some (.ref f))) (hf:PySem.W.typeIn K (.ref f)=some (.type "function"))
  (h:codeAny (model prog w) (A.under (.builtin "type.__call__" ⟨.ref C::vs,kw⟩)) (.call (.ref f) ⟨.ref (s.heap.objs.size+1)::vs,kw⟩) (PySem.W.InitBack (s.heap.objs.size+1) R)
   { s with heap:=(s.heap.push PySem.W.emptyDict).push (PySem.W.instObj C s.heap.objs.size) }) :
  codeAny (model prog w) A (.call (.ref C) ⟨vs,kw⟩) R s:=by
 obtain⟨hh,g,d,t,os⟩:=s;exact PySem.W.make_core (PySem.W.makes_of X hm) (PySem.W.looks_findIn X hi) (fun self=>PySem.W.bind_fn X self hf) (.inl rfl) h
end
def dI(f:Str)(v:V):List (Str×V)->List (Str×V)
 | []=>[(f,v)]
 |(g,x)::r=>if g=f then(g,v)::r else(g,x)::dI f v r
theorem gw(f g:Str)(v:V):∀fs:List (Str×V),(dI f v fs).lookup g=if g=f then some v else fs.lookup g
 | []=>by
  show List.lookup g [(f,v)]=_;by_cases h:g=f
  ·have hb:(g==f)=true:=Ir.mpr h;simp only[List.lookup,hb,Gq h]
  ·have hb:(g==f)=false:=Ik.mpr h;simp only[List.lookup,hb,Gp h]
 |(k,x)::r=>by
  have ih:=gw f g v r;rw[show dI f v ((k,x)::r)=(if k=f then(k,v)::r else(k,x)::dI f v r)from rfl];by_cases hk:k=f
  ·rw[Gq hk];by_cases h:g=k
   ·have hb:(g==k)=true:=Ir.mpr h;simp only[List.lookup,hb,Gq (h.trans hk)]
   ·have hb:(g==k)=false:=Ik.mpr h;simp only[List.lookup,hb,Gp (fun e:g=f=>h (e.trans hk.symm))]
  ·rw[Gp hk];by_cases h:g=k
   ·have hb:(g==k)=true:=Ir.mpr h;simp only[List.lookup,hb,Gp (fun e:g=f=>hk (h.symm.trans e))]
   ·have hb:(g==k)=false:=Ik.mpr h;simp only[List.lookup,hb];exact ih
theorem fR(f:Str)(v:V):∀fs:List (Str×V),f∈(dI f v fs).map (·.1)/\∀g,g∈fs.map (·.1)->g∈(dI f v fs).map (·.1)
 | []=>⟨by simp[dI],fun g h=>by simp at h⟩
 |(k,x)::r=>by
  obtain⟨i1,i2⟩:=fR f v r;rw[show dI f v ((k,x)::r)=(if k=f then(k,v)::r else(k,x)::dI f v r)from rfl];by_cases hk:k=f
  ·rw[Gq hk];subst hk;exact⟨by simp,fun g h=>by simpa using h⟩
  ·rw[Gp hk];refine⟨?_,fun g h=>?_⟩
   ·rw[Ge];exact Gb _ i1
   ·rw[Ge]at h ⊢;rcases Gh.mp h with e | e
    ·exact Gh.mpr (.inl e)
    ·exact Gb _ (i2 g e)
theorem gh(f:Str)(v:V):∀fs:List (Str×V),(dI f v fs).length≤fs.length+1
 | []=>by simp[dI]
 |(k,x)::r=>by
  have ih:=gh f v r;rw[show dI f v ((k,x)::r)=(if k=f then(k,v)::r else(k,x)::dI f v r)from rfl];by_cases hk:k=f
  ·rw[Gq hk,Gx,Gx];omega
  ·rw[Gp hk,Gx,Gx];omega
theorem iE.some_of(r:iE (some v) o):∃u,o=some u/\RelV v u:=by
 cases o with
 | none=>exact(show False from r).elim
 | some u=>exact⟨u,rfl,r⟩
theorem iE.none_of(r:iE none o):o=none:=by
 cases o with
 | none=>rfl
 | some u=>exact(show False from r).elim
theorem pD(r:RelV v u):PySem.W.handedIn u=true:=by
 cases v with
 | non=>cases (show u=Value.none from r);rfl
 | bl b=>cases (show u=Value.bool b from r);rfl
 | int i=>obtain⟨t,e⟩:=(show ∃t,u=Value.int i t from r);cases e;rfl
 | str x=>obtain⟨t,e⟩:=(show ∃t,u=Value.str x t from r);cases e;rfl
 | byt b=>obtain⟨t,e⟩:=(show ∃t,u=Value.bytes b t from r);cases e;rfl
 | flt b=>obtain⟨t,e⟩:=(show ∃t,u=Value.float b t from r);cases e;rfl
 | ref a=>cases (show u=Value.ref a from r);rfl
 | ty n=>cases (show u=Value.type n from r);rfl
section
variable {P:Program}{w:World}{H H':Hp}{h h':Heap}{a C dx:Addr}{fs fs':List (Str×V)}
theorem gJ(hok:HOk P w H h)(e:H a=some (.ins C dx fs)):∃mA,mf h a dx C mA/\(∀f,iE (fs.lookup f) (mA f))/\PySem.Within mA (fs.map (·.1))/\fs.length≤1000/\H dx=some (.own a):=by
 obtain⟨d,z,ne,ob,mA,n,r,q⟩:=(show bP P w H h a (.ins C dx fs)from hok a _ e);exact⟨mA,⟨ob,n,ne⟩,r,q,z,d⟩
end
structure Cls (K:PySem.W.Frag) (C:Addr):Prop where
 pg:PySem.W.plainGet K C Str.empty=true
 hd:PySem.W.hasDictIn K C=true
 po:PySem.W.plainOver K C=true
 sa:PySem.W.findIn K (.ref C) "__setattr__"=some (some (.builtin "object.__setattr__"))
theorem Cls.get{K:PySem.W.Frag}{C:Addr}(c:Cls K C)(f:Str):PySem.W.plainGet K C f=true:=c.pg
def cT(K:PySem.W.Frag)(C:Addr)(f:Str):Prop:=PySem.W.findIn K (.ref C) f=some none
theorem cT.taker{K:PySem.W.Frag}(n:cT K C f):PySem.W.takerIn K C f=some none:=by
 unfold PySem.W.takerIn;rw[show PySem.W.findIn K (.ref C) f=some none from n];rfl
structure Meth (K:PySem.W.Frag) (C:Addr) (m:Str) (f:Addr):Prop where
 at_:PySem.W.findIn K (.ref C) m=some (some (.ref f))
 fn:PySem.W.isFn K (.ref f)=true
 kp:PySem.W.keepIn K (.ref f)=true
section
variable {X:Cx}{pins:List (Addr×Obj)}{σ:St}{H:Hp}{s:Shared}{a C dx:Addr}{fs:List (Str×V)}{f:Str}{v:V}{A:Around}{E:Value->Shared->Prop}
theorem my(I:Inv X pins σ H s)(e:H a=some (.ins C dx fs))(c:Cls X.K C)(n:cT X.K C f)(l:fs.lookup f=some v)
  (h:∀u s',Inv X pins σ H s'->RelV v u->Q u s'):wpAny (model X.prog X.w) A (getAttr (.ref a) f b) Q E s:=by
 obtain⟨mA,O,r,_,_,_⟩:=gJ I.hok e;obtain⟨u,hu,ru⟩:=iE.some_of (v:=v) (o:=mA f) (by rw[←l];exact r f);exact get_map I.kIn O (c.get f) c.hd n hu (pD ru) (h u _ (I.tok _) ru)
theorem ib(I:Inv X pins σ H s)(e:H a=some (.ins C dx fs))(c:Cls X.K C)(k:Meth X.K C m g)(l:fs.lookup m=none)
  (h:Q (.ref g,[.ref a]) s):wpAny (model X.prog X.w) A (getMethod (.ref a) m pl) Q E s:=by
 obtain⟨mA,O,r,_,_,_⟩:=gJ I.hok e;have hn:mA m=none:=iE.none_of (by rw[←l];exact r m);exact qj I.kIn O (c.get m) k.at_ k.fn hn h
theorem mE(I:Inv X pins σ H s)(e:H a=some (.ins C dx fs))(c:Cls X.K C)(n:cT X.K C f)(hl:fs.length<1000)(ry:RelV y u)
  (h:∀s',Inv X pins σ (upd H a (.ins C dx (dI f y fs))) s'->Q () s'):wpAny (model X.prog X.w) A (setAttr (.ref a) f u) Q E s:=by
 obtain⟨mA,O,r,wi,_,ho⟩:=gJ I.hok e;have hz:(fs.map (·.1)).length≤sizeLine:=by rw[F0,Hx];omega
 refine vp I.kIn O c.sa c.po n.taker c.hd wi hz fun h' O' sb=>h _ ?_;have hd:∃o,h'.get? dx=some o:=let ⟨o,_,_,e',_⟩:=O'.ns;⟨o,e'⟩
 refine I.write (x:=a) (e:=dx) (by rw[e];exact True.intro) (.inr ho) (fun b q hb z=>(sb.2 b hb).trans z) hd ?_;refine⟨by rw[aR O.ne];exact ho,?_,O.ne,O'.obj,_,O'.ns,fun g=>?_,fun g hg=>?_⟩
 ·have:=gh f y fs;omega
 ·show iE ((dI f y fs).lookup g) (if g=f then some u else mA g);rw[gw];by_cases q:g=f
  ·rw[Gq q,Gq q];exact ry
  ·rw[Gp q,Gp q];exact r g
 ·by_cases q:g=f
  ·rw[q];exact(fR f y fs).1
  ·refine(fR f y fs).2 g (wi g fun z=>hg ?_);show(if g=f then some u else mA g)=none;rw[Gp q];exact z
theorem Inv.made(I:Inv X pins σ H s):Inv X pins σ (upd (upd H s.heap.objs.size (.own (s.heap.objs.size+1))) (s.heap.objs.size+1) (.ins C s.heap.objs.size []))
  { s with heap:=(s.heap.push PySem.W.emptyDict).push (PySem.W.instObj C s.heap.objs.size) }:=by
 have e1:(s.heap.push PySem.W.emptyDict).get? s.heap.objs.size=some PySem.W.emptyDict:=Gm s.heap rfl;have e2:((s.heap.push PySem.W.emptyDict).push (PySem.W.instObj C s.heap.objs.size)).get? (s.heap.objs.size+1)=some (PySem.W.instObj C s.heap.objs.size):=by
  have:=Gm (s.heap.push PySem.W.emptyDict) (o:=PySem.W.instObj C s.heap.objs.size) rfl
  rwa [Heap.size_push]at this
 have e3:(s.heap.push PySem.W.emptyDict).Ns s.heap.objs.size (fun _=>none):=⟨PySem.W.emptyDict,#[],_,e1,rfl,(fun e he=>absurd he (by simp)),fun _=>rfl⟩;have I1:=I.laid (a:=s.heap.objs.size) (o:=.own (s.heap.objs.size+1)) (h':=s.heap.push PySem.W.emptyDict) (t':=s.toks) (fun b u q=>F6 _ q) (F9 _) ⟨_,e1⟩;refine I1.laid (a:=s.heap.objs.size+1) (o:=.ins C s.heap.objs.size []) (t':=s.toks) (fun b u q=>F6 _ q) (Nat.le_of_eq (Heap.size_push _ _)) ?_;have ne:s.heap.objs.size≠s.heap.objs.size+1:=Gv (Nat.lt_succ_self _);refine⟨by rw[aR ne,bh],HQ _,ne,e2,fun _=>none,(Heap.Ns1.of_empty e3).at fun o q=>F6 _ q,fun _=>True.intro,fun y hy=>absurd rfl hy⟩
theorem uy(hb:attributeBase e f env (eval e env)=eval e env)
  (h:wpAny (model prog w) A (eval e env) (fun o s₁=>wpAny (model prog w) A (getAttr o f true) Q E s₁) E s):wpAny (model prog w) A (eval (.Attribute e f pos) env) Q E s :=
 Attribute_any_ h (by rw[arm_eval_Attribute,hb])
end
def Eg(K:PySem.W.Frag)(ta:TE)(f:Str):TE:=fun σ H Q=>ta σ H fun x H1=>∃a C dx fs v,x=.ref a/\H1 a=some (.ins C dx fs)/\Cls K C/\cT K C f/\fs.lookup f=some v/\Q v H1
def C8(K:PySem.W.Frag)(ta tv:TE)(f:Str):TS:=fun D σ H=>tv σ H fun y H1=>ta σ H1 fun x H2=>∃a C dx fs,x=.ref a/\H2 a=some (.ins C dx fs)/\Cls K C/\cT K C f/\fs.length<1000 /\
 D.nx σ (upd H2 a (.ins C dx (dI f y fs)))
section
variable {X:Cx}{o e value:Expr}{f:Str}{pos pos' tpos:Pos}{ta tv:TE}
theorem yN(he:PE X e ta)(hb:attributeBase e f X.env (eval e X.env)=eval e X.env):PE X (.Attribute e f pos) (Eg X.K ta f):=by
 intro pins s σ H Q I h;refine uy hb (thn (he pins s σ H _ I h) fun u s1 y_=>?_);obtain⟨x,H1,I1,rx,a,C,dx,fs,v,ex,ea,c,n,l,q⟩:=y_;subst ex;obtain rfl:u=Value.ref a:=rx;exact my I1 ea c n l fun u' s2 I2 ru=>⟨v,H1,I2,ru,q⟩
theorem zI(ha:PE X o ta)(hv:PE X value tv)(hs:swapsWith value (some (.Attribute o f pos')) pos.line X.env=pure false):PS X (.Assign [.Attribute o f pos'] value pos) (C8 X.K ta tv f):=by
 intro pins s σ H D I h;refine plainObj_wpAny_Assign_Attribute (thn (hv pins s σ H _ I h) fun u s1 ⟨y,H1,I1,ry,q⟩=>thn (ha pins s1 σ H1 _ I1 q) fun ov s2 ⟨x,H2,I2,rx,a,C,dx,fs,ex,ea,c,n,l,q2⟩=>?_) hs;subst ex;obtain rfl:ov=Value.ref a:=rx;exact mE I2 ea c n l ry fun s3 I3=>⟨σ,_,I3,q2⟩
theorem wx{σ:St}(he:PE X e te)(I:Inv X pins σ H s)
  (h:te σ H fun x H1=>∃a C dx fs g,x=.ref a/\H1 a=some (.ins C dx fs)/\Cls X.K C/\Meth X.K C m g/\fs.lookup m=none /\
   ∀s1,Inv X pins σ H1 s1->wpAny (model X.prog X.w) X.A (callWith pos (.ref g) [.ref a] (backTo pos (starEach args X.env)) (backToKw pos (keywordEach [] X.env))) Q X.xe s1)
  (ht:eval (.Call (.Attribute e m apos) args [] pos) X.env=(do
   let ov←eval e X.env
   standAt apos.atName
   let (f,first)←holding [ov] (getMethod ov m pl)
   callWith pos f first (backTo pos (starEach args X.env)) (backToKw pos (keywordEach [] X.env)))) :
  wpAny (model X.prog X.w) X.A (eval (.Call (.Attribute e m apos) args [] pos) X.env) Q X.xe s:=by
 refine PySem.W.methodCall_KW (pl:=pl) (thn (he pins s σ H _ I h) fun u s1 ⟨x,H1,I1,rx,a,C,dx,fs,g,ex,ea,c,k,l,q⟩=>?_) ht;subst ex;obtain rfl:u=Value.ref a:=rx;exact ib I1 ea c k l (q s1 I1)
end
section
variable {X:Cx}{pins:List (Addr×Obj)}{σ:St}{H:Hp}{s:Shared}{A:Around}{E:Value->Shared->Prop}{Q:Value->Shared->Prop}{c:Value}{b:Bool}
inductive gz (K:PySem.W.Frag) (H:Hp):V→Value→Prop where
 | non:gz K H .non (.type "NoneType")
 | bl (x:Bool):gz K H (.bl x) (.type "bool")
 | int (i:Int):gz K H (.int i) (.type "int")
 | str (x:Str):gz K H (.str x) (.type "str")
 | flt (x:UInt64):gz K H (.flt x) (.type "float")
 | lst {a:Addr} {xs:List V} (e:H a=some (.lst xs)):gz K H (.ref a) (.type "list")
 | frz {a:Addr} {o:Obj} {xs:List V} (e:H a=some (.frz o (.lst xs))):gz K H (.ref a) (.type "list")
 | tup {a:Addr} {xs:List V} (e:H a=some (.tup xs)):gz K H (.ref a) (.type "tuple")
 | dK {a:Addr} {kvs:List (Key×V)} (e:H a=some (.dK kvs)):gz K H (.ref a) (.type "dict")
 | dT {a:Addr} {kvs:List (List Key×V)} (e:H a=some (.dT kvs)):gz K H (.ref a) (.type "dict")
 | ins {a C dx:Addr} {fs:List (Str×V)} (e:H a=some (.ins C dx fs)) (cl:Cls K C) (ha:PySem.W.findIn K (.ref C) "__class__"=some (some (.builtin "object.__class__")))
   (hn:PySem.W.specialIn K (.builtin "object.__class__") "__get__"=some (some (.builtin "getset_descriptor.__get__"))) (htk:PySem.W.takesIn K (.builtin "object.__class__")=some true)
   (hm:PySem.W.mroIn K C (.type "object")=some true):gz K H (.ref a) (.ref C)
theorem eE(I:Inv X pins σ H s)(rx:RelV x u)(ty:gz X.K H x t)(e:PySem.W.kitOne X.K t c=some b)(h:∀tk,Q (.bool b) { s with toks:=tk }) :
  wpAny (model X.prog X.w) A (call (.builtin "isinstance") [u,c]) Q E s:=by
 cases ty with
 | non=>cases (show u=Value.none from rx);exact G9 PySem.W.kitx_none I.kIn True.intro e (fun z=>nomatch z) h
 | bl y=>cases (show u=Value.bool y from rx);exact G9 PySem.W.kitx_bool I.kIn True.intro e (fun z=>nomatch z) h
 | int i=>obtain⟨t,q⟩:=(show ∃t,u=Value.int i t from rx);cases q;exact G9 PySem.W.kitx_int I.kIn True.intro e (fun z=>nomatch z) h
 | str y=>obtain⟨t,q⟩:=(show ∃t,u=Value.str y t from rx);cases q;exact G9 PySem.W.kitx_str I.kIn True.intro e (fun z=>nomatch z) h
 | flt y=>obtain⟨t,q⟩:=(show ∃t,u=Value.float y t from rx);cases q;exact G9 PySem.W.kitx_float I.kIn True.intro e (fun z=>nomatch z) h
 | @lst a xs ea =>
  cases (show u=Value.ref a from rx);obtain⟨_,_,n,_,h1⟩:=(show bP X.prog X.w H s.heap a (.lst xs)from I.hok a _ ea);exact G9 PySem.W.kitx_list I.kIn ⟨_,h1,rfl⟩ e (fun z=>nomatch z) h
 | @frz a ob xs ea =>
  cases (show u=Value.ref a from rx);obtain⟨_,_,_,n,_,h1⟩:=(show bP X.prog X.w H s.heap a (.frz ob (.lst xs))from I.hok a _ ea);exact G9 PySem.W.kitx_list I.kIn ⟨_,h1,rfl⟩ e (fun z=>nomatch z) h
 | @tup a xs ea =>
  cases (show u=Value.ref a from rx);obtain⟨_,_,_,p⟩:=(show bP X.prog X.w H s.heap a (.tup xs)from I.hok a _ ea);obtain⟨o,h1,h2,_⟩:=p;exact G9 PySem.W.kitx_tuple I.kIn ⟨o,h1,h2⟩ e (fun z=>nomatch z) h
 | @dK a kvs ea =>
  cases (show u=Value.ref a from rx);obtain⟨_,_,vs,_,p⟩:=(show bP X.prog X.w H s.heap a (.dK kvs)from I.hok a _ ea);obtain⟨o,es,ep,h1,h2,_⟩:=p;exact G9 PySem.W.kitx_dict I.kIn ⟨o,h1,h2.1⟩ e (fun z=>nomatch z) h
 | @dT a kvs ea =>
  cases (show u=Value.ref a from rx);obtain⟨_,_,xs,_,o,es,ep,h1,h2,_⟩:=(show bP X.prog X.w H s.heap a (.dT kvs)from I.hok a _ ea);exact G9 PySem.W.kitx_dict I.kIn ⟨o,h1,h2.1⟩ e (fun z=>nomatch z) h
 | @ins a C dx fs ea cl ha hn htk hm =>
  cases (show u=Value.ref a from rx);obtain⟨mA,O,_⟩:=gJ I.hok ea;obtain⟨od,J,_⟩:=O.look;exact G9 (PySem.W.kitx_own (cl.get _) cl.hd ha hn htk hm) I.kIn J e (fun z=>nomatch z) h
end
end
section
structure cu (k:Nat) (A:Around):Prop where
 hd:A.handled=none
 dp:A.depth+3*k+5<recursionLimit
 un:A.units+16*k+200<cLine
theorem cu.mono(r:cu k A)(h:j≤k):cu j A:=⟨r.hd,by have:=r.dp;omega,by have:=r.un;omega⟩
theorem cu.deeper(r:cu (k+1) A)(env:Env):cu k (A.deeper env) :=
 ⟨r.hd,by have:=r.dp;show A.depth+1+3*k+5<_;omega,by have:=r.un;show A.units+3+16*k+200<_;omega⟩
theorem mB{A:Around}:(A.under (.builtin "type.__call__" ⟨.ref C::us,kw⟩)).depth=A.depth+1:=by
 first | rfl | simp[Around.under,Code.weight,Code.isCreation,Code.isGuard,Code.isCaller,Code.frames,Code.isFrame,guardIds]
theorem md{A:Around}:(A.under (.builtin "type.__call__" ⟨.ref C::us,kw⟩)).units=A.units+1:=by
 first | rfl | simp[Around.under,Code.cUnits,Code.frames,Code.isFrame]
theorem cu.make(r:cu (k+1) A)(C:Addr)(us:List Value)(kw:List (Str×Value)):cu k (A.under (.builtin "type.__call__" ⟨.ref C::us,kw⟩)) :=
 ⟨r.hd,by have:=r.dp;rw[mB];omega,by have:=r.un;rw[md];omega⟩
theorem cu.depth(r:cu k A):A.depth<recursionLimit:=by have:=r.dp;omega
theorem cu.units(r:cu k A):A.units+64<cLine:=by have:=r.un;omega
def Er:TA:=fun _ H Q=>Q [] H
def AU(ta:TE)(tr:TA):TA:=fun σ H Q=>ta σ H fun x H1=>tr σ H1 fun xs H2=>Q (x::xs) H2
section
variable {X:Cx}{e:Expr}{es:List Expr}{te:TE}{t:TA}{pos:Pos}
theorem dw:PA X [] Er:=fun _ _ _ _ H Q I h=>Calls.spliced_nil ⟨[],H,I,.nil,h⟩
theorem cP(ha:PE X e te)(hr:PA X es t)(hs:starEach (e::es) X.env=(false,eval e X.env)::starEach es X.env:=by rfl):PA X (e::es) (AU te t):=by
 intro pos pins s σ H Q I h;rw[hs];show wpAny _ _ (spliced ((false,eval e X.env)::backTo pos (starEach es X.env))) _ _ s;refine Calls.spliced_cons (thn (ha pins s σ H _ I h) fun u s1 y_=>?_);obtain⟨x,H1,I1,r1,q1⟩:=y_;exact thn (hr pos pins s1 σ H1 _ I1 q1) fun us s2 ⟨xs,H2,I2,r2,q2⟩=>⟨x::xs,H2,I2,.cons r1 r2,q2⟩
def Di(t:TA):TE:=fun σ H Q=>t σ H fun xs H1=>xs.length≤sizeLine/\∀p,H1 p=none->Q (.ref p) (upd H1 p (.tup xs))
def EK(t:TA):TE:=fun σ H Q=>t σ H fun xs H1=>xs.length≤sizeLine/\∀p,H1 p=none->Q (.ref p) (upd H1 p (.lst xs))
theorem xj(h:PA X es t):PE X (.Tuple es x1 pos) (Di t):=by
 intro pins s σ H Q I hq;refine wpAny_Tuple_spliced (thn (h pos pins s σ H _ I hq) fun us s1 ⟨xs,H1,I1,r,z,q⟩=>⟨by rw[←r.length];exact z,?_⟩);have hf:H1 s1.heap.objs.size=none:=I1.hok.fresh (F9 _);refine⟨.ref s1.heap.objs.size,upd H1 s1.heap.objs.size (.tup xs),I1.laid (t':=s1.toks) (fun b u e=>F6 _ e) (F9 _) ?_,rfl,q _ hf⟩;exact⟨z,us,r,⟨_,Gm _ rfl,rfl,_,rfl⟩⟩
theorem yn(h:PA X es t):PE X (.List es pos) (EK t):=by
 intro pins s σ H Q I hq;refine wpAny_List_spliced (thn (h pos pins s σ H _ I hq) fun us s1 ⟨xs,H1,I1,r,z,q⟩=>⟨by rw[←r.length];exact z,?_⟩);have hf:H1 s1.heap.objs.size=none:=I1.hok.fresh (F9 _);refine⟨.ref s1.heap.objs.size,upd H1 s1.heap.objs.size (.lst xs),I1.laid (t':=s1.toks) (fun b u e=>F6 _ e) (F9 _) ?_,rfl,q _ hf⟩;exact⟨z,us,0,r,Gm _ rfl⟩
end
abbrev Sp:=List V->Hp->VK->XK->Prop
abbrev CXT:=List Env->Hp->Shared->XK->Value->Shared->Prop
structure mx (P:Program) (w:World) (K:PySem.W.Frag) (mg:Str→Option Value) (base:Heap) (A:Around) (outer:List Env) (s:Shared) (H:Hp):Prop where
 frames:A.frames=some outer
 mod:Mod K mg base
 bs:∀b o,base.get? b=some o->s.heap.get? b=some o/\H b=none
 bsz:base.objs.size≤s.heap.objs.size
 funs:s.heap.FunFrames base outer
 frf:∀b∈frs outer,H b=none
 hok:HOk P w H s.heap
 bare:AllBare s.gens
def CE(outer:List Env)(P:Program)(w:World)(H:Hp)(s:Shared)(Q:VK)(u:Value)(s':Shared):Prop :=
 ∃v H',s'.os=s.os/\AllBare s'.gens/\Un (frs outer) [] H H' s.heap s'.heap/\HOk P w H' s'.heap/\RelV v u/\Q v H'
def CR(CX:CXT)(outer:List Env)(P:Program)(w:World)(H:Hp)(s:Shared)(Q:VK)(E:XK)(r:Result)(s':Shared):Prop :=
 match r with
 | .ok (.ret u)=>CE outer P w H s Q u s'
 | .ok _=>False
 | .error e=>CX outer H s E e s'
structure ij (P:Program) (w:World) (K:PySem.W.Frag) (mg:Str→Option Value) (base:Heap) (CX:CXT) (k:Nat) (f:Addr) (fd:FuncData) (ps:List Str) (sp:Sp):Prop where
 len:∀vs H Q E,sp vs H Q E->vs.length=ps.length
 run:∀(A:Around) (outer:List Env) (s:Shared) (H:Hp) (args:Args) (us:List Value) (vs:List V) (Q:VK) (E:XK),cu k A->mx P w K mg base A outer s H->BindsTo s fd args (ps.zip us)->Vals vs us->sp vs H Q E ->
  codeAny (model P w) A (.call (.ref f) args) (CR CX outer P w H s Q E) s
theorem mx.make{K:PySem.W.Frag}(e:mx P w K mg base A outer s H)(C:Addr)(us:List Value)(kw:List (Str×Value)) :
  mx P w K mg base (A.under (.builtin "type.__call__" ⟨.ref C::us,kw⟩)) outer s H:=⟨by first | exact e.frames |(simpa[Around.under,Code.envs,Code.isFrame,pushEnvs]using e.frames),e.mod,e.bs,e.bsz,e.funs,e.frf,e.hok,e.bare⟩
section
variable {X:Cx}{pins:List (Addr×Obj)}{σ:St}{H:Hp}{s s':Shared}
theorem Inv.env0(I:Inv X pins σ H s):mx X.prog X.w X.K X.mg X.base X.A X.stack s H :=
 ⟨I.ok.frames,I.ok.mod,I.bs,GU I.ok.bsz I.sz,I.stack,I.stkFree,I.hok,I.bare⟩
theorem Inv.after(I:Inv X pins σ H s)(h:CE X.stack X.prog X.w H s Q u s'):EP X pins σ Q u s':=by
 obtain⟨v,H',os,bare,un,hok,r,q⟩:=h;obtain⟨hh,g,d,t,os'⟩:=s';obtain rfl:os'=s.os:=os;exact⟨v,H',I.call (h':=hh) (g':=g) (d':=d) (t':=t) (ch:=[]) un hok bare (fun b z=>absurd z (by simp)),r,q⟩
end
def wG(sp:Sp)(dvs:List V)(E:XK)(t:TA):TE:=fun σ H Q=>t σ H fun vs H1=>sp (vs++dvs) H1 Q E
def wD(C:Addr)(m:Str)(sp:Sp)(dvs:List V)(E:XK)(ta:TE)(t:TA):TE:=fun σ H Q=>ta σ H fun x H1=>∃a dx fs,x=.ref a/\H1 a=some (.ins C dx fs)/\fs.lookup m=none /\
 t σ H1 fun vs H2=>sp (x::(vs++dvs)) H2 Q E
def CQ(C:Addr)(sp:Sp)(dvs:List V)(E:XK)(t:TA):TE:=fun σ H Q=>t σ H fun vs H1=>∀x dx,H1 x=none->H1 dx=none->dx≠x ->
 sp (.ref x::(vs++dvs)) (upd (upd H1 dx (.own x)) x (.ins C dx [])) (fun v H2=>v=.non/\Q (.ref x) H2) E
def Binds(K:PySem.W.Frag)(fd:FuncData)(ps:List Str)(ds:List Value):Prop :=
 ∀(s:Shared) (us:List Value),K.In s.heap->(us++ds).length=ps.length->BindsTo s fd ⟨us,[]⟩ (ps.zip (us++ds))
theorem Binds.all{K:PySem.W.Frag}(h:∀us:List Value,us.length=ps.length->bindArgs fd ⟨us,[]⟩=pure (ps.zip us)):Binds K fd ps []:=fun s us _ hl=>by
 rw[GS]at hl ⊢;exact .of_eq (h us hl)
def Passes(CX:CXT)(X:Cx)(E:XK):Prop:=∀(pins:List (Addr×Obj)) (σ:St) (H:Hp) (s:Shared) (e:Value) (s':Shared),Inv X pins σ H s->CX X.stack H s E e s'->X.xe e s'
section
variable {X:Cx}{CX:CXT}{k:Nat}{f C:Addr}{fd:FuncData}{ps:List Str}{sp:Sp}{dvs:List V}{ds:List Value}{E:XK}{x m:Str}{p pos apos:Pos}{e o:Expr}{es:List Expr}{ta:TE}{t:TA}
theorem tw{σ:St}(F:ij X.prog X.w X.K X.mg X.base CX k f fd ps sp)(hr:cu k X.A)(hb:Binds X.K fd ps ds)(hd:Vals dvs ds)(hx:Passes CX X E)
  (I:Inv X pins σ H s) (r:Vals vs us) (h:sp (vs++dvs) H Q E):wpAny (model X.prog X.w) X.A (call (.ref f) us) (EP X pins σ Q) X.xe s:=by
 have r2:Vals (vs++dvs) (us++ds):=r.append hd;have hl:(us++ds).length=ps.length:=by rw[←r2.length];exact F.len _ _ _ _ h
 refine wpAny_call (IG (F.run X.A X.stack s H ⟨us,[]⟩ (us++ds) (vs++dvs) Q E hr I.env0 (hb s us I.kIn hl) r2 h) fun r s' hq=>?_);cases r with
 | error e=>exact hx pins σ H s e s' I hq
 | ok fl =>
  cases fl with
  | ret u=>exact I.after hq
  | next=>exact False.elim hq
  | brk=>exact False.elim hq
  | cont=>exact False.elim hq
theorem vG(F:ij X.prog X.w X.K X.mg X.base CX k f fd ps sp)(hr:cu k X.A)(hg:Gl X x)(hm:X.mg x=some (.ref f))(hk:PySem.W.keepIn X.K (.ref f)=true)(hb:Binds X.K fd ps ds)(hd:Vals dvs ds)(hx:Passes CX X E)
  (ha:PA X (e::es) t) (hdb:(x==("__debug__":Str))=false:=by decide) (he:starEach (e::es) X.env=(false,eval e X.env)::starEach es X.env:=by rfl) (hpl:(backTo pos (starEach es X.env)).any (·.1)=false:=by rfl) :
  PE X (.Call (.Name x p) (e::es) [] pos) (wG sp dvs E t):=by
 intro pins s σ H Q I h;refine wpAny_Call_Name_kw (jP I hg hm ?_ hdb);refine PySem.W.callWith_K (h₀:=X.base) I.ok.mod.kin hk (thn (ha pos pins s σ H _ I h) fun us s1 ⟨vs,H1,I1,r,q⟩=>⟨I1.kIn,?_⟩) he hpl;exact tw F hr hb hd hx I1 r q
theorem vQ{pl:Sem Bool}(he:PE X o ta)(c:Cls X.K C)(hm:Meth X.K C m f)(F:ij X.prog X.w X.K X.mg X.base CX k f fd ps sp)(hr:cu k X.A)(hb:Binds X.K fd ps ds)(hd:Vals dvs ds)(hx:Passes CX X E)(ha:PA X (e::es) t)
  (hst:starEach (e::es) X.env=(false,eval e X.env)::starEach es X.env:=by rfl) (hpl:(backTo pos (starEach es X.env)).any (·.1)=false:=by rfl)
  (ht:eval (.Call (.Attribute o m apos) (e::es) [] pos) X.env=(do
   let ov←eval o X.env
   standAt apos.atName
   let (f,first)←holding [ov] (getMethod ov m pl)
   callWith pos f first (backTo pos (starEach (e::es) X.env)) (backToKw pos (keywordEach [] X.env))):=by rfl) :
  PE X (.Call (.Attribute o m apos) (e::es) [] pos) (wD C m sp dvs E ta t):=by
 intro pins s σ H Q I h;refine PySem.W.methodCall_KW (pl:=pl) (thn (he pins s σ H _ I h) fun u s1 ⟨x,H1,I1,rx,a,dx,fs,ex,ea,l,q⟩=>?_) ht;subst ex;obtain rfl:u=Value.ref a:=rx;refine ib I1 ea c hm l ?_;refine PySem.W.callWith_K (first:=[.ref a]) (h₀:=X.base) I.ok.mod.kin hm.kp (thn (ha pos pins s1 σ H1 _ I1 q) fun us s2 ⟨vs,H2,I2,r,q2⟩=>⟨I2.kIn,?_⟩) hst hpl;exact tw (us:=.ref a::us) (vs:=.ref a::vs) F hr hb hd hx I2 (.cons rfl r) q2
structure Mk (K:PySem.W.Frag) (C f:Addr):Prop where
 makes:PySem.W.makesIn K C=true
 init:PySem.W.findIn K (.ref C) "__init__"=some (some (.ref f))
 fn:PySem.W.isFn K (.ref f)=true
 kp:PySem.W.keepIn K (.ref C)=true
theorem sO{σ:St}(M:Mk X.K C f)(F:ij X.prog X.w X.K X.mg X.base CX k f fd ps sp)(hr:cu (k+1) X.A)(hb:Binds X.K fd ps ds)(hd:Vals dvs ds)
  (hx:Passes CX X E) (I:Inv X pins σ H s) (r:Vals vs us)
  (h:∀x dx,H x=none->H dx=none->dx≠x->sp (.ref x::(vs++dvs)) (upd (upd H dx (.own x)) x (.ins C dx [])) (fun v H2=>v=.non/\Q (.ref x) H2) E) :
  wpAny (model X.prog X.w) X.A (call (.ref C) us) (EP X pins σ Q) X.xe s:=by
 have hq:=h (s.heap.objs.size+1) s.heap.objs.size (I.hok.fresh (Nat.le_succ _)) (I.hok.fresh (F9 _)) (Gv (Nat.lt_succ_self _));have I2:=Inv.made (C:=C) I;have r2:Vals (V.ref (s.heap.objs.size+1)::(vs++dvs)) (Value.ref (s.heap.objs.size+1)::(us++ds)):=.cons rfl (r.append hd);have hl:(Value.ref (s.heap.objs.size+1)::us++ds).length=ps.length:=by
  have e:=r2.length;rw[F.len _ _ _ _ hq]at e;exact e.symm
 refine wpAny_call (tG (f:=f) I.kIn M.makes M.init (Ir.mp M.fn) (IG (F.run _ X.stack _ _ ⟨Value.ref (s.heap.objs.size+1)::us,[]⟩ (Value.ref (s.heap.objs.size+1)::(us++ds)) _ _ E (hr.make C us [])
  (I2.env0.make C us []) (hb _ (Value.ref (s.heap.objs.size+1)::us) I2.kIn hl) r2 hq) fun r s' hq'=>?_))
 cases r with
 | error e=>exact hx pins σ _ _ e s' I2 hq'
 | ok fl =>
  cases fl with
  | ret u =>
   obtain⟨v,H',I3,rv,ev,q3⟩:=I2.after hq';subst ev;exact⟨rv,⟨V.ref (s.heap.objs.size+1),H',I3,rfl,q3⟩⟩
  | next=>exact False.elim hq'
  | brk=>exact False.elim hq'
  | cont=>exact False.elim hq'
theorem tS(M:Mk X.K C f)(F:ij X.prog X.w X.K X.mg X.base CX k f fd ps sp)(hr:cu (k+1) X.A)(hg:Gl X x)(hm:X.mg x=some (.ref C))(hb:Binds X.K fd ps ds)(hd:Vals dvs ds)(hx:Passes CX X E)
  (ha:PA X (e::es) t) (hdb:(x==("__debug__":Str))=false:=by decide) (he:starEach (e::es) X.env=(false,eval e X.env)::starEach es X.env:=by rfl) (hpl:(backTo pos (starEach es X.env)).any (·.1)=false:=by rfl) :
  PE X (.Call (.Name x p) (e::es) [] pos) (CQ C sp dvs E t):=by
 intro pins s σ H Q I h;refine wpAny_Call_Name_kw (jP I hg hm ?_ hdb);refine PySem.W.callWith_K (h₀:=X.base) I.ok.mod.kin M.kp (thn (ha pos pins s σ H _ I h) fun us s1 ⟨vs,H1,I1,r,q⟩=>⟨I1.kIn,?_⟩) he hpl;exact sO M F hr hb hd hx I1 r q
end
section
variable {X:Cx}{CX:CXT}{k:Nat}{f C:Addr}{fd:FuncData}{ps ks:List Str}{sp:Sp}{E:XK}{x m:Str}{p pos apos kpos:Pos}{e o:Expr}{es:List Expr}{kws:List Keyword}{te ta:TE}{t tk:TA}{nm:Option Str}
variable {g:List Value->List Value->List Value}{gV:List V->List V->List V}
end
structure aD (N P:List Str) (sc:Scope):Prop where
 kind:sc.kind=.function
 co:sc.isCoroutine=false
 gen:sc.isGenerator=false
 nd:N.Nodup
 pre:N.take P.length=P
 par:∀x∈P,sc.names.lookup x=some .local∨sc.names.lookup x=some .cell
 nofree:∀y∈sc.names,y.2≠.free
theorem iZ{kindOf:Str->Option NameKind}{x:Str}:∀{binds:List (Str×Value)} {m:Str->Option Value},(∀v,(x,v)∉binds)->bindL kindOf binds m x=m x
 | [],_,_=>rfl
 |(n,v)::r,m,h=>by
  unfold bindL;rw[iZ fun w hw=>h w (Gb _ hw)];split
  ·have:x≠n:=by rintro rfl;exact h v Ga
   simp[this]
  ·rfl
theorem jm{kindOf:Str->Option NameKind}{x:Str}:∀{binds:List (Str×Value)} {m:Str->Option Value},(∀v,(x,v)∉binds)->bindC kindOf binds m x=m x
 | [],_,_=>rfl
 |(n,v)::r,m,h=>by
  unfold bindC;rw[jm fun w hw=>h w (Gb _ hw)];split
  ·rfl
  ·have:x≠n:=by rintro rfl;exact h v Ga
   simp[this]
theorem i3{kindOf:Str->Option NameKind}{x:Str}{v:Value}:∀{P:List Str} {vs:List Value} {i:Nat} {m:Str->Option Value},P.Nodup->P[i]?=some x->vs[i]?=some v->kindOf x=some .local ->
  bindL kindOf (P.zip vs) m x=some v
 | [],_,_,_,_,h,_,_=>by simp at h
 | _::_,[],_,_,_,_,h,_=>by simp at h
 | p::P,w::vs,0,m,nd,h1,h2,hk=>by
  simp at h1 h2;subst h1;subst h2;show bindL kindOf ((p,w)::P.zip vs) m p=_;unfold bindL;rw[iZ fun v hv=>(HN.mp nd).1 (List.of_mem_zip hv).1,Gq hk];simp
 | p::P,w::vs,i+1,m,nd,h1,h2,hk=>by
  show bindL kindOf ((p,w)::P.zip vs) m x=_;unfold bindL;exact i3 (i:=i) (HN.mp nd).2 (by simpa using h1) (by simpa using h2) hk
theorem iU{kindOf:Str->Option NameKind}{x:Str}{v:Value}:∀{P:List Str} {vs:List Value} {i:Nat} {m:Str->Option Value},P.Nodup->P[i]?=some x->vs[i]?=some v->kindOf x≠some .local ->
  bindC kindOf (P.zip vs) m x=some v
 | [],_,_,_,_,h,_,_=>by simp at h
 | _::_,[],_,_,_,_,h,_=>by simp at h
 | p::P,w::vs,0,m,nd,h1,h2,hk=>by
  simp at h1 h2;subst h1;subst h2;show bindC kindOf ((p,w)::P.zip vs) m p=_;unfold bindC;rw[jm fun v hv=>(HN.mp nd).1 (List.of_mem_zip hv).1,Gp hk];simp
 | p::P,w::vs,i+1,m,nd,h1,h2,hk=>by
  show bindC kindOf ((p,w)::P.zip vs) m x=_;unfold bindC;exact iU (i:=i) (HN.mp nd).2 (by simpa using h1) (by simpa using h2) hk
def start(N:List Str)(vs:List V):St:=vs.map some++List.replicate (N.length - vs.length) none
def lY(CX:CXT)(P:Program)(w:World)(K:PySem.W.Frag)(mg:Str->Option Value)(base:Heap)(N:List Str)(qual:Str)(scope:Scope)(f:Addr)(cd:Value)(A:Around)(outer:List Env)(s:Shared)(H:Hp)(E:XK):Cx where
 prog:=P
 w:=w
 K:=K
 mg:=mg
 base:=base
 A:=A.deeper (envOfC qual scope s.heap.objs.size f cd)
 N:=N
 s₀:=s
 H₀:=H
 env:=envOfC qual scope s.heap.objs.size f cd
 outer:=outer
 stack:=envOfC qual scope s.heap.objs.size f cd::outer
 ex:=[]
 calm:=true
 fn:=fun _=>true
 pn:=[]
 xe:=fun e s'=>wpAny (model P w) (A.deeper (envOfC qual scope s.heap.objs.size f cd)) (leaving (envOfC qual scope s.heap.objs.size f cd) e) (fun _ s''=>CX outer H s E e s'') (fun e' s''=>CX outer H s E e' s'') s'
theorem kq{sc:Scope}(h:sc.names.lookup x=some .cell):∃c,(cellsFrom n sc.names []).lookup x=some c:=by
 have q:=PySem.W.cellsFrom_some sc.names n [] (.inl h);exact Option.isSome_iff_exists.mp q
theorem om{K:PySem.W.Frag}
  (S:aD N ps scope) (hd:A.handled=none) (e0:mx P w K mg base A outer s H) (hl:vs.length=ps.length) (r:Vals vs us)
  (x:InCallC s s.heap.objs.size (bindL (envOfC qual scope s.heap.objs.size f cd).kindOf (ps.zip us) fun _=>none) (cellsFrom (s.heap.objs.size+1) scope.names []) (bindC (envOfC qual scope s.heap.objs.size f cd).kindOf (ps.zip us) fun _=>none) s1) :
  Inv (lY CX P w K mg base N qual scope f cd A outer s H E) [] (start N vs) H s1:=by
 have hpl:ps.length≤N.length:=by have:=congrArg List.length S.pre;rw[GN]at this;omega
 obtain⟨h1,tk,rfl,hk⟩:=x.done;have noA:∀b:Addr,b∉(lY CX P w K mg base N qual scope f cd A outer s H E).ex:=fun b z=>absurd (show b∈([]:List Addr)from z) (by simp);refine⟨⟨e0.mod,S.kind,rfl,rfl,F9 _,fun y z c h1 h2=>?_,fun y hy=>?_,fun y c _ h=>?_,fun _=>hd,Around.frames_deeper e0.frames,.inr ⟨rfl,rfl⟩,fun b z=>absurd z (noA b),e0.bs,e0.bsz,fun b _ _=>noA b,fun b z=>absurd z (noA b),e0.funs,e0.frf⟩,
  rfl,e0.bare,Un.kept hk,⟨_,x.toInCall.ns,fun i y v h1 h2 h3=>?_⟩,fun y c h=>⟨_,x.cell y c h⟩,e0.hok.fresh (F9 _),fun y c h=>?_,fun p hp=>absurd (show p∈([]:List (Addr×Obj))from hp) (by simp),e0.hok.kept hk,?_⟩
 ·exact name_of_addr x.apart (PySem.mem_of_lookup h1) (PySem.mem_of_lookup h2)
 ·have hy:scope.names.lookup y=some .cell∨scope.names.lookup y=some .free:=hy;rcases hy with hy | hy
  ·exact kq hy
  ·exact absurd rfl (S.nofree _ (PySem.mem_of_lookup hy))
 ·exact Nat.le_of_lt (x.above y c (PySem.mem_of_lookup h))
 ·have hi:i<vs.length:=by
   unfold start at h2;by_cases hi:i<vs.length
   ·exact hi
   ·rw[List.getElem?_append_right (by simpa using hi)]at h2;rw[List.getElem?_replicate]at h2;split at h2<;>cases h2
  have ha:vs[i]?=some v:=by
   unfold start at h2;rw[Ib (by simpa using hi),Gs]at h2;cases e:vs[i]? with
   | none=>rw[e]at h2;cases h2
   | some a=>rw[e]at h2;cases h2;rfl
  obtain⟨u,hu,rv⟩:=r.get ha;have hp:ps[i]?=some y:=by
   rw[←S.pre,List.getElem?_take_of_lt (by omega)];exact h1
  have ndP:ps.Nodup:=by rw[←S.pre];exact S.nd.sublist (List.take_sublist _ _)
  refine⟨u,rv,?_⟩;rcases S.par y (Gg hp)with k | k
  ·exact .inl ⟨k,i3 ndP hp hu k⟩
  ·obtain⟨c,e⟩:=kq (n:=s.heap.objs.size+1) k;refine .inr ⟨.inl k,c,e,?_⟩;have q:=x.cell y c e;rw[iU ndP hp hu (by show scope.names.lookup y≠_;rw[k];decide)]at q;exact q
 ·exact e0.hok.fresh (Nat.le_of_lt (x.above y c (PySem.mem_of_lookup h)))
 ·unfold start;show _=N.length;rw[F3,F0,HJ];omega
theorem A2{K:PySem.W.Frag}{dV kV doc pm cdv ct oc:Value}
     (lk:K.lookup f=some ⟨oc,od,.func (PySem.W.fnOf name qual params body scope dV kV doc pm an cdv ct),osl⟩) (hcd:PySem.W.codeIn K cdv qual=true) (S:aD N ps scope)
  (len:∀vs H Q E,sp vs H Q E->vs.length=ps.length)
  (hbody:∀(A:Around) (outer:List Env) (s:Shared) (H:Hp) (vs:List V) (Q:VK) (E:XK),cu k (A.deeper (envOfC qual scope s.heap.objs.size f cdv))->sp vs H Q E ->
   ∃t,PSs (lY CX P w K mg base N qual scope f cdv A outer s H E) body t/\t { nx:=fun _ H'=>Q .non H',rt:=Q } (start N vs) H) :
  ij P w K mg base CX (k+1) f (PySem.W.fnOf name qual params body scope dV kV doc pm an cdv ct) ps sp:=by
 refine⟨len,fun A outer s H args us vs Q E hr e0 hb r hsp=>?_⟩;have hl:=len _ _ _ _ hsp;have KX:K.In s.heap:=e0.mod.kin.keeps fun b o e=>(e0.bs b o e).1;have lim:s.heap.NoLimit:=e0.mod.nolimit.keeps fun b o e=>(e0.bs b o e).1;have hkind:∀y∈ps.zip us,scope.names.lookup y.1=some .local∨(scope.names.lookup y.1=some .cell/\((cellsFrom (s.heap.objs.size+1) scope.names []).lookup y.1).isSome=true):=fun y_ hy=>by
  obtain⟨n,v⟩:=y_;rcases S.par n (List.of_mem_zip hy).1 with q | q
  ·exact .inl q
  ·exact .inr ⟨q,PySem.W.cellsFrom_some _ _ _ (.inl q)⟩
 refine codeAny_call_function hr.depth (KX _ _ lk) rfl S.co S.gen rfl (PySem.W.codeRec_of KX hcd) (hb _ _ _ _ ?_);refine wpAny_newFunctionEnv_cells S.kind hkind fun env he s1 x=>?_;subst he;refine⟨lim.keeps x.toInCall.keep,codeAny_func ?_⟩;obtain⟨t,ht,hq⟩:=hbody A outer s H vs Q E (hr.deeper _) hsp;have I:Inv (lY CX P w K mg base N qual scope f cdv A outer s H E) [] (start N vs) H s1:=om S hr.hd e0 hl r x;refine IE (ht [] s1 (start N vs) H _ I hq) (fun fl s' hs=>?_) fun e s' hs=>hs;have fin:∀{σ':St} {H':Hp} {v:V} {u:Value},Inv (lY CX P w K mg base N qual scope f cdv A outer s H E) [] σ' H' s'->RelV v u->Q v H'->CE outer P w H s Q u s' :=
  fun {σ' H' v u} J rv q=>⟨v,H',J.os,J.bare,J.base,J.hok,rv,q⟩
 cases fl with
 | ret u =>
  obtain⟨v,σ',H',J,rv,q⟩:=hs;exact fin J rv q
 | next =>
  obtain⟨σ',H',J,q⟩:=hs;exact fin (v:=V.non) (u:=Value.none) J rfl q
 | brk =>
  obtain⟨_,_,_,q⟩:=hs;exact False.elim q
 | cont =>
  obtain⟨_,_,_,q⟩:=hs;exact False.elim q
end
section
section
variable {X:Cx}{x:Str}{p pos:Pos}{e:Expr}{es:List Expr}{t:TA}{id T:String}{r:List V->Hp->VK->Prop}
def tCB(r:List V->Hp->VK->Prop)(t:TA):TE:=fun σ H Q=>t σ H fun vs H1=>r vs H1 Q
theorem dW(hc:cA X (.builtin id) r)(hg:Gl X x)(hm:X.mg x=none)(hv:bootBuiltins x=some (.builtin id))(ha:PA X (e::es) t)(hn:x≠"__name__":=by decide)(hdb:(x==("__debug__":Str))=false:=by decide)
  (he:starEach (e::es) X.env=(false,eval e X.env)::starEach es X.env:=by rfl) (hpl:(backTo pos (starEach es X.env)).any (·.1)=false:=by rfl):PE X (.Call (.Name x p) (e::es) [] pos) (tCB r t):=by
 intro pins s σ H Q I h;refine wpAny_Call_Name_kw (dD I hg hm hv ?_ hn hdb);exact PyProof.Rows.callWith_builtin1 (thn (ha pos pins s σ H _ I h) fun us s1 y_=>by obtain⟨vs,H1,I1,r1,q1⟩:=y_;exact hc pins s1 σ H1 vs us Q I1 r1 q1) he hpl
theorem dj(hc:cA X (.type T) r)(hg:Gl X x)(hm:X.mg x=none)(hv:bootBuiltins x=some (.type T))(ha:PA X (e::es) t)(hn:x≠"__name__":=by decide)(hdb:(x==("__debug__":Str))=false:=by decide)
  (he:starEach (e::es) X.env=(false,eval e X.env)::starEach es X.env:=by rfl) (hpl:(backTo pos (starEach es X.env)).any (·.1)=false:=by rfl):PE X (.Call (.Name x p) (e::es) [] pos) (tCB r t):=by
 intro pins s σ H Q I h;refine wpAny_Call_Name_kw (dD I hg hm hv ?_ hn hdb);exact G0 (thn (ha pos pins s σ H _ I h) fun us s1 y_=>by obtain⟨vs,H1,I1,r1,q1⟩:=y_;exact hc pins s1 σ H1 vs us Q I1 r1 q1) he hpl
end
end
end L2
namespace HT
section
open PySem.SeqAt
open PySem.AutoSeq1 (wpAny_loadPart')
open PySem.MeetsSeq PySem.MeetsSeq2 PySem.MeetsSeq3
end
section
variable {prog:Program}{w:World}{A:Around}{E:Value->Shared->Prop}{s:Shared}
def sIx(n d:Nat):Option Int->Nat
 | none=>d
 | some v=>if v<0 then(v+(n:Int)).toNat else min v.toNat n
theorem dk(n d:Nat):sIx n d none=d:=rfl
theorem gE(n d k:Nat):sIx n d (some (k:Int))=min k n:=by
 show(if (k:Int)<0 then((k:Int)+(n:Int)).toNat else min (k:Int).toNat n)=min k n;rw[Gp (by omega),Ht]
theorem zf(n d:Nat)(hd:d≤n)(o:Option Int):sIx n d o≤n:=by
 cases o with
 | none=>exact hd
 | some v =>
  show(if v<0 then(v+(n:Int)).toNat else min v.toNat n)≤n;by_cases hv:v<0
  ·rw[Gq hv];omega
  ·rw[Gp hv];exact Nat.min_le_right _ _
theorem n8(v:Int)(n d:Nat):(if v<0 then max (v+(n:Int)) 0 else min v (n:Int))=((sIx n d (some v):Nat):Int):=by
 show(if v<0 then max (v+(n:Int)) 0 else min v (n:Int))=(((if v<0 then(v+(n:Int)).toNat else min v.toNat n):Nat):Int);by_cases hv:v<0
 ·simp only[Gq hv];omega
 ·simp only[Gp hv];omega
theorem mi(lo hi:Option Int)(n:Nat):Builtin.Slice.sliceAdjust lo hi 1 (n:Int)=(((sIx n 0 lo:Nat):Int),((sIx n n hi:Nat):Int)):=by
 have h1:¬((1:Int)<0):=by omega
 unfold Builtin.Slice.sliceAdjust;simp only[h1,if_false];refine Prod.ext ?_ ?_
 ·cases lo with
  | none=>rfl
  | some v=>exact n8 v n 0
 ·cases hi with
  | none=>rfl
  | some v=>exact n8 v n n
theorem mF(i j:Nat):Builtin.Slice.slicePlaces (i:Int) (j:Int) 1=j - i:=by
 unfold Builtin.Slice.slicePlaces;have h1:(1:Int)>0:=by omega
 simp only[h1,if_true,Int.ediv_one];split<;>omega
theorem ir(p:IsPart v o)(h:Q o s):wpAny (model prog w) A (Builtin.Slice.slicePartIndex v) Q E s:=by
 cases p with
 | none=>exact slicePart_none h
 | int i t=>exact slicePart_int h
theorem dt{sl:Addr}{vl vu:Value}{lo hi:Option Int}{n:Nat}(hs:s.heap.IsSliceOf sl vl vu .none)(pl:IsPart vl lo)(pu:IsPart vu hi)
  (h:Q (((sIx n 0 lo:Nat):Int),1,sIx n n hi - sIx n 0 lo) s):wpAny (model prog w) A (Builtin.Slice.sliceApplied (.ref sl) (pure (n:Int))) Q E s:=by
 obtain⟨os,hos,hcs,hds⟩:=id hs;unfold Builtin.Slice.sliceApplied Builtin.Slice.sliceFields;refine F1 (F1 (wpAny_field hos hds (x:=vl) rfl (F1 (wpAny_field hos hds (x:=vu) rfl (F1 (wpAny_field hos hds (x:=.none) rfl (F5 ?_)))))));refine F1 (slicePart_none ?_);show wpAny _ _ (if ((1:Int)==0)=true then _ else _) _ _ s;rw[Gp (by decide)];refine F1 (ir pl (F1 (ir pu (F1 (F5 ?_)))));show wpAny _ _ (match Builtin.Slice.sliceAdjust lo hi 1 (n:Int)with |(lo,hi)=>pure (lo,(1:Int),Builtin.Slice.slicePlaces lo hi 1)) _ _ s;rw[mi lo hi n];show wpAny _ _ (pure (((sIx n 0 lo:Nat):Int),(1:Int),Builtin.Slice.slicePlaces ((sIx n 0 lo:Nat):Int) ((sIx n n hi:Nat):Int) 1)) _ _ s;rw[mF];exact F5 h
theorem sH(xs:Array Value)(i k:Nat):((List.range k).filterMap fun(m:Nat)=>xs[((i:Int)+(m:Int)*1).toNat]?).toArray=((xs.toList.drop i).take k).toArray:=by
 have e:(fun(m:Nat)=>xs[((i:Int)+(m:Int)*1).toNat]?)=fun m=>xs[i+m]?:=by
  funext m;have:((i:Int)+(m:Int)*1).toNat=i+m:=by omega
  rw[this]
 rw[e];have:=pick_run xs i k;rw[List.filterMap_map]at this;have e2:((fun x=>xs[x]?) ∘ fun x=>i+x)=fun m=>xs[i+m]?:=rfl;rw[e2]at this;rw[this]
theorem fO{lo hi:Option Int}(ht:IsTup s.heap t items)(hs:s.heap.IsSliceOf sl vl vu .none)(pl:IsPart vl lo)(pu:IsPart vu hi)
  (hw:¬(sIx items.size 0 lo=0/\sIx items.size items.size hi=items.size))
  (h:Q (.ref s.heap.objs.size) { s with heap:=s.heap.push { cls:=.type "tuple",data:=.seq ((items.toList.drop (sIx items.size 0 lo)).take (sIx items.size items.size hi - sIx items.size 0 lo)).toArray } })
  (hsz:items.size≤sizeLine):wpAny (model prog w) A (getItem (.ref t) (.ref sl)) Q E s:=by
 have htake:sizeOk (.seq ((items.toList.drop (sIx items.size 0 lo)).take (sIx items.size items.size hi - sIx items.size 0 lo)).toArray):=by
  show((items.toList.drop (sIx items.size 0 lo)).take (sIx items.size items.size hi - sIx items.size 0 lo)).toArray.size≤sizeLine;rw[Gi,GN,Hm,HZ];omega
 have hj:sIx items.size items.size hi≤items.size:=zf _ _ (F9 _) hi;obtain⟨os,hos,hcs,hds⟩:=id hs;have hTs:s.TypeIs (.ref sl) "slice":=⟨os,hos,hcs⟩;unfold getItem
 try with_reducible refine Hs ?_
 first | refine F1 (F5 ?_) | skip
 refine F1 (wpAny_sequenceKey ht.typeIs (by decide) ?_);refine F1 (HS (name:=Str.ofString "__getitem__") ht.typeIs PyProof.Rows.slot_tuple_getitem
  (GV PyProof.Rows.slot_tuple_getitem ht.typeIs entry_tuple_getitem ?_ (args_tuple_getitem _ _)))
 show wpAny _ _ (Builtin.Tuple.tupleItemsOf (.ref t) >>= _) _ _ s;refine F1 (tupleItemsOf_ ht ?_);refine F1 (wpAny_typeOf hTs ?_);rw[Gq (by decide)];refine F1 (dt hs pl pu ?_);have hno:¬((((sIx items.size 0 lo:Nat):Int)==0&&(1:Int)==1&&(sIx items.size items.size hi - sIx items.size 0 lo)==items.size)=true):=by
  intro q;rw[HU,HU]at q;have q1:((sIx items.size 0 lo:Nat):Int)=0:=eq_of_beq q.1.1;have q2:sIx items.size items.size hi - sIx items.size 0 lo=items.size:=eq_of_beq q.2;exact hw ⟨by omega,by omega⟩
 show wpAny _ _ (if (((sIx items.size 0 lo:Nat):Int)==0&&(1:Int)==1&&(sIx items.size items.size hi - sIx items.size 0 lo)==items.size)=true then _ else _) _ _ s;rw[Gp hno,sH]
 first
  | exact F1 (m:=Builtin.Tuple.tupleExact _) (GO (F5 ⟨_,rfl,F5 h⟩) htake)
  | exact F1 (m:=Builtin.Tuple.tupleExact _) (GO (F1 (F5 (F5 ⟨_,rfl,F5 h⟩))) htake)
  | exact F1 (F1 (m:=Builtin.Tuple.tupleExact _) (GO (F5 (F5 ⟨_,rfl,F5 h⟩)) htake))
  | exact F1 (F1 (m:=Builtin.Tuple.tupleExact _) (GO (F5 ⟨_,rfl,F5 h⟩) htake))
end
end HT
namespace L2
section
abbrev TO:=St->Hp->(Option Int->Hp->Prop)->Prop
def PO(X:Cx)(e:Option Expr)(t:TO):Prop :=
 ∀(pins:List (Addr×Obj)) (s:Shared) (σ:St) (H:Hp) (Q:Option Int->Hp->Prop),Inv X pins σ H s->t σ H Q ->
  wpAny (model X.prog X.w) X.A (evalPart e X.env) (fun u s'=>∃o H',Inv X pins σ H' s'/\IsPart u o/\Q o H') X.xe s
def vT:TO:=fun _ H Q=>Q none H
def BZ(t:TE):TO:=fun σ H Q=>t σ H fun x H1=>∃i,x=.int i/\Q (some i) H1
section
variable {X:Cx}{e:Expr}{te:TE}{lo hi:Option Expr}{tl th:TO}{pos p2:Pos}
theorem vN:PO X none vT:=by
 intro pins s σ H Q I h;rw[evalPart_none];exact F5 ⟨none,H,I,.none,h⟩
theorem uq(h:PE X e te):PO X (some e) (BZ te):=by
 intro pins s σ H Q I hw;rw[evalPart_some];refine thn (h pins s σ H _ I hw) fun u s1 y_=>?_;obtain⟨x,H1,I1,r1,q1⟩:=y_;obtain⟨i,rfl,q⟩:=q1;obtain⟨t,rfl⟩:=r1;exact⟨some i,H1,I1,.int i t,q⟩
def SlR(X:Cx)(r:V->Option Int->Option Int->Hp->VK->Prop):Prop :=
 ∀(pins:List (Addr×Obj)) (s:Shared) (σ:St) (H:Hp) (x:V) (v vl vu:Value) (lo hi:Option Int) (sl:Addr) (Q:VK),Inv X pins σ H s->RelV x v->s.heap.IsSliceOf sl vl vu .none->IsPart vl lo->IsPart vu hi->r x lo hi H Q ->
  ∃T id,typeLookup (.type T) "__getitem__"=pure (some (.builtin id))/\s.TypeIs v T/\wpAny (model X.prog X.w) X.A (getItem v (.ref sl)) (EP X pins σ Q) X.xe s
theorem SlR.or(h:SlR X r)(h':SlR X r'):SlR X (fun x lo hi H Q=>r x lo hi H Q∨r' x lo hi H Q):=by
 intro pins s σ H x v vl vu lo hi sl Q I rx hs pl pu q;rcases q with q | q
 ·exact h pins s σ H x v vl vu lo hi sl Q I rx hs pl pu q
 ·exact h' pins s σ H x v vl vu lo hi sl Q I rx hs pl pu q
def tSl(r:V->Option Int->Option Int->Hp->VK->Prop)(te:TE)(tl th:TO):TE:=fun σ H Q=>te σ H fun x H1=>tl σ H1 fun l H2=>th σ H2 fun u H3=>r x l u H3 Q
theorem kX(hr:SlR X r)(he:PE X e te)(hl:PO X lo tl)(hu:PO X hi th):PE X (.Subscript e (.Slice lo hi none p2) pos) (tSl r te tl th):=by
 intro pins s σ H Q I h;refine Subscript_ (thn (he pins s σ H _ I h) fun v s1 y_=>?_);obtain⟨x,H1,I1,r1,q1⟩:=y_;refine wpAny_Slice (thn (hl pins s1 σ H1 _ I1 q1) fun vl s2 ⟨l,H2,I2,pl,q2⟩=>thn (hu pins s2 σ H2 _ I2 q2) fun vu s3 y_=>?_);obtain⟨u,H3,I3,pu,q3⟩:=y_;rw[evalPart_none];refine F5 ?_;have I4:Inv X pins σ H3 { s3 with heap:=s3.heap.push { cls:=.type "slice",data:=.fields #[vl,vu,.none] } }:=I3.kept (t':=s3.toks) fun b ob q=>F6 _ q;obtain⟨T,id,hT,ht,hg⟩:=hr pins { s3 with heap:=s3.heap.push { cls:=.type "slice",data:=.fields #[vl,vu,.none] } } σ H3 x v vl vu l u s3.heap.objs.size Q I4 r1 (Heap.IsSliceOf.new ..) pl pu q3;show wpAny (model X.prog X.w) X.A (subscriptTail e (.Slice lo hi none p2) v (.ref s3.heap.objs.size)) (EP X pins σ Q) X.xe { s3 with heap:=s3.heap.push { cls:=.type "slice",data:=.fields #[vl,vu,.none] } };exact tail_any (ops:=[.ref s3.heap.objs.size,v]) ht hT hg (by with_unfolding_all rfl)
def jy(xs:List V)(lo hi:Option Int):List V:=(xs.drop (HT.sIx xs.length 0 lo)).take (HT.sIx xs.length xs.length hi - HT.sIx xs.length 0 lo)
theorem gx(xs:List V)(lo hi:Option Int):(jy xs lo hi).length≤xs.length:=by
 unfold jy;rw[GN,Hm];omega
def D2(K:PySem.W.Frag):V->Option Int->Option Int->Hp->VK->Prop:=fun x lo hi H Q=>∃a xs,x=.ref a/\SqT K H a xs /\
 ¬(HT.sIx xs.length 0 lo=0/\HT.sIx xs.length xs.length hi=xs.length)/\∀p,H p=none->Q (.ref p) (upd H p (.tup (jy xs lo hi)))
theorem sE:SlR X (D2 X.K):=by
 intro pins s σ H x v vl vu lo hi sl Q I rx hs pl pu h;obtain⟨a,xs,rfl,hx,hw,q⟩:=h;cases rx;obtain⟨its,r,ht,hz⟩:=I.tuple hx;have hlen:its.toArray.size=xs.length:=by rw[Gi];exact r.length.symm
 refine⟨"tuple",_,PyProof.Rows.slot_tuple_getitem.lookup,ht.typeIs,?_⟩;refine HT.fO ht hs pl pu (by rw[hlen];exact hw) ?_ (by rw[hlen];exact hz);rw[hlen];refine⟨.ref s.heap.objs.size,_,I.laid (t':=s.toks) (o:=.tup (jy xs lo hi)) (fun b ob q=>F6 _ q) (F9 _) ?_,rfl,q _ (I.hok.fresh (F9 _))⟩;exact⟨GU (gx xs lo hi) hz,_,(r.drop (HT.sIx xs.length 0 lo)).take (HT.sIx xs.length xs.length hi - HT.sIx xs.length 0 lo),IsTup.new _ _⟩
end
end
section
def ixN(n:Nat)(i:Int):Option Nat:=if 0≤i then(if i<n then some i.toNat else none)else if -(n:Int)≤i then some (i+n).toNat else none
def atI{α:Type}(xs:List α)(i:Int):Option α:=(ixN xs.length i).bind fun j=>xs[j]?
theorem mY(h:ixN n i=some j):seqIndex? i n=some j/\j<n/\-(n:Int)≤i/\i<n:=by
 unfold ixN at h;by_cases h0:0≤i
 ·rw[Gq h0]at h;by_cases h1:i<n
  ·rw[Gq h1]at h;have e:i.toNat=j:=Gw h;exact⟨by rw[seqIndex_of h0 h1,e],by omega,by omega,h1⟩
  ·rw[Gp h1]at h;cases h
 ·rw[Gp h0]at h;by_cases h1:-(n:Int)≤i
  ·rw[Gq h1]at h;have e:(i+n).toNat=j:=Gw h;exact⟨by rw[seqIndex_neg (by omega) h1,e],by omega,h1,by omega⟩
  ·rw[Gp h1]at h;cases h
theorem mR{xs:List α}{v:α}(h:atI xs i=some v):∃j,seqIndex? i xs.length=some j/\xs[j]?=some v/\j<xs.length/\-(xs.length:Int)≤i/\i<xs.length:=by
 unfold atI at h;cases e:ixN xs.length i with
 | none=>rw[e]at h;cases h
 | some j =>
  rw[e]at h;obtain⟨h1,h2,h3,h4⟩:=mY e;exact⟨j,h1,h,h2,h3,h4⟩
def jV(b:Expr):Prop:=∀o i,subscripted b false o i=operate [o,i] (getItem o i)
def IxR(X:Cx)(r:R2):Prop :=
 ∀(value slice:Expr) (pins:List (Addr×Obj)) (s:Shared) (σ:St) (H:Hp) (x y:V) (v u:Value) (Q:VK),Inv X pins σ H s->RelV x v->RelV y u->r x y H Q ->
  subscripted slice false v u=operate [v,u] (getItem v u)->wpAny (model X.prog X.w) X.A (subscriptTail value slice v u) (EP X pins σ Q) X.xe s
def MtR(X:Cx)(id:String)(r:V->List V->Hp->VK->Prop):Prop :=
 ∀(pins:List (Addr×Obj)) (s:Shared) (σ:St) (H:Hp) (x:V) (xs:List V) (v:Value) (us:List Value) (Q:VK),Inv X pins σ H s->RelV x v->Vals xs us->r x xs H Q ->
  wpAny (model X.prog X.w) X.A (call (.builtin id) (v::us)) (EP X pins σ Q) X.xe s
section
variable {X:Cx}{a b:Expr}{ta tb:TE}{pos:Pos}
theorem IxR.or(h:IxR X r)(h':IxR X r'):IxR X (fun x y H Q=>r x y H Q∨r' x y H Q):=by
 intro value slice pins s σ H x y v u Q I rx ry q hs;rcases q with q | q
 ·exact h value slice pins s σ H x y v u Q I rx ry q hs
 ·exact h' value slice pins s σ H x y v u Q I rx ry q hs
theorem Cp(hr:IxR X r)(ha:PE X a ta)(hb:PE X b tb)(hs:jV b):PE X (.Subscript a b pos) (tOp r ta tb):=by
 intro pins s σ H Q I h;exact Subscript_ (xo ha hb I h fun v u s2 x y H2 I2 rx ry q=>hr a b pins s2 σ H2 x y v u Q I2 rx ry q (hs _ _))
def zg(K:PySem.W.Frag):R2:=fun x y H Q=>∃p xs i v,x=.ref p/\y=.int i/\SqL K H p xs/\atI xs i=some v/\Q v H
def x8(K:PySem.W.Frag):R2:=fun x y H Q=>∃p xs i v,x=.ref p/\y=.int i/\SqT K H p xs/\atI xs i=some v/\Q v H
theorem tT:IxR X (zg X.K):=by
 intro value slice pins s σ H x y v u Q I rx ry h hs;obtain⟨p,xs,i,z,rfl,rfl,hq,he,q⟩:=h;cases rx;obtain⟨t,rfl⟩:=ry;obtain⟨its,r,pl,hz⟩:=I.list hq;obtain⟨j,h1,h2,h3,h4,h5⟩:=mR he;obtain⟨w,ew,rw'⟩:=r.get h2;have hl:=r.length;have hn:=jX;have fin:EP X pins σ Q w s:=⟨z,H,I,rw',q⟩;by_cases h0:0≤i
 ·have hj:i.toNat=j:=by
   rw[seqIndex_of h0 h5]at h1;exact Gw h1
  exact item_listR pl.isList h0 (by omega) (by rw[hj];simpa using ew) fin hs
 ·have hj:(i+(its.toArray.size:Int)).toNat=j:=by
   rw[seqIndex_neg (by omega) h4]at h1;rw[Gi,← hl];exact Gw h1
  exact subscriptTail_builtinR (x:=w) pl.isList.typeIs slot_list_getitem.lookup
   (wpAny_getItem_list_neg (Q:=fun r s'=>r=w/\EP X pins σ Q r s') pl.isList (by omega) (by rw[Gi]<;>omega) (by omega) (by rw[hj];simpa using ew) ⟨rfl,fin⟩) hs
theorem zx:IxR X (x8 X.K):=by
 intro value slice pins s σ H x y v u Q I rx ry h hs;obtain⟨p,xs,i,z,rfl,rfl,hq,he,q⟩:=h;cases rx;obtain⟨t,rfl⟩:=ry;obtain⟨its,r,pl,hz⟩:=I.tuple hq;obtain⟨j,h1,h2,h3,h4,h5⟩:=mR he;obtain⟨w,ew,rw'⟩:=r.get h2;have hl:=r.length;have hn:=jX;have fin:EP X pins σ Q w s:=⟨z,H,I,rw',q⟩;exact subscriptTail_builtinR (x:=w) pl.typeIs slot_tuple_getitem.lookup
  (getItem_tuple (j:=j) (Q:=fun r s'=>r=w/\EP X pins σ Q r s') pl (by omega) (by omega) (by rw[Gi,← hl];exact h1) (by simpa using ew) ⟨rfl,fin⟩) hs
theorem lU(its:List Value)(n j:Nat)(u:Value):Obj.mapSeq (·.setIfInBounds j u) { cls:=.type "list",data:=.seq its.toArray n }={ cls:=.type "list",data:=.seq (its.set j u).toArray n }:=by
 simp[Obj.mapSeq]
theorem Inv.lst{pins:List (Addr×Obj)}{σ:St}{H:Hp}{s:Shared}{p:Addr}{xs:List V}(I:Inv X pins σ H s)(h:H p=some (.lst xs)) :
  ∃(its:List Value) (n:Nat),Vals xs its/\s.heap.get? p=some { cls:=.type "list",data:=.seq its.toArray n }/\xs.length≤sizeLine:=by
 obtain⟨z,its,n,r,e⟩:=I.hok p _ h;exact⟨its,n,r,e,z⟩
theorem Inv.lstUpd{σ:St}{its its':List Value}(I:Inv X pins σ H s)(h:H p=some (.lst xs))
  (ho:s.heap.get? p=some { cls:=.type "list",data:=.seq its.toArray n }) (hf:f { cls:=.type "list",data:=.seq its.toArray n }={ cls:=.type "list",data:=.seq its'.toArray n' }) (r:Vals ys its') (hz:ys.length≤sizeLine) (t:Nat) :
  Inv X pins σ (upd H p (.lst ys)) { s with heap:=s.heap.update p f,toks:=t }:=by
 have e:(s.heap.update p f).get? p=some { cls:=.type "list",data:=.seq its'.toArray n' }:=by
  rw[G6 f ho (by rw[hf]<;>rfl),hf]
 refine I.write (x:=p) (e:=p) (by rw[h];trivial) (.inl rfl) (fun b u hb q=>(Heap.get?_update_other _ _ (Ne.symm hb)).trans q) ⟨_,e⟩ ?_;exact⟨hz,its',n',r,e⟩
def CA:V->V->V->Hp->(Hp->Prop)->Prop:=fun o i v H Q=>∃p xs k j,o=.ref p/\i=.int k/\H p=some (.lst xs)/\ixN xs.length k=some j/\Q (upd H p (.lst (xs.set j v)))
theorem set_list:hJ X CA:=by
 intro pins s σ H o i v ov iv u Q I ro ri rv h;obtain⟨p,xs,k,j,rfl,rfl,hp,hj,q⟩:=h;cases ro;obtain⟨t,rfl⟩:=ri;obtain⟨its,n,r,ho,hz⟩:=I.lst hp;obtain⟨h1,h2,h3,h4⟩:=mY hj;have hl:=r.length;have hn:=jX;have I':Inv X pins σ (upd H p (.lst (xs.set j v))) { s with heap:=s.heap.update p (Obj.mapSeq (·.setIfInBounds j u)) } :=
  I.lstUpd hp ho (lU its n j u) (r.set rv j) (by rw[List.length_set];exact hz) s.toks
 by_cases h0:0≤k
 ·have hk:k.toNat=j:=by
   rw[seqIndex_of h0 h4]at h1;exact Gw h1
  exact PySem.W.ki_setAt ho h0 (by omega) (by rw[Gi,← hl];exact h4) (by rw[hk];exact⟨_,I',q⟩)
 ·have hk:(k+(its.toArray.size:Int)).toNat=j:=by
   rw[seqIndex_neg (by omega) h3]at h1;rw[Gi,← hl];exact Gw h1
  exact PySem.W.ki_setBack ho (by omega) (by rw[Gi,← hl];exact h3) (by omega) (by rw[hk];exact⟨_,I',q⟩)
theorem jR(lo hi:Option Int)(n:Nat):(sliceBounds lo hi none n).1=((HT.sIx n 0 lo:Nat):Int)/\(sliceBounds lo hi none n).2.1=((HT.sIx n n hi:Nat):Int)/\(sliceBounds lo hi none n).2.2=1:=by
 refine⟨?_,?_,rfl⟩
 ·cases lo with
  | none=>simp[sliceBounds,HT.sIx]
  | some i =>
   simp only[sliceBounds,HT.sIx,Option.getD_none,show(1:Int)>0 by decide,if_true];by_cases h:i<0
   ·simp only[h,if_true]<;>omega
   ·simp only[h,if_false]<;>omega
 ·cases hi with
  | none=>simp[sliceBounds,HT.sIx]
  | some i =>
   simp only[sliceBounds,HT.sIx,Option.getD_none,show(1:Int)>0 by decide,if_true];by_cases h:i<0
   ·simp only[h,if_true]<;>omega
   ·simp only[h,if_false]<;>omega
theorem iK(its:List Value)(lo hi:Option Int):slicePick its.toArray lo hi none=((its.drop (HT.sIx its.length 0 lo)).take (HT.sIx its.length its.length hi - HT.sIx its.length 0 lo)).toArray:=by
 obtain⟨h1,h2,h3⟩:=jR lo hi its.toArray.size;unfold slicePick;rw[h1,h2,h3];simp only[sliceRange_one,pick_run,Gi]<;>rfl
def Ef(K:PySem.W.Frag):V->Option Int->Option Int->Hp->VK->Prop:=fun x lo hi H Q=>∃a xs,x=.ref a/\SqL K H a xs/\∀p,H p=none->Q (.ref p) (upd H p (.lst (jy xs lo hi)))
theorem ub:SlR X (Ef X.K):=by
 intro pins s σ H x v vl vu lo hi sl Q I rx hs pl pu h;obtain⟨a,xs,rfl,hx,q⟩:=h;cases rx;obtain⟨its,r,ht,hz⟩:=I.list hx;have hlen:=r.length;refine⟨"list",_,slot_list_getitem.lookup,ht.isList.typeIs,?_⟩;refine wpAny_getItem_list_slice ht.isList hs pl pu .none (by simp) ?_ (by rw[Gi]<;>omega);rw[iK,← hlen];refine⟨.ref s.heap.objs.size,_,I.laid (t':=s.toks) (o:=.lst (jy xs lo hi)) (fun b ob q=>F6 _ q) (F9 _) ?_,rfl,q _ (I.hok.fresh (F9 _))⟩;exact⟨GU (gx xs lo hi) hz,_,0,(r.drop (HT.sIx xs.length 0 lo)).take (HT.sIx xs.length xs.length hi - HT.sIx xs.length 0 lo),Gm _ rfl⟩
def eqV:V->V->Bool
 | .non,.non=>true
 | .bl a,.bl b=>a==b
 | .bl a,.int b=>(if a then 1 else 0)==b
 | .int a,.bl b=>a==(if b then 1 else 0)
 | .int a,.int b=>a==b
 | .str a,.str b=>a==b
 | _,_=>false
def inV(x:V)(xs:List V):Bool:=xs.any fun y=>eqV y x
theorem av:cA X (.builtin "len") (fun xs H Q=>∃p ys,xs=[.ref p]/\(SqL X.K H p ys∨SqT X.K H p ys)/\Q (.int ys.length) H):=by
 intro pins s σ H xs us Q I r h;obtain⟨p,ys,rfl,hq,q⟩:=h;obtain⟨u,rfl,rx⟩:=vals1 r;cases rx;have hn:=jX;rcases hq with hq | hq
 ·obtain⟨its,r',pl,hz⟩:=I.list hq;have hlen:=r'.length;exact Calls.call_len_list pl.isList (by simp only[Gi]<;>omega) ⟨.int ys.length,H,I.tok _,⟨s.toks+1,by rw[Gi,hlen]⟩,q⟩
 ·obtain⟨its,r',pl,hz⟩:=I.tuple hq;have hlen:=r'.length;exact len_tuple pl (by simp only[Gi]<;>omega) ⟨.int ys.length,H,I.tok _,⟨s.toks+1,by rw[Gi,hlen]⟩,q⟩
theorem bG:cA X (.type "list") (fun xs H Q=>∃p ys,xs=[.ref p]/\(SqL X.K H p ys∨SqT X.K H p ys)/\∀l,H l=none->Q (.ref l) (upd H l (.lst ys))):=by
 intro pins s σ H xs us Q I r h;obtain⟨p,ys,rfl,hq,q⟩:=h;obtain⟨u,rfl,rx⟩:=vals1 r;cases rx;have fin:∀(its:List Value),Vals ys its->ys.length≤sizeLine->∀(h':Heap) (c':Nat),(∀b o',s.heap.get? b=some o'->h'.get? b=some o') ->
   h'.get? s.heap.objs.size=some { cls:=.type "list",dict:=none,data:=.seq its.toArray c',slots:=#[] }->EP X pins σ Q (.ref s.heap.objs.size) { s with heap:=h' }:=fun its r' hz h' c' kp e =>
  ⟨.ref s.heap.objs.size,_,I.laid (t':=s.toks) kp (F9 _) (show bP X.prog X.w _ h' _ (.lst ys)from⟨hz,its,c',r',e⟩),rfl,q _ (I.hok.fresh (F9 _))⟩
 rcases hq with hq | hq
 ·obtain⟨its,r',pl,hz⟩:=I.list hq;have hlen:=r'.length;obtain⟨o,ho,hc,n,hd⟩:=pl.isList;exact call_list_seq p (.inl rfl) ho hc hd (fun h' c' kp e=>fin its r' hz h' c' kp e) (by simp only[Gi]<;>omega)
 ·obtain⟨its,r',pl,hz⟩:=I.tuple hq;have hlen:=r'.length;obtain⟨o,ho,hc,n,hd⟩:=pl;exact call_list_seq p (.inr rfl) ho hc hd (fun h' c' kp e=>fin its r' hz h' c' kp e) (by simp only[Gi]<;>omega)
theorem aX:cA X (.type "tuple") (fun xs H Q=>∃p ys,xs=[.ref p]/\((SqL X.K H p ys/\∀l,H l=none->Q (.ref l) (upd H l (.tup ys)))∨(SqT X.K H p ys/\Q (.ref p) H))):=by
 intro pins s σ H xs us Q I r h;obtain⟨p,ys,rfl,h⟩:=h;obtain⟨u,rfl,rx⟩:=vals1 r;cases rx;rcases h with⟨hq,q⟩ |⟨hq,q⟩
 ·obtain⟨its,r',pl,hz⟩:=I.list hq;have hlen:=r'.length;refine call_tuple_list pl.isList (fun h' kp=>?_) (by simp only[Gi]<;>omega);have I1:Inv X pins σ H { s with heap:=h' }:=I.kept (t':=s.toks) kp;have I2:Inv X pins σ (upd H h'.objs.size (.tup ys)) { s with heap:=h'.push { cls:=.type "tuple",data:=.seq its.toArray } } :=
   I1.laid (t':=s.toks) (fun b o e=>F6 _ e) (F9 _) (show bP X.prog X.w _ _ _ (.tup ys)from⟨hz,its,r',IsTup.new _ _⟩)
  exact⟨.ref h'.objs.size,_,I2,rfl,q _ (I1.hok.fresh (F9 _))⟩
 ·obtain⟨its,r',pl,hz⟩:=I.tuple hq;exact call_tuple_same pl ⟨.ref p,H,I,rfl,q⟩
def tyV(K:PySem.W.Frag)(T:String)(x:V)(H:Hp):Prop:=match x with
 | .str _=>T="str"
 | .int _=>T="int"
 | .ref p=>(T="list"/\∃xs,SqL K H p xs)∨(T="tuple"/\∃o,K.lookup p=some o/\o.cls=.type "tuple"/\o.dict=none) ∨
   (T="dict"/\((∃kvs,H p=some (.dK kvs))∨∃kvs,H p=some (.dT kvs)))∨(T="set"/\∃S n,H p=some (.set S n))
 | _=>False
theorem zy{σ:St}(I:Inv X pins σ H s)(r:RelV x v)(ty:tyV X.K T x H) :
  s.TypeIs v T/\∀a,v=.ref a->∃ob,s.heap.get? a=some ob/\ob.dict=none:=by
 cases x with
 | str z =>
  obtain⟨t,rfl⟩:=r;cases (show T="str" from ty);exact⟨typeIs_str s z t,fun _ e=>nomatch e⟩
 | int i =>
  obtain⟨t,rfl⟩:=r;cases (show T="int" from ty);exact⟨typeIs_int s i t,fun _ e=>nomatch e⟩
 | ref p =>
  cases r;rcases ty with⟨rfl,xs,hq⟩ |⟨rfl,o,hk,hc,hd⟩ |⟨rfl,hk⟩ |⟨rfl,S,n,hk⟩
  ·obtain⟨its,_,pl,_⟩:=I.list hq;refine⟨pl.isList.typeIs,fun a e=>?_⟩;cases e;obtain⟨o,n,e,c,hd,_⟩:=pl;exact⟨o,e,hd⟩
  ·refine⟨⟨o,I.kIn p o hk,hc⟩,fun a e=>?_⟩;cases e;exact⟨o,I.kIn _ o hk,hd⟩
  ·have z:∃o,s.heap.get? p=some o/\o.ExactDict:=by
    rcases hk with⟨kvs,hk⟩ |⟨kvs,hk⟩
    ·obtain⟨_,_,_,_,o,_,_,e,ex,_⟩:=I.hok p _ hk;exact⟨o,e,ex⟩
    ·obtain⟨_,_,_,_,o,_,_,e,ex,_⟩:=I.hok p _ hk;exact⟨o,e,ex⟩
   obtain⟨o,e,ex⟩:=z;refine⟨⟨o,e,ex.1⟩,fun a e2=>?_⟩;cases e2;exact⟨o,e,ex.2.1⟩
  ·obtain⟨o,_,_,_,e,ex,_⟩:=I.hok p _ hk;refine⟨⟨o,e,ex.1⟩,fun a e2=>?_⟩;cases e2;exact⟨o,e,ex.2.1⟩
 | _=>exact False.elim ty
def tBM(K:PySem.W.Frag)(T:String)(r:V->List V->Hp->VK->Prop)(to:TE)(t:TA):TE:=fun σ H Q=>to σ H fun x H1=>tyV K T x H1/\t σ H1 fun xs H2=>r x xs H2 Q
variable {o e:Expr}{es:List Expr}{to:TE}{t:TA}{name:Str}{apos cpos:Pos}{T id:String}{r:V->List V->Hp->VK->Prop}
theorem A5(pa:PlainAttrs T)(slot:Slot T name id)(hty:typeOf (.builtin id)=pure (.type "method_descriptor"))(hm:MtR X id r)(ho:PE X o to)(ha:PA X (e::es) t)
  (hbase:attributeBase o name X.env (eval o X.env)=eval o X.env:=by rfl)
  (hfew:((backTo cpos (starEach (e::es) X.env)).all (fun x=>!x.1)&&(backToKw cpos (keywordEach [] X.env)).all (fun x=>x.1.isSome)
   && decide ((e::es).length+([]:List Keyword).length+(if ([]:List Keyword).isEmpty then 0 else 1)<30))=true:=by rfl)
  (hline:(apos.endLine==cpos.line)=true:=by rfl) (hs:starEach (e::es) X.env=(false,eval e X.env)::starEach es X.env:=by rfl) (hplain:(backTo cpos (starEach es X.env)).any (·.1)=false:=by rfl) :
  PE X (.Call (.Attribute o name apos) (e::es) [] cpos) (tBM X.K T r to t):=by
 intro pins s σ H Q I h;refine wpAny_Call_method_late hbase hfew hline rfl (thn (ho pins s σ H _ I h) fun v s1 y_=>?_);obtain⟨x,H1,I1,r1,ty,q1⟩:=y_;obtain⟨h1,h2⟩:=zy I1 r1 ty;refine⟨T,id,pa,slot,hty,h1,h2,?_⟩;have hA:=ha cpos pins s1 σ H1 _ I1 q1;rw[hs]at hA ⊢;refine Calls.callWith_builtin (by show(false||(backTo cpos (starEach es X.env)).any (·.1))=false;rw[hplain]<;>rfl) (Calls.evalArgs_plain ?_);exact thn hA fun us s2 ⟨vs,H2,I2,r2,q2⟩=>hm pins s2 σ H2 x vs v us Q I2 r1 r2 q2
end
end
section
def MtM(X:Cx)(id:String)(r:V->List V->Hp->VK->Prop):Prop :=
 ∀(pins:List (Addr×Obj)) (s:Shared) (σ:St) (H:Hp) (x:V) (xs:List V) (v:Value) (us:List Value) (Q:VK),Inv X pins σ H s->RelV x v->Vals xs us->r x xs H Q ->
  wpAny (model X.prog X.w) X.A (call (.builtin id) (v::us)) (EP X pins σ Q) X.xe s
theorem Vals.one:∀{x:V} {us:List Value},Vals [x] us->∃u,us=[u]/\RelV x u
 | _,_,.cons r .nil=>⟨_,rfl,r⟩
theorem Vals.dropLast(h:Vals xs us):Vals xs.dropLast us.dropLast:=by
 induction h with
 | nil=>exact .nil
 | cons r t ih =>
  cases t with
  | nil=>exact .nil
  | cons q t'=>exact .cons r ih
theorem Vals.rep{xs:List V}{us:List Value}(h:Vals xs us):∀k:Nat,Vals (List.replicate k xs).flatten (List.replicate k us).flatten
 | 0=>.nil
 | k+1=>by
  rw[HG,HG,HI,HI];exact Vals.append h (Vals.rep h k)
theorem wW{α:Type}(l:List α):l.eraseIdx (l.length - 1)=l.dropLast:=by
 induction l with
 | nil=>rfl
 | cons a r ih =>
  cases r with
  | nil=>rfl
  | cons b r =>
   have e:(a::b::r).length - 1=((b::r).length - 1)+1:=by
    have h1:(a::b::r).length=r.length+2:=rfl;have h2:(b::r).length=r.length+1:=rfl;omega
   rw[e,List.eraseIdx_cons_succ,ih]
   all_goals rfl
theorem foldl_rep(its:List Value):∀(k:Nat) (acc:List Value),
  List.foldl (fun x1 x2=>x1++x2) acc.toArray (List.replicate k its.toArray)=(acc++(List.replicate k its).flatten).toArray
 | 0,acc=>by simp
 | k+1,acc=>by
  have e:acc.toArray++its.toArray=(acc++its).toArray:=by simp
  have e2:(acc++its)++(List.replicate k its).flatten=acc++(List.replicate (k+1) its).flatten:=by
   rw[HG,HI,Hy]
  rw[←e2,← foldl_rep its k (acc++its),← e,HG,List.foldl_cons]
section
variable {X:Cx}{pins:List (Addr×Obj)}{σ:St}{H:Hp}{s:Shared}{l b:Addr}{xs ys zs:List V}
theorem Inv.lset{its its':List Value}(I:Inv X pins σ H s)(hH:H l=some (.lst xs))
  (e:s.heap.get? l=some { cls:=.type "list",data:=.seq its.toArray n }) (hf:f its.toArray=its'.toArray) (hv:Vals ys its') (hz:ys.length≤sizeLine) :
  Inv X pins σ (upd H l (.lst ys)) { s with heap:=s.heap.update l (Obj.mapSeq f),toks:=t' }:=by
 have q:=PySem.IsL.update e f;rw[hf]at q;refine I.write (x:=l) (e:=l) (by rw[hH];exact trivial) (.inl rfl) (fun b' u hb hu=>(Heap.get?_update_other s.heap (Obj.mapSeq f) (Ne.symm hb)).trans hu) ⟨_,q⟩ ?_;exact⟨hz,its',_,hv,q⟩
theorem Inv.lnew(I:Inv X pins σ H s)(hv:Vals ys its)(hz:ys.length≤sizeLine) :
  Inv X pins σ (upd H s.heap.objs.size (.lst ys)) { s with heap:=s.heap.push { cls:=.type "list",data:=.seq its.toArray },toks:=t' } :=
 I.laid (fun _ _ q=>F6 _ q) (F9 _) ⟨hz,its,0,hv,Gm _ rfl⟩
theorem Inv.fresh(I:Inv X pins σ H s):H s.heap.objs.size=none:=I.hok.fresh (F9 _)
theorem Inv.lstM(I:Inv X pins σ H s)(hH:H l=some (.lst xs)):xs.length≤sizeLine/\∃(its:List Value) (n:Nat),Vals xs its/\xs.length=its.length/\s.heap.get? l=some { cls:=.type "list",data:=.seq its.toArray n }:=by
 obtain⟨z,its,n,r,e⟩:=I.hok l _ hH;exact⟨z,its,n,r,r.length,e⟩
theorem g9(h:n≤sizeLine):Builtin.List.listTooLong n=false:=by
 unfold Builtin.List.listTooLong;exact GR (by omega)
end
section
variable {X:Cx}
def nS:V->List V->Hp->VK->Prop:=fun x vs H Q=>∃l xs y,x=.ref l/\vs=[y]/\H l=some (.lst xs)/\xs.length<sizeLine/\Q .non (upd H l (.lst (xs++[y])))
theorem bY:MtM X "list.append" nS:=by
 intro pins s σ H x vs v us Q I rx rv h;obtain⟨l,xs,y,rfl,rfl,hH,hz,q⟩:=h;cases rx;obtain⟨u,rfl,ru⟩:=rv.one;obtain⟨z,its,n,r,hl,e⟩:=I.lstM hH;refine call_meets F.slot_list_append ⟨_,e,rfl⟩ F.entry_list_append (F.args_list_append_2 _ _) (PySem.list_append l its.toArray n u (by rw[Gi];omega)) ⟨e,?_⟩;refine⟨.non,_,I.lset (its':=its++[u]) hH e (by simp) (r.append (.cons ru .nil)) ?_,rfl,q⟩;rw[F3,Gr];omega
def nh:V->List V->Hp->VK->Prop:=fun x vs H Q=>∃l b xs zs,x=.ref l/\vs=[.ref b]/\H l=some (.lst xs)/\H b=some (.lst zs)/\xs.length+zs.length≤sizeLine/\Q .non (upd H l (.lst (xs++zs)))
theorem eD:MtM X "list.extend" nh:=by
 intro pins s σ H x vs v us Q I rx rv h;obtain⟨l,b,xs,zs,rfl,rfl,hH,hB,hz,q⟩:=h;cases rx;obtain⟨u,rfl,ru⟩:=rv.one;cases ru;obtain⟨z,its,n,r,hl,e⟩:=I.lstM hH;obtain⟨z2,its2,n2,r2,hl2,e2⟩:=I.lstM hB;have hsz:its.toArray.size+its2.toArray.size≤sizeLine:=by rw[Gi,Gi];omega
 have hlong:¬(!its.toArray.isEmpty&&Builtin.List.listTooLong (its.toArray.size+its2.toArray.size))=true:=by
  rw[g9 hsz,Bool.and_false];exact HA
 refine call_meets F.slot_list_extend ⟨_,e,rfl⟩ F.entry_list_extend (F.args_list_extend_2 _ _)
  (AutoSeq1.list_extend_list_list_0 l its.toArray n b its2.toArray n2 hlong (by rw[Gi];omega) (by omega)) ⟨e,e2,?_⟩
 refine⟨.non,_,I.lset (its':=its++its2) hH e (by simp) (r.append r2) ?_,rfl,q⟩;rw[F3];omega
def Bd:R2:=fun x y H Q=>∃l b xs zs,x=.ref l/\y=.ref b/\H l=some (.lst xs)/\H b=some (.lst zs)/\xs.length+zs.length≤sizeLine/\∀p,H p=none->Q (.ref p) (upd H p (.lst (xs++zs)))
theorem zw:OpR X (binaryOp .Add) Bd:=by
 intro pins s σ H x y v u Q I rx ry h;obtain⟨l,b,xs,zs,rfl,rfl,hH,hB,hz,q⟩:=h;cases rx;cases ry;obtain⟨z,its,n,r,hl,e⟩:=I.lstM hH;obtain⟨z2,its2,n2,r2,hl2,e2⟩:=I.lstM hB;refine PySem.P.add_list e e2 ?_ (by rw[Gi,Gi];omega);have ea:its.toArray++its2.toArray=(its++its2).toArray:=by simp
 rw[ea];exact⟨.ref _,_,I.lnew (t':=s.toks) (r.append r2) (by rw[F3];omega),rfl,q _ I.fresh⟩
def B7:R2:=fun x y H Q=>∃l k xs,x=.ref l/\y=.int k/\H l=some (.lst xs)/\-(2 ^ 63)≤k/\k<2 ^ 63/\xs.length*k.toNat≤sizeLine /\
 ∀p,H p=none->Q (.ref p) (upd H p (.lst (List.replicate k.toNat xs).flatten))
theorem len_rep{α:Type}(xs:List α)(k:Nat):(List.replicate k xs).flatten.length=k*xs.length:=by
 induction k with
 | zero=>simp
 | succ k ih=>rw[HG,HI,F3,ih,Nat.succ_mul,Nat.add_comm]
theorem xJ:OpR X (binaryOp .Mult) B7:=by
 intro pins s σ H x y v u Q I rx ry h;obtain⟨l,k,xs,rfl,rfl,hH,h1,h2,hz,q⟩:=h;cases rx;obtain⟨t,rfl⟩:=ry;obtain⟨z,its,n,r,hl,e⟩:=I.lstM hH;have hlen:its.toArray.size*k.toNat≤sizeLine:=by rw[Gi,← hl];exact hz
 have hcap:¬its.toArray.size*k.toNat>(2 ^ 63 - 1) / 8:=by
  have:(sizeLine:Nat)≤(2 ^ 63 - 1) / 8:=by decide
  omega
 have hfit:¬(!Builtin.List.listFitsIndex k)=true:=by
  rw[fitsIndex_both h1 h2];exact HA
 have hlong:¬Builtin.List.listTooLong (its.toArray.size*k.toNat)=true:=by
  rw[g9 hlen];exact HA
 have hnew:List.foldl (fun x1 x2=>x1++x2) #[] (List.replicate (if its.toArray.isEmpty=true then 0 else k.toNat) its.toArray)=(List.replicate k.toNat its).flatten.toArray:=by
  have f0:∀m:Nat,List.foldl (fun x1 x2=>x1++x2) #[] (List.replicate m its.toArray)=(List.replicate m its).flatten.toArray:=fun m=>by
   have:=foldl_rep its m [];rw[List.nil_append]at this;exact this
  rw[f0];cases its with
  | nil=>simp
  | cons a r'=>rw[Gp (by simp)]
 refine wpAny_binaryOp_repeat_ref (T:="list") (U:="int") (by decide) ⟨_,e,rfl⟩ (fun s'=>typeIs_int s' k t) noFill_list_mul F.fills_int_mul F.slot_int_rmul repeat_list F.slot_int_index.lookup
  (call_meets F.slot_int_rmul (typeIs_int s k t) F.entry_int_rmul (F.args_int_rmul_2 _ _) (int___rmul___int_list k t l its.toArray n)
   ⟨e,rfl,⟨_,e,rfl⟩,call_meets F.slot_list_mul ⟨_,e,rfl⟩ F.entry_list_mul (F.args_list_mul_2 _ _) (AutoListH.list___mul___list_int_3 l its.toArray n k t hfit hcap hlong) ⟨e,?_⟩⟩)
 rw[hnew];exact⟨.ref _,_,I.lnew (t':=s.toks) (r.rep k.toNat) (by rw[len_rep,Nat.mul_comm];exact hz),rfl,q _ I.fresh⟩
end
section
variable {prog:Program}{w:World}{A:Around}{E:Value->Shared->Prop}{s:Shared}
end
section
variable {X:Cx}
end
end
end L2
namespace Att
open PySem.W PySem.Calls
theorem gA:∀(ns:List Int) (vs:List Value),WellAll P h vs (ns.map WData.int)->IntsAre vs ns:=by
 intro ns
 induction ns with
 | nil =>
  intro vs w;rw[List.map_nil]at w;cases w;exact .nil
 | cons n ns ih =>
  intro vs w;rw[Ge]at w;cases w with
  | cons a b =>
   cases a;exact .cons _ _ (ih _ b)
theorem oB{l:OpenLaw}(hn:l.most=some n){P:Params}{h:Heap}{args:List WData}{vals:List Value}
  (hpre:l.row.toRowW.claim.pre args=true) (hwl:WellAll P h vals args) :
  ∃a vs ns,vals=[Value.ref a]/\args=[WData.list (ns.map WData.int)]/\h.get? a=some { cls:=.type "list",data:=.seq vs.toArray }/\IntsAre vs ns/\ns.length≤n:=by
 have hsh:WShape.hasAll [] args [.list .int]=true:=(pre_splitW hpre).1;have hc:l.pre.holds [] { args:=args }=true:=(pre_splitW hpre).2;obtain⟨d,r,rfl,h1,h2⟩:=hasAllW_cons hsh;obtain rfl:=hasAllW_nil h2;obtain⟨xs,rfl,h3⟩:=hasW_list h1;obtain⟨ns,rfl⟩:=items_int h3;have hlen:ns.length≤n:=by
  unfold OpenLaw.pre at hc;have h4:(WTm.not (.lt (.lit (.int (n:Int))) (.len (.arg 0)))).holds [] { args:=[.list (ns.map .int)] }=true:=by
   have h4:=(holds_andW hc).1;rw[hn]at h4;exact h4
  have h5:=condW_of h4 (w_not (w_lt w_lit (w_len_list (w_arg rfl))));rw[F0]at h5;refine Nat.le_of_not_lt fun q=>?_;have q':(n:Int)<((ns.length:Nat):Int):=by omega
  first
   |(rw[GP q']at h5;exact absurd h5 (by decide))
   |(simp at h5;omega)
 cases hwl with
 | cons w1 w2 =>
  cases w2;cases w1 with
  | list ho hall=>exact⟨_,_,ns,rfl,rfl,ho,gA ns _ hall,hlen⟩
theorem pj(l:OpenLaw)(args:List WData):l.row.toRowW.claim.post args (.bool true) args=true :=
 postW_of (r:=l.row.toRowW) (X:=(true==true))
  (show WShape.has [] (.bool true) .bool=true by first | rfl | decide | simp[WShape.has,WShape.arms,WShape.armsAll])
  (show(WTm.eq .res (.lit (.bool true))).value [] { args:=args,res:=some (.bool true),after:=args }=some (.bool (true==true))from w_eq_bool (w_res rfl) w_lit) rfl
theorem kB{l:OpenLaw}
  (hn:l.most=some n) (hdf:d.params.defaults=[])
  (call:∀(w:World) (s₀ s₁:Shared) (mg mb:Str->Option Value) (fa:Addr) (o:Obj) (pm cd doc:Value) (a:Addr) (vs:List Value) (ns:List Int),
   Ground q loose [] XP w s₀ mg mb s₁.heap->YP w s₁.heap ->
   s₁.heap.get? fa=some o->o.data=.func (docDef d.name d.params d.body d.scope pm cd doc)->s₁.heap.CodeRec cd d.name->mg d.name=some (.ref fa) ->
   s₁.heap.get? a=some { cls:=.type "list",data:=.seq vs.toArray }->IntsAre vs ns->ns.length≤n->s₁.gens=#[] ->
   codeAny (model l.prog w) callerA (.call (.ref fa) ⟨[.ref a],[]⟩) (fun r s'=>r=.ok (.ret (.bool true))/\OldK s₁.heap s'.heap/\s'.os=s₁.os/\AllBare s'.gens) s₁) :
  WalkO q loose XP YP l.row.toRowW d [] (fun f vs=>PySem.call f vs):=by
 intro w s₀ s₁ mg mb G Y fa o pm cd doc dV kV ho hd hcd hD hmg hg args vals as hpre hlay hrd hwl hlo;obtain rfl:dV=.none:=Dflts.none hD hdf;obtain rfl:kV=.none:=Dflts.noKw hD;obtain⟨a,vs,ns,rfl,rfl,hobj,hints,hlen⟩:=oB hn hpre hwl;refine enter_call (IG (call w s₀ s₁ mg mb fa o pm cd doc a vs ns G Y ho (fd_plain hd) hcd hmg hobj hints hlen hg) fun r s' hq=>?_);obtain⟨rfl,h2,h3,h4⟩:=hq;exact⟨.inl ⟨.bool true,.bool true,[],rfl,fun _=>rfl,.bool true,pj l _,fun _=>⟨List.Pairwise.nil,fun _ hm=>(nomatch hm)⟩⟩,h2,h3,h4⟩
section
variable {prog:Program}{w:World}{A:Around}{E:Value->Shared->Prop}{s:Shared}{K:Frag}
def ledger(h:Heap)(L d:Addr):List (Addr×Obj):=(List.range h.objs.size).filterMap fun a=>if a=L∨a=d then none else(h.get? a).map fun o=>(a,o)
end
end Att
namespace L2
section
theorem fY:∀{vs:List Value} {ns:List Int},IntsAre vs ns->Vals (ns.map V.int) vs
 | _,_,.nil=>.nil
 | _,_,.cons n t h=>.cons ⟨t,rfl⟩ (fY h)
def pG(H:Hp):Prop:=∀b,H b=none∨∃o xs,H b=some (.frz o (.lst xs))
theorem su{K:PySem.W.Frag}
  (KX:K.In s₁.heap) (hns:s₁.heap.Ns mainGlobals mg) (hb:s₁.heap.Ns builtinsNs mb) (hbb:∀x:Str,x≠"__name__"->mb x=bootBuiltins x) (hlim:s₁.heap.NoLimit) (hg:s₁.gens=#[])
  (ha:s₁.heap.get? a=some { cls:=.type "list",data:=.seq vs.toArray }) (hi:IntsAre vs ns) (hl:ns.length≤sizeLine) (hr:cu k callerA)
  (F:∀base:Heap,K.In base->base.Ns mainGlobals mg->ij P w K mg base CX k fa fd [x] sp) (hbind:∀(s:Shared) (u:Value),BindsTo s fd ⟨[u],[]⟩ [(x,u)])
  (hsp:∀H:Hp,pG H->SqL K H a (ns.map V.int)->sp [.ref a] H (fun v _=>v=.bl true) fun _ _ _=>False)
  (hCX:∀H e s',CX [] H s₁ (fun _ _ _=>False) e s'->False) :
  codeAny (model P w) callerA (.call (.ref fa) ⟨[.ref a],[]⟩) (fun r s'=>r=.ok (.ret (.bool true))/\OldK s₁.heap s'.heap/\s'.os=s₁.os/\AllBare s'.gens) s₁:=by
 have rv:=fY hi;have lenV:=hi.length;have core:∀H:Hp,pG H->SqL K H a (ns.map V.int)->HOk P w H s₁.heap->(∀b,H b≠none->b=a)->(H a≠none->K.lookup a=none) ->
   codeAny (model P w) callerA (.call (.ref fa) ⟨[.ref a],[]⟩) (fun r s'=>r=.ok (.ret (.bool true))/\OldK s₁.heap s'.heap/\s'.os=s₁.os/\AllBare s'.gens) s₁:=by
  intro H hO hS hok hA hK;have base_of:∀{b:Addr} {o:Obj},s₁.heap.get? b=some o->H b=none->(jJ s₁.heap H).get? b=some o:=fun e n=>qY e n;have noA:∀{b:Addr} {o:Obj} {es:Array DictEntry} {ep:Nat},s₁.heap.get? b=some o->o.data=.dict es ep->H b=none:=fun {b o es ep} e d=>by
   cases q:H b with
   | none=>rfl
   | some u =>
    have e':b=a:=hA b (by rw[q];simp);subst e';rw[ha]at e;cases e;have d':Data.seq vs.toArray _=Data.dict es ep:=d;cases d'
  have nsK:∀{b:Addr} {m:Str->Option Value},s₁.heap.Ns b m->(jJ s₁.heap H).Ns b m:=fun {b m} ⟨o,es,ep,e,d,r⟩=>⟨o,es,ep,base_of e (noA e d),d,r⟩;have hKb:K.In (jJ s₁.heap H):=fun b o e=>base_of (KX b o e) (by
   cases q:H b with
   | none=>rfl
   | some u =>
    have e':b=a:=hA b (by rw[q];simp);subst e';rw[hK (by rw[q];simp)]at e;cases e)
  have hM:Mod K mg (jJ s₁.heap H):=⟨hKb,nsK hns,⟨mb,nsK hb,hbb⟩,let ⟨mc,h1,h2⟩:=hlim;⟨mc,nsK h1,h2⟩⟩;have e0:mx P w K mg (jJ s₁.heap H) callerA [] s₁ H:=⟨rfl,hM,fun b o e=>vL e,Nat.le_of_eq (pd _ _),trivial,fun b hb=>absurd (show b∈([]:List Addr)from hb) (by simp),hok,.of_eq hg⟩;refine IG ((F _ hKb (nsK hns)).run callerA [] s₁ H ⟨[.ref a],[]⟩ [.ref a] [.ref a] _ _ hr e0 (hbind s₁ (.ref a)) (.cons rfl .nil) (hsp H hO hS)) fun r s' h=>?_;cases r with
  | error e=>exact(hCX H e s' h).elim
  | ok fl =>
   cases fl with
   | next=>exact False.elim h
   | brk=>exact False.elim h
   | cont=>exact False.elim h
   | ret u =>
    obtain⟨v,H',os,bare,un,hok',r',q⟩:=h;have q':v=.bl true:=q;subst q';obtain rfl:u=Value.bool true:=r';refine⟨rfl,OldK.of_keep fun b o e=>?_,os,bare⟩;cases q:H b with
    | none=>exact un.keep b o e q (by intro z;exact absurd (show b∈([]:List Addr)from z) (by simp)) (by simp)
    | some u =>
     rcases hO b with z |⟨ob,xs,z⟩
     ·rw[q]at z;cases z
     ·have z2:=un.frzs b ob _ z;obtain⟨e1,_⟩:=hok b _ z;obtain⟨e2,_⟩:=hok' b _ z2;rw[e]at e1;cases e1;exact e2
 cases hk:K.lookup a with
 | some o =>
  have e:=KX a o hk;rw[ha]at e;cases e;refine core (fun _=>none) (fun _=>.inl rfl) (.inr ⟨_,vs.toArray,_,hk,rfl,rfl,rfl,by rw[Gi,lenV];exact hl,by simpa using rv⟩) (fun b u z=>by have z':(none:Option HO)=some u:=z;cases z') (fun b z=>absurd rfl z) fun z=>absurd rfl z
 | none =>
  refine core (fun b=>if b=a then some (.frz { cls:=.type "list",data:=.seq vs.toArray } (.lst (ns.map V.int)))else none) (fun b=>?_) (.inl (.inr ⟨{ cls:=.type "list",data:=.seq vs.toArray },Gq rfl⟩)) (fun b u z=>?_) (fun b z=>?_) fun _=>hk
  ·by_cases hb:b=a
   ·exact .inr ⟨_,_,Gq hb⟩
   ·exact .inl (Gp hb)
  ·by_cases hb:b=a
   ·have z':=(Gq hb).symm.trans z;cases z';subst hb;exact⟨ha,by rw[F0];exact hl,vs,_,rv,ha⟩
   ·have z':=(Gp hb).symm.trans z;cases z'
  ·by_cases hb:b=a
   ·exact hb
   ·exact absurd (Gp hb) z
end
section
abbrev KOf{K:PySem.W.Frag}{h:Heap}(_:K.In h):PySem.W.Frag:=K
theorem oa{l:PySem.W.OpenLaw}{K:Params->PySem.W.Frag}{CX:World->CXT}{sp:World->Sp}
  (hn:l.most=some n) (hn2:n≤sizeLine) (hdf:d.params.defaults=[]) (hr:cu k callerA)
  (hY:∀(w:World) (h:Heap),YP w h->(K w.params).In h)
  (F:∀(w:World) (mg:Str->Option Value) (fa:Addr) (h:Heap),(K w.params).In h->h.Ns mainGlobals mg->mg d.name=some (.ref fa) ->
   ∃fd:FuncData,(∀(s:Shared) (u:Value),BindsTo s fd ⟨[u],[]⟩ [(x,u)]) /\
    ∀base:Heap,(K w.params).In base->base.Ns mainGlobals mg->ij l.prog w (K w.params) mg base (CX w) k fa fd [x] (sp w))
  (hsp:∀(w:World) (H:Hp) (a:Addr) (ns:List Int),ns.length≤n->pG H->SqL (K w.params) H a (ns.map V.int)->sp w [.ref a] H (fun v _=>v=.bl true) fun _ _ _=>False)
  (hCX:∀(w:World) (H:Hp) (s:Shared) (e:Value) (s':Shared),CX w [] H s (fun _ _ _=>False) e s'->False) :
  PySem.W.WalkO q loose XP YP l.row.toRowW d [] (fun f vs=>PySem.call f vs):=by
 refine Att.kB hn hdf fun w s₀ s₁ mg mb fa o pm cd doc a vs ns G Y ho hd hcd hmg hobj hints hlen hg=>?_;have KX:=hY w _ Y;obtain⟨fd,hb,hF⟩:=F w mg fa _ KX G.T.g hmg;exact su KX G.T.g G.T.b G.T.builtins G.T.nolimit hg hobj hints (GU hlen hn2) hr hF hb (fun H hO hS=>hsp w H a ns hlen hO hS) fun H e s'=>hCX w H s₁ e s'
theorem qU{l:PySem.W.OpenLaw}{K:Params->PySem.W.Frag}{sp:PySem.W.Frag->Sp}
  (hn:l.most=some n) (hn2:n≤sizeLine) (hdf:d.params.defaults=[]) (hr:cu k callerA)
  (hY:∀(w:World) (h:Heap),YP w h->(K w.params).In h)
  (F:∀(w:World) (mg:Str->Option Value) (fa:Addr) (h:Heap),(K w.params).In h->h.Ns mainGlobals mg->mg d.name=some (.ref fa) ->
   ∃fd:FuncData,(∀(s:Shared) (u:Value),BindsTo s fd ⟨[u],[]⟩ [(x,u)]) /\
    ∀base:Heap,(K w.params).In base->base.Ns mainGlobals mg->ij l.prog w (K w.params) mg base CX k fa fd [x] (sp (K w.params)))
  (hsp:∀(K:PySem.W.Frag) (H:Hp) (a:Addr) (ns:List Int),ns.length≤n->pG H->SqL K H a (ns.map V.int)->sp K [.ref a] H (fun v _=>v=.bl true) fun _ _ _=>False)
  (hCX:∀(H:Hp) (s:Shared) (e:Value) (s':Shared),CX [] H s (fun _ _ _=>False) e s'->False) :
  PySem.W.WalkO q loose XP YP l.row.toRowW d [] (fun f vs=>PySem.call f vs) :=
 oa (K:=K) (CX:=fun _=>CX) (sp:=fun w=>sp (K w.params)) hn hn2 hdf hr hY F (fun w H a ns h1 h2 h3=>hsp (K w.params) H a ns h1 h2 h3) fun _ H s e s'=>hCX H s e s'
end
section
def inClass(s:Stmt)(j:Nat):Stmt:=match s with
 | .ClassDef _ _ _ body _ _ _ _ _ _ _=>body.getD j (.Pass ⟨0,0,0,0⟩)
 | _=>.Pass ⟨0,0,0,0⟩
def gC(s:Stmt):Arguments:=match s with
 | .FunctionDef _ a _ _ _ _ _ _ _ _=>a
 | _=>{ posonlyargs:=[],args:=[],vararg:=none,kwonlyargs:=[],kw_defaults:=[],kwarg:=none,defaults:=[] }
def eI(s:Stmt):List Stmt:=match s with
 | .FunctionDef _ _ b _ _ _ _ _ _ _=>b
 | _=>[]
def aq(s:Stmt):Scope:=match s with
 | .FunctionDef _ _ _ _ _ _ sc _ _ _=>sc
 | _=>{ kind:=.function,names:=[],isGenerator:=false,isCoroutine:=false }
abbrev CX0:CXT:=fun _ _ _ _ _ _=>False
abbrev E0:XK:=fun _ _ _=>False
theorem tL:Passes CX0 X E0:=fun _ _ _ _ _ _ _ h=>h.elim
structure Fun (K:PySem.W.Frag) (x qual:Str) (st:Stmt) (f:Addr) (fd:FuncData):Prop where
 ex:∃(oc:Value) (od:Option Addr) (kV doc pm:Value) (an:Option Addr) (cdv ct:Value) (osl:Array (Option Value)),
  fd=PySem.W.fnOf x qual (gC st) (eI st) (aq st) .none kV doc pm an cdv ct/\K.lookup f=some ⟨oc,od,.func fd,osl⟩/\PySem.W.codeIn K cdv qual=true
 kp:PySem.W.keepIn K (.ref f)=true
section
variable {P:Program}{w:World}{K:PySem.W.Frag}{mg:Str->Option Value}{base:Heap}
theorem Fun.ok{st:Stmt}(F:Fun K x qual st f fd)(S:aD N ps (aq st))(len:∀vs H Q E,sp vs H Q E->vs.length=ps.length)
  (hbody:∀(cdv:Value) (A:Around) (outer:List Env) (s:Shared) (H:Hp) (vs:List V) (Q:VK) (E:XK),cu k (A.deeper (envOfC qual (aq st) s.heap.objs.size f cdv))->sp vs H Q E ->
   ∃t,PSs (lY CX0 P w K mg base N qual (aq st) f cdv A outer s H E).nox (eI st) t/\t { nx:=fun _ H'=>Q .non H',rt:=Q } (start N vs) H):ij P w K mg base CX0 (k+1) f fd ps sp:=by
 obtain⟨oc,od,kV,doc,pm,an,cdv,ct,osl,rfl,lk,hcd⟩:=F.ex;refine A2 lk hcd S len fun A outer s H vs Q E hr hsp=>?_;obtain⟨t,h,q⟩:=hbody cdv A outer s H vs Q E hr hsp;exact⟨t,h.nox,q⟩
theorem Fun.binds{st:Stmt}(F:Fun K x qual st f fd)
  (h:∀(kV doc pm:Value) (an:Option Addr) (cdv ct:Value) (us:List Value),us.length=ps.length->bindArgs (PySem.W.fnOf x qual (gC st) (eI st) (aq st) .none kV doc pm an cdv ct) ⟨us,[]⟩=pure (ps.zip us)):Binds K fd ps []:=by
 obtain⟨oc,od,kV,doc,pm,an,cdv,ct,osl,rfl,lk,hcd⟩:=F.ex;exact .all (h kV doc pm an cdv ct)
theorem zm{st:Stmt}{kV doc pm cdv ct:Value}(l:K.lookup f=some ⟨oc,od,.func (PySem.W.fnOf x qual (gC st) (eI st) (aq st) .none kV doc pm an cdv ct),osl⟩)
  (c:PySem.W.codeIn K cdv qual=true) (k:PySem.W.keepIn K (.ref f)=true):Fun K x qual st f (PySem.W.fnOf x qual (gC st) (eI st) (aq st) .none kV doc pm an cdv ct):=⟨⟨oc,od,kV,doc,pm,an,cdv,ct,osl,rfl,l,c⟩,k⟩
end
theorem bA(h:n≤1000):n<sizeLine:=Nat.lt_of_le_of_lt h (by decide)
section
variable {X:Cx}
theorem pv(i:Nat){x:Str}{pos:Pos}(hN:X.N[i]?=some x:=by rfl)(hv:Vis X.env.scope x:=by first | exact Or.inl rfl | exact Or.inr (Or.inl rfl) | exact Or.inr (Or.inr rfl))(hd:(x==("__debug__":Str))=false:=by decide)
  (hcd:(x==("__classdict__":Str))=false:=by decide):PE X (.Name x pos) (CO i):=xB hN hv hd hcd
end
theorem ix{A B:Prop}(h:B):if false=true then A else B:=by
 rw[Gp HA];exact h
theorem iB{A B:Prop}(h:A):if true=true then A else B:=by
 rw[Gq rfl];exact h
def FZ(H H':Hp):Prop:=∀b o,H b=some o->H' b=some o
end
end L2
set_option Elab.async false
namespace L2
section
variable {κ:Type}[DecidableEq κ]
end
section
variable {P:Program}{w:World}{H:Hp}{h:Heap}{a:Addr}
end
section
variable {X:Cx}{pins:List (Addr×Obj)}{σ:St}{H:Hp}{s:Shared}{a:Addr}{y v:V}{u r:Value}{o:Option V}{A:Around}{E:Value->Shared->Prop}
theorem Inv.big(I:Inv X pins σ H s):sysModules<s.heap.objs.size:=by
 have h:mainGlobals<s.heap.objs.size:=(I.mod.glob.keeps I.bk).lt;exact Nat.lt_trans (by decide) h
end
section
variable {X:Cx}{pins:List (Addr×Obj)}{σ:St}{H:Hp}{s:Shared}{a:Addr}{kvs:List (Key×V)}{k:Key}{u:Value}{A:Around}{E:Value->Shared->Prop}
end
section
variable {X:Cx}{o i e value:Expr}{pos pos' tpos:Pos}{td ty tv:TE}
end
section
variable {X:Cx}{pos:Pos}
end
end L2
set_option maxHeartbeats 4000000 -- own
namespace NM
open Sem (wp)
variable {prog:Program}{w:World}{A:Around}{E:Value->Shared->Prop}{s:Shared}
def b2(b:Bool):Int:=if b then 1 else 0
def nIs(k:Int)(v:Value):Bool:=match v with
 | .int i _=>i==k
 | .bool b=>b2 b==k
 | _=>false
theorem cS(h:nIs k v=true):(∃t,v=.int k t)∨∃b,v=.bool b/\b2 b=k:=by
 cases v with
 | int i t=>exact .inl ⟨t,by rw[show i=k from by simpa[nIs]using h]⟩
 | bool b=>exact .inr ⟨b,rfl,by simpa[nIs]using h⟩
 | _=>simp[nIs]at h
theorem oF(h:Q (hashInt (b2 b)) { s with toks:=s.toks+1 }) :
  wpAny (model prog w) A (pyHash (.bool b)) Q E s:=by
 have hT:s.TypeIs (.bool b) "bool":=rfl;have hr:=rawHash_range (b2 b);unfold pyHash;have hv:[Value.bool b].any Value.onHeap=false:=rfl;refine F1 ?_;rw[cRoomFor,Gp (by rw[hv];exact HA)];refine F5 ?_;refine F1 (Iz hT F.slot_bool_hash.lookup ?_);show wpAny _ _ (if (some (Value.builtin "int.__hash__")==some Value.none)=true then _ else _) Q E s;rw[Gp (by rw[beq_builtin_none];exact HA)];refine F1 (Iz hT F.slot_bool_hash.lookup ?_);show wpAny _ _ (callSpecialIfBoundUnlessNone? (.bool b) "__hash__" _ >>= _) Q E s;refine F1 (wpAny_callSpecialIfBoundUnlessNone?_slot hT F.slot_bool_hash
  (GV F.slot_bool_hash hT entry_int_hash
   (show wpAny _ _ (do ret (← mkInt (rawHash (b2 b)))) _ _ s from wpAny_ret_mkInt ?_) (args_int_hash _)))
 show wpAny _ _ (if (decide (-(2:Int) ^ 63≤rawHash (b2 b))&&decide (rawHash (b2 b)<2 ^ 63))=true then _ else _) Q E _;rw[Gq (by rw[GP hr.1,GP hr.2];rfl)];exact F5 h
def jz(prog:Program)(w:World):KeyKind prog w Int where
 is:=nIs
 hash:=hashInt
 inj:=fun v a b ha hb=>by
  rcases cS ha with⟨t,rfl⟩ |⟨c,rfl,e⟩
  ·simpa[nIs]using hb
  ·rw[←e];simpa[nIs]using hb
 byValue:=fun k v h=>by rcases cS h with⟨t,rfl⟩ |⟨b,rfl,_⟩<;>rfl
 pyHash:=fun hv h=>by
  rcases cS hv with⟨t,rfl⟩ |⟨b,rfl,e⟩
  ·exact wpAny_pyHash_int h
  ·subst e;exact oF h
 eqBool:=fun {A E s a b u v Q} hu hv h=>by
  rcases cS hu with⟨t,rfl⟩ |⟨c,rfl,e⟩
  ·rcases cS hv with⟨t',rfl⟩ |⟨d,rfl,f⟩
   ·exact wpAny_eqBool_int h
   ·subst f;exact PySem.SeqAt.EqAt.int_bool a t d prog w E Q h
  ·rcases cS hv with⟨t',rfl⟩ |⟨d,rfl,f⟩
   ·subst e;exact PySem.SeqAt.EqAt.bool_int c b t' prog w E Q h
   ·subst e;subst f;refine PySem.SeqAt.EqAt.bool_bool c d prog w E Q ?_;have:(c==d)=decide (b2 c=b2 d):=by cases c<;>cases d<;>decide
    rw[this];exact h
 «strs»:=fun k x t v h=>by simp[nIs]at h
end NM
namespace L2
variable {X:Cx}{pins:List (Addr×Obj)}{σ:St}{H:Hp}{s:Shared}
abbrev SdK:=Int×Bool
def skI(k:SdK):List Int:=[k.1,NM.b2 k.2]
theorem oe(h:skI a=skI b):a=b:=by
 obtain⟨x,p⟩:=a;obtain⟨y,q⟩:=b;unfold skI at h;simp only[HP,and_true]at h;obtain⟨rfl,h⟩:=h;cases p<;>cases q<;>first | rfl |(exact absurd h (by decide))
abbrev iR(P:Program)(w:World):=tupleKind (NM.jz P w)
def dY(P:Program)(w:World)(a:Addr)(ks:List SdK)(as:List Addr):Heap->Prop:=fun h=>(a==sysModules)=false/\∃o es ep,∃xs:List (List Int×Addr×Value),h.get? a=some o/\o.ExactDict/\o.data=.dict es ep/\es.toList=xs.map (entryOfKey (iR P w))/\xs.map (·.1)=ks.map skI/\xs.map (·.2.1)=as/\ks.Nodup
theorem dY.ok(n:dY P w a ks as h):bP P w H h a (.ext (dY P w a ks as)):=by
 refine⟨n,?_,?_⟩
 ·obtain⟨_,o,es,ep,xs,ho,_⟩:=n;exact⟨o,ho⟩
 ·rintro h1 h2 ⟨hb,o,es,ep,xs,ho,r⟩ k;exact⟨hb,o,es,ep,xs,k o ho,r⟩
def pV(K:PySem.W.Frag)(H:Hp)(k:SdK)(a:Addr):Prop:=SqT K H a [.int k.1,.bl k.2]
theorem qK(I:Inv X pins σ H s){k:SdK}{a:Addr}(hq:pV X.K H k a):(iR X.prog X.w).is s.heap (skI k) a:=by
 obtain⟨its,rv,p,_⟩:=I.tuple hq;have p':s.heap.IsTuple a its.toArray:=p;obtain⟨ot,hot,hct,nt,hdt⟩:=p';refine⟨ot,its.toArray,nt,hot,hct,hdt,?_⟩;show PySem.ItemsAre _ _ its;cases rv with
 | cons r1 r2 =>
  cases r2 with
  | cons r2 r3 =>
   cases r3;obtain⟨t,rfl⟩:=r1;cases r2;exact .cons (by simp[NM.jz,NM.nIs]) (.cons (by simp[NM.jz,NM.nIs]) .nil)
def k9(K:PySem.W.Frag)(H:Hp)(ks:List SdK)(as:List Addr):Prop:=Paired (pV K H) ks as
theorem zh(I:Inv X pins σ H s):∀{ks:List SdK} {as:List Addr} {xs:List (List Int×Addr×Value)},k9 X.K H ks as->xs.map (·.1)=ks.map skI->xs.map (·.2.1)=as->∀x∈xs,(iR X.prog X.w).is s.heap x.1 x.2.1:=by
 intro ks as xs
 induction xs generalizing ks as with
 | nil=>intro _ _ _ x hx;cases hx
 | cons y xs ih =>
  intro h e1 e2 x hx;cases h with
  | nil=>cases e2
  | cons h1 h2 =>
   simp only[Ge,HP]at e1 e2;rcases Gh.mp hx with rfl | hx
   ·rw[e1.1,e2.1];exact qK I h1
   ·exact ih h2 e1.2 e2.2 x hx
theorem tO{ks:List SdK}(h:ks.Nodup):(ks.map skI).Nodup:=by
 rw[GD,Hu];rw[GD]at h;exact h.imp fun n e=>n (oe e)
theorem mT(I:Inv X pins σ H s){d:Addr}{ks:List SdK}{as:List Addr}(hH:H d=some (.ext (dY X.prog X.w d ks as)))(hK:k9 X.K H ks as):(d==sysModules)=false/\ks.Nodup/\∃xs:List (List Int×Addr×Value),xs.map (·.1)=ks.map skI/\xs.map (·.2.1)=as/\s.heap.DictOfH (iR X.prog X.w) d xs:=by
 obtain⟨hN,_,_⟩:=(show bP X.prog X.w H s.heap d (.ext (dY X.prog X.w d ks as))from I.hok d _ hH);obtain⟨hb,o,es,ep,xs,ho,hc,hd,he,e1,e2,nd⟩:=hN;exact⟨hb,nd,xs,e1,e2,o,es,ep,ho,hc,hd,he,zh I hK e1 e2,by rw[e1];exact tO nd⟩
theorem wC{ks:List SdK}(e:xs.map (·.1)=ks.map skI):(atKey xs (skI k)).isSome=decide (k∈ks):=by
 have h:(atKey xs (skI k)).isSome=true↔skI k∈xs.map (·.1):=by
  unfold atKey;rw[Option.isSome_map,List.find?_isSome];constructor
  ·rintro⟨x,hx,q⟩;exact F4.mpr ⟨x,hx,of_decide_eq_true q⟩
  ·intro q;obtain⟨x,hx,e⟩:=F4.mp q;exact⟨x,hx,GP e⟩
 rw[HD,h,e,GI,F4];exact⟨fun y_=>by obtain⟨z,hz,q⟩:=y_;rw[←oe q];exact hz,fun q=>⟨k,q,rfl⟩⟩
def AF(P:Program)(w:World)(K:PySem.W.Frag):R2:=fun x y H Q=>∃a d k ks as,x=.ref a/\pV K H k a/\y=.ref d/\H d=some (.ext (dY P w d ks as))/\k9 K H ks as/\Q (.bl (decide (k∈ks))) H
theorem yG(hu:X.A.units+64<cLine):OpR X (compareOp .In) (AF X.prog X.w X.K):=by
 intro pins s σ H x y v u Q I rx ry h;obtain⟨a,d,k,ks,as,rfl,hk,rfl,hd,hK,q⟩:=h;cases rx;cases ry;obtain⟨hb,nd,xs,e1,e2,hm⟩:=mT I hd hK;refine wpAny_in_heap (xs:=xs) (k:=skI k) (knd:=iR X.prog X.w) (tupleKind_room_in1 (by omega)) (qK I hk) hb hm ?_;rw[wC e1];exact⟨.bl _,H,I.tok _,rfl,q⟩
def By(P:Program)(w:World)(K:PySem.W.Frag):V->V->V->Hp->(Hp->Prop)->Prop:=fun o i v H Q=>∃d ks as k a,o=.ref d/\i=.ref a/\H d=some (.ext (dY P w d ks as))/\k9 K H ks as/\pV K H k a/\ks.length<1000/\(k∈ks->Q (upd H d (.ext (dY P w d ks as))))/\(k∉ks->Q (upd H d (.ext (dY P w d (ks++[k]) (as++[a])))))
theorem rk{xs:List (List Int×Addr×Value)}:(xs.map (putAt k v)).map (·.1)=xs.map (·.1)/\(xs.map (putAt k v)).map (·.2.1)=xs.map (·.2.1):=by
 rw[GK,GK];constructor<;>refine List.map_congr_left fun x _=>?_<;>(unfold putAt;simp only[Function.comp];split<;>simp_all)
theorem zG(hu:X.A.units+64<cLine):hJ X (By X.prog X.w X.K):=by
 intro pins s σ H o i v ov iv u Q I ro ri rv h;obtain⟨d,ks,as,k,a,rfl,rfl,hH,hK,hk,hz,q1,q2⟩:=h;cases ro;cases ri;obtain⟨hb,nd,xs,e1,e2,hm⟩:=mT I hH hK;have lx:xs.length=ks.length:=by have:=congrArg List.length e1;simpa using this
 refine wpAny_setItem_heap (xs:=xs) (k:=skI k) (knd:=iR X.prog X.w) (tupleKind_room_in1 (by omega)) (qK I hk) hm (fun h' hm' hs'=>?_) (by rw[Hx];omega);have ia:=wC (k:=k) e1;obtain⟨o',es',ep',ho',hc',hd',he',_,nd'⟩:=hm';by_cases hm:k∈ks
 ·obtain⟨p,hp⟩:=Option.isSome_iff_exists.mp (ia.trans (GP hm));rw[storedH_old hp]at he';obtain⟨p1,p2⟩:=rk (xs:=xs) (k:=skI k) (v:=u);exact⟨_,I.write (x:=d) (e:=d) (o:=.ext (dY X.prog X.w d ks as)) (by rw[hH];exact trivial) (.inl rfl) (fun b u hb hu=>(hs'.2 b hb).trans hu) ⟨o',ho'⟩ (dY.ok ⟨hb,o',es',ep',_,ho',hc',hd',he',p1.trans e1,p2.trans e2,nd⟩),q1 hm⟩
 ·have hp:atKey xs (skI k)=none:=by
   rw[GR hm]at ia;exact Option.isSome_eq_false_iff.mp ia |> fun z=>by simpa using z
  rw[storedH_new hp]at he';refine⟨_,I.write (x:=d) (e:=d) (o:=.ext (dY X.prog X.w d (ks++[k]) (as++[a]))) (by rw[hH];exact trivial) (.inl rfl) (fun b u hb hu=>(hs'.2 b hb).trans hu) ⟨o',ho'⟩ (dY.ok ⟨hb,o',es',ep',_,ho',hc',hd',he',by simp[e1],by simp[e2],?_⟩),q2 hm⟩;exact Ig.mpr ⟨nd,by simp,fun x hx y hy e=>hm (by rw[Gk.mp hy]at e;rw[←e];exact hx)⟩
def w8(P:Program)(w:World):TE:=fun _ H Q=>∀p,H p=none->Q (.ref p) (upd H p (.ext (dY P w p [] [])))
theorem pK:PE X (.Dict [] [] pos) (w8 X.prog X.w):=fun pins s σ H Q I h =>
 wpAny_Dict_empty ⟨.ref s.heap.objs.size,_,I.laid (a:=s.heap.objs.size) (o:=.ext (dY X.prog X.w s.heap.objs.size [] [])) (t':=s.toks) (fun _ _ q=>F6 _ q) (F9 _) (dY.ok ⟨Ik.mpr (Ne.symm (Gv I.big)),_,#[],0,[],Gm _ rfl,⟨rfl,rfl,rfl⟩,rfl,rfl,rfl,rfl,List.nodup_nil⟩),rfl,h _ (I.hok.fresh (F9 _))⟩
end L2
namespace U
open L2
section
inductive PV where
 | non | bl (b:Bool) | int (i:Int) | str (x:Str) | ref (a:Addr) | tup (l:List PV) | fls (l:List PV) | oth (v:V)
def FzL(K:PySem.W.Frag)(H:Hp)(a:Addr)(xs:List V):Prop :=
 (∃o,H a=some (.frz o (.lst xs))) ∨
  ∃(o:Obj) (its:Array Value) (n:Nat),K.lookup a=some o/\o.cls=.type "list"/\o.dict=none/\o.data=.seq its n/\its.size≤sizeLine/\Vals xs its.toList
theorem FzL.sq{K:PySem.W.Frag}(h:FzL K H a xs):SqL K H a xs:=by
 rcases h with h | h
 ·exact .inl (.inr h)
 ·exact .inr h
structure Kp (H H1:Hp):Prop where
 t:∀a us,H a=some (.tup us)->H1 a=some (.tup us)
 z:∀a o u,H a=some (.frz o u)->H1 a=some (.frz o u)
theorem Kp.sqT{K:PySem.W.Frag}(k:Kp H H1){a:Addr}{us:List V}(h:SqT K H a us):SqT K H1 a us:=by
 rcases h with(h |⟨o,h⟩) | h
 ·exact .inl (.inl (k.t _ _ h))
 ·exact .inl (.inr ⟨o,k.z _ _ _ h⟩)
 ·exact .inr h
theorem Kp.fzL{K:PySem.W.Frag}(k:Kp H H1){a:Addr}{us:List V}(h:FzL K H a us):FzL K H1 a us:=by
 rcases h with⟨o,h⟩ | h
 ·exact .inl ⟨o,k.z _ _ _ h⟩
 ·exact .inr h
section
variable (K:PySem.W.Frag)
mutual
def RP(H:Hp):PV->V->Prop
 | .non,v=>v=.non
 | .bl b,v=>v=.bl b
 | .int i,v=>v=.int i
 | .str x,v=>v=.str x
 | .ref a,v=>v=.ref a
 | .oth w,v=>v=w
 | .tup l,v=>∃a us,v=.ref a/\SqT K H a us/\RPs H l us
 | .fls l,v=>∃a us,v=.ref a/\FzL K H a us/\RPs H l us
def RPs(H:Hp):List PV->List V->Prop
 | [],us=>us=[]
 | x::l,us=>∃u r,us=u::r/\RP H x u/\RPs H l r
end
mutual
theorem RP.kp{H H1:Hp}(k:Kp H H1):∀{x:PV} {v:V},RP K H x v->RP K H1 x v
 | .non,_,h=>h
 | .bl _,_,h=>h
 | .int _,_,h=>h
 | .str _,_,h=>h
 | .ref _,_,h=>h
 | .oth _,_,h=>h
 | .tup l,v,h=>by
  simp only[RP]at h ⊢;obtain⟨a,us,e,q,r⟩:=h;exact⟨a,us,e,k.sqT q,RPs.kp k r⟩
 | .fls l,v,h=>by
  simp only[RP]at h ⊢;obtain⟨a,us,e,q,r⟩:=h;exact⟨a,us,e,k.fzL q,RPs.kp k r⟩
theorem RPs.kp{H H1:Hp}(k:Kp H H1):∀{l:List PV} {us:List V},RPs K H l us->RPs K H1 l us
 | [],_,h=>h
 | x::l,us,h=>by
  simp only[RPs]at h ⊢;obtain⟨u,r,e,a,b⟩:=h;exact⟨u,r,e,RP.kp k a,RPs.kp k b⟩
end
theorem RPs.nil:RPs K H [] []:=by simp[RPs]
theorem RPs.cons{H:Hp}{x:PV}{l:List PV}{u:V}{us:List V}(a:RP K H x u)(b:RPs K H l us):RPs K H (x::l) (u::us):=by
 simp only[RPs];exact⟨u,us,rfl,a,b⟩
theorem RPs.length{H:Hp}:∀{l:List PV} {us:List V},RPs K H l us->us.length=l.length
 | [],us,h=>by simp only[RPs]at h;subst h;rfl
 | x::l,us,h=>by
  simp only[RPs]at h;obtain⟨u,r,rfl,_,b⟩:=h;simp[RPs.length b]
theorem RPs.get{H:Hp}:∀{l:List PV} {us:List V} {i:Nat} {x:PV},RPs K H l us->l[i]?=some x->∃u,us[i]?=some u/\RP K H x u
 | [],_,_,_,_,e=>by simp at e
 | y::l,us,i,x,h,e=>by
  simp only[RPs]at h;obtain⟨u,r,rfl,a,b⟩:=h;cases i with
  | zero=>simp at e;subst e;exact⟨u,by simp,a⟩
  | succ i=>obtain⟨w,e1,e2⟩:=RPs.get (i:=i) (x:=x) b (by simpa using e);exact⟨w,by simpa using e1,e2⟩
theorem RPs.append{H:Hp}:∀{l m:List PV} {us ws:List V},RPs K H l us->RPs K H m ws->RPs K H (l++m) (us++ws)
 | [],m,us,ws,h,g=>by simp only[RPs]at h;subst h;simpa using g
 | x::l,m,us,ws,h,g=>by
  simp only[RPs]at h;obtain⟨u,r,rfl,a,b⟩:=h;exact RPs.cons K a (RPs.append b g)
theorem RPs.take{H:Hp}:∀{l:List PV} {us:List V} (n:Nat),RPs K H l us->RPs K H (l.take n) (us.take n)
 | [],us,n,h=>by simp only[RPs]at h;subst h;simp[RPs]
 | x::l,us,0,h=>by simp[RPs]
 | x::l,us,n+1,h=>by
  simp only[RPs]at h;obtain⟨u,r,rfl,a,b⟩:=h;exact RPs.cons K a (RPs.take n b)
theorem RPs.drop{H:Hp}:∀{l:List PV} {us:List V} (n:Nat),RPs K H l us->RPs K H (l.drop n) (us.drop n)
 | [],us,n,h=>by simp only[RPs]at h;subst h;simp[RPs]
 | x::l,us,0,h=>h
 | x::l,us,n+1,h=>by
  simp only[RPs]at h;obtain⟨u,r,rfl,a,b⟩:=h;exact RPs.drop n b
theorem RPs.set{H:Hp}{x:PV}{u:V}(a:RP K H x u):∀{l:List PV} {us:List V} (n:Nat),RPs K H l us->RPs K H (l.set n x) (us.set n u)
 | [],us,n,h=>by simp only[RPs]at h;subst h;simp[RPs]
 | y::l,us,0,h=>by
  simp only[RPs]at h;obtain⟨w,r,rfl,_,b⟩:=h;exact RPs.cons K a b
 | y::l,us,n+1,h=>by
  simp only[RPs]at h;obtain⟨w,r,rfl,c,b⟩:=h;exact RPs.cons K c (RPs.set a n b)
theorem RPs.ints{H:Hp}:∀(ns:List Int),RPs K H (ns.map PV.int) (ns.map V.int)
 | []=>by simp[RPs]
 | n::ns=>RPs.cons K (by simp[RP]) (RPs.ints ns)
end
def C3(a C:Addr)(h:Heap):Prop:=∃o,h.get? a=some o/\o.cls=.ref C
inductive PO where
 | exc (C:Addr)
 | lst (l:List PV)
 | ins (C dx:Addr) (fs:List (Str×PV))
 | dK (kvs:List (Key×PV))
 | dT (kvs:List (List Key×PV))
 | dS (P:Program) (w:World) (ks:List SdK)
abbrev PHp:=Addr->Option PO
def put(H:PHp)(a:Addr)(o:PO):PHp:=fun b=>if b=a then some o else H b
theorem ah{H:PHp}{a:Addr}{o:PO}:put H a o a=some o:=by unfold put;rw[Gq rfl]
theorem ak{H:PHp}{a b:Addr}{o:PO}(h:b≠a):put H a o b=H b:=by unfold put;rw[Gp h]
theorem aE{H:PHp}{a:Addr}{o u:PO}:put (put H a o) a u=put H a u:=by
 funext b;unfold put;split<;>rfl
theorem ar{H:PHp}{a b:Addr}{o:PO}(h:H a=some o)(h':H b=none):a≠b:=by
 intro e;subst e;rw[h]at h';cases h'
abbrev eX(K:PySem.W.Frag)(H:Hp){κ:Type}:List (κ×PV)->List (κ×V)->Prop:=Paired fun p q=>p.1=q.1/\RP K H p.2 q.2
def sdP(k:SdK):PV:=.tup [.int k.1,.bl k.2]
def OAt(K:PySem.W.Frag)(H:Hp)(a:Addr):PO->Prop
 | .exc C=>H a=some (.ext (C3 a C))
 | .lst l=>∃us,H a=some (.lst us)/\RPs K H l us
 | .ins C dx fs=>∃gs,H a=some (.ins C dx gs)/\eX K H fs gs
 | .dK kvs=>∃ws,H a=some (.dK ws)/\eX K H kvs ws
 | .dT kvs=>∃ws,H a=some (.dT ws)/\eX K H kvs ws
 | .dS P w ks=>∃as:List Addr,H a=some (.ext (dY P w a ks as))/\RPs K H (ks.map sdP) (as.map V.ref)
abbrev HR(K:PySem.W.Frag)(H':PHp)(H:Hp):Prop:=∀a o,H' a=some o->OAt K H a o
abbrev St':=List (Option PV)
abbrev Bs:=PHp×Hp
def Ev(H':PHp)(H:Hp)(H1':PHp)(H1:Hp):Prop:=∀a o,H a=some o->H' a=none->H1 a=some o/\H1' a=none
structure SR (K:PySem.W.Frag) (B:Bs) (σ':St') (H':PHp) (σ:L2.St) (H:Hp):Prop where
 len:σ'.length=σ.length
 loc:∀(i:Nat) (v':PV),σ'[i]?=some (some v')->∃v,σ[i]?=some (some v)/\RP K H v' v
 hp:HR K H' H
 ev:Ev B.1 B.2 H' H
theorem Ev.refl(H':PHp)(H:Hp):Ev H' H H' H:=fun _ _ h h'=>⟨h,h'⟩
theorem Ev.trans{H':PHp}{H:Hp}{H1':PHp}{H1:Hp}{H2':PHp}{H2:Hp}(a:Ev H' H H1' H1)(b:Ev H1' H1 H2' H2):Ev H' H H2' H2:=fun c o h h'=>by
 obtain⟨p,q⟩:=a c o h h';exact b c o p q
section
variable {K:PySem.W.Frag}
theorem eX.kp{κ:Type}{H H1:Hp}(k:Kp H H1){fs:List (κ×PV)}{gs:List (κ×V)}(h:eX K H fs gs):eX K H1 fs gs:=Paired.mapP h fun _ _ ⟨a,b⟩=>⟨a,RP.kp K k b⟩
theorem OAt.some{H:Hp}{a:Addr}:∀{o:PO},OAt K H a o->∃u,H a=Option.some u/\(∀us,u≠.tup us)/\(∀o us,u≠.frz o us)/\(∀x,u≠.own x)
 | .exc C,e=>⟨_,e,(fun _=>by nofun),(fun _ _=>by nofun),(fun _=>by nofun)⟩
 | .lst l,⟨us,e,_⟩=>⟨_,e,(fun _=>by nofun),(fun _ _=>by nofun),(fun _=>by nofun)⟩
 | .ins C dx fs,⟨us,e,_⟩=>⟨_,e,(fun _=>by nofun),(fun _ _=>by nofun),(fun _=>by nofun)⟩
 | .dK l,⟨us,e,_⟩=>⟨_,e,(fun _=>by nofun),(fun _ _=>by nofun),(fun _=>by nofun)⟩
 | .dT l,⟨us,e,_⟩=>⟨_,e,(fun _=>by nofun),(fun _ _=>by nofun),(fun _=>by nofun)⟩
 | .dS P w ks,⟨us,e,_⟩=>⟨_,e,(fun _=>by nofun),(fun _ _=>by nofun),(fun _=>by nofun)⟩
theorem OAt.keep{H H1:Hp}{a:Addr}(k:Kp H H1)(e:H1 a=H a):∀{o:PO},OAt K H a o->OAt K H1 a o
 | .exc C,h=>e.trans h
 | .lst l,⟨us,h,r⟩=>⟨us,e.trans h,RPs.kp K k r⟩
 | .ins C dx fs,⟨us,h,r⟩=>⟨us,e.trans h,eX.kp k r⟩
 | .dK l,⟨us,h,r⟩=>⟨us,e.trans h,eX.kp k r⟩
 | .dT l,⟨us,h,r⟩=>⟨us,e.trans h,eX.kp k r⟩
 | .dS P w ks,⟨as,h,r⟩=>⟨as,e.trans h,RPs.kp K k r⟩
theorem HR.tup{H':PHp}{H:Hp}(h:HR K H' H){a:Addr}{us:List V}(e:H a=some (.tup us)):H' a=none:=by
 cases q:H' a with
 | none=>rfl
 | some o=>obtain⟨u,e1,n,_⟩:=(h a o q).some;rw[e]at e1;exact absurd (Gw e1).symm (n us)
theorem HR.frz{H':PHp}{H:Hp}(h:HR K H' H){a:Addr}{o:Obj}{u:HO}(e:H a=some (.frz o u)):H' a=none:=by
 cases q:H' a with
 | none=>rfl
 | some o'=>obtain⟨u',e1,_,n,_⟩:=(h a o' q).some;rw[e]at e1;exact absurd (Gw e1).symm (n o u)
theorem HR.free{H':PHp}{H:Hp}(h:HR K H' H){a:Addr}(e:H a=none):H' a=none:=by
 cases q:H' a with
 | none=>rfl
 | some o=>obtain⟨u,e1,_⟩:=(h a o q).some;rw[e]at e1;cases e1
theorem Ev.kp{H':PHp}{H:Hp}{H1':PHp}{H1:Hp}(e:Ev H' H H1' H1)(h:HR K H' H):Kp H H1 :=
 ⟨fun a us q=>(e a _ q (h.tup q)).1,fun a o u q=>(e a _ q (h.frz q)).1⟩
theorem fE{H:Hp}{p:Addr}{o:HO}(e:H p=none):Kp H (upd H p o) :=
 ⟨fun a us q=>by rw[aR (bf q e)];exact q,fun a o u q=>by rw[aR (bf q e)];exact q⟩
theorem k6{H:Hp}{p:Addr}{o u:HO}(e:H p=some u)(n1:∀us,u≠.tup us)(n2:∀o us,u≠.frz o us):Kp H (upd H p o) :=
 ⟨fun a us q=>by rw[aR (wL q e fun z=>n1 us z.symm)];exact q,fun a o' u' q=>by rw[aR (wL q e fun z=>n2 o' u' z.symm)];exact q⟩
theorem SR.kp{B:Bs}{σ':St'}{H' H1':PHp}{σ:L2.St}{H H1:Hp}(s:SR K B σ' H' σ H)(e:Ev H' H H1' H1)(h:HR K H1' H1):SR K B σ' H1' σ H1 :=
 ⟨s.len,fun i v' q=>by obtain⟨v,a,b⟩:=s.loc i v' q;exact⟨v,a,RP.kp K (e.kp s.hp) b⟩,h,s.ev.trans e⟩
theorem HR.hid{H':PHp}{H:Hp}{p:Addr}{o:HO}(h:HR K H' H)(e:H p=none):HR K H' (upd H p o):=fun a u q=>by
 have na:a≠p:=by rintro rfl;rw[h.free e]at q;cases q
 exact(h a u q).keep (fE e) (aR na)
theorem Ev.hid{H':PHp}{H:Hp}{p:Addr}{o:HO}(e:H p=none):Ev H' H H' (upd H p o):=fun a u q n=>⟨by rw[aR (bf q e)];exact q,n⟩
theorem HR.new{H':PHp}{H:Hp}{p:Addr}{o:HO}{o':PO}(h:HR K H' H)(e:H p=none)(new:OAt K (upd H p o) p o'):HR K (put H' p o') (upd H p o):=fun a u q=>by
 by_cases hp:a=p
 ·subst hp;rw[ah]at q;cases q;exact new
 ·rw[ak hp]at q;exact(h a u q).keep (fE e) (aR hp)
theorem Ev.new{H':PHp}{H:Hp}{p:Addr}{o:HO}{o':PO}(e:H p=none):Ev H' H (put H' p o') (upd H p o):=fun a u q n=>by
 have na:=bf q e;exact⟨by rw[aR na];exact q,by rw[ak na];exact n⟩
theorem HR.wr{H':PHp}{H:Hp}{p:Addr}{o:HO}{o' u':PO}(h:HR K H' H)(e:H' p=some u')(new:OAt K (upd H p o) p o'):HR K (put H' p o') (upd H p o):=fun a u q=>by
 obtain⟨v,e1,n1,n2,_⟩:=(h p u' e).some;by_cases hp:a=p
 ·subst hp;rw[ah]at q;cases q;exact new
 ·rw[ak hp]at q;exact(h a u q).keep (k6 e1 n1 n2) (aR hp)
theorem HR.kpw{H':PHp}{H:Hp}{p:Addr}{o:HO}{u':PO}(h:HR K H' H)(e:H' p=some u'):Kp H (upd H p o):=by
 obtain⟨v,e1,n1,n2,_⟩:=(h p u' e).some;exact k6 e1 n1 n2
theorem Ev.wr{H':PHp}{H:Hp}{p:Addr}{o:HO}{o' u':PO}(e:H' p=some u'):Ev H' H (put H' p o') (upd H p o):=fun a u q n=>by
 have na:a≠p:=by rintro rfl;rw[e]at n;cases n
 exact⟨by rw[aR na];exact q,by rw[ak na];exact n⟩
def Sub(A B:PHp):Prop:=∀a o,A a=some o->B a=some o
theorem Sub.refl(A:PHp):Sub A A:=fun _ _ h=>h
theorem Sub.trans{A B C:PHp}(a:Sub A B)(b:Sub B C):Sub A C:=fun c o h=>b c o (a c o h)
theorem Sub.put{A B:PHp}{p:Addr}{o:PO}(a:Sub A B)(n:A p=none):Sub A (put B p o):=fun c u h=>by rw[ak (ar h n)];exact a c u h
theorem Sub.free{A B:PHp}(a:Sub A B){p:Addr}(n:B p=none):A p=none:=by
 cases q:A p with
 | none=>rfl
 | some o=>rw[a p o q]at n;cases n
theorem HR.sub{A B:PHp}{H:Hp}(h:HR K B H)(s:Sub A B):HR K A H:=fun a o e=>h a o (s a o e)
theorem Ev.sub{H':PHp}{H:Hp}{A B:PHp}{H1:Hp}(e:Ev H' H B H1)(s:Sub A B):Ev H' H A H1:=fun a o q n=>by
 obtain⟨x,y⟩:=e a o q n;exact⟨x,s.free y⟩
end
end
section
variable {B:Bs}
abbrev VK':=PV->PHp->Prop
abbrev TE':=St'->PHp->VK'->Prop
abbrev TT':=St'->PHp->(Bool->PHp->Prop)->Prop
abbrev TA':=St'->PHp->(List PV->PHp->Prop)->Prop
abbrev XK':=Value->Option Addr->PHp->Prop
structure dO where
 nx:St'->PHp->Prop
 rt:VK'
 bk:St'->PHp->Prop:=fun _ _=>False
 ct:St'->PHp->Prop:=fun _ _=>False
abbrev TS':=dO->St'->PHp->Prop
abbrev TG':=PV->St'->PHp->(St'->PHp->Prop)->Prop
abbrev fX:=List PV->St'->PHp->(St'->PHp->Prop)->Prop
structure It' where
 items:List PV
 ok:PHp->Prop
abbrev TI':=St'->PHp->(It'->PHp->Prop)->Prop
section
variable (K:PySem.W.Frag)(B:Bs)
def low(t:TE'):TE:=fun σ H Q=>∃σ' H' Q',SR K B σ' H' σ H/\t σ' H' Q'/\∀v' H1' v H1,Q' v' H1'->RP K H1 v' v->SR K B σ' H1' σ H1->Ev H' H H1' H1->Q v H1
def iD(t:TT'):TT:=fun σ H Q=>∃σ' H' Q',SR K B σ' H' σ H/\t σ' H' Q'/\∀b H1' H1,Q' b H1'->SR K B σ' H1' σ H1->Ev H' H H1' H1->Q b H1
def qV(t:TA'):TA:=fun σ H Q=>∃σ' H' Q',SR K B σ' H' σ H/\t σ' H' Q'/\∀vs' H1' vs H1,Q' vs' H1'->RPs K H1 vs' vs->SR K B σ' H1' σ H1->Ev H' H H1' H1->Q vs H1
structure DR (D':dO) (D:Ends) (H':PHp) (H:Hp):Prop where
 nx:∀σ1' H1' σ1 H1,D'.nx σ1' H1'->SR K B σ1' H1' σ1 H1->Ev H' H H1' H1->D.nx σ1 H1
 rt:∀v' H1' v H1,D'.rt v' H1'->RP K H1 v' v->HR K H1' H1->Ev H' H H1' H1->D.rt v H1
 bk:∀σ1' H1' σ1 H1,D'.bk σ1' H1'->SR K B σ1' H1' σ1 H1->Ev H' H H1' H1->D.bk σ1 H1
 ct:∀σ1' H1' σ1 H1,D'.ct σ1' H1'->SR K B σ1' H1' σ1 H1->Ev H' H H1' H1->D.ct σ1 H1
theorem DR.ev{D':dO}{D:Ends}{H':PHp}{H:Hp}{H1':PHp}{H1:Hp}(d:DR K B D' D H' H)(e:Ev H' H H1' H1):DR K B D' D H1' H1 :=
 ⟨fun a b c f p q r=>d.nx a b c f p q (e.trans r),fun a b c f p q r s=>d.rt a b c f p q r (e.trans s),fun a b c f p q r=>d.bk a b c f p q (e.trans r),fun a b c f p q r=>d.ct a b c f p q (e.trans r)⟩
def zH(t:TS'):TS:=fun D σ H=>∃σ' H' D',SR K B σ' H' σ H/\t D' σ' H'/\DR K B D' D H' H
def lowG(t:TG'):TG:=fun v σ H Q=>∃v' σ' H' Q',RP K H v' v/\SR K B σ' H' σ H/\t v' σ' H' Q'/\∀σ1' H1' σ1 H1,Q' σ1' H1'->SR K B σ1' H1' σ1 H1->Ev H' H H1' H1->Q σ1 H1
def Br(t:fX):TGs:=fun vs σ H Q=>∃vs' σ' H' Q',RPs K H vs' vs/\SR K B σ' H' σ H/\t vs' σ' H' Q'/\∀σ1' H1' σ1 H1,Q' σ1' H1'->SR K B σ1' H1' σ1 H1->Ev H' H H1' H1->Q σ1 H1
structure Walks (H1:Hp) (J:It) (J':It'):Prop where
 go:∀H' H i,Kp H1 H->HR K H' H->J'.ok H'->i<J'.items.length->J.go i H
 yld:∀H' H i x H2,Kp H1 H->HR K H' H->J'.ok H'->J.yld i H x H2->H2=H/\∀x',J'.items[i]?=some x'->RP K H x' x
 stop:∀H' H i,Kp H1 H->HR K H' H->J'.ok H'->J'.items.length≤i->J.stop i H
def AE(t:TI'):TI:=fun σ H R=>∃σ' H' R',SR K B σ' H' σ H/\t σ' H' R'/\∀J' H1' J H1,R' J' H1'->Walks K H1 J J'->SR K B σ' H1' σ H1->Ev H' H H1' H1->R J H1
end
section
variable {X:Cx}
theorem aV{e:Expr}{t1 t2:TE}(h:PE X e t2)(i:∀σ H Q,t1 σ H Q->t2 σ H Q):PE X e t1:=fun pins s σ H Q I q=>h pins s σ H Q I (i σ H Q q)
theorem lX{e:Expr}{t1 t2:TT}(h:PT X e t2)(i:∀σ H Q,t1 σ H Q->t2 σ H Q):PT X e t1:=fun pins s σ H Q I q=>h pins s σ H Q I (i σ H Q q)
theorem sZ{e:Expr}{t1 t2:TT}(h:PW X e t2)(i:∀σ H Q,t1 σ H Q->t2 σ H Q):PW X e t1:=fun w pins s σ H Q I q=>h w pins s σ H Q I (i σ H Q q)
theorem qc{e:List Expr}{t1 t2:TA}(h:PA X e t2)(i:∀σ H Q,t1 σ H Q->t2 σ H Q):PA X e t1:=fun p pins s σ H Q I q=>h p pins s σ H Q I (i σ H Q q)
theorem cX{e:Stmt}{t1 t2:TS}(h:PS X e t2)(i:∀D σ H,t1 D σ H->t2 D σ H):PS X e t1:=fun pins s σ H D I q=>h pins s σ H D I (i D σ H q)
theorem nR{e:List Stmt}{t1 t2:TS}(h:PSs X e t2)(i:∀D σ H,t1 D σ H->t2 D σ H):PSs X e t1:=fun pins s σ H D I q=>h pins s σ H D I (i D σ H q)
theorem ie{e:Expr}{t1 t2:TG}(h:PG X e t2)(i:∀v σ H Q,t1 v σ H Q->t2 v σ H Q):PG X e t1:=fun pins s σ H v u Q I r q=>h pins s σ H v u Q I r (i v σ H Q q)
theorem m5{e:List Expr}{t1 t2:TGs}(h:PGs X e t2)(i:∀v σ H Q,t1 v σ H Q->t2 v σ H Q):PGs X e t1:=fun pins s σ H v u Q I r q=>h pins s σ H v u Q I r (i v σ H Q q)
theorem e9{tg e:Expr}{t1 t2:TI}(h:PI X tg e t2)(i:∀σ H Q,t1 σ H Q->t2 σ H Q):PI X tg e t1:=fun pins s σ H Q I q=>h pins s σ H Q I (i σ H Q q)
abbrev PE'(X:Cx)(B:Bs)(e:Expr)(t:TE'):Prop:=PE X e (low X.K B t)
abbrev PT'(X:Cx)(B:Bs)(e:Expr)(t:TT'):Prop:=PT X e (iD X.K B t)
abbrev PW'(X:Cx)(B:Bs)(e:Expr)(t:TT'):Prop:=PW X e (iD X.K B t)
abbrev PA'(X:Cx)(B:Bs)(e:List Expr)(t:TA'):Prop:=PA X e (qV X.K B t)
abbrev PS'(X:Cx)(B:Bs)(e:Stmt)(t:TS'):Prop:=PS X e (zH X.K B t)
abbrev h9(X:Cx)(B:Bs)(e:List Stmt)(t:TS'):Prop:=PSs X e (zH X.K B t)
abbrev PG'(X:Cx)(B:Bs)(e:Expr)(t:TG'):Prop:=PG X e (lowG X.K B t)
abbrev pO(X:Cx)(B:Bs)(e:List Expr)(t:fX):Prop:=PGs X e (Br X.K B t)
abbrev PI'(X:Cx)(B:Bs)(tg e:Expr)(t:TI'):Prop:=PI X tg e (AE X.K B t)
def lC(o:Option (Option PV))(k:PV->Prop):Prop:=match o with
 | some (some v)=>k v
 | _=>False
theorem lC.ex{o:Option (Option PV)}{k:PV->Prop}(h:lC o k):∃v,o=some (some v)/\k v:=by
 unfold lC at h;split at h
 ·exact⟨_,rfl,h⟩
 ·exact h.elim
def Ca(i:Nat):TE':=fun σ H Q=>lC σ[i]? fun v=>Q v H
def uC(v:PV):TE':=fun _ H Q=>Q v H
theorem qv(i:Nat){x:Str}{pos:Pos}(hN:X.N[i]?=some x:=by rfl)(hv:Vis X.env.scope x:=by first | exact Or.inl rfl | exact Or.inr (Or.inl rfl) | exact Or.inr (Or.inr rfl))(hd:(x==("__debug__":Str))=false:=by decide)
  (hcd:(x==("__classdict__":Str))=false:=by decide):PE' X B (.Name x pos) (Ca i):=aV (pv i hN hv hd hcd) fun σ H Q y_=>by
 obtain⟨σ',H',Q',s,h,k⟩:=y_;obtain⟨v',e,q⟩:=h.ex;obtain⟨v,a,b⟩:=s.loc i v' e;exact⟨v,a,k v' H' v H q b s (Ev.refl _ _)⟩
theorem ox{K:PySem.W.Frag}{v':PV}{v:V}(r:∀H,RP K H v' v){σ:L2.St}{H:Hp}{Q:VK}(h:low K B (uC v') σ H Q):tC v σ H Q:=by
 obtain⟨σ',H',Q',s,h,k⟩:=h;exact k v' H' v H h (r H) s (Ev.refl _ _)
theorem ae{i j pos}:PE' X B (.Constant (.int i) j pos) (uC (.int i)):=aV xK fun _ _ _ h=>ox (fun _=>by simp[RP]) h
theorem bb{i j pos}:PE' X B (.Constant (.bool i) j pos) (uC (.bl i)):=aV BO fun _ _ _ h=>ox (fun _=>by simp[RP]) h
theorem bT{i j pos}:PE' X B (.Constant (.str i) j pos) (uC (.str i)):=aV xk fun _ _ _ h=>ox (fun _=>by simp[RP]) h
theorem jv{j pos}:PE' X B (.Constant .none j pos) (uC .non):=aV xt fun _ _ _ h=>ox (fun _=>by simp[RP]) h
theorem vh{x:Str}{v':PV}{v:V}{u:Value}{pos:Pos}(hg:Gl X x)(hm:X.mg x=some u)(r:RelV v u)(r':∀H,RP X.K H v' v)(hd:(x==("__debug__":Str))=false:=by decide):PE' X B (.Name x pos) (uC v') :=
 aV (vM hg hm r hd) fun _ _ _ h=>ox r' h
abbrev R2':=PV->PV->PHp->VK'->Prop
def VR(K:PySem.W.Frag)(B:Bs)(r':R2')(r:R2):Prop:=∀(σ':St') (σ:L2.St) (H':PHp) (H:Hp) x' y' x y (Q':VK') (Q:VK),SR K B σ' H' σ H->RP K H x' x->RP K H y' y->r' x' y' H' Q' ->
 (∀v' H1' v H1,Q' v' H1'->RP K H1 v' v->SR K B σ' H1' σ H1->Ev H' H H1' H1->Q v H1)->r x y H Q
def uOp(r:R2')(ta tb:TE'):TE':=fun σ H Q=>ta σ H fun x H1=>tb σ H1 fun y H2=>r x y H2 Q
theorem jF{K:PySem.W.Frag}{r':R2'}{r:R2}{ta tb:TE'}(v:VR K B r' r){σ:L2.St}{H:Hp}{Q:VK}(h:low K B (uOp r' ta tb) σ H Q):tOp r (low K B ta) (low K B tb) σ H Q:=by
 obtain⟨σ',H',Q',s,h,k⟩:=h;refine⟨σ',H',_,s,h,fun x' H1' x H1 h1 rx s1 e1=>⟨σ',H1',_,s1,h1,fun y' H2' y H2 h2 ry s2 e2=>?_⟩⟩;exact v σ' σ H2' H2 x' y' x y Q' Q s2 (RP.kp K (e2.kp s1.hp) rx) ry h2 fun v' H3' v H3 q rv s3 e3=>k v' H3' v H3 q rv s3 (e1.trans (e2.trans e3))
variable {a b c:Expr}{ta tb tc:TE'}{pos:Pos}
theorem eW{op:Operator}{r':R2'}{r:R2}(ho:OpR X (binaryOp op) r)(v:VR X.K B r' r)(ha:PE' X B a ta)(hb:PE' X B b tb):PE' X B (.BinOp a op b pos) (uOp r' ta tb):=aV (AB ho ha hb) fun _ _ _ h=>jF v h
theorem ba{op:CmpOp}{r':R2'}{r:R2}(ho:OpR X (compareOp op) r)(v:VR X.K B r' r)(ha:PE' X B a ta)(hb:PE' X B b tb)(hm:behindInMarks op b=false):PE' X B (.Compare a [op] [b] pos) (uOp r' ta tb) :=
 aV (vi ho ha hb hm) fun _ _ _ h=>jF v h
def cif(b:Bool)(A B:Prop):Prop:=match b with
 | true=>A
 | false=>B
theorem BH{A B:Prop}:cif true A B=A:=rfl
theorem Bu{A B:Prop}:cif false A B=B:=rfl
theorem aI{b:Bool}{A B:Prop}(h1:b=true->A)(h2:b=false->B):cif b A B:=by
 cases b
 ·exact h2 rfl
 ·exact h1 rfl
theorem az{b:Bool}{A B:Prop}(h:b=true)(h1:A):cif b A B:=by subst h;exact h1
theorem aw{b:Bool}{A B:Prop}(h:b=false)(h1:B):cif b A B:=by subst h;exact h1
theorem ua{c:Prop}[Decidable c]{A B:Prop}(h1:c->A)(h2:¬c->B):cif (decide c) A B:=by
 by_cases h:c
 ·exact az (GP h) (h1 h)
 ·exact aw (GR h) (h2 h)
def dZ(x:PV)(k:Bool->Prop):Prop:=match x with
 | .bl b=>k b
 | _=>False
theorem dZ.ex{x:PV}{k:Bool->Prop}(h:dZ x k):∃v,x=.bl v/\k v:=by
 unfold dZ at h;split at h
 ·exact⟨_,rfl,h⟩
 ·exact h.elim
def cy(x:PV)(k:Int->Prop):Prop:=match x with
 | .int i=>k i
 | _=>False
theorem cy.ex{x:PV}{k:Int->Prop}(h:cy x k):∃v,x=.int v/\k v:=by
 unfold cy at h;split at h
 ·exact⟨_,rfl,h⟩
 ·exact h.elim
def iP(t:TE'):TT':=fun σ H Q=>t σ H fun x H1=>dZ x fun b=>Q b H1
theorem kj{K:PySem.W.Frag}{t:TE'}{σ:L2.St}{H:Hp}{Q:Bool->Hp->Prop}(h:iD K B (iP t) σ H Q):wj (low K B t) σ H Q:=by
 obtain⟨σ',H',Q',s,h,k⟩:=h;refine⟨σ',H',_,s,h,fun x' H1' x H1 h1 rx s1 e1=>?_⟩;obtain⟨b,rfl,q⟩:=h1.ex;simp only[RP]at rx;exact⟨b,rx,k b H1' H1 q s1 e1⟩
theorem aQ{e:Expr}{t:TE'}(h:PE' X B e t)(he:∀whole,isTrue e X.env whole=(do let v←whole;standAt e.pos;holding [v] (truthy v)):=by intro _;rfl):PT' X B e (iP t):=lX (yr h he) fun _ _ _ h=>kj h
theorem qZ{op:CmpOp}{r':R2'}{r:R2}(ho:OpR X (compareOp op) r)(v:VR X.K B r' r)(ha:PE' X B a ta)(hb:PE' X B b tb)(hm:behindInMarks op b=false):PT' X B (.Compare a [op] [b] pos) (iP (uOp r' ta tb)) :=
 lX (vo ho ha hb hm) fun _ _ _ h=>by
  obtain⟨σ',H',Q',s,h,k⟩:=kj h;exact jF v ⟨σ',H',Q',s,h,k⟩
def mw(r r':R2')(ta tb tc:TE'):TE':=fun σ H Q=>ta σ H fun x H1=>tb σ H1 fun y H2=>r x y H2 fun z H3=>dZ z fun k=>cif k (tc σ H3 fun w' H4=>r' y w' H4 Q) (Q (.bl false) H3)
theorem px{K:PySem.W.Frag}{r1' r2':R2'}{r1 r2:R2}{ta tb tc:TE'}(v1:VR K B r1' r1)(v2:VR K B r2' r2){σ:L2.St}{H:Hp}{Q:VK}(h:low K B (mw r1' r2' ta tb tc) σ H Q):tJ r1 r2 (low K B ta) (low K B tb) (low K B tc) σ H Q:=by
 obtain⟨σ',H',Q',s,h,k⟩:=h;refine⟨σ',H',_,s,h,fun x' H1' x H1 h1 rx s1 e1=>⟨σ',H1',_,s1,h1,fun y' H2' y H2 h2 ry s2 e2=>?_⟩⟩;refine v1 σ' σ H2' H2 x' y' x y _ _ s2 (RP.kp K (e2.kp s1.hp) rx) ry h2 fun z' H3' z H3 q rz s3 e3=>?_;obtain⟨b,rfl,q⟩:=q.ex;simp only[RP]at rz;refine⟨b,rz,?_⟩;cases b with
 | false =>
  have q':Q' (.bl false) H3':=q;exact ix (k _ H3' _ H3 q' (by simp[RP]) s3 (e1.trans (e2.trans e3)))
 | true =>
  have q':tc σ' H3' fun w' H4=>r2' y' w' H4 Q':=q;refine iB ⟨σ',H3',_,s3,q',fun w' H4' w H4 h4 rw4 s4 e4=>?_⟩;exact v2 σ' σ H4' H4 y' w' y w Q' Q s4 (RP.kp K (e4.kp s3.hp) (RP.kp K (e3.kp s2.hp) ry)) rw4 h4 fun v' H5' v H5 q5 rv s5 e5=>k v' H5' v H5 q5 rv s5 (e1.trans (e2.trans (e3.trans (e4.trans e5))))
theorem pZ{op op':CmpOp}{r1' r2':R2'}{r1 r2:R2}(ho:OpR X (compareOp op) r1)(v1:VR X.K B r1' r1)(ho':OpR X (compareOp op') r2)(v2:VR X.K B r2' r2)(ha:PE' X B a ta)(hb:PE' X B b tb)(hc:PE' X B c tc)
  (hm:lastMarks [op,op'] [b,c]=false:=by with_unfolding_all rfl):PE' X B (.Compare a [op,op'] [b,c] pos) (mw r1' r2' ta tb tc):=aV (ra ho ho' ha hb hc hm) fun _ _ _ h=>px v1 v2 h
def uI(C:Int->Int->Prop)(g:Int->Int->PV):R2':=fun x y H Q=>cy x fun i=>cy y fun j=>C i j/\Q (g i j) H
def uI0(g:Int->Int->PV):R2':=fun x y H Q=>cy x fun i=>cy y fun j=>Q (g i j) H
theorem pP{K:PySem.W.Frag}{C:Int->Int->Prop}{g':Int->Int->PV}{g:Int->Int->V}(r:∀i j H,RP K H (g' i j) (g i j)):VR K B (uI C g') (rI C g):=by
 intro σ' σ H' H x' y' x y Q' Q s rx ry h k;obtain⟨i,rfl,h1⟩:=cy.ex h;obtain⟨j,rfl,hc,h⟩:=cy.ex h1;simp only[RP]at rx ry;exact⟨i,j,rx,ry,hc,k _ H' _ H h (r i j H) s (Ev.refl _ _)⟩
theorem gj{K:PySem.W.Frag}{g':Int->Int->PV}{g:Int->Int->V}(r:∀i j H,RP K H (g' i j) (g i j)):VR K B (uI0 g') (rI0 g):=by
 intro σ' σ H' H x' y' x y Q' Q s rx ry h k;obtain⟨i,rfl,h1⟩:=cy.ex h;obtain⟨j,rfl,h⟩:=cy.ex h1;simp only[RP]at rx ry;exact⟨i,j,rx,ry,k _ H' _ H h (r i j H) s (Ev.refl _ _)⟩
abbrev DD:R2':=uI0 fun i j=>.int (i+j)
abbrev FF:R2':=uI0 fun i j=>.int (i - j)
abbrev uLt:R2':=uI0 fun i j=>.bl (decide (i<j))
abbrev uLe:R2':=uI0 fun i j=>.bl (decide (i≤j))
abbrev uGt:R2':=uI0 fun i j=>.bl (decide (j<i))
abbrev uGe:R2':=uI0 fun i j=>.bl (decide (j≤i))
def Fit(i:Int):Prop:=i.natAbs.log2<9000
def j9(i j:Int):Prop:=yo i j∨(Fit i/\Fit j)
def tE(i j:Int):Prop:=j≠0/\Fit j
theorem j9.ok{i j:Int}(h:j9 i j):IntMulOk i j:=by
 rcases h with h |⟨h1,h2⟩
 ·exact h.ok
 ·unfold IntMulOk;have e:∀x:Int,Fit x->Builtin.Int.intBits x≤9000:=fun x hx=>by
   unfold Builtin.Int.intBits Fit at *;split<;>omega
  have e1:=e i h1;have e2:=e j h2;have e3:Builtin.Int.intTooBig (Builtin.Int.intBits i+Builtin.Int.intBits j)=false:=by
   unfold Builtin.Int.intTooBig;refine GR ?_;show ¬(bitsLine:Int)<_;have hb:(18000:Nat)≤bitsLine:=by decide +kernel
   omega
  rw[e3];simp
abbrev Fl:R2':=uI j9 fun i j=>.int (i*j)
abbrev Bk:R2':=uI tE fun i j=>.int (i.fdiv j)
theorem ux{X:Cx}:OpR X (binaryOp .Mult) (rI j9 fun i j=>.int (i*j)):=opI fun _ _ _ _ _ _ _ hc q=>mul_int q hc.ok
theorem rD{X:Cx}:OpR X (binaryOp .FloorDiv) (rI tE fun i j=>.int (i.fdiv j)):=opI fun _ _ _ _ _ _ _ hc q=>floordiv_int hc.1 q (.inl (PyProof.noPylong_of_log2 hc.2))
abbrev CU:R2':=uI (fun _ j=>j≠0) fun i j=>.int (i.fmod j)
abbrev FU:R2':=uI tV fun i j=>.int (i ^ j.toNat)
theorem bE(ha:PE' X B a ta)(hb:PE' X B b tb):PE' X B (.BinOp a .Add b pos) (uOp DD ta tb):=eW xw (gj fun _ _ _=>by simp[RP]) ha hb
theorem jq(ha:PE' X B a ta)(hb:PE' X B b tb):PE' X B (.BinOp a .Sub b pos) (uOp FF ta tb):=eW xY (gj fun _ _ _=>by simp[RP]) ha hb
theorem fT(ha:PE' X B a ta)(hb:PE' X B b tb):PE' X B (.BinOp a .Mult b pos) (uOp Fl ta tb):=eW ux (pP fun _ _ _=>by simp[RP]) ha hb
theorem a9(ha:PE' X B a ta)(hb:PE' X B b tb):PE' X B (.BinOp a .FloorDiv b pos) (uOp Bk ta tb):=eW rD (pP fun _ _ _=>by simp[RP]) ha hb
theorem aL(ha:PE' X B a ta)(hb:PE' X B b tb):PE' X B (.BinOp a .Mod b pos) (uOp CU ta tb):=eW u9 (pP fun _ _ _=>by simp[RP]) ha hb
theorem ju(ha:PE' X B a ta)(hb:PE' X B b tb):PE' X B (.BinOp a .Pow b pos) (uOp FU ta tb):=eW yS (pP fun _ _ _=>by simp[RP]) ha hb
theorem fB{K:PySem.W.Frag}:VR K B uLt (rI0 fun i j=>.bl (decide (i<j))):=gj fun _ _ _=>by simp[RP]
theorem qD{K:PySem.W.Frag}:VR K B uLe (rI0 fun i j=>.bl (decide (i≤j))):=gj fun _ _ _=>by simp[RP]
theorem i4{K:PySem.W.Frag}:VR K B uGt (rI0 fun i j=>.bl (decide (j<i))):=gj fun _ _ _=>by simp[RP]
theorem m9{K:PySem.W.Frag}:VR K B uGe (rI0 fun i j=>.bl (decide (j≤i))):=gj fun _ _ _=>by simp[RP]
end
end
section
variable {B:Bs}
section
variable {X:Cx}{a b c e o:Expr}{es rest:List Expr}{ta tb tc:TE'}{tA tB:TT'}{t:TA'}{pos:Pos}
def CG(t u:TT'):TT':=fun σ H Q=>t σ H fun c H1=>cif c (u σ H1 Q) (Q false H1)
def uOr(t u:TT'):TT':=fun σ H Q=>t σ H fun c H1=>cif c (Q true H1) (u σ H1 Q)
def AL(t:TT'):TT':=fun σ H Q=>t σ H fun c H1=>Q (!c) H1
theorem eF(ha:PT' X B a tA):PW' X B (.BoolOp .And [a] pos) tA:=uu ha
theorem bB(ha:PT' X B a tA):PW' X B (.BoolOp .Or [a] pos) tA:=yt ha
theorem fS(ha:PT' X B a tA)(hb:PW' X B (.BoolOp .And (b::rest) pos) tB):PW' X B (.BoolOp .And (a::b::rest) pos) (CG tA tB):=sZ (yL ha hb) fun σ H Q y_=>by
 obtain⟨σ',H',Q',s,h,k⟩:=y_;refine⟨σ',H',_,s,h,fun x H1' H1 h1 s1 e1=>?_⟩;cases x with
 | true=>exact iB ⟨σ',H1',_,s1,h1,fun y H2' H2 h2 s2 e2=>k y H2' H2 h2 s2 (e1.trans e2)⟩
 | false=>exact ix (k false H1' H1 h1 s1 e1)
theorem bx(ha:PT' X B a tA)(hb:PW' X B (.BoolOp .Or (b::rest) pos) tB):PW' X B (.BoolOp .Or (a::b::rest) pos) (uOr tA tB):=sZ (Cq ha hb) fun σ H Q y_=>by
 obtain⟨σ',H',Q',s,h,k⟩:=y_;refine⟨σ',H',_,s,h,fun x H1' H1 h1 s1 e1=>?_⟩;cases x with
 | false=>exact ix ⟨σ',H1',_,s1,h1,fun y H2' H2 h2 s2 e2=>k y H2' H2 h2 s2 (e1.trans e2)⟩
 | true=>exact iB (k true H1' H1 h1 s1 e1)
theorem aP(h:PW' X B e tA):PT' X B e tA:=PW.pt h
theorem bC(ha:PT' X B a tA):PT' X B (.UnaryOp .Not a pos) (AL tA):=lX (za ha) fun σ H Q ⟨σ',H',Q',s,h,k⟩=>⟨σ',H',_,s,h,fun x H1' H1 h1 s1 e1=>k _ H1' H1 h1 s1 e1⟩
def vV(ta tb:TE'):TE':=fun σ H Q=>ta σ H fun x H1=>dZ x fun c=>cif c (tb σ H1 Q) (Q (.bl false) H1)
def CS(ta tb:TE'):TE':=fun σ H Q=>ta σ H fun x H1=>dZ x fun c=>cif c (Q (.bl true) H1) (tb σ H1 Q)
def wM(ta:TE'):TE':=fun σ H Q=>ta σ H fun x H1=>dZ x fun c=>Q (.bl (!c)) H1
theorem cB{op}(h:PE' X B a ta):PE' X B (.BoolOp op [a] pos) ta:=yb h
theorem cD(ha:PE' X B a ta)(hb:PE' X B (.BoolOp .And (b::rest) pos) tb):PE' X B (.BoolOp .And (a::b::rest) pos) (vV ta tb):=aV (y8 ha hb) fun σ H Q y_=>by
 obtain⟨σ',H',Q',s,h,k⟩:=y_;refine⟨σ',H',_,s,h,fun x H1' v H1 h1 r1 s1 e1=>?_⟩;obtain⟨y,rfl,h1⟩:=h1.ex;simp only[RP]at r1;refine⟨y,r1,?_⟩;cases y with
 | true=>exact iB ⟨σ',H1',_,s1,h1,fun y H2' v2 H2 h2 r2 s2 e2=>k y H2' v2 H2 h2 r2 s2 (e1.trans e2)⟩
 | false=>exact ix (k _ H1' _ H1 h1 (by simp[RP]) s1 e1)
theorem Aq(ha:PE' X B a ta)(hb:PE' X B (.BoolOp .Or (b::rest) pos) tb):PE' X B (.BoolOp .Or (a::b::rest) pos) (CS ta tb):=aV (CP ha hb) fun σ H Q y_=>by
 obtain⟨σ',H',Q',s,h,k⟩:=y_;refine⟨σ',H',_,s,h,fun x H1' v H1 h1 r1 s1 e1=>?_⟩;obtain⟨y,rfl,h1⟩:=h1.ex;simp only[RP]at r1;refine⟨y,r1,?_⟩;cases y with
 | false=>exact ix ⟨σ',H1',_,s1,h1,fun y H2' v2 H2 h2 r2 s2 e2=>k y H2' v2 H2 h2 r2 s2 (e1.trans e2)⟩
 | true=>exact iB (k _ H1' _ H1 h1 (by simp[RP]) s1 e1)
theorem sL(ha:PE' X B a ta):PE' X B (.UnaryOp .Not a pos) (wM ta):=aV (zo ha) fun σ H Q y_=>by
 obtain⟨σ',H',Q',s,h,k⟩:=y_;refine⟨σ',H',_,s,h,fun x H1' v H1 h1 r1 s1 e1=>?_⟩;obtain⟨y,rfl,h1⟩:=h1.ex;simp only[RP]at r1;exact⟨y,r1,k _ H1' _ H1 h1 (by simp[RP]) s1 e1⟩
def uIf(t:TT')(ta tb:TE'):TE':=fun σ H Q=>t σ H fun c H1=>cif c (ta σ H1 Q) (tb σ H1 Q)
def uUn(r:PV->PHp->VK'->Prop)(ta:TE'):TE':=fun σ H Q=>ta σ H fun x H1=>r x H1 Q
theorem bO(ha:PE' X B a ta):PE' X B (.UnaryOp .USub a pos) (uUn (fun x H Q=>cy x fun i=>Q (.int (-i)) H) ta):=aV (Ay yM ha) fun σ H Q y_=>by
 obtain⟨σ',H',Q',s,h,k⟩:=y_;refine⟨σ',H',_,s,h,fun x H1' v H1 h1 r1 s1 e1=>?_⟩;obtain⟨i,rfl,h1⟩:=cy.ex h1;simp only[RP]at r1;exact⟨i,r1,k _ H1' _ H1 h1 (by simp[RP]) s1 e1⟩
def Ag:TA':=fun _ H Q=>Q [] H
def v8(ta:TE')(tr:TA'):TA':=fun σ H Q=>ta σ H fun x H1=>tr σ H1 fun xs H2=>Q (x::xs) H2
theorem ag:PA' X B [] Ag:=qc dw fun σ H Q ⟨σ',H',Q',s,h,k⟩=>k [] H' [] H h (RPs.nil _) s (Ev.refl _ _)
theorem aa(ha:PE' X B e ta)(hr:PA' X B es t)(hs:starEach (e::es) X.env=(false,eval e X.env)::starEach es X.env:=by rfl):PA' X B (e::es) (v8 ta t):=qc (cP ha hr hs) fun σ H Q y_=>by
 obtain⟨σ',H',Q',s,h,k⟩:=y_;refine⟨σ',H',_,s,h,fun x H1' v H1 h1 r1 s1 e1=>⟨σ',H1',_,s1,h1,fun xs H2' vs H2 h2 r2 s2 e2=>?_⟩⟩;exact k _ H2' _ H2 h2 (RPs.cons _ (RP.kp _ (e2.kp s1.hp) r1) r2) s2 (e1.trans e2)
def AN(t:TA'):TE':=fun σ H Q=>t σ H fun xs H1=>xs.length≤sizeLine/\Q (.tup xs) H1
def Au(t:TA'):TE':=fun σ H Q=>t σ H fun xs H1=>xs.length≤sizeLine/\∀p,H1 p=none->Q (.ref p) (put H1 p (.lst xs))
theorem SR.hid{K:PySem.W.Frag}{σ':St'}{σ:L2.St}{H':PHp}{H:Hp}{p:Addr}{o:HO}(s:SR K B σ' H' σ H)(n:H p=none):SR K B σ' H' σ (upd H p o):=s.kp (Ev.hid n) (s.hp.hid n)
theorem SR.new{K:PySem.W.Frag}{σ':St'}{σ:L2.St}{H':PHp}{H:Hp}{p:Addr}{o:HO}{o':PO}(s:SR K B σ' H' σ H)(n:H p=none)(w:OAt K (upd H p o) p o'):SR K B σ' (put H' p o') σ (upd H p o):=s.kp (Ev.new n) (s.hp.new n w)
theorem SR.wr{K:PySem.W.Frag}{σ':St'}{σ:L2.St}{H':PHp}{H:Hp}{p:Addr}{o:HO}{o' u':PO}(s:SR K B σ' H' σ H)(n:H' p=some u')(w:OAt K (upd H p o) p o'):SR K B σ' (put H' p o') σ (upd H p o):=s.kp (Ev.wr n) (s.hp.wr n w)
theorem qA{K:PySem.W.Frag}{H:Hp}{p:Addr}{xs:List PV}{us:List V}(n:H p=none)(r:RPs K H xs us):RP K (upd H p (.tup us)) (.tup xs) (.ref p):=by
 simp only[RP];exact⟨p,us,rfl,SqT.of bh,RPs.kp K (fE n) r⟩
theorem kO{K:PySem.W.Frag}{H:Hp}{p:Addr}{xs:List PV}{us:List V}(n:H p=none)(r:RPs K H xs us):OAt K (upd H p (.lst us)) p (.lst xs):=⟨us,bh,RPs.kp K (fE n) r⟩
theorem wrL{K:PySem.W.Frag}{H':PHp}{H:Hp}{p:Addr}{u':PO}{xs:List PV}{us:List V}(h:HR K H' H)(n:H' p=some u')(r:RPs K H xs us):OAt K (upd H p (.lst us)) p (.lst xs):=⟨us,bh,RPs.kp K (h.kpw n) r⟩
theorem bg{x1}(h:PA' X B es t):PE' X B (.Tuple es x1 pos) (AN t):=aV (xj h) fun σ H Q y_=>by
 obtain⟨σ',H',Q',s,h,k⟩:=y_;refine⟨σ',H',_,s,h,fun xs H1' us H1 h1 r1 s1 e1=>⟨by rw[RPs.length _ r1];exact h1.1,fun p n=>?_⟩⟩;exact k _ H1' _ _ h1.2 (qA n r1) (s1.hid n) (e1.trans (Ev.hid n))
theorem bu(h:PA' X B es t):PE' X B (.List es pos) (Au t):=aV (yn h) fun σ H Q y_=>by
 obtain⟨σ',H',Q',s,h,k⟩:=y_;refine⟨σ',H',_,s,h,fun xs H1' us H1 h1 r1 s1 e1=>⟨by rw[RPs.length _ r1];exact h1.1,fun p n=>?_⟩⟩;exact k _ _ _ _ (h1.2 p (s1.hp.free n)) (by simp[RP]) (s1.new n (kO n r1)) (e1.trans (Ev.new n))
def cL(x:PV)(H:PHp)(k:List PV->Prop):Prop:=match x with
 | .tup l=>k l
 | .fls l=>k l
 | .ref a=>∃l,H a=some (.lst l)/\k l
 | _=>False
theorem cL.ex{K:PySem.W.Frag}{σ':St'}{σ:L2.St}{x:PV}{v:V}{H':PHp}{H:Hp}{k:List PV->Prop}(h:cL x H' k)(s:SR K B σ' H' σ H)(r:RP K H x v):∃l us p,v=.ref p/\RPs K H l us/\(SqL K H p us∨SqT K H p us)/\k l:=by
 unfold cL at h;split at h
 ·simp only[RP]at r;obtain⟨a,us,e,q,r⟩:=r;exact⟨_,us,a,e,r,.inr q,h⟩
 ·simp only[RP]at r;obtain⟨a,us,e,q,r⟩:=r;exact⟨_,us,a,e,r,.inl q.sq,h⟩
 ·simp only[RP]at r;obtain⟨l,e,h⟩:=h;obtain⟨us,q,r2⟩:=s.hp _ _ e;exact⟨l,us,_,r,r2,.inl (SqL.of q),h⟩
 ·exact h.elim
theorem xC{K:PySem.W.Frag}{H:Hp}{l:List PV}{us:List V}{i:Int}{x:PV}(r:RPs K H l us)(e:atI l i=some x):∃u,atI us i=some u/\RP K H x u:=by
 unfold atI at e ⊢;rw[RPs.length _ r];cases q:ixN l.length i with
 | none=>rw[q]at e;cases e
 | some j =>
  rw[q]at e;obtain⟨u,e1,e2⟩:=RPs.get _ r (show l[j]?=some x from e);exact⟨u,e1,e2⟩
def h7(o:Option PV)(k:PV->Prop):Prop:=match o with
 | some v=>k v
 | none=>False
theorem h7.ex{o:Option PV}{k:PV->Prop}(h:h7 o k):∃v,o=some v/\k v:=by
 unfold h7 at h;split at h
 ·exact⟨_,rfl,h⟩
 ·exact h.elim
def uIx:R2':=fun x y H Q=>cL x H fun l=>cy y fun i=>h7 (atI l i) fun v=>Q v H
theorem tW{X:Cx}:IxR X (fun x y H Q=>zg X.K x y H Q∨x8 X.K x y H Q):=tT.or zx
theorem BB{K:PySem.W.Frag}:VR K B uIx (fun x y H Q=>zg K x y H Q∨x8 K x y H Q):=by
 intro σ' σ H' H x' y' x y Q' Q s rx ry h k;obtain⟨l,us,p,rfl,r,q,h1⟩:=cL.ex h s rx;obtain⟨i,rfl,h2⟩:=cy.ex h1;obtain⟨v,e,h3⟩:=h7.ex h2;simp only[RP]at ry;obtain⟨u,e1,e2⟩:=xC r e;have:=k v H' u H h3 e2 s (Ev.refl _ _);rcases q with q | q
 ·exact .inl ⟨p,us,i,u,rfl,ry,q,e1,this⟩
 ·exact .inr ⟨p,us,i,u,rfl,ry,q,e1,this⟩
theorem Ah(ha:PE' X B a ta)(hb:PE' X B b tb)(hs:jV b):PE' X B (.Subscript a b pos) (uOp uIx ta tb):=aV (Cp tW ha hb hs) fun _ _ _ h=>jF BB h
abbrev TO':=St'->PHp->(Option Int->PHp->Prop)->Prop
def Fo(K:PySem.W.Frag)(B:Bs)(t:TO'):TO:=fun σ H Q=>∃σ' H' Q',SR K B σ' H' σ H/\t σ' H' Q'/\∀b H1' H1,Q' b H1'->SR K B σ' H1' σ H1->Ev H' H H1' H1->Q b H1
abbrev PO'(X:Cx)(B:Bs)(e:Option Expr)(t:TO'):Prop:=L2.PO X e (Fo X.K B t)
theorem rX{e:Option Expr}{t1 t2:TO}(h:L2.PO X e t2)(i:∀σ H Q,t1 σ H Q->t2 σ H Q):L2.PO X e t1:=fun pins s σ H Q I q=>h pins s σ H Q I (i σ H Q q)
def nK:TO':=fun _ H Q=>Q none H
def wc(t:TE'):TO':=fun σ H Q=>t σ H fun x H1=>cy x fun i=>Q (some i) H1
theorem aT:PO' X B none nK:=rX vN fun σ H Q ⟨σ',H',Q',s,h,k⟩=>k none H' H h s (Ev.refl _ _)
theorem aU(h:PE' X B e ta):PO' X B (some e) (wc ta):=rX (uq h) fun σ H Q y_=>by
 obtain⟨σ',H',Q',s,h,k⟩:=y_;refine⟨σ',H',_,s,h,fun x H1' v H1 h1 r1 s1 e1=>?_⟩;obtain⟨i,rfl,h1⟩:=cy.ex h1;simp only[RP]at r1;exact⟨i,r1,k _ H1' H1 h1 s1 e1⟩
def b9(xs:List PV)(lo hi:Option Int):List PV:=(xs.drop (HT.sIx xs.length 0 lo)).take (HT.sIx xs.length xs.length hi - HT.sIx xs.length 0 lo)
theorem jD{K:PySem.W.Frag}{H:Hp}{l:List PV}{us:List V}{lo hi:Option Int}(r:RPs K H l us):RPs K H (b9 l lo hi) (jy us lo hi):=by
 unfold b9 jy;rw[RPs.length _ r];exact RPs.take _ _ (RPs.drop _ _ r)
def sliceOf(x:PV)(lo hi:Option Int)(H3:PHp)(Q:VK'):Prop:=match x with
 | .fls l=>∀p,H3 p=none->Q (.ref p) (put H3 p (.lst (b9 l lo hi)))
 | .ref a=>∃l,H3 a=some (.lst l)/\∀p,H3 p=none->Q (.ref p) (put H3 p (.lst (b9 l lo hi)))
 | .tup l=>¬(HT.sIx l.length 0 lo=0/\HT.sIx l.length l.length hi=l.length)/\Q (.tup (b9 l lo hi)) H3
 | _=>False
def qL(ta:TE')(tl th:TO'):TE':=fun σ H Q=>ta σ H fun x H1=>tl σ H1 fun lo H2=>th σ H2 fun hi H3=>sliceOf x lo hi H3 Q
theorem aN{lo hi:Option Expr}{tl th:TO'}{p2:Pos}(he:PE' X B e ta)(hl:PO' X B lo tl)(hu:PO' X B hi th):PE' X B (.Subscript e (.Slice lo hi none p2) pos) (qL ta tl th) :=
 aV (kX (ub.or sE) he hl hu) fun σ H Q y_=>by
 obtain⟨σ',H',Q',s,h,k⟩:=y_;refine⟨σ',H',_,s,h,fun x H1' v H1 h1 r1 s1 e1=>⟨σ',H1',_,s1,h1,fun l H2' H2 h2 s2 e2=>⟨σ',H2',_,s2,h2,fun u H3' H3 h3 s3 e3=>?_⟩⟩⟩;have r3:=RP.kp _ (e3.kp s2.hp) (RP.kp _ (e2.kp s1.hp) r1);have e123:=e1.trans (e2.trans e3);cases x with
 | fls xs =>
  simp only[RP]at r3;obtain⟨a,us,e,q,r⟩:=r3;refine .inl ⟨a,us,e,q.sq,fun p n=>?_⟩;exact k _ _ _ _ (h3 p (s3.hp.free n)) (by simp[RP]) (s3.new n (kO n (jD r))) (e123.trans (Ev.new n))
 | ref a =>
  simp only[RP]at r3;obtain⟨xs,q,h3⟩:=h3;obtain⟨us,q2,r⟩:=s3.hp _ _ q;refine .inl ⟨a,us,r3,SqL.of q2,fun p n=>?_⟩;exact k _ _ _ _ (h3 p (s3.hp.free n)) (by simp[RP]) (s3.new n (kO n (jD r))) (e123.trans (Ev.new n))
 | tup xs =>
  simp only[RP]at r3;obtain⟨a,us,e,q,r⟩:=r3;refine .inr ⟨a,us,e,q,by rw[RPs.length _ r];exact h3.1,fun p n=>?_⟩;exact k _ _ _ _ h3.2 (qA n (jD r)) (s3.hid n) (e123.trans (Ev.hid n))
 | _=>exact h3.elim
def VC(K:PySem.W.Frag)(B:Bs)(r':List PV->PHp->VK'->Prop)(r:List V->Hp->VK->Prop):Prop:=∀(σ':St') (σ:L2.St) (H':PHp) (H:Hp) xs' xs (Q':VK') (Q:VK),SR K B σ' H' σ H->RPs K H xs' xs->r' xs' H' Q' ->
 (∀v' H1' v H1,Q' v' H1'->RP K H1 v' v->SR K B σ' H1' σ H1->Ev H' H H1' H1->Q v H1)->r xs H Q
def uCB(r:List PV->PHp->VK'->Prop)(t:TA'):TE':=fun σ H Q=>t σ H fun vs H1=>r vs H1 Q
theorem qd{K:PySem.W.Frag}{r':List PV->PHp->VK'->Prop}{r:List V->Hp->VK->Prop}{t:TA'}(v:VC K B r' r){σ:L2.St}{H:Hp}{Q:VK}(h:low K B (uCB r' t) σ H Q):tCB r (qV K B t) σ H Q:=by
 obtain⟨σ',H',Q',s,h,k⟩:=h;exact⟨σ',H',_,s,h,fun xs' H1' xs H1 h1 rx s1 e1=>v σ' σ H1' H1 xs' xs Q' Q s1 rx h1 fun v' H3' v H3 q rv s3 e3=>k v' H3' v H3 q rv s3 (e1.trans e3)⟩
variable {x:Str}{p:Pos}
theorem au{id:String}{r':List PV->PHp->VK'->Prop}{r:List V->Hp->VK->Prop}(hc:cA X (.builtin id) r)(v:VC X.K B r' r)(hg:Gl X x)(hm:X.mg x=none)(hv:bootBuiltins x=some (.builtin id))(ha:PA' X B (e::es) t)
  (hn:x≠"__name__":=by decide) (hdb:(x==("__debug__":Str))=false:=by decide) (he:starEach (e::es) X.env=(false,eval e X.env)::starEach es X.env:=by rfl) (hpl:(backTo pos (starEach es X.env)).any (·.1)=false:=by rfl) :
  PE' X B (.Call (.Name x p) (e::es) [] pos) (uCB r' t):=aV (dW hc hg hm hv ha hn hdb he hpl) fun _ _ _ h=>qd v h
theorem aS{id:String}{r':List PV->PHp->VK'->Prop}{r:List V->Hp->VK->Prop}(hc:cA X (.type id) r)(v:VC X.K B r' r)(hg:Gl X x)(hm:X.mg x=none)(hv:bootBuiltins x=some (.type id))(ha:PA' X B (e::es) t)
  (hn:x≠"__name__":=by decide) (hdb:(x==("__debug__":Str))=false:=by decide) (he:starEach (e::es) X.env=(false,eval e X.env)::starEach es X.env:=by rfl) (hpl:(backTo pos (starEach es X.env)).any (·.1)=false:=by rfl) :
  PE' X B (.Call (.Name x p) (e::es) [] pos) (uCB r' t):=aV (dj hc hg hm hv ha hn hdb he hpl) fun _ _ _ h=>qd v h
def di(f:PV->PHp->VK'->Prop):List PV->PHp->VK'->Prop:=fun xs H Q=>match xs with
 | [x]=>f x H Q
 | _=>False
theorem di.ex{K:PySem.W.Frag}{H:Hp}{f:PV->PHp->VK'->Prop}{xs':List PV}{xs:List V}{H':PHp}{Q':VK'}(h:di f xs' H' Q')(r:RPs K H xs' xs):∃x' x,xs'=[x']/\xs=[x]/\RP K H x' x/\f x' H' Q':=by
 unfold di at h;split at h
 ·simp only[RPs]at r;obtain⟨u,r,rfl,q,rfl⟩:=r;exact⟨_,u,rfl,rfl,q,h⟩
 ·exact h.elim
def AM:List PV->PHp->VK'->Prop:=di fun x H Q=>cL x H fun l=>Q (.int l.length) H
theorem aO{K:PySem.W.Frag}:VC K B AM (fun xs H Q=>∃p ys,xs=[.ref p]/\(SqL K H p ys∨SqT K H p ys)/\Q (.int ys.length) H):=by
 intro σ' σ H' H xs' xs Q' Q s r h k;obtain⟨x',x,rfl,rfl,rx,h⟩:=di.ex h r;obtain⟨l,us,p,rfl,r,q,h⟩:=cL.ex h s rx;exact⟨p,us,rfl,q,k _ H' _ H h (by simp[RP,RPs.length _ r]) s (Ev.refl _ _)⟩
def DL:List PV->PHp->VK'->Prop:=di fun x H Q=>cy x fun i=>Q (.int (if i<0 then -i else i)) H
def b2n(b:Bool):Int:=if b then 1 else 0
def intOf(x:PV)(k:Int->Prop):Prop:=match x with
 | .int i=>k i
 | .bl b=>k (b2n b)
 | _=>False
def Ax:List PV->PHp->VK'->Prop:=di fun x H Q=>intOf x fun i=>Q (.int i) H
theorem xM{K:PySem.W.Frag}:VC K B Ax (fun xs H Q=>(∃i,xs=[.int i]/\Q (.int i) H)∨∃k,xs=[.bl k]/\Q (.int (if k then 1 else 0)) H):=by
 intro σ' σ H' H xs' xs Q' Q s r h k;obtain⟨x',x,rfl,rfl,rx,h⟩:=di.ex h r;cases x' with
 | int i=>simp only[RP]at rx;subst rx;exact .inl ⟨i,rfl,k _ H' _ H h (by simp[RP]) s (Ev.refl _ _)⟩
 | bl i=>simp only[RP]at rx;subst rx;exact .inr ⟨i,rfl,k _ H' _ H h (by simp[RP,b2n]) s (Ev.refl _ _)⟩
 | _=>exact h.elim
def wb:List PV->PHp->VK'->Prop:=di fun x H Q=>cL x H fun l=>∀p,H p=none->Q (.ref p) (put H p (.lst l))
theorem de{K:PySem.W.Frag}:VC K B wb (fun xs H Q=>∃p ys,xs=[.ref p]/\(SqL K H p ys∨SqT K H p ys)/\∀l,H l=none->Q (.ref l) (upd H l (.lst ys))):=by
 intro σ' σ H' H xs' xs Q' Q s r h k;obtain⟨x',x,rfl,rfl,rx,h⟩:=di.ex h r;obtain⟨l,us,p,rfl,r,q,h⟩:=cL.ex h s rx;exact⟨p,us,rfl,q,fun p n=>k _ _ _ _ (h p (s.hp.free n)) (by simp[RP]) (s.new n (kO n r)) (Ev.new n)⟩
def pY:List PV->PHp->VK'->Prop:=di fun x H Q=>cL x H fun l=>Q (.tup l) H
theorem bV{K:PySem.W.Frag}:VC K B pY (fun xs H Q=>∃p ys,xs=[.ref p]/\((SqL K H p ys/\∀l,H l=none->Q (.ref l) (upd H l (.tup ys)))∨(SqT K H p ys/\Q (.ref p) H))):=by
 intro σ' σ H' H xs' xs Q' Q s r h k;obtain⟨x',x,rfl,rfl,rx,h⟩:=di.ex h r;obtain⟨l,us,p,rfl,r,q,h⟩:=cL.ex h s rx;refine⟨p,us,rfl,?_⟩;rcases q with q | q
 ·exact .inl ⟨q,fun p n=>k _ _ _ _ h (qA n r) (s.hid n) (Ev.hid n)⟩
 ·exact .inr ⟨q,k _ _ _ _ h (by simp only[RP];exact⟨p,us,rfl,q,r⟩) s (Ev.refl _ _)⟩
end
end
section
variable {B:Bs}
section
variable {X:Cx}{a b c e o:Expr}{es:List Expr}{ta tb te:TE'}{tA tB:TT'}{st:Stmt}{sts:List Stmt}{t u:TS'}{pos:Pos}
def i5:TS':=fun D σ H=>D.nx σ H
def oh(t u:TS'):TS':=fun D σ H=>t { D with nx:=u D } σ H
theorem ax:h9 X B [] i5:=nR uS fun D σ H ⟨σ',H',D',s,h,d⟩=>d.nx _ _ _ _ h s (Ev.refl _ _)
theorem af(h1:PS' X B st t)(h2:h9 X B sts u):h9 X B (st::sts) (oh t u):=nR (qJ h1 h2) fun D σ H ⟨σ',H',D',s,h,d⟩ =>
 ⟨σ',H',_,s,h,fun σ1' H1' σ1 H1 h1 s1 e1=>⟨σ1',H1',D',s1,h1,d.ev _ _ e1⟩,d.rt,d.bk,d.ct⟩
theorem aj(h1:PS' X B st t):h9 X B [st] t:=uK h1
def y6:TS':=fun D σ H=>D.bk σ H
def Cd:TS':=fun D σ H=>D.ct σ H
def wF(te:TE'):TS':=fun D σ H=>te σ H fun _ H1=>D.nx σ H1
theorem bj(he:PE' X B e te)(hs:swapsWith e none pos.line X.env=pure false:=by rfl):PS' X B (.Expr e pos) (wF te):=cX (vJ he hs) fun D σ H ⟨σ',H',D',s,h,d⟩ =>
 ⟨σ',H',_,s,h,fun v' H1' v H1 h1 r1 s1 e1=>d.nx _ _ _ _ h1 s1 e1⟩
def B2(te:TE'):TS':=fun D σ H=>te σ H D.rt
theorem ay(he:PE' X B e te):PS' X B (.Return (some e) pos) (B2 te):=cX (x6 he) fun D σ H ⟨σ',H',D',s,h,d⟩ =>
 ⟨σ',H',_,s,h,fun v' H1' v H1 h1 r1 s1 e1=>d.rt _ _ _ _ h1 r1 s1.hp e1⟩
def zY:TS':=fun D _ H=>D.rt .non H
def oW(c:TT')(t u:TS'):TS':=fun D σ H=>c σ H fun b H1=>cif b (t D σ H1) (u D σ H1)
theorem aF{l1 l2:List Stmt}(hc:PT' X B c tA)(ha:h9 X B l1 t)(hb:h9 X B l2 u):PS' X B (.If c l1 l2 pos) (oW tA t u):=cX (Cn hc ha hb) fun D σ H y_=>by
 obtain⟨σ',H',D',s,h,d⟩:=y_;refine⟨σ',H',_,s,h,fun x H1' H1 h1 s1 e1=>?_⟩;cases x with
 | true=>exact iB ⟨σ',H1',D',s1,h1,d.ev _ _ e1⟩
 | false=>exact ix ⟨σ',H1',D',s1,h1,d.ev _ _ e1⟩
def zb:TS':=fun _ _ _=>False
theorem bX:h9 X B sts zb:=fun _ _ _ _ _ _ ⟨_,_,_,_,h,_⟩=>h.elim
def gi(i:Nat):TG':=fun v σ H Q=>Q (σ.set i (some v)) H
theorem SR.set{K:PySem.W.Frag}{σ':St'}{H':PHp}{σ:L2.St}{H:Hp}{v':PV}{v:V}(s:SR K B σ' H' σ H)(r:RP K H v' v)(i:Nat):SR K B (σ'.set i (some v')) H' (σ.set i (some v)) H:=by
 refine⟨by simp[s.len],fun j w e=>?_,s.hp,s.ev⟩;by_cases hj:i=j
 ·subst hj;have hl:i<σ'.length:=by
   rcases Nat.lt_or_ge i σ'.length with h | h
   ·exact h
   ·rw[HK (by simpa using h)]at e;cases e
  rw[Il hl]at e;cases e;exact⟨v,Il (by rw[←s.len];exact hl),r⟩
 ·rw[List.getElem?_set_ne hj]at e ⊢;exact s.loc j w e
theorem tU{i:Nat}{x:Str}(hN:X.N.Nodup)(hi:X.N[i]?=some x)(hx:Loc X.env.scope x)(hf:X.fn x=true∨X.env.scope.names.lookup x=some .local:=by first | exact .inl rfl | exact .inr rfl | assumption):PG' X B (.Name x pos) (gi i) :=
 ie (ur hN hi hx hf) fun v σ H Q ⟨v',σ',H',Q',r,s,h,k⟩=>k _ _ _ _ h (s.set r i) (Ev.refl _ _)
def yf:fX:=fun vs σ H Q=>vs=[]/\Q σ H
def v5(t:TG')(u:fX):fX:=fun vs σ H Q=>match vs with
 | v::r=>t v σ H fun σ' H'=>u r σ' H' Q
 | []=>False
theorem br:pO X B [] yf:=m5 uj fun vs σ H Q y_=>by
 obtain⟨v',σ',H',Q',r,s,h,k⟩:=y_;obtain⟨rfl,h⟩:=h;simp only[RPs]at r;exact⟨r,k _ _ _ _ h s (Ev.refl _ _)⟩
theorem aA{t:TG'}{u:fX}(h1:PG' X B e t)(h2:pO X B es u)(hs:(assignEach (e::es) X.env).map (·.2)=assign e X.env::(assignEach es X.env).map (·.2):=by rfl):pO X B (e::es) (v5 t u) :=
 m5 (pM h1 h2 hs) fun vs σ H Q y_=>by
 obtain⟨vs',σ',H',Q',r,s,h,k⟩:=y_;cases vs' with
 | nil=>exact h.elim
 | cons v' r' =>
  simp only[RPs]at r;obtain⟨v,w,rfl,rv,rw'⟩:=r;refine⟨v,w,rfl,v',σ',H',_,rv,s,h,fun σ1' H1' σ1 H1 h1 s1 e1=>⟨r',σ1',H1',Q',RPs.kp _ (e1.kp s.hp) rw',s1,h1,fun σ2' H2' σ2 H2 h2 s2 e2=>k _ _ _ _ h2 s2 (e1.trans e2)⟩⟩
def Cm(n:Nat)(t:fX):TG':=fun v σ H Q=>match v with
 | .tup l=>l.length=n/\t l σ H Q
 | _=>False
theorem bJ{k:Nat}{t:fX}{n:Nat}(hc:X.calm=true)(h:pO X B es t)(hn:(assignEach es X.env).length=n:=by rfl)(hst:(assignEach es X.env).findIdx? (·.1)=none:=by rfl):PG' X B (.Tuple es k pos) (Cm n t) :=
 ie (xb hc h hn hst) fun v σ H Q y_=>by
 obtain⟨v',σ',H',Q',r,s,h,k⟩:=y_;cases v' with
 | tup l =>
  obtain⟨hl,h⟩:=h;simp only[RP]at r;obtain⟨a,us,rfl,q,r⟩:=r;exact⟨a,us,rfl,q,by rw[RPs.length _ r];exact hl,l,σ',H',Q',r,s,h,k⟩
 | _=>exact h.elim
def kK(te:TE')(g:TG'):TS':=fun D σ H=>te σ H fun x H1=>g x σ H1 D.nx
theorem vd{K:PySem.W.Frag}{te:TE'}{g:TG'}{D:Ends}{σ:L2.St}{H:Hp}(h:zH K B (kK te g) D σ H):vb (low K B te) (lowG K B g) D σ H:=by
 obtain⟨σ',H',D',s,h,d⟩:=h;exact⟨σ',H',_,s,h,fun x H1' v H1 h1 r1 s1 e1=>⟨x,σ',H1',_,r1,s1,h1,fun σ2' H2' σ2 H2 h2 s2 e2=>d.nx _ _ _ _ h2 s2 (e1.trans e2)⟩⟩
theorem e8{tg:Expr}{g:TG'}(he:PE' X B e te)(hg:PG' X B tg g)(hs:swapsWithSole [tg] e pos.line X.env=pure false:=by rfl)(hw:swappedStores [tg] e X.env=pure none:=by rfl)
  (h1:(assignEach [tg] X.env).map (·.2)=[assign tg X.env]:=by rfl):PS' X B (.Assign [tg] e pos) (kK te g):=cX (y4 he hg hs hw h1) fun _ _ _ h=>vd h
theorem xu{i:Nat}{x:Str}{pos':Pos}(hN:X.N.Nodup)(hi:X.N[i]?=some x)(hx:Loc X.env.scope x)(he:PE' X B e te)(hs:swapsWith e (some (.Name x pos')) pos.line X.env=pure false:=by rfl)(hf:X.fn x=true∨X.env.scope.names.lookup x=some .local:=by first | exact .inl rfl | exact .inr rfl | assumption) :
  PS' X B (.Assign [.Name x pos'] e pos) (kK te (gi i)):=cX (yR hN hi hx he hs hf) fun D σ H h=>by
 obtain⟨σ',H',D',s,h,d⟩:=h;exact⟨σ',H',_,s,h,fun x H1' v H1 h1 r1 s1 e1=>d.nx _ _ _ _ h1 (s1.set r1 i) e1⟩
def jO(c:TT')(tb:TS'):TS':=fun D σ H=>∃W:Nat->St'->PHp->Prop,(∃m,W m σ H)/\∀m σ H,W m σ H ->
 c σ H fun b H1=>cif b (∃N:St'->PHp->Prop,(∀σ' H',N σ' H'->∃m',m'<m/\W m' σ' H')/\tb { D with nx:=N,ct:=N,bk:=D.nx } σ H1) (D.nx σ H1)
theorem rP{body:List Stmt}(hp:PassesOwn (model X.prog X.w) X.A X.env X.xe)(hc:PT' X B c tA)(hb:h9 X B body t):PS' X B (.While c body [] pos) (jO tA t):=cX (qI hp hc hb) fun D σ H y_=>by
 obtain⟨σ',H',D',s,⟨W,⟨m0,w0⟩,turn⟩,d⟩:=y_;refine⟨fun m σ1 H1=>∃σ1' H1',SR X.K B σ1' H1' σ1 H1/\Ev H' H H1' H1/\W m σ1' H1',⟨m0,σ',H',s,Ev.refl _ _,w0⟩,?_⟩;rintro m σ1 H1 ⟨σ1',H1',s1,e1,w1⟩;refine⟨σ1',H1',_,s1,turn m σ1' H1' w1,fun x H2' H2 h2 s2 e2=>?_⟩;cases x with
 | false=>exact ix (d.nx _ _ _ _ h2 s2 (e1.trans e2))
 | true =>
  obtain⟨N,hN,h2⟩:=(show ∃N:St'->PHp->Prop,_ from h2);refine iB ⟨fun σ3 H3=>∃σ3' H3',SR X.K B σ3' H3' σ3 H3/\Ev H' H H3' H3/\N σ3' H3',?_,σ1',H2',_,s2,h2,?_,?_,?_,?_⟩
  ·rintro σ3 H3 ⟨σ3',H3',s3,e3,n3⟩;obtain⟨m',hm,w'⟩:=hN _ _ n3;exact⟨m',hm,σ3',H3',s3,e3,w'⟩
  ·intro σ3' H3' σ3 H3 n3 s3 e3;exact⟨σ3',H3',s3,(e1.trans e2).trans e3,n3⟩
  ·intro v' H3' v H3 n3 r3 s3 e3;exact d.rt _ _ _ _ n3 r3 s3 ((e1.trans e2).trans e3)
  ·intro σ3' H3' σ3 H3 n3 s3 e3;exact d.nx _ _ _ _ n3 s3 ((e1.trans e2).trans e3)
  ·intro σ3' H3' σ3 H3 n3 s3 e3;exact⟨σ3',H3',s3,(e1.trans e2).trans e3,n3⟩
theorem lH{c:TT'}{tb:TS'}{D:dO}{σ:St'}{H:PHp}(Pv:Nat->St'->PHp->Prop)(m0:Nat)(h0:Pv m0 σ H)
  (hs:∀m σ H,Pv m σ H->c σ H fun b H1=>cif b (∃N:St'->PHp->Prop,(∀σ' H',N σ' H'->∃m',m'<m/\Pv m' σ' H')/\tb { D with nx:=N,ct:=N,bk:=D.nx } σ H1) (D.nx σ H1)):jO c tb D σ H:=⟨Pv,⟨m0,h0⟩,hs⟩
def dQ(ok:PHp->Prop)(g:TG')(tb:TS')(D:dO):List PV->St'->PHp->Prop
 | [],σ,H=>ok H/\D.nx σ H
 | x::r,σ,H=>ok H/\g x σ H fun σ2 H2=>tb { D with nx:=dQ ok g tb D r,ct:=dQ ok g tb D r,bk:=D.nx } σ2 H2
def xf(wi:TI')(g:TG')(tb:TS'):TS':=fun D σ H=>wi σ H fun J H1=>dQ J.ok g tb D J.items σ H1
theorem b7{iter tg:Expr}{body:List Stmt}{wi:TI'}{g:TG'}(hp:PassesOwn (model X.prog X.w) X.A X.env X.xe)(hc:X.calm=true)(hi:PI' X B tg iter wi)(hg:PG' X B tg g)(hb:h9 X B body t)
  (hs:∀x,foldedSetIterable iter X.env x=pure x:=by intro _;rfl):PS' X B (.For tg iter body [] pos) (xf wi g t):=cX (sR hp hc hi hg hb hs) fun D σ H y_=>by
 obtain⟨σ',H',D',s,h,d⟩:=y_;refine⟨σ',H',_,s,h,fun J' H1' J H1 h1 wk s1 e1=>?_⟩;refine⟨fun i m σ2 H2=>i≤J'.items.length/\m=J'.items.length - i/\∃σ2' H2',SR X.K B σ2' H2' σ2 H2/\Ev H1' H1 H2' H2/\dQ J'.ok g t D' (J'.items.drop i) σ2' H2',⟨J'.items.length,HQ _,by simp,σ',H1',s1,Ev.refl _ _,h1⟩,?_⟩;rintro i m σ2 H2 ⟨hi,rfl,σ2',H2',s2,e2,h2⟩;have k2:=e2.kp s1.hp;by_cases hlt:i<J'.items.length
 ·obtain⟨x',hx⟩:∃x',J'.items[i]?=some x':=⟨_,F2 hlt⟩;have hd:J'.items.drop i=x'::J'.items.drop (i+1):=by
   rw[HF hlt];rw[F2 hlt]at hx;cases hx;rfl
  rw[hd]at h2;obtain⟨ok2,h2⟩:=(show J'.ok H2'/\_ from h2);refine .inr ⟨wk.go H2' H2 i k2 s2.hp ok2 hlt,fun σ3 H3=>∃σ3' H3',SR X.K B σ3' H3' σ3 H3/\Ev H1' H1 H3' H3/\dQ J'.ok g t D' (J'.items.drop (i+1)) σ3' H3',?_,fun x H3 y=>?_⟩
  ·rintro σ3 H3 ⟨σ3',H3',s3,e3,h3⟩;exact⟨J'.items.length - (i+1),by omega,hlt,rfl,σ3',H3',s3,e3,h3⟩
  ·obtain⟨rfl,rx⟩:=wk.yld H2' H2 i x H3 k2 s2.hp ok2 y;refine⟨x',σ2',H2',_,rx x' hx,s2,h2,fun σ3' H3' σ3 H3 h3 s3 e3=>⟨σ3',H3',_,s3,h3,?_,?_,?_,?_⟩⟩
   ·intro σ4' H4' σ4 H4 h4 s4 e4;exact⟨σ4',H4',s4,e2.trans (e3.trans e4),h4⟩
   ·intro v' H4' v H4 h4 r4 s4 e4;exact d.rt _ _ _ _ h4 r4 s4 (e1.trans (e2.trans (e3.trans e4)))
   ·intro σ4' H4' σ4 H4 h4 s4 e4;exact d.nx _ _ _ _ h4 s4 (e1.trans (e2.trans (e3.trans e4)))
   ·intro σ4' H4' σ4 H4 h4 s4 e4;exact⟨σ4',H4',s4,e2.trans (e3.trans e4),h4⟩
 ·have hi':i=J'.items.length:=by omega
  subst hi';rw[List.drop_length]at h2;obtain⟨ok2,h2⟩:=(show J'.ok H2'/\_ from h2);exact .inl ⟨wk.stop H2' H2 _ k2 s2.hp ok2 (F9 _),d.nx _ _ _ _ h2 s2 (e1.trans e2)⟩
def uU(x:PV)(H1:PHp)(R:It'->PHp->Prop):Prop:=match x with
 | .tup l=>R ⟨l,fun _=>True⟩ H1
 | .fls l=>R ⟨l,fun _=>True⟩ H1
 | .ref a=>∃l,H1 a=some (.lst l)/\R ⟨l,fun H=>H a=some (.lst l)⟩ H1
 | _=>False
def wz(ta:TE'):TI':=fun σ H R=>ta σ H fun x H1=>uU x H1 R
def FG(K:PySem.W.Frag)(tl:TE):TI:=fun σ H R=>tl σ H fun x H1=>∃a,x=.ref a/\((∃xs,SqL K H1 a xs)/\R (Itl K a) H1∨(∃xs,SqT K H1 a xs)/\R (Itt K a) H1)
theorem yi{tg l:Expr}{tl:TE}(hl:PE X l tl):PI X tg l (FG X.K tl):=by
 intro pins s σ H R I h;refine thn (hl pins s σ H _ I h) fun v s1 y_=>?_;obtain⟨x,H1,I1,r1,q1⟩:=y_;obtain⟨a,e,⟨⟨xs,hq⟩,q⟩ |⟨⟨xs,hq⟩,q⟩⟩:=q1
 ·subst e;cases r1;obtain⟨its,rv,p,hz⟩:=I1.list hq;refine wpAny_pyIter_list p.isList ?_;refine⟨s1.heap.objs.size,[s1.heap.objs.size],_,_,H1,rfl,I1.kept (t':=s1.toks) fun b o e=>F6 _ e,oY a _,⟨_,Gm _ rfl,rfl,rfl⟩,fun b hb=>?_,q⟩;have e:b=s1.heap.objs.size:=by simpa using hb
  subst e;exact I1.fpOk (F9 _) (I1.hok.fresh (F9 _))
 ·subst e;cases r1;obtain⟨its,rv,p,hz⟩:=I1.tuple hq;refine wpAny_pyIter_tuple (show s1.heap.IsTuple a its.toArray from p) ?_;refine⟨s1.heap.objs.size,[s1.heap.objs.size],_,_,H1,rfl,I1.kept (t':=s1.toks) fun b o e=>F6 _ e,mK a _,⟨_,Gm _ rfl,rfl,rfl⟩,fun b hb=>?_,q⟩;have e:b=s1.heap.objs.size:=by simpa using hb
  subst e;exact I1.fpOk (F9 _) (I1.hok.fresh (F9 _))
theorem gZ{K:PySem.W.Frag}{H1:Hp}{J':It'}{a:Addr}(h:∀H' H,Kp H1 H->HR K H' H->J'.ok H'->∃us,SqL K H a us/\RPs K H J'.items us):Walks K H1 (Itl K a) J' where
 go:=fun H' H i k s o hi=>by
  obtain⟨us,q,r⟩:=h H' H k s o;obtain⟨u,e,_⟩:=RPs.get _ r (F2 hi);exact⟨us,u,q,e⟩
 yld:=fun H' H i x H2 k s o y=>by
  obtain⟨us,q,r⟩:=h H' H k s o;refine⟨y.1,fun x' hx=>?_⟩;obtain⟨u,e,ru⟩:=RPs.get _ r hx;have:=y.2 us q;rw[e]at this;cases this;exact ru
 stop:=fun H' H i k s o hi=>by
  obtain⟨us,q,r⟩:=h H' H k s o;exact⟨us,q,by rw[RPs.length _ r];exact hi⟩
theorem pe{K:PySem.W.Frag}{H1:Hp}{J':It'}{a:Addr}(h:∀H' H,Kp H1 H->HR K H' H->J'.ok H'->∃us,SqT K H a us/\RPs K H J'.items us):Walks K H1 (Itt K a) J' where
 go:=fun H' H i k s o hi=>by
  obtain⟨us,q,r⟩:=h H' H k s o;obtain⟨u,e,_⟩:=RPs.get _ r (F2 hi);exact⟨us,u,q,e⟩
 yld:=fun H' H i x H2 k s o y=>by
  obtain⟨us,q,r⟩:=h H' H k s o;refine⟨y.1,fun x' hx=>?_⟩;obtain⟨u,e,ru⟩:=RPs.get _ r hx;have:=y.2 us q;rw[e]at this;cases this;exact ru
 stop:=fun H' H i k s o hi=>by
  obtain⟨us,q,r⟩:=h H' H k s o;exact⟨us,q,by rw[RPs.length _ r];exact hi⟩
theorem aM{tg:Expr}(ha:PE' X B a ta):PI' X B tg a (wz ta):=e9 (yi ha) fun σ H R y_=>by
 obtain⟨σ',H',R',s,h,k⟩:=y_;refine⟨σ',H',_,s,h,fun x' H1' x H1 h1 r1 s1 e1=>?_⟩;cases x' with
 | tup l =>
  simp only[RP]at r1;obtain⟨p,us,rfl,q,r⟩:=r1;exact⟨p,rfl,.inr ⟨⟨us,q⟩,k _ H1' _ H1 h1 (pe fun _ H2 k2 _ _=>⟨us,k2.sqT q,RPs.kp _ k2 r⟩) s1 e1⟩⟩
 | fls l =>
  simp only[RP]at r1;obtain⟨p,us,rfl,q,r⟩:=r1;exact⟨p,rfl,.inl ⟨⟨us,q.sq⟩,k _ H1' _ H1 h1 (gZ fun _ H2 k2 _ _=>⟨us,(k2.fzL q).sq,RPs.kp _ k2 r⟩) s1 e1⟩⟩
 | ref p =>
  simp only[RP]at r1;obtain⟨l,q,h1⟩:=h1;obtain⟨us,q2,r⟩:=s1.hp _ _ q;refine⟨p,r1,.inl ⟨⟨us,SqL.of q2⟩,k _ H1' _ H1 h1 (gZ fun H2' H2 k2 s2 o2=>?_) s1 e1⟩⟩;obtain⟨us2,q3,r3⟩:=s2 _ _ o2;exact⟨us2,SqL.of q3,r3⟩
 | _=>exact h1.elim
def cH(lo:Int)(n:Nat):List PV:=(List.range n).map fun k=>PV.int (lo+(k:Nat))
theorem jd{K:PySem.W.Frag}{H1:Hp}{lo:Int}{n:Nat}:Walks K H1 (Itr lo n) ⟨cH lo n,fun _=>True⟩ where
 go:=fun H' H i k s o hi=>by
  have h:i<n:=by simpa[cH]using hi
  exact h
 yld:=fun H' H i x H2 k s o y=>by
  obtain⟨e,rfl⟩:=y;refine⟨e,fun x' hx=>?_⟩;simp only[cH,Gs]at hx;cases q:(List.range n)[i]? with
  | none=>rw[q]at hx;cases hx
  | some j =>
   rw[q]at hx;obtain⟨h1,h2⟩:=Gj.mp q;rw[List.getElem_range]at h2;subst h2;cases hx;simp[RP]
 stop:=fun H' H i k s o hi=>by
  have h:n≤i:=by simpa[cH]using hi
  exact h
def vB(vs:List PV)(H1:PHp)(R:It'->PHp->Prop):Prop:=match vs with
 | [.int j]=>(-(2 ^ 62)≤j/\j<2 ^ 62)/\R ⟨cH 0 j.toNat,fun _=>True⟩ H1
 | _=>False
def wQ(t:TA'):TI':=fun σ H R=>t σ H fun vs H1=>vB vs H1 R
def tY(vs:List PV)(H1:PHp)(R:It'->PHp->Prop):Prop:=match vs with
 | [.int i,.int j]=>(-(2 ^ 62)≤i/\i<2 ^ 62/\-(2 ^ 62)≤j/\j<2 ^ 62)/\R ⟨cH i (j - i).toNat,fun _=>True⟩ H1
 | _=>False
def wm(t:TA'):TI':=fun σ H R=>t σ H fun vs H1=>tY vs H1 R
theorem cw{tg:Expr}{t:TA'}{p:Pos}(hg:Gl X "range")(hm:X.mg "range"=none)(ha:PA' X B [a] t)(hs:starEach [a] X.env=[(false,eval a X.env)]:=by rfl):PI' X B tg (.Call (.Name "range" p) [a] [] pos) (wQ t) :=
 e9 (pH hg hm ha hs) fun σ H R y_=>by
 obtain⟨σ',H',R',s,h,k⟩:=y_;refine⟨σ',H',_,s,h,fun vs' H1' vs H1 h1 r1 s1 e1=>?_⟩;unfold vB at h1;split at h1
 ·rename_i j;simp only[RPs,RP]at r1;obtain⟨u,r,rfl,rfl,rfl⟩:=r1;exact⟨j,rfl,h1.1.1,h1.1.2,k _ H1' _ H1 h1.2 jd s1 e1⟩
 ·exact h1.elim
theorem oR{tg:Expr}{t:TA'}{p:Pos}(hg:Gl X "range")(hm:X.mg "range"=none)(ha:PA' X B [a,b] t)(hs:starEach [a,b] X.env=[(false,eval a X.env),(false,eval b X.env)]:=by rfl)(hs2:starEach [b] X.env=[(false,eval b X.env)]:=by rfl) :
  PI' X B tg (.Call (.Name "range" p) [a,b] [] pos) (wm t):=e9 (o7 hg hm ha hs hs2) fun σ H R y_=>by
 obtain⟨σ',H',R',s,h,k⟩:=y_;refine⟨σ',H',_,s,h,fun vs' H1' vs H1 h1 r1 s1 e1=>?_⟩;unfold tY at h1;split at h1
 ·rename_i i j;simp only[RPs,RP]at r1;obtain⟨u,r,rfl,rfl,w,r,rfl,rfl,rfl⟩:=r1;exact⟨i,j,rfl,h1.1,k _ H1' _ H1 h1.2 jd s1 e1⟩
 ·exact h1.elim
end
end
section
variable {B:Bs}
abbrev Sp':=List PV->PHp->VK'->XK'->Prop
def gm(K:PySem.W.Frag)(sp:Sp'):Sp:=fun vs H Q E=>∃vs' H' Q' E',RPs K H vs' vs/\HR K H' H/\sp vs' H' Q' E'/\(∀v' H1' v H1,Q' v' H1'->RP K H1 v' v->HR K H1' H1->Ev H' H H1' H1->Q v H1) /\
 (∀c d H1' H1,E' c d H1'->HR K H1' H1->Ev H' H H1' H1->E c d H1)
abbrev aK(P:Program)(w:World)(K:PySem.W.Frag)(mg:Str->Option Value)(base:Heap)(CX:CXT)(k:Nat)(f:Addr)(fd:FuncData)(ps:List Str)(sp:Sp'):Prop:=ij P w K mg base CX k f fd ps (gm K sp)
def f7(N:List Str)(vs:List PV):St':=vs.map some++List.replicate (N.length - vs.length) none
theorem sY{K:PySem.W.Frag}{N:List Str}{vs':List PV}{vs:List V}{H':PHp}{H:Hp}(r:RPs K H vs' vs)(h:HR K H' H):SR K (H',H) (f7 N vs') H' (L2.start N vs) H:=by
 have hl:=RPs.length _ r;refine⟨by simp[f7,L2.start,hl],fun i v' e=>?_,h,Ev.refl _ _⟩;unfold f7 at e;unfold L2.start;by_cases hi:i<vs'.length
 ·rw[Ib (by simpa using hi)]at e;rw[Ib (by simpa[hl]using hi)];rw[Gs]at e ⊢;cases q:vs'[i]? with
  | none=>rw[q]at e;cases e
  | some w =>
   rw[q]at e;cases e;obtain⟨u,e1,e2⟩:=RPs.get _ r q;exact⟨u,by rw[e1];rfl,e2⟩
 ·rw[List.getElem?_append_right (by simpa using hi)]at e;rw[List.getElem?_replicate]at e;split at e<;>cases e
def ends(Q:VK'):dO where
 nx:=fun _ H=>∃H3,Sub H3 H/\Q .non H3
 rt:=fun v H=>∃H3,Sub H3 H/\Q v H3
section
variable {P:Program}{w:World}{K:PySem.W.Frag}{mg:Str->Option Value}{base:Heap}
theorem okU{x qual:Str}{st:Stmt}{f:Addr}{fd:FuncData}{N ps:List Str}{k:Nat}{sp:Sp'}(F:Fun K x qual st f fd)(S:aD N ps (aq st))(len:∀vs H Q E,sp vs H Q E->vs.length=ps.length)
  (hbody:∀(cdv:Value) (A:Around) (outer:List Env) (s:Shared) (H:Hp) (E:XK) (B:Bs),cu k (A.deeper (envOfC qual (aq st) s.heap.objs.size f cdv)) ->
   ∃t,h9 (lY CX0 P w K mg base N qual (aq st) f cdv A outer s H E).nox B (eI st) t/\∀vs' H' Q' E',sp vs' H' Q' E'->t (ends Q') (f7 N vs') H'):aK P w K mg base CX0 (k+1) f fd ps sp:=by
 refine F.ok S (fun vs H Q E zz=>?_) (fun cdv A outer s H vs Q E hr h=>?_)
 ·obtain⟨vs',H',Q',E',r,hr,h,_⟩:=zz;rw[RPs.length _ r];exact len _ _ _ _ h
 ·obtain⟨vs',H',Q',E',r,hh,h,k1,k2⟩:=h;obtain⟨t,ht,hq⟩:=hbody cdv A outer s H E (H',H) hr;refine⟨_,ht,f7 N vs',H',_,sY r hh,hq vs' H' Q' E' h,?_,?_,?_,?_⟩
  ·rintro σ1' H1' σ1 H1 ⟨H3,sb,q⟩ s1 e1;exact k1 _ H3 _ H1 q (by simp[RP]) (s1.hp.sub sb) (e1.sub sb)
  ·rintro v' H1' v H1 ⟨H3,sb,q⟩ r1 s1 e1;exact k1 _ H3 _ H1 q r1 (s1.sub sb) (e1.sub sb)
  ·intro _ _ _ _ z;exact z.elim
  ·intro _ _ _ _ z;exact z.elim
end
section
variable {X:Cx}{CX:CXT}{k:Nat}{f C:Addr}{fd:FuncData}{ps:List Str}{sp:Sp'}{E:XK}{E':XK'}{x m:Str}{p pos apos:Pos}{e o:Expr}{es:List Expr}{ta:TE'}{t:TA'}
def rR(sp:Sp')(E':XK')(t:TA'):TE':=fun σ H Q=>t σ H fun vs H1=>sp vs H1 Q E'
abbrev X0:XK':=fun _ _ _=>False
theorem pF{K:PySem.W.Frag}{σ:L2.St}{H:Hp}{Q:VK}(h:low K B (rR sp X0 t) σ H Q):wG (gm K sp) [] E0 (qV K B t) σ H Q:=by
 obtain⟨σ',H',Q',s,h,k⟩:=h;refine⟨σ',H',_,s,h,fun vs' H1' vs H1 h1 r1 s1 e1=>?_⟩;show gm K sp (vs++[]) H1 Q E0;rw[GS];exact⟨vs',H1',Q',X0,r1,s1.hp,h1,fun v' H2' v H2 q r2 h2 e2=>k v' H2' v H2 q r2 (s1.kp e2 h2) (e1.trans e2),fun _ _ _ _ z=>z.elim⟩
theorem aC(F:aK X.prog X.w X.K X.mg X.base CX0 k f fd ps sp)(hr:cu k X.A)(hg:Gl X x)(hm:X.mg x=some (.ref f))(hk:PySem.W.keepIn X.K (.ref f)=true)(hb:Binds X.K fd ps [])
  (ha:PA' X B (e::es) t) (hdb:(x==("__debug__":Str))=false:=by decide) (he:starEach (e::es) X.env=(false,eval e X.env)::starEach es X.env:=by rfl) (hpl:(backTo pos (starEach es X.env)).any (·.1)=false:=by rfl) :
  PE' X B (.Call (.Name x p) (e::es) [] pos) (rR sp X0 t):=aV (vG F hr hg hm hk hb .nil tL ha hdb he hpl) fun _ _ _ h=>pF h
theorem Ar{K:PySem.W.Frag}{H:Hp}{a:Addr}{xs:List V}(o:pG H)(h:SqL K H a xs):FzL K H a xs:=by
 rcases h with(h | h) | h
 ·rcases o a with z |⟨ob,ys,z⟩
  ·rw[z]at h;cases h
  ·rw[z]at h;cases h
 ·exact .inl h
 ·exact .inr h
def spL:Sp':=fun vs H Q _=>match vs with
 | [.fls l]=>∃ns:List Int,l=ns.map PV.int/\ns.length≤63/\Q (.bl true) H
 | _=>False
theorem oM{K:PySem.W.Frag}{H:Hp}{a:Addr}{ns:List Int}(hl:ns.length≤63)(o:pG H)(h:SqL K H a (ns.map V.int)):gm K spL [.ref a] H (fun v _=>v=.bl true) fun _ _ _=>False:=by
 refine⟨[.fls (ns.map PV.int)],fun _=>none,fun v _=>v=.bl true,X0,?_,fun _ _ z=>(nomatch z),⟨ns,rfl,hl,rfl⟩,fun v' _ v _ q r _ _=>?_,fun _ _ _ _ z=>z.elim⟩
 ·refine RPs.cons _ ?_ (RPs.nil _);simp only[RP];exact⟨a,_,rfl,Ar o h,RPs.ints _ _⟩
 ·subst q;simpa[RP]using r
end
end
section
variable {B:Bs}
mutual
def deq:PV->PV->Bool
 | .non,.non=>true
 | .bl a,.bl b=>a==b
 | .int a,.int b=>a==b
 | .bl a,.int b=>(if a then 1 else 0)==b
 | .int a,.bl b=>a==(if b then 1 else 0)
 | .str a,.str b=>a==b
 | .tup l,.tup m=>eS l m
 | .fls l,.fls m=>eS l m
 | _,_=>false
def eS:List PV->List PV->Bool
 | [],[]=>true
 | x::l,y::m=>deq x y&&eS l m
 | _,_=>false
end
def flat:Nat->PV->Bool
 | _,.non=>true
 | _,.bl _=>true
 | _,.int _=>true
 | _,.str _=>true
 | n+1,.tup l=>l.all (flat n)
 | n+1,.fls l=>l.all (flat n)
 | _,_=>false
theorem cj:∀(l m:List PV),eS l m=((List.range (min l.length m.length)).all (fun i=>deq (l.getD i .non) (m.getD i .non))&&l.length==m.length)
 | [],[]=>by simp[eS]
 | [],_::_=>by simp[eS]
 | _::_,[]=>by simp[eS]
 | x::l,y::m=>by
  simp only[eS,cj l m,Gx];rw[show min (l.length+1) (m.length+1)=min l.length m.length+1 by omega,List.range_succ_eq_map,List.all_cons,List.all_map];simp only[List.getD_cons_zero,Bool.and_assoc];congr 1;congr 1;simp
theorem f9{n:Nat}:∀(l:List PV),(∀x∈l,deq x x=true)->eS l l=true
 | [],_=>rfl
 | x::l,h=>by
  have h1:=h x (by simp);have h2:=f9 (n:=n) l fun y hy=>h y (by simp[hy]);simp only[eS,h1,h2,Bool.and_self]
theorem dR:∀{n:Nat} {x:PV},flat n x=true->deq x x=true
 | _,.non,_=>by simp[deq]
 | _,.bl _,_=>by simp[deq]
 | _,.int _,_=>by simp[deq]
 | _,.str _,_=>by simp[deq]
 | n+1,.tup l,h=>by
  simp only[flat,GB]at h;simp only[deq];exact f9 (n:=0) l fun x hx=>dR (h x hx)
 | n+1,.fls l,h=>by
  simp only[flat,GB]at h;simp only[deq];exact f9 (n:=0) l fun x hx=>dR (h x hx)
 | 0,.tup _,h=>by cases h
 | 0,.fls _,h=>by cases h
 | n,.ref _,h=>by cases n<;>cases h
 | n,.oth _,h=>by cases n<;>cases h
section
variable {X:Cx}{pins:List (Addr×Obj)}{σ:L2.St}{H:Hp}{s:Shared}
def RR(K:PySem.W.Frag)(H:Hp)(x:PV)(u:Value):Prop:=∃v,RP K H x v/\RelV v u
def RL(K:PySem.W.Frag)(H:Hp)(l:List PV)(us:List Value):Prop:=∃vs,RPs K H l vs/\Vals vs us
def RD(K:PySem.W.Frag)(H:Hp)(x:PV)(u:Value):Prop:=match x with
 | .fls l=>∃a vs,u=.ref a/\SqL K H a vs/\RPs K H l vs
 | x=>RR K H x u
theorem RL.get{K:PySem.W.Frag}{l:List PV}{us:List Value}(r:RL K H l us){i:Nat}{u:Value}(e:us[i]?=some u):∃x,l[i]?=some x/\RR K H x u:=by
 obtain⟨vs,r1,r2⟩:=r;have hl:=r2.length;have hl2:=RPs.length _ r1;have hi:i<l.length:=by
  have:=(Gj.mp e).1;omega
 obtain⟨v,e1,e2⟩:=RPs.get _ r1 (F2 hi);obtain⟨w,e3,e4⟩:=r2.get e1;rw[e]at e3;cases e3;exact⟨_,F2 hi,v,e2,e4⟩
theorem RL.length{K:PySem.W.Frag}{l:List PV}{us:List Value}(r:RL K H l us):us.length=l.length:=by
 obtain⟨vs,r1,r2⟩:=r;rw[←r2.length,RPs.length _ r1]
theorem RR.rd{K:PySem.W.Frag}{x:PV}{u:Value}(r:RR K H x u):RD K H x u:=by
 cases x with
 | fls l =>
  obtain⟨v,r1,r2⟩:=r;simp only[RP]at r1;obtain⟨a,us,rfl,q,rr⟩:=r1;cases r2;exact⟨a,us,rfl,q.sq,rr⟩
 | _=>exact r
theorem bS(I:Inv X pins σ H s){l:List PV}{u:Value}(r:RD X.K H (.tup l) u):∃a its,u=.ref a/\RL X.K H l its/\s.heap.IsTuple a its.toArray:=by
 obtain⟨v,r1,r2⟩:=r;simp only[RP]at r1;obtain⟨a,us,rfl,q,rr⟩:=r1;cases r2;obtain⟨its,rv,p,_⟩:=I.tuple q;exact⟨a,its,rfl,⟨us,rr,rv⟩,p⟩
theorem bR(I:Inv X pins σ H s){l:List PV}{u:Value}(r:RD X.K H (.fls l) u):∃a its,u=.ref a/\RL X.K H l its/\s.heap.IsList a its.toArray:=by
 obtain⟨a,us,rfl,q,rr⟩:=r;obtain⟨its,rv,p,_⟩:=I.list q;exact⟨a,its,rfl,⟨us,rr,rv⟩,p.isList⟩
theorem lG{a:Addr}{x y:Array Value}(h1:s.heap.IsTuple a x)(h2:s.heap.IsTuple a y):x=y:=by
 obtain⟨o,e,c,n,d⟩:=h1;obtain⟨o',e',c',n',d'⟩:=h2;rw[e]at e';cases e';rw[d]at d';cases d';rfl
theorem lR{a:Addr}{x y:Array Value}(h1:s.heap.IsList a x)(h2:s.heap.IsList a y):x=y:=by
 obtain⟨o,e,c,n,d⟩:=h1;obtain⟨o',e',c',n',d'⟩:=h2;rw[e]at e';cases e';rw[d]at d';cases d';rfl
theorem lM{a:Addr}{x y:Array Value}(h1:s.heap.IsTuple a x)(h2:s.heap.IsList a y):False:=by
 obtain⟨o,e,c,n,d⟩:=h1;obtain⟨o',e',c',n',d'⟩:=h2;rw[e]at e';cases e';rw[c]at c';exact absurd c' (by decide)
theorem RL.list_inj{K:PySem.W.Frag}{n:Nat}(ih:∀{x y:PV} {u:Value},flat n x=true->flat n y=true->RD K H x u->RD K H y u->x=y){l m:List PV}{us:List Value}(h1:l.all (flat n)=true)(h2:m.all (flat n)=true)
  (r1:RL K H l us) (r2:RL K H m us):l=m:=by
 rw[GB]at h1 h2;refine List.ext_getElem? fun i=>?_;cases e:us[i]? with
 | none =>
  have:=List.getElem?_eq_none_iff.mp e;rw[HK (by rw[←r1.length];exact this),HK (by rw[←r2.length];exact this)]
 | some u =>
  obtain⟨x,ex,rx⟩:=r1.get e;obtain⟨y,ey,ry⟩:=r2.get e;rw[ex,ey,ih (h1 x (Gg ex)) (h2 y (Gg ey)) rx.rd ry.rd]
theorem jC(I:Inv X pins σ H s):∀(n:Nat) {x y:PV} {u:Value},flat n x=true->flat n y=true->RD X.K H x u->RD X.K H y u->x=y:=by
 have sc:∀{x:PV} {u:Value},RD X.K H x u->(∀l,x≠.fls l)->RR X.K H x u:=fun {x u} r h=>by
  cases x with
  | fls l=>exact absurd rfl (h l)
  | _=>exact r
 intro n
 induction n with
 | zero =>
  intro x y u hx hy rx ry;cases x<;>first |(cases hx;done) | skip
  all_goals cases y<;>first |(cases hy;done) | skip
  all_goals
   obtain⟨v,r1,r2⟩:=sc rx (by intro l z;cases z);obtain⟨v',r1',r2'⟩:=sc ry (by intro l z;cases z);simp only[RP]at r1 r1';subst r1;subst r1';have:=RelV.inj r2 r2'
   first | rfl |(cases this;done) |(cases this;rfl)
 | succ n ih =>
  intro x y u hx hy rx ry;cases x with
  | tup l =>
   obtain⟨a,its,rfl,rl,p⟩:=bS I rx;cases y with
   | tup m =>
    obtain⟨b,its',e,rl',p'⟩:=bS I ry;cases e;have:=lG p p';have e2:its=its':=by simpa using this
    subst e2;rw[RL.list_inj (n:=n) ih hx hy rl rl']
   | fls m =>
    obtain⟨b,its',e,rl',p'⟩:=bR I ry;cases e;exact(lM p p').elim
   | ref a=>cases hy
   | oth a=>cases hy
   | _ =>
    obtain⟨v',r1',r2'⟩:=sc ry (by intro l z;cases z);simp only[RP]at r1';subst r1';simp[L2.RelV]at r2'
  | fls l =>
   obtain⟨a,its,rfl,rl,p⟩:=bR I rx;cases y with
   | tup m =>
    obtain⟨b,its',e,rl',p'⟩:=bS I ry;cases e;exact(lM p' p).elim
   | fls m =>
    obtain⟨b,its',e,rl',p'⟩:=bR I ry;cases e;have:=lR p p';have e2:its=its':=by simpa using this
    subst e2;rw[RL.list_inj (n:=n) ih hx hy rl rl']
   | ref a=>cases hy
   | oth a=>cases hy
   | _ =>
    obtain⟨v',r1',r2'⟩:=sc ry (by intro l z;cases z);simp only[RP]at r1';subst r1';simp[L2.RelV]at r2'
  | ref a=>cases hx
  | oth a=>cases hx
  | _ =>
   cases y with
   | tup m =>
    obtain⟨b,its',e,rl',p'⟩:=bS I ry;subst e;obtain⟨v',r1',r2'⟩:=sc rx (by intro l z;cases z);simp only[RP]at r1';subst r1';simp[L2.RelV]at r2'
   | fls m =>
    obtain⟨b,its',e,rl',p'⟩:=bR I ry;subst e;obtain⟨v',r1',r2'⟩:=sc rx (by intro l z;cases z);simp only[RP]at r1';subst r1';simp[L2.RelV]at r2'
   | ref a=>cases hy
   | oth a=>cases hy
   | _ =>
    obtain⟨v,r1,r2⟩:=sc rx (by intro l z;cases z);obtain⟨v',r1',r2'⟩:=sc ry (by intro l z;cases z);simp only[RP]at r1 r1';subst r1;subst r1';have:=RelV.inj r2 r2'
    first | rfl |(cases this;done) |(cases this;rfl)
open SeqAt in
theorem gS(I:Inv X pins σ H s):∀(n:Nat) {A:Around} {x y:PV} {u w:Value},A.units+n<cLine->flat n x=true->flat n y=true->RD X.K H x u->RD X.K H y w->EqAt A s u w (deq x y)/\RcAt A s u w (deq x y):=by
 have sc:∀{x:PV} {u:Value},RD X.K H x u->(∀l,x≠.fls l)->RR X.K H x u:=fun {x u} r h=>by
  cases x with
  | fls l=>exact absurd rfl (h l)
  | _=>exact r
 have v_non:∀{u:Value},RD X.K H .non u->u=.none:=fun {u} r=>by
  obtain⟨v,r1,r2⟩:=sc r (by intro l z;cases z);simp only[RP]at r1;subst r1;exact r2
 have v_bl:∀{b:Bool} {u:Value},RD X.K H (.bl b) u->u=.bool b:=fun {b u} r=>by
  obtain⟨v,r1,r2⟩:=sc r (by intro l z;cases z);simp only[RP]at r1;subst r1;exact r2
 have v_int:∀{i:Int} {u:Value},RD X.K H (.int i) u->∃t,u=.int i t:=fun {b u} r=>by
  obtain⟨v,r1,r2⟩:=sc r (by intro l z;cases z);simp only[RP]at r1;subst r1;exact r2
 have v_str:∀{i:Str} {u:Value},RD X.K H (.str i) u->∃t,u=.str i t:=fun {b u} r=>by
  obtain⟨v,r1,r2⟩:=sc r (by intro l z;cases z);simp only[RP]at r1;subst r1;exact r2
 intro n
 induction n with
 | zero =>
  intro A x y u w hu hx hy rx ry;cases x with
  | non =>
   rw[v_non rx];cases y with
   | non=>rw[v_non ry];exact⟨EqAt.same _,RcAt.none_none⟩
   | bl b=>rw[v_bl ry];exact⟨EqAt.none_bool b,RcAt.none_bool b⟩
   | int b=>obtain⟨t,rfl⟩:=v_int ry;exact⟨EqAt.none_int b t,RcAt.none_int b t⟩
   | str b=>obtain⟨t,rfl⟩:=v_str ry;exact⟨EqAt.none_str b t,RcAt.none_str b t⟩
   | _=>cases hy
  | bl a =>
   rw[v_bl rx];cases y with
   | non=>rw[v_non ry];exact⟨EqAt.bool_none a,RcAt.bool_none a⟩
   | bl b=>rw[v_bl ry];exact⟨EqAt.bool_bool a b,RcAt.bool_bool a b⟩
   | int b=>obtain⟨t,rfl⟩:=v_int ry;exact⟨EqAt.bool_int a b t,RcAt.bool_int a b t⟩
   | str b=>obtain⟨t,rfl⟩:=v_str ry;exact⟨EqAt.bool_str a b t,RcAt.bool_str a b t⟩
   | _=>cases hy
  | int a =>
   obtain⟨t0,rfl⟩:=v_int rx;cases y with
   | non=>rw[v_non ry];exact⟨EqAt.int_none a t0,RcAt.int_none a t0⟩
   | bl b=>rw[v_bl ry];exact⟨EqAt.int_bool a t0 b,RcAt.int_bool a t0 b⟩
   | int b=>obtain⟨t,rfl⟩:=v_int ry;exact⟨EqAt.int_int a t0 b t,RcAt.int_int a t0 b t⟩
   | str b=>obtain⟨t,rfl⟩:=v_str ry;exact⟨EqAt.int_str a t0 b t,RcAt.int_str a t0 b t⟩
   | _=>cases hy
  | str a =>
   obtain⟨t0,rfl⟩:=v_str rx;cases y with
   | non=>rw[v_non ry];exact⟨EqAt.str_none a t0,RcAt.str_none a t0⟩
   | bl b=>rw[v_bl ry];exact⟨EqAt.str_bool a t0 b,RcAt.str_bool a t0 b⟩
   | int b=>obtain⟨t,rfl⟩:=v_int ry;exact⟨EqAt.str_int a t0 b t,RcAt.str_int a t0 b t⟩
   | str b=>obtain⟨t,rfl⟩:=v_str ry;exact⟨EqAt.str_str a t0 b t,RcAt.str_str a t0 b t⟩
   | _=>cases hy
  | _=>cases hx
 | succ n ih =>
  intro A x y u w hu hx hy rx ry;have hu0:A.units<cLine:=by omega
  have hu1:A.in1.units+n<cLine:=by show A.units+1+n<cLine;omega
  cases x with
  | tup l =>
   obtain⟨a,its,rfl,rl,p⟩:=bS I rx;cases y with
   | non=>rw[v_non ry];exact⟨EqAt.tuple_none p hu0,RcAt.tuple_none p hu0⟩
   | bl b=>rw[v_bl ry];exact⟨EqAt.tuple_bool b p hu0,RcAt.tuple_bool b p hu0⟩
   | int b=>obtain⟨t,rfl⟩:=v_int ry;exact⟨EqAt.tuple_int b t p hu0,RcAt.tuple_int b t p hu0⟩
   | str b=>obtain⟨t,rfl⟩:=v_str ry;exact⟨EqAt.tuple_str b t p hu0,RcAt.tuple_str b t p hu0⟩
   | tup m =>
    obtain⟨b,its',rfl,rl',p'⟩:=bS I ry;have key:RcAt A s (.ref a) (.ref b) (deq (.tup l) (.tup m)):=by
     have:=RcAt.tuples (e:=fun i=>deq (l.getD i .non) (m.getD i .non)) p p' hu0 fun j h1 h2=>by
      have h1':j<its.length:=by simpa using h1
      have h2':j<its'.length:=by simpa using h2
      obtain⟨x,ex,rx'⟩:=rl.get (F2 h1');obtain⟨y,ey,ry'⟩:=rl'.get (F2 h2');have q:=ih hu1 (GB.mp hx x (Gg ex)) (GB.mp hy y (Gg ey)) rx'.rd ry'.rd;have e1:l.getD j .non=x:=by rw[F7,ex];rfl
      have e2:m.getD j .non=y:=by rw[F7,ey];rfl
      rw[e1,e2];simpa using q.1
     have e:deq (.tup l) (.tup m)=((List.range (min its.toArray.size its'.toArray.size)).all (fun i=>deq (l.getD i .non) (m.getD i .non))&&its.toArray.size==its'.toArray.size):=by
      simp only[deq,cj,Gi,rl.length,rl'.length]
     rw[e];exact this
    refine⟨?_,key⟩;by_cases hab:a=b
    ·subst hab;have:=jC I (n+1) hx hy rx ry;rw[←this,dR hx];exact EqAt.same _
    ·exact EqAt.of_refs hab key
   | fls m =>
    obtain⟨b,its',rfl,rl',p'⟩:=bR I ry;exact⟨EqAt.tuple_list p p' hu0,RcAt.tuple_list p p' hu0⟩
   | _=>cases hy
  | fls l =>
   obtain⟨a,its,rfl,rl,p⟩:=bR I rx;cases y with
   | non=>rw[v_non ry];exact⟨EqAt.list_none p hu0,RcAt.list_none p hu0⟩
   | bl b=>rw[v_bl ry];exact⟨EqAt.list_bool b p hu0,RcAt.list_bool b p hu0⟩
   | int b=>obtain⟨t,rfl⟩:=v_int ry;exact⟨EqAt.list_int b t p hu0,RcAt.list_int b t p hu0⟩
   | str b=>obtain⟨t,rfl⟩:=v_str ry;exact⟨EqAt.list_str b t p hu0,RcAt.list_str b t p hu0⟩
   | tup m =>
    obtain⟨b,its',rfl,rl',p'⟩:=bS I ry;exact⟨EqAt.list_tuple p p' hu0,RcAt.list_tuple p p' hu0⟩
   | fls m =>
    obtain⟨b,its',rfl,rl',p'⟩:=bR I ry;have key:RcAt A s (.ref a) (.ref b) (deq (.fls l) (.fls m)):=by
     by_cases hs:its.length=its'.length
     ·have:=RcAt.lists (e:=fun i=>deq (l.getD i .non) (m.getD i .non)) p p' (by simpa using hs) hu0 fun j h1 h2=>by
       have h1':j<its.length:=by simpa using h1
       have h2':j<its'.length:=by simpa using h2
       obtain⟨x,ex,rx'⟩:=rl.get (F2 h1');obtain⟨y,ey,ry'⟩:=rl'.get (F2 h2');have q:=ih hu1 (GB.mp hx x (Gg ex)) (GB.mp hy y (Gg ey)) rx'.rd ry'.rd;have e1:l.getD j .non=x:=by rw[F7,ex];rfl
       have e2:m.getD j .non=y:=by rw[F7,ey];rfl
       rw[e1,e2];simpa using q.1
      have e:deq (.fls l) (.fls m)=(List.range its.toArray.size).all (fun i=>deq (l.getD i .non) (m.getD i .non)):=by
       have e0:l.length=m.length:=by rw[←rl.length,← rl'.length];exact hs
       simp[deq,cj,rl.length,e0]
      rw[e];exact this
     ·have e:deq (.fls l) (.fls m)=false:=by
       have e0:l.length≠m.length:=by rw[←rl.length,← rl'.length];exact hs
       simp[deq,cj,e0]
      rw[e];exact RcAt.lists_lengths p p' (by simpa using hs) hu0
    refine⟨?_,key⟩;by_cases hab:a=b
    ·subst hab;have:=jC I (n+1) hx hy rx ry;rw[←this,dR hx];exact EqAt.same _
    ·exact EqAt.of_refs hab key
   | _=>cases hy
  | ref a=>cases hx
  | oth a=>cases hx
  | non =>
   cases y with
   | tup m=>obtain⟨b,its',rfl,rl',p'⟩:=bS I ry;rw[v_non rx];exact⟨EqAt.none_tuple p' hu0,RcAt.none_tuple p' hu0⟩
   | fls m=>obtain⟨b,its',rfl,rl',p'⟩:=bR I ry;rw[v_non rx];exact⟨EqAt.none_list p' hu0,RcAt.none_list p' hu0⟩
   | ref a=>cases hy
   | oth a=>cases hy
   | _=>exact ih (by omega) (by cases n<;>rfl) (by cases n<;>rfl) rx ry
  | bl i =>
   cases y with
   | tup m=>obtain⟨b,its',rfl,rl',p'⟩:=bS I ry;rw[v_bl rx];exact⟨EqAt.bool_tuple i p' hu0,RcAt.bool_tuple i p' hu0⟩
   | fls m=>obtain⟨b,its',rfl,rl',p'⟩:=bR I ry;rw[v_bl rx];exact⟨EqAt.bool_list i p' hu0,RcAt.bool_list i p' hu0⟩
   | ref a=>cases hy
   | oth a=>cases hy
   | _=>exact ih (by omega) (by cases n<;>rfl) (by cases n<;>rfl) rx ry
  | int i =>
   cases y with
   | tup m=>obtain⟨b,its',rfl,rl',p'⟩:=bS I ry;obtain⟨t,rfl⟩:=v_int rx;exact⟨EqAt.int_tuple i t p' hu0,RcAt.int_tuple i t p' hu0⟩
   | fls m=>obtain⟨b,its',rfl,rl',p'⟩:=bR I ry;obtain⟨t,rfl⟩:=v_int rx;exact⟨EqAt.int_list i t p' hu0,RcAt.int_list i t p' hu0⟩
   | ref a=>cases hy
   | oth a=>cases hy
   | _=>exact ih (by omega) (by cases n<;>rfl) (by cases n<;>rfl) rx ry
  | str i =>
   cases y with
   | tup m=>obtain⟨b,its',rfl,rl',p'⟩:=bS I ry;obtain⟨t,rfl⟩:=v_str rx;exact⟨EqAt.str_tuple i t p' hu0,RcAt.str_tuple i t p' hu0⟩
   | fls m=>obtain⟨b,its',rfl,rl',p'⟩:=bR I ry;obtain⟨t,rfl⟩:=v_str rx;exact⟨EqAt.str_list i t p' hu0,RcAt.str_list i t p' hu0⟩
   | ref a=>cases hy
   | oth a=>cases hy
   | _=>exact ih (by omega) (by cases n<;>rfl) (by cases n<;>rfl) rx ry
end
end
section
variable {B:Bs}
section
variable {X:Cx}{pins:List (Addr×Obj)}{σ:L2.St}{H:Hp}{s:Shared}
open SeqAt in
theorem vD(I:Inv X pins σ H s):∀(n:Nat) {A:Around} {x y:PV} {u w:Value},A.units+n<cLine->flat n x=true->flat n y=true->RD X.K H x u->RD X.K H y w->RcNeAt A s u w (!deq x y):=by
 have sc:∀{x:PV} {u:Value},RD X.K H x u->(∀l,x≠.fls l)->RR X.K H x u:=fun {x u} r h=>by
  cases x with
  | fls l=>exact absurd rfl (h l)
  | _=>exact r
 have v_non:∀{u:Value},RD X.K H .non u->u=.none:=fun {u} r=>by
  obtain⟨v,r1,r2⟩:=sc r (by intro l z;cases z);simp only[RP]at r1;subst r1;exact r2
 have v_bl:∀{b:Bool} {u:Value},RD X.K H (.bl b) u->u=.bool b:=fun {b u} r=>by
  obtain⟨v,r1,r2⟩:=sc r (by intro l z;cases z);simp only[RP]at r1;subst r1;exact r2
 have v_int:∀{i:Int} {u:Value},RD X.K H (.int i) u->∃t,u=.int i t:=fun {b u} r=>by
  obtain⟨v,r1,r2⟩:=sc r (by intro l z;cases z);simp only[RP]at r1;subst r1;exact r2
 have v_str:∀{i:Str} {u:Value},RD X.K H (.str i) u->∃t,u=.str i t:=fun {b u} r=>by
  obtain⟨v,r1,r2⟩:=sc r (by intro l z;cases z);simp only[RP]at r1;subst r1;exact r2
 intro n
 induction n with
 | zero =>
  intro A x y u w hu hx hy rx ry;cases x with
  | non =>
   rw[v_non rx];cases y with
   | non=>rw[v_non ry];exact RcNeAt.none_none
   | bl b=>rw[v_bl ry];exact RcNeAt.none_bool b
   | int b=>obtain⟨t,rfl⟩:=v_int ry;exact RcNeAt.none_int b t
   | str b=>obtain⟨t,rfl⟩:=v_str ry;exact RcNeAt.none_str b t
   | _=>cases hy
  | bl a =>
   rw[v_bl rx];cases y with
   | non=>rw[v_non ry];exact RcNeAt.bool_none a
   | bl b=>rw[v_bl ry];exact RcNeAt.bool_bool a b
   | int b=>obtain⟨t,rfl⟩:=v_int ry;exact RcNeAt.bool_int a b t
   | str b=>obtain⟨t,rfl⟩:=v_str ry;exact RcNeAt.bool_str a b t
   | _=>cases hy
  | int a =>
   obtain⟨t0,rfl⟩:=v_int rx;cases y with
   | non=>rw[v_non ry];exact RcNeAt.int_none a t0
   | bl b=>rw[v_bl ry];exact RcNeAt.int_bool a t0 b
   | int b=>obtain⟨t,rfl⟩:=v_int ry;exact RcNeAt.int_int a t0 b t
   | str b=>obtain⟨t,rfl⟩:=v_str ry;exact RcNeAt.int_str a t0 b t
   | _=>cases hy
  | str a =>
   obtain⟨t0,rfl⟩:=v_str rx;cases y with
   | non=>rw[v_non ry];exact RcNeAt.str_none a t0
   | bl b=>rw[v_bl ry];exact RcNeAt.str_bool a t0 b
   | int b=>obtain⟨t,rfl⟩:=v_int ry;exact RcNeAt.str_int a t0 b t
   | str b=>obtain⟨t,rfl⟩:=v_str ry;exact RcNeAt.str_str a t0 b t
   | _=>cases hy
  | _=>cases hx
 | succ n ih =>
  intro A x y u w hu hx hy rx ry;have hu0:A.units<cLine:=by omega
  have hu1:A.in1.units+n<cLine:=by show A.units+1+n<cLine;omega
  cases x with
  | tup l =>
   obtain⟨a,its,rfl,rl,p⟩:=bS I rx;cases y with
   | non=>rw[v_non ry];exact RcNeAt.tuple_none p hu0
   | bl b=>rw[v_bl ry];exact RcNeAt.tuple_bool b p hu0
   | int b=>obtain⟨t,rfl⟩:=v_int ry;exact RcNeAt.tuple_int b t p hu0
   | str b=>obtain⟨t,rfl⟩:=v_str ry;exact RcNeAt.tuple_str b t p hu0
   | tup m =>
    obtain⟨b,its',rfl,rl',p'⟩:=bS I ry;have key:RcNeAt A s (.ref a) (.ref b) (!deq (.tup l) (.tup m)):=by
     have:=RcNeAt.tuples (e:=fun i=>deq (l.getD i .non) (m.getD i .non)) p p' hu0 fun j h1 h2=>by
      have h1':j<its.length:=by simpa using h1
      have h2':j<its'.length:=by simpa using h2
      obtain⟨x,ex,rx'⟩:=rl.get (F2 h1');obtain⟨y,ey,ry'⟩:=rl'.get (F2 h2');have q:=gS I n hu1 (GB.mp hx x (Gg ex)) (GB.mp hy y (Gg ey)) rx'.rd ry'.rd;have e1:l.getD j .non=x:=by rw[F7,ex];rfl
      have e2:m.getD j .non=y:=by rw[F7,ey];rfl
      rw[e1,e2];simpa using q.1
     have e:deq (.tup l) (.tup m)=((List.range (min its.toArray.size its'.toArray.size)).all (fun i=>deq (l.getD i .non) (m.getD i .non))&&its.toArray.size==its'.toArray.size):=by
      simp only[deq,cj,Gi,rl.length,rl'.length]
     rw[e];exact this
    exact key
   | fls m =>
    obtain⟨b,its',rfl,rl',p'⟩:=bR I ry;exact RcNeAt.tuple_list p p' hu0
   | _=>cases hy
  | fls l =>
   obtain⟨a,its,rfl,rl,p⟩:=bR I rx;cases y with
   | non=>rw[v_non ry];exact RcNeAt.list_none p hu0
   | bl b=>rw[v_bl ry];exact RcNeAt.list_bool b p hu0
   | int b=>obtain⟨t,rfl⟩:=v_int ry;exact RcNeAt.list_int b t p hu0
   | str b=>obtain⟨t,rfl⟩:=v_str ry;exact RcNeAt.list_str b t p hu0
   | tup m =>
    obtain⟨b,its',rfl,rl',p'⟩:=bS I ry;exact RcNeAt.list_tuple p p' hu0
   | fls m =>
    obtain⟨b,its',rfl,rl',p'⟩:=bR I ry;have key:RcNeAt A s (.ref a) (.ref b) (!deq (.fls l) (.fls m)):=by
     by_cases hs:its.length=its'.length
     ·have:=RcNeAt.lists (e:=fun i=>deq (l.getD i .non) (m.getD i .non)) p p' (by simpa using hs) hu0 fun j h1 h2=>by
       have h1':j<its.length:=by simpa using h1
       have h2':j<its'.length:=by simpa using h2
       obtain⟨x,ex,rx'⟩:=rl.get (F2 h1');obtain⟨y,ey,ry'⟩:=rl'.get (F2 h2');have q:=gS I n hu1 (GB.mp hx x (Gg ex)) (GB.mp hy y (Gg ey)) rx'.rd ry'.rd;have e1:l.getD j .non=x:=by rw[F7,ex];rfl
       have e2:m.getD j .non=y:=by rw[F7,ey];rfl
       rw[e1,e2];simpa using q.1
      have e:deq (.fls l) (.fls m)=(List.range its.toArray.size).all (fun i=>deq (l.getD i .non) (m.getD i .non)):=by
       have e0:l.length=m.length:=by rw[←rl.length,← rl'.length];exact hs
       simp[deq,cj,rl.length,e0]
      rw[e];exact this
     ·have e:deq (.fls l) (.fls m)=false:=by
       have e0:l.length≠m.length:=by rw[←rl.length,← rl'.length];exact hs
       simp[deq,cj,e0]
      rw[e];exact RcNeAt.lists_lengths p p' (by simpa using hs) hu0
    exact key
   | _=>cases hy
  | ref a=>cases hx
  | oth a=>cases hx
  | non =>
   cases y with
   | tup m=>obtain⟨b,its',rfl,rl',p'⟩:=bS I ry;rw[v_non rx];exact RcNeAt.none_tuple p' hu0
   | fls m=>obtain⟨b,its',rfl,rl',p'⟩:=bR I ry;rw[v_non rx];exact RcNeAt.none_list p' hu0
   | ref a=>cases hy
   | oth a=>cases hy
   | _=>exact ih (by omega) (by cases n<;>rfl) (by cases n<;>rfl) rx ry
  | bl i =>
   cases y with
   | tup m=>obtain⟨b,its',rfl,rl',p'⟩:=bS I ry;rw[v_bl rx];exact RcNeAt.bool_tuple i p' hu0
   | fls m=>obtain⟨b,its',rfl,rl',p'⟩:=bR I ry;rw[v_bl rx];exact RcNeAt.bool_list i p' hu0
   | ref a=>cases hy
   | oth a=>cases hy
   | _=>exact ih (by omega) (by cases n<;>rfl) (by cases n<;>rfl) rx ry
  | int i =>
   cases y with
   | tup m=>obtain⟨b,its',rfl,rl',p'⟩:=bS I ry;obtain⟨t,rfl⟩:=v_int rx;exact RcNeAt.int_tuple i t p' hu0
   | fls m=>obtain⟨b,its',rfl,rl',p'⟩:=bR I ry;obtain⟨t,rfl⟩:=v_int rx;exact RcNeAt.int_list i t p' hu0
   | ref a=>cases hy
   | oth a=>cases hy
   | _=>exact ih (by omega) (by cases n<;>rfl) (by cases n<;>rfl) rx ry
  | str i =>
   cases y with
   | tup m=>obtain⟨b,its',rfl,rl',p'⟩:=bS I ry;obtain⟨t,rfl⟩:=v_str rx;exact RcNeAt.str_tuple i t p' hu0
   | fls m=>obtain⟨b,its',rfl,rl',p'⟩:=bR I ry;obtain⟨t,rfl⟩:=v_str rx;exact RcNeAt.str_list i t p' hu0
   | ref a=>cases hy
   | oth a=>cases hy
   | _=>exact ih (by omega) (by cases n<;>rfl) (by cases n<;>rfl) rx ry
def RDv(K:PySem.W.Frag)(H:Hp)(d:PV)(x:V):Prop:=match d with
 | .fls l=>∃a vs,x=.ref a/\SqL K H a vs/\RPs K H l vs
 | d=>RP K H d x
theorem RDv.rd{K:PySem.W.Frag}{d:PV}{x:V}{u:Value}(h:RDv K H d x)(r:L2.RelV x u):RD K H d u:=by
 cases d with
 | fls l=>obtain⟨a,vs,rfl,q,rr⟩:=h;cases r;exact⟨a,vs,rfl,q,rr⟩
 | _=>exact⟨x,h,r⟩
def cU(x:PV)(H:PHp)(k:PV->Prop):Prop:=match x with
 | .ref a=>∃l,H a=some (.lst l)/\k (.fls l)
 | x=>k x
theorem cU.ex{K:PySem.W.Frag}{σ':St'}{x:PV}{v:V}{H':PHp}{k:PV->Prop}(h:cU x H' k)(s:SR K B σ' H' σ H)(r:RP K H x v):∃d,RDv K H d v/\k d:=by
 cases x with
 | ref a =>
  obtain⟨l,e,h⟩:=h;obtain⟨us,q,r2⟩:=s.hp _ _ e;simp only[RP]at r;exact⟨.fls l,⟨a,us,r,SqL.of q,r2⟩,h⟩
 | fls l =>
  simp only[RP]at r;obtain⟨a,us,e,q,r⟩:=r;exact⟨.fls l,⟨a,us,e,q.sq,r⟩,h⟩
 | non=>exact⟨.non,r,h⟩
 | bl b=>exact⟨.bl b,r,h⟩
 | int b=>exact⟨.int b,r,h⟩
 | str b=>exact⟨.str b,r,h⟩
 | tup b=>exact⟨.tup b,r,h⟩
 | oth b=>exact⟨.oth b,r,h⟩
def yD(K:PySem.W.Frag)(g:Bool->Bool):R2:=fun x y H Q=>∃d1 d2,flat 9 d1=true/\flat 9 d2=true/\RDv K H d1 x/\RDv K H d2 y/\Q (.bl (g (deq d1 d2))) H
theorem aG(hu:X.A.units+64<cLine):OpR X (compareOp .Eq) (yD X.K fun b=>b):=by
 intro pins s σ H x y v u Q I rx ry h;obtain⟨d1,d2,f1,f2,r1,r2,q⟩:=h;exact(gS I 9 (by omega) f1 f2 (r1.rd rx) (r2.rd ry)).2 _ _ _ _ ⟨.bl _,H,I,rfl,q⟩
theorem cg(hu:X.A.units+64<cLine):OpR X (compareOp .NotEq) (yD X.K fun b=>!b):=by
 intro pins s σ H x y v u Q I rx ry h;obtain⟨d1,d2,f1,f2,r1,r2,q⟩:=h;exact vD I 9 (by omega) f1 f2 (r1.rd rx) (r2.rd ry) _ _ _ _ ⟨.bl _,H,I,rfl,q⟩
def Be(g:Bool->Bool):R2':=fun x y H Q=>cU x H fun d1=>cU y H fun d2=>flat 9 d1=true/\flat 9 d2=true/\Q (.bl (g (deq d1 d2))) H
theorem aH{K:PySem.W.Frag}{g:Bool->Bool}:VR K B (Be g) (yD K g):=by
 intro σ' σ H' H x' y' x y Q' Q s rx ry h k;obtain⟨d1,r1,h1⟩:=cU.ex h s rx;obtain⟨d2,r2,f1,f2,q⟩:=cU.ex h1 s ry;exact⟨d1,d2,f1,f2,r1,r2,k _ H' _ H q (by simp[RP]) s (Ev.refl _ _)⟩
def yh(K:PySem.W.Frag)(g:Bool->Bool):R2:=fun x y H Q=>∃d p l us,flat 8 d=true/\RDv K H d x/\y=.ref p/\l.all (flat 8)=true/\RPs K H l us/\(SqL K H p us∨SqT K H p us)/\Q (.bl (g (l.any fun z=>deq z d))) H
open Classical in
theorem fP(I:Inv X pins σ H s){A:Around}{d:PV}{v:Value}{l:List PV}{its:List Value}(hu:A.units+20<cLine)(fd:flat 8 d=true)(rd:RD X.K H d v)(fl:l.all (flat 8)=true)(rl:RL X.K H l its) :
  ∃e:Value->Bool,(∀y,y∈its.toArray->SeqAt.EqAt A.in1 s y v (e y))/\its.toArray.any e=l.any fun z=>deq z d:=by
 refine⟨fun u=>decide (∃z,flat 8 z=true/\RD X.K H z u/\deq z d=true),fun y hy=>?_,?_⟩
 ·have hy':y∈its:=by simpa using hy
  obtain⟨i,hi⟩:=List.mem_iff_getElem?.mp hy';obtain⟨z,ez,rz⟩:=rl.get hi;have fz:=GB.mp fl z (Gg ez);have q:=(gS I 8 (A:=A.in1) (by show A.units+1+8<cLine;omega) fz fd rz.rd rd).1;have e:decide (∃z,flat 8 z=true/\RD X.K H z y/\deq z d=true)=deq z d:=by
   rw[HD,decide_eq_true_iff];constructor
   ·rintro⟨z',f',r',e'⟩;rw[jC I 8 fz f' rz.rd r'];exact e'
   ·intro e;exact⟨z,fz,rz.rd,e⟩
  show SeqAt.EqAt A.in1 s y v (decide _);rw[e];exact q
 ·rw[HD];simp only[List.any_toArray,Ip,decide_eq_true_iff];constructor
  ·rintro⟨u,hu',z,fz,rz,ez⟩;obtain⟨i,hi⟩:=List.mem_iff_getElem?.mp hu';obtain⟨z2,ez2,rz2⟩:=rl.get hi;have fz2:=GB.mp fl z2 (Gg ez2);refine⟨z2,Gg ez2,?_⟩;rw[jC I 8 fz2 fz rz2.rd rz];exact ez
  ·rintro⟨z,hz,ez⟩;obtain⟨i,hi⟩:=List.mem_iff_getElem?.mp hz;have hlt:i<its.length:=by
    have:=(Gj.mp hi).1;rw[rl.length];exact this
   obtain⟨z2,ez2,rz2⟩:=rl.get (F2 hlt);rw[hi]at ez2;cases ez2;exact⟨_,Gz hlt,z,GB.mp fl z hz,rz2.rd,ez⟩
theorem bL(hu:X.A.units+64<cLine):OpR X (compareOp .In) (yh X.K fun b=>b):=by
 intro pins s σ H x y v u Q I rx ry h;obtain⟨d,p,l,us,fd,rd,rfl,fl,rl,hq,q⟩:=h;cases ry;rcases hq with hq | hq
 ·obtain⟨its,rv,pl,_⟩:=I.list hq;obtain⟨e,h1,h2⟩:=fP I (A:=X.A) (by omega) fd (rd.rd rx) fl ⟨us,rl,rv⟩;exact SeqAt.in_listAt e pl.isList h1 (by rw[h2];exact⟨.bl _,H,I,rfl,q⟩)
 ·obtain⟨its,rv,pl,_⟩:=I.tuple hq;obtain⟨e,h1,h2⟩:=fP I (A:=X.A) (by omega) fd (rd.rd rx) fl ⟨us,rl,rv⟩;exact SeqAt.in_tupleAt e pl h1 (by rw[h2];exact⟨.bl _,H,I,rfl,q⟩)
theorem aZ(hu:X.A.units+64<cLine):OpR X (compareOp .NotIn) (yh X.K fun b=>!b):=by
 intro pins s σ H x y v u Q I rx ry h;obtain⟨d,p,l,us,fd,rd,rfl,fl,rl,hq,q⟩:=h;cases ry;rcases hq with hq | hq
 ·obtain⟨its,rv,pl,_⟩:=I.list hq;obtain⟨e,h1,h2⟩:=fP I (A:=X.A) (by omega) fd (rd.rd rx) fl ⟨us,rl,rv⟩;exact SeqAt.notIn_listAt e pl.isList h1 (by rw[h2];exact⟨.bl _,H,I,rfl,q⟩)
 ·obtain⟨its,rv,pl,_⟩:=I.tuple hq;obtain⟨e,h1,h2⟩:=fP I (A:=X.A) (by omega) fd (rd.rd rx) fl ⟨us,rl,rv⟩;exact SeqAt.notIn_tupleAt e pl h1 (by rw[h2];exact⟨.bl _,H,I,rfl,q⟩)
def zQ(g:Bool->Bool):R2':=fun x y H Q=>cU x H fun d=>cL y H fun l=>flat 8 d=true/\l.all (flat 8)=true/\Q (.bl (g (l.any fun z=>deq z d))) H
theorem bw{K:PySem.W.Frag}{g:Bool->Bool}:VR K B (zQ g) (yh K g):=by
 intro σ' σ H' H x' y' x y Q' Q s rx ry h k;obtain⟨d1,r1,h1⟩:=cU.ex h s rx;obtain⟨l,us,p,rfl,r2,hq,f1,f2,q⟩:=cL.ex h1 s ry;exact⟨d1,p,l,us,f1,r1,rfl,f2,r2,hq,k _ H' _ H q (by simp[RP]) s (Ev.refl _ _)⟩
def kH(g:Bool->Bool):R2':=fun x y H Q=>match y,x with
 | .non,.non=>Q (.bl (g true)) H
 | .non,.oth _=>False
 | .non,_=>Q (.bl (g false)) H
 | _,_=>False
theorem rE{K:PySem.W.Frag}{g:Bool->Bool}{x y:PV}{v w:V}{H':PHp}{Q':VK'}(h:kH g x y H' Q')(rx:RP K H x v)(ry:RP K H y w):w=.non/\Q' (.bl (g (decide (v=.non)))) H':=by
 cases y with
 | non =>
  simp only[RP]at ry;refine⟨ry,?_⟩;cases x with
  | non=>simp only[RP]at rx;subst rx;exact h
  | oth _=>exact h.elim
  | tup l =>
   simp only[RP]at rx;obtain⟨a,us,rfl,_⟩:=rx;exact h
  | fls l =>
   simp only[RP]at rx;obtain⟨a,us,rfl,_⟩:=rx;exact h
  | _=>simp only[RP]at rx;subst rx;exact h
 | _=>cases x<;>exact h.elim
theorem tR{K:PySem.W.Frag}:VR K B (kH fun b=>b) (fun x y H Q=>y=.non/\Q (.bl (decide (x=.non))) H):=by
 intro σ' σ H' H x' y' x y Q' Q s rx ry h k;obtain⟨e,q⟩:=rE h rx ry;exact⟨e,k _ H' _ H q (by simp[RP]) s (Ev.refl _ _)⟩
theorem uz{K:PySem.W.Frag}:VR K B (kH fun b=>!b) (fun x y H Q=>y=.non/\Q (.bl (!decide (x=.non))) H):=by
 intro σ' σ H' H x' y' x y Q' Q s rx ry h k;obtain⟨e,q⟩:=rE h rx ry;exact⟨e,k _ H' _ H q (by simp[RP]) s (Ev.refl _ _)⟩
inductive BT where | non | bool | int | str | list | tuple
def BT.nm:BT->String | .non=>"NoneType" | .bool=>"bool" | .int=>"int" | .str=>"str" | .list=>"list" | .tuple=>"tuple"
def BT.sub:BT->BT->Bool
 | .non,.non=>true | .bool,.bool=>true | .int,.int=>true | .str,.str=>true | .list,.list=>true | .tuple,.tuple=>true
 | .bool,.int=>true
 | _,_=>false
theorem xT(K:PySem.W.Frag)(t c:BT):PySem.W.kitOne K (.type t.nm) (.type c.nm)=some (t.sub c):=by
 cases t<;>cases c<;>kernel_rfl
def btV(K:PySem.W.Frag)(H:Hp)(t:BT)(x:V):Prop:=match t with
 | .non=>x=.non
 | .bool=>∃b,x=.bl b
 | .int=>∃b,x=.int b
 | .str=>∃b,x=.str b
 | .list=>∃a us,x=.ref a/\SqL K H a us
 | .tuple=>∃a us,x=.ref a/\SqT K H a us
theorem aW(c:BT):cA X (.builtin "isinstance") (fun xs H Q=>∃x t,xs=[x,.ty c.nm]/\btV X.K H t x/\Q (.bl (t.sub c)) H):=by
 intro pins s σ H xs us Q I r h;obtain⟨x,t,rfl,ht,q⟩:=h;obtain⟨u,w',rfl,rx,rc⟩:=vals2 r;have e1:w'=Value.type c.nm:=rc;subst e1;have k:=xT X.K t c;have fin:∀tk,EP X pins σ Q (.bool (t.sub c)) { s with toks:=tk }:=fun tk=>⟨.bl _,H,I.tok _,rfl,q⟩;cases t with
 | non=>cases (show x=V.non from ht);exact eE I rx .non k fin
 | bool=>obtain⟨b,rfl⟩:=ht;exact eE I rx (.bl b) k fin
 | int=>obtain⟨b,rfl⟩:=ht;exact eE I rx (.int b) k fin
 | str=>obtain⟨b,rfl⟩:=ht;exact eE I rx (.str b) k fin
 | list =>
  obtain⟨a,us,rfl,hq⟩:=ht;cases rx;obtain⟨its,rv,pl,_⟩:=I.list hq;obtain⟨o,e,hc,_⟩:=pl.isList;exact G9 PySem.W.kitx_list I.kIn ⟨o,e,hc⟩ k (fun z=>nomatch z) fin
 | tuple =>
  obtain⟨a,us,rfl,hq⟩:=ht;cases rx;obtain⟨its,rv,pl,_⟩:=I.tuple hq;obtain⟨o,e,hc,_⟩:=pl;exact G9 PySem.W.kitx_tuple I.kIn ⟨o,e,hc⟩ k (fun z=>nomatch z) fin
def cJ(x:PV)(H:PHp)(k:BT->Prop):Prop:=match x with
 | .non=>k .non
 | .bl _=>k .bool
 | .int _=>k .int
 | .str _=>k .str
 | .tup _=>k .tuple
 | .fls _=>k .list
 | .ref a=>∃l,H a=some (.lst l)/\k .list
 | _=>False
theorem cJ.ex{K:PySem.W.Frag}{σ':St'}{x:PV}{v:V}{H':PHp}{k:BT->Prop}(h:cJ x H' k)(s:SR K B σ' H' σ H)(r:RP K H x v):∃t,btV K H t v/\k t:=by
 cases x with
 | non=>simp only[RP]at r;exact⟨.non,r,h⟩
 | bl b=>simp only[RP]at r;exact⟨.bool,⟨b,r⟩,h⟩
 | int b=>simp only[RP]at r;exact⟨.int,⟨b,r⟩,h⟩
 | str b=>simp only[RP]at r;exact⟨.str,⟨b,r⟩,h⟩
 | tup l=>simp only[RP]at r;obtain⟨a,us,e,q,_⟩:=r;exact⟨.tuple,⟨a,us,e,q⟩,h⟩
 | fls l=>simp only[RP]at r;obtain⟨a,us,e,q,_⟩:=r;exact⟨.list,⟨a,us,e,q.sq⟩,h⟩
 | ref a =>
  simp only[RP]at r;obtain⟨l,e,h⟩:=h;obtain⟨us,q,_⟩:=s.hp _ _ e;exact⟨.list,⟨a,us,r,SqL.of q⟩,h⟩
 | oth _=>exact h.elim
def ze(c:BT):List PV->PHp->VK'->Prop:=fun xs H Q=>match xs with
 | [x,.oth (.ty n)]=>n=c.nm/\cJ x H fun t=>Q (.bl (t.sub c)) H
 | _=>False
theorem bM{K:PySem.W.Frag}(c:BT):VC K B (ze c) (fun xs H Q=>∃x t,xs=[x,.ty c.nm]/\btV K H t x/\Q (.bl (t.sub c)) H):=by
 intro σ' σ H' H xs' xs Q' Q s r h k;unfold ze at h;split at h
 ·rename_i x n;obtain⟨rfl,h⟩:=h;simp only[RPs,RP]at r;obtain⟨u,r1,rfl,rx,w,r2,rfl,rfl,rfl⟩:=r;obtain⟨t,bt,h⟩:=cJ.ex h s rx;exact⟨u,t,rfl,bt,k _ H' _ H h (by simp[RP]) s (Ev.refl _ _)⟩
 ·exact h.elim
theorem bN{x:Str}{n:String}{pos:Pos}(hg:Gl X x)(hm:X.mg x=none)(hv:bootBuiltins x=some (.type n))(hn:x≠"__name__":=by decide)(hd:(x==("__debug__":Str))=false:=by decide):PE' X B (.Name x pos) (uC (.oth (.ty n))) :=
 aV (t9 (v:=.ty n) hg hm hv rfl hn hd) fun _ _ _ h=>ox (fun _=>by simp[RP]) h
variable {e o:Expr}{es:List Expr}{to:TE'}{t:TA'}{name:Str}{apos cpos:Pos}
def isL(x:PV)(H1:PHp):Prop:=match x with
 | .ref a=>∃l,H1 a=some (.lst l)
 | _=>False
def uBM(r:PV->List PV->PHp->VK'->Prop)(to:TE')(t:TA'):TE':=fun σ H Q=>to σ H fun x H1=>isL x H1/\t σ H1 fun xs H2=>r x xs H2 Q
def CW(r:PV->List PV->PHp->VK'->Prop)(to:TE'):TE':=fun σ H Q=>to σ H fun x H1=>r x [] H1 Q
def VM(K:PySem.W.Frag)(B:Bs)(r':PV->List PV->PHp->VK'->Prop)(r:V->List V->Hp->VK->Prop):Prop:=∀(σ':St') (σ:L2.St) (H':PHp) (H:Hp) x' xs' x xs (Q':VK') (Q:VK),SR K B σ' H' σ H->RP K H x' x->RPs K H xs' xs->r' x' xs' H' Q' ->
 (∀v' H1' v H1,Q' v' H1'->RP K H1 v' v->SR K B σ' H1' σ H1->Ev H' H H1' H1->Q v H1)->r x xs H Q
theorem yl{K:PySem.W.Frag}{r':PV->List PV->PHp->VK'->Prop}{r:V->List V->Hp->VK->Prop}(v:VM K B r' r){σ:L2.St}{H:Hp}{Q:VK}(h:low K B (uBM r' to t) σ H Q):tBM K "list" r (low K B to) (qV K B t) σ H Q:=by
 obtain⟨σ',H',Q',s,h,k⟩:=h;refine⟨σ',H',_,s,h,fun x' H1' x H1 h1 rx s1 e1=>?_⟩;obtain⟨ty,h1⟩:=h1;constructor
 ·cases x' with
  | ref a =>
   obtain⟨l,e⟩:=ty;obtain⟨us,q,_⟩:=s1.hp _ _ e;simp only[RP]at rx;subst rx;exact .inl ⟨rfl,us,SqL.of q⟩
  | _=>exact ty.elim
 ·refine⟨σ',H1',_,s1,h1,fun xs' H2' xs H2 h2 r2 s2 e2=>?_⟩;exact v σ' σ H2' H2 x' xs' x xs Q' Q s2 (RP.kp K (e2.kp s1.hp) rx) r2 h2 fun v' H3' v H3 q rv s3 e3=>k v' H3' v H3 q rv s3 (e1.trans (e2.trans e3))
theorem df{id:String}{r':PV->List PV->PHp->VK'->Prop}{r:V->List V->Hp->VK->Prop}(slot:Slot "list" name id)(hty:typeOf (.builtin id)=pure (.type "method_descriptor"))(hm:MtR X id r)(v:VM X.K B r' r)(ho:PE' X B o to)(ha:PA' X B (e::es) t)
  (hbase:attributeBase o name X.env (eval o X.env)=eval o X.env:=by rfl)
  (hfew:((backTo cpos (starEach (e::es) X.env)).all (fun x=>!x.1)&&(backToKw cpos (keywordEach [] X.env)).all (fun x=>x.1.isSome)
   && decide ((e::es).length+([]:List Keyword).length+(if ([]:List Keyword).isEmpty then 0 else 1)<30))=true:=by rfl)
  (hline:(apos.endLine==cpos.line)=true:=by rfl) (hs:starEach (e::es) X.env=(false,eval e X.env)::starEach es X.env:=by rfl) (hplain:(backTo cpos (starEach es X.env)).any (·.1)=false:=by rfl) :
  PE' X B (.Call (.Attribute o name apos) (e::es) [] cpos) (uBM r' to t):=aV (A5 PySem.F.plainAttrs_list slot hty hm ho ha hbase hfew hline hs hplain) fun _ _ _ h=>yl v h
def jt:PV->List PV->PHp->VK'->Prop:=fun x vs H Q=>match x,vs with
 | .ref a,[y]=>∃l,H a=some (.lst l)/\l.length<sizeLine/\Q .non (put H a (.lst (l++[y])))
 | _,_=>False
theorem cx{K:PySem.W.Frag}:VM K B jt nS:=by
 intro σ' σ H' H x' xs' x xs Q' Q s rx r h k;unfold jt at h;split at h
 ·rename_i a y;obtain⟨l,e,hl,h⟩:=h;obtain⟨us,q,r2⟩:=s.hp _ _ e;simp only[RP,RPs]at rx r;obtain⟨u,r1,rfl,ru,rfl⟩:=r;subst rx;exact⟨a,us,u,rfl,rfl,q,by rw[RPs.length _ r2];exact hl,k _ _ _ _ h (by simp[RP]) (s.wr e (wrL s.hp e (RPs.append _ r2 (RPs.cons _ ru (RPs.nil _))))) (Ev.wr e)⟩
 ·exact h.elim
def j2:PV->List PV->PHp->VK'->Prop:=fun x vs H Q=>match x,vs with
 | .ref a,[.ref b]=>∃l m,H a=some (.lst l)/\H b=some (.lst m)/\l.length+m.length≤sizeLine/\Q .non (put H a (.lst (l++m)))
 | _,_=>False
theorem d7{K:PySem.W.Frag}:VM K B j2 nh:=by
 intro σ' σ H' H x' xs' x xs Q' Q s rx r h k;unfold j2 at h;split at h
 ·rename_i a b;obtain⟨l,m,e,e2,hl,h⟩:=h;obtain⟨us,q,r2⟩:=s.hp _ _ e;obtain⟨ws,q2,r3⟩:=s.hp _ _ e2;simp only[RP,RPs]at rx r;obtain⟨u,r1,rfl,ru,rfl⟩:=r;subst rx;subst ru;exact⟨a,b,us,ws,rfl,rfl,q,q2,by rw[RPs.length _ r2,RPs.length _ r3];exact hl,k _ _ _ _ h (by simp[RP]) (s.wr e (wrL s.hp e (RPs.append _ r2 r3))) (Ev.wr e)⟩
 ·exact h.elim
def FK:PV->List PV->PHp->VK'->Prop:=fun x vs H Q=>match x,vs with
 | .ref a,[]=>∃l y,H a=some (.lst l)/\l[l.length - 1]?=some y/\Q y (put H a (.lst l.dropLast))
 | _,_=>False
end
end
section
variable {B:Bs}
theorem oX(lo:Int)(n i:Nat)(h:i<n):(cH lo n).drop i=PV.int (lo+(i:Nat))::(cH lo n).drop (i+1):=by
 have hl:i<(cH lo n).length:=by simpa[cH]using h
 rw[HF hl];simp[cH]
theorem qB(lo:Int)(n:Nat):(cH lo n).drop n=[]:=by
 apply List.drop_of_length_le;simp[cH]
theorem dN{ok:PHp->Prop}{g:TG'}{tb:TS'}{D:dO}{lo:Int}{n:Nat}(Pv:Nat->St'->PHp->Prop)(hd:∀σ H,Pv n σ H->ok H/\D.nx σ H)
  (hs:∀(G:St'->PHp->Prop) i σ H,i<n->Pv i σ H->(∀σ' H',Pv (i+1) σ' H'->G σ' H')->ok H/\g (.int (lo+(i:Nat))) σ H fun σ2 H2=>tb { D with nx:=G,ct:=G,bk:=D.nx } σ2 H2)
  {σ:St'} {H:PHp} (h0:Pv 0 σ H):dQ ok g tb D (cH lo n) σ H:=by
 have key:∀(k i:Nat) {σ:St'} {H:PHp},i+k=n->Pv i σ H->dQ ok g tb D ((cH lo n).drop i) σ H:=by
  intro k
  induction k with
  | zero =>
   intro i σ H hk p;have:i=n:=hk;subst this;rw[qB];exact hd σ H p
  | succ k ih =>
   intro i σ H hk p;have hi:i<n:=hk▸Nat.lt_add_of_pos_right (Nat.succ_pos k);rw[oX lo n i hi];exact hs _ i σ H hi p fun σ' H' p'=>ih (i+1) ((Nat.succ_add_eq_add_succ i k).trans hk) p'
 exact key n 0 (Nat.zero_add n) h0
theorem cV{ok:PHp->Prop}{g:TG'}{tb:TS'}{D:dO}{xs:List PV}(Pv:Nat->St'->PHp->Prop)(hd:∀σ H,Pv xs.length σ H->ok H/\D.nx σ H)
  (hs:∀(G:St'->PHp->Prop) i x σ H,xs[i]?=some x->Pv i σ H->(∀σ' H',Pv (i+1) σ' H'->G σ' H')->ok H/\g x σ H fun σ2 H2=>tb { D with nx:=G,ct:=G,bk:=D.nx } σ2 H2)
  {σ:St'} {H:PHp} (h0:Pv 0 σ H):dQ ok g tb D xs σ H:=by
 have key:∀(k i:Nat) {σ:St'} {H:PHp},xs.length - i=k->i≤xs.length->Pv i σ H->dQ ok g tb D (xs.drop i) σ H:=by
  intro k
  induction k with
  | zero =>
   intro i σ H hk hi p;have:i=xs.length:=by omega
   subst this;rw[List.drop_length];exact hd σ H p
  | succ k ih =>
   intro i σ H hk hi p;have hl:i<xs.length:=by omega
   rw[HF hl];exact hs _ i _ σ H (F2 hl) p fun σ' H' p'=>ih (i+1) (by omega) (by omega) p'
 have:=key xs.length 0 (by omega) (by omega) h0;simpa using this
theorem vg{m:List Int}{z:Int}(h0:0≤z)(h1:z<m.length):atI (m.map PV.int) z=some (.int (m.getD z.toNat 0)):=by
 unfold atI ixN;rw[Gq h0,F0,Gq h1];show(m.map PV.int)[z.toNat]?=_;rw[Gs,F7];have:z.toNat<m.length:=by omega
 rw[F2 this];rfl
theorem qF(xs:List PV)(k:Nat):b9 xs none (some (k:Int))=xs.take k:=by
 unfold b9;rw[HT.dk,HT.gE,List.drop_zero,Nat.sub_zero];rw[List.take_eq_take_iff];omega
theorem w_V{v:PV}{k:PV->Prop}:lC (some (some v)) k=k v:=rfl
theorem w_B{b:Bool}{k:Bool->Prop}:dZ (.bl b) k=k b:=rfl
theorem w_I{b:Int}{k:Int->Prop}:cy (.int b) k=k b:=rfl
theorem w_O{b:PV}{k:PV->Prop}:h7 (some b) k=k b:=rfl
theorem C6{l:List PV}{H:PHp}{k:List PV->Prop}:cL (.tup l) H k=k l:=rfl
theorem Em{l:List PV}{H:PHp}{k:List PV->Prop}:cL (.fls l) H k=k l:=rfl
theorem ET{a:Addr}{H:PHp}{k:List PV->Prop}:cL (.ref a) H k=∃l,H a=some (.lst l)/\k l:=rfl
theorem EF{a:Addr}{H:PHp}{k:PV->Prop}:cU (.ref a) H k=∃l,H a=some (.lst l)/\k (.fls l):=rfl
theorem EM{H:PHp}{k:PV->Prop}:cU .non H k=k .non:=rfl
theorem DH{b:Bool}{H:PHp}{k:PV->Prop}:cU (.bl b) H k=k (.bl b):=rfl
theorem En{b:Int}{H:PHp}{k:PV->Prop}:cU (.int b) H k=k (.int b):=rfl
theorem CZ{b:Str}{H:PHp}{k:PV->Prop}:cU (.str b) H k=k (.str b):=rfl
theorem Ex{b:List PV}{H:PHp}{k:PV->Prop}:cU (.tup b) H k=k (.tup b):=rfl
theorem Ez{b:List PV}{H:PHp}{k:PV->Prop}:cU (.fls b) H k=k (.fls b):=rfl
theorem Fb{H:PHp}{k:BT->Prop}:cJ .non H k=k .non:=rfl
theorem CV{b:Bool}{H:PHp}{k:BT->Prop}:cJ (.bl b) H k=k .bool:=rfl
theorem EZ{b:Int}{H:PHp}{k:BT->Prop}:cJ (.int b) H k=k .int:=rfl
theorem C4{b:Str}{H:PHp}{k:BT->Prop}:cJ (.str b) H k=k .str:=rfl
theorem DU{b:List PV}{H:PHp}{k:BT->Prop}:cJ (.tup b) H k=k .tuple:=rfl
theorem EH{b:List PV}{H:PHp}{k:BT->Prop}:cJ (.fls b) H k=k .list:=rfl
theorem Eb{a:Addr}{H:PHp}{k:BT->Prop}:cJ (.ref a) H k=∃l,H a=some (.lst l)/\k .list:=rfl
theorem E5{b:Int}{k:Int->Prop}:intOf (.int b) k=k b:=rfl
theorem Fi{b:Bool}{k:Int->Prop}:intOf (.bl b) k=k (b2n b):=rfl
theorem EA{l:List PV}{lo hi:Option Int}{H:PHp}{Q:VK'}:sliceOf (.fls l) lo hi H Q=∀p,H p=none->Q (.ref p) (put H p (.lst (b9 l lo hi))):=rfl
theorem Dz{a:Addr}{lo hi:Option Int}{H:PHp}{Q:VK'}:sliceOf (.ref a) lo hi H Q=∃l,H a=some (.lst l)/\∀p,H p=none->Q (.ref p) (put H p (.lst (b9 l lo hi))):=rfl
theorem Ej{l:List PV}{lo hi:Option Int}{H:PHp}{Q:VK'}:sliceOf (.tup l) lo hi H Q=(¬(HT.sIx l.length 0 lo=0/\HT.sIx l.length l.length hi=l.length)/\Q (.tup (b9 l lo hi)) H):=rfl
theorem DX{l:List PV}{H:PHp}{R:It'->PHp->Prop}:uU (.tup l) H R=R ⟨l,fun _=>True⟩ H:=rfl
theorem FO{l:List PV}{H:PHp}{R:It'->PHp->Prop}:uU (.fls l) H R=R ⟨l,fun _=>True⟩ H:=rfl
theorem Fw{a:Addr}{H:PHp}{R:It'->PHp->Prop}:uU (.ref a) H R=∃l,H a=some (.lst l)/\R ⟨l,fun H=>H a=some (.lst l)⟩ H:=rfl
theorem w_1{f:PV->PHp->VK'->Prop}{x:PV}{H:PHp}{Q:VK'}:di f [x] H Q=f x H Q:=rfl
theorem zU{c:BT}{x:PV}{n:String}{H:PHp}{Q:VK'}:ze c [x,.oth (.ty n)] H Q=(n=c.nm/\cJ x H fun t=>Q (.bl (t.sub c)) H):=rfl
theorem D7{g:Bool->Bool}{H:PHp}{Q:VK'}:kH g .non .non H Q=Q (.bl (g true)) H:=rfl
theorem Dq{g:Bool->Bool}{a:Addr}{H:PHp}{Q:VK'}:kH g (.ref a) .non H Q=Q (.bl (g false)) H:=rfl
theorem FQ{g:Bool->Bool}{l:List PV}{H:PHp}{Q:VK'}:kH g (.tup l) .non H Q=Q (.bl (g false)) H:=rfl
theorem EI{g:Bool->Bool}{l:Int}{H:PHp}{Q:VK'}:kH g (.int l) .non H Q=Q (.bl (g false)) H:=rfl
theorem FR{g:Bool->Bool}{l:Bool}{H:PHp}{Q:VK'}:kH g (.bl l) .non H Q=Q (.bl (g false)) H:=rfl
theorem Dg{n:Nat}{t:fX}{l:List PV}{σ:St'}{H:PHp}{Q:St'->PHp->Prop}:Cm n t (.tup l) σ H Q=(l.length=n/\t l σ H Q):=rfl
theorem Et{t:TG'}{u:fX}{v:PV}{r:List PV}{σ:St'}{H:PHp}{Q:St'->PHp->Prop}:v5 t u (v::r) σ H Q=t v σ H fun σ' H'=>u r σ' H' Q:=rfl
theorem Fd{σ:St'}{H:PHp}{Q:St'->PHp->Prop}:yf [] σ H Q=(True/\Q σ H):=by simp[yf]
theorem FD{t:TA'}{σ:St'}{H:PHp}{R:It'->PHp->Prop}:wQ t σ H R=t σ H fun vs H1=>vB vs H1 R:=rfl
theorem BM{j:Int}{H1:PHp}{R:It'->PHp->Prop}:vB [.int j] H1 R=((-(2 ^ 62)≤j/\j<2 ^ 62)/\R ⟨cH 0 j.toNat,fun _=>True⟩ H1):=rfl
theorem Fh{t:TA'}{σ:St'}{H:PHp}{R:It'->PHp->Prop}:wm t σ H R=t σ H fun vs H1=>tY vs H1 R:=rfl
theorem B8{i j:Int}{H1:PHp}{R:It'->PHp->Prop}:tY [.int i,.int j] H1 R=((-(2 ^ 62)≤i/\i<2 ^ 62/\-(2 ^ 62)≤j/\j<2 ^ 62)/\R ⟨cH i (j - i).toNat,fun _=>True⟩ H1):=rfl
theorem C9{a:Addr}{y:PV}{H:PHp}{Q:VK'}:jt (.ref a) [y] H Q=∃l,H a=some (.lst l)/\l.length<sizeLine/\Q .non (put H a (.lst (l++[y]))):=rfl
theorem DP{a b:Addr}{H:PHp}{Q:VK'}:j2 (.ref a) [.ref b] H Q=∃l m,H a=some (.lst l)/\H b=some (.lst m)/\l.length+m.length≤sizeLine/\Q .non (put H a (.lst (l++m))):=rfl
theorem DT{a:Addr}{H:PHp}{Q:VK'}:FK (.ref a) [] H Q=∃l y,H a=some (.lst l)/\l[l.length - 1]?=some y/\Q y (put H a (.lst l.dropLast)):=rfl
theorem EG{r:PV->List PV->PHp->VK'->Prop}{to:TE'}{t:TA'}{σ:St'}{H:PHp}{Q:VK'}:uBM r to t σ H Q=to σ H fun x H1=>isL x H1/\t σ H1 fun xs H2=>r x xs H2 Q:=rfl
theorem EB{a:Addr}{H:PHp}:isL (.ref a) H=∃l,H a=some (.lst l):=rfl
theorem ai{n:Nat}(h:n≤1000):n≤sizeLine:=Nat.le_of_lt (bA h)
end
section
theorem ao{t u:TS'}{D:dO}{σ:St'}{H:PHp}(h:∀R:TS',R=u->oh t R D σ H):oh t u D σ H:=h u rfl
end
section
variable {B:Bs}
section
variable {X:Cx}{pins:List (Addr×Obj)}{σ:L2.St}{H H':Hp}{s:Shared}{h':Heap}{a C T:Addr}{fl:Value}
variable {M:Model}{E:Value->Shared->Prop}{Q:Unit->Shared->Prop}
end
end
end U
namespace U
open L2 PySem.W
section
variable {prog:Program}{w:World}{A:Around}{E:Value->Shared->Prop}{h:Heap}{g:Array GenState}{d:Drawn}{t:Nat}{os:OsState}{a C:Addr}{o:Obj}{K:Frag}
end
end U
namespace U
open L2
section
variable {B:Bs}
section
variable {P:Program}{w:World}{K:PySem.W.Frag}{mg:Str->Option Value}{base:Heap}
end
section
variable {X:Cx}{k:Nat}{f C D:Addr}{fd:FuncData}{ps:List Str}{sp:Sp'}{E:XK}{E':XK'}{x m n:Str}{p np pos apos cpos:Pos}{e o:Expr}{es:List Expr}{ta:TE'}{t:TA'}
end
end
section
variable {B:Bs}
section
variable {X:Cx}{pins:List (Addr×Obj)}{σ:L2.St}{H:Hp}{s:Shared}{a C T:Addr}{fl:Value}
abbrev mk(X:Cx)(e:Value):Cx:={ X with A:=X.A.mark (some e),calm:=false,xe:=fun _ _=>False }
end
end
section
variable {B:Bs}
section
variable {X:Cx}{k:Nat}{f C D:Addr}{fd:FuncData}{ps:List Str}{sp:Sp'}{x m n:Str}{p np pos apos cpos:Pos}{e o:Expr}{es:List Expr}{ta:TE'}{t:TA'}
end
end
section
def pr(p:Str×Bool):PV:=.tup [.str p.1,.bl p.2]
def told(xs:List (Str×Bool)):List PV:=(xs.filter (·.2)).map fun p=>PV.str p.1
end
section
def pairs:List (Str×TE')->List Bool->List PV
 |(n,_)::r,b::bs=>.tup [.str n,.bl b]::pairs r bs
 | _,_=>[]
end
end U
namespace U
theorem len0{P:List Value->Prop}(h:P [])(us:List Value)(hl:us.length=0):P us:=by
 cases us with
 | nil=>exact h
 | cons a r=>exact absurd hl (Iq _)
theorem BI{P:List Value->Prop}(h:∀a,P [a])(us:List Value)(hl:us.length=1):P us:=by
 cases us with
 | nil=>exact absurd hl.symm (Iq _)
 | cons a r=>exact len0 (P:=fun r=>P (a::r)) (h a) r (Nat.succ.inj hl)
theorem As{P:List Value->Prop}(h:∀a b,P [a,b])(us:List Value)(hl:us.length=2):P us:=by
 cases us with
 | nil=>exact absurd hl.symm (Iq _)
 | cons a r=>exact BI (P:=fun r=>P (a::r)) (h a) r (Nat.succ.inj hl)
theorem BG{P:List Value->Prop}(h:∀a b c,P [a,b,c])(us:List Value)(hl:us.length=3):P us:=by
 cases us with
 | nil=>exact absurd hl.symm (Iq _)
 | cons a r=>exact As (P:=fun r=>P (a::r)) (h a) r (Nat.succ.inj hl)
theorem BL{P:List Value->Prop}(h:∀a b c d,P [a,b,c,d])(us:List Value)(hl:us.length=4):P us:=by
 cases us with
 | nil=>exact absurd hl.symm (Iq _)
 | cons a r=>exact BG (P:=fun r=>P (a::r)) (h a) r (Nat.succ.inj hl)
end U
namespace U
open L2
variable {B:Bs}{X:Cx}
theorem rb:OpR X (compareOp .Eq) (rI0 fun i j=>.bl (i==j)):=tf fun _ _ _ _ _ _ _ q=>eq_int q
theorem pU{K:PySem.W.Frag}:VR K B (uI0 fun i j=>.bl (i==j)) (rI0 fun i j=>.bl (i==j)):=gj fun _ _ _=>by simp[RP]
end U
namespace L2
section
def cC(X:Cx)(N2:List Str)(scope:Scope)(cl:List (Str×Addr))(s0:Shared)(H0:Hp)(fp:List Addr)(ps:List (Addr×Obj)):Cx :=
 { X with N:=N2,s₀:=s0,H₀:=H0,env:=compEnvC scope cl s0.heap.objs.size X.env,outer:=X.stack,stack:=X.stack,ex:=fp,fn:=fun x=>(cl.lookup x).isNone,pn:=ps,xe:=fun _ _=>False }
def kD(nt:Nat)(js:List Nat)(σ:St):St:=List.replicate nt none++js.map fun j=>(σ[j]?).join
theorem cK{env:Env}:∀{names:List (Str×NameKind)} {x:Str},names.lookup x=some .free ->
  (names.map fun(n,k)=>if (k==NameKind.free&&env.scope.kind==.function&&env.kindOf n==some .cell)then(n,NameKind.cell)else(n,k)).lookup x=some .cell ∨
  (names.map fun(n,k)=>if (k==NameKind.free&&env.scope.kind==.function&&env.kindOf n==some .cell)then(n,NameKind.cell)else(n,k)).lookup x=some .free
 | [],_,h=>by simp at h
 |(n,k)::r,x,h=>by
  have ih:=@cK env r x;show List.lookup x ((if (k==NameKind.free&&env.scope.kind==.function&&env.kindOf n==some .cell)=true then(n,NameKind.cell)else(n,k))::_)=_∨List.lookup x ((if (k==NameKind.free&&env.scope.kind==.function&&env.kindOf n==some .cell)=true then(n,NameKind.cell)else(n,k))::_)=_;cases hx:x==n with
  | true =>
   simp only[GQ,hx]at h;cases h;by_cases hc:(NameKind.free==NameKind.free&&env.scope.kind==.function&&env.kindOf n==some .cell)=true
   ·rw[Gq hc];simp[GQ,hx]
   ·rw[Gp hc];simp[GQ,hx]
  | false =>
   simp only[GQ,hx]at h;by_cases hc:(k==NameKind.free&&env.scope.kind==.function&&env.kindOf n==some .cell)=true
   ·rw[Gq hc];simp only[GQ,hx];exact ih h
   ·rw[Gp hc];simp only[GQ,hx];exact ih h
structure cv (X:Cx) (N2:List Str) (nt:Nat) (js:List Nat) (scope:Scope) (cl:List (Str × Addr)) (sc:Scope):Prop where
 clos:closureFor scope X.env=pure cl
 sub:∀x c,cl.lookup x=some c->X.env.cells.lookup x=some c
 xsc:X.env.scope=sc
 kind:scope.kind=.function
 nocell:∀y∈scope.names,y.2≠.cell
 loc:∀y∈scope.names,y.2=.local->scope.names.lookup y.1=some .local
 has:∀y∈scope.names,y.2=.free->y.1∈cl.map (·.1)
 frs:∀x∈N2.drop nt,scope.names.lookup x=some .free/\sc.names.lookup x=some .cell
 len:N2.length=nt+js.length
 pl:∀(k j:Nat),js[k]?=some j->X.N[j]?=N2[nt+k]?
theorem mem_lookup{α:Type}:∀{l:List (Str×α)} {x:Str},x∈l.map (·.1)->∃c,l.lookup x=some c
 | [],_,h=>by simp at h
 |(n,k)::r,x,h=>by
  cases hx:x==n with
  | true=>exact⟨k,by simp[GQ,hx]⟩
  | false =>
   have h':x=n∨x∈r.map (·.1):=by simpa using h
   have hn:x≠n:=by intro e;subst e;simp at hx
   obtain⟨c,e⟩:=mem_lookup (h'.resolve_left hn);exact⟨c,by simp[GQ,hx,e]⟩
theorem lookup_mem{α:Type}:∀{l:List (Str×α)} {x:Str} {c:α},l.lookup x=some c->(x,c)∈l
 | [],_,_,h=>by simp at h
 |(n,k)::r,x,c,h=>by
  cases hx:x==n with
  | true =>
   simp only[GQ,hx]at h;have e:x=n:=by simpa using hx
   cases h;subst e;exact Ga
  | false =>
   simp only[GQ,hx]at h;exact Gb _ (lookup_mem h)
section
variable {X:Cx}{pins:List (Addr×Obj)}{σ:St}{H:Hp}{s:Shared}{N2:List Str}{nt:Nat}{js:List Nat}{scope sc:Scope}{cl:List (Str×Addr)}{fp:List Addr}
theorem cv.kindOf(O:cv X N2 nt js scope cl sc){x:Str}{C:Addr}(h:(compEnvC scope cl C X.env).kindOf x=some .cell∨(compEnvC scope cl C X.env).kindOf x=some .free):∃c,cl.lookup x=some c:=by
 have h':(relabel scope X.env).names.lookup x=some .cell∨(relabel scope X.env).names.lookup x=some .free:=h;have key:∀(k:NameKind),(relabel scope X.env).names.lookup x=some k->(k=.cell∨k=.free)->∃y∈scope.names,y.1=x/\(y.2=.cell∨y.2=.free):=fun k e hk=>by
  have m:=lookup_mem e;obtain⟨⟨n,k'⟩,hm,e'⟩:=F4.mp m;by_cases hc:(k'==NameKind.free&&X.env.scope.kind==.function&&X.env.kindOf n==some .cell)=true
  ·simp only[hc,if_true]at e';have e1:n=x:=congrArg Prod.fst e';refine⟨(n,k'),hm,e1,.inr ?_⟩;rw[HU,HU]at hc;exact Ir.mp hc.1.1
  ·have e'':(n,k')=(x,k):=by
    dsimp only at e';rw[Gp hc]at e';exact e'
   cases e'';exact⟨(x,k),hm,rfl,hk⟩
 obtain⟨y,hy,rfl,hk⟩:=h'.elim (fun e=>key _ e (.inl rfl)) fun e=>key _ e (.inr rfl);rcases hk with hk | hk
 ·exact absurd hk (O.nocell y hy)
 ·exact mem_lookup (O.has y hy hk)
theorem o3(O:cv X N2 nt js scope cl sc)(I:Inv X pins σ H s)(hf:∀b∈fp,fK X pins H b)(hlt:∀b∈fp,b<s.heap.objs.size):(cC X N2 scope cl s H fp (X.pn++pins)).Ok where
 mod:=I.ok.mod
 kind:=O.kind
 glob:=I.ok.glob
 blt:=I.ok.blt
 above:=F9 _
 inj:=fun x y c h1 h2=>I.ok.inj x y c (O.sub x c h1) (O.sub y c h2)
 has:=fun x h=>O.kindOf h
 cab:=fun x c h1 h2=>by
  have h1':(cl.lookup x).isNone=true:=h1;have h2':cl.lookup x=some c:=h2;rw[h2']at h1';cases h1'
 hd:=I.ok.hd
 frames:=I.ok.frames
 stk:=.inl rfl
 exf:=fun b hb=>⟨Gv (hlt b hb),fun x c e=>(hf b hb).2.2.2.2.1 x c (O.sub x c e)⟩
 bs:=I.bs
 bsz:=GU I.ok.bsz I.sz
 noex:=fun b o e hb=>by
  obtain⟨_,_,_,h3,_⟩:=hf b hb;rcases h3 with h3 | h3
  ·exact I.ok.noex b o e h3
  ·exact absurd (GA (Gd (I.ok.bs b o e).1) h3) (Io _)
 exfs:=fun b hb hs=>by
  obtain⟨_,h1,h2,_⟩:=hf b hb;rcases Gh.mp (I.stkSub b hs)with e | e
  ·exact h1 e
  ·exact h2 e
 funs:=I.stack
 frf:=I.stkFree
theorem mm(O:cv X N2 nt js scope cl sc)(I:Inv X pins σ H s)(hf:∀b∈fp,fK X pins H b)(hlt:∀b∈fp,b<s.heap.objs.size){h4:Heap}{t4:Nat}(hn:h4.Ns s.heap.objs.size fun _=>none)
  (hk:∀b o,s.heap.get? b=some o->h4.get? b=some o):Inv (cC X N2 scope cl s H fp (X.pn++pins)) [] (kD nt js σ) H { s with heap:=h4,toks:=t4 }:=by
 refine⟨o3 O I hf hlt,rfl,I.bare,Un.kept hk,⟨_,hn,fun i x v e1 e2 e3=>?_⟩,fun x c e=>?_,I.hok.fresh (F9 _),fun x c e=>I.freeC x c (O.sub x c e),fun p hp=>?_,I.hok.kept hk,?_⟩
 ·unfold kD at e2;by_cases hi:i<nt
  ·rw[Ib (by simpa using hi),List.getElem?_replicate]at e2;split at e2<;>cases e2
  ·obtain⟨k,rfl⟩:∃k,i=nt+k:=⟨i - nt,by omega⟩;rw[List.getElem?_append_right (by simp),HJ,Nat.add_sub_cancel_left,Gs]at e2;cases ej:js[k]? with
   | none=>rw[ej]at e2;cases e2
   | some j =>
    rw[ej]at e2;have e2':(σ[j]?).join=some v:=Gw e2;have eσ:σ[j]?=some (some v):=by
     cases q:σ[j]? with
     | none=>rw[q]at e2';cases e2'
     | some o=>rw[q]at e2';exact congrArg some e2'
    have eN:X.N[j]?=some x:=(O.pl k j ej).trans e1;have hx:x∈N2.drop nt:=by
     have:(N2.drop nt)[k]?=some x:=by rw[List.getElem?_drop];exact e1
     exact Gg this
    obtain⟨f1,f2⟩:=O.frs x hx;have vis:Vis X.env.scope x:=.inr (.inl (by rw[O.xsc];exact f2));obtain⟨m,hnX,hl⟩:=I.loc;obtain⟨u,r,l⟩:=hl j x v eN eσ vis;refine⟨u,r,.inr ⟨?_,?_⟩⟩
    ·exact cK f1
    ·rcases l with⟨k1,_⟩ |⟨_,c,ec,ic⟩
     ·have k2:sc.names.lookup x=some .local:=by rw[←O.xsc];exact k1
      rw[f2]at k2;cases k2
     ·obtain⟨c',ec'⟩:=mem_lookup (O.has (x,.free) (lookup_mem f1) rfl);have:=O.sub x c' ec';rw[ec]at this;cases this;obtain⟨o,ho,hd⟩:=ic;exact⟨c,ec',o,hk _ _ ho,hd⟩
 ·obtain⟨v,o,ho,hd⟩:=I.cell x c (O.sub x c e);exact⟨v,o,hk _ _ ho,hd⟩
 ·have hp':p∈X.pn++pins:=by
   have hp2:p∈(X.pn++pins)++[]:=hp
   rwa [GS]at hp2
  obtain⟨e,n,ne,nf,d⟩:=I.pin p hp';refine⟨hk _ _ e,n,Gv (Gd e),fun hb=>?_,d⟩;rcases Gh.mp (I.stkSub p.1 hb)with z | z
  ·exact ne z
  ·exact nf z
 ·unfold kD;show _=N2.length;rw[F3,HJ,F0,O.len]
theorem rO{σ':St}(I:Inv X pins σ H s)(hf:∀b∈fp,fK X pins H b)(J:Inv (cC X N2 scope cl s H fp (X.pn++pins)) pl σ' H' s'):Inv X pins σ H' s' :=
 I.call' (ch:=fp) J.os J.base J.hok J.bare fun b hb=>by
  obtain⟨h0,h1,h2,h3,h4,h5⟩:=hf b hb;exact⟨h3,h1,h4,h5⟩
end
end
section
def PIf(Y:Cx)(ifs:List Expr)(t:TT):Prop :=
 ∀(pins:List (Addr×Obj)) (s:Shared) (σ:St) (H:Hp) (Q:Bool->Hp->Prop),Inv Y pins σ H s->t σ H Q ->
  wpAny (model Y.prog Y.w) Y.A (forIn ifs true fun c r=>if r=true then do let ok←isTrue c Y.env (eval c Y.env);pure (ForInStep.yield ok)else pure (ForInStep.yield r)) (TP Y pins σ Q) Y.xe s
def DA:TT:=fun _ H Q=>Q true H
theorem vy:PIf Y [] DA:=fun _ _ _ H _ I h=>wpAny_tests_nil ⟨H,I,h⟩
theorem uf(h:PT Y c t):PIf Y [c] t:=fun pins s σ H Q I hw=>wpAny_tests_one (h pins s σ H Q I hw)
def vW(acc:Addr)(J:It)(g:TG)(tt:TT)(te:TE)(W:Nat->Nat->L2.St->Hp->Prop)(i m:Nat)(σ0:L2.St)(H:Hp):Prop :=
 J.go i H/\∀x H',J.yld i H x H'->g x σ0 H' fun σ3 H2=>tt σ3 H2 fun b H3 =>
  if b=true then te σ3 H3 fun y H4=>∃ys,H4 acc=some (.lst ys)/\ys.length<sizeLine/\∃m',m'<m/\W (i+1) m' σ3 (upd H4 acc (.lst (ys++[y])))
  else ∃m',m'<m/\W (i+1) m' σ3 H3
def mV(nt:Nat)(js:List Nat)(wi:TI)(g:TG)(tt:TT)(te:TE):TE:=fun σ H Q=>wi σ H fun J H1=>∀acc,H1 acc=none ->
 ∃W:Nat->Nat->L2.St->Hp->Prop,(∃m,W 0 m (kD nt js σ) (upd H1 acc (.lst [])))/\∀i m σ0 H,W i m σ0 H->(J.stop i H/\Q (.ref acc) H)∨vW acc J g tt te W i m σ0 H
structure rQ (Y:Cx) (tg:Expr) (ifs:List Expr) (elt:Expr) (g:TG) (tt:TT) (te:TE):Prop where
 tgt:PG Y tg g
 tst:PIf Y ifs tt
 elt:PE Y elt te
theorem jL(I:Nat->Shared->Prop)
  (turn:∀n s,I n s->wpAny (model prog w) A (pyNext it) (fun r s₁=>match r with
   | none=>R (.ok .next) s₁
   | some v=>wpAny (model prog w) A (letOwnedTupleGo target it v) (fun _ s₀=>wpAny (model prog w) A (assign target env v) (fun _ s₂ =>
     wpAny (model prog w) A (forIn ifs true fun c r=>if r=true then do let ok←isTrue c env (eval c env);pure (ForInStep.yield ok)else pure (ForInStep.yield r)) (fun ok s₃ =>
      if ok=true then wpAny (model prog w) A (eval elt env) (fun x s₄ =>
       wpAny (model prog w) A (call (.builtin "list.append") [acc,x]) (fun _ s₅=>∃m,m<n/\I m s₅) (fun _ _=>False) s₄) (fun _ _=>False) s₃
      else ∃m,m<n/\I m s₃) (fun _ _=>False) s₂) (fun _ _=>False) s₀) (fun _ _=>False) s₁) (fun _ _=>False) s)
  (n:Nat) (h:I n s) :
  codeAny (model prog w) A (.compLoop (.ListComp elt [⟨target,iter,ifs,0⟩] scope pos) 0 it acc env) R s:=by
 refine codeAny_loop rfl I (fun n s hI=>?_) n h;show wpAny _ A ((compTurn (.ListComp elt [⟨target,iter,ifs,0⟩] scope pos) 0 it acc env).onRaise (fun x=>do noteFrame x env;theTreesLotGoes x)) _ _ s;refine wpAny_noted ?_;rw[compTurn_list];refine F1 (wpAny_standAt (F1 (IE (turn n s hI) (fun r s₁ h₁=>?_) fun _ _ h'=>h'.elim)));cases r with
 | none=>exact F5 h₁
 | some v =>
  refine F1 (IE h₁ (fun _ s₀ h₀=>?_) fun _ _ h'=>h'.elim);refine F1 (IE h₀ (fun _ s₂ h₂=>F1 (IE h₂ (fun ok s₃ h₃=>?_) fun _ _ h'=>h'.elim)) fun _ _ h'=>h'.elim);cases ok with
  | false=>exact F5 ⟨rfl,h₃⟩
  | true =>
   exact F1 (F1 (IE h₃ (fun x s₄ h₄=>F1 (IE h₄ (fun _ s₅ h₅=>F5 (F5 ⟨rfl,h₅⟩)) fun _ _ h'=>h'.elim)) fun _ _ h'=>h'.elim))
section
variable {X:Cx}{pins:List (Addr×Obj)}{σ:St}{H:Hp}{s:Shared}{N2:List Str}{nt:Nat}{js:List Nat}{scope sc:Scope}{cl:List (Str×Addr)}{fp:List Addr}{elt iter tg:Expr}{ifs:List Expr}{pos:Pos}
 {wi:TI} {g:TG} {tt:TT} {te:TE}
theorem kr(O:cv X N2 nt js scope cl sc)(hc:X.calm=true)(B:∀(s0:Shared) (H0:Hp) (fp:List Addr) (ps:List (Addr×Obj)),rQ (cC X N2 scope cl s0 H0 fp ps) tg ifs elt g tt te)
  {it:Addr} {tn:Nat->Heap->Prop} {J:It} {E:Value->Shared->Prop} {Q:VK} {RR:Value->Addr->Result->Shared->Prop}
  (I:Inv X pins σ H s) (T:Turn X.prog X.w X.K tg J fp it tn) (st:tn 0 s.heap) (hf:∀b∈fp,fK X pins H b)
  (h:∀acc,H acc=none->∃W:Nat->Nat->L2.St->Hp->Prop,(∃m,W 0 m (kD nt js σ) (upd H acc (.lst [])))/\∀i m σ0 H,W i m σ0 H->(J.stop i H/\Q (.ref acc) H)∨vW acc J g tt te W i m σ0 H)
  (hRR:∀(acc C:Addr) (s':Shared) (H':Hp) (m:Str->Option Value),s'.heap.Ns C m->Inv X pins σ H' s'->H' C=none->C≠X.env.locals->X.s₀.heap.objs.size≤C->(∀x c,X.env.cells.lookup x=some c->c≠C)->(∀p∈X.pn++pins,p.1≠C)->Q (.ref acc) H'->RR (.ref acc) C (.ok .next) s') :
  wpAny (model X.prog X.w) X.A (newList []) (fun acc s₃=>wpAny (model X.prog X.w) X.A (newFunctionEnv scope X.env.globals cl [] X.env.qual none .none (some X.env)) (fun cenv s₄ =>
   codeAny (model X.prog X.w) X.A (.compStart (.ListComp elt [⟨tg,iter,ifs,0⟩] scope pos) 0 (.ref it) acc { cenv with scope:=relabel scope X.env }) (RR acc cenv.locals) s₄) E s₃) E s:=by
 have hlt:∀b∈fp,b<s.heap.objs.size:=fun b hb=>by
  obtain⟨o,e,_⟩:=T.obj _ _ st b hb;exact Gd e
 have hnA:H s.heap.objs.size=none:=I.hok.fresh (F9 _);obtain⟨W,⟨m0,w0⟩,turn⟩:=h s.heap.objs.size hnA;refine GO (wpAny_newFunctionEnv O.nocell (by intro y hy;simp at hy) (fun h₁ hns₁ hsb₁=>?_) O.kind);dsimp only at hns₁ hsb₁ ⊢;have I3:Inv X pins σ (upd H s.heap.objs.size (.lst [])) { s with heap:=s.heap.push { cls:=.type "list",dict:=none,data:=.seq ([]:List Value).toArray } } :=
  I.laid (t':=s.toks) (fun b u e=>F6 _ e) (F9 _) ⟨by show 0≤sizeLine;exact HQ _,[],0,.nil,Gm _ rfl⟩
 generalize hs3:({ s with heap:=s.heap.push { cls:=.type "list",dict:=none,data:=.seq ([]:List Value).toArray } }:Shared)=s3 at I3;have e3:s3.heap=s.heap.push { cls:=.type "list",dict:=none,data:=.seq ([]:List Value).toArray }:=by rw[←hs3]
 rw[←e3]at hns₁ hsb₁ ⊢;have et:s3.toks=s.toks:=by rw[←hs3]
 have hf3:∀b∈fp,fK X pins (upd H s.heap.objs.size (.lst [])) b:=fun b hb=>by
  obtain⟨f0,f⟩:=hf b hb;exact⟨by rw[aR (Gv (hlt b hb))];exact f0,f⟩
 have hlt3:∀b∈fp,b<s3.heap.objs.size:=fun b hb=>by rw[e3,Heap.size_push];exact Ih (hlt b hb)
 have hk4:∀b o,s3.heap.get? b=some o->h₁.get? b=some o:=fun b o e=>hsb₁.extBut b o (Gv (Gd e)) (F6 _ e);have hns':h₁.Ns s3.heap.objs.size fun _=>none:=hns₁;have I4:=mm (t4:=s3.toks+([]:List (Str×Value)).length) O I3 hf3 hlt3 hns' hk4;have st4:tn 0 h₁:=T.keep _ _ _ st fun b hb o e=>hk4 b o (by rw[e3];exact F6 _ e);have B4:=B s3 (upd H s.heap.objs.size (.lst [])) fp (X.pn++pins);generalize hY:cC X N2 scope cl s3 (upd H s.heap.objs.size (.lst [])) fp (X.pn++pins)=Y at I4 B4;have yP:Y.prog=X.prog:=by rw[←hY];rfl
 have yw:Y.w=X.w:=by rw[←hY];rfl
 have yK:Y.K=X.K:=by rw[←hY];rfl
 have yA:Y.A=X.A:=by rw[←hY];rfl
 have yc:Y.calm=true:=by rw[←hY];exact hc
 have yx:Y.xe=fun _ _=>False:=by rw[←hY];rfl
 have ye:Y.env=compEnvC scope cl s3.heap.objs.size X.env:=by rw[←hY];rfl
 have fpY:∀{H':Hp},(∀b∈fp,H' b=none)->∀b∈fp,fK Y [] H' b:=fun hn b hb=>by
  obtain⟨f0,f1,f2,f3,f4,f5⟩:=hf3 b hb;rw[←hY];refine⟨hn b hb,Gv (hlt3 b hb),fun hs=>?_,.inl hb,fun x c e=>f4 x c (O.sub x c e),fun p hp=>?_⟩
  ·rcases Gh.mp (I3.stkSub b hs)with e | e
   ·exact f1 e
   ·exact f2 e
  ·have hp2:p∈(X.pn++pins)++[]:=hp;rw[GS]at hp2;exact f5 p hp2
 have fin:∀{σ':St} {H':Hp} {s':Shared} {pl:List (Addr×Obj)},Inv Y pl σ' H' s'->Q (.ref s.heap.objs.size) H'->RR (.ref s.heap.objs.size) s3.heap.objs.size (.ok .next) s':=fun {σ' H' s' pl} I' q=>by
  have J':Inv X pins σ H' s':=rO I3 hf3 (hY▸I');obtain⟨m,hn,_⟩:=I'.loc;have hfr:=I'.free;rw[ye]at hn hfr;refine hRR _ _ s' H' m hn J' hfr (Nat.ne_of_gt I3.lt) I3.sz (fun x c e z=>?_) (fun p hp z=>?_) q
  ·obtain⟨v,q⟩:=I3.cell x c e;exact absurd (GA q.lt (by rw[z];exact F9 _)) (Io _)
  ·exact absurd (GA (Gd (I3.pin p hp).1) (by rw[z];exact F9 _)) (Io _)
 have loop:∀s4:Shared,s4={ s3 with heap:=h₁,toks:=s3.toks+([]:List (Str×Value)).length } ->
   codeAny (model X.prog X.w) X.A (.compLoop (.ListComp elt [⟨tg,iter,ifs,0⟩] scope pos) 0 (.ref it) (.ref s.heap.objs.size) (compEnvC scope cl s3.heap.objs.size X.env)) (RR (.ref s.heap.objs.size) s3.heap.objs.size) s4:=by
  rintro s4 rfl;refine jL (fun n s'=>∃i σ0 H',Inv Y [] σ0 H' s'/\tn i s'.heap/\(∀b∈fp,H' b=none)/\W i n σ0 H') ?_ m0
   ⟨0,_,_,I4,st4,fun b hb=>(hf3 b hb).1,w0⟩
  rintro n s5 ⟨i,σ5,H5,I5,st5,fr5,w5⟩;rcases turn i n σ5 H5 w5 with⟨stop,q⟩ |⟨go,step⟩
  ·have r:=T.done Y yP yw yK yc i [] s5 _ H5 (fun _ _=>False) I5 (fpY fr5) st5 stop;rw[yA]at r;refine thn r fun r s6 y_=>?_;obtain⟨hr,I6⟩:=y_;subst hr;exact fin I6 q
  ·have r:=T.item Y yP yw yK yc i [] s5 _ H5 (fun _ _=>False) I5 (fpY fr5) st5 go;rw[yA]at r;refine thn r fun r s6 y_=>?_;obtain⟨u,hr,h6⟩:=y_;subst hr;refine thn h6 fun _ s7 y_=>?_;obtain⟨x,H7,I7,r7,y7,st7,fr7⟩:=y_;have I7':=I7.pinned (fpY fr7) (T.obj _ _ st7);have r:=B4.tgt _ s7 _ H7 x u _ I7' r7 (step x H7 y7);rw[yP,yw,yA,yx,ye]at r;refine thn r fun _ s8 y_=>?_;obtain⟨σ8,H8,I8,q8⟩:=y_;have r:=B4.tst _ s8 σ8 H8 _ I8 q8;rw[yP,yw,yA,yx,ye]at r;refine thn r fun ok s9 y_=>?_;obtain⟨H9,I9,q9⟩:=y_;have back:∀{s':Shared} {H':Hp},Inv Y ([]++iz fp s7.heap) σ8 H' s'->(Inv Y [] σ8 H' s'/\tn (i+1) s'.heap/\∀b∈fp,H' b=none):=fun {s' H'} I'=>by
    refine⟨I'.unpinned,T.keep _ _ _ st7 fun b hb o e=>(I'.pin (b,o) (Gy _ (Gy _ (dz hb e)))).1,fun b hb=>?_⟩;obtain⟨o,e,d⟩:=T.obj _ _ st7 b hb;exact(I'.pin (b,o) (Gy _ (Gy _ (dz hb e)))).2.1
   cases ok with
   | false =>
    have q9':∃m',m'<n/\W (i+1) m' σ8 H9:=q9;obtain⟨m',hm,w9⟩:=q9';obtain⟨b1,b2,b3⟩:=back I9;show ∃m,m<n/\_;exact⟨m',hm,i+1,σ8,H9,b1,b2,b3,w9⟩
   | true =>
    have q9':te σ8 H9 fun y H4=>∃ys,H4 s.heap.objs.size=some (.lst ys)/\ys.length<sizeLine/\∃m',m'<n/\W (i+1) m' σ8 (upd H4 s.heap.objs.size (.lst (ys++[y]))):=q9;have r:=B4.elt _ s9 σ8 H9 _ I9 q9';rw[yP,yw,yA,yx,ye]at r;show wpAny _ _ (eval elt _) _ _ s9;refine thn r fun y s10 y_=>?_;obtain⟨yv,H10,I10,r10,q10⟩:=y_;obtain⟨ys,a1,a2,m',hm,w10⟩:=q10;have r:=bY (X:=Y) _ s10 σ8 H10 (.ref s.heap.objs.size) [yv] (.ref s.heap.objs.size) [y] (fun _ H'=>H'=upd H10 s.heap.objs.size (.lst (ys++[yv]))) I10 rfl (.cons r10 .nil) ⟨_,ys,yv,rfl,rfl,a1,a2,rfl⟩;rw[yP,yw,yA,yx]at r;refine thn r fun _ s11 y_=>?_;obtain⟨_,H11,I11,_,e11⟩:=y_;subst e11;obtain⟨b1,b2,b3⟩:=back I11;exact⟨m',hm,i+1,σ8,_,b1,b2,b3,w10⟩
 have st4':tn 0 ({ s3 with heap:=h₁,toks:=s3.toks+([]:List (Str×Value)).length }:Shared).heap:=st4;have hs4:({ s with heap:=h₁,toks:=s.toks+([]:List (Str×Value)).length }:Shared)={ s3 with heap:=h₁,toks:=s3.toks+([]:List (Str×Value)).length }:=by rw[←hs3]
 exact codeAny_compStart_list (loop _ hs4) (T.self _ 0 _ _ _ st4 (loop _ hs4))
theorem kE(O:cv X N2 nt js scope cl sc)(hc:X.calm=true)(hi:PI X tg iter wi)(B:∀(s0:Shared) (H0:Hp) (fp:List Addr) (ps:List (Addr×Obj)),rQ (cC X N2 scope cl s0 H0 fp ps) tg ifs elt g tt te)
  (hs:∀x,foldedSetIterable iter X.env x=pure x:=by intro _;rfl):PE X (.ListComp elt [⟨tg,iter,ifs,0⟩] scope pos) (mV nt js wi g tt te):=by
 intro pins s σ H Q I h;rw[eval_ListComp];refine wpAny_comprehension_free (use:=none) rfl hs O.clos O.kind O.loc (thn (hi pins s σ H _ I h) fun xv s1 h1=>thn h1 fun itv s2 h2=>?_);obtain⟨it,fp,tn,J,H2,e,I2,T,st2,f2,q⟩:=h2;subst e;refine kr (RR:=fun acc C=>compPost (model X.prog X.w) X.A X.xe none (EP X pins σ Q) acc C) O hc B I2 T st2 f2 q ?_;intro acc C s' H' m hn J' c1 c2 c3 c4 c5 q';refine⟨m,hn,fun h' hsb=>⟨.ref acc,H',?_,rfl,q'⟩⟩;exact J'.turned (t':=s'.toks) (fun b o hb e=>hsb.extBut b o hb e) c1 (Ne.symm c2 |> fun z=>fun y=>z y.symm) (.inr c3) c4 c5
theorem kI{i:Nat}{y:Str}{py spos:Pos}(hN:X.N.Nodup)(hy:X.N[i]?=some y)(hl:Loc X.env.scope y)(O:cv X N2 nt js scope cl sc)(hc:X.calm=true)(hi:PI X tg iter wi)
  (B:∀(s0:Shared) (H0:Hp) (fp:List Addr) (ps:List (Addr×Obj)),rQ (cC X N2 scope cl s0 H0 fp ps) tg ifs elt g tt te)
  (hsw:swapsWith (.ListComp elt [⟨tg,iter,ifs,0⟩] scope pos) (some (.Name y py)) spos.line X.env=pure true:=by rfl)
  (hs:∀x,foldedSetIterable iter X.env x=pure x:=by intro _;rfl) (hfn:X.fn y=true∨X.env.scope.names.lookup y=some .local:=by first | exact .inl rfl | exact .inr rfl | assumption) :
  PS X (.Assign [.Name y py] (.ListComp elt [⟨tg,iter,ifs,0⟩] scope pos) spos) (vb (mV nt js wi g tt te) (mO i)):=by
 intro pins s σ H D I h;rw[exec_Assign_Name_used _ _ _ _ hsw];refine F1 (wpAny_standAt (F1 ?_));show wpAny _ X.A (do let _←comprehension (.ListComp elt [⟨tg,iter,ifs,0⟩] scope pos) scope X.env _ (newList []) false (eval iter X.env) (some (assign (.Name y py) X.env))) _ _ s;refine F1 (IE (wpAny_comprehension_free (use:=some (assign (.Name y py) X.env)) (Q:=fun _ s'=>SP X pins D .next s') rfl hs O.clos O.kind O.loc
  (thn (hi pins s σ H _ I h) fun xv s1 h1=>thn h1 fun itv s2 h2=>?_)) (fun _ s' hq=>F5 (F5 hq)) fun _ _ e=>e)
 obtain⟨it,fp,tn,J,H2,e,I2,T,st2,f2,q⟩:=h2;subst e;refine kr (Q:=fun v H1=>mO i v σ H1 D.nx) (RR:=fun acc C=>compPost (model X.prog X.w) X.A X.xe (some (assign (.Name y py) X.env)) (fun _ s'=>SP X pins D .next s') acc C) O hc B I2 T st2 f2 q ?_;intro acc C s' H' m hn J' c1 c2 c3 c4 c5 q';show wpAny _ X.A (assign (.Name y py) X.env (.ref acc)) _ _ _;refine wpAny_assign_Name (iS (v:=.ref acc) J' hN hy hl rfl (fun s2 I2' ⟨a,sb,ha⟩=>?_) hfn);have hCa:C≠a:=by
  rcases ha with ha | ha
  ·rw[ha];exact c2
  ·exact fun z=>c4 y a ha z.symm
 refine⟨m,hn.sameBut sb hCa,fun h' hsb=>⟨_,H',?_,q'⟩⟩;exact I2'.turned (t':=s2.toks) (fun b o hb e=>hsb.extBut b o hb e) c1 c2 (.inr c3) c4 c5
end
end
end L2
namespace U
open L2
section
variable {B:Bs}{X:Cx}{pos:Pos}
def uF(nt:Nat)(js:List Nat)(σ:St'):St':=List.replicate nt none++js.map fun j=>(σ[j]?).join
theorem SR.sig{K:PySem.W.Frag}(s:SR K B σ' H' σ H)(nt:Nat)(js:List Nat):SR K B (uF nt js σ') H' (kD nt js σ) H:=by
 refine⟨by simp[uF,kD],fun i v' e=>?_,s.hp,s.ev⟩;unfold uF at e;unfold kD;by_cases hi:i<nt
 ·rw[Ib (by simpa using hi),List.getElem?_replicate]at e;split at e<;>cases e
 ·rw[List.getElem?_append_right (by simp;omega),HJ,Gs]at e ⊢;cases ej:js[i - nt]? with
  | none=>rw[ej]at e;cases e
  | some j =>
   rw[ej]at e;have e2:(σ'[j]?).join=some v':=Gw e;cases q:σ'[j]? with
   | none=>rw[q]at e2;cases e2
   | some o =>
    rw[q]at e2;have e3:σ'[j]?=some (some v'):=by rw[q];exact congrArg some e2
    obtain⟨v,a,b⟩:=s.loc j v' e3;exact⟨v,by show some ((σ[j]?).join)=_;rw[a];rfl,b⟩
def dG(ok:PHp->Prop)(g:TG')(tt:TT')(te:TE')(acc:Addr)(Q:VK'):List PV->St'->PHp->Prop
 | [],σ,H=>ok H/\Q (.ref acc) H
 | x::r,σ,H=>ok H/\g x σ H fun σ3 H2=>tt σ3 H2 fun b H3=>cif b (te σ3 H3 fun y H4=>∃l,H4 acc=some (.lst l)/\l.length<sizeLine/\dG ok g tt te acc Q r σ3 (put H4 acc (.lst (l++[y])))) (dG ok g tt te acc Q r σ3 H3)
def fu(nt:Nat)(js:List Nat)(wi:TI')(g:TG')(tt:TT')(te:TE'):TE':=fun σ H Q=>wi σ H fun J H1=>∀acc,H1 acc=none->dG J.ok g tt te acc Q J.items (uF nt js σ) (put H1 acc (.lst []))
def wV(Y:Cx)(B:Bs)(ifs:List Expr)(t:TT'):Prop:=PIf Y ifs (iD Y.K B t)
def Am:TT':=fun _ H Q=>Q true H
theorem aY:wV Y B [] Am:=fun pins s σ H Q I ⟨σ',H',Q',sr,h,k⟩=>vy pins s σ H Q I (k true H' H h sr (Ev.refl _ _))
theorem bH(h:PT' Y B c t):wV Y B [c] t:=uf h
theorem kW{K:PySem.W.Frag}(h:low K B (fu nt js wi g tt te) σ H Q) :
  mV nt js (AE K B wi) (lowG K B g) (iD K B tt) (low K B te) σ H Q:=by
 obtain⟨σ',H',Q',s,h,k⟩:=h;refine⟨σ',H',_,s,h,fun J' H1' J H1 h1 wk s1 e1 acc ha=>?_⟩;have h1:=h1 acc (s1.hp.free ha);have sn:SR K B σ' (put H1' acc (.lst [])) σ (upd H1 acc (.lst [])):=s1.new ha ⟨[],bh,RPs.nil _⟩;have en:Ev H1' H1 (put H1' acc (.lst [])) (upd H1 acc (.lst [])):=Ev.new ha;refine⟨fun i m σ2 H2=>i≤J'.items.length/\m=J'.items.length - i/\∃σ2' H2',SR K B σ2' H2' σ2 H2/\SR K B σ' H2' σ H2/\Ev H1' H1 H2' H2/\dG J'.ok g tt te acc Q' (J'.items.drop i) σ2' H2',
  ⟨J'.items.length,HQ _,by simp,_,_,sn.sig nt js,sn,en,h1⟩,?_⟩
 rintro i m σ2 H2 ⟨hi,rfl,σ2',H2',s2,so,e2,h2⟩;have k2:=e2.kp s1.hp;by_cases hlt:i<J'.items.length
 ·obtain⟨x',hx⟩:∃x',J'.items[i]?=some x':=⟨_,F2 hlt⟩;have hd:J'.items.drop i=x'::J'.items.drop (i+1):=by
   rw[HF hlt];rw[F2 hlt]at hx;cases hx;rfl
  rw[hd]at h2;obtain⟨ok2,h2⟩:=(show J'.ok H2'/\_ from h2);refine .inr ⟨wk.go H2' H2 i k2 s2.hp ok2 hlt,fun x H3 y=>?_⟩;obtain⟨rfl,rx⟩:=wk.yld H2' H2 i x H3 k2 s2.hp ok2 y;refine⟨x',σ2',H2',_,rx x' hx,s2,h2,fun σ3' H3' σ3 H3 h3 s3 e3=>⟨σ3',H3',_,s3,h3,fun b H4' H4 h4 s4 e4=>?_⟩⟩;cases b with
  | false =>
   have e24:=e3.trans e4;exact ix ⟨J'.items.length - (i+1),by omega,hlt,rfl,σ3',H4',s4,so.kp e24 s4.hp,e2.trans e24,h4⟩
  | true =>
   refine iB ⟨σ3',H4',_,s4,h4,fun y' H5' y H5 h5 ry5 s5 e5=>?_⟩;obtain⟨l,a1,a2,h5⟩:=h5;have e25:=(e3.trans e4).trans e5;obtain⟨us,q1,q2⟩:=s5.hp _ _ a1;have wr:=wrL s5.hp a1 (RPs.append _ q2 (RPs.cons _ ry5 (RPs.nil _)));refine⟨us,q1,by rw[RPs.length _ q2];exact a2,J'.items.length - (i+1),by omega,hlt,rfl,σ3',_,s5.wr a1 wr,(so.kp e25 s5.hp).wr a1 wr,(e2.trans e25).trans (Ev.wr a1),h5⟩
 ·have hi':i=J'.items.length:=by omega
  subst hi';rw[List.drop_length]at h2;obtain⟨ok2,h2⟩:=(show J'.ok H2'/\_ from h2);exact .inl ⟨wk.stop H2' H2 _ k2 s2.hp ok2 (F9 _),k _ _ _ _ h2 (by simp[RP]) so (e1.trans e2)⟩
section
variable {N2:List Str}{nt:Nat}{js:List Nat}{scope sc:Scope}{cl:List (Str×Addr)}{elt iter tg:Expr}{ifs:List Expr}{wi:TI'}{g:TG'}{tt:TT'}{te:TE'}
structure fU (Y:Cx) (B:Bs) (tg:Expr) (ifs:List Expr) (elt:Expr) (g:TG') (tt:TT') (te:TE'):Prop where
 tgt:PG' Y B tg g
 tst:wV Y B ifs tt
 elt:PE' Y B elt te
theorem u7(O:cv X N2 nt js scope cl sc)(hc:X.calm=true)(hi:PI' X B tg iter wi)(b:∀(s0:Shared) (H0:Hp) (fp:List Addr) (ps:List (Addr×Obj)),fU (cC X N2 scope cl s0 H0 fp ps) B tg ifs elt g tt te)
  (hs:∀x,foldedSetIterable iter X.env x=pure x:=by intro _;rfl):PE' X B (.ListComp elt [⟨tg,iter,ifs,0⟩] scope pos) (fu nt js wi g tt te) :=
 aV (kE (g:=lowG X.K B g) (tt:=iD X.K B tt) (te:=low X.K B te) O hc hi (fun s0 H0 fp ps=>⟨(b s0 H0 fp ps).tgt,(b s0 H0 fp ps).tst,(b s0 H0 fp ps).elt⟩) hs) fun _ _ _ h=>kW h
theorem vn{i:Nat}{y:Str}{py spos:Pos}(hN:X.N.Nodup)(hy:X.N[i]?=some y)(hl:Loc X.env.scope y)(O:cv X N2 nt js scope cl sc)(hc:X.calm=true)(hi:PI' X B tg iter wi)
  (b:∀(s0:Shared) (H0:Hp) (fp:List Addr) (ps:List (Addr×Obj)),fU (cC X N2 scope cl s0 H0 fp ps) B tg ifs elt g tt te)
  (hsw:swapsWith (.ListComp elt [⟨tg,iter,ifs,0⟩] scope pos) (some (.Name y py)) spos.line X.env=pure true:=by rfl)
  (hs:∀x,foldedSetIterable iter X.env x=pure x:=by intro _;rfl) (hfn:X.fn y=true∨X.env.scope.names.lookup y=some .local:=by first | exact .inl rfl | exact .inr rfl | assumption) :
  PS' X B (.Assign [.Name y py] (.ListComp elt [⟨tg,iter,ifs,0⟩] scope pos) spos) (kK (fu nt js wi g tt te) (gi i)) :=
 cX (kI (g:=lowG X.K B g) (tt:=iD X.K B tt) (te:=low X.K B te) hN hy hl O hc hi (fun s0 H0 fp ps=>⟨(b s0 H0 fp ps).tgt,(b s0 H0 fp ps).tst,(b s0 H0 fp ps).elt⟩) hsw hs hfn) fun D σ H y_=>by
  obtain⟨σ',H',D',s,h,d⟩:=y_;refine kW ⟨σ',H',_,s,h,fun v' H1' v H1 q r s1 e1=>?_⟩;exact d.nx _ _ _ _ q (s1.set r i) e1
end
end
section
def oG(cs:List (Str×Addr)):List (Str×Addr)->Prop
 | []=>True
 | p::r=>cs.lookup p.1=some p.2/\oG cs r
theorem oG.mem{cs:List (Str×Addr)}:∀{l:List (Str×Addr)} {p:Str×Addr},oG cs l->p∈l->cs.lookup p.1=some p.2
 | q::r,p,h,m=>by
  rcases Gh.mp m with rfl | m
  ·exact h.1
  ·exact oG.mem h.2 m
theorem cok(clos:closureFor scope X.env=pure cl)(sub:oG X.env.cells cl)(xsc:X.env.scope=sc)(kind:scope.kind=.function)
  (nocell:∀y∈scope.names,y.2≠.cell) (loc:∀y∈scope.names,y.2=.local->scope.names.lookup y.1=some .local) (names:cl.map (·.1)=((scope.names.filter (·.2==.free)).map (·.1)).reverse)
  (frs:∀x∈N2.drop nt,scope.names.lookup x=some .free/\sc.names.lookup x=some .cell) (len:N2.length=nt+js.length) (pl:js.map (fun j=>X.N[j]?)=(N2.drop nt).map some):cv X N2 nt js scope cl sc :=
 ⟨clos,fun x c e=>sub.mem (lookup_mem e),xsc,kind,nocell,loc,fun y m f=>by rw[names];exact List.mem_reverse.mpr (List.mem_map_of_mem (HC.mpr ⟨m,by rw[f];rfl⟩)),frs,len,fun k j e=>by
  have h:(js.map (fun j=>X.N[j]?))[k]?=((N2.drop nt).map some)[k]?:=by rw[pl]
  rw[Gs,Gs,e,List.getElem?_drop]at h;cases q:N2[nt+k]? with
  | none=>rw[q]at h;cases h
  | some x=>rw[q]at h;exact Gw h⟩
end
section
end
end U
namespace L2
variable {X:Cx}{a b c d:Expr}{pos:Pos}{ta tb tc td:TE}
def uY(r r' r'':R2)(ta tb tc td:TE):TE:=fun σ H Q=>ta σ H fun x H1=>tb σ H1 fun y H2=>r x y H2 fun z H3=>∃k,z=.bl k /\
 (if k=true then tc σ H3 fun w' H4=>r' y w' H4 fun z' H5=>∃k',z'=.bl k'/\(if k'=true then td σ H5 fun v' H6=>r'' w' v' H6 Q else Q (.bl false) H5)else Q (.bl false) H3)
theorem oZ{op op' op'':CmpOp}{r r' r'':R2}(ho:OpR X (compareOp op) r)(ho':OpR X (compareOp op') r')(ho'':OpR X (compareOp op'') r'')(ha:PE X a ta)(hb:PE X b tb)(hc:PE X c tc)(hd:PE X d td)
  (hm:lastMarks [op,op',op''] [b,c,d]=false:=by with_unfolding_all rfl):PE X (.Compare a [op,op',op''] [b,c,d] pos) (uY r r' r'' ta tb tc td):=by
 intro pins s σ H Q I h;refine Compare_chain (thn (ha pins s σ H _ I h) fun v s1 ⟨x,H1,I1,r1,q1⟩=>chain_link (thn (hb pins s1 σ H1 _ I1 q1) fun u s2 ⟨y,H2,I2,r2,q2⟩ =>
  thn (ho pins s2 σ H2 x y v u _ I2 r1 r2 q2) fun d s3 ⟨z,H3,I3,r3,k,e,q3⟩=>?_)) hm
 subst e;cases r3;refine Hr ?_;cases k with
 | false=>exact ite_ff ⟨.bl false,H3,I3,rfl,q3⟩
 | true =>
  refine ite_tt (chain_link (thn (hc pins s3 σ H3 _ I3 q3) fun w' s4 ⟨z',H4,I4,r4,q4⟩=>thn (ho' pins s4 σ H4 y z' u w' _ I4 r2 r4 q4) fun d' s5 y_=>?_));obtain⟨z5,H5,I5,r5,k5,e5,q5⟩:=y_;subst e5;cases r5;refine Hr ?_;cases k5 with
  | false=>exact ite_ff ⟨.bl false,H5,I5,rfl,q5⟩
  | true=>exact ite_tt (chain_last (thn (hd pins s5 σ H5 _ I5 q5) fun w6 s6 y_=>by obtain⟨z6,H6,I6,r6,q6⟩:=y_;exact ho'' pins s6 σ H6 z' z6 w' w6 Q I6 r4 r6 q6))
end L2
namespace U
open L2
variable {B:Bs}{X:Cx}{a b c d e o value:Expr}{pos pos' apos p:Pos}{ta tb tc td tv:TE'}{f m x:Str}{C g:Addr}
def nz(r r' r'':R2')(ta tb tc td:TE'):TE':=fun σ H Q=>ta σ H fun x H1=>tb σ H1 fun y H2=>r x y H2 fun z H3=>dZ z fun k=>cif k (tc σ H3 fun w' H4=>r' y w' H4 fun z' H5=>dZ z' fun k'=>cif k' (td σ H5 fun v' H6=>r'' w' v' H6 Q) (Q (.bl false) H5)) (Q (.bl false) H3)
theorem oJ{op op' op'':CmpOp}{r1' r2' r3':R2'}{r1 r2 r3:R2}(ho:OpR X (compareOp op) r1)(v1:VR X.K B r1' r1)(ho':OpR X (compareOp op') r2)(v2:VR X.K B r2' r2)(ho'':OpR X (compareOp op'') r3)(v3:VR X.K B r3' r3)
  (ha:PE' X B a ta) (hb:PE' X B b tb) (hc:PE' X B c tc) (hd:PE' X B d td)
  (hm:lastMarks [op,op',op''] [b,c,d]=false:=by with_unfolding_all rfl):PE' X B (.Compare a [op,op',op''] [b,c,d] pos) (nz r1' r2' r3' ta tb tc td):=aV (oZ ho ho' ho'' ha hb hc hd hm) fun σ H Q y_=>by
 obtain⟨σ',H',Q',s,h,k⟩:=y_;refine⟨σ',H',_,s,h,fun x' H1' x H1 h1 rx s1 e1=>⟨σ',H1',_,s1,h1,fun y' H2' y H2 h2 ry s2 e2=>?_⟩⟩;refine v1 σ' σ H2' H2 x' y' x y _ _ s2 (RP.kp X.K (e2.kp s1.hp) rx) ry h2 fun z' H3' z H3 q rz s3 e3=>?_;obtain⟨b,rfl,q⟩:=q.ex;simp only[RP]at rz;refine⟨b,rz,?_⟩;cases b with
 | false=>exact ix (k _ _ _ _ q (by simp[RP]) s3 ((e1.trans e2).trans e3))
 | true =>
  refine iB ⟨σ',H3',_,s3,q,fun w' H4' w H4 h4 rw4 s4 e4=>?_⟩;refine v2 σ' σ H4' H4 y' w' y w _ _ s4 (RP.kp X.K ((e3.trans e4).kp s2.hp) ry) rw4 h4 fun z5' H5' z5 H5 q5 rz5 s5 e5=>?_;obtain⟨b5,rfl,q5⟩:=q5.ex;simp only[RP]at rz5;refine⟨b5,rz5,?_⟩;cases b5 with
  | false=>exact ix (k _ _ _ _ q5 (by simp[RP]) s5 ((((e1.trans e2).trans e3).trans e4).trans e5))
  | true =>
   refine iB ⟨σ',H5',_,s5,q5,fun v' H6' v H6 h6 rv s6 e6=>?_⟩;exact v3 σ' σ H6' H6 w' v' w v _ _ s6 (RP.kp X.K ((e5.trans e6).kp s4.hp) rw4) rv h6 fun z7' H7' z7 H7 q7 rz7 s7 e7=>k _ _ _ _ q7 rz7 s7 ((((((e1.trans e2).trans e3).trans e4).trans e5).trans e6).trans e7)
def wd(C:Addr)(f:Str)(x:PV)(H:PHp)(Q:VK'):Prop:=match x with
 | .ref a=>∃dx fs v,H a=some (.ins C dx fs)/\fs.lookup f=some v/\Q v H
 | _=>False
def zM(C:Addr)(f:Str)(ta:TE'):TE':=fun σ H Q=>ta σ H fun x H1=>wd C f x H1 Q
theorem ly{K:PySem.W.Frag}(h:eX K H fs gs)(e:fs.lookup f=some v):∃u,gs.lookup f=some u/\RP K H v u:=by
 induction h with
 | nil=>simp at e
 | @cons a b _ _ h t ih =>
  obtain⟨n,y⟩:=a;obtain⟨m,z⟩:=b;obtain⟨rfl,hr⟩:=h;dsimp only at hr;cases hx:f==n with
  | true =>
   simp only[GQ,hx]at e ⊢;cases e;exact⟨z,rfl,hr⟩
  | false =>
   simp only[GQ,hx]at e ⊢;exact ih e
theorem pI{K:PySem.W.Frag}(h:eX K H fs gs)(e:fs.lookup f=none):gs.lookup f=none:=by
 induction h with
 | nil=>rfl
 | @cons a b _ _ h t ih =>
  obtain⟨n,y⟩:=a;obtain⟨m,z⟩:=b;obtain⟨rfl,hr⟩:=h;cases hx:f==n with
  | true=>simp only[GQ,hx]at e;cases e
  | false =>
   simp only[GQ,hx]at e ⊢;exact ih e
theorem tH{K:PySem.W.Frag}{H:Hp}{gs:List (Str×V)}(h:eX K H fs gs):gs.length=fs.length:=by
 induction h with
 | nil=>rfl
 | cons _ _ ih=>simp[ih]
theorem cF(ha:PE' X B e ta)(cl:Cls X.K C)(n:cT X.K C f)(hb:attributeBase e f X.env (eval e X.env)=eval e X.env):PE' X B (.Attribute e f pos) (zM C f ta):=aV (yN ha hb) fun σ H Q y_=>by
 obtain⟨σ',H',Q',s,h,k⟩:=y_;refine⟨σ',H',_,s,h,fun x' H1' x H1 h1 rx s1 e1=>?_⟩;cases x' with
 | ref a =>
  obtain⟨dx,fs,v,ea,l,q⟩:=h1;simp only[RP]at rx;subst rx;obtain⟨gs,eg,fr⟩:=s1.hp _ _ ea;obtain⟨u,lu,ru⟩:=ly fr l;exact⟨a,C,dx,gs,u,rfl,eg,cl,n,lu,k _ _ _ _ q ru s1 e1⟩
 | _=>exact h1.elim
def iH(f:Str)(v:PV):List (Str×PV)->List (Str×PV)
 | []=>[(f,v)]
 |(g,x)::r=>if g=f then(g,v)::r else(g,x)::iH f v r
theorem qQ{K:PySem.W.Frag}(rv:RP K H v u){fs:List (Str×PV)}{gs:List (Str×V)}(h:eX K H fs gs):eX K H (iH f v fs) (dI f u gs):=by
 induction h with
 | nil=>exact .cons ⟨rfl,rv⟩ .nil
 | @cons a b _ _ h t ih =>
  obtain⟨n,y⟩:=a;obtain⟨m,z⟩:=b;obtain⟨rfl,hr⟩:=h;unfold iH dI;by_cases hn:n=f
  ·rw[Gq hn,Gq hn];exact .cons ⟨rfl,rv⟩ t
  ·rw[Gp hn,Gp hn];exact .cons ⟨rfl,hr⟩ ih
def we(C:Addr)(f:Str)(x y:PV)(H:PHp)(Q:PHp->Prop):Prop:=match x with
 | .ref a=>∃dx fs,H a=some (.ins C dx fs)/\fs.length<1000/\Q (put H a (.ins C dx (iH f y fs)))
 | _=>False
def sM(C:Addr)(f:Str)(ta tv:TE'):TS':=fun D σ H=>tv σ H fun y H1=>ta σ H1 fun x H2=>we C f x y H2 fun H3=>D.nx σ H3
theorem mz(ha:PE' X B o ta)(hv:PE' X B value tv)(cl:Cls X.K C)(n:cT X.K C f)(hs:swapsWith value (some (.Attribute o f pos')) pos.line X.env=pure false):PS' X B (.Assign [.Attribute o f pos'] value pos) (sM C f ta tv):=cX (zI ha hv hs) fun D σ H y_=>by
 obtain⟨σ',H',D',s,h,dd⟩:=y_;refine⟨σ',H',_,s,h,fun y' H1' y H1 h1 ry s1 e1=>⟨σ',H1',_,s1,h1,fun x' H2' x H2 h2 rx s2 e2=>?_⟩⟩;cases x' with
 | ref a =>
  obtain⟨dx,fs,ea,l,q⟩:=h2;simp only[RP]at rx;subst rx;obtain⟨gs,eg,fr⟩:=s2.hp _ _ ea;have ry2:=RP.kp X.K (e2.kp s1.hp) ry;have new:OAt X.K (upd H2 a (.ins C dx (dI f y gs))) a (.ins C dx (iH f y' fs)):=⟨_,bh,eX.kp (s2.hp.kpw ea) (qQ ry2 fr)⟩;exact⟨a,C,dx,gs,rfl,eg,cl,n,by rw[tH fr];exact l,dd.nx _ _ _ _ q (s2.wr ea new) ((e1.trans e2).trans (Ev.wr ea))⟩
 | _=>exact h2.elim
def isIn(C:Addr)(m:Str)(x:PV)(H:PHp):Prop:=match x with
 | .ref a=>∃dx fs,H a=some (.ins C dx fs)/\fs.lookup m=none
 | _=>False
def sv(C:Addr)(m:Str)(sp:Sp')(E':XK')(ta:TE')(t:TA'):TE':=fun σ H Q=>ta σ H fun x H1=>isIn C m x H1/\t σ H1 fun vs H2=>sp (x::vs) H2 Q E'
section
variable {k:Nat}{fd:FuncData}{ps:List Str}{sp:Sp'}{es:List Expr}{t:TA'}
theorem oO{K:PySem.W.Frag}(h:low K B (sv C m sp X0 ta t) σ H Q):wD C m (gm K sp) [] E0 (low K B ta) (qV K B t) σ H Q:=by
 obtain⟨σ',H',Q',s,h,k⟩:=h;refine⟨σ',H',_,s,h,fun x' H1' x H1 h1 rx s1 e1=>?_⟩;obtain⟨hi,h1⟩:=h1;cases x' with
 | ref a =>
  obtain⟨dx,fs,ea,l⟩:=hi;simp only[RP]at rx;subst rx;obtain⟨gs,eg,fr⟩:=s1.hp _ _ ea;refine⟨a,dx,gs,rfl,eg,pI fr l,σ',H1',_,s1,h1,fun vs' H2' vs H2 h2 r2 s2 e2=>?_⟩;show gm K sp (V.ref a::(vs++[])) H2 Q E0;rw[GS];exact⟨.ref a::vs',H2',Q',X0,RPs.cons _ (by simp[RP]) r2,s2.hp,h2,fun v' H3' v H3 q r3 h3 e3=>k v' H3' v H3 q r3 (s2.kp e3 h3) ((e1.trans e2).trans e3),fun _ _ _ _ z=>z.elim⟩
 | _=>exact hi.elim
theorem cz{pl:Sem Bool}(he:PE' X B o ta)(cl:Cls X.K C)(hm:Meth X.K C m g)(F:aK X.prog X.w X.K X.mg X.base CX0 k g fd ps sp)(hr:cu k X.A)(hb:Binds X.K fd ps [])(ha:PA' X B (e::es) t)
  (hst:starEach (e::es) X.env=(false,eval e X.env)::starEach es X.env:=by rfl) (hpl:(backTo pos (starEach es X.env)).any (·.1)=false:=by rfl)
  (ht:eval (.Call (.Attribute o m apos) (e::es) [] pos) X.env=(do
   let ov←eval o X.env
   standAt apos.atName
   let (f,first)←holding [ov] (getMethod ov m pl)
   callWith pos f first (backTo pos (starEach (e::es) X.env)) (backToKw pos (keywordEach [] X.env))):=by rfl) :
  PE' X B (.Call (.Attribute o m apos) (e::es) [] pos) (sv C m sp X0 ta t):=aV (vQ he cl hm F hr hb .nil tL ha hst hpl ht) fun _ _ _ h=>oO h
def vY(C:Addr)(sp:Sp')(E':XK')(t:TA'):TE':=fun σ H Q=>t σ H fun vs H1=>∀x dx,H1 x=none->H1 dx=none->dx≠x->sp (.ref x::vs) (put H1 x (.ins C dx [])) (fun v H2=>v=.non/\Q (.ref x) H2) E'
theorem uA(M:Mk X.K C g)(F:aK X.prog X.w X.K X.mg X.base CX0 k g fd ps sp)(hr:cu (k+1) X.A)(hg:Gl X x)(hm:X.mg x=some (.ref C))(hb:Binds X.K fd ps [])
  (ha:PA' X B (e::es) t) (hdb:(x==("__debug__":Str))=false:=by decide) (he:starEach (e::es) X.env=(false,eval e X.env)::starEach es X.env:=by rfl) (hpl:(backTo pos (starEach es X.env)).any (·.1)=false:=by rfl) :
  PE' X B (.Call (.Name x p) (e::es) [] pos) (vY C sp X0 t):=aV (tS M F hr hg hm hb .nil tL ha hdb he hpl) fun σ H Q y_=>by
 obtain⟨σ',H',Q',s,h,k⟩:=y_;refine⟨σ',H',_,s,h,fun vs' H1' vs H1 h1 r1 s1 e1=>?_⟩;intro x dx nx nd ne;have h2:=h1 x dx (s1.hp.free nx) (s1.hp.free nd) ne;have nx2:upd H1 dx (.own x) x=none:=by rw[aR (Ne.symm ne)];exact nx
 have sd:=s1.hid (o:=.own x) nd;have new:OAt X.K (upd (upd H1 dx (.own x)) x (.ins C dx [])) x (.ins C dx []):=⟨[],bh,.nil⟩;have s2:=sd.new nx2 new;have e2:Ev H1' H1 (put H1' x (.ins C dx [])) (upd (upd H1 dx (.own x)) x (.ins C dx [])):=(Ev.hid nd).trans (Ev.new nx2);show gm X.K sp (.ref x::(vs++[])) _ _ E0;rw[GS];refine⟨.ref x::vs',_,_,X0,RPs.cons _ (by simp[RP]) (RPs.kp X.K (e2.kp s1.hp) r1),s2.hp,h2,fun v' H3' v H3 q r3 h3 e3=>?_,fun _ _ _ _ z=>z.elim⟩;obtain⟨rfl,q⟩:=q;simp only[RP]at r3;exact⟨r3,k _ _ _ _ q (by simp[RP]) (s2.kp e3 h3) ((e1.trans e2).trans e3)⟩
end
end U
namespace L2
variable {X:Cx}
def zN(K:PySem.W.Frag):List V->Hp->VK->Prop:=fun xs H Q=>∃(p:Addr) (bs:List Bool),xs=[.ref p]/\SqL K H p (bs.map V.bl)/\Q (.bl (bs.all id)) H
theorem eZ:∀{bs:List Bool} {us:List Value},Vals (bs.map V.bl) us->us=bs.map Value.bool
 | [],_,.nil=>rfl
 | b::bs,_,.cons r t=>by rw[eZ t];cases r;rfl
theorem cb(hc:X.calm=true):cA X (.builtin "all") (zN X.K):=by
 intro pins s σ H xs us Q I r h;obtain⟨a,bs,rfl,hq,q⟩:=h;obtain⟨u,rfl,ru⟩:=Vals.one r;cases ru;obtain⟨its,rv,p,hz⟩:=I.list hq;have e:=eZ rv;subst e;have hl:s.heap.IsList a (bs.map Value.bool).toArray:=p.isList;have llt:a<s.heap.objs.size:=by obtain⟨o,e,_⟩:=hl;exact Gd e
 have hne:a≠s.heap.objs.size:=Gv llt;refine call_all_walk (wpAny_pyIter_list hl ?_);refine⟨s.heap.objs.size,[s.heap.objs.size,a],[s.heap.objs.size],(bs.map Value.bool).toArray.size,_,_,fun i=>bs.getD i false,rfl,Walks.list (by simpa using I.ok.hd hc) _ a hne _,⟨⟨_,Gm _ rfl,rfl,rfl⟩,hl.at fun o e=>F6 _ e⟩,?_,?_⟩
 ·intro i v s' Q' E' hv hQ;have:v=Value.bool (bs.getD i false):=by
   have hv':(bs.map Value.bool)[i]?=some v:=by simpa using hv
   rw[Gs]at hv';cases hb:bs[i]? with
   | none=>rw[hb]at hv';cases hv'
   | some b=>rw[hb]at hv';cases hv';rw[F7,hb];rfl
  subst this;exact Hr hQ
 ·intro h' tk kp;have e:(List.range (bs.map Value.bool).toArray.size).all (fun i=>bs.getD i false)=bs.all id:=by
   have hs:(bs.map Value.bool).toArray.size=bs.length:=by simp
   rw[hs];rw[HD,GB,GB];constructor
   ·intro h b hb;obtain⟨i,hi,e⟩:=List.getElem_of_mem hb;have:=h i (GC.mpr hi);rw[F7,F2 hi,e]at this;exact this
   ·intro h i hi;have hi:=GC.mp hi;rw[F7,F2 hi];exact h _ (Gz hi)
  rw[e];refine⟨.bl (bs.all id),H,I.kept (t':=tk) fun b o e=>?_,rfl,q⟩;exact kp b o (by simpa using Gv (Gd e)) (F6 _ e)
end L2
namespace U
open L2
variable {B:Bs}{X:Cx}
theorem gg{K:PySem.W.Frag}{H:Hp}:∀{bs:List Bool} {us:List V},RPs K H (bs.map PV.bl) us->us=bs.map V.bl
 | [],us,h=>by simpa[RPs]using h
 | b::bs,us,h=>by
  simp only[Ge,RPs,RP]at h;obtain⟨u,r,rfl,rfl,h2⟩:=h;rw[gg h2];rfl
theorem kl{K:PySem.W.Frag}{H:Hp}:∀{bs:List Int},RPs K H (bs.map PV.int) (bs.map V.int)
 | []=>RPs.nil _
 | b::bs=>RPs.cons _ (by simp[RP]) kl
def Ci:List PV->PHp->VK'->Prop:=di fun x H Q=>match x with
 | .ref a=>∃bs:List Bool,H a=some (.lst (bs.map PV.bl))/\Q (.bl (bs.all id)) H
 | _=>False
theorem dg{K:PySem.W.Frag}:VC K B Ci (zN K):=by
 intro σ' σ H' H xs' xs Q' Q s r h k;obtain⟨x',x,rfl,rfl,rx,h⟩:=di.ex h r;cases x' with
 | ref a =>
  obtain⟨bs,ea,q⟩:=h;simp only[RP]at rx;subst rx;obtain⟨us,e,r2⟩:=s.hp _ _ ea;rw[gg r2]at e;exact⟨a,bs,rfl,.inl (.inl e),k _ _ _ _ q (by simp[RP]) s (Ev.refl _ _)⟩
 | _=>exact h.elim
def yT:List PV->PHp->VK'->Prop:=di fun x H Q=>match x with
 | .ref a=>∃ns:List Int,H a=some (.lst (ns.map PV.int))/\ns.length<64/\∀(r:Addr) (ms:List Int),H r=none->ms.Perm ns->ms.Pairwise (·≤·)->Q (.ref r) (put H r (.lst (ms.map PV.int)))
 | _=>False
end U
namespace SP
def hs:List Int:=[-1950498447580522560,7204814214171964562,-3550055125485641917,-4734289103435588629,-1440771752368011620,
 8409376899596376432,1773351652666409796,-6333845781340707986,3516302870623680066,1079245023883434373,
 -3119722376306286570,173794974761290439,-8422800446983873125,7586885779985432798,-1009709641759730766]
def prs:List (Int×Int):=[(0,1),(0,2),(1,2),(0,3),(1,3),(2,3),(0,4),(1,4),(2,4),(3,4),(0,5),(1,5),(2,5),(3,5),(4,5)]
def hp(p:Int×Int):Int:=reduceHash (Builtin.Tuple.tupleHashOf [p.1,p.2])
theorem BX:prs.map hp=hs:=by decide +kernel
theorem lW(h:p∈prs):hp p∈hs:=by rw[←BX];exact F4.mpr ⟨p,h,rfl⟩
theorem yX:∀p∈prs,∀q∈prs,hp p=hp q->p=q:=by decide +kernel
theorem uG(h0:0≤u)(h1:u<v)(h2:v<6):(u,v)∈prs:=by
 have hv:v=1∨v=2∨v=3∨v=4∨v=5:=by omega
 have hu:u=0∨u=1∨u=2∨u=3∨u=4:=by omega
 rcases hv with rfl | rfl | rfl | rfl | rfl<;>rcases hu with rfl | rfl | rfl | rfl | rfl<;>first |(exfalso;omega) | decide
def oo(mask:Nat)(p:SetTable.Probe):SetTable.Probe :=
 if p.more>0 then { p with j:=p.j+1,more:=p.more - 1 }else
 let (i,perturb):=SetTable.leap mask p.i p.perturb
 { p with j:=i,more:=SetTable.runEnd mask i - i,i,perturb }
theorem zk(t:SetTable)(p:SetTable.Probe):t.advance p=oo t.mask p:=rfl
theorem ph(mask:Nat)(p:SetTable.Probe):(oo mask p).dummy=p.dummy:=by unfold oo;split<;>rfl
def visit(mask:Nat):Nat->SetTable.Probe->List Nat
 | 0,_=>[]
 | f+1,p=>p.j::visit mask f (oo mask p)
def startM(mask:Nat)(h:Int):SetTable.Probe :=
 let i:=SetTable.bits h % (mask+1)
 { j:=i,more:=SetTable.runEnd mask i - i,i,perturb:=SetTable.bits h,dummy:=none }
theorem tP(t:SetTable)(h:Int):t.probeStart h=startM t.mask h:=rfl
theorem yd:∀h∈hs,∀j∈List.range 8,j∈visit 7 220 (startM 7 h):=by decide +kernel
theorem va:∀h∈hs,∀j∈List.range 32,j∈visit 31 460 (startM 31 h):=by decide +kernel
theorem qu:∀(n:Nat) (l:List Nat),(∀j,j<n->j∈l)->n≤l.length
 | 0,_,_=>HQ _
 | n+1,l,h=>by
  have hm:=h n (Nat.lt_succ_self n);have:=qu n (l.erase n) fun j hj=>(List.mem_erase_of_ne (by omega)).mpr (h j (by omega));rw[List.length_erase_of_mem hm]at this;have:0<l.length:=List.length_pos_of_mem hm;omega
theorem pS{l:List Nat}(h:l.length<n):∃j,j<n/\j∉l :=
 Classical.byContradiction fun c=>absurd (qu n l fun j hj=>Classical.byContradiction fun q=>c ⟨j,hj,q⟩) (by omega)
theorem slot_of{t:SetTable}(hd:t.dummies=#[])(j:Nat):t.slot j=.empty∨∃i,t.slot j=.live i/\i<t.place.size/\j∈t.place.toList:=by
 unfold SetTable.slot;dsimp only;split
 ·rename_i h;have h':=Ir.mp h;obtain⟨hi,e⟩:=Array.getElem?_eq_some_iff.mp h';refine .inr ⟨_,rfl,hi,?_⟩;rw[←e];exact Array.getElem_mem_toList hi
 ·left;have:SetTable.has t.dummies j=false:=by
   rw[hd];rfl
  rw[this];rfl
theorem k8{t:SetTable}{hashAt:Nat->Int}{h:Int}(hd:t.dummies=#[])(hn:∀i,i<t.place.size->hashAt i≠h):∀(fuel:Nat) (p:SetTable.Probe),p.dummy=none ->
  (∃j∈visit t.mask fuel p,j∉t.place.toList)->∃j,SetTable.probe.go t hashAt h fuel p=some (.empty j none)
 | 0,_,_,⟨_,hj,_⟩=>by simp[visit]at hj
 | f+1,p,hp,⟨j,hj,hjn⟩=>by
  unfold SetTable.probe.go;rcases slot_of hd p.j with e |⟨i,e,hi,hm⟩
  ·rw[e];dsimp only;exact⟨p.j,by rw[hp]⟩
  ·rw[e];dsimp only;rw[Gp (by intro q;exact hn i hi (Ir.mp q)),zk];refine k8 hd hn f (oo t.mask p) (by rw[ph];exact hp) ⟨j,?_,hjn⟩;have hj':j=p.j∨j∈visit t.mask f (oo t.mask p):=Gh.mp hj;rcases hj' with rfl | hj'
   ·exact absurd hm hjn
   ·exact hj'
theorem qH{t:SetTable}(hh:h∈hs)(hd:t.dummies=#[])(hn:∀i,i<t.place.size->hashAt i≠h)(hm:t.mask=7∨t.mask=31)(hsz:t.place.size≤t.mask) :
  ∃j,t.probe hashAt h (t.probeStart h)=some (.empty j none):=by
 unfold SetTable.probe;refine k8 hd hn _ _ rfl ?_;obtain⟨j,hj,hjn⟩:=pS (n:=t.mask+1) (l:=t.place.toList) (by simpa using Nat.lt_succ_of_le hsz);refine⟨j,?_,hjn⟩;rw[tP];rcases hm with e | e
 ·rw[e]at hj ⊢;exact yd h hh j (GC.mpr hj)
 ·rw[e]at hj ⊢;exact va h hh j (GC.mpr hj)
theorem sD(t:SetTable)(j:Nat):(t.put j).1.place.size=t.place.size+1:=by
 unfold SetTable.put SetTable.insertAt;dsimp only;simp only[Array.size_append,Array.size_push,Array.size_extract];omega
theorem kA{t:SetTable}(hd:t.dummies=#[])(j:Nat):(t.put j).1.dummies=#[]:=by
 unfold SetTable.put;dsimp only;rw[hd];rfl
theorem qm(t:SetTable)(j:Nat):(t.put j).1.mask=t.mask/\(t.put j).1.plain=t.plain:=⟨rfl,rfl⟩
theorem insertAt_perm(xs:Array α)(p:Nat)(x:α):(SetTable.insertAt xs p x).toList.Perm (x::xs.toList):=by
 unfold SetTable.insertAt;rw[Array.toList_append,Array.toList_push,Hy];have e:xs.toList=(xs.extract 0 p).toList++(xs.extract p xs.size).toList:=by
  rw[Array.toList_extract,Array.toList_extract];unfold List.extract;rw[List.drop_zero,Nat.sub_zero];have e2:(List.drop p xs.toList).take (xs.size - p)=List.drop p xs.toList:=HX (by rw[Hm];simp);rw[e2,List.take_append_drop]
 rw[e];exact List.perm_middle
def runs(mask:Nat):Nat->Nat->Nat->List Nat
 | 0,_,_=>[]
 | f+1,i,pt=>((List.range (SetTable.runEnd mask i+1 - i)).map (i+·))++runs mask f (SetTable.leap mask i pt).1 (SetTable.leap mask i pt).2
theorem xy:∀h∈hs,∀j∈List.range 32,j∈runs 31 46 (SetTable.bits h % 32) (SetTable.bits h):=by decide +kernel
theorem jc{mask:Nat}{owner:Array (Option Nat)}:∀(f i pt:Nat),(∃j∈runs mask f i pt,(owner.getD j (some 0)).isNone=true)->∃j,SetTable.layClean.free mask owner f i pt=some j/\(owner.getD j (some 0)).isNone=true
 | 0,_,_,⟨_,hj,_⟩=>by simp[runs]at hj
 | f+1,i,pt,⟨j,hj,hn⟩=>by
  unfold SetTable.layClean.free;cases e:(List.range (SetTable.runEnd mask i+1 - i)).find? fun k=>(owner.getD (i+k) (some 0)).isNone with
  | some k =>
   dsimp only;exact⟨i+k,rfl,by have:=List.find?_some e;exact this⟩
  | none =>
   dsimp only;rcases Gf.mp hj with hj | hj
   ·obtain⟨k,hk,rfl⟩:=F4.mp hj;have:=List.find?_eq_none.mp e k hk;exact absurd hn this
   ·exact jc f _ _ ⟨j,hj,hn⟩
theorem g8{α:Type}:∀(l:List (Option α)) (j:Nat) (k:α),l[j]?=some none->((l.set j (some k)).filterMap id).Perm (k::l.filterMap id)
 | [],_,_,h=>by simp at h
 | none::l,0,k,_=>by simp
 | some x::l,0,k,h=>by simp at h
 | none::l,j+1,k,h=>by
  have:=g8 l j k (by simpa using h);simpa using this
 | some x::l,j+1,k,h=>by
  have:=g8 l j k (by simpa using h);simp only[List.set_cons_succ,List.filterMap_cons_some (f:=id) rfl];exact(this.cons x).trans (List.Perm.swap k x _)
theorem da{α:Type}:∀(l:List (Option α)),(l.filterMap id).length<l.length->∃j:Nat,l[j]?=some none
 | [],h=>by simp at h
 | none::l,_=>⟨0,rfl⟩
 | some x::l,h=>by
  have h':(l.filterMap id).length<l.length:=by simpa using h
  obtain⟨j,e⟩:=da l h';exact⟨j+1,by simpa using e⟩
def gO(mask:Nat)(acc:Option (Array (Option Nat)×Nat))(h:Int):Option (Array (Option Nat)×Nat):=do
 let (owner,k)←acc
 let j←SetTable.layClean.free mask owner (SetTable.turns mask) (SetTable.bits h % (mask+1)) (SetTable.bits h)
 pure (owner.setIfInBounds j (some k),k+1)
theorem kg:∀(l:List Int) (owner:Array (Option Nat)) (k:Nat),(∀h∈l,h∈hs)->owner.size=32->(owner.toList.filterMap id).Perm (List.range k)->k+l.length≤32 ->
  ∃ow',l.foldl (gO 31) (some (owner,k))=some (ow',k+l.length)/\ow'.size=32/\(ow'.toList.filterMap id).Perm (List.range (k+l.length))
 | [],owner,k,_,hs,hp,_=>⟨owner,rfl,hs,hp⟩
 | h::l,owner,k,hh,hsz,hp,hl=>by
  have hlen:(owner.toList.filterMap id).length=k:=by rw[hp.length_eq,IC]
  obtain⟨j,hj⟩:=da owner.toList (by rw[hlen];simp only[Gx]at hl;rw[show owner.toList.length=32 by simpa using hsz];omega);have hjlt:j<32:=by
   have:=(Gj.mp hj).1;simpa[hsz]using this
  have hnone:∀j,(owner.getD j (some 0)).isNone=true->owner.toList[j]?=some none:=fun j q=>by
   rw[G7];unfold Array.getD at q;split at q
   ·rename_i hlt;rw[Gu hlt];cases e:owner[j]with
    | none=>rfl
    | some x =>
     have q':(owner[j]).isNone=true:=q;rw[e]at q';cases q'
   ·cases q
  obtain⟨j',ej,hn⟩:=jc (mask:=31) (owner:=owner) 46 (SetTable.bits h % 32) (SetTable.bits h) ⟨j,xy h (hh h Ga) j (GC.mpr hjlt),by
   unfold Array.getD;rw[dif_pos (by rw[hsz];exact hjlt)];rw[G7,Gu (by rw[hsz];exact hjlt)]at hj;have:=Gw hj;show(owner[j]).isNone=true;rw[this];rfl⟩
  have est:gO 31 (some (owner,k)) h=some (owner.setIfInBounds j' (some k),k+1):=by
   unfold gO;show(SetTable.layClean.free 31 owner (SetTable.turns 31) (SetTable.bits h % 32) (SetTable.bits h) >>= fun j=>pure (owner.setIfInBounds j (some k),k+1))=_;rw[show SetTable.turns 31=46 from rfl,ej];rfl
  have hp':((owner.setIfInBounds j' (some k)).toList.filterMap id).Perm (List.range (k+1)):=by
   rw[Array.toList_setIfInBounds];refine(g8 _ _ _ (hnone j' hn)).trans ?_;rw[List.range_succ];exact(hp.cons k).trans (List.perm_append_singleton k _).symm
  obtain⟨ow',e1,e2,e3⟩:=kg l (owner.setIfInBounds j' (some k)) (k+1) (fun x hx=>hh x (Gb _ hx)) (by simpa using hsz) hp' (by simp only[Gx]at hl;omega);refine⟨ow',?_,e2,?_⟩
  ·rw[List.foldl_cons,est,e1];simp only[Gx];congr 2;omega
  ·rw[Gx,show k+(l.length+1)=k+1+l.length by omega];exact e3
theorem oK{t:SetTable}(hw:SetTable.sizeAbove wanted=32)(hh:∀h∈hashes.toList,h∈hs)(hl:hashes.size≤32) :
  ∃t' order,t.relaid hashes wanted=some (t',order)/\t'.mask=31/\t'.dummies=#[]/\t'.place.size=hashes.size/\order.toList.Perm (List.range hashes.size)/\t'.plain=t.plain:=by
 have e0:(Array.replicate 32 (none:Option Nat)).toList.filterMap id=[]:=by decide
 obtain⟨ow,e1,e2,e3⟩:=kg hashes.toList (Array.replicate 32 none) 0 hh (by simp) (by rw[e0];exact List.Perm.refl _) (by simpa using hl);rw[Nat.zero_add]at e1 e3;have hlc:SetTable.layClean 31 hashes=some ow:=by
  unfold SetTable.layClean;rw[←Array.foldl_toList];show Option.map (·.1) (hashes.toList.foldl (gO 31) (some (Array.replicate 32 none,0)))=_;rw[e1];rfl
 have live2:((List.range 32).filterMap fun j=>(ow.getD j none).map ((j,·):Nat->Nat×Nat)).map (·.2)=ow.toList.filterMap id:=by
  have gen:∀(l:List (Option Nat)) (n:Nat),((l.zipIdx n).filterMap (fun q=>q.1.map ((q.2,·):Nat->Nat×Nat))).map (·.2)=l.filterMap id:=by
   intro l
   induction l with
   | nil=>intro n;rfl
   | cons a l ih =>
    intro n;rw[List.zipIdx_cons];cases a with
    | none=>simpa using ih (n+1)
    | some x=>simpa using ih (n+1)
  rw[←gen ow.toList 0];congr 1;have ez:ow.toList.zipIdx 0=(List.range 32).map fun j=>(ow.getD j none,j):=by
   apply List.ext_getElem?;intro j;rw[List.getElem?_zipIdx,Gs];by_cases hj:j<32
   ·rw[List.getElem?_range hj,G7,Gu (by rw[e2];exact hj)];simp[Array.getD,e2,hj]
   ·rw[HK (show ow.toList.length≤j by simpa[e2]using Nat.le_of_not_lt hj),HK (show(List.range 32).length≤j by simpa using Nat.le_of_not_lt hj)];rfl
  rw[ez,List.filterMap_map];rfl
 have hlen:(ow.toList.filterMap id).length=hashes.size:=by rw[e3.length_eq,IC];simp
 refine⟨{ mask:=31,place:=(((List.range 32).filterMap fun j=>(ow.getD j none).map ((j,·):Nat->Nat×Nat)).map (·.1)).toArray,dummies:=#[],finger:=t.finger,led:=t.led,moves:=t.movedTo 31,plain:=t.plain },
  (((List.range 32).filterMap fun j=>(ow.getD j none).map ((j,·):Nat->Nat×Nat)).map (·.2)).toArray,by
  unfold SetTable.relaid SetTable.laid;rw[hw];show(SetTable.layClean 31 hashes >>= _)=_;rw[hlc];rfl,rfl,rfl,?_,?_,rfl⟩
 ·show(((List.range 32).filterMap fun j=>(ow.getD j none).map ((j,·):Nat->Nat×Nat)).map (·.1)).toArray.size=_;rw[Gi,F0,← hlen,← live2,F0]
 ·show((((List.range 32).filterMap fun j=>(ow.getD j none).map ((j,·):Nat->Nat×Nat)).map (·.2)).toArray).toList.Perm _;rw[live2];have:hashes.size=hashes.toList.length:=by simp
  rw[this];exact e3
theorem mC{α:Type}{es:Array α}{order:Array Nat}(h:order.toList.Perm (List.range es.size)):(order.filterMap (es[·]?)).toList.Perm es.toList:=by
 have e:(order.filterMap (es[·]?)).toList=order.toList.filterMap (es[·]?):=by simp
 rw[e];refine(h.filterMap _).trans ?_;have:(List.range es.size).filterMap (es[·]?)=es.toList:=by
  apply List.ext_getElem?;intro i;have gen:∀n,n≤es.size->(List.range n).filterMap (es[·]?)=es.toList.take n:=by
   intro n
   induction n with
   | zero=>intro _;simp
   | succ n ih =>
    intro hn;rw[List.range_succ,List.filterMap_append,ih (by omega),List.take_add_one];simp[Gu (show n<es.size by omega)]
  rw[gen es.size (F9 _),HX (by simp)]
 rw[this]
end SP
namespace SP
section
variable {prog:Program}{w:World}{A:Around}{E:Value->Shared->Prop}{s:Shared}
structure hJ (h:Heap) (S:Addr) (done:List (Int × Int)):Prop where
 is:∃es ep t,h.get? S=some { cls:=.type "set",dict:=none,data:=.set es ep t }/\t.dummies=#[]/\t.place.size=es.size/\es.size=done.length/\((t.mask=7/\es.size≤4)∨(t.mask=31/\es.size≤18)) /\
  ∀e∈es.toList,∃p∈done,e.1=hp p
theorem fits_of{t:SetTable}(hd:t.dummies=#[])(h1:t.place.size=n)(h2:n≤t.mask):t.fits n=true:=by
 unfold SetTable.fits SetTable.fill;rw[hd];simp[h1,h2]
theorem oj(u v:Int)(h:(u,v)∈prs):tupleKeyHash (intKind prog w) [u,v]=hp (u,v):=by
 have key:∀p∈prs,hashInt p.1=p.1/\hashInt p.2=p.2:=by decide +kernel
 obtain⟨h1,h2⟩:=key _ h;show reduceHash (Builtin.Tuple.tupleHashOf [hashInt u,hashInt v])=reduceHash (Builtin.Tuple.tupleHashOf [u,v]);have h1':hashInt u=u:=h1;have h2':hashInt v=v:=h2;rw[h1',h2']
theorem uV(h:ItemsAre (intKind prog w) ks vs):∀x∈vs,∃i t,x=.int i t:=by
 induction h with
 | nil=>intro x hx;simp at hx
 | cons h1 _ ih =>
  intro x hx;rcases Gh.mp hx with rfl | hx
  ·obtain⟨t,rfl⟩:=Value.isInt_shape h1;exact⟨_,t,rfl⟩
  ·exact ih x hx
theorem fW(hk:IsTupleKey (intKind prog w) s.heap [u,v] a)(h:Q true s):wpAny (model prog w) A (hashByValue 8 (.ref a)) Q E s:=by
 have hT:=hk.typeIs;obtain⟨o,items,n,ho,hc,hd,hi⟩:=hk;unfold hashByValue;refine F1 (Iz hT F.slot_tuple_hash.lookup ?_);show wpAny _ _ (seqItems? (.ref a) >>= _) _ _ s;refine F1 (wpAny_seqItems ho hd ?_);refine F1 ?_;show wpAny _ _ (forIn items _ _) _ _ s;rw[←Array.forIn_toList];have hall:=uV hi;refine wpAny_forIn_list _ (fun rest r s'=>r.1=none/\s'=s/\∀v∈rest,∃i t,v=.int i t) _ ?_ ?_ _ _ ⟨rfl,rfl,hall⟩
 ·rintro v rest r s' ⟨hr,rfl,hall⟩;obtain⟨i,t,rfl⟩:=hall v Ga;show wpAny _ _ (pure true >>= _) _ _ _;refine F1 (F5 ?_);simp only[Bool.not_true,Bool.false_eq_true,if_false];exact F5 ⟨rfl,rfl,fun u hu'=>hall u (Gb _ hu')⟩
 ·rintro⟨r1,r2⟩ s' ⟨hr,rfl,_⟩;simp only at hr;subst hr;exact F5 h
theorem lg(hu:A.units<cLine)(hk:IsTupleKey (intKind prog w) s.heap [u,v] a)(hP:hJ s.heap S done)(hin:(u,v)∈prs)(hd:∀p∈done,p∈prs)
  (hn:(u,v)∉done) (hlen:done.length<15)
  (h:∀h' tk,Heap.SameBut S s.heap h'->hJ h' S (done++[(u,v)])->Q true { s with heap:=h',toks:=tk }):wpAny (model prog w) A (setAdd S (.ref a)) Q E s:=by
 obtain⟨es,ep,t,ho,htd,hts,hes,hm,hh⟩:=hP.is;have hsa:S≠a:=by
  rintro rfl;obtain⟨o,items,n,ho',hc,_⟩:=hk;rw[ho]at ho';cases ho';exact absurd (show Value.type "set"=Value.type "tuple" from hc) (by decide)
 unfold setAdd;refine Hs (F1 (wpAny_pyHash_tuple hu hk ?_));rw[oj u v hin];generalize hs':({ s with toks:=s.toks+([u,v].length+1) }:Shared)=s1;have e1:s1.heap=s.heap:=by rw[←hs']
 have ho1:s1.heap.get? S=some { cls:=.type "set",dict:=none,data:=.set es ep t }:=by rw[e1];exact ho
 have hk1:IsTupleKey (intKind prog w) s1.heap [u,v] a:=by rw[e1];exact hk
 have hmk:es.size≤t.mask:=by omega
 have hf:t.fits es.size=true:=fits_of htd hts hmk;unfold setAddHashed;refine Hs ?_;show wpAny _ _ (setAddHashedIn S (.ref a) (hp (u,v)) (99999+1)) _ _ _;unfold setAddHashedIn;refine F1 (HY ho1 rfl hf ?_);dsimp only;have hbs:byScan (.ref a) es=false:=rfl;rw[hbs];simp only[Bool.false_eq_true,if_false];obtain⟨j,hj⟩:=qH (t:=t) (hashAt:=fun i=>(es[i]?.map (·.1)).getD 0) (h:=hp (u,v)) (lW hin) htd (fun i hi q=>by
  rw[hts]at hi;rw[Gu hi]at q;have q':(es[i]).1=hp (u,v):=q;obtain⟨p,hpd,e⟩:=hh es[i] (Array.getElem_mem_toList hi);rw[e]at q';exact hn (yX p (hd p hpd) _ hin q'▸hpd)) (by omega) (by omega)
 unfold setSearch;show wpAny _ _ (setSearchFrom S (.ref a) (hp (u,v)) true (99999+1) none >>= _) _ _ _;unfold setSearchFrom;refine F1 (F1 (HY ho1 rfl hf ?_));dsimp only;have hgw:t.gaveWay=false:=by
  unfold SetTable.gaveWay;rcases hm with hm | hm<;>rw[hm.1]<;>rfl
 rw[hgw,Gp (by decide)];generalize hX:t.probe _ (hp (u,v)) (none.getD (t.probeStart (hp (u,v))))=X0;have hX':X0=some (.empty j none):=by rw[←hX];exact hj
 subst hX';dsimp only;refine F5 ?_;dsimp only;refine F1 (HY ho1 rfl hf ?_);dsimp only;have hps:=sD t j;have hpd:=kA htd j;obtain⟨hpm,hpp⟩:=qm t j;have hip:=insertAt_perm es (t.put j).2 (hp (u,v),Value.ref a);have his:(SetTable.insertAt es (t.put j).2 (hp (u,v),Value.ref a)).size=es.size+1:=by
  have:=hip.length_eq;simpa using this
 have hash':∀e∈(SetTable.insertAt es (t.put j).2 (hp (u,v),Value.ref a)).toList,∃p∈done++[(u,v)],e.1=hp p:=fun e he=>by
  rcases Gh.mp (hip.mem_iff.mp he)with rfl | he
  ·exact⟨(u,v),by simp,rfl⟩
  ·obtain⟨p,h1,h2⟩:=hh e he;exact⟨p,GH _ h1,h2⟩
 have last:wpAny (model prog w) A (do
   storeSet S (SetTable.insertAt es (t.put j).2 (hp (u,v),Value.ref a)) (t.put j).1
   if (!false&&(t.put j).1.tooFull)=true then do
    setRelay S (SetTable.grown (es.size+1))
    pure true
   else pure true) Q E s1:=by
  refine F1 (wpAny_storeSet_of ho1 rfl ?_ (by rw[his,Hx];omega));have hg:(s1.heap.update S (Obj.putSet (SetTable.insertAt es (t.put j).2 (hp (u,v),Value.ref a)) (t.put j).1)).get? S=some { cls:=.type "set",dict:=none,data:=.set (SetTable.insertAt es (t.put j).2 (hp (u,v),Value.ref a)) (ep+1) (t.put j).1 } :=
   G6 _ ho1 rfl
  have sb1:Heap.SameBut S s.heap (s1.heap.update S (Obj.putSet (SetTable.insertAt es (t.put j).2 (hp (u,v),Value.ref a)) (t.put j).1)):=by rw[e1];exact G8 ..
  have hs1:∀hh':Heap,({ s1 with heap:=hh' }:Shared)={ s with heap:=hh',toks:=s1.toks }:=fun hh'=>by rw[←hs']
  by_cases hfull:(t.put j).1.tooFull=true
  ·rw[hfull,Gq (by rfl)];have hfu:((t.put j).1.place.size+(t.put j).1.dummies.size)*5≥(t.put j).1.mask*3:=by
    have q:=hfull;unfold SetTable.tooFull SetTable.fill at q;exact of_decide_eq_true q
   rw[hps,hpd,hpm,hts]at hfu;have hz:(#[]:Array Nat).size=0:=rfl;rw[hz]at hfu;have h5:t.mask=7/\es.size=4:=by omega
   have hw:SetTable.grown (es.size+1)=20:=by rw[h5.2];rfl
   rw[hw];have hf2:(t.put j).1.fits (SetTable.insertAt es (t.put j).2 (hp (u,v),Value.ref a)).size=true:=fits_of hpd (by rw[hps,his,hts]) (by rw[his,hpm];omega);obtain⟨t',order,r1,r2,r3,r4,r5,r6⟩:=oK (t:=(t.put j).1) (hashes:=(SetTable.insertAt es (t.put j).2 (hp (u,v),Value.ref a)).map (·.1)) (wanted:=20) rfl (fun h0 hm0=>by
    rw[Array.toList_map]at hm0;obtain⟨e,he,rfl⟩:=F4.mp hm0;obtain⟨p,hp1,hp2⟩:=hash' e he;rw[hp2];rcases Gf.mp hp1 with q | q
    ·exact lW (hd p q)
    ·rw[Gk.mp q];exact lW hin) (by rw[Array.size_map,his];omega)
   rw[Array.size_map]at r4 r5;have op:=mC r5;have osz:(order.filterMap ((SetTable.insertAt es (t.put j).2 (hp (u,v),Value.ref a))[·]?)).size=(SetTable.insertAt es (t.put j).2 (hp (u,v),Value.ref a)).size:=by
    rw[←HZ,← HZ];exact op.length_eq
   unfold setRelay;refine F1 (F1 (HY hg rfl hf2 ?_));dsimp only;rw[Gp (show ¬SetTable.sizeAbove 20>sizeLine by rw[Hx];decide)];refine F1 ?_;rw[r1];show wpAny _ _ (if (Array.size (order.filterMap ((SetTable.insertAt es (t.put j).2 (hp (u,v),Value.ref a))[·]?)) !=(SetTable.insertAt es (t.put j).2 (hp (u,v),Value.ref a)).size)=true then _ else _) _ _ _;rw[Gp (by rw[osz];simp)];refine F5 ?_;dsimp only;refine wpAny_storeSet_of hg rfl ?_ (by rw[osz,his,Hx];omega);refine F5 ?_;have hg3:=G6 (Obj.putSet (order.filterMap ((SetTable.insertAt es (t.put j).2 (hp (u,v),Value.ref a))[·]?)) t') hg rfl;rw[hs1];refine h _ _ (sb1.trans (G8 ..)) ⟨_,_,_,hg3,r3,by rw[r4,osz],by rw[osz,his,hes];simp,.inr ⟨r2,by rw[osz,his];omega⟩,fun e he=>hash' e (op.mem_iff.mp he)⟩
  ·rw[Bool.not_eq_true]at hfull;rw[hfull,Gp (by decide)];refine F5 ?_;rw[hs1];refine h _ _ sb1 ⟨_,_,_,hg,hpd,by rw[hps,his,hts],by rw[his,hes];simp,?_,hash'⟩;have hfu:¬((t.put j).1.place.size+(t.put j).1.dummies.size)*5≥(t.put j).1.mask*3:=by
    have q:=hfull;unfold SetTable.tooFull SetTable.fill at q;exact of_decide_eq_false q
   rw[hps,hpd,hpm,hts]at hfu;have hz:(#[]:Array Nat).size=0:=rfl;rw[hz]at hfu;rw[his,hpm];omega
 by_cases hpl:(t.put j).1.plain=true
 ·rw[Gq hpl];refine F1 (fW hk1 ?_);exact last
 ·rw[Gp hpl];refine F1 (F5 ?_);exact last
def qM(h:Heap)(vs:List Value)(ps:List (Int×Int)):Prop:=∀(i:Nat) (v:Value),vs[i]?=some v->∃a p,v=.ref a/\ps[i]?=some p/\IsTupleKey (intKind prog w) h [p.1,p.2] a
theorem qw(x:IsTupleKey (intKind prog w) h [u,v] a)(ho:h.get? S=some { cls:=.type "set",dict:=none,data:=.set es ep t })
  (sb:∀b o,b≠S->h.get? b=some o->h'.get? b=some o):IsTupleKey (intKind prog w) h' [u,v] a:=by
 obtain⟨o,items,n,e,c,d,i⟩:=x;refine⟨o,items,n,sb a o ?_ e,c,d,i⟩;rintro rfl;rw[ho]at e;cases e;cases d
theorem oy(hu:A.units+1<cLine)(hh:A.in1.handled=none)(hlen:vs.length=ps.length)(hl15:ps.length≤15)(hnd:ps.Nodup)(hin:∀p∈ps,p∈prs)
  (hSI:S≠I) (hSl:S≠l) (hlI:l≠I):∀(k i:Nat) (s:Shared),ps.length - i=k->i≤ps.length->s.heap.IsListIter I l i->s.heap.IsList l vs.toArray->qM (prog:=prog) (w:=w) s.heap vs ps->hJ s.heap S (ps.take i) ->
   (∀h' tk,(∀b o,b≠S->b≠I->s.heap.get? b=some o->h'.get? b=some o)->hJ h' S ps->R (.ok (.ret .none)) { s with heap:=h',toks:=tk }) ->
   codeAny (model prog w) A (.builtin "set.update.loop" ⟨[.ref S,.ref I],[]⟩) R s:=by
 intro k
 induction k with
 | zero =>
  intro i s hk hi hit hl hT hP hR;have e:i=ps.length:=by omega
  subst e;rw[Ho]at hP;refine HE F.entry_set_update_loop ?_;rw[Hv HV _];show wpAny _ A.in1 (pyNext (.ref I) >>= _) _ _ s;refine F1 (wpAny_pyNext_list_end hh hit hl (by simp[hlen]) fun h' eb=>?_);show wpAny _ A.in1 (ret Value.none) _ _ _;refine F5 (hR h' s.toks (fun b o _ hb e=>eb b o hb e) ?_);obtain⟨es,ep,t,ho,r⟩:=hP.is;exact⟨es,ep,t,eb S _ hSI ho,r⟩
 | succ k ih =>
  intro i s hk hi hit hl hT hP hR;have hlt:i<ps.length:=by omega
  have hvi:vs[i]?=some vs[i]:=F2 (by omega);obtain⟨a,p,ev,ep,key⟩:=hT i _ hvi;refine HE F.entry_set_update_loop ?_;rw[Hv HV _];show wpAny _ A.in1 (pyNext (.ref I) >>= _) _ _ s;refine F1 (wpAny_pyNext_list_item hit hl (x:=.ref a) (by rw[←ev];simp) fun h1 hit1 sb1=>?_);have k1:∀b o,b≠I->s.heap.get? b=some o->h1.get? b=some o:=fun b o hb e=>sb1.extBut b o hb e;obtain⟨es,epo,t,ho,r⟩:=id hP.is;have hP1:hJ h1 S (ps.take i):=⟨es,epo,t,k1 S _ hSI ho,r⟩;have key1:IsTupleKey (intKind prog w) h1 [p.1,p.2] a:=by
   obtain⟨o,items,n,e,c,d,ii⟩:=key;refine⟨o,items,n,k1 a o ?_ e,c,d,ii⟩;rintro rfl;obtain⟨oi,hoi,hci,_⟩:=hit;rw[hoi]at e;cases e;rw[hci]at c;exact absurd c (by decide)
  show wpAny _ A.in1 (holding [Value.ref a] (setAdd S (.ref a)) >>= _) _ _ _;have hmem:p∈ps:=Gg ep;have hnot:p∉ps.take i:=fun hm=>by
   obtain⟨j,hj,e⟩:=List.mem_iff_getElem.mp hm;rw[List.getElem_take]at e;rw[GN]at hj;obtain⟨hi',e'⟩:=Gj.mp ep;have:=(List.getElem_inj hnd (h₀:=by omega) (h₁:=hi')).mp (e.trans e'.symm);omega
  refine F1 (Hs (lg (u:=p.1) (v:=p.2) (A:=A.in1) (by show A.units+1<cLine;exact hu) key1 hP1 (hin p hmem) (fun q hq=>hin q (List.mem_of_mem_take hq)) hnot (by rw[GN];omega) fun h2 tk sb2 hP2=>?_));have k2:∀b o,b≠S->h1.get? b=some o->h2.get? b=some o:=fun b o hb e=>sb2.extBut b o hb e;have et:ps.take i++[p]=ps.take (i+1):=by rw[List.take_add_one,ep];rfl
  refine F5 ⟨plainId_quiet HV _,ih (i+1) { s with heap:=h2,toks:=tk } (by omega) (by omega) (hit1.extBut (fun b o hb e=>k2 b o hb e) (Ne.symm hSI)) ?_ ?_ (by rw[←et];exact hP2) ?_⟩
  ·exact(hl.extBut (fun b o hb e=>k1 b o hb e) hlI).extBut (fun b o hb e=>k2 b o hb e) (Ne.symm hSl)
  ·intro j v hv;obtain⟨a',p',e1',e2',key'⟩:=hT j v hv;refine⟨a',p',e1',e2',qw ?_ (k1 S _ hSI ho) k2⟩;obtain⟨o,items,n,e,c,d,ii⟩:=key';refine⟨o,items,n,k1 a' o ?_ e,c,d,ii⟩;rintro rfl;obtain⟨oi,hoi,hci,_⟩:=hit;rw[hoi]at e;cases e;rw[hci]at c;exact absurd c (by decide)
  ·intro h3 tk3 kp hP3;exact hR h3 tk3 (fun b o hb hb' e=>kp b o hb hb' (k2 b o hb (k1 b o hb' e))) hP3
set_option maxHeartbeats 4000000 in
theorem hW(hu:A.units+8<cLine)(hh:A.handled=none)(hl:s.heap.IsList l vs.toArray)(hlen:vs.length=ps.length)(hl15:ps.length≤15)
  (hnd:ps.Nodup) (hin:∀p∈ps,p∈prs) (hT:qM (prog:=prog) (w:=w) s.heap vs ps)
  (h:∀h' tk,(∀b o,b<s.heap.objs.size->s.heap.get? b=some o->h'.get? b=some o)->hJ h' s.heap.objs.size ps->Q (.ref s.heap.objs.size) { s with heap:=h',toks:=tk }) :
  wpAny (model prog w) A (call (.type "set") [.ref l]) Q E s:=by
 obtain⟨c0,tl0,mro0⟩:=F.called_set.mro;have made0:=F.called_set.made;have sub0:=F.called_set.sub;have nt0:=F.called_set.notType;have cc0:=F.called_set.canCreate;have tc0:=F.typeCall_set_1 (.ref l);refine wpAny_call (codeAny_of_tree ?_);show wpAny _ _ (callAny (.type "set") _) _ _ _;refine F5 ⟨Code.quiet_builtin _ (by decide +kernel),HE F.entry_type_call ?_⟩;rw[Around.under_plain (weight_type_call_type "set" [.ref l] []) rfl]
 repeat (any_goals (first | assumption | wp_step))
 refine IG (code_set_new_1 (.ref l) (E:=E) (Q₁:=fun obj s1=>∃led:Bool,obj=.ref s.heap.objs.size /\
  s1={ s with heap:=s.heap.push { cls:=.type "set",dict:=none,data:=.set #[] 0 (.fresh 0 0 led) } }) fun led=>⟨led,rfl,rfl⟩) fun r s1 hr=>?_
 cases r with
 | error e=>exact hr
 | ok fl =>
  cases fl with
  | ret obj =>
   obtain⟨led,rfl,rfl⟩:=hr;generalize hH:s.heap.push { cls:=.type "set",dict:=none,data:=.set #[] 0 (.fresh 0 0 led) }=H1;have hS:H1.get? s.heap.objs.size=some { cls:=.type "set",dict:=none,data:=.set #[] 0 (.fresh 0 0 led) }:=by rw[←hH];exact Gm _ rfl
   have old:∀b o,s.heap.get? b=some o->H1.get? b=some o:=fun b o e=>by rw[←hH];exact F6 _ e
   have hsz:H1.objs.size=s.heap.objs.size+1:=by rw[←hH,Heap.size_push]
   have tyS:Shared.TypeIs { s with heap:=H1 } (.ref s.heap.objs.size) "set":=⟨_,hS,rfl⟩;have li0:=F.called_set.init.lookup;have bi0:=F.called_set.init.bind (.ref s.heap.objs.size)
   repeat (any_goals (first | assumption | wp_step))
   refine IG (codeAny_call_builtin (R:=wants (fun r s2=>r=.none/\∃h' tk,s2={ s with heap:=h',toks:=tk }/\hJ h' s.heap.objs.size ps /\
    (∀b o,b<s.heap.objs.size->s.heap.get? b=some o->h'.get? b=some o)) E) F.called_set.init.plain F.entry_set_init (check_set_init_1 tyS ?_)) fun r2 s2 hr2=>?_
   ·obtain⟨ol,hol,hcl,nl,hdl⟩:=hl;obtain⟨oc,od,oda,osl⟩:=ol;simp only at hcl hdl;subst hcl;subst hdl;have hol1:H1.get? l=some { cls:=.type "list",dict:=od,data:=.seq vs.toArray nl,slots:=osl }:=old _ _ hol;have sls:=F.sub_list_set;have slf:=F.sub_list_frozenset;have nld:(Value.type "list"==Value.type "dict")=false:=by decide
    have hl1:H1.IsList l vs.toArray:=⟨_,hol1,rfl,nl,rfl⟩;have llt:l<s.heap.objs.size:=Gd hol;unfold Builtin.«set.__init__» noKeywords Builtin.Frozenset.updateFrom;generalize hPI:pyIter=PI
    wp_walk
    subst hPI;refine wpAny_pyIter_list hl1 ?_;refine F1 (wpAny_runValue ?_);generalize hH2:H1.push { cls:=.type "list_iterator",data:=.fields #[.ref l,.int 0 0] }=H2;have old2:∀b o,H1.get? b=some o->H2.get? b=some o:=fun b o e=>by rw[←hH2];exact F6 _ e
    refine oy (l:=l) (ps:=ps) (vs:=vs) (by show A.units+1+1+1<cLine;omega) (by simp[hh]) hlen hl15 hnd hin (by show s.heap.objs.size≠H1.objs.size;rw[hsz];exact Gv (Nat.lt_succ_self _)) (Nat.ne_of_gt llt) (by show l≠H1.objs.size;rw[hsz];exact Gv (Ih llt)) ps.length 0 _ (by omega) (HQ _) ?_ ?_ ?_ ?_ ?_
    ·rw[←hH2];exact⟨_,Gm _ rfl,rfl,rfl⟩
    ·exact⟨_,old2 _ _ hol1,rfl,nl,rfl⟩
    ·intro i v hv;obtain⟨a,p,e1,e2,o,items,n,e,r⟩:=hT i v hv;exact⟨a,p,e1,e2,o,items,n,old2 _ _ (old _ _ e),r⟩
    ·exact⟨#[],0,.fresh 0 0 led,old2 _ _ hS,rfl,rfl,rfl,.inl ⟨rfl,by decide⟩,fun e he=>by simp at he⟩
    ·intro h' tk kp hP;show wpAny _ _ (pure ()) _ _ _;refine F5 ?_;show wpAny _ _ (ret Value.none) _ _ _;refine F5 ⟨rfl,h',tk,rfl,hP,fun b o hb e=>?_⟩;refine kp b o (Gv hb) ?_ (old2 _ _ (old _ _ e));show b≠H1.objs.size;rw[hsz];exact Gv (Ih hb)
   ·cases r2 with
    | error e=>exact hr2
    | ok f2 =>
     cases f2 with
     | ret r =>
      obtain⟨rfl,h',tk,rfl,hP,hk⟩:=hr2
      repeat (any_goals (first | assumption | wp_step))
      exact h _ _ hk hP
     | _=>exact hr2.elim
  | _=>exact hr.elim
end
end SP
namespace L2
variable {X:Cx}
def uh(S:Addr)(n:Nat):Heap->Prop:=fun h=>∃es ep t,h.get? S=some { cls:=.type "set",dict:=none,data:=.set es ep t }/\es.size=n/\t.fits es.size=true
def Prs(K:PySem.W.Frag)(H:Hp)(us:List V)(ps:List (Int×Int)):Prop:=Paired (fun(u:V) (p:Int×Int)=>∃t,u=.ref t/\SqT K H t [.int p.1,.int p.2]) us ps
theorem jS{K:PySem.W.Frag}{H:Hp}:∀{us:List V} {ps:List (Int×Int)} {i:Nat} {u:V},Prs K H us ps->us[i]?=some u->∃p t,ps[i]?=some p/\u=.ref t/\SqT K H t [.int p.1,.int p.2]
 | [],_,i,u,_,e=>by simp at e
 | _::_,_::_,0,u,.cons h _,e=>by
  obtain⟨t,h1,h2⟩:=h;simp at e;subst e;exact⟨_,t,by simp,h1,h2⟩
 | _::_,_::_,i+1,u,.cons _ t,e=>by
  obtain⟨p,a,e1,e2⟩:=jS (i:=i) (u:=u) t (by simpa using e);exact⟨p,a,by simpa using e1,e2⟩
theorem j5{K:PySem.W.Frag}(h:Prs K H us ps):us.length=ps.length:=Paired.length h
theorem pJ(hc:X.calm=true)(hu:X.A.units+64<cLine):cA X (.type "set") (fun xs H Q=>∃(a:Addr) (us:List V) (ps:List (Int×Int)),xs=[.ref a]/\SqL X.K H a us/\Prs X.K H us ps/\ps.Nodup/\(∀p∈ps,p∈SP.prs)/\ps.length≤15/\∀S,H S=none->Q (.ref S) (upd H S (.ext (uh S ps.length)))):=by
 intro pins s σ H xs us Q I r h;obtain⟨a,ws,ps,rfl,hq,hP,nd,hin,h15,q⟩:=h;obtain⟨u,rfl,ru⟩:=Vals.one r;cases ru;obtain⟨its,rv,p,hz⟩:=I.list hq;have hlen:its.length=ps.length:=rv.length.symm.trans (j5 hP);refine SP.hW (by omega) (I.ok.hd hc) p.isList hlen h15 nd hin ?_ fun h' tk kp P=>?_
 ·intro i v hv;have hi:i<ws.length:=by rw[rv.length];exact(Gj.mp hv).1
  obtain⟨pr,t,e1,e2,hs⟩:=jS (i:=i) hP (F2 hi);obtain⟨u,eu,ru⟩:=rv.get (F2 hi);rw[hv]at eu;cases eu;rw[e2]at ru;cases ru;obtain⟨is,r2,⟨o,ho,hcl,n,hd⟩,_⟩:=I.tuple hs;obtain⟨x,y,rfl,rx,ry⟩:=vals2 r2;obtain⟨t1,rfl⟩:=rx;obtain⟨t2,rfl⟩:=ry;exact⟨t,pr,rfl,e1,o,_,n,ho,hcl,hd,.cons (by simp[intKind,Value.isInt]) (.cons (by simp[intKind,Value.isInt]) .nil)⟩
 ·have hn:H s.heap.objs.size=none:=I.hok.fresh (F9 _);obtain⟨es,ep,t,ho,hd,hp,hl,hm,_⟩:=P.is;have hf:t.fits es.size=true:=SP.fits_of hd hp (by rcases hm with⟨e,k⟩ |⟨e,k⟩<;>omega);refine⟨.ref s.heap.objs.size,_,I.laid (t':=tk) (o:=.ext (uh s.heap.objs.size ps.length)) (fun b o e=>kp b o (Gd e) e) (F9 _) ?_,rfl,q _ hn⟩;exact⟨⟨es,ep,t,ho,hl,hf⟩,⟨_,ho⟩,fun h1 h2 y_ k=>by obtain⟨es,ep,t,e,l,f⟩:=y_;exact ⟨es,ep,t,k _ e,l,f⟩⟩
theorem o8:cA X (.builtin "len") (fun xs H Q=>∃(S:Addr) (n:Nat),xs=[.ref S]/\H S=some (.ext (uh S n))/\n<1000/\Q (.int n) H):=by
 intro pins s σ H xs us Q I r h;obtain⟨S,n,rfl,hS,hn,q⟩:=h;obtain⟨u,rfl,ru⟩:=Vals.one r;cases ru;obtain⟨⟨es,ep,t,ho,hl,hf⟩,_,_⟩:=(show bP X.prog X.w H s.heap S (.ext (uh S n))from I.hok S _ hS);subst hl;exact call_len_set ho ⟨rfl,rfl,rfl⟩ rfl hf (by omega) ⟨.int es.size,H,I.tok _,⟨_,rfl⟩,q⟩
end L2
namespace U
open L2
section
variable {B:Bs}{X:Cx}{e:Expr}{ta:TE'}{p p2 pos pos2:Pos}
def prV(p:Int×Int):PV:=.tup [.int p.1,.int p.2]
theorem mM{K:PySem.W.Frag}{H:Hp}:∀{ps:List (Int×Int)} {us:List V},RPs K H (ps.map prV) us->Prs K H us ps
 | [],us,h=>by
  have:us=[]:=by simpa[RPs]using h
  subst this;exact .nil
 | q::ps,us,h=>by
  simp only[Ge,RPs,RP,prV]at h;obtain⟨u,r,rfl,⟨t,ws,rfl,hs,w1,r1,rfl,rfl,w2,r2,rfl,rfl,rfl⟩,h2⟩:=h;exact .cons ⟨t,rfl,hs⟩ (mM h2)
def tN(x:PV)(H:PHp)(Q:VK'):Prop:=match x with
 | .ref a=>∃ps:List (Int×Int),H a=some (.lst (ps.map prV))/\ps.Nodup/\(∀p∈ps,p∈SP.prs)/\ps.length≤15/\Q (.int ps.length) H
 | _=>False
def nW(ta:TE'):TE':=fun σ H Q=>ta σ H fun x H1=>tN x H1 Q
theorem l8(hc:X.calm=true)(hu:X.A.units+64<cLine)(hgl:Gl X "len")(hml:X.mg "len"=none)(hgs:Gl X "set")(hms:X.mg "set"=none)(bs:bootBuiltins "set"=some (.type "set"))(ha:PE' X B e ta)
  (he:starEach [.Call (.Name "set" p2) [e] [] pos2] X.env=[(false,eval (.Call (.Name "set" p2) [e] [] pos2) X.env)]:=by rfl) (he2:starEach [e] X.env=[(false,eval e X.env)]:=by rfl) :
  PE' X B (.Call (.Name "len" p) [.Call (.Name "set" p2) [e] [] pos2] [] pos) (nW ta) :=
 aV (dW o8 hgl hml Gn (cP (dj (pJ hc hu) hgs hms bs (cP ha dw he2) (by decide) (by decide) he2 rfl) dw he) (by decide) (by decide) he rfl) fun σ H Q h=>by
  obtain⟨σ',H',Q',s,h,k⟩:=h;refine⟨σ',H',_,s,h,fun x' H1' x H1 h1 rx s1 e1=>?_⟩;cases x' with
  | ref a =>
   obtain⟨ps,ea,nd,hin,h15,q⟩:=h1;simp only[RP]at rx;subst rx;obtain⟨us,eg,r2⟩:=s1.hp _ _ ea;refine⟨a,us,ps,rfl,.inl (.inl eg),mM r2,nd,hin,h15,fun S hS=>?_⟩;exact⟨S,ps.length,rfl,bh,by omega,k _ _ _ _ q (by simp[RP]) (s1.hid hS) (e1.trans (Ev.hid hS))⟩
  | _=>exact h1.elim
end
section
variable {B:Bs}{X:Cx}{a b:Expr}{ta tb:TE'}{pos:Pos}
def Cw:R2':=uI (fun _ j=>0≤j) fun i j=>.int (i / 2 ^ j.toNat)
def wu:R2':=uI0 fun i j=>.int (Builtin.bitAnd i j)
theorem yg(ha:PE' X B a ta)(hb:PE' X B b tb):PE' X B (.BinOp a .RShift b pos) (uOp Cw ta tb):=eW yI (pP fun _ _ _=>by simp[RP]) ha hb
theorem vK(ha:PE' X B a ta)(hb:PE' X B b tb):PE' X B (.BinOp a .BitAnd b pos) (uOp wu ta tb):=eW x9 (gj fun _ _ _=>by simp[RP]) ha hb
end
end U
namespace ST
open PySem.W
def key(K:Nat->Int)(p:Array Nat)(i:Nat):Int:=K ((p[i]?).getD 0)
structure Ok (n:Nat) (p:Array Nat):Prop where
 perm:p.toList.Perm (List.range n)
def S(K:Nat->Int)(p:Array Nat)(m:Nat):Prop:=∀i j,i<j->j<m->key K p i<key K p j
theorem Ok.size(h:Ok n p):p.size=n:=by
 have:=h.perm.length_eq;simpa using this
theorem Ok.lt(h:Ok n p)(h0:0<n)(i:Nat):p.getD i 0<n:=by
 rw[Array.getD_eq_getD_getElem?];cases e:p[i]? with
 | none=>exact h0
 | some x =>
  have:x∈p.toList:=by
   obtain⟨hi,rfl⟩:=Array.getElem?_eq_some_iff.mp e;simp
  exact GC.mp (h.perm.mem_iff.mp this)
theorem Ok.of(h:Ok n p)(r:q.Perm p):Ok n q:=⟨(Array.perm_iff_toList_perm.mp r).trans h.perm⟩
section
variable {cmp:Nat->Nat->(Bool->Shared->Prop)->Shared->Prop}{s:Shared}{n:Nat}{K:Nat->Int}{p:Array Nat}
theorem Ok.ne(hK:∀i j,i<n->j<n->K i=K j->i=j)(h:Ok n p){i j:Nat}(hi:i<n)(hj:j<n)(hne:i≠j):key K p i≠key K p j:=by
 intro e;have hs:=h.size;have h0:0<n:=by omega
 unfold key at e;rw[Gu (by omega),Gu (by omega)]at e;simp only[Option.getD_some]at e;have nd:p.toList.Nodup:=(h.perm.nodup_iff).mpr List.nodup_range;have l1:p[i]<n:=by have:=h.lt h0 i;rwa [Array.getD_eq_getD_getElem?,Gu (by omega)]at this
 have l2:p[j]<n:=by have:=h.lt h0 j;rwa [Array.getD_eq_getD_getElem?,Gu (by omega)]at this
 have q:=hK _ _ l1 l2 e;have:i=j:=by
  exact(List.getElem_inj nd (h₀:=by simpa[hs]using hi) (h₁:=by simpa[hs]using hj)).mp (by simpa using q)
 exact hne this
theorem kR(K:Nat->Int)(p:Array Nat)(i:Nat):K (p.getD i 0)=key K p i:=by
 unfold key;rw[Array.getD_eq_getD_getElem?]
variable (hc:∀i j C,i<n->j<n->C (decide (K i<K j)) s->cmp i j C s)(hK:∀i j,i<n->j<n->K i=K j->i=j)
include hc
theorem il(h0:0<n)(ok:Ok n p){i j:Nat}(h:G (decide (key K p i<key K p j)) s):cmp (p.getD i 0) (p.getD j 0) G s:=by
 refine hc _ _ _ (ok.lt h0 i) (ok.lt h0 j) ?_;rw[kR K p i,kR K p j];exact h
include hK
theorem fZ(ok:Ok n p)(hi:i<n)(hj:j<n)(hne:i≠j)(h:¬key K p i<key K p j):key K p j<key K p i:=by
 have:=ok.ne hK hi hj hne;omega
theorem asc(ok:Ok n p):∀(f m:Nat) {G:Nat->Shared->Prop},1≤m->m+f≤n->S K p m ->
  (∀m',m≤m'->m'≤m+f->S K p m'->(m'<m+f->key K p m'<key K p (m' - 1))->G m' s)->(kas_asc p f m).kasWp cmp G s
 | 0,m,G,_,_,hS,h=>h m (F9 _) (F9 _) hS fun q=>absurd q (Io _)
 | f+1,m,G,h1,hm,hS,h=>by
  refine il hc (by omega) ok (G:=fun c s'=>(if c=true then KasT.ret m else kas_asc p f (m+1)).kasWp cmp G s') ?_;by_cases q:key K p m<key K p (m - 1)
  ·rw[GP q];show G m s;exact h m (F9 _) (by omega) hS fun _=>q
  ·rw[GR q];show(kas_asc p f (m+1)).kasWp cmp G s;have q':=fZ hc hK ok (by omega) (by omega) (by omega) q;refine asc ok f (m+1) (by omega) (by omega) ?_ fun m' a b c d=>h m' (by omega) (by omega) c fun e=>d (by omega);intro i j hij hj;by_cases hjm:j<m
   ·exact hS i j hij hjm
   ·have:j=m:=by omega
    subst this;by_cases him:i=j - 1
    ·subst him;exact q'
    ·have:=hS i (j - 1) (by omega) (by omega);omega
theorem desc(ok:Ok n p):∀(f m:Nat) {G:Array Nat×Nat×Nat->Shared->Prop},1≤m->m+f≤n->(∀i j,i<j->j<m->key K p j<key K p i) ->
  (∀m',m≤m'->m'≤m+f->(∀i j,i<j->j<m'->key K p j<key K p i)->G (p,m',0) s)->(kas_desc f p m 0).kasWp cmp G s
 | 0,m,G,_,_,hS,h=>h m (F9 _) (F9 _) hS
 | f+1,m,G,h1,hm,hS,h=>by
  refine il hc (by omega) ok (G:=fun c s'=>(if c=true then(if 0>0 then kas_desc f (kas_rev p (m - (0+1)) m) (m+1) 0 else kas_desc f p (m+1) 0)
   else KasT.ask (p.getD (m - 1) 0) (p.getD m 0) fun d=>if d=true then KasT.ret (p,m,0)else kas_desc f p (m+1) (0+1)).kasWp cmp G s') ?_
  by_cases q:key K p m<key K p (m - 1)
  ·rw[GP q,Gq rfl,Gp (by omega)];refine desc ok f (m+1) (by omega) (by omega) ?_ fun m' a b c=>h m' (by omega) (by omega) c;intro i j hij hj;by_cases hjm:j<m
   ·exact hS i j hij hjm
   ·have:j=m:=by omega
    subst this;by_cases him:i=j - 1
    ·subst him;exact q
    ·have:=hS i (j - 1) (by omega) (by omega);omega
  ·rw[GR q];have q':=fZ hc hK ok (by omega) (by omega) (by omega) q;refine il hc (by omega) ok (G:=fun d s'=>(if d=true then KasT.ret (p,m,0)else kas_desc f p (m+1) (0+1)).kasWp cmp G s') ?_;rw[GP q',Gq rfl];exact h m (F9 _) (by omega) hS
theorem mU(ok:Ok n p)(hm:m≤n)(i:Nat):key K (kas_rev p 0 m) i=if i<m then key K p (m - 1 - i)else key K p i:=by
 unfold key kas_rev;rw[getElem?_mirror_all (by rw[ok.size];exact hm)];by_cases h:i<m
 ·rw[Gq ⟨HQ _,h⟩,Gq h];congr 3;omega
 ·rw[Gp (by omega),Gp h]
theorem count(ok:Ok n p)(h1:1≤n)(h:∀m p',Ok n p'->1≤m->m≤n->S K p' m->G (m,p') s):(kas_count n p).kasWp cmp G s:=by
 unfold kas_count;rw[KasT.kasWp_bind];refine asc hc hK ok (n - 1) 1 (F9 _) (by omega) (fun i j a b=>by omega) fun m' a b hS st=>?_;by_cases e:m'=n
 ·subst e;rw[Gq (by simp)];exact h _ _ ok (by omega) (F9 _) hS
 ·rw[Gp (by simpa using e)];by_cases e1:m'>1
  ·rw[Gq e1];refine il hc (by omega) ok (G:=fun c s'=>(if c=true then KasT.ret (m',p)else kas_descPart m' n (kas_rev p 0 m')).kasWp cmp G s') ?_;rw[GP (hS 0 (m' - 1) (by omega) (by omega)),Gq rfl];exact h _ _ ok (by omega) (by omega) hS
  ·rw[Gp e1];have:m'=1:=by omega
   subst this;unfold kas_descPart;rw[KasT.kasWp_bind];have st1:=st (by omega);refine desc hc hK ok (n - (1+1)) (1+1) (by omega) (by omega) (fun i j hij hj=>?_) fun m' a b hD=>?_
   ·have h1:j=1:=by omega
    have h2:i=0:=by omega
    subst h1;subst h2;exact st1
   ·rw[Gp (by simp)];unfold kas_tail3;rw[KasT.kasWp_bind];have ok2:Ok n (kas_rev p 0 m'):=ok.of (mirror_perm _ _ _ _);refine asc hc hK ok2 (n - m') m' (by omega) (by omega) (fun i j hij hj=>?_) fun m2 a2 b2 hS2 _=>?_
    ·rw[mU hc hK ok (by omega),mU hc hK ok (by omega),Gq (by omega),Gq hj];exact hD _ _ (by omega) (by omega)
    ·exact h m2 _ ok2 (by omega) (by omega) hS2
theorem place(ok:Ok n p){k:Nat}(hk:k<n)(hS:S K p k):∀(f l r:Nat) {G:Nat->Shared->Prop},l≤r->r≤k->r - l≤f->(∀i,i<l->key K p i<key K p k)->(∀i,r≤i->i<k->key K p k<key K p i) ->
  (∀l',l'≤k->(∀i,i<l'->key K p i<key K p k)->(∀i,l'≤i->i<k->key K p k<key K p i)->G l' s)->(kas_place p k f l r).kasWp cmp G s
 | 0,l,r,G,h1,h2,h3,ha,hb,h=>h l (by omega) ha fun i x y=>hb i (by omega) y
 | f+1,l,r,G,h1,h2,h3,ha,hb,h=>by
  unfold kas_place;by_cases e:l≥r
  ·rw[Gq e];exact h l (by omega) ha fun i x y=>hb i (by omega) y
  ·rw[Gp e];refine il hc (by omega) ok (G:=fun c s'=>(if c=true then kas_place p k f l ((l+r) / 2)else kas_place p k f ((l+r) / 2+1) r).kasWp cmp G s') ?_;have hmid:(l+r) / 2<k:=by omega
   generalize hm:(l+r) / 2=mid at *;by_cases q:key K p k<key K p mid
   ·rw[GP q,Gq rfl];refine place ok hk hS f l mid (by omega) (by omega) (by omega) ha (fun i x y=>?_) h;by_cases z:i=mid
    ·subst z;exact q
    ·have:=hS mid i (by omega) y;omega
   ·rw[GR q,Gp (by simp)];have q':=fZ hc hK ok hk (by omega) (by omega) q;refine place ok hk hS f (mid+1) r (by omega) h2 (by omega) (fun i x=>?_) hb h;by_cases z:i=mid
    ·subst z;exact q'
    ·have:=hS i mid (by omega) hmid;omega
theorem mZ(ok:Ok n p)(hk:k<n)(hl:l≤k)(i:Nat):key K (bubble p k (k - l)) i=if i=l then key K p k else if l<i/\i≤k then key K p (i - 1)else key K p i:=by
 unfold key;rw[getElem?_bubble (by rw[ok.size];exact hk) _ (Nat.sub_le _ _)];rw[show k - (k - l)=l by omega];split
 ·rfl
 ·split<;>rfl
theorem bin:∀(f k:Nat) (p:Array Nat) {G:Array Nat->Shared->Prop},Ok n p->1≤k->k+f=n->S K p k->(∀p',Ok n p'->S K p' n->G p' s)->(kas_bin f p k).kasWp cmp G s
 | 0, k, p, G, ok, h1, h2, hS, h => h p ok (by have : k = n := by omega
                                               subst this; exact hS)
 | f+1,k,p,G,ok,h1,h2,hS,h=>by
  unfold kas_bin;rw[KasT.kasWp_bind];refine place hc hK ok (by omega) hS k 0 k (by omega) (F9 _) (by omega) (fun i x=>by omega) (fun i x y=>by omega) fun l hl ha hb=>?_;refine bin f (k+1) _ (ok.of (bubble_perm _ _ _)) (by omega) (by omega) (fun i j hij hj=>?_) h;rw[mZ hc hK ok (by omega) hl,mZ hc hK ok (by omega) hl];by_cases c1:i=l
  ·rw[Gq c1];rw[Gp (by omega),Gq (by omega)];exact hb _ (by omega) (by omega)
  ·rw[Gp c1];by_cases c2:j=l
   ·rw[Gq c2,Gp (by omega)];exact ha _ (by omega)
   ·rw[Gp c2];by_cases c3:l<i/\i≤k
    ·rw[Gq c3,Gq (by omega)];exact hS _ _ (by omega) (by omega)
    ·rw[Gp c3];by_cases c4:l<j/\j≤k
     ·rw[Gq c4];by_cases c5:i=j - 1
      ·omega
      ·exact hS _ _ (by omega) (by omega)
     ·rw[Gp c4];exact hS _ _ hij (by omega)
theorem sorts(h1:1≤n)(h:∀p,Ok n p->S K p n->G p s):(kas_sort n).kasWp cmp G s:=by
 unfold kas_sort;rw[KasT.kasWp_bind];refine count hc hK (p:=(List.range n).toArray) ⟨by simp⟩ h1 fun m p' ok a b hS=>?_;show(if m<n then kas_bin (n - max m 1) p' (max m 1)else KasT.ret p').kasWp cmp G s;by_cases e:m<n
 ·rw[Gq e,show max m 1=m by omega];exact bin hc hK (n - m) m p' ok a (by omega) hS h
 ·rw[Gp e];have:m=n:=by omega
  subst this;exact h p' ok hS
end
end ST
namespace ST
open PySem.W
def pk(p:Int×Int):Int:=6*p.1+p.2
def Tp(h:Heap)(v:Value)(p:Int×Int):Prop:=∃t o k u1 u2,v=.ref t/\h.get? t=some o/\o.cls=.type "tuple"/\o.data=.seq #[.int p.1 u1,.int p.2 u2] k
def Tps(h:Heap)(vs:List Value)(ps:List (Int×Int)):Prop:=vs.length=ps.length/\∀i v,vs[i]?=some v->Tp h v (ps.getD i (0,0))
theorem Tp.kp(x:Tp h v p)(k:∀b o,o.cls=.type "tuple"->h.get? b=some o->h'.get? b=some o):Tp h' v p:=by
 obtain⟨t,o,n,u1,u2,e,ho,hc,hd⟩:=x;exact⟨t,o,n,u1,u2,e,k _ _ hc ho,hc,hd⟩
section
variable {prog:Program}{w:World}{A:Around}{E:Value->Shared->Prop}{s:Shared}
theorem uE(hx:Tp s.heap x p)(hy:Tp s.heap y q)(bp:0≤p.2/\p.2<6)(bq:0≤q.2/\q.2<6)(h:C (decide (pk p<pk q)) s) :
  wpAny (model prog w) A (keyLt' (tuples' true) x y) C E s:=by
 obtain⟨t,o,n,u1,u2,rfl,ho,hc,hd⟩:=hx;obtain⟨t',o',n',w1,w2,rfl,ho',hc',hd'⟩:=hy;refine kat_lt ho hd ho' hd' ?_;show KatLex prog w A true (decide (2<2)) C [(.int p.1 u1,.int q.1 w1),(.int p.2 u2,.int q.2 w2)] 0 s;refine kat_cons (wpAny_eqBool_int ?_);refine kat_go (fun e1=>kat_yes (kat_cons (wpAny_eqBool_int ?_))) (fun e1=>kat_no ?_)
 ·have e1:p.1=q.1:=by simpa using e1
  refine kat_go (fun e2=>kat_yes (kat_nil ?_)) (fun e2=>kat_no ?_)
  ·have e2:p.2=q.2:=by simpa using e2
   have:decide (pk p<pk q)=decide (2<2):=by unfold pk;rw[e1,e2];simp
   rw[←this];exact h
  ·refine kat_one _ _ (PyProof.Rows.lt_int ?_);have:decide (pk p<pk q)=decide (p.2<q.2):=by
    rw[decide_eq_decide];unfold pk;omega
   show C (decide (p.2<q.2)) s;rw[←this];exact h
 ·have e1:¬p.1=q.1:=by simpa using e1
  refine oneLt_int ?_;have:decide (pk p<pk q)=decide (p.1<q.1):=by
   rw[decide_eq_decide];unfold pk;omega
  rw[←this];exact h
theorem nO{h:Heap}:∀{vs:List Value} {ps:List (Int×Int)},Tps h vs ps->∃fs,KatTups h vs fs/\fs.length=vs.length/\∀v∈fs,∃i t,v=.int i t
 | [],ps,_=>⟨[],KatTups.nil,rfl,by simp⟩
 | v::vs,[],x=>by have:=x.1;simp at this
 | v::vs,p::ps,x=>by
  obtain⟨fs,t,l,q⟩:=nO (h:=h) (vs:=vs) (ps:=ps) ⟨by have:=x.1;simpa using this,fun i v e=>by simpa using x.2 (i+1) v (by simpa using e)⟩;obtain⟨t0,o,n,u1,u2,rfl,ho,hc,hd⟩:=x.2 0 v (by simp);refine⟨.int _ u1::fs,KatTups.cons ho hc hd rfl t,by simp[l],?_⟩;intro z hz;rcases Gh.mp hz with rfl | hz
  ·exact⟨_,_,rfl⟩
  ·exact q z hz
theorem gB(ho:s.heap.get? a=some (seqObj "list" vs.toArray n))(hT:Tps s.heap vs ps)(nd:ps.Nodup)
  (hb:∀p∈ps,0≤p.2/\p.2<6) (h64:vs.length<64)
  (h:∀q:List Nat,q.Perm (List.range vs.length)->(q.map fun i=>ps.getD i (0,0)).Pairwise (fun x y=>pk x<pk y)->P (.done (.ret .none)) { s with heap:=sortedHeap s.heap a vs (q.map fun i=>vs.getD i Value.none).toArray }) :
  wpAny (model prog w) A (Builtin.«list.sort» ⟨[.ref a],[]⟩) P E s:=by
 rw[list_sort_plain];have hls:vs.length≤sizeLine:=by rw[Hx];omega
 refine F1 (listItems_at ho rfl (F1 ?_));refine(listUpdate_at ho rfl ?_ (by rw[Gi];omega) (HQ _));obtain⟨ea0,oa0⟩:∃ea0,(s.heap.update a (Obj.mapSeq fun _=>#[])).get? a=some (seqObj "list" #[] ea0):=⟨_,get?_update_seq ho (fun _=>#[])⟩;refine F1 (seqEpoch_at oa0 rfl ?_);refine F1 (wpAny_newTuple ?_ (by show vs.length≤_;omega));refine F1 (wpAny_newList ?_ (HQ _));refine Hs ?_;have kq0:∀b o,b≠a->s.heap.get? b=some o->(((s.heap.update a (Obj.mapSeq fun _=>#[])).push (seqObj "tuple" vs.toArray 0)).push (seqObj "list" #[] 0)).get? b=some o:=fun b o hne q =>
  F6 _ (F6 _ (by rw[Heap.get?_update_ne _ _ _ _ hne];exact q))
 have og0:(((s.heap.update a (Obj.mapSeq fun _=>#[])).push (seqObj "tuple" vs.toArray 0)).push (seqObj "list" #[] 0)).get? a=some (seqObj "list" #[] ea0) :=
  F6 _ (F6 _ oa0)
 have hT6:Tps (((s.heap.update a (Obj.mapSeq fun _=>#[])).push (seqObj "tuple" vs.toArray 0)).push (seqObj "list" #[] 0)) vs ps:=⟨hT.1,fun i v e=>(hT.2 i v e).kp fun b o hcl q=>kq0 b o (fun z=>by
  subst z;rw[ho]at q;cases q;exact absurd hcl (by simp[seqObj])) q⟩
 show wpAny (model prog w) _ _ P _ { s with heap:=((s.heap.update a (Obj.mapSeq fun _=>#[])).push (seqObj "tuple" vs.toArray 0)).push (seqObj "list" #[] 0) };dsimp only;have zq0:vs.toArray.size=vs.length:=by simp
 by_cases hq2:vs.toArray.size<2
 ·rw[Gq hq2,Gq hq2];refine F1 (F5 ?_);rw[StateT.run_pure];refine F1 (F5 ?_);dsimp only;refine F1 (seqEpoch_at og0 rfl ?_);refine F1 (listUpdate_at og0 rfl ?_ (HQ _) (by rw[Array.size_map];show(pairsOf vs).size≤_;rw[pairsOf_size];omega));simp only[bne_self_eq_false,Bool.false_eq_true,if_false];have hq:=h (List.range vs.length) (List.Perm.refl _) ?_
  ·have e:(arrOf (SortSt.mk' general' (vs.toArray.zip vs.toArray) #[] 7 none)).map (·.2)=((List.range vs.length).map fun i=>vs.getD i Value.none).toArray:=by
    show(vs.toArray.zip vs.toArray).map (·.2)=_
    match vs,hq2 with
    | [],_=>apply Array.toList_inj.mp;simp
    | [v],_=>apply Array.toList_inj.mp;simp[List.range_succ]
    | _::_::_,hq2=>exact absurd hq2 (by simp)
   refine F5 ?_;rw[e];exact hq
  ·match vs,hq2 with
   | [],_=>exact List.Pairwise.nil
   | [v],_=>exact Ii _ _
   | _::_::_,hq2=>exact absurd hq2 (by simp)
 ·rw[Gp hq2,Gp hq2];obtain⟨fs,hfs,hfl,hfi⟩:=nO hT6;rw[zq0]at hq2;refine F1 (kat_kind hfs (by omega) (T:=.type "int") (fun v hv=>?_) rfl ?_)
  ·obtain⟨i,t,rfl⟩:=hfi v hv;exact Looks.of_pure rfl
  ·show wpAny (model prog w) A _ P E _;have hinj:∀i j,i<vs.length->j<vs.length->pk (ps.getD i (0,0))=pk (ps.getD j (0,0))->i=j:=by
    intro i j hi hj e;have hi':i<ps.length:=by rw[←hT.1];exact hi
    have hj':j<ps.length:=by rw[←hT.1];exact hj
    have g1:ps.getD i (0,0)=ps[i]:=by rw[F7,F2 hi'];rfl
    have g2:ps.getD j (0,0)=ps[j]:=by rw[F7,F2 hj'];rfl
    rw[g1,g2]at e;have b1:=hb _ (Gz hi');have b2:=hb _ (Gz hj');unfold pk at e;have e2:ps[i]=ps[j]:=Prod.ext (by omega) (by omega);exact(List.getElem_inj nd).mp e2
   refine F1 (IE (kat_run (ks:=vs) (vs:=vs) (κ:=tuples' true)
    (Q:=fun st' s'=>s'={ s with heap:=((s.heap.update a (Obj.mapSeq fun _=>#[])).push (seqObj "tuple" vs.toArray 0)).push (seqObj "list" #[] 0) }/\∃p:Array Nat,Ok vs.length p/\S (fun i=>pk (ps.getD i (0,0))) p vs.length/\arrOf st'=p.map (kas_item (vs.toArray.zip vs.toArray))/\failedOf st'=none)
    (G:=fun p s'=>s'={ s with heap:=((s.heap.update a (Obj.mapSeq fun _=>#[])).push (seqObj "tuple" vs.toArray 0)).push (seqObj "list" #[] 0) }/\Ok vs.length p/\S (fun i=>pk (ps.getD i (0,0))) p vs.length)
    rfl (by omega) h64 (fun p st' s' a1 a2 a3 a4=>⟨a4.1,p,a4.2.1,a4.2.2,a2,a3⟩) ?run) ?post fun _ _ e=>e)
   case run =>
    refine sorts (n:=vs.length) (K:=fun i=>pk (ps.getD i (0,0))) (fun i j C hi hj hC=>?_) hinj (by omega) fun p ok sS=>⟨rfl,ok,sS⟩;unfold kas_ask;have hi':i<ps.length:=by rw[←hT.1];exact hi
    have hj':j<ps.length:=by rw[←hT.1];exact hj
    refine uE (hT6.2 i _ ?_) (hT6.2 j _ ?_) (hb _ ?_) (hb _ ?_) hC
    ·rw[F7,F2 hi];rfl
    ·rw[F7,F2 hj];rfl
    ·rw[F7,F2 hi'];exact Gz hi'
    ·rw[F7,F2 hj'];exact Gz hj'
   case post =>
    rintro⟨⟨⟩,st'⟩ s' ⟨rfl,p,ok,sS,har,hf⟩;dsimp only;have hout:=kat_snds (ks:=vs) (vs:=vs) rfl har;have hpz:(List.toArray (p.toList.map fun i=>vs.getD i Value.none)).size=vs.length:=by rw[Gi,F0,HZ,ok.size]
    rw[hout];refine F1 (seqEpoch_at og0 rfl ?_);refine F1 (listUpdate_at og0 rfl ?_ (HQ _) (by omega));rw[hf];simp only[bne_self_eq_false,Bool.false_eq_true,if_false];refine F5 (h p.toList ok.perm ?_);rw[Hu,List.pairwise_iff_getElem];intro i j hi hj hij;have:=sS i j hij (by rw[←ok.size];simpa using hj);unfold key at this;have hi2:i<p.size:=by simpa using hi
    have hj2:j<p.size:=by simpa using hj
    rw[Gu hi2,Gu hj2]at this;simpa using this
theorem jB(hl:s.heap.IsList l vs.toArray)(hT:Tps s.heap vs ps)(nd:ps.Nodup)(hb:∀p∈ps,0≤p.2/\p.2<6)(h64:vs.length<64)
  (h:∀q:List Nat,q.Perm (List.range vs.length)->(q.map fun i=>ps.getD i (0,0)).Pairwise (fun x y=>pk x<pk y)->Q (.ref (s.heap.objs.size+1)) { s with heap:=sortedAll s.heap vs (q.map fun i=>vs.getD i Value.none).toArray }) :
  wpAny (model prog w) A (call (.builtin "sorted") [.ref l]) Q E s:=by
 refine Calls.call_function_entry kind_sorted plain_sorted entry_sorted (args_sorted1 _) ?_;unfold Builtin.«sorted»;refine F1 (m:=checkCount "sorted" 1 1 _) (F5 (F1 (collect_list hl (F1 (wpAny_newList ?_ (by rw[Hx];omega))) (by rw[Hx];omega))));have zq0:((s.heap.push (seqObj "list" #[] 0)).update s.heap.objs.size (Obj.mapSeq (·++vs.toArray))).objs.size=s.heap.objs.size+1:=by
  rw[Heap.size_update,size_push']
 have oq0:(((s.heap.push (seqObj "list" #[] 0)).update s.heap.objs.size (Obj.mapSeq (·++vs.toArray))).push (seqObj "list" vs.toArray 0)).get? (s.heap.objs.size+1)=some (seqObj "list" vs.toArray 0):=by
  rw[←zq0];exact Gm _ rfl
 have kq0:∀b o,s.heap.get? b=some o->(((s.heap.push (seqObj "list" #[] 0)).update s.heap.objs.size (Obj.mapSeq (·++vs.toArray))).push (seqObj "list" vs.toArray 0)).get? b=some o:=fun b o q=>by
  have lq0:b<s.heap.objs.size:=Gd q;rw[Heap.get?_push_ne _ _ _ (by rw[zq0];exact Gv (Ih lq0)),Heap.get?_update_ne _ _ _ _ (Gv lq0),Heap.get?_push_ne _ _ _ (Gv lq0)];exact q
 show wpAny (model prog w) _ _ _ _ { s with heap:=((s.heap.push (seqObj "list" #[] 0)).update s.heap.objs.size (Obj.mapSeq (·++vs.toArray))).push (seqObj "list" vs.toArray 0) };rw[zq0];refine F1 (Hs (GV slot_list_sort ⟨_,oq0,rfl⟩ entry_list_sort (gB (ps:=ps) oq0 ⟨hT.1,fun i v e=>(hT.2 i v e).kp fun b o _ q=>kq0 b o q⟩ nd hb h64 fun q a1 a2=>⟨_,rfl,?_⟩) (args_list_sort _)));exact F5 ⟨_,rfl,h q a1 a2⟩
end
end ST
namespace L2
variable {X:Cx}
def rC(K:PySem.W.Frag):List V->Hp->VK->Prop:=fun xs H Q=>∃(a:Addr) (us:List V) (ps:List (Int×Int)),xs=[.ref a]/\SqL K H a us/\Prs K H us ps/\ps.Nodup/\(∀p∈ps,0≤p.2/\p.2<6)/\ps.length<64 /\
 ∀(r:Addr) (q:List Nat),H r=none->q.Perm (List.range ps.length)->(q.map fun i=>ps.getD i (0,0)).Pairwise (fun x y=>ST.pk x<ST.pk y)->Q (.ref r) (upd H r (.lst (q.map fun i=>us.getD i .non)))
theorem iY{us:List V}{vs:List Value}(r:Vals us vs):∀(q:List Nat),(∀i∈q,i<us.length)->Vals (q.map fun i=>us.getD i .non) (q.map fun i=>vs.getD i Value.none)
 | [],_=>.nil
 | i::q,h=>by
  have hi:=h i Ga;obtain⟨u,eu,ru⟩:=r.get (F2 hi);refine .cons ?_ (iY r q fun j hj=>h j (Gb _ hj));dsimp only;rw[F7,F2 hi,F7,eu];exact ru
theorem iq:cA X (.builtin "sorted") (rC X.K):=by
 intro pins s σ H xs us Q I r h;obtain⟨a,ws,ps,rfl,hq,hP,nd,hb,h64,q⟩:=h;obtain⟨u,rfl,ru⟩:=Vals.one r;cases ru;obtain⟨its,rv,p,hz⟩:=I.list hq;have hlen:its.length=ps.length:=rv.length.symm.trans (j5 hP);refine ST.jB (ps:=ps) p.isList ⟨hlen,fun i v hv=>?_⟩ nd hb (by omega) fun qs h1 h2=>?_
 ·have hi:i<ws.length:=by rw[rv.length];exact(Gj.mp hv).1
  obtain⟨pr,t,e1,e2,hs⟩:=jS (i:=i) hP (F2 hi);obtain⟨u,eu,ru⟩:=rv.get (F2 hi);rw[hv]at eu;cases eu;rw[e2]at ru;cases ru;obtain⟨is,r2,⟨o,ho,hcl,n,hd⟩,_⟩:=I.tuple hs;obtain⟨x,y,rfl,rx,ry⟩:=vals2 r2;obtain⟨t1,rfl⟩:=rx;obtain⟨t2,rfl⟩:=ry;refine⟨t,o,n,t1,t2,rfl,ho,hcl,?_⟩;rw[F7,e1];exact hd
 ·have hn:H (s.heap.objs.size+1)=none:=I.hok.fresh (Nat.le_succ _);obtain⟨e,he⟩:=sortedAll_at s.heap its (qs.map fun i=>its.getD i Value.none).toArray;rw[hlen]at h1;have hin:∀i∈qs,i<ws.length:=fun i hi=>by
   have:=GC.mp (h1.mem_iff.mp hi);rw[j5 hP];exact this
  have hv:=iY rv qs hin;have hz2:(qs.map fun i=>ws.getD i V.non).length≤sizeLine:=by rw[F0,h1.length_eq,IC,Hx];omega
  refine⟨.ref (s.heap.objs.size+1),_,I.laid (t':=s.toks) (o:=.lst (qs.map fun i=>ws.getD i V.non)) (fun b o e=>sortedAll_old e) (Nat.le_succ _) ?_,rfl,q _ qs hn h1 h2⟩;exact⟨hz2,_,e,hv,he⟩
end L2
namespace U
open L2
section
variable {B:Bs}{X:Cx}{a b:Expr}{ta tb:TE'}{pos:Pos}
def pL:List PV->PHp->VK'->Prop:=di fun x H Q=>match x with
 | .ref a=>∃ps:List (Int×Int),H a=some (.lst (ps.map prV))/\ps.Nodup/\(∀p∈ps,0≤p.2/\p.2<6)/\ps.length<64/\∀(r:Addr) (qs:List (Int×Int)),H r=none->qs.Perm ps->qs.Pairwise (fun x y=>ST.pk x<ST.pk y)->Q (.ref r) (put H r (.lst (qs.map prV)))
 | _=>False
theorem lI{K:PySem.W.Frag}{H:Hp}{ps:List (Int×Int)}{us:List V}(r:RPs K H (ps.map prV) us):∀(q:List Nat),(∀i∈q,i<ps.length)->RPs K H ((q.map fun i=>ps.getD i (0,0)).map prV) (q.map fun i=>us.getD i V.non)
 | [],_=>RPs.nil _
 | i::q,h=>by
  have hi:=h i Ga;obtain⟨u,eu,ru⟩:=RPs.get _ (i:=i) (x:=prV ps[i]) r (by rw[Gs,F2 hi];rfl);refine RPs.cons _ ?_ (lI r q fun j hj=>h j (Gb _ hj));dsimp only;rw[F7,F2 hi,F7,eu];exact ru
theorem eH{α:Type}(l:List α)(d:α){q:List Nat}(h:q.Perm (List.range l.length)):(q.map fun i=>l.getD i d).Perm l:=by
 refine(h.map _).trans ?_;have:(List.range l.length).map (fun i=>l.getD i d)=l:=by
  apply List.ext_getElem
  ·simp
  ·intro i h1 h2;simp[F7,F2 h2]
 rw[this]
theorem lh{K:PySem.W.Frag}:VC K B pL (rC K):=by
 intro σ' σ H' H xs' xs Q' Q s r h k;obtain⟨x',x,rfl,rfl,rx,h⟩:=di.ex h r;cases x' with
 | ref a =>
  obtain⟨ps,ea,nd,hb,h64,q⟩:=h;simp only[RP]at rx;subst rx;obtain⟨us,e,r2⟩:=s.hp _ _ ea;refine⟨a,us,ps,rfl,.inl (.inl e),mM r2,nd,hb,h64,fun r qs hr h1 h2=>?_⟩;have hin:∀i∈qs,i<ps.length:=fun i hi=>GC.mp (h1.mem_iff.mp hi);exact k _ _ _ _ (q r _ (s.hp.free hr) (eH ps (0,0) h1) h2) (by simp[RP]) (s.new hr (kO hr (lI r2 qs hin))) (Ev.new hr)
 | _=>exact h.elim
def rV:PV->List PV->PHp->VK'->Prop:=fun x vs H Q=>match x,vs with
 | .ref a,[]=>∃l,H a=some (.lst l)/\Q .non (put H a (.lst l.reverse))
 | _,_=>False
def qh:PV->List PV->PHp->VK'->Prop:=fun x vs H Q=>match x,vs with
 | .ref a,[]=>∃l,H a=some (.lst l)/\Q .non (put H a (.lst []))
 | _,_=>False
def vC:PV->List PV->PHp->VK'->Prop:=fun x vs H Q=>match x,vs with
 | .ref a,[.int i,y]=>∃l,H a=some (.lst l)/\0≤i/\i.toNat≤l.length/\l.length<1000/\Q .non (put H a (.lst (l.take i.toNat++y::l.drop i.toNat)))
 | _,_=>False
theorem EJ{a:Addr}:rV (.ref a) [] H Q=∃l,H a=some (.lst l)/\Q .non (put H a (.lst l.reverse)):=rfl
theorem Es{a:Addr}:qh (.ref a) [] H Q=∃l,H a=some (.lst l)/\Q .non (put H a (.lst [])):=rfl
theorem Fu{a:Addr}:vC (.ref a) [.int i,y] H Q=∃l,H a=some (.lst l)/\0≤i/\i.toNat≤l.length/\l.length<1000/\Q .non (put H a (.lst (l.take i.toNat++y::l.drop i.toNat))):=rfl
end
section
theorem ku{B:Bs}{X:Cx}{x:Str}{v':PV}{v:V}{pos:Pos}(hg:Gl X x)(h:∃u,X.mg x=some u/\RelV v u)(r':∀H,RP X.K H v' v)(hd:(x==("__debug__":Str))=false:=by decide):PE' X B (.Name x pos) (uC v'):=by
 obtain⟨u,hm,r⟩:=h;exact vh hg hm r r' hd
theorem aB(f:PV->PV)(pz:PV->Bool)(Iv:St'->Prop)(hlen:xs.length≤1000)(hok:∀l,ok (put H1 acc (.lst l)))
  (hs:∀x∈xs,∀(l:List PV) (σ:St') (R:St'->PHp->Prop),Iv σ->l.length<sizeLine->(pz x=true->∀σ3,Iv σ3->R σ3 (put H1 acc (.lst (l++[f x]))))->(pz x=false->∀σ3,Iv σ3->R σ3 (put H1 acc (.lst l))) ->
   g x σ (put H1 acc (.lst l)) fun σ3 H2=>tt σ3 H2 fun b H3=>cif b (te σ3 H3 fun y H4=>∃l',H4 acc=some (.lst l')/\l'.length<sizeLine/\R σ3 (put H4 acc (.lst (l'++[y])))) (R σ3 H3))
  (hq:Q (.ref acc) (put H1 acc (.lst ((xs.filter pz).map f)))) {σ:St'} (h0:Iv σ):dG ok g tt te acc Q xs σ (put H1 acc (.lst [])):=by
 have key:∀(r d:List PV) (σ:St'),xs=d++r->Iv σ->dG ok g tt te acc Q r σ (put H1 acc (.lst ((d.filter pz).map f))):=by
  intro r
  induction r with
  | nil =>
   intro d σ e hv;have:d=xs:=by rw[e,GS]
   subst this;exact⟨hok _,hq⟩
  | cons x r ih =>
   intro d σ e hv;have hd:((d.filter pz).map f).length<sizeLine:=by
    have h1:d.length+(r.length+1)=xs.length:=by rw[e,F3,Gx]
    have h2:=List.length_filter_le pz d;have:=bA (n:=1000) (by decide);rw[F0];omega
   refine⟨hok _,hs x (by rw[e];simp) _ σ _ hv hd (fun hp σ3 h3=>?_) (fun hp σ3 h3=>?_)⟩
   ·have:=ih (d++[x]) σ3 (by rw[e];simp) h3;rw[List.filter_append,F8]at this;simpa[hp]using this
   ·have:=ih (d++[x]) σ3 (by rw[e];simp) h3;rw[List.filter_append,F8]at this;simpa[hp]using this
 exact key xs [] σ rfl h0
end
section
theorem Eh:wd C f (.ref a) H Q=∃dx fs v,H a=some (.ins C dx fs)/\fs.lookup f=some v/\Q v H:=rfl
theorem DY:we C f (.ref a) y H Q=∃dx fs,H a=some (.ins C dx fs)/\fs.length<1000/\Q (put H a (.ins C dx (iH f y fs))):=rfl
theorem C0:isIn C m (.ref a) H=∃dx fs,H a=some (.ins C dx fs)/\fs.lookup m=none:=rfl
theorem E1:Ci [.ref a] H Q=∃bs:List Bool,H a=some (.lst (bs.map PV.bl))/\Q (.bl (bs.all id)) H:=rfl
theorem Ea:tN (.ref a) H Q=∃ps:List (Int×Int),H a=some (.lst (ps.map prV))/\ps.Nodup/\(∀p∈ps,p∈SP.prs)/\ps.length≤15/\Q (.int ps.length) H:=rfl
theorem D6:pL [.ref a] H Q=∃ps:List (Int×Int),H a=some (.lst (ps.map prV))/\ps.Nodup/\(∀p∈ps,0≤p.2/\p.2<6)/\ps.length<64/\∀(r:Addr) (qs:List (Int×Int)),H r=none->qs.Perm ps->qs.Pairwise (fun x y=>ST.pk x<ST.pk y)->Q (.ref r) (put H r (.lst (qs.map prV))):=rfl
end
end U
namespace SI
def subs:List (List Nat):=(List.range 64).map fun b=>(List.range 6).filter fun i=>b / 2 ^ i % 2==1
def tb(led:Bool)(L:List Nat):SetTable:={ mask:=if L.length≤4 then 7 else 31,place:=L.toArray,dummies:=#[],finger:=0,led:=led,moves:=if L.length≤4 then 0 else 1,plain:=true }
def pos(L:List Nat)(x:Nat):Nat:=(L.filter (·<x)).length
def ins(L:List Nat)(x:Nat):List Nat:=L.take (pos L x)++x::L.drop (pos L x)
def tp(led:Bool)(L:List Nat)(x:Nat):SetTable:={ tb led L with place:=(ins L x).toArray }
theorem Ft:∀led∈[true,false],∀L∈subs,∀x∈List.range 6,x∉L->(tb led L).freeSlot x=some (x,false)/\(tb led L).put x=(tp led L x,pos L x):=by decide +kernel
theorem EU:∀led∈[true,false],∀L∈subs,∀x∈List.range 6,x∉L->(tp led L x).fits (ins L x).length=true/\(if L.length=4 then(tp led L x).tooFull=true/\(tp led L x).relaid ((ins L x).map Int.ofNat).toArray 20=some (tb led (ins L x),#[0,1,2,3,4])else(tp led L x).tooFull=false/\tp led L x=tb led (ins L x)):=by decide +kernel
theorem ik:∀L∈subs,(∀x∈L,x<6)/\L.length≤6/\L.Nodup/\(∀x∈List.range 6,x∉L->ins L x∈subs):=by decide +kernel
theorem kS:∀L∈subs,∀led∈[true,false],(tb led L).fits L.length=true/\SetTable.below L.toArray 0=0/\∀i∈List.range L.length,SetTable.below L.toArray (L.getD i 0+1)=i+1:=by decide +kernel
def ent(i:Nat)(tk:Tok):Int×Value:=((i:Int),.int (i:Int) tk)
def cZ(es:Array (Int×Value))(L:List Nat):Prop:=∃tks:List Tok,tks.length=L.length/\es.toList=List.zipWith ent L tks
theorem cZ.size(h:cZ es L):es.size=L.length:=by
 obtain⟨tks,hl,e⟩:=h;rw[←HZ,e,List.length_zipWith,hl,Nat.min_self]
theorem cZ.get{es:Array (Int×Value)}{L:List Nat}(h:cZ es L){i:Nat}(hi:i<L.length):∃tk,es[i]?=some (ent (L.getD i 0) tk):=by
 obtain⟨tks,hl,e⟩:=h;refine⟨tks[i],?_⟩;rw[←G7,e,List.getElem?_zipWith,F2 hi,F2 (by omega),F7,F2 hi];rfl
theorem cZ.mem(h:cZ es L){e:Int×Value}(he:e∈es.toList):∃x∈L,∃tk,e=ent x tk:=by
 obtain⟨i,hi,rfl⟩:=List.mem_iff_getElem.mp he;have hi':i<L.length:=by rw[←h.size];simpa using hi
 obtain⟨tk,e⟩:=h.get hi';refine⟨L.getD i 0,by rw[F7,F2 hi'];exact Gz hi',tk,?_⟩;rw[Gu (by simpa using hi)]at e;simpa using Gw e
theorem cZ.of(h:cZ es L){x:Nat}(hx:x∈L):∃tk,ent x tk∈es.toList:=by
 obtain⟨i,hi,rfl⟩:=List.mem_iff_getElem.mp hx;obtain⟨tk,e⟩:=h.get hi;refine⟨tk,?_⟩;rw[F7,F2 hi]at e;rw[←G7]at e;exact Gg e
theorem cZ.ins{es:Array (Int×Value)}{L:List Nat}(h:cZ es L)(x:Nat)(tk:Tok):cZ (SetTable.insertAt es (pos L x) (ent x tk)) (SI.ins L x):=by
 obtain⟨tks,hl,e⟩:=h;refine⟨tks.take (pos L x)++tk::tks.drop (pos L x),?_,?_⟩
 ·unfold SI.ins;simp only[F3,Gx,GN,Hm];omega
 ·rw[SetTable.toList_insertAt,e];unfold SI.ins;rw[List.zipWith_append (by simp only[GN];omega),List.zipWith_cons_cons,List.take_zipWith,List.drop_zipWith]
structure iG (h:Heap) (S:Addr) (led:Bool) (L:List Nat):Prop where
 is:L∈subs/\∃es ep,h.get? S=some { cls:=.type "set",dict:=none,data:=.set es ep (tb led L) }/\cZ es L
theorem dM(led:Bool):led∈[true,false]:=by cases led<;>simp
theorem lN{α:Type}(es:Array α)(h:es.size=5):(#[0,1,2,3,4]:Array Nat).filterMap (es[·]?)=es:=by
 have e:=PySem.filterMap_getElem?_range es;rw[h]at e;apply Array.toList_inj.mp;rw[Array.toList_filterMap];exact e
section
variable {prog:Program}{w:World}{A:Around}{E:Value->Shared->Prop}{s:Shared}
theorem cZ.elems(h:cZ es L)(hL:L∈subs):ElemsOf (intKind prog w) es.toList:=fun e he=>by
 obtain⟨x,hx,tk,rfl⟩:=h.mem he;refine⟨⟨(x:Int),intKind_is _ _ _ _,?_⟩,rfl⟩;have:x<6:=(ik L hL).1 x hx;have hh:∀y∈List.range 6,((y:Nat):Int)=(intKind prog w).hash ((y:Nat):Int):=by
  intro y hy;have:y=0∨y=1∨y=2∨y=3∨y=4∨y=5:=by have:=GC.mp hy;omega
  rcases this with rfl | rfl | rfl | rfl | rfl | rfl<;>rfl
 exact hh x (GC.mpr this)
theorem ll(hx:x<6):(intKind prog w).hash ((x:Nat):Int)=((x:Nat):Int):=by
 have:x=0∨x=1∨x=2∨x=3∨x=4∨x=5:=by omega
 rcases this with rfl | rfl | rfl | rfl | rfl | rfl<;>rfl
theorem mN(hP:iG s.heap S led L)(hx:x<6)
  (h:∀b h' tks,Heap.SameBut S s.heap h'->iG h' S led (if x∈L then L else ins L x)->Q b { s with heap:=h',toks:=tks }):wpAny (model prog w) A (setAdd S (.int (x:Int) tk)) Q E s:=by
 obtain⟨hL,es,ep,ho,he⟩:=hP.is;unfold setAdd;refine Hs ?_;refine F1 ((intKind prog w).pyHash (k:=(x:Int)) (intKind_is _ _ _ _) ?_);rw[ll hx];generalize hs':({ s with toks:=s.toks+1 }:Shared)=s1;have e1:s1.heap=s.heap:=by rw[←hs']
 have hs1:∀hh':Heap,({ s1 with heap:=hh' }:Shared)={ s with heap:=hh',toks:=s1.toks }:=fun hh'=>by rw[←hs']
 have ho1:s1.heap.get? S=some { cls:=.type "set",dict:=none,data:=.set es ep (tb led L) }:=by rw[e1];exact ho
 have hf:(tb led L).fits es.size=true:=by rw[he.size];exact(kS L hL led (dM led)).1
 have hel:=he.elems (prog:=prog) (w:=w) hL;have h6:=(ik L hL).2.1;have hbd:es.size<scanBound:=by rw[he.size];unfold scanBound;omega
 have scan:∀{Q':ScanMet->Shared->Prop},Q' (match es.toList.findIdx? (fun e=>(intKind prog w).is ((x:Nat):Int) e.2)with | some j=>.found (0+j) | none=>.absent) s1->wpAny (model prog w) A (setScan S (.int ((x:Nat):Int) tk) ((x:Nat):Int) true es) Q' E s1:=by
  intro Q' hq;have:=wpAny_setScan_of (knd:=intKind prog w) (adding:=true) (x:=.int ((x:Nat):Int) tk) (k:=((x:Nat):Int)) (A:=A) (E:=E) (Q:=Q') (intKind_is _ _ _ _) ho1 rfl hf hel hq
  rwa [ll hx]at this
 unfold setAddHashed setAddHashedIn;refine Hs (F1 (HY ho1 rfl hf ?_));dsimp only;rw[byScan_of (knd:=intKind prog w) rfl hbd hel];simp only[↓reduceIte];unfold setAddByScan;refine F1 ?_;refine F1 (wpAny_rule ?_);refine F1 (scan ?_);cases hr:List.findIdx? (fun e=>(intKind prog w).is ((x:Nat):Int) e.2) es.toList with
 | some j =>
  dsimp only;obtain⟨hj,hpj,_⟩:=List.findIdx?_eq_some_iff_getElem.mp hr;obtain⟨y,hy,tk',ee⟩:=he.mem (Gz hj);have hxy:x=y:=by
   rw[ee]at hpj;have q:(intKind prog w).is ((x:Nat):Int) (.int ((y:Nat):Int) tk')=true:=hpj;have:=(intKind prog w).inj _ _ _ q (intKind_is _ _ _ _);omega
  subst hxy;refine F5 (F5 ?_);have:=h false s.heap s1.toks (Heap.SameBut.refl S s.heap) (by rw[Gq hy];exact hP);have e:s1={ s with heap:=s.heap,toks:=s1.toks }:=by rw[←hs1];cases s1;simp only at e1;rw[e1]
  rw[e];exact this
 | none =>
  dsimp only;have hn:x∉L:=fun hm=>by
   obtain⟨tk',hm'⟩:=he.of hm;have:=List.findIdx?_eq_none_iff.mp hr _ hm';have q:(intKind prog w).is ((x:Nat):Int) (.int ((x:Nat):Int) tk')=true:=intKind_is _ _ _ _;have this':(intKind prog w).is ((x:Nat):Int) (.int ((x:Nat):Int) tk')=false:=this;rw[q]at this';cases this'
  obtain⟨f1,f2⟩:=Ft led (dM led) L hL x (GC.mpr hx) hn;obtain⟨f3,f4⟩:=EU led (dM led) L hL x (GC.mpr hx) hn;have hins:=(ik L hL).2.2.2 x (GC.mpr hx) hn;have hin2:=he.ins x tk;have hsz2:=hin2.size;have hln:(ins L x).length=L.length+1:=by unfold ins;simp only[F3,Gx,GN,Hm];omega
  have hlay:layNew (tb led L) es ((x:Nat):Int) (.int ((x:Nat):Int) tk)=(SetTable.insertAt es (pos L x) (ent x tk),tp led L x,false,false):=by
   unfold layNew;rw[f1];dsimp only;rw[f2];dsimp only;have e2:(tp led L x).fits (SetTable.insertAt es (pos L x) (ent x tk)).size=true:=by rw[hsz2];exact f3
   show(SetTable.insertAt es (pos L x) (ent x tk),(tp led L x).orStandIn (SetTable.insertAt es (pos L x) (ent x tk)).size,false,!(tp led L x).fits (SetTable.insertAt es (pos L x) (ent x tk)).size)=_;unfold SetTable.orStandIn;rw[Gq e2,e2];rfl
  rw[hlay];dsimp only;refine F1 (F5 ?_);have hpl:(tp led L x).plain=true:=rfl;rw[hpl];simp only[↓reduceIte];refine F1 ?_;rw[hashByValue_scannable 8 (x:=.int ((x:Nat):Int) tk) rfl];refine F5 ?_;have hpk:plainKind (.int ((x:Nat):Int) tk)=true:=rfl;rw[hpk];simp only[↓reduceIte];have hz:(SetTable.insertAt es (pos L x) (ent x tk)).size≤sizeLine:=by rw[hsz2,hln,Hx];omega
  refine F1 (wpAny_storeSet_of ho1 rfl ?_ hz);have hg:(s1.heap.update S (Obj.putSet (SetTable.insertAt es (pos L x) (ent x tk)) (tp led L x))).get? S=some { cls:=.type "set",dict:=none,data:=.set (SetTable.insertAt es (pos L x) (ent x tk)) (ep+1) (tp led L x) } :=
   G6 _ ho1 rfl
  have sb1:Heap.SameBut S s.heap (s1.heap.update S (Obj.putSet (SetTable.insertAt es (pos L x) (ent x tk)) (tp led L x))):=by rw[e1];exact G8 ..
  by_cases h4:L.length=4
  ·rw[Gq h4]at f4;rw[f4.1];simp only[Bool.not_false,Bool.and_self,↓reduceIte];have hw:SetTable.grown (SetTable.insertAt es (pos L x) (ent x tk)).size=20:=by rw[hsz2,hln,h4];rfl
   have hmp:(SetTable.insertAt es (pos L x) (ent x tk)).map (·.1)=((ins L x).map Int.ofNat).toArray:=by
    obtain⟨tks,q1,q2⟩:=hin2;apply Array.toList_inj.mp;rw[Array.toList_map,q2];have gen:∀(L:List Nat) (tks:List Tok),tks.length=L.length->(List.zipWith ent L tks).map (·.1)=L.map Int.ofNat:=by
     intro L
     induction L with
     | nil=>intro tks _;rfl
     | cons a L ih =>
      intro tks hl;cases tks with
      | nil=>simp at hl
      | cons b tks=>simp only[List.zipWith_cons_cons,Ge,ih tks (by simpa using hl)];rfl
    exact gen _ _ q1
   have h5:(SetTable.insertAt es (pos L x) (ent x tk)).size=5:=by rw[hsz2,hln,h4]
   have hrl:relayAll (tp led L x) (SetTable.insertAt es (pos L x) (ent x tk)) (SetTable.grown (SetTable.insertAt es (pos L x) (ent x tk)).size)=(SetTable.insertAt es (pos L x) (ent x tk),tb led (ins L x),false):=by
    unfold relayAll;rw[hw,hmp,f4.2];dsimp only;rw[lN _ h5];have c1:coversAll #[0,1,2,3,4] (SetTable.insertAt es (pos L x) (ent x tk)).size=true:=by rw[h5];decide +kernel
    have c2:(tb led (ins L x)).fits (SetTable.insertAt es (pos L x) (ent x tk)).size=true:=by rw[hsz2];exact(kS _ hins led (dM led)).1
    rw[c1,c2];rfl
   rw[hrl];dsimp only;refine F1 (F5 ?_);refine F1 (wpAny_storeSet_of hg rfl ?_ hz);have hg3:=G6 (Obj.putSet (SetTable.insertAt es (pos L x) (ent x tk)) (tb led (ins L x))) hg rfl;refine F5 (F5 ?_);rw[hs1];refine h true _ _ (sb1.trans (G8 ..)) ?_;rw[Gp hn];exact⟨hins,_,_,hg3,hin2⟩
  ·rw[Gp h4]at f4;rw[f4.1];simp only[Bool.not_false,Bool.and_false,Bool.false_eq_true,↓reduceIte];refine F5 (F5 ?_);rw[hs1];refine h true _ _ sb1 ?_;rw[Gp hn];rw[f4.2]at hg;rw[f4.2];exact⟨hins,_,_,hg,hin2⟩
end
end SI
namespace SI
theorem slot_next:Slot "set_iterator" "__next__" "set_iterator.__next__":=.of (owner:="set_iterator") (n:="__next__") (by rw[typeLookup_type,Ic];kernel_rfl) (by decide +kernel) (by decide +kernel) (by decide +kernel) (by first | exact .inl (by decide +kernel) | exact .inr (by decide +kernel)) (by rw[Iu];kernel_rfl)
theorem mQ:Slot "set_iterator" "__iter__" "set_iterator.__iter__":=.of (owner:="set_iterator") (n:="__iter__") (by rw[typeLookup_type,Ic];kernel_rfl) (by decide +kernel) (by decide +kernel) (by decide +kernel) (by first | exact .inl (by decide +kernel) | exact .inr (by decide +kernel)) (by rw[Iu];kernel_rfl)
theorem entry_next:entryFor table "set_iterator.__next__"=some Builtin.«set_iterator.__next__»:=entryFor_of_tree (by kernel_rfl)
theorem sP:entryFor table "set_iterator.__iter__"=some Builtin.«dict_keyiterator.__iter__»:=entryFor_alias (id':="dict_keyiterator.__iter__") (by kernel_rfl) rfl (by decide +kernel) (by kernel_rfl)
theorem lT:entryFor table "set.__iter__"=some Builtin.«frozenset.__iter__»:=entryFor_alias (id':="frozenset.__iter__") (by kernel_rfl) rfl (by decide +kernel) (by kernel_rfl)
theorem hV{α:Type}:∀(l:List α) (i:Nat) (h:i<l.length),(l[i]::l.eraseIdx i).Perm l
 | x::l,0,_=>List.Perm.refl _
 | x::l,i+1,h=>by
  have ih:=hV l i (by simpa using h);have h':i<l.length:=by simpa using h
  show(l[i]::x::l.eraseIdx i).Perm (x::l);exact(List.Perm.swap _ _ _).trans (ih.cons x)
theorem args_next(a:Value):argsOk "set_iterator.__next__" ⟨[a],[]⟩:=by unfold argsOk;kernel_rfl
theorem vw(a:Value):argsOk "set_iterator.__iter__" ⟨[a],[]⟩:=by unfold argsOk;kernel_rfl
def mq(h:Heap)(it S:Addr)(k i n ep:Nat):Prop:=h.get? it=some { cls:=.type "set_iterator",data:=.fields #[.int k 0,.int i 0,.ref S,.int n 0,.int ep 0] }
theorem mq.ty{s:Shared}(h:mq s.heap it S k i n ep):s.TypeIs (.ref it) "set_iterator":=⟨_,h,rfl⟩
theorem eH{α:Type}(next:Nat->Nat):∀(f k:Nat) (l:List α) (out:Array α),f=l.length->(pickOrder.go next f k l out).toList.Perm (out.toList++l)
 | 0,k,l,out,h=>by
  have:l=[]:=List.length_eq_zero_iff.mp h.symm;subst this;show out.toList.Perm _;rw[GS]
 | f+1,k,l,out,h=>by
  have hlt:next k % l.length<l.length:=Nat.mod_lt _ (by omega)
  unfold pickOrder.go;rw[F2 hlt];dsimp only;refine(eH next f (k+1) _ _ (by rw[List.length_eraseIdx_of_lt hlt];omega)).trans ?_;rw[Array.toList_push,Hy];refine List.Perm.append_left _ ?_;exact hV l _ hlt
def walk(w:World)(S:Addr)(es:Array (Int×Value))(ep:Nat):Array (Int×Value):=if w.params.followText "set-order"=true then pickOrder (w.params.setOrder S ep) es else es
theorem jo(w:World)(S:Addr)(es:Array (Int×Value))(ep:Nat):(walk w S es ep).toList.Perm es.toList:=by
 unfold walk;split
 ·have:=eH (w.params.setOrder S ep) es.size 0 es.toList #[] (by simp);simpa[pickOrder]using this
 ·exact List.Perm.refl _
theorem eJ(w:World)(S:Addr)(es:Array (Int×Value))(ep:Nat):(walk w S es ep).size=es.size:=by
 have:=(jo w S es ep).length_eq;simpa using this
def slotAt(w:World)(L:List Nat)(i:Nat):Nat:=if w.params.followText "set-order"=true then 0 else if i=0 then 0 else L.getD (i - 1) 0+1
section
variable {prog:Program}{w:World}{A:Around}{E:Value->Shared->Prop}{s:Shared}
def bD(w:World):Bool:=!w.params.followText "set-order"
theorem below_at(hL:L∈subs)(hb:¬w.params.followText "set-order"=true){i:Nat}(hi:i≤L.length):SetTable.below L.toArray (slotAt w L i)=i:=by
 unfold slotAt;rw[Gp hb];obtain⟨_,a,b⟩:=kS L hL true (by simp);cases i with
 | zero=>exact a
 | succ i =>
  rw[Gp (by omega)];exact b i (GC.mpr (by omega))
theorem rJ(hL:L∈subs)(ho:s.heap.get? S=some { cls:=.type "set",dict:=none,data:=.set es ep (tb (bD w) L) })(he:cZ es L)
  (hQ:Q (.ref s.heap.objs.size) { s with heap:=s.heap.push { cls:=.type "set_iterator",data:=.fields #[.int 0 0,.int 0 0,.ref S,.int es.size 0,.int ep 0] } }):wpAny (model prog w) A (pyIter (.ref S)) Q E s:=by
 have ty:s.TypeIs (.ref S) "set":=⟨_,ho,rfl⟩;have hf:(tb (bD w) L).fits es.size=true:=by rw[he.size];exact(kS L hL _ (dM _)).1
 refine wpAny_pyIter_slot ty F.slot_set_iter (GV F.slot_set_iter ty lT ?_ (F.args_set_iter_1 _));unfold Builtin.«frozenset.__iter__» Builtin.Frozenset.slot0;refine F1 (F1 (F5 (F5 ?_)));unfold Builtin.Frozenset.sizeOf;refine F1 (F1 (wpAny_setEntries_of ho rfl hf (F5 ?_)));unfold setDrawn setsByText;refine F1 (F1 (HY ho rfl hf ?_));dsimp only;refine F1 (F1 (wpAny_askSetting (F5 (F5 ?_))));refine Ij (fun hx=>?_) (fun _=>F1 (F5 ?_))
 ·exfalso;have hx':(!(w.params.followText "set-order")&&(!(tb (bD w) L).plain&&decide (es.size>1)))=true:=hx;have hp:(tb (bD w) L).plain=true:=rfl;rw[hp]at hx';simp at hx'
 ·refine F1 (wpAny_setEpoch_of ho rfl hf ?_);simp only[newFields];refine F1 (GO (F5 ⟨_,rfl,"set_iterator",_,⟨_,Gm _ rfl,rfl⟩,slot_next.lookup,?_⟩));exact hQ
theorem kU(hL:L∈subs)(ho:s.heap.get? S=some { cls:=.type "set",dict:=none,data:=.set es ep (tb (bD w) L) })(he:cZ es L)(hi:i≤es.size)
  (hq:Q' (((walk w S es ep)[i]?).map fun e=>(e.2,slotAt w L (i+1))) s):wpAny (model prog w) A (setNext S (slotAt w L i) i ep) Q' E s:=by
 have hf:(tb (bD w) L).fits es.size=true:=by rw[he.size];exact(kS L hL _ (dM _)).1
 unfold setNext;refine F1 (HY ho rfl hf ?_);dsimp only;unfold setsByText;refine F1 (F1 (wpAny_askSetting (F5 ?_)));refine Ij (fun hb=>?_) (fun hb=>?_)
 ·have hb':w.params.followText "set-order"=true:=hb;refine Ij (fun hx=>absurd hx (by simp)) (fun _=>?_);unfold setWalk setsByText;refine F1 (F1 (HY ho rfl hf ?_));dsimp only;refine F1 (F1 (wpAny_askSetting (F5 ?_)));refine Ij (fun _=>?_) (fun hc=>absurd hb hc);refine F1 (wpAny_askSetting (F5 (F5 ?_)));unfold walk slotAt at hq;rw[Gq hb',Gq hb']at hq;unfold slotAt;rw[Gq hb'];exact hq
 ·have hb':¬w.params.followText "set-order"=true:=hb;refine Ij (fun hx=>?_) (fun _=>?_)
  ·exfalso;have hx':(!(tb (bD w) L).plain&&decide (es.size>1))=true:=hx;have hp:(tb (bD w) L).plain=true:=rfl;rw[hp]at hx';simp at hx'
  ·have hled:bD w=true:=by unfold bD;simpa using hb'
   refine F1 ?_;refine(show wpAny (model prog w) A (if (!(tb (bD w) L).led&&!es.isEmpty)=true then unsupported "set:maker-not-led" else pure ()) _ E s from ?_);refine Ij (fun hx=>?_) (fun _=>F5 (F5 ?_))
   ·exfalso;have hl2:(tb (bD w) L).led=true:=hled;rw[hl2]at hx;simp at hx
   ·have hbl:=below_at (w:=w) hL hb' (i:=i) (by rw[←he.size];exact hi);have hpl:(tb (bD w) L).place=L.toArray:=rfl;rw[hpl,hbl];unfold walk at hq;rw[Gp hb']at hq;by_cases hlt:i<es.size
    ·have hlt2:i<L.length:=by rw[←he.size];exact hlt
     rw[Gu hlt]at hq ⊢;have e2:L.toArray[i]?=some L[i]:=by simp[hlt2]
     rw[e2];unfold slotAt at hq;rw[Gp hb',Gp (by omega),Nat.add_sub_cancel,F7,F2 hlt2]at hq;exact hq
    ·rw[Im (by omega)]at hq ⊢;exact hq
theorem next_item{it S:Addr}{L:List Nat}{es:Array (Int×Value)}{ep i:Nat}{e:Int×Value}{Q:Option Value->Shared->Prop}(hL:L∈subs)(ho:s.heap.get? S=some { cls:=.type "set",dict:=none,data:=.set es ep (tb (bD w) L) })(he:cZ es L)
  (hit:mq s.heap it S (slotAt w L i) i es.size ep) (hx:(walk w S es ep)[i]?=some e)
  (hQ:∀h',mq h' it S (slotAt w L (i+1)) (i+1) es.size ep->Heap.SameBut it s.heap h'->Q (some e.2) { s with heap:=h' }):wpAny (model prog w) A (pyNext (.ref it)) Q E s:=by
 have hf:(tb (bD w) L).fits es.size=true:=by rw[he.size];exact(kS L hL _ (dM _)).1
 have hi:i<es.size:=by
  rw[←eJ w S es ep];exact(Array.getElem?_eq_some_iff.mp hx).1
 unfold pyNext;refine F1 (wpAny_attempt (HS (name:=Str.ofString "__next__") hit.ty slot_next (GV slot_next hit.ty entry_next ?_ (args_next _))));unfold Builtin.«set_iterator.__next__»;refine F1 (F5 ?_);refine F1 (wpAny_fieldsOf hit rfl ?_);dsimp only;refine F1 (wpAny_setEntries_of ho rfl hf ?_);rw[Gp (by simp)];simp only[Ht];refine F1 (kU hL ho he (by omega) ?_);rw[hx];dsimp only[Option.map_some];refine F1 (wpAny_setField hit rfl (by simp) ?_);have h1:=G6 (Obj.mapFields (·.setIfInBounds 0 (rawInt ((slotAt w L (i+1):Nat):Int)))) hit rfl;refine F1 (wpAny_setField h1 rfl (by simp[Obj.mapFields]) ?_);have h2:=G6 (Obj.mapFields (·.setIfInBounds 1 (rawInt ((i:Nat)+1:Int)))) h1 rfl;refine F5 ⟨_,rfl,F5 (hQ _ ?_ ((G8 ..).trans (G8 ..)))⟩;exact h2
theorem next_end{it S:Addr}{L:List Nat}{es:Array (Int×Value)}{ep:Nat}{Q:Option Value->Shared->Prop}(hh:A.handled=none)(hL:L∈subs)(ho:s.heap.get? S=some { cls:=.type "set",dict:=none,data:=.set es ep (tb (bD w) L) })(he:cZ es L)
  (hit:mq s.heap it S (slotAt w L es.size) es.size es.size ep) (hQ:∀h',Heap.ExtBut it s.heap h'->Q none { s with heap:=h' }):wpAny (model prog w) A (pyNext (.ref it)) Q E s:=by
 have hf:(tb (bD w) L).fits es.size=true:=by rw[he.size];exact(kS L hL _ (dM _)).1
 unfold pyNext;refine F1 (wpAny_attempt (HS (name:=Str.ofString "__next__") hit.ty slot_next (GV slot_next hit.ty entry_next ?_ (args_next _))));unfold Builtin.«set_iterator.__next__»;refine F1 (F5 ?_);refine F1 (wpAny_fieldsOf hit rfl ?_);dsimp only;refine F1 (wpAny_setEntries_of ho rfl hf ?_);rw[Gp (by simp)];simp only[Ht];refine F1 (kU hL ho he (F9 _) ?_);rw[Im (by rw[eJ];exact F9 _)];dsimp only[Option.map_none];refine F1 (wpAny_setField hit rfl (by simp) ?_);refine F1 ?_;simp only[newExc,newTuple];refine F1 (GO (F1 (m:=firstArgMember _ _) (wpAny_of_eq (a:=Value.none) (by first | rfl |(simp only[firstArgMember];rfl)) (GO ?_ (by size_fits)))) (by size_fits));simp only[raiseNew];refine F1 (wpAny_handled ?_);have hh1:A.in1.handled=none:=hh;rw[hh1];refine F1 (F5 (wpAny_throw ?_));refine F1 (wpAny_isInstance (T:="StopIteration") (b:=true) ⟨_,Gm _ rfl,rfl⟩ isSubtype_stop (F5 (hQ _ (((G8 ..).extBut.push _).push _))))
theorem pw(hh:A.handled=none){I S:Addr}{L:List Nat}{es:Array (Int×Value)}{ep:Nat}(hne:S≠I)(hL:L∈subs)(he:cZ es L) :
  Walks prog w A I [I,S] [I] es.size (fun i v=>∃e,(walk w S es ep)[i]?=some e/\v=e.2) (fun i h=>mq h I S (slotAt w L i) i es.size ep/\h.get? S=some { cls:=.type "set",dict:=none,data:=.set es ep (tb (bD w) L) }) where
 sub:=fun b hb=>by simp at hb;simp[hb]
 frame:=fun _ _ _ st hk=>⟨hk I (by simp) _ st.1,hk S (by simp) _ st.2⟩
 item:=fun i s Q E hi st hQ=>by
  have hw:i<(walk w S es ep).size:=by rw[eJ];exact hi
  have hx:(walk w S es ep)[i]?=some (walk w S es ep)[i]:=Gu hw;refine next_item hL st.2 he st.1 hx fun h' it' sb=>?_;exact hQ _ h' s.toks ⟨_,hx,rfl⟩ ⟨it',sb.extBut S _ hne st.2⟩ fun b o hb e=>sb.extBut b o (fun h=>hb (by simp[h])) e
 done:=fun s Q E st hQ=>next_end hh hL st.2 he st.1 fun h' eb=>hQ h' s.toks fun b o hb e=>eb b o (fun h=>hb (by simp[h])) e
 self:=fun i s Q E st hQ=>by
  refine wpAny_pyIter_slot st.1.ty mQ (GV mQ st.1.ty sP ?_ (vw _));show wpAny _ _ (ret (.ref I)) _ _ s;exact F5 ⟨_,rfl,"set_iterator",_,st.1.ty,slot_next.lookup,hQ⟩
def add(L:List Nat)(x:Nat):List Nat:=if x∈L then L else ins L x
def lof(ns:List Nat):List Nat:=ns.foldl add []
theorem vt:y∈ins L x↔y=x∨y∈L:=by
 unfold ins;rw[Gf,Gh];have:y∈L↔y∈L.take (pos L x)∨y∈L.drop (pos L x):=by
  rw[←Gf,List.take_append_drop]
 rw[this];constructor
 ·rintro(h | h | h)
  ·exact .inr (.inl h)
  ·exact .inl h
  ·exact .inr (.inr h)
 ·rintro(h | h | h)
  ·exact .inr (.inl h)
  ·exact .inl h
  ·exact .inr (.inr h)
theorem uZ:y∈add L x↔y=x∨y∈L:=by
 unfold add;split
 ·rename_i h;exact⟨.inr,fun q=>q.elim (fun e=>e▸h) id⟩
 ·exact vt
theorem qk(hL:L∈subs)(hx:x<6):add L x∈subs:=by
 unfold add;split
 ·exact hL
 ·rename_i h;exact(ik L hL).2.2.2 x (GC.mpr hx) h
theorem kZ{y:Nat}:∀(ns L:List Nat),y∈ns.foldl add L↔y∈ns∨y∈L
 | [],L=>by simp
 | n::ns,L=>by
  rw[List.foldl_cons,kZ ns,uZ,Gh];constructor
  ·rintro(h | h | h)
   ·exact .inl (.inr h)
   ·exact .inl (.inl h)
   ·exact .inr h
  ·rintro((h | h) | h)
   ·exact .inr (.inl h)
   ·exact .inl h
   ·exact .inr (.inr h)
theorem iM:∀(ns L:List Nat),L∈subs->(∀n∈ns,n<6)->ns.foldl add L∈subs
 | [],L,h,_=>h
 | n::ns,L,h,hn=>iM ns _ (qk h (hn n Ga)) fun m hm=>hn m (Gb _ hm)
theorem k4:[]∈subs:=by decide +kernel
theorem ip(h:∀n∈ns,n<6):lof ns∈subs:=iM ns [] k4 h
theorem jI:y∈lof ns↔y∈ns:=by
 unfold lof;rw[kZ];simp
theorem rq{ns:List Nat}(h:i<ns.length):lof (ns.take (i+1))=add (lof (ns.take i)) ns[i]:=by
 unfold lof;rw[List.take_add_one,F2 h,List.foldl_append];rfl
end
end SI
namespace SI
section
variable {prog:Program}{w:World}{A:Around}{E:Value->Shared->Prop}{s:Shared}
def se(vs:List Value)(ns:List Nat):Prop:=vs.length=ns.length/\∀(i:Nat) (v:Value),vs[i]?=some v->∃tk,v=Value.int ((ns.getD i 0:Nat):Int) tk
theorem BQ(hh:A.in1.handled=none)(hT:se vs ns)(hin:∀n∈ns,n<6)(hSI:S≠I)(hSl:S≠l)(hlI:l≠I) :
  ∀(k i:Nat) (s:Shared),ns.length - i=k->i≤ns.length->s.heap.IsListIter I l i->s.heap.IsList l vs.toArray->iG s.heap S led (lof (ns.take i)) ->
   (∀h' tk,(∀b o,b≠S->b≠I->s.heap.get? b=some o->h'.get? b=some o)->iG h' S led (lof ns)->R (.ok (.ret .none)) { s with heap:=h',toks:=tk }) ->
   codeAny (model prog w) A (.builtin "set.update.loop" ⟨[.ref S,.ref I],[]⟩) R s:=by
 intro k
 induction k with
 | zero =>
  intro i s hk hi hit hl hP hR;have e:i=ns.length:=by omega
  subst e;rw[Ho]at hP;refine HE F.entry_set_update_loop ?_;rw[Hv HV _];show wpAny _ A.in1 (pyNext (.ref I) >>= _) _ _ s;refine F1 (wpAny_pyNext_list_end hh hit hl (by simp[hT.1]) fun h' eb=>?_);show wpAny _ A.in1 (ret Value.none) _ _ _;refine F5 (hR h' s.toks (fun b o _ hb e=>eb b o hb e) ?_);obtain⟨hL,es,ep,ho,r⟩:=hP.is;exact⟨hL,es,ep,eb S _ hSI ho,r⟩
 | succ k ih =>
  intro i s hk hi hit hl hP hR;have hlt:i<ns.length:=by omega
  have hvl:i<vs.length:=by rw[hT.1];exact hlt
  have hvi:vs[i]?=some vs[i]:=F2 hvl;obtain⟨tk,ev⟩:=hT.2 i _ hvi;have en:ns.getD i 0=ns[i]:=by rw[F7,F2 hlt];rfl
  rw[en]at ev;refine HE F.entry_set_update_loop ?_;rw[Hv HV _];show wpAny _ A.in1 (pyNext (.ref I) >>= _) _ _ s;refine F1 (wpAny_pyNext_list_item hit hl (x:=Value.int ((ns[i]:Nat):Int) tk) (by rw[←ev];simp) fun h1 hit1 sb1=>?_);have k1:∀b o,b≠I->s.heap.get? b=some o->h1.get? b=some o:=fun b o hb e=>sb1.extBut b o hb e;have hP1:iG h1 S led (lof (ns.take i)):=by
   obtain⟨hL,es,epo,ho,r⟩:=hP.is;exact⟨hL,es,epo,k1 S _ hSI ho,r⟩
  show wpAny _ A.in1 (holding [Value.int ((ns[i]:Nat):Int) tk] (setAdd S (Value.int ((ns[i]:Nat):Int) tk)) >>= _) _ _ _;refine F1 (Hs (mN (A:=A.in1) hP1 (hin _ (Gz hlt)) fun b h2 tk2 sb2 hP2=>?_));have k2:∀b o,b≠S->h1.get? b=some o->h2.get? b=some o:=fun b o hb e=>sb2.extBut b o hb e;have hP3:iG h2 S led (lof (ns.take (i+1))):=by rw[rq hlt];exact hP2
  refine F5 ⟨plainId_quiet HV _,ih (i+1) { s with heap:=h2,toks:=tk2 } (by omega) (by omega) (hit1.extBut (fun b o hb e=>k2 b o hb e) (Ne.symm hSI)) ?_ hP3 ?_⟩
  ·exact(hl.extBut (fun b o hb e=>k1 b o hb e) hlI).extBut (fun b o hb e=>k2 b o hb e) (Ne.symm hSl)
  ·intro h3 tk3 kp hP4;exact hR h3 tk3 (fun b o hb hb' e=>kp b o hb hb' (k2 b o hb (k1 b o hb' e))) hP4
theorem uH(a:Value){Q₁:Value->Shared->Prop}(h:Q₁ (.ref s.heap.objs.size) { s with heap:=s.heap.push { cls:=.type "set",dict:=none,data:=.set #[] 0 (.fresh 0 0 (bD w)) } }) :
  codeAny (model prog w) A (.call (.builtin "set.__new__") ⟨[.type "set",a],[]⟩) (wants Q₁ E) s:=by
 refine codeAny_of_tree ?_;show wpAny (model prog w) A.in1 (do checkBuiltinCall "set.__new__" ⟨[.type "set",a],[]⟩;again (.builtin "set.__new__" ⟨[.type "set",a],[]⟩)) _ _ _;refine F1 (wpAny_of_eq (F.newCall_set_1 a) (F5 ⟨plainId_quiet F.plain_set_new _,?_⟩));refine HE F.entry_set_new ?_;rw[Hv F.plain_set_new _];unfold Builtin.«set.__new__»;unfold Builtin.Frozenset.newClass;have sub1:=sub_set_self;obtain⟨hp,g,d,tk,os⟩:=s;dsimp only
 wp_walk
 refine wpAny_askSetting (F5 ?_);dsimp only;simp only[newObj];refine F1 (wpAny_alloc (F5 (F5 ?_)));exact h
set_option maxHeartbeats 4000000 in
theorem iJ(hh:A.handled=none)(hl:s.heap.IsList l vs.toArray)(hT:se vs ns)(hin:∀n∈ns,n<6)
  (h:∀h' tk,(∀b o,b<s.heap.objs.size->s.heap.get? b=some o->h'.get? b=some o)->iG h' s.heap.objs.size (bD w) (lof ns)->Q (.ref s.heap.objs.size) { s with heap:=h',toks:=tk }) :
  wpAny (model prog w) A (call (.type "set") [.ref l]) Q E s:=by
 obtain⟨c0,tl0,mro0⟩:=F.called_set.mro;have made0:=F.called_set.made;have sub0:=F.called_set.sub;have nt0:=F.called_set.notType;have cc0:=F.called_set.canCreate;have tc0:=F.typeCall_set_1 (.ref l);refine wpAny_call (codeAny_of_tree ?_);show wpAny (model prog w) _ (callAny (.type "set") _) _ _ _;refine F5 ⟨Code.quiet_builtin _ (by decide +kernel),HE F.entry_type_call ?_⟩;rw[Around.under_plain (weight_type_call_type "set" [.ref l] []) rfl]
 repeat (any_goals (first | assumption | wp_step))
 refine IG (uH (.ref l) (E:=E) (Q₁:=fun obj s1=>obj=.ref s.heap.objs.size /\
  s1={ s with heap:=s.heap.push { cls:=.type "set",dict:=none,data:=.set #[] 0 (.fresh 0 0 (bD w)) } }) ⟨rfl,rfl⟩) fun r s1 hr=>?_
 cases r with
 | error e=>exact hr
 | ok fl =>
  cases fl with
  | ret obj =>
   obtain⟨rfl,rfl⟩:=hr;generalize hH:s.heap.push { cls:=.type "set",dict:=none,data:=.set #[] 0 (.fresh 0 0 (bD w)) }=H1;have hS:H1.get? s.heap.objs.size=some { cls:=.type "set",dict:=none,data:=.set #[] 0 (.fresh 0 0 (bD w)) }:=by rw[←hH];exact Gm _ rfl
   have old:∀b o,s.heap.get? b=some o->H1.get? b=some o:=fun b o e=>by rw[←hH];exact F6 _ e
   have hsz:H1.objs.size=s.heap.objs.size+1:=by rw[←hH,Heap.size_push]
   have tyS:Shared.TypeIs { s with heap:=H1 } (.ref s.heap.objs.size) "set":=⟨_,hS,rfl⟩;have li0:=F.called_set.init.lookup;have bi0:=F.called_set.init.bind (.ref s.heap.objs.size)
   repeat (any_goals (first | assumption | wp_step))
   refine IG (codeAny_call_builtin (R:=wants (fun r s2=>r=.none/\∃h' tk,s2={ s with heap:=h',toks:=tk }/\iG h' s.heap.objs.size (bD w) (lof ns) /\
    (∀b o,b<s.heap.objs.size->s.heap.get? b=some o->h'.get? b=some o)) E) F.called_set.init.plain F.entry_set_init (check_set_init_1 tyS ?_)) fun r2 s2 hr2=>?_
   ·obtain⟨ol,hol,hcl,nl,hdl⟩:=hl;obtain⟨oc,od,oda,osl⟩:=ol;simp only at hcl hdl;subst hcl;subst hdl;have hol1:H1.get? l=some { cls:=.type "list",dict:=od,data:=.seq vs.toArray nl,slots:=osl }:=old _ _ hol;have sls:=F.sub_list_set;have slf:=F.sub_list_frozenset;have nld:(Value.type "list"==Value.type "dict")=false:=by decide
    have hl1:H1.IsList l vs.toArray:=⟨_,hol1,rfl,nl,rfl⟩;have llt:l<s.heap.objs.size:=Gd hol;unfold Builtin.«set.__init__» noKeywords Builtin.Frozenset.updateFrom;generalize hPI:pyIter=PI
    wp_walk
    subst hPI;refine wpAny_pyIter_list hl1 ?_;refine F1 (wpAny_runValue ?_);generalize hH2:H1.push { cls:=.type "list_iterator",data:=.fields #[.ref l,.int 0 0] }=H2;have old2:∀b o,H1.get? b=some o->H2.get? b=some o:=fun b o e=>by rw[←hH2];exact F6 _ e
    refine BQ (l:=l) (ns:=ns) (vs:=vs) (led:=bD w) (by simp[hh]) hT hin (by show s.heap.objs.size≠H1.objs.size;rw[hsz];exact Gv (Nat.lt_succ_self _)) (Nat.ne_of_gt llt) (by show l≠H1.objs.size;rw[hsz];exact Gv (Ih llt)) ns.length 0 _ (by omega) (HQ _) ?_ ?_ ?_ ?_
    ·rw[←hH2];exact⟨_,Gm _ rfl,rfl,rfl⟩
    ·exact⟨_,old2 _ _ hol1,rfl,nl,rfl⟩
    ·refine⟨k4,#[],0,old2 _ _ hS,[],rfl,rfl⟩
    ·intro h' tk kp hP;show wpAny _ _ (pure ()) _ _ _;refine F5 ?_;show wpAny _ _ (ret Value.none) _ _ _;refine F5 ⟨rfl,h',tk,rfl,hP,fun b o hb e=>?_⟩;refine kp b o (Gv hb) ?_ (old2 _ _ (old _ _ e));show b≠H1.objs.size;rw[hsz];exact Gv (Ih hb)
   ·cases r2 with
    | error e=>exact hr2
    | ok f2 =>
     cases f2 with
     | ret r =>
      obtain⟨rfl,h',tk,rfl,hP,hk⟩:=hr2
      repeat (any_goals (first | assumption | wp_step))
      exact h _ _ hk hP
     | _=>exact hr2.elim
  | _=>exact hr.elim
theorem qR(hT:s.TypeIs (.ref r) "set")(h:Q false s):wpAny (model prog w) A (Builtin.List.listLengthHint (.ref r)) Q E s:=by
 unfold Builtin.List.listLengthHint;refine F1 (Iz hT PySem.F.slot_set_len.lookup ?_);generalize hid:("set.__len__":String)=id0
 wp_delta
 rw[show splitId id0=some ("set","__len__")from by subst hid;decide +kernel];subst hid;refine F1 (wpAny_isInstance (T:="set") (b:=true) hT (by rw[Iu];kernel_rfl) (Ij (fun hab=>absurd hab (by decide)) (fun _=>Ij (fun _=>?_) (fun hab=>absurd (by decide +kernel) hab))));exact F1 (wpAny_typeOf hT (F5 h))
theorem t7(hL:L∈subs)(he:cZ es L) :
  PySem.W.KdlSrc prog w "set" S S es.size (fun i v=>∃e,(walk w S es ep)[i]?=some e/\v=e.2) (fun h=>h.get? S=some { cls:=.type "set",dict:=none,data:=.set es ep (tb (bD w) L) }) where
 type:=fun s ho=>⟨_,ho,rfl⟩
 there:=fun h ho=>⟨Gd ho,Gd ho⟩
 keep:=fun h h' ho k=>k S (.inl rfl) _ ho
 notList:=by decide
 notTuple:=by decide
 hint:=fun A E s Q ho q=>qR ⟨_,ho,rfl⟩ q
 iter:=fun A s hh ho=>⟨_,_,fun E Q q=>rJ hL ho he q,pw hh (Gv (Gd ho)) hL he,⟨by
  show mq _ _ _ (slotAt w L 0) 0 _ _;have:slotAt w L 0=0:=by unfold slotAt;split<;>rfl
  rw[this];exact Gm _ rfl,F6 _ ho⟩⟩
theorem ki(hh:A.handled=none)(hL:L∈subs)(he:cZ es L)(ho:s.heap.get? S=some { cls:=.type "set",dict:=none,data:=.set es ep (tb (bD w) L) })
  (h:∀h' tk,s.heap.objs.size<h'.objs.size->(∀b o,s.heap.get? b=some o->h'.get? b=some o)->Q ((walk w S es ep).toList.map (·.2)) { s with heap:=h',toks:=tk }):wpAny (model prog w) A (collect (.ref S)) Q E s:=by
 have hlt:S<s.heap.objs.size:=Gd ho;have h6:=(ik L hL).2.1;generalize hN:s.heap.objs.size=N;have hNS:N≠S:=by rw[←hN];exact Nat.ne_of_gt hlt
 have key:∀R:Result->Shared->Prop,(∀h' tk acc c,(∀b o,s.heap.get? b=some o->h'.get? b=some o)->h'.get? N=some { cls:=.type "list",dict:=none,data:=.seq acc c,slots:=#[] } ->
   ItemsOf (fun i v=>∃e,(walk w S es ep)[i]?=some e/\v=e.2) acc es.size->R (.ok (.ret (.ref N))) { s with heap:=h',toks:=tk })->codeAny (model prog w) A (.builtin "proto.collect" ⟨[.ref S],[]⟩) R s:=by
  intro R hR;refine HE PyProof.Rows.entry_proto_collect' ?_;rw[Hv PySem.F.plain_proto_collect _];show wpAny (model prog w) A.in1 (newList [] >>= fun l=>again (.builtin "list.__iadd__" ⟨[l,.ref S],[]⟩)) _ _ s;refine F1 (GO ?_);refine F5 ⟨plainId_quiet PySem.F.plain_list_iadd _,HE PySem.F.entry_list_iadd ?_⟩;rw[Hv PySem.F.plain_list_iadd _];rw[hN];show wpAny (model prog w) A.in1 (Builtin.List.listExtendWith (.ref N) (.ref S) (.ref N)) _ _ _;have hS:(s.heap.push { cls:=.type "list",data:=.seq ([]:List Value).toArray }).get? N=some { cls:=.type "list",data:=.seq #[] 0 }:=by rw[←hN];exact Gm _ rfl
  refine PySem.W.kdl_extend (s:={ s with heap:=s.heap.push { cls:=.type "list",data:=.seq ([]:List Value).toArray } }) (t7 (ep:=ep) hL he) (by simpa using hh) (F6 _ ho) N hNS hNS (.ref N) 0 hS (fun h' tk acc c kp hS' hacc=>?_) (by rw[he.size,Hx];omega);exact hR h' tk acc c (fun b o q=>kp b o (by rw[←hN];exact Gv (Gd q)) (F6 _ q)) hS' hacc
 unfold collect;refine F1 (wpAny_runValue (key _ fun h' tk acc c kp hS' hacc=>?_));show wpAny (model prog w) A (load N >>= _) _ _ _;refine F1 (wpAny_load hS' ?_);refine F5 ?_;have e:acc.toList=(walk w S es ep).toList.map (·.2):=by
  apply List.ext_getElem?;intro j;by_cases hj:j<acc.size
  ·obtain⟨e,e1,e2⟩:=hacc.2 j _ (Gu hj);rw[G7,Gu hj,Gs,G7,e1,e2];rfl
  ·have hz:(walk w S es ep).size≤j:=by rw[eJ];have:=hacc.1;omega
   rw[G7,Im (by omega),Gs,G7,Im hz];rfl
 show Q acc.toList _;rw[e];exact h h' tk (by rw[hN];exact Gd hS') kp
theorem me(hh:A.handled=none)(hP:iG s.heap S (bD w) L)
  (h:∀(r:Addr) (h':Heap) (tk n:Nat) (out:List Value) (ms:List Int),s.heap.objs.size≤r->(∀b o,s.heap.get? b=some o->h'.get? b=some o)->h'.get? r=some (seqObj "list" out.toArray n)->IntsAre out ms->ms.Pairwise (·≤·)->ms.Perm (L.map fun(i:Nat)=>(i:Int))->Q (.ref r) { s with heap:=h',toks:=tk }) :
  wpAny (model prog w) A (call (.builtin "sorted") [.ref S]) Q E s:=by
 obtain⟨hL,es,ep,ho,he⟩:=hP.is;have h6:=(ik L hL).2.1;refine Calls.call_function_entry kind_sorted plain_sorted entry_sorted (args_sorted1 _) ?_;unfold Builtin.«sorted»;refine F1 (m:=checkCount "sorted" 1 1 _) (F5 ?_);refine F1 (ki (by simpa using hh) hL he ho fun h1 tk1 hgt k1=>?_);have hil:∃ns:List Int,IntsAre ((walk w S es ep).toList.map (·.2)) ns/\ns.Perm (L.map fun(i:Nat)=>(i:Int)):=by
  have hp:=jo w S es ep;obtain⟨tks,q1,q2⟩:=he;have gen:∀(l:List (Int×Value)),(∀e∈l,∃x tk,e=ent x tk)->IntsAre (l.map (·.2)) (l.map (·.1)):=by
   intro l
   induction l with
   | nil=>intro _;exact .nil
   | cons e l ih =>
    intro hm;obtain⟨x,tk,rfl⟩:=hm e Ga;exact .cons _ _ (ih fun e he=>hm e (Gb _ he))
  refine⟨(walk w S es ep).toList.map (·.1),gen _ fun e hm=>?_,?_⟩
  ·obtain⟨x,_,tk,e⟩:=cZ.mem ⟨tks,q1,q2⟩ (hp.mem_iff.mp hm);exact⟨x,tk,e⟩
  ·refine(hp.map _).trans ?_;rw[q2];have gen2:∀(L:List Nat) (tks:List Tok),tks.length=L.length->(List.zipWith ent L tks).map (·.1)=L.map fun(i:Nat)=>(i:Int):=by
    intro L
    induction L with
    | nil=>intro tks _;rfl
    | cons a L ih =>
     intro tks hl;cases tks with
     | nil=>simp at hl
     | cons b tks=>simp only[List.zipWith_cons_cons,Ge,ih tks (by simpa using hl)];rfl
   rw[gen2 L tks q1]
 obtain⟨ns,hi,hpm⟩:=hil;generalize (walk w S es ep).toList.map (·.2)=vs at hi ⊢;have hlen:vs.length=L.length:=by
  have a:=hpm.length_eq;have b:=IntsAre.length hi;rw[F0]at a;omega
 refine F1 (wpAny_newList ?_ (by rw[hlen,Hx];omega));have hoL:(h1.push (seqObj "list" vs.toArray 0)).get? h1.objs.size=some (seqObj "list" vs.toArray 0):=Gm _ rfl;show wpAny (model prog w) _ _ _ _ { s with heap:=h1.push (seqObj "list" vs.toArray 0),toks:=tk1 };refine F1 (Hs (GV slot_list_sort ⟨_,hoL,rfl⟩ entry_list_sort (list_sort_tree hoL hi (by omega) fun out ms a1 a2 a3=>⟨_,rfl,?_⟩) (args_list_sort _)));refine F5 ⟨_,rfl,?_⟩;obtain⟨e,he2⟩:=sortedHeap_at (out:=out) hoL;have hge:s.heap.objs.size≤h1.objs.size:=Nat.le_of_lt hgt;refine h h1.objs.size (sortedHeap (h1.push (seqObj "list" vs.toArray 0)) h1.objs.size vs out) tk1 e out.toList ms hge (fun b o q=>?_) (by simpa using he2) a1 a3 (a2.trans hpm);rw[sortedHeap_old (Gv (Gd (k1 b o q))) (by rw[Heap.size_push];exact Ih (Gd (k1 b o q)))];exact F6 _ (k1 b o q)
end
end SI
namespace L2
variable {X:Cx}
def jH(w:World)(S:Addr)(L:List Nat):Heap->Prop:=fun h=>SI.iG h S (SI.bD w) L
def xO(n:Nat):V:=.int (n:Int)
theorem jb:∀{ns:List Nat} {us:List Value},Vals (ns.map xO) us->SI.se us ns
 | [],_,.nil=>⟨rfl,fun i v h=>by simp at h⟩
 | n::ns,_,.cons r t=>by
  obtain⟨tk,rfl⟩:=r;obtain⟨a,b⟩:=jb t;refine⟨by simp[a],fun i v h=>?_⟩;cases i with
  | zero=>simp at h;exact⟨tk,h.symm⟩
  | succ i=>simpa using b i v (by simpa using h)
theorem gf(hc:X.calm=true):cA X (.type "set") (fun xs H Q=>∃(a:Addr) (ns:List Nat),xs=[.ref a]/\SqL X.K H a (ns.map xO)/\(∀n∈ns,n<6)/\∀S,H S=none->Q (.ref S) (upd H S (.ext (jH X.w S (SI.lof ns))))):=by
 intro pins s σ H xs us Q I r h;obtain⟨a,ns,rfl,hq,hin,q⟩:=h;obtain⟨u,rfl,ru⟩:=Vals.one r;cases ru;obtain⟨its,rv,p,hz⟩:=I.list hq;refine SI.iJ (ns:=ns) (I.ok.hd hc) p.isList (jb rv) hin fun h' tk kp P=>?_;have hn:H s.heap.objs.size=none:=I.hok.fresh (F9 _);refine⟨.ref s.heap.objs.size,_,I.laid (t':=tk) (o:=.ext (jH X.w s.heap.objs.size (SI.lof ns))) (fun b o e=>kp b o (Gd e) e) (F9 _) ?_,rfl,q _ hn⟩;obtain⟨hL,es,ep,ho,he⟩:=P.is;exact⟨P,⟨_,ho⟩,fun h1 h2 x k=>by obtain⟨a,es,ep,e,l⟩:=x.is;exact⟨a,es,ep,k _ e,l⟩⟩
theorem mj(hc:X.calm=true):cA X (.builtin "sorted") (fun xs H Q=>∃(S:Addr) (L:List Nat),xs=[.ref S]/\H S=some (.ext (jH X.w S L))/\∀(r:Addr) (ms:List Int),H r=none->ms.Pairwise (·≤·)->ms.Perm (L.map fun(i:Nat)=>(i:Int))->Q (.ref r) (upd H r (.lst (ms.map V.int)))):=by
 intro pins s σ H xs us Q I r h;obtain⟨S,L,rfl,hS,q⟩:=h;obtain⟨u,rfl,ru⟩:=Vals.one r;cases ru;obtain⟨P,_,_⟩:=(show bP X.prog X.w H s.heap S (.ext (jH X.w S L))from I.hok S _ hS);have h6:=(SI.ik L P.is.1).2.1;refine SI.me (I.ok.hd hc) P fun r h' tk n out ms hge kp ho hi hs hp=>?_;have hn:H r=none:=I.hok.fresh hge;have hl:ms.length≤6:=by have:=hp.length_eq;rw[F0]at this;omega
 refine⟨.ref r,_,I.laid (t':=tk) (o:=.lst (ms.map V.int)) (fun b o e=>kp b o e) hge ?_,rfl,q r ms hn hs hp⟩;exact⟨by rw[F0,Hx];omega,out,n,fY hi,ho⟩
def kh(K:PySem.W.Frag):V->List V->Hp->VK->Prop:=fun x vs H Q=>∃l b xs zs,x=.ref l/\vs=[.ref b]/\H l=some (.lst xs)/\SqT K H b zs/\xs.length+zs.length≤sizeLine/\Q .non (upd H l (.lst (xs++zs)))
end L2
namespace U
open L2
variable {B:Bs}{X:Cx}{e:Expr}{ta:TE'}{p p2 pos pos2:Pos}
def fV(n:Nat):PV:=.int (n:Int)
theorem fw{K:PySem.W.Frag}{H:Hp}:∀{ns:List Nat} {us:List V},RPs K H (ns.map fV) us->us=ns.map xO
 | [],us,h=>by simpa[RPs]using h
 | b::bs,us,h=>by
  simp only[Ge,RPs,RP,fV]at h;obtain⟨u,r,rfl,rfl,h2⟩:=h;rw[fw h2];rfl
def nX(x:PV)(H:PHp)(Q:VK'):Prop:=match x with
 | .ref a=>∃ns:List Nat,H a=some (.lst (ns.map fV))/\(∀n∈ns,n<6)/\∀(r:Addr) (ms:List Nat),H r=none->ms.Pairwise (·<·)->(∀x,x∈ms↔x∈ns)->Q (.ref r) (put H r (.lst (ms.map fV)))
 | _=>False
theorem Ee:nX (.ref a) H Q=∃ns:List Nat,H a=some (.lst (ns.map fV))/\(∀n∈ns,n<6)/\∀(r:Addr) (ms:List Nat),H r=none->ms.Pairwise (·<·)->(∀x,x∈ms↔x∈ns)->Q (.ref r) (put H r (.lst (ms.map fV))):=rfl
def lD(ta:TE'):TE':=fun σ H Q=>ta σ H fun x H1=>nX x H1 Q
theorem kv{L:List Nat}:∀{ms:List Int},(∀x∈ms,∃n∈L,x=((n:Nat):Int))->ms=(ms.map Int.toNat).map fun(n:Nat)=>(n:Int)
 | [],_=>rfl
 | x::ms,h=>by
  obtain⟨n,_,rfl⟩:=h x Ga;rw[Ge,Ge,← kv (ms:=ms) fun y hy=>h y (Gb _ hy)];rfl
theorem iL(hc:X.calm=true)(hu:X.A.units+64<cLine)(hgl:Gl X "sorted")(hml:X.mg "sorted"=none)(hgs:Gl X "set")(hms:X.mg "set"=none)(bs:bootBuiltins "set"=some (.type "set"))(ha:PE' X B e ta)(bo:bootBuiltins "sorted"=some (.builtin "sorted"):=by decide +kernel)
  (he:starEach [.Call (.Name "set" p2) [e] [] pos2] X.env=[(false,eval (.Call (.Name "set" p2) [e] [] pos2) X.env)]:=by rfl) (he2:starEach [e] X.env=[(false,eval e X.env)]:=by rfl) :
  PE' X B (.Call (.Name "sorted" p) [.Call (.Name "set" p2) [e] [] pos2] [] pos) (lD ta) :=
 aV (dW (mj hc) hgl hml bo (cP (dj (gf hc) hgs hms bs (cP ha dw he2) (by decide) (by decide) he2 rfl) dw he) (by decide) (by decide) he rfl) fun σ H Q h=>by
  obtain⟨σ',H',Q',s,h,k⟩:=h;refine⟨σ',H',_,s,h,fun x' H1' x H1 h1 rx s1 e1=>?_⟩;cases x' with
  | ref a =>
   obtain⟨ns,ea,hin,q⟩:=h1;simp only[RP]at rx;subst rx;obtain⟨us,eg,r2⟩:=s1.hp _ _ ea;rw[fw r2]at eg;refine⟨a,ns,rfl,.inl (.inl eg),hin,fun S hS=>⟨S,SI.lof ns,rfl,bh,fun r ms hr hs hp=>?_⟩⟩;have s2:=s1.hid (o:=.ext (jH X.w S (SI.lof ns))) hS;have e2:Ev H1' H1 H1' (upd H1 S (.ext (jH X.w S (SI.lof ns)))):=Ev.hid hS;have nd:=(SI.ik _ (SI.ip hin)).2.2.1;have hm:∀x∈ms,∃n∈SI.lof ns,x=((n:Nat):Int):=fun x hx=>by
    obtain⟨n,h1,h2⟩:=F4.mp (hp.mem_iff.mp hx);exact⟨n,h1,h2.symm⟩
   have em:=kv hm;generalize ms.map Int.toNat=ks at em;subst em;have pk:ks.Perm (SI.lof ns):=by
    have:=hp.map Int.toNat
    simpa[GK,Function.comp_def]using this
   have ndk:ks.Nodup:=pk.nodup_iff.mpr nd;have hsk:ks.Pairwise (·<·):=by
    rw[Hu]at hs;refine List.Pairwise.imp₂ (fun a b h1 h2=>?_) hs ndk;have:a≠b:=h2;omega
   have hq:=q r ks (s2.hp.free hr) hsk fun x=>pk.mem_iff.trans SI.jI;have rr:RPs X.K (upd H1 S (.ext (jH X.w S (SI.lof ns)))) (ks.map fV) ((ks.map fun(n:Nat)=>(n:Int)).map V.int):=by
    have e3:ks.map fV=(ks.map fun(n:Nat)=>(n:Int)).map PV.int:=by rw[GK];rfl
    rw[e3];exact kl
   exact k _ _ _ _ hq (by simp[RP]) (s2.new hr (kO hr rr)) ((e1.trans e2).trans (Ev.new hr))
  | _=>exact h1.elim
end U
namespace L2
variable {X:Cx}{tg:Expr}
theorem g5:MtM X "list.extend" (kh X.K):=by
 intro pins s σ H x vs v us Q I rx rv h;obtain⟨l,b,xs,zs,rfl,rfl,hH,hB,hz,q⟩:=h;cases rx;obtain⟨u,rfl,ru⟩:=rv.one;cases ru;obtain⟨z,its,n,r,hl,e⟩:=I.lstM hH;obtain⟨is2,r2,⟨o2,ho2,hc2,n2,hd2⟩,hz2⟩:=I.tuple hB;have hne:l≠b:=by
  rintro rfl;rw[e]at ho2;cases ho2;exact absurd (show Value.type "list"=Value.type "tuple" from hc2) (by decide)
 have hlen2:=r2.length;refine GV F.slot_list_extend ⟨_,e,rfl⟩ F.entry_list_extend ?_ (F.args_list_extend_2 _ _);show wpAny _ _ (Builtin.List.listExtendWith (.ref l) (.ref b) .none) _ _ _;unfold Builtin.List.listExtendWith;refine F1 (wpAny_typeOf (T:="tuple") ⟨o2,ho2,hc2⟩ ?_);rw[Gq (by rw[show(Value.type "tuple"==Value.type "tuple")=true from rfl];simp)];refine F1 (listItems_at ho2 hd2 ?_);refine F1 (listItems_at (xs:=its.toArray) (n:=n) e rfl ?_);have hsz:its.toArray.size+is2.toArray.size≤sizeLine:=by rw[Gi,Gi];omega
 rw[Gp (by rw[g9 hsz,Bool.and_false];exact HA)];refine F1 (listUpdate_at (xs:=its.toArray) (n:=n) e rfl ?_ (by rw[Gi];omega) (by show(its.toArray++is2.toArray).size≤_;rw[Array.size_append];omega));refine F5 ⟨_,rfl,?_⟩;refine⟨.non,_,I.lset (its':=its++is2) hH e (by simp) (r.append r2) ?_,rfl,q⟩;rw[F3];omega
def Itd(lo:Int)(n:Nat):It:=⟨fun i _=>i<n,fun i H x H'=>H'=H/\x=.int (lo - i),fun i _=>n≤i⟩
theorem oH{K:PySem.W.Frag}(it:Addr)(lo:Int)(n:Nat):Turn P w K tg (Itd lo n) [it] it (fun i h=>IsRangeIter h it (lo+(i:Nat)*(-1)) ((n:Int) - (i:Nat)) (-1)) where
 mem:=by simp
 obj:=fun i h st b hb=>by
  have q:b=it:=by simpa using hb
  subst q;exact⟨_,st,fun v z=>by
   have z':Data.fields _=Data.cell v:=z;cases z'⟩
 keep:=fun i h h' st k=>k it (by simp) _ st
 item:=by
  intro X hP hw hK hc i pins s σ H E I hf st hg;subst hP hw hK;obtain⟨f0,f1,f2,f3,f4,f5⟩:=hf it (by simp);have W:=Walks.range (prog:=X.prog) (w:=X.w) (I.ok.hd hc) it lo (-1) n;refine W.item i s _ _ hg st fun v h' tk hv st' kk=>?_;obtain⟨t,rfl⟩:=hv;have J:Inv X pins σ H { s with heap:=h',toks:=tk }:=I.turned (fun b o hb e=>kk b o (by simpa using hb) e) f0 f1 f3 f4 f5;refine⟨_,rfl,ja (s:={ s with heap:=h',toks:=tk }) (n:="range_iterator") st' rfl rfl (by decide) ⟨.int (lo - i),H,J,⟨t,?_⟩,⟨rfl,rfl⟩,st',fun b hb=>(hf b hb).1⟩⟩;congr 1;omega
 done:=by
  intro X hP hw hK hc i pins s σ H E I hf st hg;subst hP hw hK;obtain⟨f0,f1,f2,f3,f4,f5⟩:=hf it (by simp);exact wpAny_pyNext_range_end (I.ok.hd hc) st (by have q:n≤i:=hg;omega) fun h' eb=>⟨rfl,I.turned (t':=s.toks) (fun b o hb e=>eb b o hb e) f0 f1 f3 f4 f5⟩
 self:=fun _ _ _ _ _ st h=>wpAny_pyIter_rangeiter st h
def Ab(ta:TA):TI:=fun σ H R=>ta σ H fun vs H1=>∃j:Int,vs=[.int j,.int (-1),.int (-1)]/\-1≤j/\j<1000/\R (Itd j (j+1).toNat) H1
theorem jh(h:-1≤j):Builtin.Range.rangeSize j (-1) (-1)=j+1:=by
 unfold Builtin.Range.rangeSize;rw[Gp (by decide)];have e:-(-1:Int)=1:=rfl;rw[e,Int.ediv_one];split<;>omega
theorem mI(h:-1≤j)(h2:j<1000):Builtin.Range.small j (-1) (-1)=true:=by
 unfold Builtin.Range.small;rw[jh h];simp only[Builtin.Range.rangeFitsLong,HU,Bool.or_eq_true,GI,Ir];refine⟨⟨⟨⟨by omega,by decide⟩,by decide⟩,by omega⟩,.inr (by decide)⟩
theorem vA{a b c:Expr}{ta:TA}{p pos:Pos}(hg:Gl X "range")(hm:X.mg "range"=none)(ha:PA X [a,b,c] ta)(hs:starEach [a,b,c] X.env=[(false,eval a X.env),(false,eval b X.env),(false,eval c X.env)]:=by rfl)
  (hs2:starEach [b,c] X.env=[(false,eval b X.env),(false,eval c X.env)]:=by rfl):PI X tg (.Call (.Name "range" p) [a,b,c] [] pos) (Ab ta):=by
 intro pins s σ H R I h;refine Call_ (dD I hg hm boot_range (G0 (thn (ha pos pins s σ H _ I h) fun us s1 ⟨vs,H1,I1,r1,q1⟩=>?_) (by rw[hs,hs2]) (by rw[hs2];rfl)));obtain⟨j,e,q1,q2,q⟩:=q1;subst e;cases r1 with
 | cons r rr =>
  cases rr with
  | cons r' rr =>
   cases rr with
   | cons r'' rr =>
    cases rr;obtain⟨t,rfl⟩:=r;obtain⟨t',rfl⟩:=r';obtain⟨t'',rfl⟩:=r'';refine call_range_3 (by decide) ?_ (Or.inl (PyProof.noPylong_of_log2 (by decide +kernel)));generalize hh:s1.heap.push { cls:=.type "range",data:=.fields #[.int j t,.int (-1) t',.int (-1) t''] }=h2;have I2:Inv X pins σ H1 { s1 with heap:=h2 }:=by rw[←hh];exact I1.kept (t':=s1.toks) fun b o e=>F6 _ e
    refine wpAny_pyIter_range (s:={ s1 with heap:=h2,toks:=s1.toks }) (by rw[←hh];exact IsRange.new ..) (mI q1 q2) ?_;refine⟨h2.objs.size,[h2.objs.size],_,_,H1,rfl,I2.kept (t':=s1.toks) fun b o e=>F6 _ e,oH _ j (j+1).toNat,?_,fun b hb=>?_,q⟩
    ·show IsRangeIter _ _ (j+((0:Nat):Int)*(-1)) ((((j+1).toNat:Nat):Int) - ((0:Nat):Int)) (-1);have e1:j+((0:Nat):Int)*(-1)=j:=by simp
     have e2:(((j+1).toNat:Nat):Int) - ((0:Nat):Int)=Builtin.Range.rangeSize j (-1) (-1):=by rw[jh q1];omega
     rw[e1,e2];exact Gm _ rfl
    ·have e:b=h2.objs.size:=by simpa using hb
     subst e;exact I2.fpOk (F9 _) (I2.hok.fresh (F9 _))
end L2
namespace U
open L2
section
variable {B:Bs}{X:Cx}{a b c:Expr}{pos:Pos}
def tI:PV->List PV->PHp->VK'->Prop:=fun x vs H Q=>match x,vs with
 | .ref a,[.tup m]=>∃l,H a=some (.lst l)/\l.length+m.length≤sizeLine/\Q .non (put H a (.lst (l++m)))
 | _,_=>False
theorem C7{a:Addr}:tI (.ref a) [.tup m] H Q=∃l,H a=some (.lst l)/\l.length+m.length≤sizeLine/\Q .non (put H a (.lst (l++m))):=rfl
theorem nQ{K:PySem.W.Frag}:VM K B tI (kh K):=by
 intro σ' σ H' H x' xs' x xs Q' Q s rx r h k;unfold tI at h;split at h
 ·rename_i a m;obtain⟨l,e,hl,h⟩:=h;obtain⟨us,q,r2⟩:=s.hp _ _ e;simp only[RP,RPs]at rx r;obtain⟨u,r1,rfl,⟨b,ws,rfl,hb,r3⟩,rfl⟩:=r;subst rx;exact⟨a,b,us,ws,rfl,rfl,q,hb,by rw[RPs.length _ r2,RPs.length _ r3];exact hl,k _ _ _ _ h (by simp[RP]) (s.wr e (wrL s.hp e (RPs.append _ r2 r3))) (Ev.wr e)⟩
 ·exact h.elim
def kM(lo:Int)(n:Nat):List PV:=(List.range n).map fun k=>PV.int (lo - (k:Nat))
theorem pf{K:PySem.W.Frag}{lo:Int}:Walks K H1 (Itd lo n) ⟨kM lo n,fun _=>True⟩ where
 go:=fun H' H i _ _ _ hi=>by
  have q:i<n:=by simpa[kM]using hi
  exact q
 yld:=fun H' H i x H2 _ _ _ y=>by
  obtain⟨rfl,rfl⟩:=y;refine⟨rfl,fun x' hx=>?_⟩;unfold kM at hx;rw[Gs]at hx;cases q:(List.range n)[i]? with
  | none=>rw[q]at hx;cases hx
  | some j =>
   rw[q]at hx;have:j=i:=by
    have:=(Gj.mp q).2;simpa using this.symm
   subst this;cases hx;simp[RP]
 stop:=fun H' H i _ _ _ hi=>by
  have q:n≤i:=by simpa[kM]using hi
  exact q
def rW(vs:List PV)(H1:PHp)(R:It'->PHp->Prop):Prop:=match vs with
 | [.int j,.int e,.int f]=>e=-1/\f=-1/\-1≤j/\j<1000/\R ⟨kM j (j+1).toNat,fun _=>True⟩ H1
 | _=>False
theorem Ep:rW [.int j,.int e,.int f] H1 R=(e=-1/\f=-1/\-1≤j/\j<1000/\R ⟨kM j (j+1).toNat,fun _=>True⟩ H1):=rfl
def wA(t:TA'):TI':=fun σ H R=>t σ H fun vs H1=>rW vs H1 R
theorem oS{tg:Expr}{t:TA'}{p:Pos}(hg:Gl X "range")(hm:X.mg "range"=none)(ha:PA' X B [a,b,c] t)(hs:starEach [a,b,c] X.env=[(false,eval a X.env),(false,eval b X.env),(false,eval c X.env)]:=by rfl)
  (hs2:starEach [b,c] X.env=[(false,eval b X.env),(false,eval c X.env)]:=by rfl):PI' X B tg (.Call (.Name "range" p) [a,b,c] [] pos) (wA t) :=
 e9 (vA hg hm ha hs hs2) fun σ H R y_=>by
  obtain⟨σ',H',R',s,h,k⟩:=y_;refine⟨σ',H',_,s,h,fun vs' H1' vs H1 h1 r1 s1 e1=>?_⟩;unfold rW at h1;split at h1
  ·rename_i j e f;obtain⟨rfl,rfl,h2,h3,q⟩:=h1;simp only[RPs,RP]at r1;obtain⟨u,r,rfl,rfl,u2,r2,rfl,rfl,u3,r3,rfl,rfl,rfl⟩:=r1;exact⟨j,rfl,h2,h3,k _ _ _ _ q pf s1 e1⟩
  ·exact h1.elim
end
section
variable {B:Bs}{X:Cx}{a b:Expr}{ta tb:TE'}{pos:Pos}
def rn:R2':=fun x y H Q=>match x,y with
 | .ref a,.ref b=>∃l m,H a=some (.lst l)/\H b=some (.lst m)/\l.length+m.length≤sizeLine/\∀p,H p=none->Q (.ref p) (put H p (.lst (l++m)))
 | _,_=>False
theorem E2{a b:Addr}:rn (.ref a) (.ref b) H Q=∃l m,H a=some (.lst l)/\H b=some (.lst m)/\l.length+m.length≤sizeLine/\∀p,H p=none->Q (.ref p) (put H p (.lst (l++m))):=rfl
theorem xA{K:PySem.W.Frag}:VR K B rn Bd:=by
 intro σ' σ H' H x' y' x y Q' Q s rx ry h k;unfold rn at h;split at h
 ·rename_i a b;obtain⟨l,m,e1,e2,hl,h⟩:=h;simp only[RP]at rx ry;subst rx;subst ry;obtain⟨us,q1,r1⟩:=s.hp _ _ e1;obtain⟨ws,q2,r2⟩:=s.hp _ _ e2;refine⟨a,b,us,ws,rfl,rfl,q1,q2,by rw[RPs.length _ r1,RPs.length _ r2];exact hl,fun p hp=>?_⟩;exact k _ _ _ _ (h p (s.hp.free hp)) (by simp[RP]) (s.new hp (kO hp (RPs.append _ r1 r2))) (Ev.new hp)
 ·exact h.elim
theorem bz(ha:PE' X B a ta)(hb:PE' X B b tb):PE' X B (.BinOp a .Add b pos) (uOp rn ta tb):=eW zw xA ha hb
theorem Dc{a:Addr}:yT [.ref a] H Q=∃ns:List Int,H a=some (.lst (ns.map PV.int))/\ns.length<64/\∀(r:Addr) (ms:List Int),H r=none->ms.Perm ns->ms.Pairwise (·≤·)->Q (.ref r) (put H r (.lst (ms.map PV.int))):=rfl
theorem kL(xs:List PV)(k:Nat):b9 xs (some (k:Int)) none=xs.drop k:=by
 unfold b9;rw[HT.gE,HT.dk];rw[HX (by rw[Hm];omega)];by_cases h:k≤xs.length
 ·rw[Nat.min_eq_left h]
 ·rw[Nat.min_eq_right (by omega),List.drop_length,List.drop_eq_nil_of_le (by omega)]
theorem Cg(ns:List Int)(lo hi:Option Int):∃ms:List Int,b9 (ns.map PV.int) lo hi=ms.map PV.int/\ms.length≤ns.length:=by
 unfold b9;refine⟨(ns.drop (HT.sIx (ns.map PV.int).length 0 lo)).take (HT.sIx (ns.map PV.int).length (ns.map PV.int).length hi - HT.sIx (ns.map PV.int).length 0 lo),?_,?_⟩
 ·rw[List.map_take,List.map_drop]
 ·rw[GN,Hm];omega
theorem gF{F:List Int}(h:∀x∈F,0≤x/\x<6):F.map PV.int=(F.map Int.toNat).map fV:=by
 rw[GK];refine List.map_congr_left fun x hx=>?_;have:=h x hx;show PV.int x=PV.int ((x.toNat:Nat):Int);congr 1;omega
end
end U
namespace SI
section
variable {prog:Program}{w:World}{A:Around}{E:Value->Shared->Prop}{s:Shared}{T:String}{r d:Addr}{n:Nat}{P:Nat->Value->Prop}{OK:Heap->Prop}
end
end SI
namespace L2
variable {X:Cx}
end L2
namespace U
open L2
section
variable {B:Bs}{X:Cx}{a b o i value:Expr}{ta tb td ty:TE'}{pos pos':Pos}
end
section
end
end U
namespace L2
variable {X:Cx}
def CK(K:PySem.W.Frag):List V->Hp->VK->Prop:=fun xs H Q=>∃(p:Addr) (bs:List Bool),xs=[.ref p]/\SqL K H p (bs.map V.bl)/\Q (.bl (bs.any id)) H
theorem q0(hc:X.calm=true):cA X (.builtin "any") (CK X.K):=by
 intro pins s σ H xs us Q I r h;obtain⟨a,bs,rfl,hq,q⟩:=h;obtain⟨u,rfl,ru⟩:=Vals.one r;cases ru;obtain⟨its,rv,p,hz⟩:=I.list hq;have e:=eZ rv;subst e;have hl:s.heap.IsList a (bs.map Value.bool).toArray:=p.isList;have llt:a<s.heap.objs.size:=by obtain⟨o,e,_⟩:=hl;exact Gd e
 have hne:a≠s.heap.objs.size:=Gv llt;refine call_any_walk (wpAny_pyIter_list hl ?_);refine⟨s.heap.objs.size,[s.heap.objs.size,a],[s.heap.objs.size],(bs.map Value.bool).toArray.size,_,_,fun i=>bs.getD i false,rfl,Walks.list (by simpa using I.ok.hd hc) _ a hne _,⟨⟨_,Gm _ rfl,rfl,rfl⟩,hl.at fun o e=>F6 _ e⟩,?_,?_⟩
 ·intro i v s' Q' E' hv hQ;have:v=Value.bool (bs.getD i false):=by
   have hv':(bs.map Value.bool)[i]?=some v:=by simpa using hv
   rw[Gs]at hv';cases hb:bs[i]? with
   | none=>rw[hb]at hv';cases hv'
   | some b=>rw[hb]at hv';cases hv';rw[F7,hb];rfl
  subst this;exact Hr hQ
 ·intro h' tk kp;have e:(List.range (bs.map Value.bool).toArray.size).any (fun i=>bs.getD i false)=bs.any id:=by
   have hs:(bs.map Value.bool).toArray.size=bs.length:=by simp
   rw[hs];rw[HD,Ip,Ip];constructor
   ·rintro⟨i,hi,h⟩;have hi:=GC.mp hi;rw[F7,F2 hi]at h;exact⟨_,Gz hi,h⟩
   ·rintro⟨b,hb,h⟩;obtain⟨i,hi,e⟩:=List.getElem_of_mem hb;refine⟨i,GC.mpr hi,?_⟩;rw[F7,F2 hi,e];exact h
  rw[e];refine⟨.bl (bs.any id),H,I.kept (t':=tk) fun b o e=>?_,rfl,q⟩;exact kp b o (by simpa using Gv (Gd e)) (F6 _ e)
theorem jY(hin:∀n∈ns,n<6)(nd:ns.Nodup):(SI.lof ns).length=ns.length:=by
 have h1:=(SI.ik _ (SI.ip hin)).2.2.1;exact((List.perm_ext_iff_of_nodup h1 nd).mpr fun x=>SI.jI).length_eq
theorem iO:cA X (.builtin "len") (fun xs H Q=>∃(S:Addr) (L:List Nat),xs=[.ref S]/\H S=some (.ext (jH X.w S L))/\Q (.int L.length) H):=by
 intro pins s σ H xs us Q I r h;obtain⟨S,L,rfl,hS,q⟩:=h;obtain⟨u,rfl,ru⟩:=Vals.one r;cases ru;obtain⟨P,_,_⟩:=(show bP X.prog X.w H s.heap S (.ext (jH X.w S L))from I.hok S _ hS);obtain⟨hL,es,ep,ho,he⟩:=P.is;have h6:=(SI.ik L hL).2.1;have hz:=he.size;have hf:=(SI.kS L hL _ (SI.dM (SI.bD X.w))).1;rw[←hz]at hf q h6;exact call_len_set ho ⟨rfl,rfl,rfl⟩ rfl hf (by omega) ⟨.int es.size,H,I.tok _,⟨_,rfl⟩,q⟩
end L2
namespace U
open L2
variable {B:Bs}{X:Cx}{a b e:Expr}{ta tb:TE'}{p p2 pos pos2:Pos}
def Aw:List PV->PHp->VK'->Prop:=di fun x H Q=>match x with
 | .ref a=>∃bs:List Bool,H a=some (.lst (bs.map PV.bl))/\Q (.bl (bs.any id)) H
 | _=>False
theorem D3{a:Addr}:Aw [.ref a] H Q=∃bs:List Bool,H a=some (.lst (bs.map PV.bl))/\Q (.bl (bs.any id)) H:=rfl
theorem xX{K:PySem.W.Frag}:VC K B Aw (CK K):=by
 intro σ' σ H' H xs' xs Q' Q s r h k;obtain⟨x',x,rfl,rfl,rx,h⟩:=di.ex h r;cases x' with
 | ref a =>
  obtain⟨bs,ea,q⟩:=h;simp only[RP]at rx;subst rx;obtain⟨us,e,r2⟩:=s.hp _ _ ea;rw[gg r2]at e;exact⟨a,bs,rfl,.inl (.inl e),k _ _ _ _ q (by simp[RP]) s (Ev.refl _ _)⟩
 | _=>exact h.elim
def nq(x:PV)(H:PHp)(Q:VK'):Prop:=match x with
 | .ref a=>∃ns:List Nat,H a=some (.lst (ns.map fV))/\(∀n∈ns,n<6)/\ns.Nodup/\Q (.int ns.length) H
 | _=>False
theorem FC{a:Addr}:nq (.ref a) H Q=∃ns:List Nat,H a=some (.lst (ns.map fV))/\(∀n∈ns,n<6)/\ns.Nodup/\Q (.int ns.length) H:=rfl
def ky(ta:TE'):TE':=fun σ H Q=>ta σ H fun x H1=>nq x H1 Q
theorem kJ(hc:X.calm=true)(hgl:Gl X "len")(hml:X.mg "len"=none)(hgs:Gl X "set")(hms:X.mg "set"=none)(bs:bootBuiltins "set"=some (.type "set"))(ha:PE' X B e ta)
  (he:starEach [.Call (.Name "set" p2) [e] [] pos2] X.env=[(false,eval (.Call (.Name "set" p2) [e] [] pos2) X.env)]:=by rfl) (he2:starEach [e] X.env=[(false,eval e X.env)]:=by rfl) :
  PE' X B (.Call (.Name "len" p) [.Call (.Name "set" p2) [e] [] pos2] [] pos) (ky ta) :=
 aV (dW iO hgl hml Gn (cP (dj (gf hc) hgs hms bs (cP ha dw he2) (by decide) (by decide) he2 rfl) dw he) (by decide) (by decide) he rfl) fun σ H Q h=>by
  obtain⟨σ',H',Q',s,h,k⟩:=h;refine⟨σ',H',_,s,h,fun x' H1' x H1 h1 rx s1 e1=>?_⟩;cases x' with
  | ref a =>
   obtain⟨ns,ea,hin,nd,q⟩:=h1;simp only[RP]at rx;subst rx;obtain⟨us,eg,r2⟩:=s1.hp _ _ ea;rw[fw r2]at eg;refine⟨a,ns,rfl,.inl (.inl eg),hin,fun S hS=>⟨S,SI.lof ns,rfl,bh,?_⟩⟩;rw[←jY hin nd]at q;exact k _ _ _ _ q (by simp[RP]) (s1.hid hS) (e1.trans (Ev.hid hS))
  | _=>exact h1.elim
end U
namespace L2
variable {X:Cx}{pos:Pos}
def FT(K:PySem.W.Frag)(n:Nat)(t:TGs):TG:=fun v σ H Q=>∃a xs,v=.ref a/\SqL K H a xs/\xs.length=n/\t xs σ H Q
theorem xG{es:List Expr}{k:Nat}{t:TGs}{n:Nat}(hc:X.calm=true)(h:PGs X es t)(hn:(assignEach es X.env).length=n:=by rfl)(hst:(assignEach es X.env).findIdx? (·.1)=none:=by rfl) :
  PG X (.Tuple es k pos) (FT X.K n t):=by
 intro pins s σ H v u Q I r hw;obtain⟨a,xs,e1,hq,hl,hw⟩:=hw;subst e1;cases r;obtain⟨its,rv,p,hz⟩:=I.list hq;rw[assign_Tuple];refine F1 (wpAny_standAt ?_);unfold unpack;rw[hst,show(assignEach es X.env).length=its.toArray.size by simp[hn,← hl,rv.length]];refine F1 (Hs (PySem.W.kun_itemsOf (I.ok.hd hc) p.isList fun h' hx=>?_));have I1:Inv X pins σ H { s with heap:=h' }:=I.kept (t':=s.toks) fun b o e=>hx b o (Gv (Gd e)) e;exact h pins _ σ H xs _ Q I1 (by simpa using rv) hw
end L2
namespace U
open L2
variable {B:Bs}{X:Cx}{es:List Expr}{pos:Pos}
def AI(n:Nat)(t:fX):TG':=fun v σ H Q=>match v with
 | .ref a=>∃l,H a=some (.lst l)/\l.length=n/\t l σ H Q
 | _=>False
theorem Ey:AI n t (.ref a) σ H Q=∃l,H a=some (.lst l)/\l.length=n/\t l σ H Q:=rfl
theorem tD{k:Nat}{t:fX}{n:Nat}(hc:X.calm=true)(h:pO X B es t)(hn:(assignEach es X.env).length=n:=by rfl)(hst:(assignEach es X.env).findIdx? (·.1)=none:=by rfl):PG' X B (.Tuple es k pos) (AI n t) :=
 ie (xG hc h hn hst) fun v σ H Q y_=>by
 obtain⟨v',σ',H',Q',r,s,h,k⟩:=y_;cases v' with
 | ref a =>
  obtain⟨l,e,hl,h⟩:=h;simp only[RP]at r;subst r;obtain⟨us,q,r⟩:=s.hp _ _ e;exact⟨a,us,rfl,.inl (.inl q),by rw[RPs.length _ r];exact hl,l,σ',H',Q',r,s,h,k⟩
 | _=>exact h.elim
end U
namespace EN
section
variable {prog:Program}{w:World}{A:Around}{E:Value->Shared->Prop}{s:Shared}
end
end EN
namespace L2
section
variable {X:Cx}
end
end L2
namespace U
open L2
variable {B:Bs}{X:Cx}{pos:Pos}
structure xD (K:PySem.W.Frag) (H1:Hp) (J:It) (J':It'):Prop where
 go:∀H' H i,Kp H1 H->HR K H' H->J'.ok H'->i<J'.items.length->J.go i H
 yld:∀H' H i x H2,Kp H1 H->HR K H' H->J'.ok H'->J.yld i H x H2->HR K H' H2/\Ev H' H H' H2/\∀x',J'.items[i]?=some x'->RP K H2 x' x
 stop:∀H' H,Kp H1 H->HR K H' H->J'.ok H'->J.stop J'.items.length H
def wI(K:PySem.W.Frag)(B:Bs)(t:TI'):TI:=fun σ H R=>∃σ' H' R',SR K B σ' H' σ H/\t σ' H' R'/\∀J' H1' J H1,R' J' H1'->xD K H1 J J'->SR K B σ' H1' σ H1->Ev H' H H1' H1->R J H1
abbrev PIH(X:Cx)(B:Bs)(tg e:Expr)(t:TI'):Prop:=PI X tg e (wI X.K B t)
theorem iN{K:PySem.W.Frag}(h:low K B (fu nt js wi g tt te) σ H Q) :
  mV nt js (wI K B wi) (lowG K B g) (iD K B tt) (low K B te) σ H Q:=by
 obtain⟨σ',H',Q',s,h,k⟩:=h;refine⟨σ',H',_,s,h,fun J' H1' J H1 h1 wk s1 e1 acc ha=>?_⟩;have h1:=h1 acc (s1.hp.free ha);have sn:SR K B σ' (put H1' acc (.lst [])) σ (upd H1 acc (.lst [])):=s1.new ha ⟨[],bh,RPs.nil _⟩;have en:Ev H1' H1 (put H1' acc (.lst [])) (upd H1 acc (.lst [])):=Ev.new ha;refine⟨fun i m σ2 H2=>i≤J'.items.length/\m=J'.items.length - i/\∃σ2' H2',SR K B σ2' H2' σ2 H2/\SR K B σ' H2' σ H2/\Ev H1' H1 H2' H2/\dG J'.ok g tt te acc Q' (J'.items.drop i) σ2' H2',
  ⟨J'.items.length,HQ _,by simp,_,_,sn.sig nt js,sn,en,h1⟩,?_⟩
 rintro i m σ2 H2 ⟨hi,rfl,σ2',H2',s2,so,e2,h2⟩;have k2:=e2.kp s1.hp;by_cases hlt:i<J'.items.length
 ·obtain⟨x',hx⟩:∃x',J'.items[i]?=some x':=⟨_,F2 hlt⟩;have hd:J'.items.drop i=x'::J'.items.drop (i+1):=by
   rw[HF hlt];rw[F2 hlt]at hx;cases hx;rfl
  rw[hd]at h2;obtain⟨ok2,h2⟩:=(show J'.ok H2'/\_ from h2);refine .inr ⟨wk.go H2' H2 i k2 s2.hp ok2 hlt,fun x H3 y=>?_⟩;obtain⟨hr3,ev3,rx⟩:=wk.yld H2' H2 i x H3 k2 s2.hp ok2 y;have s2b:=s2.kp ev3 hr3;have sob:=so.kp ev3 hr3;have e2b:=e2.trans ev3;refine⟨x',σ2',H2',_,rx x' hx,s2b,h2,fun σ3' H3' σ3 H3 h3 s3 e3=>⟨σ3',H3',_,s3,h3,fun b H4' H4 h4 s4 e4=>?_⟩⟩;cases b with
  | false =>
   have e24:=e3.trans e4;exact ix ⟨J'.items.length - (i+1),by omega,hlt,rfl,σ3',H4',s4,sob.kp e24 s4.hp,e2b.trans e24,h4⟩
  | true =>
   refine iB ⟨σ3',H4',_,s4,h4,fun y' H5' y H5 h5 ry5 s5 e5=>?_⟩;obtain⟨l,a1,a2,h5⟩:=h5;have e25:=(e3.trans e4).trans e5;obtain⟨us,q1,q2⟩:=s5.hp _ _ a1;have wr:=wrL s5.hp a1 (RPs.append _ q2 (RPs.cons _ ry5 (RPs.nil _)));refine⟨us,q1,by rw[RPs.length _ q2];exact a2,J'.items.length - (i+1),by omega,hlt,rfl,σ3',_,s5.wr a1 wr,(sob.kp e25 s5.hp).wr a1 wr,(e2b.trans e25).trans (Ev.wr a1),h5⟩
 ·have hi':i=J'.items.length:=by omega
  subst hi';rw[List.drop_length]at h2;obtain⟨ok2,h2⟩:=(show J'.ok H2'/\_ from h2);exact .inl ⟨wk.stop H2' H2 k2 s2.hp ok2,k _ _ _ _ h2 (by simp[RP]) so (e1.trans e2)⟩
section
variable {N2:List Str}{nt:Nat}{js:List Nat}{scope sc:Scope}{cl:List (Str×Addr)}{elt iter tg:Expr}{ifs:List Expr}{wi:TI'}{g:TG'}{tt:TT'}{te:TE'}
theorem dv(O:cv X N2 nt js scope cl sc)(hc:X.calm=true)(hi:PIH X B tg iter wi)(b:∀(s0:Shared) (H0:Hp) (fp:List Addr) (ps:List (Addr×Obj)),fU (cC X N2 scope cl s0 H0 fp ps) B tg ifs elt g tt te)
  (hs:∀x,foldedSetIterable iter X.env x=pure x:=by intro _;rfl):PE' X B (.ListComp elt [⟨tg,iter,ifs,0⟩] scope pos) (fu nt js wi g tt te) :=
 aV (kE (g:=lowG X.K B g) (tt:=iD X.K B tt) (te:=low X.K B te) O hc hi (fun s0 H0 fp ps=>⟨(b s0 H0 fp ps).tgt,(b s0 H0 fp ps).tst,(b s0 H0 fp ps).elt⟩) hs) fun _ _ _ h=>iN h
end
def zW(l:List PV):List PV:=l.mapIdx fun i x=>.tup [.int (i:Nat),x]
def en1(vs:List PV)(H1:PHp)(R:It'->PHp->Prop):Prop:=match vs with
 | [.tup l]=>R ⟨zW l,fun _=>True⟩ H1
 | _=>False
theorem Fz:en1 [.tup l] H R=R ⟨zW l,fun _=>True⟩ H:=rfl
def uEn(t:TA'):TI':=fun σ H R=>t σ H fun vs H1=>en1 vs H1 R
end U
namespace L2
section
variable {X:Cx}{pins:List (Addr×Obj)}{σ:St}{H:Hp}{s:Shared}{h':Heap}
theorem Inv.turnedN{ch:List Addr}(I:Inv X pins σ H s)(k:∀b o,b∉ch->s.heap.get? b=some o->h'.get? b=some o)(hf:∀b∈ch,fK X pins H b):Inv X pins σ H { s with heap:=h',toks:=t' }:=by
 have nit:∀b u,H b=some u->b∉ch:=fun b u e z=>by rw[(hf b z).1]at e;cases e
 refine I.step (g':=s.gens) (d':=s.drawn) (ch:=ch) (fun b hb=>?_) (fun b o _ _ hc e _=>k b o hc e) (fun b o _ _ hc e _=>⟨o.slots,k b o hc e⟩) (fun _ _ _ _ n=>n)
  (fun b o hc e=>⟨o,k b o hc e⟩) (fun _ _ e=>e) (fun _ _ _ e=>e) (fun b ps e=>⟨#[],by rw[e];simp⟩) (fun m hm=>?_) (fun b u e=>?_) I.bare
 ·have f:=hf b hb;exact⟨f.2.2.2.1,f.2.1,f.2.2.2.2.1,f.2.2.2.2.2⟩
 ·obtain⟨o,es,ep,ho,r⟩:=hm;exact⟨o,es,ep,k _ o (fun z=>(hf _ z).2.1 rfl) ho,r⟩
 ·refine(I.hok b u e).stay (fun c z hc q2=>?_) (fun c q2=>q2) fun c ys q2=>q2;have nn:c∉ch:=by
   rcases hc with z | z
   ·rw[z];exact nit b u e
   ·exact nit c _ z
  exact k c z nn q2
end
def Itz(K:PySem.W.Frag)(a b:Addr):It :=
 ⟨fun i H=>∃xs ys x y,SqL K H a xs/\SqL K H b ys/\xs[i]?=some x/\ys[i]?=some y,fun i H x H'=>∃T u v,H T=none/\x=.ref T/\H'=upd H T (.tup [u,v])/\∀xs ys,SqL K H a xs->SqL K H b ys->xs[i]?=some u/\ys[i]?=some v,
  fun i H=>∃xs ys,SqL K H a xs/\SqL K H b ys/\(xs[i]?=none∨ys[i]?=none)⟩
theorem i0:∀{xs:List V} {its:List Value} {i:Nat},Vals xs its->xs[i]?=none->its[i]?=none:=fun {xs its i} r h=>by
 have hl:=r.length;rw[List.getElem?_eq_none_iff]at h ⊢;omega
theorem rh{K:PySem.W.Frag}(z TI TO i1 i2 a b:Addr)(D:ZipApart z TI TO i1 i2 a b):Turn P w K (.Tuple elts k1 tpos) (Itz K a b) [z,TI,TO,i1,i2] z
  (fun i h=>IsZip h z TI TO .none/\IsPair h TI (.ref i1) (.ref i2)/\(∃x y,IsPair h TO x y)/\h.IsListIter i1 a i/\h.IsListIter i2 b i) where
 mem:=by simp
 obj:=fun i h st c hc=>by
  obtain⟨hz,hI,⟨x,y,hO⟩,⟨o1,e1,c1,d1⟩,⟨o2,e2,c2,d2⟩⟩:=st;simp only[Gh,Hw,or_false]at hc;rcases hc with rfl | rfl | rfl | rfl | rfl
  ·exact⟨_,hz,fun v q=>by cases (show Data.fields _=Data.cell v from q)⟩
  ·exact⟨_,hI,fun v q=>by cases (show Data.seq _ _=Data.cell v from q)⟩
  ·exact⟨_,hO,fun v q=>by cases (show Data.seq _ _=Data.cell v from q)⟩
  ·exact⟨_,e1,fun v q=>by rw[d1]at q;cases q⟩
  ·exact⟨_,e2,fun v q=>by rw[d2]at q;cases q⟩
 keep:=fun i h h' st k=>by
  obtain⟨hz,hI,⟨x,y,hO⟩,h1,h2⟩:=st;exact⟨k z (by simp) _ hz,k TI (by simp) _ hI,⟨x,y,k TO (by simp) _ hO⟩,h1.at fun o e=>k i1 (by simp) o e,h2.at fun o e=>k i2 (by simp) o e⟩
 item:=by
  intro X hP hw hK hc i pins s σ H E I hf st hg;subst hP hw hK;obtain⟨xs,ys,x,y,qx,qy,hx,hy⟩:=hg;obtain⟨its,rv,p,_⟩:=I.list qx;obtain⟨jts,rw',p',_⟩:=I.list qy;obtain⟨u,hu,ru⟩:=rv.get hx;obtain⟨v,hv,rv2⟩:=rw'.get hy;obtain⟨hz,hI,⟨x0,y0,hO⟩,h1,h2⟩:=st;refine wpAny_pyNext_zip_item D hz hI hO h1 h2 p.isList p'.isList (show its.toArray[i]?=some u by simpa using hu) (show jts.toArray[i]?=some v by simpa using hv) fun h' a1 a2 a3 a4 a5 a6 hk=>?_;refine⟨_,rfl,wpAny_letOwnedTupleGo_zip (s:={ s with heap:=h' }) a1 fun h2 hz2 sb=>?_⟩;have sb2:Heap.SameBut z h' h2:=sb;have hzlt:z<s.heap.objs.size:=Gd hz;have hT2:h2.get? s.heap.objs.size=some { cls:=.type "tuple",data:=.seq #[u,v] }:=(sb2.2 _ (Nat.ne_of_gt hzlt)).trans a5;have kk:∀c o,c∉[z,TO,i1,i2]->s.heap.get? c=some o->h2.get? c=some o:=fun c o n q=>by
   simp only[Gh,Hw,or_false,not_or]at n;exact(sb2.2 c n.1).trans (hk c o n.1 n.2.1 n.2.2.1 n.2.2.2 q)
  have hn:H s.heap.objs.size=none:=I.hok.fresh (F9 _);have hf4:∀c∈[z,TO,i1,i2],fK X pins H c:=fun c hc=>hf c (by simp only[Gh,Hw,or_false]at hc ⊢;rcases hc with e | e | e | e<;>simp[e]);have nit:∀c v,H c=some v->c∉[z,TO,i1,i2]:=fun c v q zc=>by rw[(hf4 c zc).1]at q;cases q
  have ltT:∀{c o},s.heap.get? c=some o->c≠s.heap.objs.size:=fun e=>Gv (Gd e);have up:∀{c o},c≠z->h'.get? c=some o->h2.get? c=some o:=fun {c o} n e=>(sb2.2 c n).trans e;refine⟨.ref s.heap.objs.size,upd H s.heap.objs.size (.tup [x,y]),?_,rfl,⟨_,x,y,hn,rfl,rfl,fun zs ws q1 q2=>⟨by rw[I.list_inj q1 qx];exact hx,by rw[I.list_inj q2 qy];exact hy⟩⟩,?_,fun c hc=>?_⟩
  ·show Inv X pins σ _ { s with heap:=h2,toks:=s.toks };refine I.step (h':=h2) (g':=s.gens) (d':=s.drawn) (t':=s.toks) (ch:=[z,TO,i1,i2]) (fun c hc=>?_) (fun c o _ _ hc q _=>kk c o hc q) (fun c o _ _ hc q _=>⟨o.slots,kk c o hc q⟩)
    (fun c o _ q n=>by rw[aR (ltT q)];exact n) (fun c o hc q=>⟨o,kk c o hc q⟩) (fun c ys q=>by rw[aR (bf q hn)];exact q) (fun c o v q=>by rw[aR (bf q hn)];exact q)
    (fun c ps q=>⟨#[],by rw[aR (bf q hn),q];simp⟩) (fun m hm=>?_) (fun c v' q=>?_) I.bare
   ·have f:=hf4 c hc;exact⟨f.2.2.2.1,f.2.1,f.2.2.2.2.1,f.2.2.2.2.2⟩
   ·obtain⟨o,es,ep,q,r⟩:=hm;exact⟨o,es,ep,kk _ o (fun zc=>(hf4 _ zc).2.1 rfl) q,r⟩
   ·by_cases hb:c=s.heap.objs.size
    ·subst hb;rw[bh]at q;cases q;exact⟨by show 2≤sizeLine;rw[Hx];omega,[u,v],.cons ru (.cons rv2 .nil),⟨_,hT2,rfl,_,rfl⟩⟩
    ·rw[aR hb]at q;refine(I.hok c v' q).stay (fun d zd hd q2=>?_) (fun d q2=>by rw[aR (bf q2 hn)];exact q2) fun d ys q2=>by rw[aR (bf q2 hn)];exact q2
     have nn:d∉[z,TO,i1,i2]:=by
      rcases hd with e | e
      ·rw[e];exact nit c v' q
      ·exact nit d _ e
     exact kk d zd nn q2
  ·refine⟨hz2,?_,⟨_,_,up D.TOz a2⟩,a3.at fun o e=>up D.i1z e,a4.at fun o e=>up D.i2z e⟩;exact up D.TIz (hk _ _ D.TIz D.TITO D.TIi1 D.TIi2 hI)
  ·have hc2:c<s.heap.objs.size:=by
    simp only[Gh,Hw,or_false]at hc;rcases hc with rfl | rfl | rfl | rfl | rfl
    ·exact hzlt
    ·exact Gd hI
    ·exact Gd hO
    ·obtain⟨_,e,_⟩:=h1;exact Gd e
    ·obtain⟨_,e,_⟩:=h2;exact Gd e
   rw[aR (Gv hc2)];exact(hf c hc).1
 done:=by
  intro X hP hw hK hc i pins s σ H E I hf st hg;subst hP hw hK;obtain⟨xs,ys,qx,qy,hend⟩:=hg;obtain⟨its,rv,p,_⟩:=I.list qx;obtain⟨jts,rw',p',_⟩:=I.list qy;obtain⟨hz,hI,⟨x0,y0,hO⟩,h1,h2⟩:=st;have hend':its.toArray[i]?=none∨jts.toArray[i]?=none:=by
   rcases hend with e | e
   ·exact .inl (by simpa using i0 rv e)
   ·exact .inr (by simpa using i0 rw' e)
  refine wpAny_pyNext_zip_end (I.ok.hd hc) D hz hI hO h1 h2 p.isList p'.isList hend' fun h' hk=>⟨rfl,I.turnedN (t':=s.toks) (ch:=[z,TO,i1,i2]) (fun c o n q=>?_) fun c hc=>hf c ?_⟩
  ·simp only[Gh,Hw,or_false,not_or]at n;exact hk c o n.1 n.2.1 n.2.2.1 n.2.2.2 q
  ·simp only[Gh,Hw,or_false]at hc ⊢;rcases hc with e | e | e | e<;>simp[e]
 self:=fun _ _ _ _ _ st h=>wpAny_pyIter_zip st.1 h
section
variable {X:Cx}
def Dw(K:PySem.W.Frag)(ta:TA):TI:=fun σ H R=>ta σ H fun vs H1=>∃a b,vs=[.ref a,.ref b]/\(∃xs,SqL K H1 a xs)/\(∃ys,SqL K H1 b ys)/\R (Itz K a b) H1
theorem zu{elts:List Expr}{k1}{tpos:Pos}{c d:Expr}{ta:TA}{p pos:Pos}(hg:Gl X "zip")(hm:X.mg "zip"=none)(ha:PA X [c,d] ta)(hs:starEach [c,d] X.env=[(false,eval c X.env),(false,eval d X.env)]:=by rfl)(hs2:starEach [d] X.env=[(false,eval d X.env)]:=by rfl) :
  PI X (.Tuple elts k1 tpos) (.Call (.Name "zip" p) [c,d] [] pos) (Dw X.K ta):=by
 intro pins s σ H R I h;refine Call_ (dD I hg hm PyProof.Rows.boot_zip (G0 (thn (ha pos pins s σ H _ I h) fun us s1 ⟨vs,H1,I1,r1,q1⟩=>?_) (by rw[hs,hs2]) (by rw[hs2];rfl)));obtain⟨a,b,e,⟨xs,qx⟩,⟨ys,qy⟩,q⟩:=q1;subst e;cases r1 with
 | cons r rr =>
  cases rr with
  | cons r' rr =>
   cases rr;cases r;cases r';obtain⟨its,rv,p,_⟩:=I1.list qx;obtain⟨jts,rw',p',_⟩:=I1.list qy;obtain⟨_,ea,_⟩:=id p.isList;obtain⟨_,eb,_⟩:=id p'.isList;refine call_zip_2 p.isList p'.isList fun h1 hz hI hO l1 l2 hsz kk=>wpAny_pyIter_zip hz ?_;refine⟨_,_,_,_,H1,rfl,I1.kept (t':=s1.toks) kk,rh _ _ _ _ _ a b (PyProof.Rows.zipApart_new (Gd ea) (Gd eb)),⟨hz,hI,⟨_,_,hO⟩,l1,l2⟩,fun c hc=>?_,q⟩;have hb2:s1.heap.objs.size≤c:=by
    simp only[Gh,Hw,or_false]at hc;rcases hc with rfl | rfl | rfl | rfl | rfl
    ·exact Nat.le_add_right _ _
    ·exact Nat.le_add_right _ _
    ·exact Nat.le_add_right _ _
    ·exact F9 _
    ·exact Nat.le_add_right _ _
   exact I1.fpOk hb2 (I1.hok.fresh hb2)
end
end L2
namespace U
open L2
variable {B:Bs}{X:Cx}{pos:Pos}
def bW:List PV->List PV->List PV
 | x::xs,y::ys=>.tup [x,y]::bW xs ys
 | _,_=>[]
theorem d0:∀(l m:List PV),(bW l m).length=min l.length m.length
 | [],_=>by simp[bW]
 | _::_,[]=>by simp[bW]
 | x::l,y::m=>by simp[bW,d0 l m]
theorem fH:∀{l m:List PV} {i:Nat} {z:PV},(bW l m)[i]?=some z->∃x y,l[i]?=some x/\m[i]?=some y/\z=.tup [x,y]
 | [],_,i,z,h=>by simp[bW]at h
 | _::_,[],i,z,h=>by simp[bW]at h
 | x::l,y::m,0,z,h=>⟨x,y,rfl,rfl,by simpa[bW]using h.symm⟩
 | x::l,y::m,i+1,z,h=>by
  have:=fH (l:=l) (m:=m) (i:=i) (z:=z) (by simpa[bW]using h);simpa using this
def zip2(vs:List PV)(H1:PHp)(R:It'->PHp->Prop):Prop:=match vs with
 | [.ref a,.ref b]=>∃l m,H1 a=some (.lst l)/\H1 b=some (.lst m)/\R ⟨bW l m,fun H=>H a=some (.lst l)/\H b=some (.lst m)⟩ H1
 | _=>False
theorem D1:zip2 [.ref a,.ref b] H R=∃l m,H a=some (.lst l)/\H b=some (.lst m)/\R ⟨bW l m,fun H=>H a=some (.lst l)/\H b=some (.lst m)⟩ H:=rfl
def Cf(t:TA'):TI':=fun σ H R=>t σ H fun vs H1=>zip2 vs H1 R
theorem dP{elts:List Expr}{k1}{tpos:Pos}{c d:Expr}{t:TA'}{p:Pos}(hg:Gl X "zip")(hm:X.mg "zip"=none)(ha:PA' X B [c,d] t)(hs:starEach [c,d] X.env=[(false,eval c X.env),(false,eval d X.env)]:=by rfl)(hs2:starEach [d] X.env=[(false,eval d X.env)]:=by rfl) :
  PIH X B (.Tuple elts k1 tpos) (.Call (.Name "zip" p) [c,d] [] pos) (Cf t):=e9 (zu hg hm ha hs hs2) fun σ H R y_=>by
 obtain⟨σ',H',R',s,h,k⟩:=y_;refine⟨σ',H',_,s,h,fun vs' H1' vs H1 h1 r1 s1 e1=>?_⟩;unfold zip2 at h1;split at h1
 ·rename_i a b;simp only[RPs,RP]at r1;obtain⟨u,r,rfl,rfl,u2,r2,rfl,rfl,rfl⟩:=r1;obtain⟨l,m,ha,hb,h1⟩:=h1;obtain⟨us,q1,_⟩:=s1.hp _ _ ha;obtain⟨ws,q2,_⟩:=s1.hp _ _ hb;have lk:∀H2' H2,HR X.K H2' H2->H2' a=some (.lst l)/\H2' b=some (.lst m)->∃us ws,SqL X.K H2 a us/\SqL X.K H2 b ws/\RPs X.K H2 l us/\RPs X.K H2 m ws:=fun H2' H2 hr o=>by
   obtain⟨us,a1,a2⟩:=hr _ _ o.1;obtain⟨ws,b1,b2⟩:=hr _ _ o.2;exact⟨us,ws,SqL.of a1,SqL.of b1,a2,b2⟩
  refine⟨a,b,rfl,⟨us,SqL.of q1⟩,⟨ws,SqL.of q2⟩,k _ H1' _ H1 h1 ⟨fun H2' H2 i k2 hr o hi=>?_,fun H2' H2 i x H3 k2 hr o y=>?_,fun H2' H2 k2 hr o=>?_⟩ s1 e1⟩
  ·obtain⟨us,ws,c1,c2,d1,d2⟩:=lk _ _ hr o;obtain⟨x,y,e1,e2,_⟩:=fH (F2 hi);obtain⟨u,f1,_⟩:=RPs.get _ d1 e1;obtain⟨v,f2,_⟩:=RPs.get _ d2 e2;exact⟨us,ws,u,v,c1,c2,f1,f2⟩
  ·obtain⟨T,u,v,hT,rfl,rfl,hy⟩:=y;obtain⟨us,ws,c1,c2,d1,d2⟩:=lk _ _ hr o;refine⟨hr.hid hT,Ev.hid hT,fun x' hx=>?_⟩;obtain⟨x,y,e1,e2,rfl⟩:=fH hx;obtain⟨u',f1,g1⟩:=RPs.get _ d1 e1;obtain⟨v',f2,g2⟩:=RPs.get _ d2 e2;obtain⟨y1,y2⟩:=hy us ws c1 c2;rw[f1]at y1;cases y1;rw[f2]at y2;cases y2;exact qA hT (RPs.cons _ g1 (RPs.cons _ g2 (RPs.nil _)))
  ·obtain⟨us,ws,c1,c2,d1,d2⟩:=lk _ _ hr o;refine⟨us,ws,c1,c2,?_⟩;show us[(bW l m).length]?=none∨ws[(bW l m).length]?=none;rw[d0,List.getElem?_eq_none_iff,List.getElem?_eq_none_iff,RPs.length _ d1,RPs.length _ d2];omega
 ·exact h1.elim
theorem og{t:TS'}{iter tg:Expr}{body:List Stmt}{wi:TI'}{g:TG'}(hp:PassesOwn (model X.prog X.w) X.A X.env X.xe)(hc:X.calm=true)(hi:PIH X B tg iter wi)(hg:PG' X B tg g)(hb:h9 X B body t)
  (hs:∀x,foldedSetIterable iter X.env x=pure x:=by intro _;rfl):PS' X B (.For tg iter body [] pos) (xf wi g t):=cX (sR hp hc hi hg hb hs) fun D σ H y_=>by
 obtain⟨σ',H',D',s,h,d⟩:=y_;refine⟨σ',H',_,s,h,fun J' H1' J H1 h1 wk s1 e1=>?_⟩;refine⟨fun i m σ2 H2=>i≤J'.items.length/\m=J'.items.length - i/\∃σ2' H2',SR X.K B σ2' H2' σ2 H2/\Ev H1' H1 H2' H2/\dQ J'.ok g t D' (J'.items.drop i) σ2' H2',⟨J'.items.length,HQ _,by simp,σ',H1',s1,Ev.refl _ _,h1⟩,?_⟩;rintro i m σ2 H2 ⟨hi,rfl,σ2',H2',s2,e2,h2⟩;have k2:=e2.kp s1.hp;by_cases hlt:i<J'.items.length
 ·obtain⟨x',hx⟩:∃x',J'.items[i]?=some x':=⟨_,F2 hlt⟩;have hd:J'.items.drop i=x'::J'.items.drop (i+1):=by
   rw[HF hlt];rw[F2 hlt]at hx;cases hx;rfl
  rw[hd]at h2;obtain⟨ok2,h2⟩:=(show J'.ok H2'/\_ from h2);refine .inr ⟨wk.go H2' H2 i k2 s2.hp ok2 hlt,fun σ3 H3=>∃σ3' H3',SR X.K B σ3' H3' σ3 H3/\Ev H1' H1 H3' H3/\dQ J'.ok g t D' (J'.items.drop (i+1)) σ3' H3',?_,fun x H3 y=>?_⟩
  ·rintro σ3 H3 ⟨σ3',H3',s3,e3,h3⟩;exact⟨J'.items.length - (i+1),by omega,hlt,rfl,σ3',H3',s3,e3,h3⟩
  ·obtain⟨hr3,ev3,rx⟩:=wk.yld H2' H2 i x H3 k2 s2.hp ok2 y;have s2b:=s2.kp ev3 hr3;have e2b:=e2.trans ev3;refine⟨x',σ2',H2',_,rx x' hx,s2b,h2,fun σ3' H3' σ3 H3 h3 s3 e3=>⟨σ3',H3',_,s3,h3,?_,?_,?_,?_⟩⟩
   ·intro σ4' H4' σ4 H4 h4 s4 e4;exact⟨σ4',H4',s4,e2b.trans (e3.trans e4),h4⟩
   ·intro v' H4' v H4 h4 r4 s4 e4;exact d.rt _ _ _ _ h4 r4 s4 (e1.trans (e2b.trans (e3.trans e4)))
   ·intro σ4' H4' σ4 H4 h4 s4 e4;exact d.nx _ _ _ _ h4 s4 (e1.trans (e2b.trans (e3.trans e4)))
   ·intro σ4' H4' σ4 H4 h4 s4 e4;exact⟨σ4',H4',s4,e2b.trans (e3.trans e4),h4⟩
 ·have hi':i=J'.items.length:=by omega
  subst hi';rw[List.drop_length]at h2;obtain⟨ok2,h2⟩:=(show J'.ok H2'/\_ from h2);exact .inl ⟨wk.stop H2' H2 k2 s2.hp ok2,d.nx _ _ _ _ h2 s2 (e1.trans e2)⟩
end U
namespace TR
section
variable {prog:Program}{w:World}{A:Around}{E:Value->Shared->Prop}{s:Shared}
theorem iI{n:Nat}(hh:A.handled=none)(hr:IsRange s.heap r a b c t u v)(hs:Builtin.Range.small a b c=true)(hn:Builtin.Range.rangeSize a b c=n)(hl:n≤2 ^ 24)
  (q:∀(h':Heap) tk acc,(∀b o,s.heap.get? b=some o->h'.get? b=some o)->ItemsOf (fun i v=>∃t,v=.int (a+i*c) t) acc n->Q acc.toList { s with heap:=h',toks:=tk }):wpAny (model prog w) A (collect (.ref r)) Q E s:=by
 unfold collect;refine F1 (wpAny_runValue (HE F.entry_proto_collect ?go))
 case go =>
  rw[Hv F.plain_proto_collect _];show wpAny _ A.in1 (newList [] >>= fun l=>again (.builtin "list.__iadd__" ⟨[l,.ref r],[]⟩)) _ _ s;refine F1 (GO (F5 ⟨plainId_quiet F.plain_list_iadd _,HE F.entry_list_iadd ?_⟩));rw[Hv F.plain_list_iadd _];show wpAny _ A.in1 (Builtin.List.listExtendWith (.ref s.heap.objs.size) (.ref r) (.ref s.heap.objs.size)) _ _ _;have hS0:(s.heap.push { cls:=.type "list",data:=.seq ([]:List Value).toArray }).get? s.heap.objs.size=some { cls:=.type "list",data:=.seq #[] }:=Gm _ rfl;refine wpAny_extend_range (R:=fun r s'=>match r with | .ok (.ret v)=>wpAny (model prog w) A (match v with | .ref a=>(do match (← load a).data with | .seq xs _=>pure xs.toList | _=>unsupported "internal:collect") | _=>unsupported "internal:collect") Q E s' | .ok _=>False | .error e=>E e s') (s:={ s with heap:=s.heap.push { cls:=.type "list",data:=.seq ([]:List Value).toArray } }) hh (F6 _ hr) hs hn hl _ _ 0 hS0 fun h' tk acc c' hk hS hacc=>?_;show wpAny _ A (load s.heap.objs.size >>= _) _ _ _;exact F1 (wpAny_load hS (F5 (q h' tk acc (fun b o e=>hk b o (Gv (Gd e)) (F6 _ e)) hacc)))
end
open AutoSeq1 (wpAny_loadPart')
theorem i7{r:Addr}{a b c:Int}{t u v:Tok}{n:Nat}(hs:Builtin.Range.small a b c=true)(hn:Builtin.Range.rangeSize a b c=n)(hl:n≤2 ^ 24) :
  Meets (Builtin.«tuple.__new__» ⟨[.type "tuple",.ref r],[]⟩)
   (fun A R s=>A.handled=none/\IsRange s.heap r a b c t u v/\∀(h':Heap) tk acc,(∀b o,s.heap.get? b=some o->h'.get? b=some o)->ItemsOf (fun i v=>∃t,v=.int (a+i*c) t) acc n ->
    R (.ok (.ret (.ref h'.objs.size))) { s with heap:=h'.push { cls:=.type "tuple",data:=.seq acc },toks:=tk }) :=
 .of_wp fun prog w A R s h=>by
  obtain⟨hh,hr,h⟩:=h;have hsub:=sub_tuple_self;have hinit:=init_tuple_lookup;have hmh:=madeHere_tuple;have hT:s.TypeIs (.ref r) "range":=⟨_,hr,rfl⟩;have hh1:A.in1.handled=none:=hh
  wp_walk using wpAny_typeOf hT,iI hh1 hr hs hn hl
  intro h' tk acc hk hacc;show wpAny _ _ (Builtin.Tuple.tupleExact acc.toList.toArray >>= fun v=>ret v) _ _ _;unfold Builtin.Tuple.tupleExact;have e:acc.toList.toArray=acc:=by simp
  rw[e];refine F1 (GO (F5 ⟨_,rfl,h h' tk acc hk hacc⟩) (show acc.size≤sizeLine by rw[hacc.1,Hx];omega))
section
variable {prog:Program}{w:World}{A:Around}{E:Value->Shared->Prop}{s:Shared}
end
end TR
namespace L2
variable {X:Cx}{a:Expr}{ta:TE}{p p2 pos pos2:Pos}
end L2
namespace U
open L2
variable {B:Bs}{X:Cx}{a:Expr}{ta:TE'}{p p2 pos pos2:Pos}
def Cu(x:PV)(H:PHp)(Q:VK'):Prop:=match x with
 | .int i=>0≤i/\i<1000/\Q (.tup (cH 0 i.toNat)) H
 | _=>False
theorem Ei:Cu (.int i) H Q=(0≤i/\i<1000/\Q (.tup (cH 0 i.toNat)) H):=rfl
def BA(ta:TE'):TE':=fun σ H Q=>ta σ H fun x H1=>Cu x H1 Q
end U
namespace RT
theorem mX:Manifest.owners.lookup (String.ofList ['d','e','s','r','e','v','e','r'].reverse)=some Manifest.sig_reversed:=by kernel_rfl
theorem hU:Slot "reversed" "__next__" "reversed.__next__" :=
 .of (owner:="reversed") (n:="__next__") (by rw[typeLookup_type,Ic];kernel_rfl) (by decide +kernel) (by decide +kernel) (by decide +kernel) (by first | exact .inl (by decide +kernel) | exact .inr (by decide +kernel)) (by rw[Iu];kernel_rfl)
theorem nv:entryFor table "reversed.__next__"=some Builtin.«reversed.__next__»:=entryFor_of_tree (by kernel_rfl)
theorem qf(a:Value):argsOk "reversed.__next__" ⟨[a],[]⟩:=by
 unfold argsOk;rw[signature?_of (id:="reversed.__next__") (n:=['_','_','t','x','e','n','_','_']) (o:=['d','e','s','r','e','v','e','r']) (by kernel_rfl) mX]
 kernel_rfl
theorem tF:Slot "reversed" "__iter__" "reversed.__iter__" :=
 .of (owner:="reversed") (n:="__iter__") (by rw[typeLookup_type,Ic];kernel_rfl) (by decide +kernel) (by decide +kernel) (by decide +kernel) (by first | exact .inl (by decide +kernel) | exact .inr (by decide +kernel)) (by rw[Iu];kernel_rfl)
theorem zq(a:Value):argsOk "reversed.__iter__" ⟨[a],[]⟩:=by
 unfold argsOk;rw[signature?_of (id:="reversed.__iter__") (n:=['_','_','r','e','t','i','_','_']) (o:=['d','e','s','r','e','v','e','r']) (by kernel_rfl) mX]
 kernel_rfl
theorem yO:typeLookup (.type "tuple") "__reversed__"=pure none:=by rw[typeLookup_type,Ic];kernel_rfl
theorem ue:entryFor table "reversed.__iter__"=some Builtin.«dict_keyiterator.__iter__» :=
 entryFor_alias (id':="dict_keyiterator.__iter__") (by kernel_rfl) (by first | rfl | decide +kernel |(unfold String.splitOn;simp +decide [String.splitOnAux])) (by decide +kernel) (by kernel_rfl)
theorem pE:Slot "reversed" "__init__" "object.__init__" :=
 .of (owner:="object") (n:="__init__") (by rw[typeLookup_type,Ic];kernel_rfl) (by decide +kernel) (by decide +kernel) (by decide +kernel) (by first | exact .inl (by decide +kernel) | exact .inr (by decide +kernel)) (by rw[Iu];kernel_rfl)
theorem called:TypeCalled "reversed" "reversed.__new__" "object.__init__" :=
 ⟨by decide +kernel,by decide +kernel,⟨_,_,F.mro_reversed⟩,F.made_reversed,by decide +kernel,by rw[Iu];kernel_rfl,pE⟩
def rv(t:Addr)(i:Int):Obj:={ cls:=.type "reversed",data:=.fields #[.ref t,rawInt i] }
theorem uO:isSubtype (.type "tuple") (.type "dict")=pure false:=by rw[Iu];kernel_rfl
theorem i7(t:Addr)(its:Array Value):Meets (Builtin.«reversed.__new__» ⟨[.type "reversed",.ref t],[]⟩) (fun A R s=>IsTup s.heap t its/\(its.size:Int)<2 ^ 63/\R (.ok (.ret (.ref s.heap.objs.size))) { s with heap:=s.heap.push (rv t ((its.size:Int) - 1)),toks:=s.toks+1+1 }) :=
 .of_wp fun prog w A R s h=>by
  obtain⟨ht,hz,h⟩:=h;unfold Builtin.«reversed.__new__»;refine F1 (wpAny_of_eq (newClass_reversed _) ?_)
  try dsimp only
  refine F1 (wpAny_of_eq (a:=()) (by first | rfl | kernel_rfl) ?_);refine F1 (wpAny_of_eq (a:=()) (by first | rfl | kernel_rfl) ?_)
  try dsimp only
  refine F1 (Iz ht.typeIs yO ?_)
  try dsimp only
  refine F1 ?_
  wp_delta
  refine F1 (wpAny_isInstance (T:="tuple") (b:=false) ht.typeIs uO ?_);rw[Gp (by decide)];refine F1 (Iz ht.typeIs slot_tuple_getitem.lookup ?_);dsimp only;rw[Gq (by decide +kernel)];refine F5 ?_;rw[Gp (by decide)];refine F1 (len_tuple ht hz ?_);refine F1 (m:=asInt? _) (F5 ?_);dsimp only;refine F1 ?_;unfold Builtin.SmallTypes.newRecord;exact GO (F5 ⟨_,rfl,h⟩)
def gy(h:Heap)(a t:Addr)(i:Int):Prop:=∃o,h.get? a=some o/\o.cls=.type "reversed"/\o.data=.fields #[.ref t,rawInt i]
theorem gy.at(x:gy h a t i)(e:∀o,h.get? a=some o->h'.get? a=some o):gy h' a t i:=let ⟨o,ho,r⟩:=x;⟨o,e _ ho,r⟩
section
variable {prog:Program}{w:World}{A:Around}{E:Value->Shared->Prop}{s:Shared}{it t:Addr}{its:Array Value}
theorem gy.ty(x:gy s.heap it t i):s.TypeIs (.ref it) "reversed":=let ⟨o,ho,hc,_⟩:=x;⟨o,ho,hc⟩
theorem rL(ht:IsTup s.heap t its)(hz:(its.size:Int)<2 ^ 63)(h:Q (.ref s.heap.objs.size) { s with heap:=s.heap.push (rv t ((its.size:Int) - 1)),toks:=s.toks+1+1 }) :
  wpAny (model prog w) A (call (.type "reversed") [.ref t]) Q E s :=
 callType_new called (by decide) (F.typeCall_reversed_1 _) (F.newCall_reversed_1 _) (fun obj=>F.args_object_init_2 obj _) F.entry_reversed_new (i7 t its) ⟨ht,hz,⟨⟨_,Gm _ rfl,rfl⟩,h⟩⟩
theorem yz(h:i<n):seqIndex? ((i:Nat):Int) n=some i:=by
 unfold seqIndex?;simp only[show ¬(((i:Nat):Int)<0) by omega,if_false];rw[Gq (by simp;omega),Ht]
theorem next_item{i:Nat}{x:Value}{Q:Option Value->Shared->Prop}(hit:gy s.heap it t ((i:Nat):Int))(ht:IsTup s.heap t its)(hx:its[i]?=some x)(hz:its.size<2 ^ 62)
  (hQ:∀h' tk,gy h' it t (((i:Nat):Int) - 1)->Heap.SameBut it s.heap h'->Q (some x) { s with heap:=h',toks:=tk }):wpAny (model prog w) A (pyNext (.ref it)) Q E s:=by
 obtain⟨o,ho,hc,hd⟩:=id hit;have hi:i<its.size:=by
  rcases Nat.lt_or_ge i its.size with q | q
  ·exact q
  ·rw[Im q]at hx;cases hx
 unfold pyNext;refine F1 (wpAny_attempt (HS (name:=Str.ofString "__next__") hit.ty hU (GV hU hit.ty nv ?_ (qf _))));unfold Builtin.«reversed.__next__»;refine F1 (wpAny_of_eq (a:=(Value.ref it,[])) rfl ?_);dsimp only;refine F1 (wpAny_field ho hd (x:=.ref t) rfl ?_);refine F1 (wpAny_field ho hd (x:=rawInt ((i:Nat):Int)) rfl ?_);show wpAny _ _ (if ((i:Nat):Int)<0 then _ else _) _ _ s;rw[Gp (by omega)];refine F1 (Iz ht.typeIs slot_tuple_getitem.lookup ?_);rw[Gp (by decide)];refine F1 (wpAny_mkInt ?_);refine F1 (wpAny_attempt (getItem_tuple (j:=i) (x:=x) (s:={ s with toks:=s.toks+1 }) ht (by omega) (by omega) (yz hi) hx ?_));dsimp only;refine F1 (wpAny_field ho hd (x:=rawInt ((i:Nat):Int)) rfl ?_);refine F1 (wpAny_setField (s:={ s with toks:=s.toks+1 }) ho hd (by simp) ?_);refine F5 ⟨x,rfl,F5 (hQ _ _ ?_ (G8 ..))⟩;refine⟨_,G6 _ ho (Obj.isFreed_of_fields (Obj.data_mapFields hd _)),(Obj.cls_mapFields ..).trans hc,?_⟩;rw[Obj.data_mapFields hd];simp
theorem next_end{Q:Option Value->Shared->Prop}(hA:A.handled=none)(hit:gy s.heap it t (-1))(hQ:∀h',Heap.ExtBut it s.heap h'->Q none { s with heap:=h' }):wpAny (model prog w) A (pyNext (.ref it)) Q E s:=by
 obtain⟨o,ho,hc,hd⟩:=id hit;unfold pyNext;refine F1 (wpAny_attempt (HS (name:=Str.ofString "__next__") hit.ty hU (GV hU hit.ty nv ?_ (qf _))));unfold Builtin.«reversed.__next__»;refine F1 (wpAny_of_eq (a:=(Value.ref it,[])) rfl ?_);dsimp only;refine F1 (wpAny_field ho hd (x:=.ref t) rfl ?_);refine F1 (wpAny_field ho hd (x:=rawInt (-1)) rfl ?_);show wpAny _ _ (if (-1:Int)<0 then _ else _) _ _ s;rw[Gq (by decide)];refine F1 (wpAny_rule ?_);refine F1 ?_
 wp_delta
 refine F1 (wpAny_setField ho hd (by simp) ?_);have d2:=Obj.data_mapFields hd fun vs=>vs.set! 1 (rawInt (-1));have o2:=G6 _ ho (Obj.isFreed_of_fields d2);refine wpAny_setField (s:={ s with heap:=s.heap.update it _ }) o2 d2 (by simp) ?_;show wpAny _ _ (Builtin.SmallTypes.stopIteration >>= _) _ _ _;refine F1 ?_;show wpAny _ _ (newExc (Value.type "StopIteration") [] >>= _) _ _ _;refine F1 (?_);simp only[newTuple,newExc];refine F1 (GO (?_) (by size_fits));refine F1 (m:=firstArgMember _ _) (wpAny_of_eq (a:=Value.none) (by first | rfl |(simp only[firstArgMember];rfl)) (?_));refine GO (?_) (by size_fits);simp only[raiseNew,bind_assoc];refine F1 (wpAny_handled (?_))
 first | rw[show A.in1.handled=none from hA] | rw[hA]
 refine F1 (F5 (wpAny_throw (?_)));refine F1 (wpAny_isInstance (T:="StopIteration") (b:=true) ⟨_,Gm _ rfl,rfl⟩ isSubtype_stop ?_);exact F5 (hQ _ ((((G8 ..).trans (G8 ..)).extBut.push _).push _))
theorem gc(hit:gy s.heap it t i)(h:Q (.ref it) s):wpAny (model prog w) A (pyIter (.ref it)) Q E s:=by
 refine wpAny_pyIter_slot hit.ty tF (GV tF hit.ty ue ?_ (zq _));show wpAny _ _ (ret (Value.ref it)) _ _ s;exact F5 ⟨_,rfl,"reversed",_,hit.ty,hU.lookup,h⟩
end
theorem walks(hA:A.handled=none)(it t:Addr)(ne:t≠it)(its:Array Value)(hz:its.size<2 ^ 62) :
  Walks prog w A it [it,t] [it] its.size (fun i v=>its[its.size - 1 - i]?=some v) (fun i h=>i≤its.size/\gy h it t ((its.size:Int) - 1 - (i:Int))/\h.IsTuple t its) where
 sub:=fun b hb=>by simp at hb;simp[hb]
 frame:=fun _ _ _ x hk=>⟨x.1,x.2.1.at fun o e=>hk it (by simp) o e,x.2.2.at fun o e=>hk t (by simp) o e⟩
 item:=fun i s Q E hi x hQ=>by
  have e:(its.size:Int) - 1 - (i:Int)=((its.size - 1 - i:Nat):Int):=by omega
  have hit:=x.2.1;rw[e]at hit;have hx:its[its.size - 1 - i]?=some (its[its.size - 1 - i]'(by omega)):=Gu (by omega);refine next_item hit x.2.2 hx hz fun h1 tk hit1 sb=>?_;have e2:((its.size - 1 - i:Nat):Int) - 1=(its.size:Int) - 1 - ((i+1:Nat):Int):=by omega
  rw[e2]at hit1;exact hQ _ h1 tk hx ⟨hi,hit1,x.2.2.at fun o q=>(sb.2 t ne).trans q⟩ fun b o hb q=>sb.extBut b o (fun z=>hb (by simp[z])) q
 done:=fun s Q E x hQ=>by
  have hit:=x.2.1;rw[show(its.size:Int) - 1 - (its.size:Int)=-1 by omega]at hit;exact next_end hA hit fun h1 eb=>hQ h1 s.toks fun b o hb q=>eb b o (fun z=>hb (by simp[z])) q
 self:=fun _ _ _ _ x hQ=>gc x.2.1 hQ
section
variable {prog:Program}{w:World}{A:Around}{E:Value->Shared->Prop}{s:Shared}{it t:Addr}{its:Array Value}
end
end RT
namespace RT
end RT
namespace L2
variable {X:Cx}{a:Expr}{ta:TE}{p p2 pos pos2:Pos}
theorem iu{α β:Type}{R:α->β->Prop}{l l2:List α}{m m2:List β}(h:Paired R l m)(h2:Paired R l2 m2):Paired R (l++l2) (m++m2):=by
 induction h with
 | nil=>exact h2
 | cons a _ ih=>exact .cons a ih
end L2
namespace U
open L2
variable {B:Bs}{X:Cx}{a:Expr}{ta:TE'}{p p2 pos pos2:Pos}
theorem sW:bootBuiltins "reversed"=some (.type "reversed"):=by decide +kernel
end U
namespace L2
def Itv(K:PySem.W.Frag)(a:Addr)(n:Nat):It :=
 ⟨fun i H=>∃xs x,SqT K H a xs/\xs.length=n/\n<2 ^ 20/\i<n/\xs[n - 1 - i]?=some x,fun i H x H'=>H'=H/\∀xs,SqT K H a xs->xs[n - 1 - i]?=some x,fun i H=>i=n⟩
theorem uo{K:PySem.W.Frag}(a it:Addr)(n:Nat):Turn P w K tg (Itv K a n) [it] it (fun i h=>RT.gy h it a ((n:Int) - 1 - (i:Nat))) where
 mem:=by simp
 obj:=fun i h st b hb=>by
  have e:b=it:=by simpa using hb
  subst e;obtain⟨o,e,c,d⟩:=st;exact⟨o,e,fun v z=>by rw[d]at z;cases z⟩
 keep:=fun i h h' st k=>st.at fun o e=>k it (by simp) o e
 item:=by
  intro X hP hw hK hc i pins s σ H E I hf st hg;subst hP hw hK;obtain⟨xs,x,hq,hn,hn2,hi,hx⟩:=hg;obtain⟨its,rv,p,hz⟩:=I.tuple hq;obtain⟨u,hu,ru⟩:=rv.get hx;obtain⟨f0,f1,f2,f3,f4,f5⟩:=hf it (by simp);have hl:=rv.length;have hsz:its.toArray.size<2 ^ 62:=by
   show its.length<2 ^ 62;have:(2:Nat) ^ 20≤2 ^ 62:=Nat.pow_le_pow_right (by decide) (by decide);omega
  have ei:(n:Int) - 1 - (i:Nat)=((n - 1 - i:Nat):Int):=by omega
  rw[ei]at st;refine RT.next_item st (show IsTup s.heap a its.toArray from p) (x:=u) (by simpa using hu) hsz fun h' tk st' sb=>?_;have I1:Inv X pins σ H { s with heap:=h',toks:=tk }:=I.turned (t':=tk) (fun b o hb e=>(sb.2 b hb).trans e) f0 f1 f3 f4 f5;obtain⟨o,e,c,d⟩:=id st';refine⟨u,rfl,ja (s:={ s with heap:=h',toks:=tk }) e c d (by decide) ⟨x,H,I1,ru,⟨rfl,fun ys hy=>by rw[I.tuple_inj hy hq];exact hx⟩,?_,fun b hb=>(hf b hb).1⟩⟩;have e2:(n:Int) - 1 - ((i+1:Nat):Int)=((n - 1 - i:Nat):Int) - 1:=by omega
  rw[e2];exact st'
 done:=by
  intro X hP hw hK hc i pins s σ H E I hf st hg;subst hP hw hK;have hg:i=n:=hg;subst hg;obtain⟨f0,f1,f2,f3,f4,f5⟩:=hf it (by simp);rw[show(i:Int) - 1 - (i:Nat)=-1 by omega]at st;exact RT.next_end (I.ok.hd hc) st fun h' eb=>⟨rfl,I.turned (t':=s.toks) (fun b o hb e=>eb b o hb e) f0 f1 f3 f4 f5⟩
 self:=fun _ _ _ _ _ st h=>RT.gc st h
section
variable {X:Cx}
def iRv(K:PySem.W.Frag)(ta:TA):TI:=fun σ H R=>ta σ H fun vs H1=>∃a us,vs=[.ref a]/\SqT K H1 a us/\us.length≤1000/\R (Itv K a us.length) H1
theorem CN{tg:Expr}{c:Expr}{ta:TA}{p pos:Pos}(hg:Gl X "reversed")(hm:X.mg "reversed"=none)(b2:bootBuiltins "reversed"=some (.type "reversed"))(ha:PA X [c] ta)(hs:starEach [c] X.env=[(false,eval c X.env)]:=by rfl) :
  PI X tg (.Call (.Name "reversed" p) [c] [] pos) (iRv X.K ta):=by
 intro pins s σ H R I h;refine Call_ (dD I hg hm b2 (G0 (thn (ha pos pins s σ H _ I h) fun us s1 ⟨vs,H1,I1,r1,q1⟩=>?_) hs rfl));obtain⟨a,xs,e,hq,hl,q⟩:=q1;subst e;cases r1 with
 | cons r rr =>
  cases rr;cases r;obtain⟨its,rv,p,hz⟩:=I1.tuple hq;have hlen:=rv.length;have hs:its.toArray.size=xs.length:=by simp;omega
  refine RT.rL p (by rw[hs];omega) ?_;have st:RT.gy (s1.heap.push (RT.rv a ((its.toArray.size:Int) - 1))) s1.heap.objs.size a ((xs.length:Int) - 1 - ((0:Nat):Int)):=by
   rw[hs,show(xs.length:Int) - 1 - ((0:Nat):Int)=(xs.length:Int) - 1 by omega];exact⟨_,Gm _ rfl,rfl,rfl⟩
  refine RT.gc (s:={ s1 with heap:=s1.heap.push (RT.rv a ((its.toArray.size:Int) - 1)),toks:=s1.toks+1+1 }) st ?_;refine⟨s1.heap.objs.size,[s1.heap.objs.size],_,_,H1,rfl,I1.kept (t':=s1.toks+1+1) fun b o e=>F6 _ e,uo a _ xs.length,st,fun b hb=>?_,q⟩;have e:b=s1.heap.objs.size:=by simpa using hb
  subst e;exact I1.fpOk (F9 _) (I1.hok.fresh (F9 _))
end
end L2
namespace U
open L2
variable {B:Bs}{X:Cx}{pos:Pos}
def rv1(vs:List PV)(H1:PHp)(R:It'->PHp->Prop):Prop:=match vs with
 | [.tup l]=>l.length≤1000/\R ⟨l.reverse,fun _=>True⟩ H1
 | _=>False
theorem AG:rv1 [.tup l] H R=(l.length≤1000/\R ⟨l.reverse,fun _=>True⟩ H):=rfl
def Cb(t:TA'):TI':=fun σ H R=>t σ H fun vs H1=>rv1 vs H1 R
theorem Bo{tg:Expr}{c:Expr}{t:TA'}{p:Pos}(hg:Gl X "reversed")(hm:X.mg "reversed"=none)(ha:PA' X B [c] t)(hs:starEach [c] X.env=[(false,eval c X.env)]:=by rfl) :
  PIH X B tg (.Call (.Name "reversed" p) [c] [] pos) (Cb t):=e9 (CN hg hm sW ha hs) fun σ H R y_=>by
 obtain⟨σ',H',R',s,h,k⟩:=y_;refine⟨σ',H',_,s,h,fun vs' H1' vs H1 h1 r1 s1 e1=>?_⟩;unfold rv1 at h1;split at h1
 ·rename_i l;simp only[RPs,RP]at r1;obtain⟨u,r,rfl,⟨a,us,rfl,q,rl⟩,rfl⟩:=r1;obtain⟨hl,h1⟩:=h1;have hlen:=RPs.length _ rl;refine⟨a,us,rfl,q,by omega,k _ H1' _ H1 h1 ⟨fun H2' H2 i k2 hr _ hi=>?_,fun H2' H2 i x H3 k2 hr _ y=>?_,fun H2' H2 k2 hr _=>?_⟩ s1 e1⟩
  ·have hi':i<l.length:=by simpa using hi
   have hj:us.length - 1 - i<us.length:=by omega
   exact⟨us,_,k2.sqT q,rfl,by omega,by omega,F2 hj⟩
  ·obtain⟨rfl,y⟩:=y;refine⟨hr,Ev.refl _ _,fun x' hx=>?_⟩;have hi:i<l.length:=by
    have:=(Gj.mp hx).1;simpa using this
   rw[List.getElem?_reverse hi]at hx;obtain⟨u,e,ru⟩:=RPs.get _ (RPs.kp _ k2 rl) hx;have ey:=y us (k2.sqT q);rw[hlen,e]at ey;cases ey;exact ru
  ·show l.reverse.length=us.length;rw[List.length_reverse,hlen]
 ·exact h1.elim
end U
namespace L2
variable {X:Cx}
def sT(l:List Nat):Str:=⟨l.toArray⟩
end L2
namespace U
open L2
variable {B:Bs}{X:Cx}{a b o e:Expr}{es:List Expr}{ta tb to:TE'}{t:TA'}{pos apos cpos:Pos}{name:Str}
def FY:R2':=fun x y H Q=>match x,y with
 | .str z,.int i=>z.length≤sizeLine/\∃c,atI z.cps.toList i=some c/\Q (.str ⟨#[c]⟩) H
 | _,_=>False
def FX:PV->List PV->PHp->VK'->Prop:=fun x vs H Q=>match x,vs with
 | .str z,[.ref a]=>∃ys:List Str,H a=some (.lst (ys.map PV.str))/\z.length≤16/\(ys.map (·.length)).sum+ys.length≤1048576/\Q (.str (Txt.join z ys)) H
 | _,_=>False
def x5(o i v:PV)(H:PHp)(Q:PHp->Prop):Prop:=match o,i with
 | .ref a,.int k=>∃l j,H a=some (.lst l)/\ixN l.length k=some j/\Q (put H a (.lst (l.set j v)))
 | _,_=>False
theorem FP{a:Addr}:x5 (.ref a) (.int k) v H Q=∃l j,H a=some (.lst l)/\ixN l.length k=some j/\Q (put H a (.lst (l.set j v))):=rfl
def Ai(to ti:TE'):TG':=fun v σ H Q=>to σ H fun o H1=>ti σ H1 fun i H2=>x5 o i v H2 fun H3=>Q σ H3
theorem qz{i:Expr}{ti:TE'}(ho:PE' X B o to)(hi:PE' X B i ti) (ha:∀v,assign (.Subscript o i pos) X.env v=(do
   let ov←holding [v] (eval o X.env)
   let iv←holding [v,ov] (eval i X.env)
   standAt pos
   holding [v,ov,iv] (setItem ov iv v)
   release [v,ov,iv] []):=by intro _;rfl):PG' X B (.Subscript o i pos) (Ai to ti):=ie (pN ho hi set_list ha) fun v σ H Q h=>by
 obtain⟨v',σ',H',Q',rv,s,h,k⟩:=h;refine⟨σ',H',_,s,h,fun o' H1' o H1 h1 ro s1 e1=>⟨σ',H1',_,s1,h1,fun i' H2' i H2 h2 ri s2 e2=>?_⟩⟩;unfold x5 at h2;split at h2
 ·rename_i a n;obtain⟨l,j,ea,ej,q⟩:=h2;have ro2:=RP.kp X.K (e2.kp s1.hp) ro;have rv2:=RP.kp X.K ((e1.trans e2).kp s.hp) rv;simp only[RP]at ro2 ri;obtain⟨us,eg,r⟩:=s2.hp _ _ ea;have new:OAt X.K (upd H2 a (.lst (us.set j v))) a (.lst (l.set j v')):=⟨_,bh,RPs.kp X.K (s2.hp.kpw ea) (RPs.set X.K rv2 j r)⟩;exact⟨a,us,n,j,ro2,ri,eg,by rw[RPs.length _ r];exact ej,k _ _ _ _ q (s2.wr ea new) ((e1.trans e2).trans (Ev.wr ea))⟩
 ·exact h2.elim
end U
namespace L2
variable {X:Cx}
section
variable {e e3:Expr}{te:TE}{ts:TO}{pos p2:Pos}
end
end L2
namespace U
open L2
variable {B:Bs}{X:Cx}{a b o e e3:Expr}{es:List Expr}{ta tb to:TE'}{t:TA'}{pos p2 apos cpos:Pos}{name:Str}
def Fq:PV->List PV->PHp->VK'->Prop:=fun x vs H Q=>match x,vs with
 | .str z,[.str y]=>(y.length==0)=false/\z.length+2≤sizeLine/\∀r,H r=none->Q (.ref r) (put H r (.lst ((Txt.split z y).map PV.str)))
 | _,_=>False
def DQ:List PV->PHp->VK'->Prop:=di fun x H Q=>match x with
 | .int i=>i.natAbs.log2<1920/\Q (.str (toString i)) H
 | _=>False
def xQ:List PV->PHp->VK'->Prop:=fun xs H Q=>match xs with
 | [.int i,.int j]=>Q (.int (if j>i then j else i)) H
 | _=>False
theorem DE:xQ [.int i,.int j] H Q=Q (.int (if j>i then j else i)) H:=rfl
theorem xS{K:PySem.W.Frag}:VC K B xQ (fun xs H Q=>∃i j,xs=[.int i,.int j]/\Q (.int (if j>i then j else i)) H):=by
 intro σ' σ H' H xs' xs Q' Q s r h k;unfold xQ at h;split at h
 ·rename_i i j;simp only[RPs,RP]at r;obtain⟨_,_,rfl,rfl,_,_,rfl,rfl,rfl⟩:=r;exact⟨i,j,rfl,k _ _ _ _ h (by simp[RP]) s (Ev.refl _ _)⟩
 ·exact h.elim
end U
namespace L2
section
variable {prog:Program}{w:World}{A:Around}{E:Value->Shared->Prop}{s:Shared}
theorem eU{lo hi:Option Int}(tA:IsTup s.heap t items)(sA:s.heap.IsSliceOf sl vl vu .none)(pA:IsPart vl lo)(pB:IsPart vu hi)
  (hw:HT.sIx items.size 0 lo=0/\HT.sIx items.size items.size hi=items.size) (h:Q (.ref t) s):wpAny (model prog w) A (getItem (.ref t) (.ref sl)) Q E s:=by
 obtain⟨os,hos,hcs,hds⟩:=id sA;have tB:s.TypeIs (.ref sl) "slice":=⟨os,hos,hcs⟩;unfold getItem
 try with_reducible refine Hs ?_
 first | refine F1 (F5 ?_) | skip
 refine F1 (wpAny_sequenceKey tA.typeIs (by decide) ?_);refine F1 (HS (name:=Str.ofString "__getitem__") tA.typeIs PyProof.Rows.slot_tuple_getitem
  (GV PyProof.Rows.slot_tuple_getitem tA.typeIs entry_tuple_getitem ?_ (args_tuple_getitem _ _)))
 show wpAny _ _ (Builtin.Tuple.tupleItemsOf (.ref t) >>= _) _ _ s;refine F1 (tupleItemsOf_ tA ?_);refine F1 (wpAny_typeOf tB ?_);rw[Gq (by decide)];refine F1 (HT.dt sA pA pB ?_);have hyes:(((HT.sIx items.size 0 lo:Nat):Int)==0&&(1:Int)==1&&(HT.sIx items.size items.size hi - HT.sIx items.size 0 lo)==items.size)=true:=by
  rw[hw.1,hw.2];simp
 show wpAny _ _ (if (((HT.sIx items.size 0 lo:Nat):Int)==0&&(1:Int)==1&&(HT.sIx items.size items.size hi - HT.sIx items.size 0 lo)==items.size)=true then _ else _) _ _ s;rw[Gq hyes];unfold Builtin.Tuple.tupleIsExact;have hT:=tA.typeIs
 wp_walk
 exact⟨_,rfl,F5 h⟩
end
variable {X:Cx}
def Fm(K:PySem.W.Frag):V->Option Int->Option Int->Hp->VK->Prop:=fun x lo hi H Q=>∃a xs,x=.ref a/\SqT K H a xs /\
 ((HT.sIx xs.length 0 lo=0/\HT.sIx xs.length xs.length hi=xs.length)->Q (.ref a) H)/\(¬(HT.sIx xs.length 0 lo=0/\HT.sIx xs.length xs.length hi=xs.length)->∀p,H p=none->Q (.ref p) (upd H p (.tup (jy xs lo hi))))
theorem ug:SlR X (Fm X.K):=by
 intro pins s σ H x v vl vu lo hi sl Q I rx hs pl pu h;obtain⟨a,xs,rfl,hx,q1,q2⟩:=h;by_cases hw:HT.sIx xs.length 0 lo=0/\HT.sIx xs.length xs.length hi=xs.length
 ·cases rx;obtain⟨its,r,ht,hz⟩:=I.tuple hx;have hlen:its.toArray.size=xs.length:=by rw[Gi];exact r.length.symm
  refine⟨"tuple",_,PyProof.Rows.slot_tuple_getitem.lookup,ht.typeIs,?_⟩;exact eU ht hs pl pu (by rw[hlen];exact hw) ⟨.ref a,H,I,rfl,q1 hw⟩
 ·exact sE pins s σ H _ v vl vu lo hi sl Q I rx hs pl pu ⟨a,xs,rfl,hx,hw,q2 hw⟩
end L2
namespace U
open L2
variable {B:Bs}{X:Cx}{e:Expr}{ta:TE'}{pos:Pos}
def qS(x:PV)(lo hi:Option Int)(H3:PHp)(Q:VK'):Prop:=match x with
 | .tup l=>Q (.tup (b9 l lo hi)) H3
 | _=>False
theorem Fn{lo hi:Option Int}:qS (.tup l) lo hi H Q=Q (.tup (b9 l lo hi)) H:=rfl
def nZ(ta:TE')(tl th:TO'):TE':=fun σ H Q=>ta σ H fun x H1=>tl σ H1 fun lo H2=>th σ H2 fun hi H3=>qS x lo hi H3 Q
theorem ji{lo hi:Option Expr}(he:PE' X B e ta)(hl:PO' X B lo tl)(hu:PO' X B hi th):PE' X B (.Subscript e (.Slice lo hi none p2) pos) (nZ ta tl th) :=
 aV (kX ug he hl hu) fun σ H Q y_=>by
 obtain⟨σ',H',Q',s,h,k⟩:=y_;refine⟨σ',H',_,s,h,fun x H1' v H1 h1 r1 s1 e1=>⟨σ',H1',_,s1,h1,fun l H2' H2 h2 s2 e2=>⟨σ',H2',_,s2,h2,fun u H3' H3 h3 s3 e3=>?_⟩⟩⟩;have r3:=RP.kp _ (e3.kp s2.hp) (RP.kp _ (e2.kp s1.hp) r1);have e123:=e1.trans (e2.trans e3);cases x with
 | tup xs =>
  have r3':=r3;simp only[RP]at r3;obtain⟨a,us,e,q,r⟩:=r3;refine⟨a,us,e,q,fun hw=>?_,fun _ p n=>?_⟩
  ·have ex:b9 xs l u=xs:=by
    unfold b9;rw[RPs.length _ r]at hw;rw[hw.1,hw.2,List.drop_zero,Nat.sub_zero,Ho]
   have h4:Q' (.tup (b9 xs l u)) H3':=h3;rw[ex]at h4;rw[←e];exact k _ _ _ _ h4 r3' s3 e123
  ·exact k _ _ _ _ h3 (qA n (jD r)) (s3.hid n) (e123.trans (Ev.hid n))
 | _=>exact h3.elim
end U
namespace L2
variable {X:Cx}
end L2
namespace U
open L2
variable {B:Bs}{X:Cx}{a b:Expr}{ta tb:TE'}{pos:Pos}
def xa:List PV->PHp->VK'->Prop:=fun xs H Q=>match xs with
 | [.int i,.int j]=>Q (.int (if j<i then j else i)) H
 | _=>False
theorem Fp:xa [.int i,.int j] H Q=Q (.int (if j<i then j else i)) H:=rfl
theorem yE{K:PySem.W.Frag}:VC K B xa (fun xs H Q=>∃i j,xs=[.int i,.int j]/\Q (.int (if j<i then j else i)) H):=by
 intro σ' σ H' H xs' xs Q' Q s r h k;unfold xa at h;split at h
 ·rename_i i j;simp only[RPs,RP]at r;obtain⟨_,_,rfl,rfl,_,_,rfl,rfl,rfl⟩:=r;exact⟨i,j,rfl,k _ _ _ _ h (by simp[RP]) s (Ev.refl _ _)⟩
 ·exact h.elim
end U
namespace L2
variable {X:Cx}
end L2
namespace U
open L2
variable {B:Bs}{X:Cx}{a b:Expr}{ta tb:TE'}{pos:Pos}
def v7:R2':=fun x y H Q=>match x,y with
 | .tup l,.tup m=>l.length+m.length≤sizeLine/\Q (.tup (l++m)) H
 | _,_=>False
theorem ES:v7 (.tup l) (.tup m) H Q=(l.length+m.length≤sizeLine/\Q (.tup (l++m)) H):=rfl
end U
namespace L2
variable {X:Cx}{tg:Expr}
def It3(lo:Int)(n:Nat):It:=⟨fun i _=>i<n,fun i H x H'=>H'=H/\x=.int (lo+3*i),fun i _=>n≤i⟩
theorem qG{K:PySem.W.Frag}(it:Addr)(lo:Int)(n:Nat):Turn P w K tg (It3 lo n) [it] it (fun i h=>IsRangeIter h it (lo+(i:Nat)*3) ((n:Int) - (i:Nat)) 3) where
 mem:=by simp
 obj:=fun i h st b hb=>by
  have q:b=it:=by simpa using hb
  subst q;exact⟨_,st,fun v z=>by
   have z':Data.fields _=Data.cell v:=z;cases z'⟩
 keep:=fun i h h' st k=>k it (by simp) _ st
 item:=by
  intro X hP hw hK hc i pins s σ H E I hf st hg;subst hP hw hK;obtain⟨f0,f1,f2,f3,f4,f5⟩:=hf it (by simp);have W:=Walks.range (prog:=X.prog) (w:=X.w) (I.ok.hd hc) it lo 3 n;refine W.item i s _ _ hg st fun v h' tk hv st' kk=>?_;obtain⟨t,rfl⟩:=hv;have J:Inv X pins σ H { s with heap:=h',toks:=tk }:=I.turned (fun b o hb e=>kk b o (by simpa using hb) e) f0 f1 f3 f4 f5;refine⟨_,rfl,ja (s:={ s with heap:=h',toks:=tk }) (n:="range_iterator") st' rfl rfl (by decide) ⟨.int (lo+3*i),H,J,⟨t,?_⟩,⟨rfl,rfl⟩,st',fun b hb=>(hf b hb).1⟩⟩;congr 1;omega
 done:=by
  intro X hP hw hK hc i pins s σ H E I hf st hg;subst hP hw hK;obtain⟨f0,f1,f2,f3,f4,f5⟩:=hf it (by simp);exact wpAny_pyNext_range_end (I.ok.hd hc) st (by have q:n≤i:=hg;omega) fun h' eb=>⟨rfl,I.turned (t':=s.toks) (fun b o hb e=>eb b o hb e) f0 f1 f3 f4 f5⟩
 self:=fun _ _ _ _ _ st h=>wpAny_pyIter_rangeiter st h
def by3(lo hi:Int):Nat:=((hi - lo+2) / 3).toNat
def Eu(ta:TA):TI:=fun σ H R=>ta σ H fun vs H1=>∃lo hi:Int,vs=[.int lo,.int hi,.int 3]/\0≤lo/\lo<1000/\0≤hi/\hi<1000/\R (It3 lo (by3 lo hi)) H1
theorem kQ{lo hi:Int}:Builtin.Range.rangeSize lo hi 3=(by3 lo hi:Nat):=by
 unfold Builtin.Range.rangeSize by3;rw[Gq (by decide)];split<;>omega
theorem pC{lo hi:Int}(h1:0≤lo)(h2:lo<1000)(h3:0≤hi)(h4:hi<1000):Builtin.Range.small lo hi 3=true:=by
 unfold Builtin.Range.small;rw[kQ];have:by3 lo hi≤400:=by unfold by3;omega
 generalize by3 lo hi=n at this;simp only[Builtin.Range.rangeFitsLong,HU,Bool.or_eq_true,GI,Ir];refine⟨⟨⟨⟨by omega,by omega⟩,by decide⟩,by omega⟩,?_⟩;refine .inr ?_;rw[Gq (by decide),HU,GI,GI];exact⟨by omega,by omega⟩
theorem yV{a b c:Expr}{ta:TA}{p pos:Pos}(hg:Gl X "range")(hm:X.mg "range"=none)(ha:PA X [a,b,c] ta)(hs:starEach [a,b,c] X.env=[(false,eval a X.env),(false,eval b X.env),(false,eval c X.env)]:=by rfl)
  (hs2:starEach [b,c] X.env=[(false,eval b X.env),(false,eval c X.env)]:=by rfl):PI X tg (.Call (.Name "range" p) [a,b,c] [] pos) (Eu ta):=by
 intro pins s σ H R I h;refine Call_ (dD I hg hm boot_range (G0 (thn (ha pos pins s σ H _ I h) fun us s1 ⟨vs,H1,I1,r1,q1⟩=>?_) (by rw[hs,hs2]) (by rw[hs2];rfl)));obtain⟨lo,hi,e,q1,q2,q3,q4,q⟩:=q1;subst e;cases r1 with
 | cons r rr =>
  cases rr with
  | cons r' rr =>
   cases rr with
   | cons r'' rr =>
    cases rr;obtain⟨t,rfl⟩:=r;obtain⟨t',rfl⟩:=r';obtain⟨t'',rfl⟩:=r'';refine call_range_3 (by decide) ?_ (Or.inl (PyProof.noPylong_of_log2 (by decide +kernel)));generalize hh:s1.heap.push { cls:=.type "range",data:=.fields #[.int lo t,.int hi t',.int 3 t''] }=h2;have I2:Inv X pins σ H1 { s1 with heap:=h2 }:=by rw[←hh];exact I1.kept (t':=s1.toks) fun b o e=>F6 _ e
    refine wpAny_pyIter_range (s:={ s1 with heap:=h2,toks:=s1.toks }) (by rw[←hh];exact IsRange.new ..) (pC q1 q2 q3 q4) ?_;refine⟨h2.objs.size,[h2.objs.size],_,_,H1,rfl,I2.kept (t':=s1.toks) fun b o e=>F6 _ e,qG _ lo (by3 lo hi),?_,fun b hb=>?_,q⟩
    ·show IsRangeIter _ _ (lo+((0:Nat):Int)*3) (((by3 lo hi:Nat):Int) - ((0:Nat):Int)) 3;have e1:lo+((0:Nat):Int)*3=lo:=by simp
     have e2:((by3 lo hi:Nat):Int) - ((0:Nat):Int)=Builtin.Range.rangeSize lo hi 3:=by rw[kQ];omega
     rw[e1,e2];exact Gm _ rfl
    ·have e:b=h2.objs.size:=by simpa using hb
     subst e;exact I2.fpOk (F9 _) (I2.hok.fresh (F9 _))
end L2
namespace U
open L2
variable {B:Bs}{X:Cx}{a b c:Expr}{pos:Pos}
def kY(lo:Int)(n:Nat):List PV:=(List.range n).map fun k=>PV.int (lo+3*(k:Nat))
theorem oA{K:PySem.W.Frag}{lo:Int}:Walks K H1 (It3 lo n) ⟨kY lo n,fun _=>True⟩ where
 go:=fun H' H i _ _ _ hi=>by
  have q:i<n:=by simpa[kY]using hi
  exact q
 yld:=fun H' H i x H2 _ _ _ y=>by
  obtain⟨rfl,rfl⟩:=y;refine⟨rfl,fun x' hx=>?_⟩;unfold kY at hx;rw[Gs]at hx;cases q:(List.range n)[i]? with
  | none=>rw[q]at hx;cases hx
  | some j =>
   rw[q]at hx;have:j=i:=by
    have:=(Gj.mp q).2;simpa using this.symm
   subst this;cases hx;simp[RP]
 stop:=fun H' H i _ _ _ hi=>by
  have q:n≤i:=by simpa[kY]using hi
  exact q
def qN(vs:List PV)(H1:PHp)(R:It'->PHp->Prop):Prop:=match vs with
 | [.int lo,.int hi,.int f]=>f=3/\0≤lo/\lo<1000/\0≤hi/\hi<1000/\R ⟨kY lo (by3 lo hi),fun _=>True⟩ H1
 | _=>False
theorem El{lo hi f:Int}:qN [.int lo,.int hi,.int f] H1 R=(f=3/\0≤lo/\lo<1000/\0≤hi/\hi<1000/\R ⟨kY lo (by3 lo hi),fun _=>True⟩ H1):=rfl
def AK(t:TA'):TI':=fun σ H R=>t σ H fun vs H1=>qN vs H1 R
theorem yU{tg:Expr}{t:TA'}{p:Pos}(hg:Gl X "range")(hm:X.mg "range"=none)(ha:PA' X B [a,b,c] t)(hs:starEach [a,b,c] X.env=[(false,eval a X.env),(false,eval b X.env),(false,eval c X.env)]:=by rfl)
  (hs2:starEach [b,c] X.env=[(false,eval b X.env),(false,eval c X.env)]:=by rfl):PI' X B tg (.Call (.Name "range" p) [a,b,c] [] pos) (AK t) :=
 e9 (yV hg hm ha hs hs2) fun σ H R y_=>by
  obtain⟨σ',H',R',s,h,k⟩:=y_;refine⟨σ',H',_,s,h,fun vs' H1' vs H1 h1 r1 s1 e1=>?_⟩;unfold qN at h1;split at h1
  ·rename_i lo hi f;obtain⟨rfl,h2,h3,h4,h5,q⟩:=h1;simp only[RPs,RP]at r1;obtain⟨u,r,rfl,rfl,u2,r2,rfl,rfl,u3,r3,rfl,rfl,rfl⟩:=r1;exact⟨lo,hi,rfl,h2,h3,h4,h5,k _ _ _ _ q oA s1 e1⟩
  ·exact h1.elim
end U
namespace L2
theorem gY:∀{b a:List Nat},a.Nodup->(∀x∈a,x∈b)->a.length≤b.length
 | [],a,_,h=>by
  cases a with
  | nil=>exact F9 _
  | cons x a=>exact absurd (h x Ga) Hw
 | y::b,a,na,h=>by
  have e:=gY (b:=b) (a:=a.erase y) (na.erase y) fun x hx=>by
   have hm:=(na.mem_erase_iff).mp hx;rcases Gh.mp (h x hm.2)with q | q
   ·exact absurd q hm.1
   ·exact q
  have l:=List.length_erase (a:=y) (l:=a);rw[Gx];split at l<;>omega
theorem iT:∀{b a:List Nat},¬b.Nodup->a.Nodup->(∀x∈a,x∈b)->a.length<b.length
 | [],a,nb,_,_=>absurd List.nodup_nil nb
 | y::b,a,nb,na,h=>by
  by_cases hy:y∈b
  ·have:=gY (b:=b) na fun x hx=>by
    rcases Gh.mp (h x hx)with q | q
    ·rw[q];exact hy
    ·exact q
   rw[Gx];omega
  ·have e:=iT (b:=b) (a:=a.erase y) (fun n=>nb (HN.mpr ⟨hy,n⟩)) (na.erase y) fun x hx=>by
    have hm:=(na.mem_erase_iff).mp hx;rcases Gh.mp (h x hm.2)with q | q
    ·exact absurd q hm.1
    ·exact q
   have l:=List.length_erase (a:=y) (l:=a);rw[Gx];split at l<;>omega
theorem nC(hin:∀n∈ns,n<6)(nd:¬ns.Nodup):(SI.lof ns).length<ns.length :=
 iT nd (SI.ik _ (SI.ip hin)).2.2.1 fun x hx=>SI.jI.mp hx
end L2
namespace U
open L2
section
variable {B:Bs}{X:Cx}{a b e:Expr}{ta tb:TE'}{p p2 pos pos2:Pos}
def nV(x:PV)(H:PHp)(Q:VK'):Prop:=match x with
 | .ref a=>∃ns:List Nat,H a=some (.lst (ns.map fV))/\(∀n∈ns,n<6)/\Q (.int (SI.lof ns).length) H
 | _=>False
theorem FH{a:Addr}:nV (.ref a) H Q=∃ns:List Nat,H a=some (.lst (ns.map fV))/\(∀n∈ns,n<6)/\Q (.int (SI.lof ns).length) H:=rfl
def lJ(ta:TE'):TE':=fun σ H Q=>ta σ H fun x H1=>nV x H1 Q
theorem gv(hc:X.calm=true)(hgl:Gl X "len")(hml:X.mg "len"=none)(hgs:Gl X "set")(hms:X.mg "set"=none)(bs:bootBuiltins "set"=some (.type "set"))(ha:PE' X B e ta)
  (he:starEach [.Call (.Name "set" p2) [e] [] pos2] X.env=[(false,eval (.Call (.Name "set" p2) [e] [] pos2) X.env)]:=by rfl) (he2:starEach [e] X.env=[(false,eval e X.env)]:=by rfl) :
  PE' X B (.Call (.Name "len" p) [.Call (.Name "set" p2) [e] [] pos2] [] pos) (lJ ta) :=
 aV (dW iO hgl hml Gn (cP (dj (gf hc) hgs hms bs (cP ha dw he2) (by decide) (by decide) he2 rfl) dw he) (by decide) (by decide) he rfl) fun σ H Q h=>by
  obtain⟨σ',H',Q',s,h,k⟩:=h;refine⟨σ',H',_,s,h,fun x' H1' x H1 h1 rx s1 e1=>?_⟩;cases x' with
  | ref a =>
   obtain⟨ns,ea,hin,q⟩:=h1;simp only[RP]at rx;subst rx;obtain⟨us,eg,r2⟩:=s1.hp _ _ ea;rw[fw r2]at eg;refine⟨a,ns,rfl,.inl (.inl eg),hin,fun S hS=>⟨S,SI.lof ns,rfl,bh,?_⟩⟩;exact k _ _ _ _ q (by simp[RP]) (s1.hid hS) (e1.trans (Ev.hid hS))
  | _=>exact h1.elim
end
section
variable {B:Bs}{X:Cx}
theorem two{x y:V}{its:List Value}(h:Paired R [x,y] its):∃u v,its=[u,v]/\R x u/\R y v:=by
 cases h with
 | cons a h=>cases h with
  | cons b h=>cases h;exact⟨_,_,rfl,a,b⟩
end
section
variable {B:Bs}{X:Cx}
section
variable {pos:Pos}{N2:List Str}{nt:Nat}{js:List Nat}{scope sc:Scope}{cl:List (Str×Addr)}{elt iter tg:Expr}{ifs:List Expr}{wi:TI'}{g:TG'}{tt:TT'}{te:TE'}
theorem qW{i:Nat}{y:Str}{py spos:Pos}(hN:X.N.Nodup)(hy:X.N[i]?=some y)(hl:Loc X.env.scope y)(O:cv X N2 nt js scope cl sc)(hc:X.calm=true)(hi:PIH X B tg iter wi)
  (b:∀(s0:Shared) (H0:Hp) (fp:List Addr) (ps:List (Addr×Obj)),fU (cC X N2 scope cl s0 H0 fp ps) B tg ifs elt g tt te)
  (hsw:swapsWith (.ListComp elt [⟨tg,iter,ifs,0⟩] scope pos) (some (.Name y py)) spos.line X.env=pure true:=by rfl)
  (hs:∀x,foldedSetIterable iter X.env x=pure x:=by intro _;rfl) (hfn:X.fn y=true∨X.env.scope.names.lookup y=some .local:=by first | exact .inl rfl | exact .inr rfl | assumption) :
  PS' X B (.Assign [.Name y py] (.ListComp elt [⟨tg,iter,ifs,0⟩] scope pos) spos) (kK (fu nt js wi g tt te) (gi i)) :=
 cX (kI (g:=lowG X.K B g) (tt:=iD X.K B tt) (te:=low X.K B te) hN hy hl O hc hi (fun s0 H0 fp ps=>⟨(b s0 H0 fp ps).tgt,(b s0 H0 fp ps).tst,(b s0 H0 fp ps).elt⟩) hsw hs hfn) fun D σ H y_=>by
  obtain⟨σ',H',D',s,h,d⟩:=y_;refine iN ⟨σ',H',_,s,h,fun v' H1' v H1 q r s1 e1=>?_⟩;exact d.nx _ _ _ _ q (s1.set r i) e1
end
end
section
variable {B:Bs}{X:Cx}{o i:Expr}{pos pos':Pos}{td ty:TE'}
theorem rM{K:PySem.W.Frag}(h:RP K H (sdP k) v):∃a,v=.ref a/\pV K H k a:=by
 simp only[sdP,RP,RPs]at h;obtain⟨t,ws,rfl,ht,h⟩:=h;obtain⟨_,_,rfl,rfl,_,_,rfl,rfl,rfl⟩:=h;exact⟨t,rfl,ht⟩
theorem j6{K:PySem.W.Frag}{H:Hp}:∀{ks:List SdK} {as:List Addr},RPs K H (ks.map sdP) (as.map V.ref)->k9 K H ks as
 | [],[],_=>.nil
 | [],a::as,h=>by simp[RPs]at h
 | k::ks,[],h=>by
  simp only[Ge,List.map_nil,RPs]at h;obtain⟨u,r,e,_⟩:=h;cases e
 | k::ks,a::as,h=>by
  simp only[Ge,RPs]at h;obtain⟨u,r,e,h1,h2⟩:=h;cases e;obtain⟨a',e,n⟩:=rM h1;cases e;exact .cons n (j6 h2)
theorem m6{K:PySem.W.Frag}{H:Hp}:∀{ks:List SdK} {as:List Addr} {k:SdK} {a:Addr},RPs K H (ks.map sdP) (as.map V.ref)->RP K H (sdP k) (.ref a)->RPs K H ((ks++[k]).map sdP) ((as++[a]).map V.ref)
 | [],[],_,_,_,h=>RPs.cons _ h (RPs.nil _)
 | [],a::as,_,_,h,_=>by simp[RPs]at h
 | k::ks,[],_,_,h,_=>by
  simp only[Ge,List.map_nil,RPs]at h;obtain⟨u,r,e,_⟩:=h;cases e
 | k::ks,a::as,_,_,h,h'=>by
  simp only[Ge,RPs]at h;obtain⟨u,r,e,h1,h2⟩:=h;cases e;exact RPs.cons _ h1 (m6 h2 h')
def sx(P:Program)(w:World):TE':=fun _ H Q=>∀p,H p=none->Q (.ref p) (put H p (.dS P w []))
theorem rS:PE' X B (.Dict [] [] pos) (sx X.prog X.w):=aV pK fun σ H Q y_ p hp=>by
 obtain⟨σ',H',Q',s,h,k⟩:=y_;have hp':=s.hp.free hp;exact k _ _ _ _ (h p hp') (by simp[RP]) (s.new hp ⟨[],bh,RPs.nil _⟩) (Ev.new hp)
def rB(P:Program)(w:World):R2':=fun x y H Q=>match x,y with
 | .tup [.int n,.bl b],.ref d=>∃ks,H d=some (.dS P w ks)/\Q (.bl (decide ((n,b)∈ks))) H
 | _,_=>False
theorem B9:rB P w (.tup [.int n,.bl b]) (.ref d) H Q=∃ks,H d=some (.dS P w ks)/\Q (.bl (decide ((n,b)∈ks))) H:=rfl
theorem vP{K:PySem.W.Frag}:VR K B (rB P w) (AF P w K):=by
 intro σ' σ H' H x' y' x y Q' Q s rx ry h k;unfold rB at h;split at h
 ·rename_i n b d;obtain⟨ks,hd,q⟩:=h;obtain⟨a,rfl,ha⟩:=rM (k:=(n,b)) rx;simp only[RP]at ry;subst ry;obtain⟨as,ha2,hr⟩:=s.hp _ _ hd;exact⟨a,d,(n,b),ks,as,rfl,ha,rfl,ha2,j6 hr,k _ _ _ _ q (by simp[RP]) s (Ev.refl _ _)⟩
 ·exact h.elim
def sJ(P:Program)(w:World)(o i:PV)(H:PHp)(Q:PHp->Prop):Prop:=match o,i with
 | .ref d,.tup [.int n,.bl b]=>∃ks,H d=some (.dS P w ks)/\ks.length<1000/\Q (put H d (.dS P w (if (n,b)∈ks then ks else ks++[(n,b)])))
 | _,_=>False
theorem BU:sJ P w (.ref d) (.tup [.int n,.bl b]) H Q=∃ks,H d=some (.dS P w ks)/\ks.length<1000/\Q (put H d (.dS P w (if (n,b)∈ks then ks else ks++[(n,b)]))):=rfl
def wJ(P:Program)(w:World)(to ti:TE'):TG':=fun _ σ H Q=>to σ H fun o H1=>ti σ H1 fun i H2=>sJ P w o i H2 fun H3=>Q σ H3
theorem ve{to ti:TE'}(hu:X.A.units+64<cLine)(ho:PE' X B o to)(hi:PE' X B i ti) (ha:∀v,assign (.Subscript o i pos) X.env v=(do
   let ov←holding [v] (eval o X.env);let iv←holding [v,ov] (eval i X.env)
   standAt pos;holding [v,ov,iv] (setItem ov iv v);release [v,ov,iv] []):=by intro _;rfl):PG' X B (.Subscript o i pos) (wJ X.prog X.w to ti):=ie (pN ho hi (zG hu) ha) fun v σ H Q h=>by
 obtain⟨v',σ',H',Q',rv,s,h,k⟩:=h;refine⟨σ',H',_,s,h,fun o' H1' o H1 h1 ro s1 e1=>⟨σ',H1',_,s1,h1,fun i' H2' i H2 h2 ri s2 e2=>?_⟩⟩;unfold sJ at h2;split at h2
 ·rename_i d n b;obtain⟨ks,ed,hl,q⟩:=h2;have ro2:=RP.kp X.K (e2.kp s1.hp) ro;simp only[RP]at ro2;subst ro2;obtain⟨a,rfl,hk⟩:=rM (k:=(n,b)) ri;obtain⟨as,ha2,hr⟩:=s2.hp _ _ ed;refine⟨d,ks,as,(n,b),a,rfl,rfl,ha2,j6 hr,hk,hl,fun hm=>?_,fun hm=>?_⟩
  ·rw[Gq hm]at q;refine k _ _ _ _ q (s2.wr ed ⟨as,bh,?_⟩) (e1.trans (e2.trans (Ev.wr ed)));exact RPs.kp X.K (s2.hp.kpw ed) hr
  ·rw[Gp hm]at q;refine k _ _ _ _ q (s2.wr ed ⟨as++[a],bh,?_⟩) (e1.trans (e2.trans (Ev.wr ed)));exact RPs.kp X.K (s2.hp.kpw ed) (m6 hr ri)
 ·exact h2.elim
end
section
variable {B:Bs}{X:Cx}{a b:Expr}{ta tb:TE'}{pos:Pos}
def uL:R2':=fun x y H Q=>match x,y with
 | .ref a,.int k=>∃l,H a=some (.lst l)/\(0≤k/\k<100)/\l.length≤100/\∀p,H p=none->Q (.ref p) (put H p (.lst (List.replicate k.toNat l).flatten))
 | _,_=>False
theorem Ff{a:Addr}:uL (.ref a) (.int k) H Q=∃l,H a=some (.lst l)/\(0≤k/\k<100)/\l.length≤100/\∀p,H p=none->Q (.ref p) (put H p (.lst (List.replicate k.toNat l).flatten)):=rfl
theorem mS{K:PySem.W.Frag}{H:Hp}{l:List PV}{us:List V}(r:RPs K H l us):∀n:Nat,RPs K H (List.replicate n l).flatten (List.replicate n us).flatten
 | 0=>RPs.nil _
 | n+1=>by
  rw[HG,HG,HI,HI];exact RPs.append _ r (mS r n)
theorem xm{K:PySem.W.Frag}:VR K B uL B7:=by
 intro σ' σ H' H x' y' x y Q' Q s rx ry h k;unfold uL at h;split at h
 ·rename_i a n;obtain⟨l,e1,hn,hl,h⟩:=h;simp only[RP]at rx ry;subst rx;subst ry;obtain⟨us,q1,r1⟩:=s.hp _ _ e1;have lu:us.length≤100:=by rw[RPs.length _ r1];exact hl
  refine⟨a,n,us,rfl,rfl,q1,by omega,by omega,?_,fun p hp=>?_⟩
  ·rw[Hx];have:n.toNat≤100:=by omega
   exact GU (Nat.mul_le_mul lu this) (by decide)
  ·exact k _ _ _ _ (h p (s.hp.free hp)) (by simp[RP]) (s.new hp (kO hp (mS r1 _))) (Ev.new hp)
 ·exact h.elim
theorem zF(ha:PE' X B a ta)(hb:PE' X B b tb):PE' X B (.BinOp a .Mult b pos) (uOp uL ta tb):=eW xJ xm ha hb
end
section
variable {B:Bs}{X:Cx}{pos:Pos}{x:Str}{a b e:Expr}{ta tb te:TE'}
theorem gN(i:Nat)(hN:X.N.Nodup)(hi:X.N[i]?=some x:=by rfl)(hx:Loc X.env.scope x:=by first | exact Or.inl rfl | exact Or.inr rfl)(hf:X.fn x=true∨X.env.scope.names.lookup x=some .local:=by first | exact .inl rfl | exact .inr rfl | assumption):PG' X B (.Name x pos) (gi i):=tU hN hi hx hf
theorem sN{pos':Pos}(i:Nat)(hN:X.N.Nodup)(he:PE' X B e te)(hi:X.N[i]?=some x:=by rfl)(hx:Loc X.env.scope x:=by first | exact Or.inl rfl | exact Or.inr rfl)(hs:swapsWith e (some (.Name x pos')) pos.line X.env=pure false:=by rfl)(hf:X.fn x=true∨X.env.scope.names.lookup x=some .local:=by first | exact .inl rfl | exact .inr rfl | assumption):PS' X B (.Assign [.Name x pos'] e pos) (kK te (gi i)):=xu hN hi hx he hs hf
theorem iX(ha:PE' X B a ta)(hb:PE' X B b tb)(hs:jV b:=by exact fun _ _=>rfl):PE' X B (.Subscript a b pos) (uOp uIx ta tb):=Ah ha hb hs
theorem cW{op:CmpOp}{r':R2'}{r:R2}(ho:OpR X (compareOp op) r)(v:VR X.K B r' r)(ha:PE' X B a ta)(hb:PE' X B b tb)(hm:behindInMarks op b=false:=by with_unfolding_all rfl):PT' X B (.Compare a [op] [b] pos) (iP (uOp r' ta tb)):=qZ ho v ha hb hm
theorem cN{op:CmpOp}{r':R2'}{r:R2}(ho:OpR X (compareOp op) r)(v:VR X.K B r' r)(ha:PE' X B a ta)(hb:PE' X B b tb)(h1:op≠.In:=by decide)(h2:op≠.NotIn:=by decide):PT' X B (.Compare a [op] [b] pos) (iP (uOp r' ta tb)):=qZ ho v ha hb (bQ _ h1 h2)
section
variable {N2:List Str}{nt:Nat}{js:List Nat}{scope sc:Scope}{cl:List (Str×Addr)}{elt iter tg:Expr}{ifs:List Expr}{wi:TI'}{g:TG'}{tt:TT'}{y:Str}{py spos:Pos}
theorem cE(O:cv X N2 nt js scope cl sc)(hi:PI' X B tg iter wi)(b:∀(s0:Shared) (H0:Hp) (fp:List Addr) (ps:List (Addr×Obj)),fU (cC X N2 scope cl s0 H0 fp ps) B tg ifs elt g tt te)(hc:X.calm=true:=by rfl)(hs:∀x,foldedSetIterable iter X.env x=pure x:=by intro _;rfl) :
  PE' X B (.ListComp elt [⟨tg,iter,ifs,0⟩] scope pos) (fu nt js wi g tt te):=u7 O hc hi b hs
theorem sC(i:Nat)(hN:X.N.Nodup)(O:cv X N2 nt js scope cl sc)(hi:PI' X B tg iter wi)(b:∀(s0:Shared) (H0:Hp) (fp:List Addr) (ps:List (Addr×Obj)),fU (cC X N2 scope cl s0 H0 fp ps) B tg ifs elt g tt te)
  (hy:X.N[i]?=some y:=by rfl) (hl:Loc X.env.scope y:=by first | exact Or.inl rfl | exact Or.inr rfl) (hc:X.calm=true:=by rfl) (hsw:swapsWith (.ListComp elt [⟨tg,iter,ifs,0⟩] scope pos) (some (.Name y py)) spos.line X.env=pure true:=by rfl) (hs:∀x,foldedSetIterable iter X.env x=pure x:=by intro _;rfl)
  (hf:X.fn y=true∨X.env.scope.names.lookup y=some .local:=by first | exact .inl rfl | exact .inr rfl | assumption):PS' X B (.Assign [.Name y py] (.ListComp elt [⟨tg,iter,ifs,0⟩] scope pos) spos) (kK (fu nt js wi g tt te) (gi i)):=vn hN hy hl O hc hi b hsw hs hf
end
theorem _root_.L2.cu.mo{j k:Nat}{A:Around}(r:cu k A)(h:j≤k:=by decide):cu j A:=r.mono h
end
end U
namespace DM
abbrev P2:=Int×Int
def pk(p:P2):Int:=6*p.1+p.2
structure Good (c:Int) (l:List P2):Prop where
 nd:l.Nodup
 lo:∀p∈l,0≤p.1/\p.1<p.2/\p.2<c
theorem jf{α:Type}(k:α->Int):∀{a b:List α},a.Pairwise (fun x y=>k x<k y)->b.Pairwise (fun x y=>k x<k y)->(∀x,x∈a↔x∈b)->a=b
 | [],[],_,_,_=>rfl
 | [],y::b,_,_,h=>by have:=(h y).mpr Ga;simp at this
 | x::a,[],_,_,h=>by have:=(h x).mp Ga;simp at this
 | x::a,y::b,ha,hb,h=>by
  obtain⟨h1,h2⟩:=Iw.mp ha;obtain⟨g1,g2⟩:=Iw.mp hb;have e:x=y:=by
   rcases Gh.mp ((h x).mp Ga)with e | m
   ·exact e
   ·rcases Gh.mp ((h y).mpr Ga)with e | m'
    ·exact e.symm
    ·have a1:=g1 x m;have a2:=h1 y m';omega
  subst e;congr 1;refine jf k h2 g2 fun z=>⟨fun m=>?_,fun m=>?_⟩
  ·rcases Gh.mp ((h z).mp (Gb _ m))with e | m'
   ·subst e;have:=h1 z m;omega
   ·exact m'
  ·rcases Gh.mp ((h z).mpr (Gb _ m))with e | m'
   ·subst e;have:=g1 z m;omega
   ·exact m'
theorem nj{a b l:List P2}(ha:a.Perm l)(sa:a.Pairwise (fun x y=>pk x<pk y))(hb:b.Perm l)(sb:b.Pairwise (fun x y=>pk x<pk y)):a=b :=
 jf pk sa sb fun x=>ha.mem_iff.trans hb.mem_iff.symm
theorem Good.prs(g:Good c l)(hc:c≤6):∀p∈l,p∈SP.prs:=fun p hp=>by
 have:=g.lo p hp;exact SP.uG (u:=p.1) (v:=p.2) this.1 this.2.1 (by omega)
theorem bU{α:Type}[BEq α][LawfulBEq α]{l m:List α}(nd:l.Nodup)(h:∀x∈l,x∈m):l.length≤m.length:=by
 induction l generalizing m with
 | nil=>simp
 | cons x l ih =>
  obtain⟨h1,h2⟩:=HN.mp nd;have hx:=h x Ga;have:=ih (m:=m.erase x) h2 fun y hy=>(List.mem_erase_of_ne (by rintro rfl;exact h1 hy)).mpr (h y (Gb _ hy));have e:=List.length_erase_of_mem hx;have:0<m.length:=List.length_pos_of_mem hx;simp only[Gx];omega
theorem Good.len(g:Good c l)(hc:c≤6):l.length≤15:=bU g.nd (g.prs hc)
end DM
namespace My
def gd(a b:Int):Int:=(Int.gcd a b:Nat)
abbrev ab(x:Int):Int:=if x<0 then -x else x
end My
namespace My
open U
def BN(n:Nat)(i:Int):Prop:=i.natAbs<2 ^ n
theorem BN.fit(h:BN n i)(hn:n≤9000):Fit i:=by
 unfold Fit;unfold BN at h;rcases Nat.eq_zero_or_pos i.natAbs with h0 | hp
 ·rw[h0,Nat.log2_zero];omega
 ·have:=(Nat.log2_lt (Nat.ne_of_gt hp)).mpr h;omega
theorem BN.of_le(h:BN n i)(g:j.natAbs≤i.natAbs):BN n j:=Nat.lt_of_le_of_lt g h
end My
namespace My
abbrev P2:=Int×Int
inductive Reach (E:List P2) (S:List Int):Int→Prop where
 | base {x:Int} (h:x∈S):Reach E S x
 | step {a b:Int} (h:Reach E S a) (e:(a,b)∈E):Reach E S b
def outs(E:List P2)(a:Int):List Int:=(E.filter fun p=>decide (p.1=a)).map (·.2)
theorem fk:b∈outs E a↔(a,b)∈E:=by
 unfold outs;rw[F4];constructor
 ·rintro⟨⟨x,y⟩,h,rfl⟩;rw[HC]at h;have:x=a:=of_decide_eq_true h.2;subst this;exact h.1
 ·intro h;exact⟨(a,b),HC.mpr ⟨h,GP rfl⟩,rfl⟩
def cc(E:List P2)(f:List Int)(n:Int):List Int:=if n∈f then f++outs E n else f
theorem oq(h:x∈f):x∈cc E f n:=by
 unfold cc;split
 ·exact GH _ h
 ·exact h
theorem je{E:List P2}:∀(L:List Int) {f:List Int} {x:Int},x∈f->x∈L.foldl (cc E) f
 | [],_,_,h=>h
 | _::L,_,_,h=>je L (oq h)
theorem gu{E:List P2}{S:List Int}:∀(L:List Int) {f:List Int},(∀x∈f,Reach E S x)->∀x∈L.foldl (cc E) f,Reach E S x
 | [],_,h,x,hx=>h x hx
 | n::L,f,h,x,hx=>by
  refine gu L (f:=cc E f n) (fun y hy=>?_) x hx;unfold cc at hy;split at hy
  ·rename_i hn;rcases Gf.mp hy with hy | hy
   ·exact h y hy
   ·exact .step (h n hn) (fk.mp hy)
  ·exact h y hy
def Fwd(E:List P2)(L:List Int):Prop:=∀a b,(a,b)∈E->∀L1 L2,L=L1++L2->b∈L1->a∈L1
theorem fo{E:List P2}:∀(L1 L2:List Int) {f:List Int},(∀a b,(a,b)∈E->a∈L1++L2)->(∀a b,(a,b)∈E->∀M1 M2,L1++L2=M1++M2->b∈M1->a∈M1)->(L1++L2).Nodup ->
  (∀a b,(a,b)∈E->a∈L1->a∈f->b∈f)->∀a b,(a,b)∈E->a∈L2.foldl (cc E) f->b∈L2.foldl (cc E) f
 | L1,[],f,hA,hF,hN,hc,a,b,e,ha=>by
  have:=hA a b e;rw[GS]at this;exact hc a b e this ha
 | L1,n::L2,f,hA,hF,hN,hc,a,b,e,ha=>by
  have eq:L1++n::L2=(L1++[n])++L2:=by simp
  refine fo (L1++[n]) L2 (f:=cc E f n) (by rw[←eq];exact hA) (by rw[←eq];exact hF) (by rw[←eq];exact hN) (fun a b e ha1 ha2=>?_) a b e ha;unfold cc at ha2 ⊢;split
  ·rename_i hn;rw[Gq hn]at ha2;rcases Gf.mp ha2 with hf | ho
   ·rcases Gf.mp ha1 with h1 | h1
    ·exact GH _ (hc a b e h1 hf)
    ·have:a=n:=by simpa using h1
     subst this;exact Gy _ (fk.mpr e)
   ·-- a is an out of n,so it stands behind n
    have en:=fk.mp ho;rcases Gf.mp ha1 with h1 | h1
    ·have q:=hF n a en L1 (n::L2) rfl h1;rw[Ig]at hN;exact absurd rfl (hN.2.2 n q n (Ga))
    ·have:a=n:=by simpa using h1
     subst this;exact Gy _ (fk.mpr e)
  ·rename_i hn;rw[Gp hn]at ha2;rcases Gf.mp ha1 with h1 | h1
   ·exact hc a b e h1 ha2
   ·have:a=n:=by simpa using h1
    subst this;exact absurd ha2 hn
theorem o9(hA:∀a b,(a,b)∈E->a∈L)(hF:Fwd E L)(hN:L.Nodup)(x:Int):x∈L.foldl (cc E) S↔Reach E S x:=by
 constructor
 ·exact gu L (fun y hy=>.base hy) x
 ·intro h
  induction h with
  | base h=>exact je L h
  | step h e ih=>exact fo [] L hA hF hN (fun a b e h=>absurd h (by simp)) _ _ e ih
def AH(f:List Int)(p:P2):List Int:=if p.1∈f/\p.2∉f then f++[p.2]else f
def Bl(E:List P2)(f:List Int):List Int:=E.foldl AH f
def zA(E:List P2):Nat->List Int->List Int
 | 0,f=>f
 | n+1,f=>zA E n (Bl E f)
theorem bU:∀(m:Nat) (f:List Int),f.Nodup->(∀x∈f,0≤x/\x<(m:Int))->f.length≤m
 | 0,f,_,h=>by
  cases f with
  | nil=>exact F9 _
  | cons x f=>have:=h x Ga;omega
 | m+1,f,hn,h=>by
  have q:=bU m (f.erase (m:Int)) (hn.erase _) (fun x hx=>by
   have hx':=List.mem_of_mem_erase hx;have:=h x hx';have ne:x≠(m:Int):=(List.Nodup.mem_erase_iff hn).mp hx |>.1
   omega)
  by_cases hm:(m:Int)∈f
  ·rw[List.length_erase_of_mem hm]at q;omega
  ·rw[List.erase_of_not_mem hm]at q;omega
theorem gX:∀{xs ys:List Int},xs.Pairwise (·<·)->ys.Pairwise (·<·)->(∀x,x∈xs↔x∈ys)->xs=ys
 | [],[],_,_,_=>rfl
 | [],y::ys,_,_,h=>absurd ((h y).mpr Ga) (by simp)
 | x::xs,[],_,_,h=>absurd ((h x).mp Ga) (by simp)
 | x::xs,y::ys,hx,hy,h=>by
  rw[Iw]at hx hy;have e:x=y:=by
   have h1:=(h x).mp Ga;have h2:=(h y).mpr Ga;rcases Gh.mp h1 with h1 | h1
   ·exact h1
   ·rcases Gh.mp h2 with h2 | h2
    ·exact h2.symm
    ·have:=hx.1 y h2;have:=hy.1 x h1;omega
  subst e;rw[gX hx.2 hy.2 fun z=>?_];constructor
  ·intro hz;rcases Gh.mp ((h z).mp (Gb _ hz))with q | q
   ·have:=hx.1 z hz;omega
   ·exact q
  ·intro hz;rcases Gh.mp ((h z).mpr (Gb _ hz))with q | q
   ·have:=hy.1 z hz;omega
   ·exact q
end My
namespace My
section
variable {α:Type}
def Chn(R:α->α->Prop):List α->Prop
 | a::b::l=>R a b/\Chn R (b::l)
 | _=>True
theorem c8{R:α->α->Prop}:∀{p q:List α},Chn R (p++q)↔Chn R p/\Chn R q/\∀a∈p.getLast?,∀b∈q.head?,R a b
 | [],q=>by simp[Chn]
 | [a],[]=>by simp[Chn]
 | [a],b::q=>by simp[Chn,and_comm]
 | a::b::p,q=>by
  have ih:=c8 (R:=R) (p:=b::p) (q:=q);have e1:Chn R (a::b::p++q)↔R a b/\Chn R (b::p++q):=Iff.rfl;have e2:Chn R (a::b::p)↔R a b/\Chn R (b::p):=Iff.rfl;rw[e1,e2,ih,Hq,and_assoc]
theorem cY:∀(p:List α) {s:α} {t:List α},(p++s::t).getLast?=(s::t).getLast?
 | [],_,_=>rfl
 | [a],s,t=>Hq
 | a::b::p,s,t=>by
  show(a::b::(p++s::t)).getLast?=_;rw[Hq];exact cY (b::p)
theorem jg{β:Type}[DecidableEq β](f:α->β):∀{l:List α},¬(l.map f).Nodup->∃p s q s' t,l=p++s::(q++s'::t)/\f s=f s'
 | [],h=>absurd List.nodup_nil h
 | a::l,h=>by
  by_cases m:f a∈l.map f
  ·obtain⟨s',hs,e⟩:=F4.mp m;obtain⟨q,t,rfl⟩:=List.append_of_mem hs;exact⟨[],a,q,s',t,rfl,e.symm⟩
  ·have:¬(l.map f).Nodup:=fun n=>h (by rw[Ge,HN];exact⟨m,n⟩);obtain⟨p,s,q,s',t,rfl,e⟩:=jg f this;exact⟨a::p,s,q,s',t,rfl,e⟩
theorem lE{β:Type}{f:α->List β}{n:Nat}:∀{l:List α},(∀x∈l,(f x).length≤n)->(l.flatMap f).length≤l.length*n
 | [],_=>by simp
 | a::l,h=>by
  have:=lE (f:=f) (l:=l) fun x hx=>h x (Gb _ hx);have h1:=h a Ga;rw[List.flatMap_cons,F3,Gx,Nat.add_mul];omega
end
section
variable {κ:Type}[DecidableEq κ]
abbrev Stp(κ:Type):=Int×κ×Int
structure Lnk (dn up:κ) (G A:List Int) (s s':Stp κ):Prop where
 jn:s.2.2=s'.1
 mt:s.2.1≠up->s'.2.1≠dn->s.2.2∈A
 no:s.2.1=up∨s'.2.1=dn->s.2.2∉G
def nm(r:List (Stp κ)):List Int:=match r with
 | []=>[]
 | s::t=>s.1::(s::t).map (·.2.2)
structure Rd (Ed:Stp κ→Prop) (dn up:κ) (G A ones:List Int) (r:List (Stp κ)):Prop where
 hd:∃s∈r.head?,s.1∈ones
 ed:∀s∈r,Ed s
 ch:Chn (Lnk dn up G A) r
variable {Ed:Stp κ->Prop}{dn up:κ}{G A ones others:List Int}
theorem wH(ne:dn≠up)(hA:∀a b,Ed (a,dn,b)->b∈A->a∈A):∀{q:List (Stp κ)} {s e:Stp κ},(∀x∈s::q,Ed x)->Chn (Lnk dn up G A) (s::q)->s.2.1=dn->(s::q).getLast?=some e->e.2.1=up->s.1∈A
 | [],s,e,_,_,k,l,u=>by
  simp at l;subst l;exact absurd (k.symm.trans u) ne
 | s'::q,s,e,hd,c,k,l,u=>by
  have hs:Ed (s.1,dn,s.2.2):=by rw[←k];exact hd s Ga
  refine hA _ _ hs ?_;by_cases k':s'.2.1=dn
  ·have:=wH ne hA (q:=q) (s:=s') (e:=e) (fun x hx=>hd x (Gb _ hx)) c.2 k' (by rw[←l,Hq]) u;rw[c.1.jn];exact this
  ·exact c.1.mt (by rw[k];exact ne) k'
theorem short(ne:dn≠up)(hA:∀a b,Ed (a,dn,b)->b∈A->a∈A)(ap:∀x∈ones,x∉others):∀(n:Nat) (r:List (Stp κ)),r.length≤n->Rd Ed dn up G A ones r->(∃e∈r.getLast?,e.2.2∈others) ->
  ∃r',Rd Ed dn up G A ones r'/\(∃e∈r'.getLast?,e.2.2∈others)/\(nm r').Nodup
 | 0,r,hl,h,_=>by
  obtain⟨s,hs,_⟩:=h.hd;have:r=[]:=List.length_eq_zero_iff.mp (by omega);subst this;cases hs
 | n+1,r,hl,h,hx=>by
  by_cases nd:(nm r).Nodup
  ·exact⟨r,h,hx,nd⟩
  obtain⟨s0,hs0,h0⟩:=h.hd;obtain⟨e,he,hb⟩:=hx;cases r with
  | nil=>cases hs0
  | cons s1 t1 =>
  have es:s1=s0:=by simpa using hs0
  subst es;have cut:(∃q s t,s1::t1=q++s::t/\s.2.2=s1.1)∨¬((s1::t1).map (·.2.2)).Nodup:=by
   by_cases m:s1.1∈(s1::t1).map (·.2.2)
   ·obtain⟨s,hs,e⟩:=F4.mp m;obtain⟨q,t,e2⟩:=List.append_of_mem hs;exact .inl ⟨q,s,t,e2,e⟩
   ·exact .inr fun n=>nd (HN.mpr ⟨m,n⟩)
  rcases cut with⟨q,s,t,er,es⟩ | dup
  ·rw[er]at h hl he;have c:=c8.mp h.ch;cases t with
   | nil =>
    simp at he;subst he;exact absurd hb (by rw[es];exact ap _ h0)
   | cons s2 t =>
    have hl2:(s2::t).length≤n:=by simp at hl ⊢;omega
    refine short ne hA ap n (s2::t) hl2 ⟨⟨s2,rfl,?_⟩,fun x hx=>h.ed x (by simp at hx ⊢;grind),c.2.1.2⟩ ⟨e,?_,hb⟩
    ·rw[←c.2.1.1.jn,es];exact h0
    ·have:(q++s::s2::t).getLast?=(s2::t).getLast?:=by rw[cY,Hq]
     rw[←this];exact he
  ·obtain⟨p,s,q,s',t,er,es⟩:=jg _ dup;rw[er]at h hl he;have c:=c8.mp h.ch;have c1:=c.2.1;have e1:s::(q++s'::t)=(s::q)++s'::t:=rfl;rw[e1]at c1;have c2:=c8.mp c1;have hds:∃z∈(p++[s]).head?,z.1∈ones:=by
    obtain⟨z,hz,hz1⟩:=h.hd;refine⟨z,?_,hz1⟩;cases p with
    | nil=>simpa using hz
    | cons _ _=>simpa using hz
   cases t with
   | nil =>
    refine short ne hA ap n (p++[s]) (by simp at hl ⊢;omega) ⟨hds,fun x hx=>h.ed x (by simp at hx ⊢;grind),?_⟩ ⟨s,by simp,?_⟩
    ·exact c8.mpr ⟨c.1,trivial,c.2.2⟩
    ·have:e=s':=by
      have:(p++s::(q++[s'])).getLast?=some s':=by rw[cY,← List.cons_append,cY];rfl
      rw[this]at he;exact(Gw he).symm
     subst this;show s.2.2∈others;rw[show s.2.2=e.2.2 from es];exact hb
   | cons s2 t =>
    have l2:Lnk dn up G A s' s2:=c2.2.1.1;obtain⟨m,q',eq⟩:∃m q',q++[s']=m::q':=by
     cases q with
     | nil=>exact⟨s',[],rfl⟩
     | cons m q=>exact⟨m,q++[s'],rfl⟩
    have cm:Chn (Lnk dn up G A) (s::m::(q'++s2::t)):=by
     have:s::m::(q'++s2::t)=s::(q++s'::s2::t):=by
      have e3:q++s'::s2::t=(q++[s'])++s2::t:=by simp
      rw[e3,eq];rfl
     rw[this];exact c.2.1
    have l1:Lnk dn up G A s m:=cm.1;have inA:s.2.1≠up->s2.2.1≠dn->s.2.2∈A:=fun k1 k2=>by
     by_cases km:m.2.1=dn
     ·by_cases ks:s'.2.1=up
      ·rw[l1.jn];have cq:Chn (Lnk dn up G A) (m::q'):=((c8 (p:=m::q') (q:=s2::t)).mp cm.2).1;refine wH ne hA (q:=q') (s:=m) (e:=s') (fun x hx=>h.ed x ?_) cq km (by rw[←eq];simp) ks;rw[←eq]at hx;simp at hx ⊢
       grind
      ·show s.2.2∈A;rw[show s.2.2=s'.2.2 from es];exact l2.mt ks k2
     ·exact l1.mt k1 km
    refine short ne hA ap n (p++s::s2::t) (by simp at hl ⊢;omega) ⟨?_,fun x hx=>h.ed x (by simp at hx ⊢;grind),c8.mpr ⟨c.1,⟨⟨?_,inA,?_⟩,c2.2.1.2⟩,c.2.2⟩⟩ ⟨e,?_,hb⟩
    ·obtain⟨z,hz,hz1⟩:=hds;refine⟨z,?_,hz1⟩;cases p with
     | nil=>simpa using hz
     | cons _ _=>simpa using hz
    ·rw[show s.2.2=s'.2.2 from es];exact l2.jn
    ·rintro(k | k)
     ·exact l1.no (.inl k)
     ·rw[show s.2.2=s'.2.2 from es];exact l2.no (.inr k)
    ·have h1:(p++s::s2::t).getLast?=(s2::t).getLast?:=by rw[cY,Hq]
     have h2:(p++s::(q++s'::s2::t)).getLast?=(s2::t).getLast?:=by rw[cY,← List.cons_append,cY,Hq]
     rw[h1,← h2];exact he
inductive RS (Ed:Stp κ→Prop) (dn up:κ) (G A ones:List Int):Int→Bool→Prop where
 | base {x:Int} (h:x∈ones):RS Ed dn up G A ones x false
 | step {n m:Int} {p:Bool} {k:κ} (h:RS Ed dn up G A ones n p) (e:Ed (n,k,m)) (h1:k=dn->n∉G) (h2:k≠dn->p=true->n∈A) (h3:k≠dn->p=false->n∉G):RS Ed dn up G A ones m (decide (k≠up))
theorem vS(gn:∀x∈ones,x∉G){x:Int}{p:Bool}(h:RS Ed dn up G A ones x p):(x∈ones/\p=false)∨∃r,Rd Ed dn up G A ones r/\∃e∈r.getLast?,e.2.2=x/\decide (e.2.1≠up)=p:=by
 induction h with
 | base h=>exact .inl ⟨h,rfl⟩
 | step h e h1 h2 h3 ih =>
  rename_i n m p k;refine .inr ?_;rcases ih with⟨ho,rfl⟩ |⟨r,rd,l,hl,rfl,hp⟩
  ·exact⟨[(n,k,m)],⟨⟨_,rfl,ho⟩,fun s hs=>by rw[Gk.mp hs];exact e,trivial⟩,_,rfl,rfl,rfl⟩
  ·refine⟨r++[(l.2.2,k,m)],⟨?_,fun s hs=>?_,c8.mpr ⟨rd.ch,trivial,fun a ha b hb=>?_⟩⟩,(l.2.2,k,m),by simp,rfl,rfl⟩
   ·obtain⟨z,hz,h0⟩:=rd.hd;refine⟨z,?_,h0⟩;cases r with
    | nil=>cases hz
    | cons _ _=>simpa using hz
   ·rcases Gf.mp hs with q | q
    ·exact rd.ed s q
    ·rw[Gk.mp q];exact e
   ·have ea:a=l:=by rw[hl]at ha;exact(Gw ha).symm
    have eb:b=(l.2.2,k,m):=by simpa using hb.symm
    subst ea;subst eb;refine⟨rfl,fun k1 k2=>h2 k2 (by rw[←hp];exact GP k1),?_⟩;rintro(z | z)
    ·by_cases kd:k=dn
     ·exact h1 kd
     ·exact h3 kd (by rw[←hp,z];simp)
    ·exact h1 z
theorem CT(ne:dn≠up)(hA:∀a b,Ed (a,dn,b)->b∈A->a∈A)(ap:∀x∈ones,x∉others)(gn:∀x∈ones,x∉G){x:Int}{p:Bool}(h:RS Ed dn up G A ones x p)(hx:x∈others) :
  ∃r,Rd Ed dn up G A ones r/\(∃e∈r.getLast?,e.2.2∈others)/\(nm r).Nodup:=by
 rcases vS gn h with⟨ho,_⟩ |⟨r,rd,e,he,rfl,_⟩
 ·exact absurd hx (ap x ho)
 ·exact short ne hA ap r.length r (F9 _) rd ⟨e,he,hx⟩
end
theorem yq{ts:List P2}(lt:∀a b,(a,b)∈ts->a<b):∀{w:List Int},Chn (fun a b=>(a,b)∈ts) w->w.Pairwise (·<·)
 | [],_=>.nil
 | [a],_=>Ii _ a
 | a::b::w,h=>by
  have ih:=yq lt h.2;have hab:=lt a b h.1;refine Iw.mpr ⟨fun x hx=>?_,ih⟩;rcases Gh.mp hx with rfl | hx
  ·exact hab
  ·have:=(Iw.mp ih).1 x hx;omega
end My
namespace Lw
open L2 U
theorem boot_all:bootBuiltins "all"=some (.builtin "all"):=by decide +kernel
theorem boot_sorted:bootBuiltins "sorted"=some (.builtin "sorted"):=by decide +kernel
theorem boot_set:bootBuiltins "set"=some (.type "set"):=by decide +kernel
theorem boot_min:bootBuiltins "min"=some (.builtin "min"):=by decide +kernel
theorem boot_max:bootBuiltins "max"=some (.builtin "max"):=by decide +kernel
theorem xg{x y:PV}:atI [x,y] 0=some x:=rfl
theorem xU{x y:PV}:atI [x,y] 1=some y:=rfl
theorem boot_bool:bootBuiltins "bool"=some (.type "bool"):=by decide +kernel
theorem ck{X:Cx}{N2:List Str}{nt:Nat}{js:List Nat}{scope sc:Scope}{cl:List (Str×Addr)}(clos:closureFor scope X.env=pure cl:=by exact rfl)(sub:oG X.env.cells cl:=by repeat (first | exact trivial | refine⟨rfl,?_⟩))(xsc:X.env.scope=sc:=by rfl)(kind:scope.kind=.function:=by rfl)
  (nocell:∀y∈scope.names,y.2≠.cell:=by decide +kernel) (loc:∀y∈scope.names,y.2=.local->scope.names.lookup y.1=some .local:=by decide +kernel) (names:cl.map (·.1)=((scope.names.filter (·.2==.free)).map (·.1)).reverse:=by rfl)
  (frs:∀x∈N2.drop nt,scope.names.lookup x=some .free/\sc.names.lookup x=some .cell:=by decide +kernel) (len:N2.length=nt+js.length:=by rfl) (pl:js.map (fun j=>X.N[j]?)=(N2.drop nt).map some:=by rfl):cv X N2 nt js scope cl sc:=cok clos sub xsc kind nocell loc names frs len pl
def top(i:Nat):Stmt:=PySem.Challenge.pw_doingbook_k12_papers_looked_at.main.body.getD i (.Pass ⟨0,0,0,0⟩)
abbrev xV:Stmt:=top 11
local macro_rules | `(tactic| walk_at "q") => `(tactic| exact ⟨rfl, rfl, rfl, by decide +kernel, rfl, by decide +kernel, by decide +kernel⟩)
theorem AQ:aD ["count","pair"] ["count","pair"] (aq xV):=by walk_at "q"
abbrev uM:Stmt:=top 12
theorem Ak:aD ["count","pairs"] ["count","pairs"] (aq uM):=by walk_at "q"
abbrev xI:Stmt:=top 13
theorem nN:aD ["count","names","ahead","name"] ["count","names"] (aq xI):=by walk_at "q"
abbrev sX:Stmt:=inClass (top 14) 0
theorem rH:aD ["self","count","ties","bows","own_ties","own_bows"] ["self","count","ties","bows"] (aq sX):=by walk_at "q"
abbrev y9:Stmt:=inClass (top 14) 2
theorem Ct:aD ["self","name"] ["self","name"] (aq y9):=by walk_at "q"
abbrev yj:Stmt:=inClass (top 14) 3
theorem B0:aD ["self","names"] ["self","names"] (aq yj):=by walk_at "q"
abbrev vE:Stmt:=inClass (top 14) 4
theorem CF:aD ["self","name"] ["self","name"] (aq vE):=by walk_at "q"
abbrev t6:Stmt:=inClass (top 14) 5
theorem BR:aD ["self","name"] ["self","name"] (aq t6):=by walk_at "q"
abbrev xc:Stmt:=inClass (top 14) 6
theorem pR:aD ["self","names","found","name"] ["self","names"] (aq xc):=by walk_at "q"
abbrev rN:Stmt:=inClass (top 14) 8
theorem sy:aD ["self","name","ahead","behind"] ["self","name"] (aq rN):=by walk_at "q"
abbrev yB:Stmt:=top 15
theorem vU:aD ["drawing","sets","names"] ["drawing","sets"] (aq yB):=by walk_at "q"
abbrev xN:Stmt:=top 16
theorem qp:aD ["sets","named","names"] ["sets"] (aq xN):=by walk_at "q"
abbrev yW:Stmt:=top 18
theorem AO:aD ["drawing","ones","others","given"] ["drawing","ones","others","given"] (aq yW):=by walk_at "q"
abbrev xl:Stmt:=top 19
theorem A0:aD ["step"] ["step"] (aq xl):=by walk_at "q"
abbrev xP:Stmt:=top 20
theorem Co:aD ["step"] ["step"] (aq xP):=by walk_at "q"
abbrev zJ:Stmt:=top 21
theorem B5:aD ["step","behind"] ["step","behind"] (aq zJ):=by walk_at "q"
abbrev xx:Stmt:=top 22
theorem BF:aD ["drawing","step"] ["drawing","step"] (aq xx):=by walk_at "q"
abbrev uN:Stmt:=top 23
theorem CL:aD ["road"] ["road"] (aq uN):=by walk_at "q"
abbrev tZ:Stmt:=top 24
theorem BD:aD ["road"] ["road"] (aq tZ):=by walk_at "q"
abbrev zr:Stmt:=top 25
theorem B3:aD ["step","behind","given","above"] ["step","behind","given","above"] (aq zr):=by walk_at "q"
abbrev uX:Stmt:=top 26
theorem tK:aD ["road","names","linked"] ["road"] (aq uX):=by walk_at "q"
abbrev tx:Stmt:=top 27
theorem wg:aD ["drawing","road","given","above"] ["drawing","road","given"] (aq tx):=by walk_at "q"
abbrev qT:Stmt:=top 28
theorem AV:aD ["drawing","meeting","given","way"] ["drawing","meeting","given","way"] (aq qT):=by walk_at "q"
abbrev vm:Stmt:=top 29
theorem wB:aD ["drawing","road","given","ways","met"] ["drawing","road","given","ways"] (aq vm):=by walk_at "q"
abbrev yY:Stmt:=top 30
theorem Cz:aD ["drawing","ones","others","given","road","ways"] ["drawing","ones","others","given","road","ways"] (aq yY):=by walk_at "q"
abbrev oI:Stmt:=top 31
theorem nE:aD ["drawing","standing","given","above","name","pointed","asked"] ["drawing","standing","given","above"] (aq oI):=by walk_at "q"
abbrev mD:Stmt:=top 32
theorem i6:aD ["drawing","ones","others","given","standings","names","above","there","asked","standing"] ["drawing","ones","others","given","standings"] (aq mD):=by walk_at "q"
abbrev ym:Stmt:=top 34
theorem CH:aD ["_law_script","_law_k"] ["_law_script","_law_k"] (aq ym):=by walk_at "q"
abbrev yC:Stmt:=top 35
theorem rA:aD ["_law_cell","_law_place","_law_number"] ["_law_cell","_law_place"] (aq yC):=by walk_at "q"
abbrev yJ:Stmt:=top 36
theorem A3:aD ["_law_found"] ["_law_found"] (aq yJ):=by walk_at "q"
abbrev yu:Stmt:=top 37
theorem d3:aD ["_law_script","_law_at","_law_many","_law_ties","_law_bows","_law_cell","_law_number","_law_place","_law_one","_law_two","_law_kind"] ["_law_script","_law_at","_law_many"] (aq yu):=by walk_at "q"
abbrev yp:Stmt:=top 38
theorem nH:aD ["_law_drawn","_law_names","_law_found","_law_one","_law_two"] ["_law_drawn","_law_names"] (aq yp):=by walk_at "q"
abbrev lQ:Stmt:=top 41
theorem gr:aD ["_law_drawn","_law_standing","_law_given","_law_above_here","_law_name","_law_pointed","_law_found"] ["_law_drawn","_law_standing","_law_given","_law_above_here"] (aq lQ):=by walk_at "q"
abbrev vj:Stmt:=top 42
theorem iQ:aD ["_law_drawn","_law_ones","_law_given","_law_above_here","_law_found","_law_at","_law_later"] ["_law_drawn","_law_ones","_law_given"] (aq vj):=by walk_at "q"
abbrev vk:Stmt:=top 44
theorem nL:aD ["_law_drawn","_law_ones","_law_others","_law_given","_law_standings","_law_above_here","_law_standing","_law_later"] ["_law_drawn","_law_ones","_law_others","_law_given","_law_standings"] (aq vk):=by walk_at "q"
abbrev xh:Stmt:=top 45
theorem Bp:aD ["_law_drawn","_law_step"] ["_law_drawn","_law_step"] (aq xh):=by walk_at "q"
abbrev xn:Stmt:=top 46
theorem wK:aD ["_law_drawn","_law_name","_law_way","_law_given","_law_k"] ["_law_drawn","_law_name","_law_way","_law_given"] (aq xn):=by walk_at "q"
abbrev zi:Stmt:=top 47
theorem BV:aD ["_law_step","_law_further"] ["_law_step","_law_further"] (aq zi):=by walk_at "q"
abbrev oE:Stmt:=top 48
theorem kP:aD ["_law_drawn","_law_ones","_law_others","_law_given","_law_road","_law_ways","_law_names","_law_met","_law_step","_law_further"] ["_law_drawn","_law_ones","_law_others","_law_given","_law_road","_law_ways"] (aq oE):=by walk_at "q"
abbrev tq:Stmt:=top 50
theorem h8:aD ["_law_cell","_law_many","_law_kinds","_law_sets","_law_number","_law_name","_law_kind"] ["_law_cell","_law_many","_law_kinds"] (aq tq):=by walk_at "q"
abbrev xH:Stmt:=top 51
theorem ko:aD ["_law_sets","_law_kind","_law_place","_law_k","_law_found"] ["_law_sets","_law_kind"] (aq xH):=by walk_at "q"
abbrev zj:Stmt:=top 52
theorem Bc:aD ["_law_found","_law_due","_law_k"] ["_law_found","_law_due"] (aq zj):=by walk_at "q"
abbrev tX:Stmt:=top 53
theorem rm:aD ["_law_told","_law_cell","_law_many","_law_kind","_law_at"] ["_law_told","_law_cell","_law_many"] (aq tX):=by walk_at "q"
abbrev mh:Stmt:=top 54
theorem lq:aD ["_law_drawn","_law_name","_law_number","_law_steps"] ["_law_drawn","_law_name","_law_number"] (aq mh):=by walk_at "q"
abbrev yy:Stmt:=top 55
theorem iC:aD ["_law_drawn","_law_start","_law_cell","_law_last","_law_road","_law_name","_law_k","_law_step"] ["_law_drawn","_law_start","_law_cell","_law_last"] (aq yy):=by walk_at "q"
abbrev u5:Stmt:=top 56
theorem kc:aD ["_law_drawn","_law_name","_law_cell","_law_given","_law_way","_law_k","_law_further"] ["_law_drawn","_law_name","_law_cell","_law_given"] (aq u5):=by walk_at "q"
abbrev yk:Stmt:=top 57
theorem i8:aD ["_law_road","_law_cell","_law_many","_law_at","_law_one","_law_kind","_law_two"] ["_law_road","_law_cell","_law_many"] (aq yk):=by walk_at "q"
abbrev xR:Stmt:=top 58
theorem fI:aD ["_law_ways","_law_cell","_law_many","_law_number","_law_at","_law_way","_law_spot"] ["_law_ways","_law_cell","_law_many"] (aq xR):=by walk_at "q"
abbrev vx:Stmt:=top 59
theorem A9:aD ["_law_road"] ["_law_road"] (aq vx):=by walk_at "q"
abbrev tM:Stmt:=top 60
theorem b8:aD ["_law_script","_law_many","_law_drawn","_law_drawing","_law_k","_law_cell","_law_bent","_law_way","_law_ones","_law_others","_law_given","_law_rest","_law_told","_law_handed","_law_due","_law_start","_law_road","_law_ways","_law_found"] ["_law_script"] (aq tM):=by walk_at "q"
set_option genInjectivity false
structure Ad where
 a_zU:Addr
 d_zU:FuncData
 a_zK:Addr
 d_zK:FuncData
 a_zW:Addr
 d_zW:FuncData
 a_zu:Addr
 d_zu:FuncData
 a_zb:Addr
 d_zb:FuncData
 a_zd:Addr
 d_zd:FuncData
 a_ze:Addr
 d_ze:FuncData
 a_za:Addr
 d_za:FuncData
 a_zc:Addr
 d_zc:FuncData
 a_zo:Addr
 d_zo:FuncData
 a_zO:Addr
 d_zO:FuncData
 a_zD:Addr
 d_zD:FuncData
 a_zv:Addr
 d_zv:FuncData
 a_zq:Addr
 d_zq:FuncData
 a_zf:Addr
 d_zf:FuncData
 a_zF:Addr
 d_zF:FuncData
 a_zV:Addr
 d_zV:FuncData
 a_zR:Addr
 d_zR:FuncData
 a_zQ:Addr
 d_zQ:FuncData
 a_zL:Addr
 d_zL:FuncData
 a_zJ:Addr
 d_zJ:FuncData
 a_zg:Addr
 d_zg:FuncData
 a_zx:Addr
 d_zx:FuncData
 a_zl:Addr
 d_zl:FuncData
 a_zT:Addr
 d_zT:FuncData
 a_zr:Addr
 d_zr:FuncData
 a_zS:Addr
 d_zS:FuncData
 a_zC:Addr
 d_zC:FuncData
 a_zN:Addr
 d_zN:FuncData
 a_zH:Addr
 d_zH:FuncData
 a_zs:Addr
 d_zs:FuncData
 a_zM:Addr
 d_zM:FuncData
 a_zt:Addr
 d_zt:FuncData
 a_zA:Addr
 d_zA:FuncData
 a_zz:Addr
 d_zz:FuncData
 a_zy:Addr
 d_zy:FuncData
 a_zE:Addr
 d_zE:FuncData
 a_zG:Addr
 d_zG:FuncData
 a_zw:Addr
 d_zw:FuncData
 a_zI:Addr
 d_zI:FuncData
 a_zp:Addr
 d_zp:FuncData
 a_zP:Addr
 d_zP:FuncData
 a_zm:Addr
 d_zm:FuncData
 a_zB:Addr
 d_zB:FuncData
 a_zh:Addr
 d_zh:FuncData
 a_zi:Addr
 d_zi:FuncData
 a_zk:Addr
 d_zk:FuncData
 a_zn:Addr
 d_zn:FuncData
 a_zj:Addr
 d_zj:FuncData
 a_zX:Addr
 d_zX:FuncData
 a_A:Addr
abbrev kX1(K:PySem.W.Frag)(a b:Addr):=PySem.W.kitOne K (.ref a) (.ref b)=some false
abbrev nX1(K:PySem.W.Frag)(x:Str)(a:Addr):=PySem.W.nsIn K mainGlobals x=some (some (.ref a))
abbrev nX2(K:PySem.W.Frag)(x:Str):=PySem.W.nsIn K mainGlobals x=some none
abbrev fX1(K:PySem.W.Frag)(c:Addr)(x:Str)(a:Addr):=PySem.W.findIn K (.ref c) x=some (some (.ref a))
structure Tx (K:PySem.W.Frag) (mg:Str→Option Value) (t:Ad):Prop where
 F_zU:Fun K "is_pair" "is_pair" xV t.a_zU t.d_zU
 B_zU:Binds K t.d_zU ["count","pair"] []
 g_zU:mg "is_pair"=some (.ref t.a_zU)
 F_zK:Fun K "are_pairs" "are_pairs" uM t.a_zK t.d_zK
 B_zK:Binds K t.d_zK ["count","pairs"] []
 g_zK:mg "are_pairs"=some (.ref t.a_zK)
 F_zW:Fun K "is_set" "is_set" xI t.a_zW t.d_zW
 B_zW:Binds K t.d_zW ["count","names"] []
 g_zW:mg "is_set"=some (.ref t.a_zW)
 F_zu:Fun K "__init__" "Drawing.__init__" sX t.a_zu t.d_zu
 B_zu:Binds K t.d_zu ["self","count","ties","bows"] []
 F_zb:Fun K "need_name" "Drawing.need_name" y9 t.a_zb t.d_zb
 B_zb:Binds K t.d_zb ["self","name"] []
 m_zb:Meth K t.a_A "need_name" t.a_zb
 F_zd:Fun K "need_set" "Drawing.need_set" yj t.a_zd t.d_zd
 B_zd:Binds K t.d_zd ["self","names"] []
 m_zd:Meth K t.a_A "need_set" t.a_zd
 F_ze:Fun K "sources" "Drawing.sources" vE t.a_ze t.d_ze
 B_ze:Binds K t.d_ze ["self","name"] []
 m_ze:Meth K t.a_A "sources" t.a_ze
 F_za:Fun K "followers" "Drawing.followers" t6 t.a_za t.d_za
 B_za:Binds K t.d_za ["self","name"] []
 m_za:Meth K t.a_A "followers" t.a_za
 F_zc:Fun K "ancestors" "Drawing.ancestors" xc t.a_zc t.d_zc
 B_zc:Binds K t.d_zc ["self","names"] []
 m_zc:Meth K t.a_A "ancestors" t.a_zc
 F_zo:Fun K "bowed" "Drawing.bowed" rN t.a_zo t.d_zo
 B_zo:Binds K t.d_zo ["self","name"] []
 m_zo:Meth K t.a_A "bowed" t.a_zo
 F_zO:Fun K "need_sets" "need_sets" yB t.a_zO t.d_zO
 B_zO:Binds K t.d_zO ["drawing","sets"] []
 g_zO:mg "need_sets"=some (.ref t.a_zO)
 F_zD:Fun K "need_apart" "need_apart" xN t.a_zD t.d_zD
 B_zD:Binds K t.d_zD ["sets"] []
 g_zD:mg "need_apart"=some (.ref t.a_zD)
 F_zv:Fun K "need_barring" "need_barring" yW t.a_zv t.d_zv
 B_zv:Binds K t.d_zv ["drawing","ones","others","given"] []
 g_zv:mg "need_barring"=some (.ref t.a_zv)
 F_zq:Fun K "points_at_to" "points_at_to" xl t.a_zq t.d_zq
 B_zq:Binds K t.d_zq ["step"] []
 g_zq:mg "points_at_to"=some (.ref t.a_zq)
 F_zf:Fun K "points_at_from" "points_at_from" xP t.a_zf t.d_zf
 B_zf:Binds K t.d_zf ["step"] []
 g_zf:mg "points_at_from"=some (.ref t.a_zf)
 F_zF:Fun K "is_meeting" "is_meeting" zJ t.a_zF t.d_zF
 B_zF:Binds K t.d_zF ["step","behind"] []
 g_zF:mg "is_meeting"=some (.ref t.a_zF)
 F_zV:Fun K "is_step" "is_step" xx t.a_zV t.d_zV
 B_zV:Binds K t.d_zV ["drawing","step"] []
 g_zV:mg "is_step"=some (.ref t.a_zV)
 F_zR:Fun K "names_on" "names_on" uN t.a_zR t.d_zR
 B_zR:Binds K t.d_zR ["road"] []
 g_zR:mg "names_on"=some (.ref t.a_zR)
 F_zQ:Fun K "meetings" "meetings" tZ t.a_zQ t.d_zQ
 B_zQ:Binds K t.d_zQ ["road"] []
 g_zQ:mg "meetings"=some (.ref t.a_zQ)
 F_zL:Fun K "is_passed" "is_passed" zr t.a_zL t.d_zL
 B_zL:Binds K t.d_zL ["step","behind","given","above"] []
 g_zL:mg "is_passed"=some (.ref t.a_zL)
 F_zJ:Fun K "is_joined" "is_joined" uX t.a_zJ t.d_zJ
 B_zJ:Binds K t.d_zJ ["road"] []
 g_zJ:mg "is_joined"=some (.ref t.a_zJ)
 F_zg:Fun K "is_open_inside" "is_open_inside" tx t.a_zg t.d_zg
 B_zg:Binds K t.d_zg ["drawing","road","given"] []
 g_zg:mg "is_open_inside"=some (.ref t.a_zg)
 F_zx:Fun K "is_way_down" "is_way_down" qT t.a_zx t.d_zx
 B_zx:Binds K t.d_zx ["drawing","meeting","given","way"] []
 g_zx:mg "is_way_down"=some (.ref t.a_zx)
 F_zl:Fun K "are_ways_down" "are_ways_down" vm t.a_zl t.d_zl
 B_zl:Binds K t.d_zl ["drawing","road","given","ways"] []
 g_zl:mg "are_ways_down"=some (.ref t.a_zl)
 F_zT:Fun K "is_road" "is_road" yY t.a_zT t.d_zT
 B_zT:Binds K t.d_zT ["drawing","ones","others","given","road","ways"] []
 g_zT:mg "is_road"=some (.ref t.a_zT)
 F_zr:Fun K "asked_beside" "asked_beside" oI t.a_zr t.d_zr
 B_zr:Binds K t.d_zr ["drawing","standing","given","above"] []
 g_zr:mg "asked_beside"=some (.ref t.a_zr)
 F_zS:Fun K "is_shut" "is_shut" mD t.a_zS t.d_zS
 B_zS:Binds K t.d_zS ["drawing","ones","others","given","standings"] []
 g_zS:mg "is_shut"=some (.ref t.a_zS)
 F_zC:Fun K "_law_cell_at" "_law_cell_at" ym t.a_zC t.d_zC
 B_zC:Binds K t.d_zC ["_law_script","_law_k"] []
 g_zC:mg "_law_cell_at"=some (.ref t.a_zC)
 F_zN:Fun K "_law_mixed" "_law_mixed" yC t.a_zN t.d_zN
 B_zN:Binds K t.d_zN ["_law_cell","_law_place"] []
 g_zN:mg "_law_mixed"=some (.ref t.a_zN)
 F_zH:Fun K "_law_whole" "_law_whole" yJ t.a_zH t.d_zH
 B_zH:Binds K t.d_zH ["_law_found"] []
 g_zH:mg "_law_whole"=some (.ref t.a_zH)
 F_zs:Fun K "_law_pairs_of" "_law_pairs_of" yu t.a_zs t.d_zs
 B_zs:Binds K t.d_zs ["_law_script","_law_at","_law_many"] []
 g_zs:mg "_law_pairs_of"=some (.ref t.a_zs)
 F_zM:Fun K "_law_above" "_law_above" yp t.a_zM t.d_zM
 B_zM:Binds K t.d_zM ["_law_drawn","_law_names"] []
 g_zM:mg "_law_above"=some (.ref t.a_zM)
 F_zt:Fun K "_law_asked_by" "_law_asked_by" lQ t.a_zt t.d_zt
 B_zt:Binds K t.d_zt ["_law_drawn","_law_standing","_law_given","_law_above_here"] []
 g_zt:mg "_law_asked_by"=some (.ref t.a_zt)
 F_zA:Fun K "_law_reached" "_law_reached" vj t.a_zA t.d_zA
 B_zA:Binds K t.d_zA ["_law_drawn","_law_ones","_law_given"] []
 g_zA:mg "_law_reached"=some (.ref t.a_zA)
 F_zz:Fun K "_law_is_shut" "_law_is_shut" vk t.a_zz t.d_zz
 B_zz:Binds K t.d_zz ["_law_drawn","_law_ones","_law_others","_law_given","_law_standings"] []
 g_zz:mg "_law_is_shut"=some (.ref t.a_zz)
 F_zy:Fun K "_law_is_step" "_law_is_step" xh t.a_zy t.d_zy
 B_zy:Binds K t.d_zy ["_law_drawn","_law_step"] []
 g_zy:mg "_law_is_step"=some (.ref t.a_zy)
 F_zE:Fun K "_law_is_way" "_law_is_way" xn t.a_zE t.d_zE
 B_zE:Binds K t.d_zE ["_law_drawn","_law_name","_law_way","_law_given"] []
 g_zE:mg "_law_is_way"=some (.ref t.a_zE)
 F_zG:Fun K "_law_meets" "_law_meets" zi t.a_zG t.d_zG
 B_zG:Binds K t.d_zG ["_law_step","_law_further"] []
 g_zG:mg "_law_meets"=some (.ref t.a_zG)
 F_zw:Fun K "_law_is_open" "_law_is_open" oE t.a_zw t.d_zw
 B_zw:Binds K t.d_zw ["_law_drawn","_law_ones","_law_others","_law_given","_law_road","_law_ways"] []
 g_zw:mg "_law_is_open"=some (.ref t.a_zw)
 F_zI:Fun K "_law_roles" "_law_roles" tq t.a_zI t.d_zI
 B_zI:Binds K t.d_zI ["_law_cell","_law_many","_law_kinds"] []
 g_zI:mg "_law_roles"=some (.ref t.a_zI)
 F_zp:Fun K "_law_moved_to" "_law_moved_to" xH t.a_zp t.d_zp
 B_zp:Binds K t.d_zp ["_law_sets","_law_kind"] []
 g_zp:mg "_law_moved_to"=some (.ref t.a_zp)
 F_zP:Fun K "_law_same" "_law_same" zj t.a_zP t.d_zP
 B_zP:Binds K t.d_zP ["_law_found","_law_due"] []
 g_zP:mg "_law_same"=some (.ref t.a_zP)
 F_zm:Fun K "_law_bent_list" "_law_bent_list" tX t.a_zm t.d_zm
 B_zm:Binds K t.d_zm ["_law_told","_law_cell","_law_many"] []
 g_zm:mg "_law_bent_list"=some (.ref t.a_zm)
 F_zB:Fun K "_law_step_on" "_law_step_on" mh t.a_zB t.d_zB
 B_zB:Binds K t.d_zB ["_law_drawn","_law_name","_law_number"] []
 g_zB:mg "_law_step_on"=some (.ref t.a_zB)
 F_zh:Fun K "_law_drawn_road" "_law_drawn_road" yy t.a_zh t.d_zh
 B_zh:Binds K t.d_zh ["_law_drawn","_law_start","_law_cell","_law_last"] []
 g_zh:mg "_law_drawn_road"=some (.ref t.a_zh)
 F_zi:Fun K "_law_drawn_way" "_law_drawn_way" u5 t.a_zi t.d_zi
 B_zi:Binds K t.d_zi ["_law_drawn","_law_name","_law_cell","_law_given"] []
 g_zi:mg "_law_drawn_way"=some (.ref t.a_zi)
 F_zk:Fun K "_law_bent_road" "_law_bent_road" yk t.a_zk t.d_zk
 B_zk:Binds K t.d_zk ["_law_road","_law_cell","_law_many"] []
 g_zk:mg "_law_bent_road"=some (.ref t.a_zk)
 F_zn:Fun K "_law_bent_ways" "_law_bent_ways" xR t.a_zn t.d_zn
 B_zn:Binds K t.d_zn ["_law_ways","_law_cell","_law_many"] []
 g_zn:mg "_law_bent_ways"=some (.ref t.a_zn)
 F_zj:Fun K "_law_pairs_met" "_law_pairs_met" vx t.a_zj t.d_zj
 B_zj:Binds K t.d_zj ["_law_road"] []
 g_zj:mg "_law_pairs_met"=some (.ref t.a_zj)
 F_zX:Fun K "law" "law" tM t.a_zX t.d_zX
 B_zX:Binds K t.d_zX ["_law_script"] []
 g_zX:mg "law"=some (.ref t.a_zX)
 g_A:mg "Drawing"=some (.ref t.a_A)
 cl_A:Cls K t.a_A
 mk_A:Mk K t.a_A t.a_zu
 b_all:mg "all"=none
 b_any:mg "any"=none
 b_bool:mg "bool"=none
 b_int:mg "int"=none
 b_isinstance:mg "isinstance"=none
 b_len:mg "len"=none
 b_list:mg "list"=none
 b_max:mg "max"=none
 b_min:mg "min"=none
 b_range:mg "range"=none
 b_reversed:mg "reversed"=none
 b_set:mg "set"=none
 b_sorted:mg "sorted"=none
 b_str:mg "str"=none
 b_tuple:mg "tuple"=none
 b_zip:mg "zip"=none
 c_MOST_BOWS:∃u,mg "MOST_BOWS"=some u/\RelV (.int 6) u
 c_MOST_NAMES:∃u,mg "MOST_NAMES"=some u/\RelV (.int 6) u
 nfA_bows:cT K t.a_A "bows"
 nfA_count:cT K t.a_A "count"
 nfA_ties:cT K t.a_A "ties"
section
variable {P:Program}{w:World}{K:PySem.W.Frag}{mg:Str->Option Value}{base:Heap}{t:Ad}
open DM (P2 Good)
def DF(c:Int)(ts bs:List P2):List (Str×PV):=[("count",.int c),("ties",.tup (ts.map prV)),("bows",.tup (bs.map prV))]
def Srt(l:List P2):Prop:=l.Pairwise (fun x y=>ST.pk x<ST.pk y)
def Row(H:PHp)(y:PV)(p:P2):Prop:=y=prV p∨∃r,y=.ref r/\H r=some (.lst [.int p.1,.int p.2])
abbrev Rows(H:PHp):List PV->List P2->Prop:=Paired (Row H)
def eQ:Sp':=fun vs H Q _=>match vs with
 | [.int c,.tup [.int u,.int v]]=>(0≤u/\u<v/\v<c)/\Q (.bl true) H
 | _=>False
theorem qO:eQ [.int c,.tup [.int u,.int v]] H Q E=((0≤u/\u<v/\v<c)/\Q (.bl true) H):=rfl
def dc:Sp':=fun vs H Q _=>match vs with
 | [.int c,.ref a]=>∃ps,H a=some (.lst (ps.map prV))/\Good c ps/\c≤6/\Q (.bl true) H
 | _=>False
def gT(t:Ad):Sp':=fun vs H Q _=>match vs with
 | [.ref x,.int c,.ref a,.ref b]=>∃dx ys zs ps qs,H x=some (.ins t.a_A dx [])/\H a=some (.lst ys)/\H b=some (.lst zs)/\Rows H ys ps/\Rows H zs qs/\Good c ps/\Good c qs/\(1≤c/\c≤6/\qs.length≤6) /\
  ∀ts bs,ts.Perm ps->Srt ts->bs.Perm qs->Srt bs->Q .non (put H x (.ins t.a_A dx (DF c ts bs)))
 | _=>False
theorem zB:gT t [.ref x,.int c,.ref a,.ref b] H Q E=∃dx ys zs ps qs,H x=some (.ins t.a_A dx [])/\H a=some (.lst ys)/\H b=some (.lst zs)/\Rows H ys ps/\Rows H zs qs/\Good c ps/\Good c qs/\(1≤c/\c≤6/\qs.length≤6) /\
  ∀ts bs,ts.Perm ps->Srt ts->bs.Perm qs->Srt bs->Q .non (put H x (.ins t.a_A dx (DF c ts bs))):=rfl
def c9(t:Ad):Sp':=fun vs H Q _=>match vs with
 | [.ref x,.int n]=>∃dx c ts bs,H x=some (.ins t.a_A dx (DF c ts bs))/\(0≤n/\n<c)/\Q .non H
 | _=>False
def fol(ts:List P2)(n:Int):List Int:=(ts.filter (fun p=>decide (p.1=n))).map (·.2)
def src(ts:List P2)(n:Int):List Int:=(ts.filter (fun p=>decide (p.2=n))).map (·.1)
def bwd(bs:List P2)(n:Int):List Int:=src bs n++fol bs n
def dy(t:Ad):Sp':=fun vs H Q _=>match vs with
 | [.ref x,.int n]=>∃dx c ts bs,H x=some (.ins t.a_A dx (DF c ts bs))/\(0≤n/\n<c)/\ts.length≤15/\Q (.tup ((src ts n).map PV.int)) H
 | _=>False
def cO(t:Ad):Sp':=fun vs H Q _=>match vs with
 | [.ref x,.int n]=>∃dx c ts bs,H x=some (.ins t.a_A dx (DF c ts bs))/\(0≤n/\n<c)/\ts.length≤15/\Q (.tup ((fol ts n).map PV.int)) H
 | _=>False
def gH:Sp':=fun vs H Q _=>match vs with
 | [.fls l,.int k]=>(0≤k/\k<100)/\∃ns:List Int,l=ns.map PV.int/\Q (.int (ns.getD k.toNat 0)) H
 | _=>False
theorem cn{l:List PV}(h:i<l.length):atI l ((i:Nat):Int)=some l[i]:=by
 unfold atI ixN;rw[Gq (by omega),Gq (by omega)];show l[((i:Nat):Int).toNat]?=_;rw[Ht,F2 h]
theorem rF{α β:Type}{R:α->β->Prop}:∀{l:List α} {m:List β} {i:Nat},Paired R l m->(hi:i<l.length)->(hj:i<m.length)->R l[i] m[i]
 | _::_,_::_,0,.cons h _,_,_=>h
 | _::_,_::_,i+1,.cons _ t,hi,hj=>rF t (by simpa using hi) (by simpa using hj)
theorem jM{R:α->β->Prop}{x:α}{l:List α}{m:List β}(h:Paired R l m)(hx:x∈l):∃y∈m,R x y:=by
 induction h with
 | nil=>cases hx
 | cons h t ih =>
  rcases Gh.mp hx with rfl | hx
  ·exact⟨_,Ga,h⟩
  ·obtain⟨y,hy,r⟩:=ih hx;exact⟨y,Gb _ hy,r⟩
theorem fm{a b:Int}(h:0<b):0≤a.fmod b/\a.fmod b<b:=by
 rw[Int.fmod_eq_emod_of_nonneg _ (by omega)];exact⟨Int.emod_nonneg _ (by omega),Int.emod_lt_of_pos _ h⟩
theorem pW(s:∀a u,a≠x->A a=some u->B a=some u)(h:B x=some o):U.Sub (put A x o) B:=fun a u e=>by
 by_cases q:a=x
 ·subst q;rw[ah]at e;cases e;exact h
 ·rw[ak q]at e;exact s a u q e
theorem g7{f:Str}{v:PV}:∀{fs:List (Str×PV)},(iH f v fs).length≤fs.length+1
 | []=>by simp[iH]
 |(g,y)::r=>by
  unfold iH;split
  ·simp
  ·have:=g7 (f:=f) (v:=v) (fs:=r);simp only[Gx];omega
theorem cQ(h:j≠0)(f:j.natAbs<2 ^ 64):tE i j:=⟨h,(show My.BN 64 j from f).fit (by decide)⟩
theorem wo(f:i.natAbs<2 ^ 64):Fit i:=(show My.BN 64 i from f).fit (by decide)
def lZ(H:PHp)(y:PV):PV:=match y with
 | .ref r=>(match H r with | some (.lst l)=>.tup l | _=>.non)
 | y=>y
theorem dU(h:H r=some (.lst l)):lZ H (.ref r)=.tup l:=by
 unfold lZ;dsimp only;rw[h]
theorem kf(h:Rows H ys ps):ys.map (lZ H)=ps.map prV:=by
 induction h with
 | nil=>rfl
 | cons h t ih =>
  rw[Ge,Ge,ih];congr 1;rcases h with rfl |⟨r,rfl,hr⟩
  ·rfl
  ·exact dU hr
theorem Rows.up(h:Rows H ys ps)(s:U.Sub H H1):Rows H1 ys ps:=Paired.mapP h fun y p r=>r.elim .inl fun⟨q,e,hq⟩=>.inr ⟨q,e,s _ _ hq⟩
theorem ig{H:PHp}:∀{ps:List P2},Rows H (ps.map prV) ps
 | []=>.nil
 | _::_=>.cons (.inl rfl) ig
def at1(n:Int)(y:PV):Bool:=match y with | .tup [.int _,.int v]=>decide (v=n) | _=>false
def at0(n:Int)(y:PV):Bool:=match y with | .tup [.int u,.int _]=>decide (u=n) | _=>false
def g0(y:PV):PV:=match y with | .tup [u,_]=>u | _=>.non
def g1(y:PV):PV:=match y with | .tup [_,v]=>v | _=>.non
theorem src_list{n:Int}:∀{ts:List P2},((ts.map prV).filter (at1 n)).map g0=((ts.filter (fun p=>decide (p.2=n))).map (·.1)).map PV.int
 | []=>rfl
 | p::ts=>by
  have e:at1 n (prV p)=decide (p.2=n):=rfl;rw[Ge,GW,GW,e];by_cases q:decide (p.2=n)=true
  ·rw[Gq q,Gq q,Ge,Ge,Ge,src_list];rfl
  ·rw[Gp q,Gp q,src_list]
theorem dm{n:Int}:∀{ts:List P2},((ts.map prV).filter (at0 n)).map g1=((ts.filter (fun p=>decide (p.1=n))).map (·.2)).map PV.int
 | []=>rfl
 | p::ts=>by
  have e:at0 n (prV p)=decide (p.1=n):=rfl;rw[Ge,GW,GW,e];by_cases q:decide (p.1=n)=true
  ·rw[Gq q,Gq q,Ge,Ge,Ge,dm];rfl
  ·rw[Gp q,Gp q,dm]
structure GJ (v j:Int) (l:List P2):Prop where
 nd:l.Nodup
 lo:∀p∈l,0≤p.1/\p.1<p.2/\(p.2<v∨(p.2=v/\p.1<j))
theorem GJ.app(h:GJ v j l)(h0:0≤j)(hj:j<v):GJ v (j+1) (l++[(j,v)]):=by
 refine⟨Ig.mpr ⟨h.nd,by simp,?_⟩,fun p hp=>?_⟩
 ·intro a ha b hb e;rw[Gk]at hb;subst hb;subst e;have:=h.lo _ ha;simp only at this;omega
 ·rcases Gf.mp hp with hp | hp
  ·have:=h.lo p hp;omega
  ·rw[Gk]at hp;subst hp;exact⟨h0,hj,.inr ⟨rfl,Int.lt_succ j⟩⟩
theorem GJ.up(h:GJ v j l):GJ v (j+1) l:=⟨h.nd,fun p hp=>by have:=h.lo p hp;omega⟩
theorem GJ.of(h:Good v l):GJ v 0 l:=⟨h.nd,fun p hp=>by have:=h.lo p hp;omega⟩
theorem GJ.good(h:GJ v v l):Good (v+1) l:=⟨h.nd,fun p hp=>by have:=h.lo p hp;omega⟩
theorem aJ{l:List Int}:(l.map PV.int).all (flat 8)=true:=by
 rw[GB];intro z hz;obtain⟨p,_,rfl⟩:=F4.mp hz;rfl
theorem a8{l:List Int}:((l.map PV.int).any fun z=>deq z (.int n))=decide (n∈l):=by
 rw[HD,Ip,GI];constructor
 ·rintro⟨z,hz,e⟩;obtain⟨p,hp,rfl⟩:=F4.mp hz;have:p=n:=by simpa[deq]using e
  rw[←this];exact hp
 ·intro h;exact⟨_,F4.mpr ⟨_,h,rfl⟩,by simp[deq]⟩
def swp(p:P2):P2:=(p.2,p.1)
structure Nms (c:Int) (L:List Int):Prop where
 up:L.Pairwise (·<·)
 lo:∀x∈L,0≤x/\x<c
theorem Nms.nd(h:Nms c L):L.Nodup:=h.up.imp fun h=>by omega
theorem Nms.len(h:Nms c L)(hc:c≤6):L.length≤6:=My.bU 6 L h.nd fun x hx=>by have:=h.lo x hx;omega
def Ins(t:Ad)(H:PHp)(x:Addr)(c:Int)(ts:List P2):Prop:=∃dx bs,H x=some (.ins t.a_A dx (DF c ts bs))
theorem Ins.up(h:Ins t H x c ts)(s:U.Sub H H1):Ins t H1 x c ts:=by
 obtain⟨dx,bs,e⟩:=h;exact⟨dx,bs,s _ _ e⟩
def fC:Sp':=fun vs H Q _=>match vs with
 | [.int c,.tup l]=>∃L:List Int,l=L.map PV.int/\Nms c L/\Q (.bl true) H
 | _=>False
def dH(t:Ad):Sp':=fun vs H Q _=>match vs with
 | [.ref x,.tup l]=>∃c ts,∃L:List Int,Ins t H x c ts/\l=L.map PV.int/\Nms c L/\Q .non H
 | _=>False
def jN(t:Ad)(f:P2->P2):Sp':=fun vs H Q _=>match vs with
 | [.ref x,.tup l]=>∃c ts,∃L:List Int,Ins t H x c ts/\l=L.map PV.int/\Nms c L/\(1≤c/\c≤6)/\Good c ts/\∀M:List Int,M.Pairwise (·<·)->(∀y,y∈M↔My.Reach (ts.map f) L y)->Q (.tup (M.map PV.int)) H
 | _=>False
theorem Ba:jN t f [.ref x,.tup l] H Q E=∃c ts,∃L:List Int,Ins t H x c ts/\l=L.map PV.int/\Nms c L/\(1≤c/\c≤6)/\Good c ts/\∀M:List Int,M.Pairwise (·<·)->(∀y,y∈M↔My.Reach (ts.map f) L y)->Q (.tup (M.map PV.int)) H:=rfl
def Ec(b:Bool):P2->P2:=if b then swp else fun p=>p
theorem rK{E:List P2}(hE:∀a b,(a,b)∈E->0≤b/\b<c)(hS:∀x∈S,0≤x/\x<c){y:Int}(r:My.Reach E S y):0≤y/\y<c:=by
 cases r with
 | base h=>exact hS _ h
 | step _ e=>exact hE _ _ e
def onI(q:Int->Bool)(y:PV):Bool:=match y with | .int u=>q u | _=>false
theorem nM:(cH 0 m).length=m:=by unfold cH;simp
def ulN(c:Int):List Int:=(List.range c.toNat).map fun k=>((k:Nat):Int)
def dlN(c:Int):List Int:=(List.range c.toNat).map fun k=>c - 1 - ((k:Nat):Int)
theorem wR(c:Int):(ulN c).Pairwise (·<·):=by
 unfold ulN;rw[Hu];exact List.pairwise_lt_range.imp fun h=>by omega
theorem nB(c:Int):(dlN c).Pairwise (·>·):=by
 unfold dlN;rw[Hu];refine List.Pairwise.imp (fun {a b} h=>?_) (List.pairwise_lt_range (n:=c.toNat));show c - 1 - ((a:Nat):Int)>c - 1 - ((b:Nat):Int);omega
theorem fA:x∈ulN c↔0≤x/\x<c:=by
 unfold ulN;simp only[F4,GC];constructor
 ·rintro⟨k,hk,rfl⟩;omega
 ·intro h;exact⟨x.toNat,by omega,by omega⟩
theorem jx:x∈dlN c↔0≤x/\x<c:=by
 unfold dlN;simp only[F4,GC];constructor
 ·rintro⟨k,hk,rfl⟩;omega
 ·intro h;exact⟨(c - 1 - x).toNat,by omega,by omega⟩
theorem wY{E:List P2}(hp:L.Pairwise R)(as:∀a b,R a b->¬R b a)(hE:∀a b,(a,b)∈E->a∈L/\R a b):My.Fwd E L:=by
 intro a b e L1 L2 hl hb;obtain⟨ha,hr⟩:=hE a b e;rw[hl]at ha hp;rcases Gf.mp ha with h | h
 ·exact h
 ·exact absurd ((List.pairwise_append.mp hp).2.2 b hb a h) (as _ _ hr)
theorem m8{ts:List P2}:(a,b)∈ts.map swp↔(b,a)∈ts:=by
 rw[F4];constructor
 ·rintro⟨p,hp,e⟩;unfold swp at e;cases e;exact hp
 ·intro h;exact⟨_,h,rfl⟩
theorem rZ(g:Good c ts)(y:Int):y∈(dlN c).foldl (My.cc (ts.map swp)) L↔My.Reach (ts.map swp) L y:=by
 refine My.o9 (fun a b e=>?_) (wY (nB c) (fun a b h=>by omega) fun a b e=>?_) ((nB c).imp fun h=>by omega) y
 ·have:=g.lo _ (m8.mp e);simp only at this;exact jx.mpr ⟨by omega,by omega⟩
 ·have:=g.lo _ (m8.mp e);simp only at this;exact⟨jx.mpr ⟨by omega,by omega⟩,by omega⟩
theorem lB{n:Int}:∀{ts:List P2},My.outs (ts.map swp) n=(ts.filter (fun p=>decide (p.2=n))).map (·.1)
 | []=>rfl
 | p::ts=>by
  have ih:=lB (n:=n) (ts:=ts);unfold My.outs at ih ⊢;rw[Ge,GW,GW];by_cases h:decide (p.2=n)=true
  ·have h':decide ((swp p).1=n)=true:=h;rw[Gq h,Gq h',Ge,Ge,ih];rfl
  ·have h':¬decide ((swp p).1=n)=true:=h;rw[Gp h,Gp h',ih]
theorem qi{E:List P2}:(My.outs E n).length≤E.length:=by
 unfold My.outs;rw[F0];exact List.length_filter_le _ _
theorem oP{E:List P2}:(My.cc E f n).length≤f.length+E.length:=by
 unfold My.cc;split
 ·rw[F3];have:=qi (E:=E) (n:=n);omega
 ·omega
theorem i9{α β:Type}{f:β->α->β}{l:List α}{b:β}{x:α}(h:l[i]?=some x):(l.take (i+1)).foldl f b=f ((l.take i).foldl f b) x:=by
 rw[List.take_add_one,h,List.foldl_append];rfl
theorem sF(g:Good c ps)(b:Bool):∀x y,(x,y)∈ps.map (Ec b)->0≤y/\y<c:=by
 intro x y h;obtain⟨p,hp,e⟩:=F4.mp h;have:=g.lo p hp;cases b with
 | true=>have e':swp p=(x,y):=e;unfold swp at e';cases e';omega
 | false=>have e':p=(x,y):=e;subst e';simp only at this;omega
theorem oT{F:List Int}{ms:List Nat}{R:Int->Prop}(hc:c≤6)(hF:∀x∈F,0≤x/\x<c)(hR:∀y,y∈F↔R y)(hs:ms.Pairwise (·<·))(hm:∀x,x∈ms↔x∈F.map Int.toNat) :
  ((ms.map fun(n:Nat)=>(n:Int)).Pairwise (·<·))/\∀y,y∈(ms.map fun(n:Nat)=>(n:Int))↔R y:=by
 constructor
 ·rw[Hu];exact hs.imp fun h=>by omega
 ·intro y;rw[←hR,F4];constructor
  ·rintro⟨n,hn,rfl⟩;obtain⟨z,hz,e⟩:=F4.mp ((hm n).mp hn);have:=hF z hz;have:((n:Nat):Int)=z:=by omega
   rw[this];exact hz
  ·intro h;have:=hF y h;exact⟨y.toNat,(hm _).mpr (F4.mpr ⟨y,h,rfl⟩),by omega⟩
def fj(t:Ad):Sp':=fun vs H Q _=>match vs with
 | [.ref x,.int n]=>∃dx c ts bs,H x=some (.ins t.a_A dx (DF c ts bs))/\(0≤n/\n<c)/\bs.length≤15/\Q (.tup ((bwd bs n).map PV.int)) H
 | _=>False
def Aa(bs:List P2)(L:List Int):List P2:=bs.filter fun p=>decide (p.1∈L)&&decide (p.2∈L)
def both(bs:List P2)(L:List Int):List P2:=Aa bs L++(Aa bs L).map swp
def tupI(M:List Int):PV:=.tup (M.map PV.int)
structure OkD (c:Int) (ts bs:List P2):Prop where
 c1:1≤c
 c6:c≤6
 gt:Good c ts
 gb:Good c bs
 st:Srt ts
 sb:Srt bs
 b6:bs.length≤6
theorem gk(g:Good c ps)(f:P2->Bool):Good c (ps.filter f):=⟨g.nd.sublist List.filter_sublist,fun p hp=>g.lo p (HC.mp hp).1⟩
theorem OkD.filter(h:OkD c ts bs)(f g:P2->Bool):OkD c (ts.filter f) (bs.filter g) :=
 ⟨h.c1,h.c6,gk h.gt f,gk h.gb g,List.Pairwise.sublist List.filter_sublist h.st,List.Pairwise.sublist List.filter_sublist h.sb,GU (List.length_filter_le _ _) h.b6⟩
def Dr(t:Ad)(H:PHp)(x:Addr)(c:Int)(ts bs:List P2):Prop:=∃dx,H x=some (.ins t.a_A dx (DF c ts bs))
theorem Dr.up(h:Dr t H x c ts bs)(s:U.Sub H H1):Dr t H1 x c ts bs:=by
 obtain⟨dx,e⟩:=h;exact⟨dx,s _ _ e⟩
def shp(c:Int)(ts bs:List P2):PV:=.tup [.int c,.tup (ts.map prV),.tup (bs.map prV)]
theorem Bv{P:List Value->Prop}(h:∀a b c d e,P [a,b,c,d,e])(us:List Value)(hl:us.length=5):P us:=by
 cases us with
 | nil=>exact absurd hl.symm (Iq _)
 | cons a r=>exact BL (P:=fun r=>P (a::r)) (h a) r (Nat.succ.inj hl)
theorem FJ{P:List Value->Prop}(h:∀a b c d e f,P [a,b,c,d,e,f])(us:List Value)(hl:us.length=6):P us:=by
 cases us with
 | nil=>exact absurd hl.symm (Iq _)
 | cons a r=>exact Bv (P:=fun r=>P (a::r)) (h a) r (Nat.succ.inj hl)
abbrev Sd:=Int×Bool
def sdV(s:Sd):PV:=.tup [.int s.1,.bl s.2]
abbrev Sp3:=My.Stp Str
def stV(s:Sp3):PV:=.tup [.int s.1,.str s.2.1,.int s.2.2]
theorem gQ:m∈fol ts n↔(n,m)∈ts:=by
 unfold fol;simp only[F4,HC,GI];exact⟨fun y_=>by obtain⟨p,⟨h,e⟩,f⟩:=y_;subst e;subst f;exact h,fun h=>⟨_,⟨h,rfl⟩,rfl⟩⟩
theorem gM:m∈src ts n↔(m,n)∈ts:=by
 unfold src;simp only[F4,HC,GI];exact⟨fun y_=>by obtain⟨p,⟨h,e⟩,f⟩:=y_;subst e;subst f;exact h,fun h=>⟨_,⟨h,rfl⟩,rfl⟩⟩
theorem nU:m∈bwd bs n↔(n,m)∈bs∨(m,n)∈bs:=by
 unfold bwd;rw[Gf,gM,gQ,or_comm]
def EdG(ts bs:List P2)(s:Sp3):Prop:=(s.2.1="down"/\(s.1,s.2.2)∈ts)∨(s.2.1="up"/\(s.2.2,s.1)∈ts)∨(s.2.1="bow"/\((s.1,s.2.2)∈bs∨(s.2.2,s.1)∈bs))
theorem qa(gt:Good c ts)(gb:Good c bs){s:Sp3}(h:EdG ts bs s):(0≤s.1/\s.1<c)/\0≤s.2.2/\s.2.2<c:=by
 rcases h with⟨_,h⟩ |⟨_,h⟩ |⟨_,h | h⟩
 ·have:=gt.lo _ h;simp only at this;omega
 ·have:=gt.lo _ h;simp only at this;omega
 ·have:=gb.lo _ h;simp only at this;omega
 ·have:=gb.lo _ h;simp only at this;omega
theorem qo(g:Good c ts)(n:Int):(fol ts n).Nodup:=by
 unfold fol;rw[GD,Hu];refine List.Pairwise.imp_of_mem (fun {x y} hx hy hxy e=>hxy ?_) (GD.mp (g.nd.sublist List.filter_sublist));simp only[HC,GI]at hx hy;exact Prod.ext (hx.2.trans hy.2.symm) e
theorem tQ(g:Good c ts)(n:Int):(src ts n).Nodup:=by
 unfold src;rw[GD,Hu];refine List.Pairwise.imp_of_mem (fun {x y} hx hy hxy e=>hxy ?_) (GD.mp (g.nd.sublist List.filter_sublist));simp only[HC,GI]at hx hy;exact Prod.ext e (hx.2.trans hy.2.symm)
theorem eG(g:Good c ts)(hc:c≤6)(n:Int):(fol ts n).length≤6:=My.bU 6 _ (qo g n) fun x hx=>by have:=g.lo _ (gQ.mp hx);simp only at this;omega
theorem el(g:Good c ts)(hc:c≤6)(n:Int):(src ts n).length≤6:=My.bU 6 _ (tQ g n) fun x hx=>by have:=g.lo _ (gM.mp hx);simp only at this;omega
theorem gG(g:Good c ts)(hc:c≤6)(n:Int):(bwd ts n).length≤6:=by
 refine My.bU 6 _ (Ig.mpr ⟨tQ g n,qo g n,fun x hx y hy e=>?_⟩) fun x hx=>?_
 ·subst e;have h1:=g.lo _ (gM.mp hx);have h2:=g.lo _ (gQ.mp hy);simp only at h1 h2;omega
 ·rcases nU.mp hx with h | h
  ·have:=g.lo _ h;simp only at this;omega
  ·have:=g.lo _ h;simp only at this;omega
def mtg(s s':Sp3):Bool:=!(s.2.1=="up")&&!(s'.2.1=="down")
def psd(G A:List Int)(s s':Sp3):Bool:=if mtg s s' then decide (s.2.2∈A)else !decide (s.2.2∈G)
abbrev RdG(ts bs:List P2)(G A ones:List Int)(r:List Sp3):=My.Rd (EdG ts bs) ("down":Str) "up" G A ones r
abbrev RSG(ts bs:List P2)(G A ones:List Int):=My.RS (EdG ts bs) ("down":Str) "up" G A ones
theorem Ae:("down":Str)≠"up":=by decide
theorem A6:decide (("down":Str)≠"up")=true:=by decide
theorem BY:decide (("up":Str)≠"up")=false:=by decide
theorem AA:decide (("bow":Str)≠"up")=true:=by decide
def bes(ts bs:List P2)(G A:List Int)(s:Sd):List Sd :=
 (if s.1∈G then []else(fol ts s.1).map fun m=>(m,true))++(if (s.2=true/\s.1∈A)∨(s.2=false/\s.1∉G)then(src ts s.1).map (fun m=>(m,false))++(bwd bs s.1).map (fun m=>(m,true))else [])
theorem mW(gt:Good c ts)(gb:Good c bs)(hc:c≤6){G A:List Int}(s:Sd):(bes ts bs G A s).length≤18:=by
 have h1:=eG gt hc s.1;have h2:=el gt hc s.1;have h3:=gG gb hc s.1;unfold bes;rw[F3];have a:(if s.1∈G then []else(fol ts s.1).map fun m=>(m,true)).length≤6:=by split<;>simp<;>omega
 have b:(if (s.2=true/\s.1∈A)∨(s.2=false/\s.1∉G)then(src ts s.1).map (fun m=>(m,false))++(bwd bs s.1).map (fun m=>(m,true))else []).length≤12:=by split<;>simp<;>omega
 omega
theorem n9:z∈bes ts bs G A s↔(s.1∉G/\(s.1,z.1)∈ts/\z.2=true)∨(((s.2=true/\s.1∈A)∨(s.2=false/\s.1∉G))/\(((z.1,s.1)∈ts/\z.2=false)∨(((s.1,z.1)∈bs∨(z.1,s.1)∈bs)/\z.2=true))):=by
 obtain⟨x,p⟩:=z;unfold bes;rw[Gf];refine or_congr ?_ ?_
 ·by_cases h:s.1∈G
  ·simp[h]
  ·simp only[Gp h,F4,gQ,Prod.mk.injEq];exact⟨fun y_=>by obtain⟨m,a,e,f⟩:=y_;subst e;exact⟨h,a,f.symm⟩,fun y_=>by obtain⟨_,a,f⟩:=y_;exact ⟨_,a,rfl,f.symm⟩⟩
 ·by_cases h:(s.2=true/\s.1∈A)∨(s.2=false/\s.1∉G)
  ·simp only[Gq h,Gf,F4,gM,nU,Prod.mk.injEq];constructor
   ·rintro(⟨m,a,rfl,rfl⟩ |⟨m,a,rfl,rfl⟩)
    ·exact⟨h,.inl ⟨a,rfl⟩⟩
    ·exact⟨h,.inr ⟨a,rfl⟩⟩
   ·rintro⟨_,⟨a,rfl⟩ |⟨a,rfl⟩⟩
    ·exact .inl ⟨_,a,rfl,rfl⟩
    ·exact .inr ⟨_,a,rfl,rfl⟩
  ·rw[Gp h];simp only[Hw,h,false_and]
theorem qP(h:RSG ts bs G A ones s.1 s.2)(hz:z∈bes ts bs G A s):RSG ts bs G A ones z.1 z.2:=by
 rcases n9.mp hz with⟨hg,e,hp⟩ |⟨hc,⟨e,hp⟩ |⟨e,hp⟩⟩
 ·have:=My.RS.step (k:=("down":Str)) (m:=z.1) h (.inl ⟨rfl,e⟩) (fun _=>hg) (fun k=>absurd rfl k) (fun k=>absurd rfl k);rw[hp];exact A6▸this
 ·have:=My.RS.step (k:=("up":Str)) (m:=z.1) h (.inr (.inl ⟨rfl,e⟩)) (fun k=>absurd k.symm Ae) (fun _ hp=>hc.elim (fun q=>q.2) fun q=>by rw[hp]at q;exact absurd q.1 (by decide)) (fun _ hp=>hc.elim (fun q=>by rw[hp]at q;exact absurd q.1 (by decide)) fun q=>q.2);rw[hp];exact BY▸this
 ·have:=My.RS.step (k:=("bow":Str)) (m:=z.1) h (.inr (.inr ⟨rfl,e⟩)) (fun k=>absurd k (by decide)) (fun _ hp=>hc.elim (fun q=>q.2) fun q=>by rw[hp]at q;exact absurd q.1 (by decide)) (fun _ hp=>hc.elim (fun q=>by rw[hp]at q;exact absurd q.1 (by decide)) fun q=>q.2);rw[hp];exact AA▸this
theorem ni{L:List Sd}(h0:∀x∈ones,(x,false)∈L)(hs:∀s∈L,∀z∈bes ts bs G A s,z∈L){x:Int}{p:Bool}(h:RSG ts bs G A ones x p):(x,p)∈L:=by
 induction h with
 | base h=>exact h0 _ h
 | step h e h1 h2 h3 ih =>
  rename_i n m p k;have cond:k≠"down"->(p=true/\n∈A)∨(p=false/\n∉G):=fun kd=>by
   cases p with
   | true=>exact .inl ⟨rfl,h2 kd rfl⟩
   | false=>exact .inr ⟨rfl,h3 kd rfl⟩
  refine hs (n,p) ih _ (n9.mpr ?_);rcases e with⟨ek,e⟩ |⟨ek,e⟩ |⟨ek,e⟩
  ·have ek:k="down":=ek;subst ek;exact .inl ⟨h1 rfl,e,A6⟩
  ·have ek:k="up":=ek;subst ek;exact .inr ⟨cond (by decide),.inl ⟨e,BY⟩⟩
  ·have ek:k="bow":=ek;subst ek;exact .inr ⟨cond (by decide),.inr ⟨e,AA⟩⟩
def xp(c:Int):List Sd:=(ulN c).flatMap fun x=>[(x,false),(x,true)]
theorem zt(hc:c≤6){L:List Sd}(nd:L.Nodup)(h:∀s∈L,0≤s.1/\s.1<c):L.length≤12:=by
 have h1:L.length≤(xp c).length:=DM.bU nd fun s hs=>by
  unfold xp;obtain⟨x,p⟩:=s;rw[List.mem_flatMap];refine⟨x,fA.mpr (h _ hs),?_⟩;cases p<;>simp
 have h2:(xp c).length≤(ulN c).length*2:=My.lE fun x _=>by simp
 have h3:(ulN c).length≤6:=by unfold ulN;rw[F0,IC];omega
 omega
theorem zO(gt:Good c ts)(gb:Good c bs)(h1:∀x∈ones,0≤x/\x<c){x:Int}{p:Bool}(h:RSG ts bs G A ones x p):0≤x/\x<c:=by
 cases h with
 | base h=>exact h1 x h
 | step _ e _ _ _=>exact(qa gt gb e).2
def bK(H:PHp)(q:Addr)(vs:List PV)(ls:List (List PV)):Prop:=Paired (fun v l=>∃r,v=PV.ref r/\r≠q/\H r=some (.lst l)) vs ls
theorem bK.up(h:bK H q vs ls)(s:U.Sub H H1):bK H1 q vs ls:=Paired.mapP h fun _ _ ⟨r,e,n,hr⟩=>⟨r,e,n,s _ _ hr⟩
theorem bK.put(h:bK H q vs ls):bK (U.put H q o) q vs ls:=Paired.mapP h fun _ _ ⟨r,e,n,hr⟩=>⟨r,e,n,(ak n).trans hr⟩
theorem j1{α β:Type}{R:α->β->Prop}{a:α}{b:β}(r:R a b):∀{l:List α} {m:List β},Paired R l m->Paired R (l++[a]) (m++[b])
 | [],[],.nil=>.cons r .nil
 | _::_,_::_,.cons h t=>.cons h (j1 r t)
theorem bK.snoc(h:bK H q vs ls)(n:r≠q)(e:H r=some (.lst l)):bK H q (vs++[.ref r]) (ls++[l]):=j1 ⟨r,rfl,n,e⟩ h
theorem wN{α β:Type}{R:α->β->Prop}{v:α}:∀{l:List α} {m:List β} {i:Nat},Paired R l m->l[i]?=some v->∃w,m[i]?=some w/\R v w
 | _::_,_::_,0,.cons h _,e=>by cases e;exact⟨_,rfl,h⟩
 | _::_,_::_,i+1,.cons _ t,e=>by obtain⟨w,q,r⟩:=wN (i:=i) t (by simpa using e);exact⟨w,by simpa using q,r⟩
 | [],[],i,.nil,e=>by simp at e
theorem bK.at{i:Nat}(h:bK H q vs ls)(e:vs[i]?=some v):∃l r,ls[i]?=some l/\v=.ref r/\r≠q/\H r=some (.lst l):=by
 obtain⟨l,hl,r,e,n,hr⟩:=wN h e;exact⟨l,r,hl,e,n,hr⟩
theorem bK.len(h:bK H q vs ls):vs.length=ls.length:=Paired.length h
theorem bK.mv(h:bK H q vs ls)(s:U.Sub H H1)(n:H p=none):bK H1 p vs ls:=Paired.mapP h fun _ _ ⟨r,e,_,hr⟩=>⟨r,e,ar hr n,s _ _ hr⟩
theorem bK.fr{H H0:PHp}{a q:Addr}{o:PO}(e:H0 q=some o):∀{vs:List PV} {ls:List (List PV)},bK H a vs ls->(∀v∈vs,∀b,v=.ref b->H0 b=none)->bK H q vs ls
 | [],[],_,_=>.nil
 | _::_,_::_,.cons ⟨r,er,_,hr⟩ t,f=>.cons ⟨r,er,(ar e (f _ Ga r er)).symm,hr⟩ (bK.fr e t fun v hv=>f v (Gb _ hv))
def Frs(H:PHp)(vs:List PV):Prop:=∀v∈vs,∀b,v=PV.ref b->H b=none
theorem Frs.nil:Frs H []:=fun _ h=>by cases h
theorem Frs.app(a:Frs H vs)(b:Frs H ws):Frs H (vs++ws):=fun v hv=>(Gf.mp hv).elim (a v) (b v)
theorem Frs.one(h:H r=none):Frs H [.ref r]:=fun v hv b e=>by rw[Gk]at hv;rw[hv]at e;cases e;exact h
theorem Frs.sub(h:Frs H vs)(k:∀v∈ws,v∈vs):Frs H ws:=fun v hv=>h v (k v hv)
theorem iA{y:PV}:atI (l++[y]) (-1)=some y:=by
 unfold atI ixN;rw[Gp (by omega),F3,Gr,Gq (by omega),show(-1+((l.length+1:Nat):Int)).toNat=l.length by omega];simp
theorem Al{x y z:PV}:atI [x,y,z] 0=some x:=rfl
theorem Bm{x y z:PV}:atI [x,y,z] 1=some y:=rfl
theorem CM{x y z:PV}:atI [x,y,z] 2=some z:=rfl
theorem E4:flat n (.str k)=true:=by cases n<;>rfl
theorem eY{L:List Int}:((L.map PV.int).filter (fun _=>true)).map (fun y=>PV.tup [y,.bl b])=(L.map fun m=>((m,b):Sd)).map sdV:=by
 rw[HH.mpr (fun _ _=>rfl),GK,GK];rfl
def g32(y:PV):PV:=match y with | .tup [_,_,b]=>b | _=>.non
theorem wq{road:List Sp3}:((road.map stV).filter (fun _=>true)).map g32=(road.map (·.2.2)).map PV.int:=by
 rw[HH.mpr (fun _ _=>rfl),GK,GK];rfl
theorem du{α:Type}(f:α->PV)(l:List α):b9 (l.map f) (some 1) none=l.tail.map f:=by
 unfold b9;rw[show(1:Int)=((1:Nat):Int)from rfl,HT.gE,HT.dk,F0];cases l with
 | nil=>rfl
 | cons a l =>
  rw[Nat.min_eq_left (by simp),Ge,List.drop_one,List.tail_cons,List.tail_cons];exact HX (by simp)
theorem dq{α:Type}(f:α->PV)(l:List α):b9 (l.map f) none (some (-1))=l.dropLast.map f:=by
 have e:HT.sIx (l.map f).length (l.map f).length (some (-1))=l.length - 1:=by
  unfold HT.sIx;rw[F0];simp;omega
 unfold b9;rw[e,HT.dk,List.drop_zero,Nat.sub_zero,List.dropLast_eq_take,List.map_take]
def mts:List Sp3->List Int
 | s::s'::r=>if mtg s s' then s.2.2::mts (s'::r)else mts (s'::r)
 | _=>[]
def mtF(y:PV):Bool:=match y with | .tup [.tup [.int a,.str k,.int b],.tup [.int a',.str k',.int b']]=>mtg (a,k,b) (a',k',b') | _=>false
def mtN(y:PV):PV:=match y with | .tup [.tup [_,_,b],_]=>b | _=>.non
theorem jK:∀(r:List Sp3),((bW (r.dropLast.map stV) (r.tail.map stV)).filter mtF).map mtN=(mts r).map PV.int
 | []=>rfl
 | [s]=>rfl
 | s::s'::r=>by
  have ih:=jK (s'::r);have e1:(s::s'::r).dropLast=s::(s'::r).dropLast:=rfl;have e2:(s::s'::r).tail.map stV=stV s'::(s'::r).tail.map stV:=rfl;have e3:mtF (.tup [stV s,stV s'])=mtg s s':=rfl;rw[e1,e2,Ge,bW,GW,e3];unfold mts;by_cases q:mtg s s'=true
  ·rw[Gq q,Gq q,Ge,Ge,ih];rfl
  ·rw[Gp q,Gp q,ih]
theorem vF:∀{l m:List PV} {z:PV},z∈bW l m->∃x∈l,∃y∈m,z=.tup [x,y]:=fun {l m z} h=>by
 obtain⟨i,hi⟩:=List.getElem?_of_mem h;obtain⟨x,y,h1,h2,e⟩:=fH hi;exact⟨x,Gg h1,y,Gg h2,e⟩
theorem pq(h:∀R:TS',R=tb->jO c R D σ H):jO c tb D σ H:=h tb rfl
theorem E9{tb:TS'}{Pv:Nat->St'->PHp->Prop}(h:∀(N bk:St'->PHp->Prop),(∀σ' H',(∃m',m'<m/\Pv m' σ' H')->N σ' H')->tb { nx:=N,rt:=rt,bk:=bk,ct:=N } σ H1) :
  ∃N:St'->PHp->Prop,(∀σ' H',N σ' H'->∃m',m'<m/\Pv m' σ' H')/\tb { nx:=N,rt:=rt,bk:=bk,ct:=N } σ H1:=⟨fun σ' H'=>∃m',m'<m/\Pv m' σ' H',fun _ _ h=>h,h _ _ fun _ _ h=>h⟩
theorem eK{L:List Sd}:(L.map sdV).all (flat 8)=true:=by
 rw[GB];intro z hz;obtain⟨p,_,rfl⟩:=F4.mp hz;rfl
theorem mH{L:List Sd}:((L.map sdV).any fun z=>deq z (.tup [.int n,.bl b]))=decide ((n,b)∈L):=by
 rw[HD,Ip,GI];constructor
 ·rintro⟨z,hz,e⟩;obtain⟨p,hp,rfl⟩:=F4.mp hz;simp only[sdV,deq,eS,Bool.and_true,HU,Ir]at e;obtain⟨p1,p2⟩:=p;simp only at e;rw[←e.1,← e.2];exact hp
 ·intro h;exact⟨_,F4.mpr ⟨_,h,rfl⟩,by simp[sdV,deq,eS]⟩
structure LI (ts bs:List P2) (G A O:List Int) (W L:List Sd):Prop where
 nd:L.Nodup
 rl:∀s∈L,RSG ts bs G A O s.1 s.2
 rw:∀s∈W,RSG ts bs G A O s.1 s.2
 st:∀x∈O,(x,false)∈L∨(x,false)∈W
 sh:∀s∈L,∀z∈bes ts bs G A s,z∈L∨z∈W
theorem LI.iff(h:LI ts bs G A O [] L)(s:Sd):s∈L↔RSG ts bs G A O s.1 s.2:=by
 refine⟨h.rl s,fun r=>?_⟩;have:=ni (L:=L) (fun x hx=>(h.st x hx).resolve_right (by simp)) (fun s hs z hz=>(h.sh s hs z hz).resolve_right (by simp)) r;exact this
theorem LI.new(h:LI ts bs G A O (W++[s]) L)(hs:s∉L):LI ts bs G A O (W++bes ts bs G A s) (L++[s]):=by
 have go:∀z,z∈L∨z∈W++[s]->z∈L++[s]∨z∈W++bes ts bs G A s:=fun z hz=>by
  rcases hz with q | q
  ·exact .inl (GH _ q)
  ·rcases Gf.mp q with q | q
   ·exact .inr (GH _ q)
   ·exact .inl (Gy _ q)
 have rs:RSG ts bs G A O s.1 s.2:=h.rw s (by simp);refine⟨Ig.mpr ⟨h.nd,by simp,fun x hx y hy e=>hs (by rw[Gk.mp hy]at e;rw[←e];exact hx)⟩,fun z hz=>?_,fun z hz=>?_,fun x hx=>go _ (h.st x hx),fun z hz y hy=>?_⟩
 ·rcases Gf.mp hz with q | q
  ·exact h.rl z q
  ·rw[Gk.mp q];exact rs
 ·rcases Gf.mp hz with q | q
  ·exact h.rw z (GH _ q)
  ·exact qP rs q
 ·rcases Gf.mp hz with q | q
  ·exact go _ (h.sh z q y hy)
  ·rw[Gk.mp q]at hy;exact .inr (Gy _ hy)
theorem iy(I:Nat->St'->PHp->Prop)
  (hs:∀(i:Nat) (x:PV) (σ:St') (H:PHp) (R:St'->PHp->Prop),xs[i]?=some x->I i σ H->(∀σ' H',I (i+1) σ' H'->R σ' H') ->
   ok H/\g x σ H fun σ3 H2=>tt σ3 H2 fun b H3=>cif b (te σ3 H3 fun y H4=>∃l',H4 acc=some (.lst l')/\l'.length<sizeLine/\R σ3 (put H4 acc (.lst (l'++[y])))) (R σ3 H3))
  (hq:∀σ H,I xs.length σ H->ok H/\Q (.ref acc) H) {σ:St'} {H:PHp} (h0:I 0 σ H):dG ok g tt te acc Q xs σ H:=by
 have key:∀(r d:List PV) (σ:St') (H:PHp),xs=d++r->I d.length σ H->dG ok g tt te acc Q r σ H:=by
  intro r
  induction r with
  | nil =>
   intro d σ H e hv;rw[GS]at e;subst e;exact hq σ H hv
  | cons x r ih =>
   intro d σ H e hv;refine hs d.length x σ H _ (by rw[e];simp) hv fun σ' H' h'=>?_;exact ih (d++[x]) σ' H' (by rw[e];simp) (by rw[F3];exact h')
 exact key xs [] σ H rfl h0
def c7(t:Ad):Sp':=fun vs H Q _=>match vs with
 | [.ref x,.ref a]=>∃c ts bs,∃Ls:List (List Int),Dr t H x c ts bs/\H a=some (.lst (Ls.map tupI))/\(∀L∈Ls,Nms c L)/\Q .non H
 | _=>False
def cM:Sp':=fun vs H Q _=>match vs with
 | [.ref a]=>∃Ls:List (List Int),H a=some (.lst (Ls.map tupI))/\(∀L∈Ls,∀x∈L,0≤x/\x<6)/\Ls.flatten.Nodup/\Q .non H
 | _=>False
structure Ap (c:Int) (A B G:List Int):Prop where
 a:Nms c A
 b:Nms c B
 g:Nms c G
 nd:(A++(B++(G++[]))).Nodup
 na:A≠[]
 nb:B≠[]
def dF(t:Ad):Sp':=fun vs H Q _=>match vs with
 | [.ref x,.tup l,.tup m,.tup n]=>∃c ts bs,∃A B G:List Int,Dr t H x c ts bs/\c≤6/\l=A.map PV.int/\m=B.map PV.int/\n=G.map PV.int/\Ap c A B G/\Q .non H
 | _=>False
def jr:Sp':=fun vs H Q _=>match vs with
 | [.tup [_,.str k,_]]=>Q (.bl (!(k=="up"))) H
 | _=>False
theorem Bg:jr [.tup [x,.str k,y]] H Q E=Q (.bl (!(k=="up"))) H:=rfl
def jE:Sp':=fun vs H Q _=>match vs with
 | [.tup [_,.str k,_]]=>Q (.bl (!(k=="down"))) H
 | _=>False
theorem Bn:jE [.tup [x,.str k,y]] H Q E=Q (.bl (!(k=="down"))) H:=rfl
def gW:Sp':=fun vs H Q _=>match vs with
 | [x,y]=>∃s s':Sp3,x=stV s/\y=stV s'/\Q (.bl (mtg s s')) H
 | _=>False
def d8:Sp':=fun vs H Q _=>match vs with
 | [x,y,.tup l,.tup m]=>∃s s':Sp3,∃G A:List Int,x=stV s/\y=stV s'/\l=G.map PV.int/\m=A.map PV.int/\Q (.bl (psd G A s s')) H
 | _=>False
def fM:Sp':=fun vs H Q _=>match vs with
 | [.ref a]=>∃road:List Sp3,H a=some (.lst (road.map stV))/\road≠[]/\road.length≤100/\∀r H1,H r=none->U.Sub H H1->H1 r=some (.lst ((My.nm road).map PV.int))->Q (.ref r) H1
 | _=>False
def fQ:Sp':=fun vs H Q _=>match vs with
 | [.ref a]=>∃road:List Sp3,H a=some (.lst (road.map stV))/\road.length≤100/\∀r H1,H r=none->U.Sub H H1->H1 r=some (.lst ((mts road).map PV.int))->Q (.ref r) H1
 | _=>False
def eO(t:Ad):Sp':=fun vs H Q _=>match vs with
 | [.ref x,z,.tup l,.tup m]=>∃c ts bs,∃G A:List Int,∃n p,z=sdV (n,p)/\Dr t H x c ts bs/\OkD c ts bs/\(0≤n/\n<c)/\l=G.map PV.int/\m=A.map PV.int/\∀r H1,H r=none->U.Sub H H1->H1 r=some (.lst ((bes ts bs G A (n,p)).map sdV))->Q (.ref r) H1
 | _=>False
structure An (ts:List P2) (G A:List Int):Prop where
 up:A.Pairwise (·<·)
 iff:∀y,y∈A↔My.Reach (ts.map swp) G y
theorem An.one(h:An ts G A)(g:An ts G A'):A=A':=My.gX h.up g.up fun y=>(h.iff y).trans (g.iff y).symm
theorem An.shut(h:An ts G A):∀a b,(a,b)∈ts->b∈A->a∈A:=fun a b e hb=>(h.iff a).mpr (.step ((h.iff b).mp hb) (F4.mpr ⟨_,e,rfl⟩))
def lsS(r:List Sp3):Sp3:=r.getLastD (0,("":Str),0)
theorem j8:lsS (p++[e])=e:=by unfold lsS;simp
theorem uQ{r:List Sp3}(h:r≠[]):∃l,My.nm r=l++[(lsS r).2.2]:=by
 rcases List.eq_nil_or_concat r with rfl |⟨p,e,rfl⟩
 ·exact absurd rfl h
 ·rw[List.concat_eq_append,j8];cases p with
  | nil=>exact⟨[e.1],rfl⟩
  | cons a p=>exact⟨a.1::(a::p).map (·.2.2),by show a.1::List.map _ (a::(p++[e]))=_;simp⟩
theorem Af{r:List Sp3}(h:r≠[]):atI ((My.nm r).map PV.int) (-1)=some (.int (lsS r).2.2):=by
 obtain⟨l,e⟩:=uQ h;rw[e,F8];exact iA
theorem zV(h:r≠[]):atI (r.map stV) (-1)=some (stV (lsS r)):=by
 rcases List.eq_nil_or_concat r with rfl |⟨p,e,rfl⟩
 ·exact absurd rfl h
 ·rw[List.concat_eq_append,j8,F8];exact iA
structure Opn (ts bs:List P2) (G A O:List Int) (r:List Sp3):Prop where
 rd:RdG ts bs G A O r
 nd:(My.nm r).Nodup
theorem wa(ok:OkD c ts bs){r:List Sp3}(h:∀s∈r,EdG ts bs s):∀x∈My.nm r,0≤x/\x<c:=by
 cases r with
 | nil=>intro x hx;cases hx
 | cons s r =>
  intro x hx;rcases Gh.mp hx with rfl | hx
  ·exact(qa ok.gt ok.gb (h s Ga)).1
  ·obtain⟨z,hz,rfl⟩:=F4.mp hx;exact(qa ok.gt ok.gb (h z hz)).2
theorem zC{r:List Sp3}(h:r≠[]):(My.nm r).length=r.length+1:=by
 cases r with
 | nil=>exact absurd rfl h
 | cons s r=>simp[My.nm]
theorem Opn.ne(h:Opn ts bs G A O r):r≠[]:=fun e=>by
 obtain⟨s,hs,_⟩:=h.rd.hd;subst e;cases hs
theorem Opn.len(h:Opn ts bs G A O r)(ok:OkD c ts bs):r.length≤5:=by
 have h1:=My.bU 6 _ h.nd fun x hx=>by have:=wa ok h.rd.ed x hx;have:=ok.c6;omega
 rw[zC h.ne]at h1;omega
structure RdK (ts bs:List P2) (G A O:List Int) (tg:List Sp3) (k:Nat) (rs:List (List Sp3)):Prop where
 ok:∀r∈rs,Opn ts bs G A O r
 k1:1≤k/\k≤tg.length
 le:rs.length≤6*18 ^ k
 tg:tg.take k∈rs
theorem bK.of(h:bK H q vs ls)(hl:l∈ls):∃r,PV.ref r∈vs/\H r=some (.lst l):=by
 unfold bK at h
 induction h with
 | nil=>cases hl
 | cons a _ ih =>
  rcases Gh.mp hl with rfl | hl
  ·obtain⟨r,e,_,hr⟩:=a;exact⟨r,by rw[e];exact Ga,hr⟩
  ·obtain⟨r,h1,h2⟩:=ih hl;exact⟨r,Gb _ h1,h2⟩
structure Wy (ts:List P2) (G:List Int) (m:Int) (w:List Int):Prop where
 hd:w.head?=some m
 ch:My.Chn (fun a b=>(a,b)∈ts) w
 lo:∀x∈w.dropLast,x∉G
 la:∃e∈w.getLast?,e∈G
def lsI(w:List Int):Int:=w.getLastD 0
theorem ke:lsI (p++[e])=e:=by unfold lsI;simp
theorem nP{w:List Int}(h:w≠[]):atI (w.map PV.int) (-1)=some (.int (lsI w)):=by
 rcases List.eq_nil_or_concat w with rfl |⟨p,e,rfl⟩
 ·exact absurd rfl h
 ·rw[List.concat_eq_append,ke,F8];exact iA
theorem v9{w:List Int}(h:w≠[]):w.getLast?=some (lsI w)/\w=w.dropLast++[lsI w]:=by
 rcases List.eq_nil_or_concat w with rfl |⟨p,e,rfl⟩
 ·exact absurd rfl h
 ·rw[List.concat_eq_append,ke];simp
structure WyO (ts:List P2) (G:List Int) (m:Int) (w:List Int):Prop where
 hd:w.head?=some m
 ch:My.Chn (fun a b=>(a,b)∈ts) w
 lo:∀x∈w.dropLast,x∉G
theorem WyO.ne{w:List Int}(h:WyO ts G m w):w≠[]:=fun e=>by have:=h.hd;rw[e]at this;cases this
structure WyK (ts:List P2) (G:List Int) (m:Int) (tg:List Int) (k:Nat) (ws:List (List Int)):Prop where
 ok:∀w∈ws,WyO ts G m w
 k1:1≤k/\k≤tg.length
 le:ws.length≤6 ^ k
 tg:tg.take k∈ws
theorem iV{ts:List P2}{G:List Int}:∀{w:List Int},My.Chn (fun a b=>(a,b)∈ts) w->(∃e∈w.getLast?,e∈G)->∀x∈w,My.Reach (ts.map swp) G x
 | [],_,_,x,hx=>by cases hx
 | [a],_,⟨e,he,hg⟩,x,hx=>by
  have:a=e:=by simpa using he
  rw[Gk.mp hx,this];exact .base hg
 | a::b::w,c,⟨e,he,hg⟩,x,hx=>by
  have ih:=iV (w:=b::w) c.2 ⟨e,by rw[Hq]at he;exact he,hg⟩;rcases Gh.mp hx with rfl | hx
  ·exact .step (ih b Ga) (F4.mpr ⟨_,c.1,rfl⟩)
  ·exact ih x hx
theorem An.lo(h:An ts G A)(g:Good c ts)(hG:Nms c G):∀x∈A,0≤x/\x<c:=fun x hx=>by
 cases (h.iff x).mp hx with
 | base h=>exact hG.lo x h
 | step _ e =>
  obtain⟨p,hp,ep⟩:=F4.mp e;have:=g.lo p hp;unfold swp at ep;cases ep;omega
abbrev inV(ws:List (List Int)):List (List PV):=ws.map fun w=>w.map PV.int
structure Tld (ts bs:List P2) (O B G:List Int) (L:List Sd) (A:List Int):Prop where
 an:An ts G A
 nd:L.Nodup
 iff:∀s:Sd,s∈L↔RSG ts bs G A O s.1 s.2
 no:∀s∈L,s.1∉B
structure Rod (ts bs:List P2) (O B G:List Int) (road:List Sp3) (ws:List (List Int)) (A:List Int):Prop where
 an:An ts G A
 op:Opn ts bs G A O road
 la:(lsS road).2.2∈B
 l5:road.length≤5
 wy:Paired (Wy ts G) (mts road) ws
 w6:∀w∈ws,w.length≤6
 ex:∃x p,RSG ts bs G A O x p/\x∈B
theorem zT{a b:Int}(h:0<b)(hb:My.BN n b):My.BN n (a.fmod b):=by
 have:=fm (a:=a) h;exact hb.of_le (by omega)
structure GL (c i j:Int) (l:List P2):Prop where
 lo:∀p∈l,0≤p.1/\p.1<p.2/\p.2<c/\(p.1<i∨(p.1=i/\p.2<j))
 st:Srt l
theorem GL.nil:GL c i j []:=⟨fun p h=>(by cases h),List.Pairwise.nil⟩
theorem GL.up(h:GL c i j l)(hj:j≤j'):GL c i j' l:=⟨fun p hp=>by have:=h.lo p hp;omega,h.st⟩
theorem GL.nx(h:GL c i j l)(j':Int):GL c (i+1) j' l:=⟨fun p hp=>by have:=h.lo p hp;omega,h.st⟩
theorem GL.app(h:GL c i j l)(h0:0≤i)(hj:i<j)(hc:j<c)(c6:c≤6):GL c i (j+1) (l++[(i,j)]):=by
 refine⟨fun p hp=>?_,List.pairwise_append.mpr ⟨h.st,Ii _ _,fun p hp q hq=>?_⟩⟩
 ·rcases Gf.mp hp with q | q
  ·have:=h.lo p q;omega
  ·rw[Gk]at q;subst q;exact⟨h0,hj,hc,.inr ⟨rfl,by show j<j+1;omega⟩⟩
 ·rw[Gk]at hq;subst hq;have:=h.lo p hp;show 6*p.1+p.2<6*i+j;omega
theorem GL.good(h:GL c i j l):Good c l:=⟨h.st.imp fun {a b} h e=>by subst e;exact absurd h (Int.lt_irrefl _),fun p hp=>by have:=h.lo p hp;omega⟩
def n0:Sp':=fun vs H Q _=>match vs with
 | [.int u,.int k]=>(0≤k/\k<100)/\∀n:Int,Q (.int n) H
 | _=>False
def fL:Sp':=fun vs H Q _=>match vs with
 | [.int _]=>Q (.bl true) H
 | _=>False
def jG:Sp':=fun vs H Q _=>match vs with
 | [.fls l,.int k,.int c]=>(0≤k/\k<60)/\(1≤c/\c≤6)/\∃ns:List Int,l=ns.map PV.int/\∀ts bs,OkD c ts bs->Q (shp c ts bs) H
 | _=>False
def ft:Sp':=fun vs H Q _=>match vs with
 | [.tup l,.tup m]=>∃c ts bs,∃G:List Int,PV.tup l=shp c ts bs/\m=G.map PV.int/\OkD c ts bs/\Nms c G/\∀r H1,∀F A:List Int,H r=none->U.Sub H H1->H1 r=some (.lst (F.map PV.int))->An ts G A->(∀y,y∈F↔y∈A)->Q (.ref r) H1
 | _=>False
def ff:Sp':=fun vs H Q _=>match vs with
 | [.tup l,u,.tup m,.ref a]=>∃c ts bs,∃G F A:List Int,∃n p,u=sdV (n,p)/\PV.tup l=shp c ts bs/\m=G.map PV.int/\OkD c ts bs/\H a=some (.lst (F.map PV.int))/\(∀y,y∈F↔y∈A)/\∀r H1,∀L:List Sd,H r=none->U.Sub H H1->H1 r=some (.lst (L.map sdV))->(∀z,z∈L↔z∈bes ts bs G A (n,p))->L.length≤60->Q (.ref r) H1
 | _=>False
def dJ:Sp':=fun vs H Q _=>match vs with
 | [.tup l,.tup m,.tup n]=>∃c ts bs,∃O G:List Int,PV.tup l=shp c ts bs/\m=O.map PV.int/\n=G.map PV.int/\OkD c ts bs/\Nms c O/\Nms c G/\∀r H1 A,∀L:List Sd,U.Sub H H1->An ts G A->H1 r=some (.lst (L.map sdV))->L.length≤12->(∀s:Sd,s∈L↔RSG ts bs G A O s.1 s.2)->Q (.ref r) H1
 | _=>False
def fv:Sp':=fun vs H Q _=>match vs with
 | [.tup l,.tup [.int a,.str k,.int b]]=>∃c ts bs,PV.tup l=shp c ts bs/\OkD c ts bs/\∀z:Bool,(z=true↔EdG ts bs (a,k,b))->Q (.bl z) H
 | _=>False
theorem u6:fv [.tup l,.tup [.int a,.str k,.int b]] H Q E=(∃c ts bs,PV.tup l=shp c ts bs/\OkD c ts bs/\∀z:Bool,(z=true↔EdG ts bs (a,k,b))->Q (.bl z) H):=rfl
def d9:Sp':=fun vs H Q _=>match vs with
 | [.tup [.int a,.str k,.int b],.tup [.int a',.str k',.int b']]=>Q (.bl (mtg (a,k,b) (a',k',b'))) H
 | _=>False
theorem rj:d9 [.tup [.int a,.str k,.int b],.tup [.int a',.str k',.int b']] H Q E=Q (.bl (mtg (a,k,b) (a',k',b'))) H:=rfl
inductive Tol (H:PHp) (ts bs:List P2) (O B G:List Int):Bool→PV→Prop where
 | yes {r:Addr} {N:List Int} {L:List Sd} (h:H r=some (.lst (L.map sdV))) (t:Tld ts bs O B G L N):Tol H ts bs O B G true (.tup [.bl true,.ref r])
 | no {r q:Addr} {us:List PV} {N:List Int} {road:List Sp3} {ws:List (List Int)} (n:r≠q) (h:H r=some (.lst (road.map stV))) (g:H q=some (.lst us)) (l:bK H q us (inV ws)) (t:Rod ts bs O B G road ws N):Tol H ts bs O B G false (.tup [.bl false,.tup [.ref r,.ref q]])
theorem Tol.up(h:Tol H ts bs O B G b v)(s:U.Sub H H1):Tol H1 ts bs O B G b v:=by
 cases h with
 | yes h t=>exact .yes (s _ _ h) t
 | no n h g l t=>exact .no n (s _ _ h) (s _ _ g) (l.up s) t
structure Pt (n:Nat) (c:Int) (Ls:List (List Int)):Prop where
 len:Ls.length=n
 up:∀L∈Ls,L.Pairwise (·<·)
 pm:Ls.flatten.Perm (ulN c)
theorem Pt.nms(h:Pt n c Ls):∀L∈Ls,Nms c L:=fun L hL=>⟨h.up L hL,fun x hx=>fA.mp (h.pm.mem_iff.mp (List.mem_flatten.mpr ⟨L,hL,hx⟩))⟩
def fF:Sp':=fun vs H Q _=>match vs with
 | [.int _,.int c,.int k]=>(1≤c/\c≤6)/\(1≤k/\k≤10)/\∀r H1,∀Ls:List (List Int),H r=none->U.Sub H H1->H1 r=some (.lst (Ls.map tupI))->Pt k.toNat c Ls->Q (.ref r) H1
 | _=>False
def fD:Sp':=fun vs H Q _=>match vs with
 | [.ref a,.int j]=>∃n c,∃Ls:List (List Int),H a=some (.lst (Ls.map tupI))/\Pt n c Ls/\(1≤c/\c≤6)/\n≤10/\(0≤j/\j<n)/\∀r H1,∀Ms:List (List Int),U.Sub H H1->H1 r=some (.lst (Ms.map tupI))->Pt n c Ms->Ms[j.toNat]?≠some []->Q (.ref r) H1
 | _=>False
def b0(F:List Int)(p:P2):List Int:=if p.2∈F/\p.1∉F then F++[p.1]else F
theorem yQ(h:x∈F):x∈b0 F p:=by
 unfold b0;split
 ·exact GH _ h
 ·exact h
theorem mn:∀(l:List P2) {F:List Int} {x:Int},x∈F->x∈l.foldl b0 F
 | [],_,_,h=>h
 | _::l,_,_,h=>mn l (yQ h)
theorem n4:∀(l:List P2) {F:List Int} {x:Int},x∈l.foldl b0 F->x∈F∨∃p∈l,p.1=x
 | [],_,_,h=>.inl h
 | p::l,F,x,h=>by
  rcases n4 l (F:=b0 F p) h with q |⟨z,hz,e⟩
  ·unfold b0 at q;split at q
   ·rcases Gf.mp q with q | q
    ·exact .inl q
    ·exact .inr ⟨p,Ga,(Gk.mp q).symm⟩
   ·exact .inl q
  ·exact .inr ⟨z,Gb _ hz,e⟩
theorem kx{E:List P2}{G:List Int}:∀(l:List P2) {F:List Int},(∀p∈l,(p.2,p.1)∈E)->(∀x∈F,My.Reach E G x)->∀x∈l.foldl b0 F,My.Reach E G x
 | [],_,_,h,x,hx=>h x hx
 | p::l,F,he,h,x,hx=>by
  refine kx l (F:=b0 F p) (fun q hq=>he q (Gb _ hq)) (fun y hy=>?_) x hx;unfold b0 at hy;split at hy
  ·rename_i c;rcases Gf.mp hy with q | q
   ·exact h y q
   ·rw[Gk.mp q];exact .step (h _ c.1) (he p Ga)
  ·exact h y hy
theorem nG:∀(l:List P2),l.Pairwise (fun x y=>ST.pk y<ST.pk x)->(∀p∈l,0≤p.1/\p.1<p.2/\p.2<6)->∀{F:List Int} {a b:Int},(a,b)∈l->b∈l.foldl b0 F->a∈l.foldl b0 F
 | [],_,_,_,_,_,h,_=>by cases h
 | p::l,hs,hl,F,a,b,h,hb=>by
  rw[Iw]at hs;rcases Gh.mp h with e | h
  ·subst e;refine mn l (F:=b0 F (a,b)) ?_;have h0:=hl (a,b) Ga;simp only at h0;have bF:b∈F:=by
    rcases n4 l (F:=b0 F (a,b)) hb with q |⟨z,hz,e⟩
    ·unfold b0 at q;split at q
     ·rcases Gf.mp q with q | q
      ·exact q
      ·have:=Gk.mp q;simp only at this;omega
     ·exact q
    ·have h1:6*z.1+z.2<6*a+b:=hs.1 z hz;have h2:=hl z (Gb _ hz);omega
   unfold b0;by_cases ha:a∈F
   ·rw[Gp (fun c=>c.2 ha)];exact ha
   ·rw[Gq ⟨bF,ha⟩];simp
  ·exact nG l hs.2 (fun q hq=>hl q (Gb _ hq)) (F:=b0 F p) h hb
theorem pX(ok:OkD c ts bs){G:List Int}(x:Int):x∈ts.reverse.foldl b0 G↔My.Reach (ts.map swp) G x:=by
 have c6:=ok.c6;constructor
 ·exact fun h=>kx ts.reverse (E:=ts.map swp) (G:=G) (fun p hp=>F4.mpr ⟨p,List.mem_reverse.mp hp,rfl⟩) (fun y hy=>.base hy) x h
 ·intro h
  induction h with
  | base h=>exact mn _ h
  | step _ e ih =>
   obtain⟨p,hp,ep⟩:=F4.mp e;unfold swp at ep;cases ep;refine nG ts.reverse (List.pairwise_reverse.mpr ok.st) (fun q hq=>?_) (b:=p.2) (List.mem_reverse.mpr hp) ih;have:=ok.gt.lo q (List.mem_reverse.mp hq);omega
theorem vZ(ok:OkD c ts bs){G F:List Int}(hG:Nms c G)(h:∀x,x∈F↔My.Reach (ts.map swp) G x):∃A,An ts G A/\∀y,y∈F↔y∈A:=by
 have lo:∀y∈F,0≤y/\y<c:=fun y hy=>by
  cases (h y).mp hy with
  | base h=>exact hG.lo y h
  | step _ e =>
   obtain⟨p,hp,ep⟩:=F4.mp e;have:=ok.gt.lo p hp;unfold swp at ep;cases ep;omega
 have iff:∀y,y∈(ulN c).filter (fun y=>decide (y∈F))↔y∈F:=fun y=>by
  rw[HC,GI];exact⟨fun z=>z.2,fun z=>⟨fA.mpr (lo y z),z⟩⟩
 exact⟨_,⟨(wR c).filter _,fun y=>(iff y).trans (h y)⟩,fun y=>(iff y).symm⟩
theorem tm:((ts.map prV).filter (at0 n)).map (fun y=>PV.tup [g1 y,.bl b])=((fol ts n).map fun m=>((m,b):Sd)).map sdV:=by
 have e:(fun y=>PV.tup [g1 y,.bl b])=(fun z=>PV.tup [z,.bl b]) ∘ g1:=rfl;have fl:((ts.map prV).filter (at0 n)).map g1=(fol ts n).map PV.int:=dm;rw[e,← GK,fl,GK,GK];rfl
theorem sV:((ts.map prV).filter (at1 n)).map (fun y=>PV.tup [g0 y,.bl b])=((src ts n).map fun m=>((m,b):Sd)).map sdV:=by
 have e:(fun y=>PV.tup [g0 y,.bl b])=(fun z=>PV.tup [z,.bl b]) ∘ g0:=rfl;have fl:((ts.map prV).filter (at1 n)).map g0=(src ts n).map PV.int:=src_list;rw[e,← GK,fl,GK,GK];rfl
theorem or4{a b y w:Prop}:(((a∨b)∨y)∨w)↔(a∨(b∨(w∨y))):=⟨by rintro(((h | h) | h) | h)<;>simp[h],by rintro(h | h | h | h)<;>simp[h]⟩
structure RI (ts bs:List P2) (G A O:List Int) (L:List Sd) (k:Nat):Prop where
 nd:L.Nodup
 rl:∀s∈L,RSG ts bs G A O s.1 s.2
 st:∀x∈O,(x,false)∈L
 sh:∀s∈L.take k,∀z∈bes ts bs G A s,z∈L
theorem RI.iff(h:RI ts bs G A O L k)(hk:L.length≤k)(s:Sd):s∈L↔RSG ts bs G A O s.1 s.2:=by
 refine⟨h.rl s,fun r=>?_⟩;have e:L.take k=L:=HX hk;have sh:=h.sh;rw[e]at sh;exact ni h.st sh r
def qE(O:List Int):List Sd:=O.map fun m=>((m,false):Sd)
theorem dA{ts:List P2}:((ts.map prV).any fun z=>deq z (.tup [.int a,.int b]))=decide ((a,b)∈ts):=by
 rw[HD,Ip,GI];constructor
 ·rintro⟨z,hz,e⟩;obtain⟨p,hp,rfl⟩:=F4.mp hz;simp only[prV,deq,eS,Bool.and_true,HU,Ir]at e;obtain⟨p1,p2⟩:=p;simp only at e;rw[←e.1,← e.2];exact hp
 ·intro h;exact⟨_,F4.mpr ⟨_,h,rfl⟩,by simp[prV,deq,eS]⟩
theorem cR{ts:List P2}:(ts.map prV).all (flat 8)=true:=by
 rw[GB];intro z hz;obtain⟨p,_,rfl⟩:=F4.mp hz;rfl
theorem zE(g:Good c bs){a b:Int}:((if b<a then b else a,if b>a then b else a)∈bs)↔((a,b)∈bs∨(b,a)∈bs):=by
 by_cases h:b<a
 ·rw[Gq h,Gp (by omega)];refine⟨.inr,fun z=>z.resolve_left fun q=>?_⟩;have:=g.lo _ q;simp only at this;omega
 ·rw[Gp h];by_cases h2:b>a
  ·rw[Gq h2];refine⟨.inl,fun z=>z.resolve_right fun q=>?_⟩;have:=g.lo _ q;simp only at this;omega
  ·have e:a=b:=by omega
   subst e;rw[Gp h2];simp
theorem De:flat n (.int k)=true:=by cases n<;>rfl
theorem Fv:flat n (.bl k)=true:=by cases n<;>rfl
theorem tj:(("down":Str)="up")=False:=eq_false (by decide)
theorem sI:(("down":Str)="bow")=False:=eq_false (by decide)
theorem qt:(("up":Str)="down")=False:=eq_false (by decide)
theorem rp:(("up":Str)="bow")=False:=eq_false (by decide)
theorem rf:(("bow":Str)="down")=False:=eq_false (by decide)
theorem tu:(("bow":Str)="up")=False:=eq_false (by decide)
structure Rl (H:PHp) (q:Addr) (rs:List Addr) (Ls:List (List Int)):Prop where
 nd:rs.Nodup
 at':Paired (fun r (L:List Int)=>r≠q/\H r=some (.lst (L.map PV.int))) rs Ls
theorem Rl.up(h:Rl H q rs Ls)(s:U.Sub H H1):Rl H1 q rs Ls:=⟨h.nd,Paired.mapP h.at' fun _ _ y_=>by obtain⟨a,b⟩:=y_;exact ⟨a,s _ _ b⟩⟩
theorem r8{H:PHp}{q:Addr}{M:List Int}:∀{rs:List Addr} {Ls:List (List Int)} {k:Nat} (hk:k<rs.length),rs.Nodup->Paired (fun r (L:List Int)=>r≠q/\H r=some (.lst (L.map PV.int))) rs Ls->Paired (fun r (L:List Int)=>r≠q/\put H rs[k] (.lst (M.map PV.int)) r=some (.lst (L.map PV.int))) rs (Ls.set k M)
 | r::rs,L::Ls,0,hk,nd,.cons h t=>by
  rw[HN]at nd;refine .cons ⟨h.1,ah⟩ ?_;have:∀{rs:List Addr} {Ls:List (List Int)},r∉rs->Paired (fun r (L:List Int)=>r≠q/\H r=some (.lst (L.map PV.int))) rs Ls->Paired (fun z (L:List Int)=>z≠q/\put H r (.lst (M.map PV.int)) z=some (.lst (L.map PV.int))) rs Ls:=fun {rs Ls} hn p=>by
   induction p with
   | nil=>exact .nil
   | cons a _ ih=>exact .cons ⟨a.1,(ak fun e=>hn (by rw[e];exact Ga)).trans a.2⟩ (ih fun z=>hn (Gb _ z))
  exact this nd.1 t
 | r::rs,L::Ls,k+1,hk,nd,.cons h t=>by
  rw[HN]at nd;have hk':k<rs.length:=by simpa using hk
  exact .cons ⟨h.1,(ak fun e=>nd.1 (by rw[e];exact Gz hk')).trans h.2⟩ (r8 hk' nd.2 t)
theorem fg{α:Type}:∀{Ls:List (List α)} {k:Nat} (hk:k<Ls.length) (X:List α),((Ls.set k X).flatten++Ls[k]).Perm (Ls.flatten++X)
 | L::Ls,0,_,X=>by
  simp only[List.set_cons_zero,HI,List.getElem_cons_zero];refine(List.perm_append_comm (l₁:=X++Ls.flatten) (l₂:=L)).trans ?_;rw[Hy];exact List.Perm.append_left L List.perm_append_comm
 | L::Ls,k+1,hk,X=>by
  simp only[List.set_cons_succ,HI,List.getElem_cons_succ,Hy];exact List.Perm.append_left L (fg (by simpa using hk) X)
theorem vv:ulN ((i+1:Nat):Int)=ulN (i:Nat)++[((i:Nat):Int)]:=by
 unfold ulN;rw[Ht,Ht,List.range_succ,F8];rfl
structure PtI (n:Nat) (i:Nat) (Ls:List (List Int)):Prop where
 len:Ls.length=n
 up:∀L∈Ls,L.Pairwise (·<·)
 pm:Ls.flatten.Perm (ulN (i:Nat))
theorem PtI.next(h:PtI n i Ls)(hk:k<Ls.length):PtI n (i+1) (Ls.set k (Ls[k]++[((i:Nat):Int)])):=by
 refine⟨by rw[List.length_set];exact h.len,fun L hL=>?_,?_⟩
 ·rcases List.mem_or_eq_of_mem_set hL with q | q
  ·exact h.up L q
  ·subst q;refine List.pairwise_append.mpr ⟨h.up _ (Gz hk),Ii _ _,fun x hx y hy=>?_⟩;rw[Gk]at hy;subst hy;exact(fA.mp (h.pm.mem_iff.mp (List.mem_flatten.mpr ⟨_,Gz hk,hx⟩))).2
 ·have p:=fg hk (Ls[k]++[((i:Nat):Int)]);rw[vv];have p2:((Ls.set k (Ls[k]++[((i:Nat):Int)])).flatten++Ls[k]).Perm ((Ls.flatten++[((i:Nat):Int)])++Ls[k]):=by
   refine p.trans ?_;rw[Hy];exact List.Perm.append_left _ List.perm_append_comm
  exact((List.perm_append_right_iff _).mp p2).trans (h.pm.append_right _)
theorem nI{H:PHp}{q:Addr}:∀{rs:List Addr} {Ls:List (List Int)},Paired (fun r (L:List Int)=>r≠q/\H r=some (.lst (L.map PV.int))) rs Ls->(rs.map PV.ref).map (lZ H)=Ls.map tupI
 | [],[],.nil=>rfl
 | r::rs,L::Ls,.cons h t=>by rw[Ge,Ge,Ge,nI t,dU h.2];rfl
theorem vz{α:Type}(f:α->PV)(P:List α)(e:α):b9 ((P++[e]).map f) (some (-1)) none=[f e]:=by
 have h:HT.sIx ((P++[e]).map f).length 0 (some (-1))=P.length:=by
  unfold HT.sIx;rw[F0];simp;omega
 unfold b9;rw[h,HT.dk,F0,F8,List.drop_append_of_le_length (by simp)];have:(P.map f).drop P.length=[]:=List.drop_of_length_le (by simp);rw[this];simp
theorem Pt.move(h:Pt n c Ls){j pl:Nat}(hj:j<Ls.length)(hp:pl<Ls.length){P:List Int}{e:Int}(ej:Ls[j]=[])(ep:Ls[pl]=P++[e]):Pt n c ((Ls.set j [e]).set pl P)/\((Ls.set j [e]).set pl P)[j]?=some [e]:=by
 have ne:pl≠j:=fun z=>by subst z;rw[ej]at ep;simp at ep
 have hp':pl<(Ls.set j [e]).length:=by rw[List.length_set];exact hp
 have eA:(Ls.set j [e])[pl]=P++[e]:=by rw[List.getElem_set_ne ne.symm];exact ep
 refine⟨⟨by rw[List.length_set,List.length_set];exact h.len,fun L hL=>?_,?_⟩,?_⟩
 ·rcases List.mem_or_eq_of_mem_set hL with q | q
  ·rcases List.mem_or_eq_of_mem_set q with q | q
   ·exact h.up L q
   ·subst q;exact Ii _ _
  ·subst q;have:=h.up _ (Gz hp);rw[ep]at this;exact(List.pairwise_append.mp this).1
 ·have p1:=fg hj [e];rw[ej,GS]at p1;have p2:=fg hp' P;rw[eA]at p2;have p3:(((Ls.set j [e]).set pl P).flatten++(P++[e])).Perm (Ls.flatten++(P++[e])):=by
   refine p2.trans ((p1.append_right P).trans ?_);rw[Hy];exact List.Perm.append_left _ List.perm_append_comm
  exact((List.perm_append_right_iff _).mp p3).trans h.pm
 ·rw[List.getElem?_set_ne ne,Il hj]
theorem kG{α:Type}{k:Nat}:∀{Ls:List (List α)},(∀L∈Ls,L.length≤k)->Ls.flatten.length≤Ls.length*k
 | [],_=>by simp
 | L::Ls,h=>by
  have:=kG (k:=k) (Ls:=Ls) fun M hM=>h M (Gb _ hM);have h1:=h L Ga;rw[HI,F3,Gx,Nat.add_mul];omega
theorem Pt.ap(h:Pt 4 c [O,B,G,R])(no:O≠[])(nb:B≠[]):Ap c O B G:=by
 have n:=h.nms;have nd:(O++(B++(G++(R++[])))).Nodup:=h.pm.nodup_iff.mpr ((wR c).imp fun h=>by omega);refine⟨n O (by simp),n B (by simp),n G (by simp),nd.sublist ?_,no,nb⟩;exact List.Sublist.append_left (List.Sublist.append_left (List.Sublist.append_left (List.nil_sublist _) G) B) O
theorem dX{q:Int->Bool}:∀{l:List Int},((l.map PV.int).filter (onI q)).map (fun y=>y)=(l.filter q).map PV.int
 | []=>rfl
 | k::l=>by
  have e:onI q (PV.int k)=q k:=rfl;rw[Ge,GW,GW,e];by_cases h:q k=true
  ·rw[Gq h,Gq h,Ge,Ge,dX]
  ·rw[Gp h,Gp h,dX]
theorem jQ{L:List Int}(h:∀x∈L,0≤x):(L.map Int.toNat).Nodup↔L.Nodup:=by
 rw[GD,GD,Hu];constructor
 ·exact fun p=>p.imp fun n e=>n (by rw[e])
 ·exact fun p=>List.Pairwise.imp_of_mem (fun {x y} hx hy hxy=>by have h1:=h x hx;have h2:=h y hy;omega) p
theorem bZ{t R:TS'}(h:∀T1 R1:TS',T1=t->R1=R->oh (oW c T1 i5) R1 D σ H):oh (oW c t i5) R D σ H:=h t R rfl rfl
theorem BJ(ok:OkD c ts bs){G:List Int}(hG:Nms c G):∃N,An ts G N:=by
 obtain⟨A,an,_⟩:=vZ ok hG (F:=ts.reverse.foldl b0 G) (fun x=>pX ok x);exact⟨A,an⟩
def zp(r:List Sp3):List (Sp3×Sp3):=r.dropLast.zip r.tail
def zpV(p:Sp3×Sp3):PV:=.tup [stV p.1,stV p.2]
theorem zip_map{α β:Type}(f:α->PV)(g:β->PV):∀(l:List α) (m:List β),bW (l.map f) (m.map g)=(l.zip m).map fun p=>PV.tup [f p.1,g p.2]
 | [],_=>by simp[bW]
 | _::_,[]=>by simp[bW]
 | x::l,y::m=>by simp[bW,zip_map f g l m]
theorem mG(r:List Sp3):bW (r.dropLast.map stV) (r.tail.map stV)=(zp r).map zpV:=zip_map _ _ _ _
theorem lK{α:Type}:∀(r:List α),r.zip r.tail=r.dropLast.zip r.tail
 | []=>rfl
 | [_]=>rfl
 | x::y::r=>by
  have ih:=lK (y::r);simp only[List.tail_cons,List.zip_cons_cons,List.dropLast_cons₂]at ih ⊢;rw[ih]
theorem nD(r:List Sp3):bW (r.map stV) (r.tail.map stV)=(zp r).map zpV:=by
 rw[zip_map,lK];rfl
theorem jU(r:List Sp3):(zp r).length≤r.length:=by
 unfold zp;rw[List.length_zip,HB];omega
def fN(t:Ad):Sp':=fun vs H Q _=>match vs with
 | [.ref x,y]=>∃c ts bs,∃s:Sp3,y=stV s/\Dr t H x c ts bs/\∀b:Bool,(b=true↔EdG ts bs s)->Q (.bl b) H
 | _=>False
def Lkd(r:List Sp3):Prop:=∀p∈zp r,p.1.2.2=p.2.1
def eC:Sp':=fun vs H Q _=>match vs with
 | [.ref a]=>∃c ts bs,∃road:List Sp3,OkD c ts bs/\H a=some (.lst (road.map stV))/\road≠[]/\road.length≤50/\(∀s∈road,EdG ts bs s)/\∀b:Bool,(b=true↔Lkd road/\(My.nm road).Nodup)->Q (.bl b) H
 | _=>False
structure OpI (ts bs:List P2) (G N:List Int) (r:List Sp3):Prop where
 ne:r≠[]
 ed:∀s∈r,EdG ts bs s
 lk:Lkd r
 nd:(My.nm r).Nodup
 ps:∀p∈zp r,psd G N p.1 p.2=true
def d5(t:Ad):Sp':=fun vs H Q _=>match vs with
 | [.ref x,.ref a,.tup n]=>∃c ts bs,∃G N:List Int,∃road:List Sp3,Dr t H x c ts bs/\OkD c ts bs/\n=G.map PV.int/\Nms c G/\An ts G N/\H a=some (.lst (road.map stV))/\road.length≤50/\∀b:Bool,(b=true↔OpI ts bs G N road)->Q (.bl b) H
 | _=>False
def gR(t:Ad):Sp':=fun vs H Q _=>match vs with
 | [.ref x,.int m,.tup n,.ref a]=>∃c ts bs,∃G w:List Int,Dr t H x c ts bs/\n=G.map PV.int/\H a=some (.lst (w.map PV.int))/\w.length≤50/\∀b:Bool,(b=true↔Wy ts G m w)->Q (.bl b) H
 | _=>False
def Wys(ts:List P2)(G ms:List Int)(ws:List (List Int)):Prop:=ws.length=ms.length/\∀p∈ms.zip ws,Wy ts G p.1 p.2
def gU(t:Ad):Sp':=fun vs H Q _=>match vs with
 | [.ref x,.ref a,.tup n,.ref q]=>∃c ts bs,∃G:List Int,∃road:List Sp3,∃us,∃ws:List (List Int),Dr t H x c ts bs/\n=G.map PV.int/\H a=some (.lst (road.map stV))/\road.length≤50/\H q=some (.lst us)/\bK H q us (inV ws)/\ws.length≤50/\(∀w∈ws,w.length≤50)/\∀b:Bool,(b=true↔Wys ts G (mts road) ws)->Q (.bl b) H
 | _=>False
structure RdP (ts bs:List P2) (O B G:List Int) (r:List Sp3) (ws:List (List Int)):Prop where
 ne:r≠[]
 ed:∀s∈r,EdG ts bs s
 lk:Lkd r
 nd:(My.nm r).Nodup
 ps:∀p∈zp r,mtg p.1 p.2=false->p.1.2.2∉G
 hd:∀s∈r.head?,s.1∈O
 la:(lsS r).2.2∈B
 wy:Wys ts G (mts r) ws
theorem nT:∀{r:List Sp3} {m:Int},m∈mts r↔∃p∈zp r,mtg p.1 p.2=true/\p.1.2.2=m
 | [],m=>by simp[mts,zp]
 | [s],m=>by simp[mts,zp]
 | s::s'::r,m=>by
  have ih:=nT (r:=s'::r) (m:=m);have e:zp (s::s'::r)=(s,s')::zp (s'::r):=by simp[zp]
  rw[e];unfold mts;by_cases q:mtg s s'=true
  ·rw[Gq q,Gh,ih];constructor
   ·rintro(rfl |⟨p,hp,z⟩)
    ·exact⟨_,Ga,q,rfl⟩
    ·exact⟨p,Gb _ hp,z⟩
   ·rintro⟨p,hp,z⟩;rcases Gh.mp hp with rfl | hp
    ·exact .inl z.2.symm
    ·exact .inr ⟨p,hp,z⟩
  ·rw[Gp q,ih];constructor
   ·rintro⟨p,hp,z⟩;exact⟨p,Gb _ hp,z⟩
   ·rintro⟨p,hp,z⟩;rcases Gh.mp hp with rfl | hp
    ·exact absurd z.1 q
    ·exact⟨p,hp,z⟩
theorem Ao(an:An ts G N){m:Int}{w:List Int}(h:Wy ts G m w):m∈N:=by
 have h1:=h.hd;cases w with
 | nil=>cases h1
 | cons x w =>
  have e:x=m:=by simpa using h1
  subst e;exact(an.iff x).mpr (iV h.ch h.la x Ga)
theorem nc{α β:Type}:∀{l:List α} {m:List β},m.length=l.length->∀x∈l,∃y,(x,y)∈l.zip m
 | [],_,_,_,h=>by cases h
 | _::_,[],e,_,_=>by cases e
 | a::l,b::m,e,x,h=>by
  rcases Gh.mp h with rfl | h
  ·exact⟨b,by simp⟩
  ·obtain⟨y,hy⟩:=nc (l:=l) (m:=m) (by simpa using e) x h;exact⟨y,by simp[hy]⟩
theorem uB(an:An ts G N):RdP ts bs O B G r ws↔OpI ts bs G N r/\(∀s∈r.head?,s.1∈O)/\(lsS r).2.2∈B/\Wys ts G (mts r) ws:=by
 constructor
 ·intro h;refine⟨⟨h.ne,h.ed,h.lk,h.nd,fun p hp=>?_⟩,h.hd,h.la,h.wy⟩;unfold psd;by_cases q:mtg p.1 p.2=true
  ·rw[Gq q,GI];obtain⟨w,hw⟩:=nc h.wy.1 p.1.2.2 (nT.mpr ⟨p,hp,q,rfl⟩);exact Ao an (h.wy.2 _ hw)
  ·rw[Gp q];simpa using h.ps p hp (by simpa using q)
 ·rintro⟨o,hd,la,wy⟩;refine⟨o.ne,o.ed,o.lk,o.nd,fun p hp q=>?_,hd,la,wy⟩;have:=o.ps p hp;unfold psd at this;rw[Gp (by rw[q];decide)]at this;simpa using this
def d4(t:Ad):Sp':=fun vs H Q _=>match vs with
 | [.ref x,.tup l,.tup m,.tup n,.ref a,.ref q]=>∃c ts bs,∃O B G:List Int,∃road:List Sp3,∃us,∃ws:List (List Int),Dr t H x c ts bs/\OkD c ts bs/\l=O.map PV.int/\m=B.map PV.int/\n=G.map PV.int/\Ap c O B G/\H a=some (.lst (road.map stV))/\road.length≤50/\H q=some (.lst us)/\bK H q us (inV ws)/\ws.length≤50/\(∀w∈ws,w.length≤50)/\∀b:Bool,(b=true↔RdP ts bs O B G road ws)->Q (.bl b) H
 | _=>False
def lL(c:Int)(ts bs:List P2)(O B G N:List Int)(L:List Sd):Prop:=(∀s∈L,(0≤s.1/\s.1<c)/\s.1∉B/\∀z∈bes ts bs G N s,z∈L)/\∀x∈O,((x,false):Sd)∈L
def fi(t:Ad):Sp':=fun vs H Q _=>match vs with
 | [.ref x,.tup l,.tup m,.tup n,.ref a]=>∃c ts bs,∃O B G N:List Int,∃L:List Sd,Dr t H x c ts bs/\OkD c ts bs/\l=O.map PV.int/\m=B.map PV.int/\n=G.map PV.int/\Ap c O B G/\An ts G N/\H a=some (.lst (L.map sdV))/\L.length≤50/\∀b:Bool,(b=true↔lL c ts bs O B G N L)->Q (.bl b) H
 | _=>False
noncomputable def dB (p:PV->Prop) (y:PV):PV:=.bl (@decide (p y) (Classical.propDecidable _))
theorem eV(h:b=true↔p y):PV.bl b=dB p y:=by
 unfold dB;rw[PV.bl.injEq,HD,h,@decide_eq_true_iff _ (Classical.propDecidable _)]
theorem cG{xs:List PV}:((xs.filter (fun _=>true)).map (dB p))=(xs.map fun y=>@decide (p y) (Classical.propDecidable _)).map PV.bl:=by
 rw[HH.mpr (fun _ _=>rfl),GK];rfl
theorem dC{p:PV->Prop}{xs:List PV}:(xs.map fun y=>@decide (p y) (Classical.propDecidable _)).all id=true↔∀y∈xs,p y:=by
 rw[List.all_map,GB];exact forall_congr' fun y=>imp_congr_right fun _=>@decide_eq_true_iff _ (Classical.propDecidable _)
theorem zL{p:PV->Prop}{xs:List PV}:(xs.map fun y=>@decide (p y) (Classical.propDecidable _)).any id=true↔∃y∈xs,p y:=by
 rw[List.any_map,Ip];exact exists_congr fun y=>and_congr_right fun _=>@decide_eq_true_iff _ (Classical.propDecidable _)
theorem wU{t:List Sp3}(e:r=s::t):atI (r.map stV) 0=some (stV s):=by
 subst e;exact cn (l:=stV s::t.map stV) (i:=0) (by simp)
def im{α:Type}(f:α->PV)(P:α->Prop)(y:PV):Prop:=∃x,y=f x/\P x
theorem cI{f:α->PV}(inj:∀a b,f a=f b->a=b){P:α->Prop}{x:α}:im f P (f x)↔P x:=⟨fun y_=>by obtain⟨z,e,h⟩:=y_;rw[inj _ _ e];exact h,fun h=>⟨x,rfl,h⟩⟩
theorem fb{f:α->PV}(inj:∀a b,f a=f b->a=b){P:α->Prop}{l:List α}:(∀y∈l.map f,im f P y)↔∀x∈l,P x :=
 ⟨fun h x hx=>(cI inj).mp (h _ (F4.mpr ⟨x,hx,rfl⟩)),fun h y hy=>by obtain⟨x,hx,rfl⟩:=F4.mp hy;exact(cI inj).mpr (h x hx)⟩
theorem xW{f:α->PV}(inj:∀a b,f a=f b->a=b){P:α->Prop}{l:List α}:(∃y∈l.map f,im f P y)↔∃x∈l,P x :=
 ⟨fun y_=>by obtain⟨y,hy,h⟩:=y_;obtain⟨x,hx,rfl⟩:=F4.mp hy;exact⟨x,hx,(cI inj).mp h⟩,fun y_=>by obtain⟨x,hx,h⟩:=y_;exact ⟨_,F4.mpr ⟨x,hx,rfl⟩,(cI inj).mpr h⟩⟩
theorem eP(a b:Sp3)(h:stV a=stV b):a=b:=by
 obtain⟨x,k,y⟩:=a;obtain⟨x',k',y'⟩:=b;unfold stV at h;simp only[PV.tup.injEq,HP,PV.int.injEq,PV.str.injEq,and_true]at h;obtain⟨rfl,rfl,rfl⟩:=h;rfl
theorem nJ(a b:Sd)(h:sdV a=sdV b):a=b:=by
 obtain⟨x,k⟩:=a;obtain⟨x',k'⟩:=b;unfold sdV at h;simp only[PV.tup.injEq,HP,PV.int.injEq,PV.bl.injEq,and_true]at h;obtain⟨rfl,rfl⟩:=h;rfl
theorem gI(a b:Sp3×Sp3)(h:zpV a=zpV b):a=b:=by
 obtain⟨x,y⟩:=a;obtain⟨x',y'⟩:=b;unfold zpV at h;simp only[PV.tup.injEq,HP,and_true]at h;rw[eP _ _ h.1,eP _ _ h.2]
theorem gD(a b:Int)(h:PV.int a=PV.int b):a=b:=by injection h
def ppV(p:Int×Int):PV:=.tup [.int p.1,.int p.2]
theorem nF(a b:Int×Int)(h:ppV a=ppV b):a=b:=by
 obtain⟨x,y⟩:=a;obtain⟨x',y'⟩:=b;unfold ppV at h;simp only[PV.tup.injEq,HP,PV.int.injEq,and_true]at h;rw[h.1,h.2]
theorem kz(ok:OkD c ts bs){r:List Sp3}(h:∀s∈r,EdG ts bs s):∀y∈My.nm r,0≤y/\y<6:=fun y hy=>by
 have:=wa ok h y hy;have:=ok.c6;omega
theorem uk{w:List Int}:bW (w.dropLast.map PV.int) (w.tail.map PV.int)=(w.dropLast.zip w.tail).map ppV:=zip_map _ _ _ _
theorem j4{R:Int->Int->Prop}:∀{w:List Int},My.Chn R w↔∀p∈w.dropLast.zip w.tail,R p.1 p.2
 | []=>by simp[My.Chn]
 | [a]=>by simp[My.Chn]
 | a::b::w=>by
  have ih:=j4 (R:=R) (w:=b::w);simp only[My.Chn,List.dropLast_cons₂,List.tail_cons,List.zip_cons_cons,Gh,forall_eq_or_imp];rw[ih];rfl
theorem dh{G w:List Int}:Wy ts G m w↔w≠[]/\w.head?=some m/\lsI w∈G/\(∀x∈w.dropLast,x∉G)/\∀p∈w.dropLast.zip w.tail,p∈ts:=by
 constructor
 ·intro h;have ne:w≠[]:=fun e=>by have:=h.hd;rw[e]at this;cases this
  obtain⟨l1,l2⟩:=v9 ne;refine⟨ne,h.hd,?_,h.lo,j4.mp h.ch⟩;obtain⟨e,he,hg⟩:=h.la;rw[l1]at he;rw[Gw he];exact hg
 ·rintro⟨ne,hd,la,lo,ch⟩;exact⟨hd,j4.mpr ch,lo,_,(v9 ne).1,la⟩
def wyP(H:PHp)(ts:List P2)(G:List Int)(y:PV):Prop:=∃m r,∃w:List Int,y=.tup [.int m,.ref r]/\H r=some (.lst (w.map PV.int))/\Wy ts G m w
theorem gP:∀{L M:List Int},L.map PV.int=M.map PV.int->L=M
 | [],[],_=>rfl
 | [],_::_,h=>by simp at h
 | _::_,[],h=>by simp at h
 | x::L,y::M,h=>by
  simp only[Ge,HP,PV.int.injEq]at h;rw[h.1,gP h.2]
theorem hZ{H:PHp}{q:Addr}{ts:List P2}{G:List Int}:∀{ms:List Int} {us:List PV} {ws:List (List Int)},bK H q us (inV ws)->((∀y∈bW (ms.map PV.int) us,wyP H ts G y)↔∀p∈ms.zip ws,Wy ts G p.1 p.2)
 | [],_,_,_=>by simp[bW]
 | _::_,[],[],_=>by simp[bW]
 | _::_,[],_::_,h=>by cases h
 | _::_,_::_,[],h=>by cases h
 | m::ms,u::us,w::ws,h=>by
  cases h with
  | cons h1 h2 =>
   obtain⟨r,rfl,_,hr⟩:=h1;have ih:=hZ (ts:=ts) (G:=G) (ms:=ms) h2;simp only[Ge,bW,List.zip_cons_cons,Gh,forall_eq_or_imp];refine and_congr ⟨?_,fun z=>⟨m,r,w,rfl,hr,z⟩⟩ ih;rintro⟨m',r',w',e,hr',wy⟩;simp only[PV.tup.injEq,HP,PV.int.injEq,PV.ref.injEq,and_true]at e;obtain⟨rfl,rfl⟩:=e;rw[hr]at hr';have:=gP (PO.lst.inj (Gw hr'));rw[this];exact wy
theorem iw{H:PHp}{q:Addr}:∀{ms:List Int} {us:List PV} {ws:List (List Int)},bK H q us (inV ws)->∀y∈bW (ms.map PV.int) us,∃m r,∃w∈ws,y=.tup [.int m,.ref r]/\H r=some (.lst (w.map PV.int))
 | [],_,_,_,_,hy=>by cases hy
 | _::_,[],_,_,_,hy=>by cases hy
 | _::_,_::_,[],h,_,_=>by cases h
 | m::ms,u::us,w::ws,h,y,hy=>by
  cases h with
  | cons h1 h2 =>
   obtain⟨r,rfl,_,hr⟩:=h1;simp only[Ge,bW]at hy;rcases Gh.mp hy with rfl | hy
   ·exact⟨m,r,w,Ga,rfl,hr⟩
   ·obtain⟨m',r',w',hw,z⟩:=iw h2 y hy;exact⟨m',r',w',Gb _ hw,z⟩
def sdF(y:PV):PV:=match y with | .tup [a,_]=>a | _=>.non
theorem ql{L:List Sd}:((L.map sdV).filter (fun _=>true)).map sdF=(L.map (·.1)).map PV.int:=by
 rw[HH.mpr (fun _ _=>rfl),GK,GK];rfl
theorem k7(ok:OkD c ts bs){G M:List Int}:∀l:List Sd,(l.flatMap (bes ts bs G M)).length≤18*l.length:=fun l=>by
 induction l with
 | nil=>simp
 | cons s l ih=>rw[List.flatMap_cons,F3,Gx];have:=mW ok.gt ok.gb ok.c6 (G:=G) (A:=M) s;omega
def mtZ(l:List (Sp3×Sp3)):List Int:=(l.filter fun p=>mtg p.1 p.2).map (·.1.2.2)
theorem jZ:∀(r:List Sp3),mts r=mtZ (zp r)
 | []=>rfl
 | [_]=>rfl
 | s::s'::r=>by
  have ih:=jZ (s'::r);have e:zp (s::s'::r)=(s,s')::zp (s'::r):=by simp[zp]
  rw[e];unfold mts mtZ;rw[GW];by_cases q:mtg s s'=true
  ·rw[Gq q,Gq q,Ge,ih];rfl
  ·rw[Gp q,Gp q,ih];rfl
theorem jW(l:List (Sp3×Sp3)):(mtZ l).length≤l.length:=by
 unfold mtZ;rw[F0];exact List.length_filter_le _ _
theorem Cc{G w:List Int}(ne:w≠[])(hd:w.head?=some m)(la:lsI w∈G):Wy ts G m w↔∀j (_:j<w.length - 1),∀a∈w[j]?,∀b∈w[j+1]?,a∉G/\(a,b)∈ts:=by
 have ez:∀j,(w.dropLast.zip w.tail)[j]?=if j<w.length - 1 then(match w[j]?,w[j+1]? with | some a,some b=>some (a,b) | _,_=>none)else none:=fun j=>by
  by_cases hj:j<w.length - 1
  ·rw[Gq hj,F2 (by rw[List.length_zip,HB,List.length_tail];omega),List.getElem_zip,List.getElem_dropLast,List.getElem_tail,F2 (by omega),F2 (by omega)]
  ·rw[Gp hj,HK (by rw[List.length_zip,HB,List.length_tail];omega)]
 rw[dh];constructor
 ·rintro⟨_,_,_,lo,ch⟩ j hj a ha b hb;have ha':w[j]?=some a:=ha;have hb':w[j+1]?=some b:=hb;constructor
  ·refine lo a (Gg (i:=j) ?_);rw[List.getElem?_dropLast,Gq hj];exact ha'
  ·refine ch (a,b) (Gg (i:=j) ?_);rw[ez j,Gq hj,ha',hb']
 ·intro h;refine⟨ne,hd,la,fun x hx=>?_,fun p hp=>?_⟩
  ·obtain⟨j,hj⟩:=List.getElem?_of_mem hx;have hl:=(Gj.mp hj).1;rw[HB]at hl;rw[List.getElem?_dropLast,Gq hl]at hj;exact(h j hl x hj _ (F2 (by omega))).1
  ·obtain⟨j,hj⟩:=List.getElem?_of_mem hp;have hl:=(Gj.mp hj).1;rw[List.length_zip,HB,List.length_tail]at hl;rw[ez j,Gq (by omega),F2 (by omega),F2 (by omega)]at hj;have:=h j (by omega) _ (F2 (by omega)) _ (F2 (by omega));rw[←Gw hj];exact this.2
def d6:Sp':=fun vs H Q _=>match vs with
 | [.tup l,.tup m,.tup k,.tup n,.ref a]=>∃c ts bs,∃O B G N:List Int,∃L:List Sd,PV.tup l=shp c ts bs/\m=O.map PV.int/\k=B.map PV.int/\n=G.map PV.int/\OkD c ts bs/\Nms c O/\Nms c G/\An ts G N/\H a=some (.lst (L.map sdV))/\L.length≤50/\∀b:Bool,(b=true↔lL c ts bs O B G N L)->Q (.bl b) H
 | _=>False
def fq:Sp':=fun vs H Q _=>match vs with
 | [.tup l,.int m,.ref a,.tup n]=>∃c ts bs,∃G w:List Int,PV.tup l=shp c ts bs/\n=G.map PV.int/\H a=some (.lst (w.map PV.int))/\w.length≤50/\∀b:Bool,(b=true↔Wy ts G m w)->Q (.bl b) H
 | _=>False
def eR:Sp':=fun vs H Q _=>match vs with
 | [.tup l,.tup m,.tup k,.tup n,.ref a,.ref q]=>∃c ts bs,∃O B G:List Int,∃road:List Sp3,∃us,∃ws:List (List Int),PV.tup l=shp c ts bs/\m=O.map PV.int/\k=B.map PV.int/\n=G.map PV.int/\OkD c ts bs/\H a=some (.lst (road.map stV))/\road.length≤50/\H q=some (.lst us)/\bK H q us (inV ws)/\ws.length≤50/\(∀w∈ws,w.length≤50)/\∀b:Bool,(b=true↔RdP ts bs O B G road ws)->Q (.bl b) H
 | _=>False
theorem cf{α:Type}(f:α->PV)(l:List α)(lo hi:Option Int):∃m:List α,b9 (l.map f) lo hi=m.map f/\m.length≤l.length/\∀x∈m,x∈l:=by
 unfold b9;refine⟨(l.drop _).take _,by rw[List.map_take,List.map_drop],?_,fun x hx=>List.mem_of_mem_drop (List.mem_of_mem_take hx)⟩;rw[GN,Hm];omega
def fh:Sp':=fun vs H Q _=>match vs with
 | [.ref a,.int _,.int c]=>∃L:List Sd,(1≤c/\c≤6)/\H a=some (.lst (L.map sdV))/\L.length≤12/\∀r H1,∀L':List Sd,U.Sub H H1->H1 r=some (.lst (L'.map sdV))->L'.length≤30->Q (.ref r) H1
 | _=>False
def eL:Sp':=fun vs H Q _=>match vs with
 | [.tup l,.int _,.int _]=>∃c ts bs,PV.tup l=shp c ts bs/\OkD c ts bs/\Q .non H/\∀s:Sp3,Q (stV s) H
 | _=>False
def fy:Sp':=fun vs H Q _=>match vs with
 | [.tup l,.int _,.int _,.tup k]=>∃c ts bs,∃B:List Int,PV.tup l=shp c ts bs/\OkD c ts bs/\k=B.map PV.int/\∀r H1,∀road:List Sp3,U.Sub H H1->H1 r=some (.lst (road.map stV))->road.length≤4->Q (.ref r) H1
 | _=>False
def gK:Sp':=fun vs H Q _=>match vs with
 | [.tup l,.int _,.int _,.tup k]=>∃c ts bs,∃G:List Int,PV.tup l=shp c ts bs/\OkD c ts bs/\k=G.map PV.int/\∀r H1,∀w:List Int,H r=none->U.Sub H H1->H1 r=some (.lst (w.map PV.int))->w≠[]->w.length≤6->Q (.ref r) H1
 | _=>False
def fJ:Sp':=fun vs H Q _=>match vs with
 | [.ref a,.int _,.int _]=>∃road:List Sp3,H a=some (.lst (road.map stV))/\road.length≤4/\∀r H1,∀road':List Sp3,U.Sub H H1->H1 r=some (.lst (road'.map stV))->road'.length≤10->Q (.ref r) H1
 | _=>False
def fG:Sp':=fun vs H Q _=>match vs with
 | [.ref q,.int _,.int c]=>∃us,∃ws:List (List Int),(1≤c/\c≤6)/\H q=some (.lst us)/\bK H q us (inV ws)/\ws.length≤10/\(∀w∈ws,w.length≤10/\w≠[])/\∀r H1 us',∀ws':List (List Int),U.Sub H H1->H1 r=some (.lst us')->bK H1 r us' (inV ws')->ws'.length≤30->(∀w∈ws',w.length≤45)->Q (.ref r) H1
 | _=>False
def gL:Sp':=fun vs H Q _=>match vs with
 | [.ref a]=>∃road:List Sp3,H a=some (.lst (road.map stV))/\road.length≤10/\∀r H1,∀ms:List Int,H r=none->U.Sub H H1->H1 r=some (.lst (ms.map PV.int))->ms.length≤10->Q (.ref r) H1
 | _=>False
theorem lS{n:Int}{k:Str}:∀(ts:List P2),∃L:List Sp3,((ts.map prV).filter (at0 n)).map (fun y=>PV.tup [.int n,.str k,g1 y])=L.map stV/\L.length≤ts.length
 | []=>⟨[],rfl,F9 _⟩
 | p::ts=>by
  obtain⟨L,e,hl⟩:=lS (n:=n) (k:=k) ts;rw[Ge,GW];by_cases q:at0 n (prV p)=true
  ·rw[Gq q,Ge,e];exact⟨(n,k,p.2)::L,rfl,Nat.succ_le_succ hl⟩
  ·rw[Gp q,e];exact⟨L,rfl,Nat.le_succ_of_le hl⟩
theorem ma{n:Int}{k:Str}:∀(ts:List P2),∃L:List Sp3,((ts.map prV).filter (at1 n)).map (fun y=>PV.tup [.int n,.str k,g0 y])=L.map stV/\L.length≤ts.length
 | []=>⟨[],rfl,F9 _⟩
 | p::ts=>by
  obtain⟨L,e,hl⟩:=ma (n:=n) (k:=k) ts;rw[Ge,GW];by_cases q:at1 n (prV p)=true
  ·rw[Gq q,Ge,e];exact⟨(n,k,p.1)::L,rfl,Nat.succ_le_succ hl⟩
  ·rw[Gp q,e];exact⟨L,rfl,Nat.le_succ_of_le hl⟩
theorem ny:(10:Int) ^ Int.toNat 20≠0:=by decide +kernel
theorem at2(hn:0≤n/\n<2):∃k,atI [PV.int a,.int b] n=some (.int k):=by
 have:n=0∨n=1:=by omega
 rcases this with rfl | rfl
 ·exact⟨a,rfl⟩
 ·exact⟨b,rfl⟩
def kT2(y:PV):Bool:=match y with | .tup [_,.bl b]=>b | _=>false
theorem jk:∀(L:List Sd),∃M:List Sd,((L.map sdV).filter kT2).map (fun y=>y)=M.map sdV/\M.length≤L.length
 | []=>⟨[],rfl,F9 _⟩
 | s::L=>by
  obtain⟨M,e,hl⟩:=jk L;rw[Ge,GW];by_cases q:kT2 (sdV s)=true
  ·rw[Gq q,Ge,e];exact⟨s::M,rfl,Nat.succ_le_succ hl⟩
  ·rw[Gp q,e];exact⟨M,rfl,Nat.le_succ_of_le hl⟩
theorem FN(hn:0≤n/\n<5):∃k,atI [PV.str a,.str b,.str c,.str d,.str e] n=some (.str k):=by
 have:n=0∨n=1∨n=2∨n=3∨n=4:=by omega
 rcases this with rfl | rfl | rfl | rfl | rfl
 ·exact⟨a,rfl⟩
 ·exact⟨b,rfl⟩
 ·exact⟨c,rfl⟩
 ·exact⟨d,rfl⟩
 ·exact⟨e,rfl⟩
theorem EL(hn:0≤n/\n<3):∃k,atI [PV.int a,.int b,.int c] n=some (.int k):=by
 have:n=0∨n=1∨n=2:=by omega
 rcases this with rfl | rfl | rfl
 ·exact⟨a,rfl⟩
 ·exact⟨b,rfl⟩
 ·exact⟨c,rfl⟩
theorem Dd(hn:0≤n/\n<4):∃k,atI [PV.int a,.int b,.int c,.int d] n=some (.int k):=by
 have:n=0∨n=1∨n=2∨n=3:=by omega
 rcases this with rfl | rfl | rfl | rfl
 ·exact⟨a,rfl⟩
 ·exact⟨b,rfl⟩
 ·exact⟨c,rfl⟩
 ·exact⟨d,rfl⟩
theorem jT{α β:Type}{R:α->β->Prop}:∀(n:Nat) {l:List α} {m:List β},Paired R l m->Paired R (l.drop n) (m.drop n)
 | 0,_,_,h=>h
 | _+1,_,_,.nil=>.nil
 | n+1,_,_,.cons _ h=>jT n h
theorem nY{α β:Type}{R:α->β->Prop}:∀(n:Nat) {l:List α} {m:List β},Paired R l m->Paired R (l.take n) (m.take n)
 | 0,_,_,_=>.nil
 | _+1,_,_,.nil=>.nil
 | n+1,_,_,.cons r h=>.cons r (nY n h)
theorem iu{α β:Type}{R:α->β->Prop}:∀{l:List α} {m:List β} {l':List α} {m':List β},Paired R l m->Paired R l' m'->Paired R (l++l') (m++m')
 | _,_,_,_,.nil,h=>h
 | _,_,_,_,.cons r h,h'=>.cons r (iu h h')
theorem qF(xs:List PV)(k:Nat):b9 xs none (some (k:Int))=xs.take k:=by
 unfold b9;rw[HT.gE,HT.dk,Nat.sub_zero,List.drop_zero];by_cases h:k≤xs.length
 ·rw[Nat.min_eq_left h]
 ·rw[Nat.min_eq_right (by omega),Ho,HX (by omega)]
def fx:Sp':=fun vs H Q _=>match vs with
 | [.bl a,.bl b]=>Q (.bl (a==b)) H
 | _=>False
theorem rY{L:List Sd}:flat 9 (.fls (L.map sdV))=true:=eK
theorem wX{t:TS'}(h:∀T1:TS',T1=t->oW c T1 i5 D σ H):oW c t i5 D σ H:=h t rfl
theorem xi{i:Nat}(h:(kY 0 N)[i]?=some y):∃k:Int,y=.int k/\0≤k/\k<3*N:=by
 unfold kY at h;rw[Gs]at h;obtain⟨j,hj,rfl⟩:=GX.mp h;have:=GC.mp (Gg hj);exact⟨_,rfl,by omega,by omega⟩
theorem D4(h:y∈cH 0 m):∃u,y=.int u/\0≤u/\u<m:=by
 unfold cH at h;obtain⟨k,hk,rfl⟩:=F4.mp h;have:=GC.mp hk;exact⟨_,rfl,by omega,by omega⟩
theorem wO(e:o=some v)(h:k v):h7 o k:=by rw[e];exact h
abbrev nl0:List Str:=["pair","count"]
theorem nn0:List.Nodup nl0:=by decide +kernel
abbrev nl1:List Str:=["tie"]
theorem nn1:List.Nodup nl1:=by decide +kernel
abbrev nl2:List Str:=["bow"]
theorem nn2:List.Nodup nl2:=by decide +kernel
abbrev nl3:List Str:=["tie","name"]
theorem nn3:List.Nodup nl3:=by decide +kernel
abbrev nl4:List Str:=["bow","name"]
theorem nn4:List.Nodup nl4:=by decide +kernel
abbrev nl5:List Str:=["step"]
theorem nn5:List.Nodup nl5:=by decide +kernel
abbrev nl6:List Str:=["step","behind"]
theorem nn6:List.Nodup nl6:=by decide +kernel
abbrev nl7:List Str:=["other"]
theorem nn7:List.Nodup nl7:=by decide +kernel
abbrev nl8:List Str:=["_law_one","_law_two","_law_name"]
theorem nn8:List.Nodup nl8:=by decide +kernel
abbrev nl9:List Str:=["_law_name"]
theorem nn9:List.Nodup nl9:=by decide +kernel
abbrev AZ:List Str:=["_law_kind"]
theorem Dt:List.Nodup AZ:=by decide +kernel
abbrev Ac:List Str:=["_law_names"]
theorem Dy:List.Nodup Ac:=by decide +kernel
abbrev AY:List Str:=["step","drawing"]
theorem Fg:List.Nodup AY:=by decide +kernel
abbrev BS:List Str:=["step","behind","given","above"]
theorem zS:List.Nodup BS:=by decide +kernel
abbrev Ce:List Str:=["name","given"]
theorem D5:List.Nodup Ce:=by decide +kernel
abbrev Cy:List Str:=["name","behind","drawing"]
theorem Bb:List.Nodup Cy:=by decide +kernel
abbrev Bq:List Str:=["meeting","way","drawing","given"]
theorem AR:List.Nodup Bq:=by decide +kernel
abbrev Ck:List Str:=["standing"]
theorem Dm:List.Nodup Ck:=by decide +kernel
abbrev AS:List Str:=["name","others","drawing"]
theorem FE:List.Nodup AS:=by decide +kernel
abbrev A7:List Str:=["name"]
theorem Dk:List.Nodup A7:=by decide +kernel
abbrev Bf:List Str:=["standing","there"]
theorem EY:List.Nodup Bf:=by decide +kernel
abbrev Bj:List Str:=["_law_name","_law_standings"]
theorem Dx:List.Nodup Bj:=by decide +kernel
abbrev zR:List Str:=["_law_step","_law_drawn"]
theorem DJ:List.Nodup zR:=by decide +kernel
abbrev BE:List Str:=["_law_step"]
theorem DV:List.Nodup BE:=by decide +kernel
abbrev zX:List Str:=["_law_name","_law_way","_law_drawn","_law_given"]
theorem Bh:List.Nodup zX:=by decide +kernel
abbrev Cs:List Str:=["_law_step","_law_further"]
theorem BK:List.Nodup Cs:=by decide +kernel
abbrev Bz:List Str:=["_law_standing"]
theorem E3:List.Nodup Bz:=by decide +kernel
abbrev A8:List Str:=["_law_one","_law_two","_law_way"]
theorem CB:List.Nodup A8:=by decide +kernel
abbrev CJ:List Str:=["_law_j","_law_script","_law_k"]
theorem Ds:List.Nodup CJ:=by decide +kernel
abbrev Av:List Str:=["_law_name","_law_drawn","_law_given","_law_way"]
theorem D9:List.Nodup Av:=by decide +kernel
end
section
variable {P:Program}{w:World}{K:PySem.W.Frag}{mg:Str->Option Value}{base:Heap}{t:Ad}
local macro_rules | `(tactic| ac_rfl) => `(tactic| simp only [B2,zY,uOp,uI,uI0,uIx,Ca,uC,oh,kK,gi,oW,i5,wF,iP,mw,CG,uOr,AL,vV,CS,wM,uIf,uUn,Ag,v8,AN,Au,uCB,AM,DL,Ax,wb,pY,qL,nK,wc,rR,fu,Am,nz,zM,Eh,sM,DY,sv,C0,vY,E1,Ea,D6,nW,EJ,Es,Fu,AK,El,Ff,sx,B9,BU,wJ,rn,E2,Dc,lD,Ee,C7,wA,Ep,Cw,wu,BA,Ei,nZ,Fn,v7,ES,D3,ky,FC,lJ,FH,uEn,Fz,Ey,Cf,D1,Cb,AG,DE,Fp,Ai,FP,qh,xf,wz,Be,zQ,BT.sub,BT.nm,EG,EB,CW,ends,y6,Cd,f7,flat,deq,eS,w_V,w_B,w_I,w_O,C6,Em,ET,EF,EM,DH,En,CZ,Ex,Ez,Fb,CV,EZ,C4,DU,EH,Eb,E5,Fi,EA,Dz,Ej,DX,FO,Fw,w_1,zU,D7,Dq,FQ,EI,FR,Dg,Et,Fd,FD,BM,Fh,B8,C9,DP,DT,BH,Bu,Ge,List.map_nil,Gx,IA,Nat.reduceAdd,Nat.reduceSub,Nat.add_sub_cancel,Nat.sub_self,Nat.zero_add,HG,List.replicate_zero,List.cons_append,List.nil_append,GS,List.getElem?_cons_zero,List.getElem?_cons_succ,List.set_cons_zero,List.set_cons_succ,xg,xU,List.all_cons,List.all_nil,Bool.and_self,Bool.and_true,Bool.true_and,Bool.not_true,Bool.not_false,true_and,and_true,ah,Option.some.injEq,PO.lst.injEq,exists_eq_left',Int.zero_add,qO,dc,zB,c9,dy,cO,gH,fC,dH,Ba,fj,Al,Bm,CM,E4,c7,cM,dF,Bg,Bn,gW,d8,fM,fQ,eO,n0,fL,jG,ft,ff,dJ,u6,rj,fF,fD,De,Fv,fN,eC,d5,gR,gU,d4,fi,d6,fq,eR,fh,eL,fy,gK,fJ,fG,gL,fx])
local macro_rules | `(tactic| eq_refl) => `(tactic| first | exact Or.inl rfl | exact Or.inr rfl)
local macro_rules | `(tactic| left) => `(tactic| (refine ao fun $(Lean.mkIdent `R) $(Lean.mkIdent `hR)=>?_;ac_rfl))
local macro_rules | `(tactic| right) => `(tactic| (subst $(Lean.mkIdent `hR);left))
theorem EW(T:Tx K mg t):aK P w K mg base CX0 1 t.a_zU t.d_zU ["count","pair"] eQ:=by
 refine okU (k:=0) T.F_zU AQ (fun vs H Q E h=>by
  unfold eQ at h;split at h
  ·rfl
  ·exact h.elim) (fun cdv A outer s H E B hr=>⟨_,(aj (ay (cD (ba (aG hr.units) aH (au av aO rfl T.b_len Gn (aa (qv 1) ag)) ae (bQ _)) (cB (oJ qr qD fc fB fc fB ae (iX (qv 1) ae) (iX (qv 1) ae) (qv 0)))))),?_⟩)
 intro vs H Q E h;unfold eQ at h;split at h
 ·rename_i c u v;obtain⟨⟨h1,h2,h3⟩,h⟩:=h;ac_rfl;exact az rfl (az (by simpa using h1) (az (by simpa using h2) ⟨H,Sub.refl _,by rw[GP h3];exact h⟩))
 ·exact h.elim
theorem B6(T:Tx K mg t):aK P w K mg base CX0 2 t.a_zK t.d_zK ["count","pairs"] dc:=by
 refine okU (k:=1) T.F_zK Ak (fun vs H Q E h=>by
  unfold dc at h;split at h
  ·rfl
  ·exact h.elim) (fun cdv A outer s H E B hr=>⟨_,(aj (ay (cD (au (cb rfl) dg rfl T.b_all boot_all (aa (cE (N2:=nl0) (nt:=1) (js:=[0]) (ck (sc:=aq uM)) (aM (qv 1)) (fun _ _ _ _=>⟨(gN 0 nn0),aY,(aC (EW T) hr.mo rfl T.g_zU T.F_zU.kp T.B_zU (aa (qv 1) (aa (qv 0) ag)))⟩)) ag)) (cB (ba (aG hr.units) aH (l8 rfl hr.units rfl T.b_len rfl T.b_set boot_set (qv 1)) (au av aO rfl T.b_len Gn (aa (qv 1) ag)) (bQ _)))))),?_⟩)
 intro vs H Q E h;unfold dc at h;split at h
 ·rename_i c a;obtain⟨ps,ha,gd,hc,h⟩:=h;have h15:=gd.len hc;ac_rfl;refine⟨_,ha,fun acc hacc=>?_⟩;have hna:=ar ha hacc;refine aB (fun _=>.bl true) (fun _=>true) (fun σ=>∃x,σ=[x,some (.int c)]) (by rw[F0];omega) (fun l=>(ak hna).trans ha) ?step ?fin ⟨_,rfl⟩
  case step =>
   rintro y hy l σ R ⟨x,rfl⟩ hl kT kF;obtain⟨p,hp,rfl⟩:=F4.mp hy;have b:=gd.lo p hp;unfold prV;ac_rfl;exact⟨b,hl,by rw[aE];exact kT rfl _ ⟨_,rfl⟩⟩
  case fin =>
   ac_rfl;refine⟨ps.map fun _=>true,by rw[HH.mpr (fun _ _=>rfl),GK,GK];rfl,az (by simp) ⟨ps,(ak hna).trans ha,gd.nd,gd.prs hc,h15,_,(ak hna).trans ha,H,Sub.put (Sub.refl _) hacc,?_⟩⟩;rw[F0,beq_self_eq_true];exact h
 ·exact h.elim
theorem E6(T:Tx K mg t):aK P w K mg base CX0 3 t.a_zu t.d_zu ["self","count","ties","bows"] (gT t):=by
 refine okU (k:=2) T.F_zu rH (fun vs H Q E h=>by
  unfold gT at h;split at h
  ·rfl
  ·exact h.elim) (fun cdv A outer s H E B hr=>⟨_,(af (aF (aP (bx (cN fc fB (qv 1) ae) (bB (cN iW i4 (qv 1) (ku (v':=.int 6) rfl T.c_MOST_NAMES (fun _=>by simp[RP]))))))
  bX
  ax)
  (af (sC 4 rH.nd (N2:=nl1) (nt:=1) (js:=[]) (ck (sc:=aq sX)) (aM (qv 2)) (fun _ _ _ _=>⟨(gN 0 nn1),aY,(aS aX bV rfl T.b_tuple Ie (aa (qv 0) ag))⟩))
  (af (aF (bC (aQ (aC (B6 T) hr.mo rfl T.g_zK T.F_zK.kp T.B_zK (aa (qv 1) (aa (qv 4) ag)))))
  bX
  ax)
  (af (sC 5 rH.nd (N2:=nl2) (nt:=1) (js:=[]) (ck (sc:=aq sX)) (aM (qv 3)) (fun _ _ _ _=>⟨(gN 0 nn2),aY,(aS aX bV rfl T.b_tuple Ie (aa (qv 0) ag))⟩))
  (af (aF (bC (aQ (aC (B6 T) hr.mo rfl T.g_zK T.F_zK.kp T.B_zK (aa (qv 1) (aa (qv 5) ag)))))
  bX
  ax)
  (af (aF (cN iW i4 (au av aO rfl T.b_len Gn (aa (qv 5) ag)) (ku (v':=.int 6) rfl T.c_MOST_BOWS (fun _=>by simp[RP])))
  bX
  ax)
  (af (mz (qv 0) (qv 1) T.cl_A T.nfA_count rfl)
  (af (mz (qv 0) (aS aX bV rfl T.b_tuple Ie (aa (au iq lh rfl T.b_sorted boot_sorted (aa (qv 4) ag)) ag)) T.cl_A T.nfA_ties rfl)
  (aj (mz (qv 0) (aS aX bV rfl T.b_tuple Ie (aa (au iq lh rfl T.b_sorted boot_sorted (aa (qv 5) ag)) ag)) T.cl_A T.nfA_bows rfl)))))))))),?_⟩)
 intro vs H Q E h;unfold gT at h;split at h
 ·rename_i x c a b;obtain⟨dx,ys,zs,ps,qs,hx,ha,hb,ry,rz,gp,gq,⟨c1,c6,q6⟩,h⟩:=h;have hp15:=gp.len c6;have hq15:=gq.len c6;left;refine aw (by simp;omega) (aw (by simp;omega) ?_);right;refine⟨_,ha,fun p1 hp1=>?_⟩;refine aB (lZ H) (fun _=>true) (fun σ=>∃z,σ=[z]) (by rw[ry.length];omega) (fun l=>(ak (ar ha hp1)).trans ha) ?_ ?_ ⟨_,rfl⟩
  ·rintro y hy l σ R' ⟨z,rfl⟩ hl kT kF;obtain⟨p,hp,row⟩:=jM ry hy;rcases row with rfl |⟨r,rfl,hr⟩
   ·unfold prV;ac_rfl;exact⟨hl,by rw[aE];exact kT rfl _ ⟨_,rfl⟩⟩
   ·rw[dU hr]at kT;ac_rfl;exact⟨_,(ak (ar hr hp1)).trans hr,hl,by rw[aE];exact kT rfl _ ⟨_,rfl⟩⟩
  rw[HH.mpr (fun _ _=>rfl),kf ry];subst hR;have sb1:U.Sub H (put H p1 (.lst (ps.map prV))):=Sub.put (Sub.refl _) hp1;left;refine⟨ps,rfl,gp,c6,?_⟩
  try ac_rfl
  subst hR;have hp1s:put H p1 (.lst (ps.map prV)) p1=some (.lst (ps.map prV)):=ah;have hx1:=sb1 _ _ hx;have hb1:=sb1 _ _ hb;have rz1:=rz.up sb1;generalize put H p1 (.lst (ps.map prV))=H1 at *;left;refine⟨_,hb1,fun p2 hp2=>?_⟩;refine aB (lZ H1) (fun _=>true) (fun σ=>∃z,σ=[z]) (by rw[rz1.length];omega) (fun l=>(ak (ar hb1 hp2)).trans hb1) ?_ ?_ ⟨_,rfl⟩
  ·rintro y hy l σ R' ⟨z,rfl⟩ hl kT kF;obtain⟨p,hp,row⟩:=jM rz1 hy;rcases row with rfl |⟨r,rfl,hr⟩
   ·unfold prV;ac_rfl;exact⟨hl,by rw[aE];exact kT rfl _ ⟨_,rfl⟩⟩
   ·rw[dU hr]at kT;ac_rfl;exact⟨_,(ak (ar hr hp2)).trans hr,hl,by rw[aE];exact kT rfl _ ⟨_,rfl⟩⟩
  rw[HH.mpr (fun _ _=>rfl),kf rz1];subst hR;have sb2:U.Sub H1 (put H1 p2 (.lst (qs.map prV))):=Sub.put (Sub.refl _) hp2;have hp1t:=sb2 _ _ hp1s;have hx2:=sb2 _ _ hx1;have hp2s:put H1 p2 (.lst (qs.map prV)) p2=some (.lst (qs.map prV)):=ah;left;refine⟨qs,rfl,gq,c6,?_⟩
  try ac_rfl
  subst hR;have sb3:=sb1.trans sb2;generalize put H1 p2 (.lst (qs.map prV))=H2 at *;left;refine⟨_,hp2s,aw (by rw[F0];simp;omega) ?_⟩;right;refine⟨_,_,hx2,by simp,?_⟩;subst hR;have n1:p1≠x:=fun e=>by subst e;rw[hx2]at hp1t;cases hp1t
  have n2:p2≠x:=fun e=>by subst e;rw[hx2]at hp2s;cases hp2s
  left;refine⟨ps,(ak n1).trans hp1t,gp.nd,fun p hp=>?_,by omega,fun r1 ts hr1 pt st=>?_⟩
  ·have:=gp.lo p hp;omega
  try ac_rfl
  have nx1:x≠r1:=fun e=>by subst e;rw[ah]at hr1;cases hr1
  refine⟨_,_,(ak nx1).trans ah,Nat.lt_of_le_of_lt g7 (by decide),?_⟩;subst hR;have n3:p2≠r1:=fun e=>by subst e;rw[ak n2,hp2s]at hr1;cases hr1
  ac_rfl;refine⟨qs,(ak n2).trans ((ak n3).trans ((ak n2).trans hp2s)),gq.nd,fun p hp=>?_,by omega,fun r2 bs hr2 pb sb=>?_⟩
  ·have:=gq.lo p hp;omega
  try ac_rfl
  have nx2:x≠r2:=fun e=>by subst e;rw[ah]at hr2;cases hr2
  have ul:=fun f v fs=>@g7 f v fs;refine⟨_,_,(ak nx2).trans ah,?_,put H x (.ins t.a_A dx (DF c ts bs)),pW ?_ ah,h ts bs pt st pb sb⟩
  ·have l1:=ul "ties" (.tup (ts.map prV)) (iH "count" (.int c) []);have l2:=ul "count" (.int c) [];simp only[IA]at l2;omega
  ·intro z o hzx hz;have hz2:=sb3 _ _ hz;have z1:z≠r1:=fun e=>by subst e;rw[ak hzx,hz2]at hr1;cases hr1
   have z2:z≠r2:=fun e=>by subst e;rw[ak hzx,ak z1,ak hzx,hz2]at hr2;cases hr2
   rw[ak hzx,ak z2,ak hzx,ak z1,ak hzx];exact hz2
 ·exact h.elim
theorem yF(T:Tx K mg t):aK P w K mg base CX0 1 t.a_zb t.d_zb ["self","name"] (c9 t):=by
 refine okU (k:=0) T.F_zb Ct (fun vs H Q E h=>by
  unfold c9 at h;split at h
  ·rfl
  ·exact h.elim) (fun cdv A outer s H E B hr=>⟨_,(aj (aF (aP (bx (cN fc fB (qv 1) ae) (bB (cN mP m9 (qv 1) (cF (qv 0) T.cl_A T.nfA_count rfl)))))
  bX
  ax)),?_⟩)
 intro vs H Q E h;unfold c9 at h;split at h
 ·rename_i x n;obtain⟨dx,c,ts,bs,hx,⟨h0,h1⟩,h⟩:=h;ac_rfl;exact aw (by simpa using h0) ⟨_,_,_,hx,rfl,aw (by simpa using h1) ⟨H,Sub.refl _,h⟩⟩
 ·exact h.elim
theorem CI(T:Tx K mg t):aK P w K mg base CX0 2 t.a_ze t.d_ze ["self","name"] (dy t):=by
 refine okU (k:=1) T.F_ze CF (fun vs H Q E h=>by
  unfold dy at h;split at h
  ·rfl
  ·exact h.elim) (fun cdv A outer s H E B hr=>⟨_,(af (bj (cz (qv 0) T.cl_A T.m_zb (yF T) hr.mo T.B_zb (aa (qv 1) ag)))
  (aj (ay (aS aX bV rfl T.b_tuple Ie (aa (cE (N2:=nl3) (nt:=1) (js:=[1]) (ck (sc:=aq vE)) (aM (cF (qv 0) T.cl_A T.nfA_ties rfl)) (fun _ _ _ _=>⟨(gN 0 nn3),(bH (cN (aG hr.units) aH (iX (qv 0) ae) (qv 1))),(iX (qv 0) ae)⟩)) ag))))),?_⟩)
 intro vs H Q E h;unfold dy at h;split at h
 ·rename_i x n;obtain⟨dx,c,ts,bs,hx,⟨h0,h1⟩,h15,h⟩:=h;ac_rfl;refine⟨⟨_,_,hx,rfl⟩,_,_,_,_,hx,⟨h0,h1⟩,_,_,_,hx,rfl,?_⟩;show ∀acc,H acc=none->_;intro acc hacc;refine aB g0 (at1 n) (fun σ=>∃z,σ=[z,some (.int n)]) (by rw[F0];omega) (fun _=>trivial) ?step ?fin ⟨_,rfl⟩
  case step =>
   rintro y hy l σ R ⟨z,rfl⟩ hl kT kF;obtain⟨p,hp,rfl⟩:=F4.mp hy;have e:at1 n (prV p)=decide (p.2=n):=rfl;rw[e]at kT kF;unfold prV at *;ac_rfl;refine aI (fun q=>?_) (fun q=>?_)
   ·exact⟨hl,by rw[aE];exact kT (by simpa using q) _ ⟨_,rfl⟩⟩
   ·exact kF (by simpa using q) _ ⟨_,rfl⟩
  case fin =>
   refine⟨_,ah,H,Sub.put (Sub.refl _) hacc,?_⟩;rw[src_list];exact h
 ·exact h.elim
theorem Ek(T:Tx K mg t):aK P w K mg base CX0 2 t.a_za t.d_za ["self","name"] (cO t):=by
 refine okU (k:=1) T.F_za BR (fun vs H Q E h=>by
  unfold cO at h;split at h
  ·rfl
  ·exact h.elim) (fun cdv A outer s H E B hr=>⟨_,(af (bj (cz (qv 0) T.cl_A T.m_zb (yF T) hr.mo T.B_zb (aa (qv 1) ag)))
  (aj (ay (aS aX bV rfl T.b_tuple Ie (aa (cE (N2:=nl3) (nt:=1) (js:=[1]) (ck (sc:=aq t6)) (aM (cF (qv 0) T.cl_A T.nfA_ties rfl)) (fun _ _ _ _=>⟨(gN 0 nn3),(bH (cN (aG hr.units) aH (iX (qv 0) ae) (qv 1))),(iX (qv 0) ae)⟩)) ag))))),?_⟩)
 intro vs H Q E h;unfold cO at h;split at h
 ·rename_i x n;obtain⟨dx,c,ts,bs,hx,⟨h0,h1⟩,h15,h⟩:=h;ac_rfl;refine⟨⟨_,_,hx,rfl⟩,_,_,_,_,hx,⟨h0,h1⟩,_,_,_,hx,rfl,?_⟩;show ∀acc,H acc=none->_;intro acc hacc;refine aB g1 (at0 n) (fun σ=>∃z,σ=[z,some (.int n)]) (by rw[F0];omega) (fun _=>trivial) ?step ?fin ⟨_,rfl⟩
  case step =>
   rintro y hy l σ R ⟨z,rfl⟩ hl kT kF;obtain⟨p,hp,rfl⟩:=F4.mp hy;have e:at0 n (prV p)=decide (p.1=n):=rfl;rw[e]at kT kF;unfold prV at *;ac_rfl;refine aI (fun q=>?_) (fun q=>?_)
   ·exact⟨hl,by rw[aE];exact kT (by simpa using q) _ ⟨_,rfl⟩⟩
   ·exact kF (by simpa using q) _ ⟨_,rfl⟩
  case fin =>
   refine⟨_,ah,H,Sub.put (Sub.refl _) hacc,?_⟩;rw[dm];exact h
 ·exact h.elim
theorem wZ(T:Tx K mg t):aK P w K mg base CX0 1 t.a_zC t.d_zC ["_law_script","_law_k"] gH:=by
 refine okU (k:=0) T.F_zC CH (fun vs H Q E h=>by
  unfold gH at h;split at h
  ·rfl
  ·exact h.elim) (fun cdv A outer s H E B hr=>⟨_,(af (aF (cN fc fB (qv 1) (au av aO rfl T.b_len Gn (aa (qv 0) ag)))
  (aj (ay (iX (qv 0) (qv 1))))
  ax)
  (aj (ay ae))),?_⟩)
 intro vs H Q E h;unfold gH at h;split at h
 ·rename_i l k;obtain⟨⟨h0,h1⟩,ns,rfl,h⟩:=h;ac_rfl;by_cases hk:k<ns.length
  ·refine az (by rw[F0];simpa using hk) ?_;rw[vg h0 hk];exact⟨H,Sub.refl _,h⟩
  ·refine aw (by rw[F0];simpa using hk) ⟨H,Sub.refl _,?_⟩;rw[F7,HK (by omega)]at h;exact h
 ·exact h.elim
theorem Dj(T:Tx K mg t):aK P w K mg base CX0 1 t.a_zW t.d_zW ["count","names"] fC:=by
 refine okU (k:=0) T.F_zW nN (fun vs H Q E h=>by
  unfold fC at h;split at h
  ·rfl
  ·exact h.elim) (fun cdv A outer s H E B hr=>⟨_,(af (sN 2 nN.nd (bO ae))
  (af (b7 GF rfl (aM (qv 1)) (gN 3 nN.nd)
  (af (aF (aP (bx (cN qr qD (qv 3) (qv 2)) (bB (cN mP m9 (qv 3) (qv 0)))))
   (aj (ay bb))
   ax)
   (aj (sN 2 nN.nd (qv 3)))))
  (aj (ay bb)))),?_⟩)
 intro vs H Q E h;unfold fC at h;split at h
 ·rename_i c l;obtain⟨L,rfl,hL,h⟩:=h;ac_rfl;refine cV (fun i σ H2=>∃z k,σ=[some (.int c),some (.tup (L.map PV.int)),some (.int z),k]/\H2=H/\∀j (hj:j<L.length),i≤j->z<L[j]) ?_ ?_ ⟨-1,none,rfl,rfl,fun j hj _=>by have:=(hL.lo _ (Gz hj)).1;omega⟩
  ·rintro σ H2 ⟨z,k,rfl,rfl,hz⟩;exact⟨trivial,H2,Sub.refl _,h⟩
  ·rintro G i y σ H2 hy ⟨z,k,rfl,rfl,hz⟩ kk;refine⟨trivial,?_⟩;obtain⟨hi,e⟩:=Gj.mp hy;rw[F0]at hi;rw[HW]at e;subst e;ac_rfl;have h1:=hz i hi (F9 _);have h2:=hL.lo _ (Gz hi);exact aw (by simp;omega) (aw (by simp;omega) (kk _ _ ⟨_,_,rfl,rfl,fun j hj hij=>List.pairwise_iff_getElem.mp hL.up i j hi hj hij⟩))
 ·exact h.elim
theorem BW(T:Tx K mg t):aK P w K mg base CX0 2 t.a_zd t.d_zd ["self","names"] (dH t):=by
 refine okU (k:=1) T.F_zd B0 (fun vs H Q E h=>by
  unfold dH at h;split at h
  ·rfl
  ·exact h.elim) (fun cdv A outer s H E B hr=>⟨_,(aj (aF (bC (aQ (aC (Dj T) hr.mo rfl T.g_zW T.F_zW.kp T.B_zW (aa (cF (qv 0) T.cl_A T.nfA_count rfl) (aa (qv 1) ag)))))
  bX
  ax)),?_⟩)
 intro vs H Q E h;unfold dH at h;split at h
 ·rename_i x l;obtain⟨c,ts,L,⟨dx,bs,hx⟩,rfl,hL,h⟩:=h;ac_rfl;exact⟨_,_,_,hx,rfl,L,rfl,hL,H,Sub.refl _,h⟩
 ·exact h.elim
theorem Bw(T:Tx K mg t):aK P w K mg base CX0 3 t.a_zc t.d_zc ["self","names"] (jN t swp):=by
 refine okU (k:=2) T.F_zc pR (fun vs H Q E h=>by
  unfold jN at h;split at h
  ·rfl
  ·exact h.elim) (fun cdv A outer s H E B hr=>⟨_,(af (bj (cz (qv 0) T.cl_A T.m_zd (BW T) hr.mo T.B_zd (aa (qv 1) ag)))
  (af (sN 2 pR.nd (aS bG de rfl T.b_list IB (aa (qv 1) ag)))
  (af (b7 GF rfl (oS rfl T.b_range (aa (jq (cF (qv 0) T.cl_A T.nfA_count rfl) ae) (aa (bO ae) (aa (bO ae) ag)))) (gN 3 pR.nd)
  (aj (aF (cW (bL hr.units) bw (qv 3) (qv 2))
   (aj (bj (df HL HM g5 nQ (qv 2) (aa (cz (qv 0) T.cl_A T.m_ze (CI T) hr.mo T.B_ze (aa (qv 3) ag)) ag))))
   ax)))
  (aj (ay (aS aX bV rfl T.b_tuple Ie (aa (iL rfl hr.units rfl T.b_sorted rfl T.b_set boot_set (qv 2)) ag))))))),?_⟩)
 intro vs H Q E h;unfold jN at h;split at h
 ·rename_i x l;obtain⟨c,ts,L,⟨dx,bs,hx⟩,rfl,hL,hc,gt,h⟩:=h;have t15:=gt.len hc.2;have l6:=hL.len hc.2;ac_rfl;refine⟨⟨_,_,hx,rfl⟩,c,ts,L,⟨_,_,hx⟩,rfl,hL,fun p hp=>?_⟩;have nxp:=ar hx hp;refine⟨_,_,_,(ak nxp).trans hx,rfl,?_⟩;show -1≤c - 1/\c - 1<1000/\_;refine⟨by omega,by omega,?_⟩;have ei:kM (c - 1) (c - 1+1).toNat=(dlN c).map PV.int:=by
   unfold kM dlN;rw[GK,show c - 1+1=c by omega];rfl
  rw[ei];refine cV (fun i σ H2=>∃k F,σ=[some (.ref x),some (.tup (L.map PV.int)),some (.ref p),k]/\H2=put H p (.lst (F.map PV.int))/\F=((dlN c).take i).foldl (My.cc (ts.map swp)) L/\F.length≤6+15*i) ?_ ?_ ⟨none,L,rfl,rfl,rfl,by omega⟩
  ·rintro σ H2 ⟨k,F,rfl,rfl,hF,hlen⟩;rw[F0,Ho]at hF;refine⟨trivial,?_⟩;ac_rfl;have iff:∀y,y∈F↔My.Reach (ts.map swp) L y:=fun y=>by rw[hF];exact rZ gt y
   have lo:∀y∈F,0≤y/\y<c:=fun y hy=>rK (fun a b e=>sF gt true a b e) hL.lo ((iff y).mp hy);refine⟨F.map Int.toNat,by rw[gF fun y hy=>(by have:=lo y hy;omega)],fun n hn=>?_,fun r ms hr hs hm=>?_⟩
   ·obtain⟨z,hz,rfl⟩:=F4.mp hn;have:=lo z hz;omega
   ·obtain⟨q1,q2⟩:=oT hc.2 lo iff hs hm
    try ac_rfl
    refine⟨H,((Sub.refl H).put hp).put (((Sub.refl H).put hp).free hr),?_⟩;have:=h _ q1 q2;rw[GK]at this;exact this
  ·rintro G i y σ H2 hy ⟨k,F,rfl,rfl,hF,hlen⟩ kk;refine⟨trivial,?_⟩;rw[Gs]at hy;cases hn:(dlN c)[i]? with
   | none=>rw[hn]at hy;cases hy
   | some n =>
    rw[hn]at hy;cases hy;have hnm:=jx.mp (Gg hn);have hil:i<(dlN c).length:=(Gj.mp hn).1;have hi6:i<6:=by unfold dlN at hil;rw[F0,IC]at hil;omega
    have hnx:((dlN c).take (i+1)).foldl (My.cc (ts.map swp)) L=My.cc (ts.map swp) F n:=by rw[i9 hn,← hF]
    have hpl:=oP (E:=ts.map swp) (f:=F) (n:=n);rw[F0]at hpl;ac_rfl;refine⟨aJ,?_⟩;rw[a8];refine ua (fun hm=>?_) (fun hm=>?_)
    ·have e:My.cc (ts.map swp) F n=F++(ts.filter (fun p=>decide (p.2=n))).map (·.1):=by
      unfold My.cc;rw[Gq hm,lB]
     rw[e]at hnx hpl;refine⟨⟨_,rfl⟩,⟨_,_,(ak nxp).trans hx,rfl⟩,_,_,_,_,(ak nxp).trans hx,hnm,t15,?_⟩
     try ac_rfl
     rw[F3]at hpl;unfold src;refine⟨ai (by rw[F0,F0];omega),kk _ _ ⟨_,F++(ts.filter (fun p=>decide (p.2=n))).map (·.1),rfl,?_,hnx.symm,?_⟩⟩
     ·rw[aE,F8]
     ·rw[F3];omega
    ·have e:My.cc (ts.map swp) F n=F:=by
      unfold My.cc;rw[Gp hm]
     rw[e]at hnx;exact kk _ _ ⟨_,F,rfl,rfl,hnx.symm,by omega⟩
 ·exact h.elim
theorem DO(T:Tx K mg t):aK P w K mg base CX0 2 t.a_zo t.d_zo ["self","name"] (fj t):=by
 refine okU (k:=1) T.F_zo sy (fun vs H Q E h=>by
  unfold fj at h;split at h
  ·rfl
  ·exact h.elim) (fun cdv A outer s H E B hr=>⟨_,(af (bj (cz (qv 0) T.cl_A T.m_zb (yF T) hr.mo T.B_zb (aa (qv 1) ag)))
  (af (sC 2 sy.nd (N2:=nl4) (nt:=1) (js:=[1]) (ck (sc:=aq rN)) (aM (cF (qv 0) T.cl_A T.nfA_bows rfl)) (fun _ _ _ _=>⟨(gN 0 nn4),(bH (cN (aG hr.units) aH (iX (qv 0) ae) (qv 1))),(iX (qv 0) ae)⟩))
  (af (sC 3 sy.nd (N2:=nl4) (nt:=1) (js:=[1]) (ck (sc:=aq rN)) (aM (cF (qv 0) T.cl_A T.nfA_bows rfl)) (fun _ _ _ _=>⟨(gN 0 nn4),(bH (cN (aG hr.units) aH (iX (qv 0) ae) (qv 1))),(iX (qv 0) ae)⟩))
  (aj (ay (aS aX bV rfl T.b_tuple Ie (aa (bz (qv 2) (qv 3)) ag))))))),?_⟩)
 intro vs H Q E h;unfold fj at h;split at h
 ·rename_i x n;obtain⟨dx,c,ts,bs,hx,⟨h0,h1⟩,h15,h⟩:=h;have lf:∀(q:DM.P2->Bool) (g:DM.P2->Int),(((bs.filter q).map g).map PV.int).length≤15:=fun q g=>by
   rw[F0,F0];exact GU (List.length_filter_le _ _) h15
  ac_rfl;refine⟨⟨_,_,hx,rfl⟩,_,_,_,_,hx,⟨h0,h1⟩,_,_,_,hx,rfl,?_⟩;show ∀acc,H acc=none->_;intro p1 hp1;refine aB g0 (at1 n) (fun σ=>∃z,σ=[z,some (.int n)]) (by rw[F0];omega) (fun _=>trivial) ?_ ?_ ⟨_,rfl⟩
  ·rintro y hy l σ R ⟨z,rfl⟩ hl kT kF;obtain⟨p,hp,rfl⟩:=F4.mp hy;have e:at1 n (prV p)=decide (p.2=n):=rfl;rw[e]at kT kF;unfold prV at *;ac_rfl;refine aI (fun q=>?_) (fun q=>?_)
   ·exact⟨hl,by rw[aE];exact kT (by simpa using q) _ ⟨_,rfl⟩⟩
   ·exact kF (by simpa using q) _ ⟨_,rfl⟩
  rw[src_list];refine⟨_,_,_,(ak (ar hx hp1)).trans hx,rfl,?_⟩;show ∀acc,put H p1 _ acc=none->_;intro p2 hp2;have n12:p1≠p2:=fun e=>by subst e;rw[ah]at hp2;cases hp2
  have sa:=(Sub.refl H).put (o:=.lst (((bs.filter (fun p=>decide (p.2=n))).map (·.1)).map PV.int)) hp1;refine aB g1 (at0 n) (fun σ=>∃z,σ=[z,some (.int n)]) (by rw[F0];omega) (fun _=>trivial) ?_ ?_ ⟨_,rfl⟩
  ·rintro y hy l σ R ⟨z,rfl⟩ hl kT kF;obtain⟨p,hp,rfl⟩:=F4.mp hy;have e:at0 n (prV p)=decide (p.1=n):=rfl;rw[e]at kT kF;unfold prV at *;ac_rfl;refine aI (fun q=>?_) (fun q=>?_)
   ·exact⟨hl,by rw[aE];exact kT (by simpa using q) _ ⟨_,rfl⟩⟩
   ·exact kF (by simpa using q) _ ⟨_,rfl⟩
  rw[dm];have sb:=sa.put (o:=.lst (((bs.filter (fun p=>decide (p.1=n))).map (·.2)).map PV.int)) (sa.free hp2);refine⟨_,_,(ak n12).trans ah,ah,ai (by have a1:=lf (fun p=>decide (p.2=n)) (·.1);have a2:=lf (fun p=>decide (p.1=n)) (·.2);omega),fun p3 hp3=>?_⟩
  try ac_rfl
  refine⟨H,sb.put (sb.free hp3),?_⟩;rw[←F8];exact h
 ·exact h.elim
theorem DW(T:Tx K mg t):aK P w K mg base CX0 3 t.a_zO t.d_zO ["drawing","sets"] (c7 t):=by
 refine okU (k:=2) T.F_zO vU (fun vs H Q E h=>by
  unfold c7 at h;split at h
  ·rfl
  ·exact h.elim) (fun cdv A outer s H E B hr=>⟨_,(aj (b7 GF rfl (aM (qv 1)) (gN 2 vU.nd)
  (aj (bj (cz (qv 0) T.cl_A T.m_zd (BW T) hr.mo T.B_zd (aa (qv 2) ag)))))),?_⟩)
 intro vs H Q E h;unfold c7 at h;split at h
 ·rename_i x a;obtain⟨c,ts,bs,Ls,⟨dx,hx⟩,ha,hL,h⟩:=h;ac_rfl;refine⟨_,ha,?_⟩;refine cV (fun i σ H2=>∃z,σ=[some (.ref x),some (.ref a),z]/\H2=H) ?_ ?_ ⟨none,rfl,rfl⟩
  ·rintro σ H2 ⟨z,rfl,rfl⟩;exact⟨ha,H2,Sub.refl _,h⟩
  ·rintro G i y σ H2 hy ⟨z,rfl,rfl⟩ kk;refine⟨ha,?_⟩;obtain⟨M,hM,rfl⟩:=F4.mp (Gg hy);unfold tupI;ac_rfl;exact⟨⟨_,_,hx,rfl⟩,c,ts,M,⟨_,_,hx⟩,rfl,hL M hM,kk _ _ ⟨_,rfl,rfl⟩⟩
 ·exact h.elim
theorem DB(T:Tx K mg t):aK P w K mg base CX0 1 t.a_zD t.d_zD ["sets"] cM:=by
 refine okU (k:=0) T.F_zD qp (fun vs H Q E h=>by
  unfold cM at h;split at h
  ·rfl
  ·exact h.elim) (fun cdv A outer s H E B hr=>⟨_,(af (sN 1 qp.nd (bu ag))
  (af (b7 GF rfl (aM (qv 0)) (gN 2 qp.nd)
  (aj (bj (df HL HM g5 nQ (qv 1) (aa (qv 2) ag)))))
  (aj (aF (cN (cg hr.units) aH (kJ rfl rfl T.b_len rfl T.b_set boot_set (qv 1)) (au av aO rfl T.b_len Gn (aa (qv 1) ag)))
  bX
  ax)))),?_⟩)
 intro vs H Q E h;unfold cM at h;split at h
 ·rename_i a;obtain⟨Ls,ha,hl,nd,h⟩:=h;have f6:=My.bU 6 _ nd (fun x hx=>by obtain⟨L,hL,hx⟩:=List.mem_flatten.mp hx;exact hl L hL x hx);ac_rfl;refine⟨ai (by decide),fun p hp=>⟨_,(ak (ar ha hp)).trans ha,?_⟩⟩;have nap:=ar ha hp;have hpa:∀o,put H p o a=some (.lst (Ls.map tupI)):=fun o=>(ak nap).trans ha;refine cV (fun i σ H2=>∃z,σ=[some (.ref a),some (.ref p),z]/\H2=put H p (.lst (((Ls.take i).flatten).map PV.int))) ?_ ?_ ⟨none,rfl,by simp⟩
  ·rintro σ H2 ⟨z,rfl,rfl⟩;refine⟨hpa _,?_⟩;rw[F0,Ho];ac_rfl;have ng:∀y∈Ls.flatten,0≤y/\y<6:=fun x hx=>by obtain⟨L,hL,hx⟩:=List.mem_flatten.mp hx;exact hl L hL x hx
   refine⟨Ls.flatten.map Int.toNat,by rw[gF ng],fun n hn=>?_,?_,?_⟩
   ·obtain⟨z,hz,rfl⟩:=F4.mp hn;have:=ng z hz;omega
   ·rw[GD,Hu];refine List.Pairwise.imp_of_mem (fun {x y} hx hy hxy=>?_) (GD.mp nd);have h1:=ng x hx;have h2:=ng y hy;omega
   ·exact aw (by rw[F0,F0];simp) ⟨H,Sub.put (Sub.refl _) hp,h⟩
  ·rintro G i y σ H2 hy ⟨z,rfl,rfl⟩ kk;refine⟨hpa _,?_⟩;rw[Gs]at hy;obtain⟨M,hM,rfl⟩:=GX.mp hy;have e:(Ls.take (i+1)).flatten=(Ls.take i).flatten++M:=by rw[IF,hM];simp
   have l1:((Ls.take (i+1)).flatten).length≤Ls.flatten.length:=by
    conv=>rhs;rw[←List.take_append_drop (i+1) Ls,List.flatten_append,F3]
    omega
   rw[e,F3]at l1;unfold tupI;ac_rfl;exact⟨⟨_,rfl⟩,ai (by rw[F0,F0];omega),kk _ _ ⟨_,rfl,by rw[aE,← F8,e]⟩⟩
 ·exact h.elim
theorem AD(T:Tx K mg t):aK P w K mg base CX0 4 t.a_zv t.d_zv ["drawing","ones","others","given"] (dF t):=by
 refine okU (k:=3) T.F_zv AO (fun vs H Q E h=>by
  unfold dF at h;split at h
  ·rfl
  ·exact h.elim) (fun cdv A outer s H E B hr=>⟨_,(af (bj (aC (DW T) hr.mo rfl T.g_zO T.F_zO.kp T.B_zO (aa (qv 0) (aa (bu (aa (qv 1) (aa (qv 2) (aa (qv 3) ag)))) ag))))
  (af (bj (aC (DB T) hr.mo rfl T.g_zD T.F_zD.kp T.B_zD (aa (bu (aa (qv 1) (aa (qv 2) (aa (qv 3) ag)))) ag)))
  (aj (aF (aP (bx (cN (aG hr.units) aH (au av aO rfl T.b_len Gn (aa (qv 1) ag)) ae) (bB (cN (aG hr.units) aH (au av aO rfl T.b_len Gn (aa (qv 2) ag)) ae))))
  bX
  ax)))),?_⟩)
 intro vs H Q E h;unfold dF at h;split at h
 ·rename_i x l m n;obtain⟨c,ts,bs,A,B,G,dr,c6,rfl,rfl,rfl,ap,h⟩:=h;left;refine⟨ai (by decide),fun p hp=>⟨c,ts,bs,[A,B,G],dr.up ((Sub.refl H).put hp),rfl,?_,?_⟩⟩
  ·intro L hL;simp only[Gh,Hw,or_false]at hL;rcases hL with rfl | rfl | rfl
   ·exact ap.a
   ·exact ap.b
   ·exact ap.g
  have s1:=(Sub.refl H).put (o:=.lst [PV.tup (A.map PV.int),.tup (B.map PV.int),.tup (G.map PV.int)]) hp;generalize put H p (.lst [PV.tup (A.map PV.int),.tup (B.map PV.int),.tup (G.map PV.int)])=H1 at *;right;refine⟨ai (by decide),fun p2 hp2=>⟨[A,B,G],rfl,?_,ap.nd,?_⟩⟩
  ·intro L hL x hx;simp only[Gh,Hw,or_false]at hL;rcases hL with rfl | rfl | rfl
   ·have:=ap.a.lo x hx;omega
   ·have:=ap.b.lo x hx;omega
   ·have:=ap.g.lo x hx;omega
  have s2:=s1.put (o:=.lst [PV.tup (A.map PV.int),.tup (B.map PV.int),.tup (G.map PV.int)]) (s1.free hp2);subst hR;ac_rfl;have na:=ap.na;have nb:=ap.nb;exact aw (by rw[F0];simpa using na) (aw (by rw[F0];simpa using nb) ⟨H,s2,h⟩)
 ·exact h.elim
theorem E8(T:Tx K mg t):aK P w K mg base CX0 1 t.a_zq t.d_zq ["step"] jr:=by
 refine okU (k:=0) T.F_zq A0 (fun vs H Q E h=>by
  unfold jr at h;split at h
  ·rfl
  ·exact h.elim) (fun cdv A outer s H E B hr=>⟨_,(aj (ay (ba (cg hr.units) aH (iX (qv 0) ae) bT (bQ _)))),?_⟩)
 intro vs H Q E h;unfold jr at h;split at h
 ·rename_i x k y;ac_rfl;exact⟨H,Sub.refl _,h⟩
 ·exact h.elim
theorem E7(T:Tx K mg t):aK P w K mg base CX0 1 t.a_zf t.d_zf ["step"] jE:=by
 refine okU (k:=0) T.F_zf Co (fun vs H Q E h=>by
  unfold jE at h;split at h
  ·rfl
  ·exact h.elim) (fun cdv A outer s H E B hr=>⟨_,(aj (ay (ba (cg hr.units) aH (iX (qv 0) ae) bT (bQ _)))),?_⟩)
 intro vs H Q E h;unfold jE at h;split at h
 ·rename_i x k y;ac_rfl;exact⟨H,Sub.refl _,h⟩
 ·exact h.elim
theorem CD(T:Tx K mg t):aK P w K mg base CX0 2 t.a_zF t.d_zF ["step","behind"] gW:=by
 refine okU (k:=1) T.F_zF B5 (fun vs H Q E h=>by
  unfold gW at h;split at h
  ·rfl
  ·exact h.elim) (fun cdv A outer s H E B hr=>⟨_,(aj (ay (cD (aC (E8 T) hr.mo rfl T.g_zq T.F_zq.kp T.B_zq (aa (qv 0) ag)) (cB (aC (E7 T) hr.mo rfl T.g_zf T.F_zf.kp T.B_zf (aa (qv 1) ag)))))),?_⟩)
 intro vs H Q E h;unfold gW at h;split at h
 ·rename_i x y;obtain⟨s,s',rfl,rfl,h⟩:=h;unfold stV;ac_rfl;unfold mtg at h;refine aI (fun q=>⟨H,Sub.refl _,?_⟩) (fun q=>⟨H,Sub.refl _,?_⟩)
  ·simp only[q,Bool.true_and]at h;exact h
  ·simp only[q,Bool.false_and]at h;exact h
 ·exact h.elim
theorem Dv(T:Tx K mg t):aK P w K mg base CX0 3 t.a_zL t.d_zL ["step","behind","given","above"] d8:=by
 refine okU (k:=2) T.F_zL B3 (fun vs H Q E h=>by
  unfold d8 at h;split at h
  ·rfl
  ·exact h.elim) (fun cdv A outer s H E B hr=>⟨_,(af (aF (aQ (aC (CD T) hr.mo rfl T.g_zF T.F_zF.kp T.B_zF (aa (qv 0) (aa (qv 1) ag))))
  (aj (ay (ba (bL hr.units) bw (iX (qv 0) ae) (qv 3) (by with_unfolding_all rfl))))
  ax)
  (aj (ay (ba (aZ hr.units) bw (iX (qv 0) ae) (qv 2) (by with_unfolding_all rfl))))),?_⟩)
 intro vs H Q E h;unfold d8 at h;split at h
 ·rename_i x y l m;obtain⟨s,s',G,A,rfl,rfl,rfl,rfl,h⟩:=h;unfold psd at h;unfold stV;ac_rfl;refine⟨s,s',rfl,rfl,?_⟩;refine aI (fun q=>?_) (fun q=>?_)
  ·rw[Gq q]at h;exact⟨aJ,H,Sub.refl _,by rw[a8];exact h⟩
  ·rw[Gp (by rw[q];decide)]at h;exact⟨aJ,H,Sub.refl _,by rw[a8];exact h⟩
 ·exact h.elim
theorem DI(T:Tx K mg t):aK P w K mg base CX0 1 t.a_zR t.d_zR ["road"] fM:=by
 refine okU (k:=0) T.F_zR CL (fun vs H Q E h=>by
  unfold fM at h;split at h
  ·rfl
  ·exact h.elim) (fun cdv A outer s H E B hr=>⟨_,(aj (ay (bz (bu (aa (iX (iX (qv 0) ae) ae) ag)) (cE (N2:=nl5) (nt:=1) (js:=[]) (ck (sc:=aq uN)) (aM (qv 0)) (fun _ _ _ _=>⟨(gN 0 nn5),aY,(iX (qv 0) ae)⟩))))),?_⟩)
 intro vs H Q E h;unfold fM at h;split at h
 ·rename_i a;obtain⟨road,ha,ne,hl,h⟩:=h;cases road with
  | nil=>exact absurd rfl ne
  | cons s0 r0 =>
  ac_rfl;refine⟨_,ha,?_⟩;have e0:atI (stV s0::r0.map stV) 0=some (stV s0):=by
   have:=cn (l:=stV s0::r0.map stV) (i:=0) (by simp);exact this
  rw[Ge,e0];unfold stV;ac_rfl;refine⟨ai (by decide),fun p1 hp1=>?_⟩;have e1:put H p1 (.lst [PV.int s0.1]) p1=some (.lst [PV.int s0.1]):=ah;have a1:put H p1 (.lst [PV.int s0.1]) a=some (.lst ((s0::r0).map stV)):=(ak (ar ha hp1)).trans ha;have s1:=(Sub.refl H).put (o:=.lst [PV.int s0.1]) hp1;generalize put H p1 (.lst [PV.int s0.1])=H1 at *;refine⟨_,a1,fun acc hacc=>?_⟩;have na:=ar a1 hacc;refine aB g32 (fun _=>true) (fun σ=>∃z,σ=[z]) (by rw[F0];omega) (fun _=>(ak na).trans a1) ?_ ?_ ⟨_,rfl⟩
  ·rintro y hy l σ R' ⟨z,rfl⟩ hl' kT kF;obtain⟨s,hs,rfl⟩:=F4.mp hy;unfold stV at *;ac_rfl;exact⟨hl',by rw[aE];exact kT rfl _ ⟨_,rfl⟩⟩
  rw[wq];ac_rfl;refine⟨_,_,(ak (ar e1 hacc)).trans e1,rfl,ai (by simp at hl ⊢;omega),fun p3 hp3=>⟨_,Sub.refl _,h p3 _ ?_ ?_ ?_⟩⟩
  ·exact(s1.put (s1.free hacc)).free hp3
  ·have s2:=s1.put (o:=.lst (((s0::r0).map (·.2.2)).map PV.int)) (s1.free hacc);exact s2.put (s2.free hp3)
  ·rw[ah];rfl
 ·exact h.elim
theorem EC(T:Tx K mg t):aK P w K mg base CX0 3 t.a_zQ t.d_zQ ["road"] fQ:=by
 refine okU (k:=2) T.F_zQ BD (fun vs H Q E h=>by
  unfold fQ at h;split at h
  ·rfl
  ·exact h.elim) (fun cdv A outer s H E B hr=>⟨_,(aj (ay (dv (N2:=nl6) (nt:=2) (js:=[]) (ck (sc:=aq tZ)) rfl (dP rfl T.b_zip (aa (aN (qv 0) aT (aU (bO ae))) (aa (aN (qv 0) (aU ae) aT) ag))) (fun _ _ _ _=>⟨(bJ (n:=2) rfl (aA (gN 0 nn6) (aA (gN 1 nn6) br))),(bH (aQ (aC (CD T) hr.mo rfl T.g_zF T.F_zF.kp T.B_zF (aa (qv 0) (aa (qv 1) ag))))),(iX (qv 0) ae)⟩)))),?_⟩)
 intro vs H Q E h;unfold fQ at h;split at h
 ·rename_i a;obtain⟨road,ha,hl,h⟩:=h;ac_rfl;refine⟨_,ha,fun p1 hp1=>⟨_,(ak (ar ha hp1)).trans ha,fun p2 hp2=>?_⟩⟩;rw[dq,du]at *;have s1:=(Sub.refl H).put (o:=.lst (road.dropLast.map stV)) hp1;have s2:=s1.put (o:=.lst (road.tail.map stV)) (s1.free hp2);have n12:p1≠p2:=fun e=>by subst e;rw[ah]at hp2;cases hp2
  have e1:put (put H p1 (.lst (road.dropLast.map stV))) p2 (.lst (road.tail.map stV)) p1=some (.lst (road.dropLast.map stV)):=(ak n12).trans ah;have e2:put (put H p1 (.lst (road.dropLast.map stV))) p2 (.lst (road.tail.map stV)) p2=some (.lst (road.tail.map stV)):=ah;generalize put (put H p1 (.lst (road.dropLast.map stV))) p2 (.lst (road.tail.map stV))=H2 at *;refine⟨_,_,e1,rfl,fun acc hacc=>?_⟩;have f1:=ar e1 hacc;have f2:=ar e2 hacc;refine aB mtN mtF (fun σ=>∃z y,σ=[z,y]) (by rw[d0,F0,F0,HB];omega) (fun _=>⟨(ak f1).trans e1,(ak f2).trans e2⟩) ?_ ?_ ⟨_,_,rfl⟩
  ·rintro y hy l σ R' ⟨z,z2,rfl⟩ hl' kT kF;obtain⟨u,hu,v,hv,rfl⟩:=vF hy;obtain⟨s,hs,rfl⟩:=F4.mp hu;obtain⟨s',hs',rfl⟩:=F4.mp hv;have e:mtF (.tup [stV s,stV s'])=mtg s s':=rfl;rw[e]at kT kF;unfold stV at *;ac_rfl;refine⟨s,s',rfl,rfl,?_⟩;exact aI (fun q=>⟨hl',by rw[aE];exact kT q _ ⟨_,_,rfl⟩⟩) (fun q=>kF q _ ⟨_,_,rfl⟩)
  rw[jK];exact⟨_,Sub.refl _,h acc _ (s2.free hacc) (s2.put (s2.free hacc)) ah⟩
 ·exact h.elim
theorem FW(T:Tx K mg t):aK P w K mg base CX0 3 t.a_zr t.d_zr ["drawing","standing","given","above"] (eO t):=by
 refine okU (k:=2) T.F_zr nE (fun vs H Q E h=>by
  unfold eO at h;split at h
  ·rfl
  ·exact h.elim) (fun cdv A outer s H E B hr=>⟨_,(af (sN 4 nE.nd (iX (qv 1) ae))
  (af (sN 5 nE.nd (iX (qv 1) ae))
  (af (sN 6 nE.nd (bu ag))
  (af (aF (cW (aZ hr.units) bw (qv 4) (qv 2))
  (aj (bj (df HL HM eD d7 (qv 6) (aa (cE (N2:=nl7) (nt:=1) (js:=[]) (ck (sc:=aq oI)) (aM (cz (qv 0) T.cl_A T.m_za (Ek T) hr.mo T.B_za (aa (qv 4) ag))) (fun _ _ _ _=>⟨(gN 0 nn7),aY,(bg (aa (qv 0) (aa bb ag)))⟩)) ag))))
  ax)
  (af (aF (aP (bx (aP (fS (aQ (qv 5)) (eF (cW (bL hr.units) bw (qv 4) (qv 3))))) (bB (aP (fS (bC (aQ (qv 5))) (eF (cW (aZ hr.units) bw (qv 4) (qv 2))))))))
  (af (bj (df HL HM eD d7 (qv 6) (aa (cE (N2:=nl7) (nt:=1) (js:=[]) (ck (sc:=aq oI)) (aM (cz (qv 0) T.cl_A T.m_ze (CI T) hr.mo T.B_ze (aa (qv 4) ag))) (fun _ _ _ _=>⟨(gN 0 nn7),aY,(bg (aa (qv 0) (aa bb ag)))⟩)) ag)))
   (aj (bj (df HL HM eD d7 (qv 6) (aa (cE (N2:=nl7) (nt:=1) (js:=[]) (ck (sc:=aq oI)) (aM (cz (qv 0) T.cl_A T.m_zo (DO T) hr.mo T.B_zo (aa (qv 4) ag))) (fun _ _ _ _=>⟨(gN 0 nn7),aY,(bg (aa (qv 0) (aa bb ag)))⟩)) ag)))))
  ax)
  (aj (ay (qv 6)))))))),?_⟩)
 intro vs H Q E h;unfold eO at h;split at h
 ·rename_i x z l m;obtain⟨c,ts,bs,G,A,n,b,rfl,⟨dx,hx⟩,ok,hn,rfl,rfl,h⟩:=h;unfold sdV at *;have sdd:∀s:Sd,PV.tup [.int s.1,.bl s.2]=sdV s:=fun _=>rfl;have t15:=ok.gt.len ok.c6;have b15:=ok.gb.len ok.c6;have lf:=eG ok.gt ok.c6 n;have lu:=el ok.gt ok.c6 n;have lb:=gG ok.gb ok.c6 n;left;right;right;refine⟨ai (by decide),fun p hp=>?_⟩;have s0:=(Sub.refl H).put (o:=.lst []) hp;have e0:put H p (.lst []) p=some (.lst (([]:List Sd).map sdV)):=ah;generalize put H p (.lst [])=H0 at *;subst hR;refine ao fun R hR=>?_;have key:∀(L1:List Sd) (H1:PHp),U.Sub H H1->H1 p=some (.lst (L1.map sdV))->L1=(if n∈G then []else(fol ts n).map fun m=>((m,true):Sd))->R { nx:=fun _ H=>∃H3,U.Sub H3 H/\Q .non H3,rt:=fun v H=>∃H3,U.Sub H3 H/\Q v H3 } [some (.ref x),some (.tup [.int n,.bl b]),some (.tup (G.map PV.int)),some (.tup (A.map PV.int)),some (.int n),some (.bl b),some (.ref p)] H1:=fun L1 H1 s1 e1 hL=>by
   have l1:L1.length≤6:=by rw[hL];split<;>simp<;>omega
   subst hR;refine ao fun R hR=>?_;have key2:∀(L2:List Sd) (H2:PHp),U.Sub H H2->H2 p=some (.lst ((L1++L2).map sdV))->L2=(if (b=true/\n∈A)∨(b=false/\n∉G)then(src ts n).map (fun m=>((m,false):Sd))++(bwd bs n).map (fun m=>((m,true):Sd))else [])->R { nx:=fun _ H=>∃H3,U.Sub H3 H/\Q .non H3,rt:=fun v H=>∃H3,U.Sub H3 H/\Q v H3 } [some (.ref x),some (.tup [.int n,.bl b]),some (.tup (G.map PV.int)),some (.tup (A.map PV.int)),some (.int n),some (.bl b),some (.ref p)] H2:=fun L2 H2 s2 e2 hL2=>by
    subst hR;ac_rfl;refine⟨H2,Sub.refl _,h p H2 hp s2 ?_⟩;rw[e2,hL,hL2];rfl
   ac_rfl;cases b with
   | true =>
    refine az rfl ⟨aJ,?_⟩;simp only[a8];by_cases ha:n∈A
    ·refine az (by simp[ha]) ?_;have cd:((true:Bool)=true/\n∈A)∨((true:Bool)=false/\n∉G):=.inl ⟨rfl,ha⟩;refine⟨⟨_,e1⟩,⟨_,_,s1 _ _ hx,rfl⟩,dx,c,ts,bs,s1 _ _ hx,hn,t15,?_⟩;show ∀acc,H1 acc=none->_;intro q1 hq1;refine aB (fun y=>PV.tup [y,.bl false]) (fun _=>true) (fun σ=>∃z,σ=[z]) (by rw[F0];exact GU (el ok.gt ok.c6 n) (by decide)) (fun _=>trivial) ?_ ?_ ⟨_,rfl⟩
     ·rintro y hy l σ R' ⟨z,rfl⟩ hl kT kF;obtain⟨k,hk,rfl⟩:=F4.mp hy;ac_rfl;exact⟨ai (by decide),hl,by rw[aE];exact kT rfl _ ⟨_,rfl⟩⟩
     rw[eY];ac_rfl;refine⟨_,_,(ak (ar e1 hq1)).trans e1,rfl,ai (by simp only[F0,F3,IA];omega),?_⟩;rw[←F8];have s2:=(s1.put (o:=.lst (((src ts n).map fun m=>((m,false):Sd)).map sdV)) (s1.free hq1)).put (o:=.lst ((L1++(src ts n).map fun m=>((m,false):Sd)).map sdV)) hp;have e2:put (put H1 q1 (.lst (((src ts n).map fun m=>((m,false):Sd)).map sdV))) p (.lst ((L1++(src ts n).map fun m=>((m,false):Sd)).map sdV)) p=some (.lst ((L1++(src ts n).map fun m=>((m,false):Sd)).map sdV)):=ah;generalize put (put H1 q1 (.lst (((src ts n).map fun m=>((m,false):Sd)).map sdV))) p (.lst ((L1++(src ts n).map fun m=>((m,false):Sd)).map sdV))=H2 at *;refine⟨⟨_,rfl⟩,⟨_,_,s2 _ _ hx,rfl⟩,dx,c,ts,bs,s2 _ _ hx,hn,b15,?_⟩;show ∀acc,H2 acc=none->_;intro q2 hq2;refine aB (fun y=>PV.tup [y,.bl true]) (fun _=>true) (fun σ=>∃z,σ=[z]) (by rw[F0];exact GU (gG ok.gb ok.c6 n) (by decide)) (fun _=>trivial) ?_ ?_ ⟨_,rfl⟩
     ·rintro y hy l σ R' ⟨z,rfl⟩ hl kT kF;obtain⟨k,hk,rfl⟩:=F4.mp hy;ac_rfl;exact⟨ai (by decide),hl,by rw[aE];exact kT rfl _ ⟨_,rfl⟩⟩
     rw[eY];ac_rfl;refine⟨_,_,(ak (ar e2 hq2)).trans e2,rfl,ai (by simp only[F0,F3,IA];omega),?_⟩;rw[←F8];have s3:=(s2.put (o:=.lst (((bwd bs n).map fun m=>((m,true):Sd)).map sdV)) (s2.free hq2)).put (o:=.lst (((L1++((src ts n).map fun m=>((m,false):Sd)))++(bwd bs n).map fun m=>((m,true):Sd)).map sdV)) hp;have e3:put (put H2 q2 (.lst (((bwd bs n).map fun m=>((m,true):Sd)).map sdV))) p (.lst (((L1++((src ts n).map fun m=>((m,false):Sd)))++(bwd bs n).map fun m=>((m,true):Sd)).map sdV)) p=some (.lst (((L1++((src ts n).map fun m=>((m,false):Sd)))++(bwd bs n).map fun m=>((m,true):Sd)).map sdV)):=ah;generalize put (put H2 q2 (.lst (((bwd bs n).map fun m=>((m,true):Sd)).map sdV))) p (.lst (((L1++((src ts n).map fun m=>((m,false):Sd)))++(bwd bs n).map fun m=>((m,true):Sd)).map sdV))=H3 at *;exact key2 _ H3 s3 (by rw[e3,Hy]) (by rw[Gq cd])
    ·exact aw (by simp[ha]) (aw rfl (key2 [] H1 s1 (by rw[GS];exact e1) (by rw[Gp (by simp[ha])])))
   | false =>
    refine aw rfl (az rfl ⟨aJ,?_⟩);simp only[a8];by_cases ha:n∈G
    ·exact aw (by simp[ha]) (key2 [] H1 s1 (by rw[GS];exact e1) (by rw[Gp (by simp[ha])]))
    ·refine az (by simp[ha]) ?_;have cd:((false:Bool)=true/\n∈A)∨((false:Bool)=false/\n∉G):=.inr ⟨rfl,ha⟩;refine⟨⟨_,e1⟩,⟨_,_,s1 _ _ hx,rfl⟩,dx,c,ts,bs,s1 _ _ hx,hn,t15,?_⟩;show ∀acc,H1 acc=none->_;intro q1 hq1;refine aB (fun y=>PV.tup [y,.bl false]) (fun _=>true) (fun σ=>∃z,σ=[z]) (by rw[F0];exact GU (el ok.gt ok.c6 n) (by decide)) (fun _=>trivial) ?_ ?_ ⟨_,rfl⟩
     ·rintro y hy l σ R' ⟨z,rfl⟩ hl kT kF;obtain⟨k,hk,rfl⟩:=F4.mp hy;ac_rfl;exact⟨ai (by decide),hl,by rw[aE];exact kT rfl _ ⟨_,rfl⟩⟩
     rw[eY];ac_rfl;refine⟨_,_,(ak (ar e1 hq1)).trans e1,rfl,ai (by simp only[F0,F3,IA];omega),?_⟩;rw[←F8];have s2:=(s1.put (o:=.lst (((src ts n).map fun m=>((m,false):Sd)).map sdV)) (s1.free hq1)).put (o:=.lst ((L1++(src ts n).map fun m=>((m,false):Sd)).map sdV)) hp;have e2:put (put H1 q1 (.lst (((src ts n).map fun m=>((m,false):Sd)).map sdV))) p (.lst ((L1++(src ts n).map fun m=>((m,false):Sd)).map sdV)) p=some (.lst ((L1++(src ts n).map fun m=>((m,false):Sd)).map sdV)):=ah;generalize put (put H1 q1 (.lst (((src ts n).map fun m=>((m,false):Sd)).map sdV))) p (.lst ((L1++(src ts n).map fun m=>((m,false):Sd)).map sdV))=H2 at *;refine⟨⟨_,rfl⟩,⟨_,_,s2 _ _ hx,rfl⟩,dx,c,ts,bs,s2 _ _ hx,hn,b15,?_⟩;show ∀acc,H2 acc=none->_;intro q2 hq2;refine aB (fun y=>PV.tup [y,.bl true]) (fun _=>true) (fun σ=>∃z,σ=[z]) (by rw[F0];exact GU (gG ok.gb ok.c6 n) (by decide)) (fun _=>trivial) ?_ ?_ ⟨_,rfl⟩
     ·rintro y hy l σ R' ⟨z,rfl⟩ hl kT kF;obtain⟨k,hk,rfl⟩:=F4.mp hy;ac_rfl;exact⟨ai (by decide),hl,by rw[aE];exact kT rfl _ ⟨_,rfl⟩⟩
     rw[eY];ac_rfl;refine⟨_,_,(ak (ar e2 hq2)).trans e2,rfl,ai (by simp only[F0,F3,IA];omega),?_⟩;rw[←F8];have s3:=(s2.put (o:=.lst (((bwd bs n).map fun m=>((m,true):Sd)).map sdV)) (s2.free hq2)).put (o:=.lst (((L1++((src ts n).map fun m=>((m,false):Sd)))++(bwd bs n).map fun m=>((m,true):Sd)).map sdV)) hp;have e3:put (put H2 q2 (.lst (((bwd bs n).map fun m=>((m,true):Sd)).map sdV))) p (.lst (((L1++((src ts n).map fun m=>((m,false):Sd)))++(bwd bs n).map fun m=>((m,true):Sd)).map sdV)) p=some (.lst (((L1++((src ts n).map fun m=>((m,false):Sd)))++(bwd bs n).map fun m=>((m,true):Sd)).map sdV)):=ah;generalize put (put H2 q2 (.lst (((bwd bs n).map fun m=>((m,true):Sd)).map sdV))) p (.lst (((L1++((src ts n).map fun m=>((m,false):Sd)))++(bwd bs n).map fun m=>((m,true):Sd)).map sdV))=H3 at *;exact key2 _ H3 s3 (by rw[e3,Hy]) (by rw[Gq cd])
  ac_rfl;refine⟨aJ,?_⟩;simp only[a8];by_cases hg:n∈G
  ·exact aw (by simp[hg]) (key [] H0 s0 e0 (by rw[Gq hg]))
  refine az (by simp[hg]) ⟨⟨_,e0⟩,⟨_,_,s0 _ _ hx,rfl⟩,dx,c,ts,bs,s0 _ _ hx,hn,t15,?_⟩;show ∀acc,H0 acc=none->_;intro q hq;refine aB (fun y=>PV.tup [y,.bl true]) (fun _=>true) (fun σ=>∃z,σ=[z]) (by rw[F0];exact GU (eG ok.gt ok.c6 n) (by decide)) (fun _=>trivial) ?_ ?_ ⟨_,rfl⟩
  ·rintro y hy l σ R' ⟨z,rfl⟩ hl kT kF;obtain⟨k,hk,rfl⟩:=F4.mp hy;ac_rfl;exact⟨ai (by decide),hl,by rw[aE];exact kT rfl _ ⟨_,rfl⟩⟩
  rw[eY];ac_rfl;refine⟨_,_,(ak (ar e0 hq)).trans e0,rfl,ai (by simp only[F0,F3,IA];omega),?_⟩;rw[←F8];have s1:=(s0.put (o:=.lst (((fol ts n).map fun m=>((m,true):Sd)).map sdV)) (s0.free hq)).put (o:=.lst (([]++(fol ts n).map fun m=>((m,true):Sd)).map sdV)) hp;have e1:put (put H0 q (.lst (((fol ts n).map fun m=>((m,true):Sd)).map sdV))) p (.lst (([]++(fol ts n).map fun m=>((m,true):Sd)).map sdV)) p=some (.lst (([]++(fol ts n).map fun m=>((m,true):Sd)).map sdV)):=ah;generalize put (put H0 q (.lst (((fol ts n).map fun m=>((m,true):Sd)).map sdV))) p (.lst (([]++(fol ts n).map fun m=>((m,true):Sd)).map sdV))=H1 at *;exact key _ _ s1 e1 (by rw[Gp hg];rfl)
 ·exact h.elim
theorem BP(T:Tx K mg t):aK P w K mg base CX0 1 t.a_zN t.d_zN ["_law_cell","_law_place"] n0:=by
 refine okU (k:=0) T.F_zN rA (fun vs H Q E h=>by
  unfold n0 at h;split at h
  ·rfl
  ·exact h.elim) (fun cdv A outer s H E B hr=>⟨_,(af (sN 2 rA.nd (aL (bE (bE (fT (aL (qv 0) ae) ae) (fT ae (qv 1))) ae) ae))
  (af (sN 2 rA.nd (aL (bE (bE (fT (qv 2) (qv 2)) (fT ae (qv 1))) ae) ae))
  (aj (ay (aL (bE (fT (qv 2) (qv 2)) ae) ae))))),?_⟩)
 intro vs H Q E h;unfold n0 at h;split at h
 ·rename_i u k;obtain⟨⟨k0,k1⟩,h⟩:=h;ac_rfl;have bk:My.BN 64 k:=show k.natAbs<2 ^ 64 from GA (m:=100) (by omega) (by decide);have bm:∀a:Int,My.BN 64 (a.fmod 2147483629):=fun a=>zT (by decide) (show My.BN 64 _ by unfold My.BN;decide);have bc:∀n:Int,n.natAbs<2 ^ 64->My.BN 64 n:=fun n h=>h;have f:∀{a b:Int},My.BN 64 a->My.BN 64 b->j9 a b:=fun x y=>.inr ⟨x.fit (by decide),y.fit (by decide)⟩;exact⟨by decide,f (bm _) (bc _ (by decide)),f (bc _ (by decide)) bk,by decide,f (bm _) (bm _),f (bc _ (by decide)) bk,by decide,f (bm _) (bm _),by decide,H,Sub.refl _,h _⟩
 ·exact h.elim
theorem yH(T:Tx K mg t):aK P w K mg base CX0 1 t.a_zH t.d_zH ["_law_found"] fL:=by
 refine okU (k:=0) T.F_zH A3 (fun vs H Q E h=>by
  unfold fL at h;split at h
  ·rfl
  ·exact h.elim) (fun cdv A outer s H E B hr=>⟨_,(aj (ay (cD (au (aW .int) (bM .int) rfl T.b_isinstance GG (aa (qv 0) (aa (bN rfl T.b_int boot_int) ag))) (cB (sL (au (aW .bool) (bM .bool) rfl T.b_isinstance GG (aa (qv 0) (aa (bN rfl T.b_bool boot_bool) ag)))))))),?_⟩)
 intro vs H Q E h;unfold fL at h;split at h
 ·rename_i n;ac_rfl;exact⟨H,Sub.refl _,h⟩
 ·exact h.elim
theorem Dp(T:Tx K mg t):aK P w K mg base CX0 2 t.a_zs t.d_zs ["_law_script","_law_at","_law_many"] jG:=by
 refine okU (k:=1) T.F_zs d3 (fun vs H Q E h=>by
  unfold jG at h;split at h
  ·rfl
  ·exact h.elim) (fun cdv A outer s H E B hr=>⟨_,(af (sN 3 d3.nd (bu ag))
  (af (sN 4 d3.nd (bu ag))
  (af (sN 5 d3.nd (aC (wZ T) hr.mo rfl T.g_zC T.F_zC.kp T.B_zC (aa (qv 0) (aa (qv 1) ag))))
  (af (sN 6 d3.nd (a9 (qv 5) ae))
  (af (sN 7 d3.nd ae)
  (af (b7 GF rfl (cw rfl T.b_range (aa (qv 2) ag)) (gN 8 d3.nd)
  (aj (b7 GF rfl (oR rfl T.b_range (aa (bE (qv 8) ae) (aa (qv 2) ag))) (gN 9 d3.nd)
   (af (sN 10 d3.nd (vK (yg (qv 6) (fT ae (qv 7))) ae))
    (af (aF (cN (aG hr.units) aH (aL (qv 5) ae) ae)
    (aj (sN 10 d3.nd (aL (aC (BP T) hr.mo rfl T.g_zN T.F_zN.kp T.B_zN (aa (qv 5) (aa (qv 7) ag))) ae)))
    ax)
    (af (aF (cN (aG hr.units) aH (aL (qv 10) ae) ae)
    (aj (bj (df GY GZ bY cx (qv 3) (aa (bg (aa (qv 8) (aa (qv 9) ag))) ag))))
    ax)
    (af (aF (aP (fS (cN iW i4 (qv 10) ae) (eF (cN fc fB (au av aO rfl T.b_len Gn (aa (qv 4) ag)) ae))))
    (aj (bj (df GY GZ bY cx (qv 4) (aa (bg (aa (qv 8) (aa (qv 9) ag))) ag))))
    ax)
    (aj (sN 7 d3.nd (bE (qv 7) ae))))))))))
  (aj (ay (bg (aa (qv 2) (aa (aS aX bV rfl T.b_tuple Ie (aa (qv 3) ag)) (aa (aS aX bV rfl T.b_tuple Ie (aa (qv 4) ag)) ag)))))))))))),?_⟩)
 intro vs H Q E h;unfold jG at h;split at h
 ·rename_i l k c;obtain⟨⟨k0,k1⟩,⟨c1,c6⟩,ns,rfl,h⟩:=h;left;refine⟨ai (by decide),fun p hp=>?_⟩;right;refine⟨ai (by decide),fun q hq=>?_⟩;right;refine⟨⟨k0,by omega⟩,ns,rfl,?_⟩;generalize ns.getD k.toNat 0=u;have s0:=(Sub.refl H).put (o:=.lst []) hp;have hqH:=s0.free hq;have npq:p≠q:=fun e=>by subst e;rw[ah]at hq;cases hq
  have s1:=s0.put (o:=.lst []) hqH;have e1:put (put H p (.lst [])) q (.lst []) p=some (.lst (([]:List DM.P2).map prV)):=(ak npq).trans ah;have e2:put (put H p (.lst [])) q (.lst []) q=some (.lst (([]:List DM.P2).map prV)):=ah;generalize put (put H p (.lst [])) q (.lst [])=H1 at *;right;refine⟨cQ (by decide) (by decide),?_⟩;generalize u.fdiv 2=nu;right;right;refine⟨⟨by omega,by omega⟩,?_⟩;refine dN (fun i σ H2=>∃pl z1 z2 z3 ts bs,σ=[some (.fls (ns.map PV.int)),some (.int k),some (.int c),some (.ref p),some (.ref q),some (.int u),some (.int nu),some (.int pl),z1,z2,z3]/\(U.Sub H H2/\H2 p=some (.lst (ts.map prV))/\H2 q=some (.lst (bs.map prV)))/\GL c (i:Nat) 0 ts/\GL c (i:Nat) 0 bs/\bs.length≤6/\0≤pl/\pl≤6*(i:Nat)) ?_ ?_ ⟨0,none,none,none,[],[],rfl,⟨s1,e1,e2⟩,GL.nil,GL.nil,by simp,by omega,by omega⟩
  ·rintro σ H2 ⟨pl,z1,z2,z3,ts,bs,rfl,⟨s2,a1,a2⟩,g1,g2,l6,p0,p1⟩;refine⟨trivial,?_⟩;subst hR;ac_rfl;exact⟨_,a1,_,a2,ai (by decide),H,s2,h ts bs ⟨c1,c6,g1.good,g2.good,g1.st,g2.st,l6⟩⟩
  ·rintro G i σ H2 hi ⟨pl,z1,z2,z3,ts,bs,rfl,hH,g1,g2,l6,p0,p1⟩ kk;refine⟨trivial,?_⟩;ac_rfl;refine⟨⟨by omega,by omega,by omega,by omega⟩,?_⟩;have hn:(c - ((i:Nat)+1:Int)).toNat≤5:=by omega
   refine dN (fun j σ H3=>∃pl z2 z3 ts bs,σ=[some (.fls (ns.map PV.int)),some (.int k),some (.int c),some (.ref p),some (.ref q),some (.int u),some (.int nu),some (.int pl),some (.int (i:Nat)),z2,z3]/\(U.Sub H H3/\H3 p=some (.lst (ts.map prV))/\H3 q=some (.lst (bs.map prV)))/\GL c (i:Nat) ((i:Nat)+1+(j:Nat):Int) ts/\GL c (i:Nat) ((i:Nat)+1+(j:Nat):Int) bs/\bs.length≤6/\0≤pl/\pl≤6*(i:Nat)+(j:Nat)) ?_ ?_ ⟨pl,z2,z3,ts,bs,rfl,hH,g1.up (by omega),g2.up (by omega),l6,p0,by omega⟩
   ·rintro σ H3 ⟨pl,z2,z3,ts,bs,rfl,hH,g1,g2,l6,p0,p1⟩;exact⟨trivial,kk _ _ ⟨_,_,_,_,ts,bs,rfl,hH,g1.nx 0,g2.nx 0,l6,p0,by omega⟩⟩
   ·rintro G' j σ H3 hj ⟨pl,z2,z3,ts,bs,rfl,⟨s2,a1,a2⟩,g1,g2,l6,p0,p1⟩ kk';refine⟨trivial,?_⟩;have t15:=g1.good.len c6;refine ao fun R1 hR1=>?_;ac_rfl;refine⟨.inr ⟨wo (by decide),wo (by omega)⟩,by omega,?_⟩;generalize Builtin.bitAnd _ _=kd0;have fin:∀(kd:Int) (ts' bs':List DM.P2) (H4:PHp),(U.Sub H H4/\H4 p=some (.lst (ts'.map prV))/\H4 q=some (.lst (bs'.map prV)))->GL c (i:Nat) ((i:Nat)+1+(j:Nat)+1:Int) ts'->GL c (i:Nat) ((i:Nat)+1+(j:Nat)+1:Int) bs'->bs'.length≤6->G' [some (.fls (ns.map PV.int)),some (.int k),some (.int c),some (.ref p),some (.ref q),some (.int u),some (.int nu),some (.int (pl+1)),some (.int (i:Nat)),some (.int ((i:Nat)+1+(j:Nat):Int)),some (.int kd)] H4:=fun kd ts' bs' H4 x1 x2 x3 x4=>kk' _ _ ⟨_,_,_,ts',bs',rfl,x1,by rw[show(((i:Nat):Int)+1+((j+1:Nat):Int))=(i:Nat)+1+(j:Nat)+1 by omega];exact x2,by rw[show(((i:Nat):Int)+1+((j+1:Nat):Int))=(i:Nat)+1+(j:Nat)+1 by omega];exact x3,x4,by omega,by omega⟩;subst hR1;refine ao fun R1 hR1=>?_;have on1:∀kd:Int,R1 { nx:=G',rt:=fun v H=>∃H3,U.Sub H3 H/\Q v H3,bk:=G,ct:=G' } [some (.fls (ns.map PV.int)),some (.int k),some (.int c),some (.ref p),some (.ref q),some (.int u),some (.int nu),some (.int pl),some (.int (i:Nat)),some (.int ((i:Nat)+1+(j:Nat):Int)),some (.int kd)] H3:=fun kd=>by
     subst hR1;refine ao fun R1 hR1=>?_;have on2:∀(ts':List DM.P2) (H4:PHp),(U.Sub H H4/\H4 p=some (.lst (ts'.map prV))/\H4 q=some (.lst (bs.map prV)))->GL c (i:Nat) ((i:Nat)+1+(j:Nat)+1:Int) ts'->R1 { nx:=G',rt:=fun v H=>∃H3,U.Sub H3 H/\Q v H3,bk:=G,ct:=G' } [some (.fls (ns.map PV.int)),some (.int k),some (.int c),some (.ref p),some (.ref q),some (.int u),some (.int nu),some (.int pl),some (.int (i:Nat)),some (.int ((i:Nat)+1+(j:Nat):Int)),some (.int kd)] H4:=fun ts' H4 hH b1=>by
      subst hR1;refine ao fun R1 hR1=>?_;have on3:∀(bs':List DM.P2) (H5:PHp),(U.Sub H H5/\H5 p=some (.lst (ts'.map prV))/\H5 q=some (.lst (bs'.map prV)))->GL c (i:Nat) ((i:Nat)+1+(j:Nat)+1:Int) bs'->bs'.length≤6->R1 { nx:=G',rt:=fun v H=>∃H3,U.Sub H3 H/\Q v H3,bk:=G,ct:=G' } [some (.fls (ns.map PV.int)),some (.int k),some (.int c),some (.ref p),some (.ref q),some (.int u),some (.int nu),some (.int pl),some (.int (i:Nat)),some (.int ((i:Nat)+1+(j:Nat):Int)),some (.int kd)] H5:=fun bs' H5 hH' b2 b6=>by
       subst hR1;ac_rfl;exact fin kd ts' bs' H5 hH' b1 b2 b6
      obtain⟨u1,u3,u4⟩:=id hH;ac_rfl;refine aI (fun _=>?_) (fun _=>on3 bs H4 hH (g2.up (by omega)) l6);refine⟨_,u4,?_⟩;by_cases h6:bs.length<6
      ·refine az (by rw[F0];simp;omega) ?_;refine⟨⟨_,u4⟩,ai (by decide),_,u4,by rw[F0];exact bA (by omega),?_⟩;refine on3 (bs++[(((i:Nat):Int),((i:Nat):Int)+1+((j:Nat):Int))]) _ ⟨u1.put hqH,(ak npq).trans u3,?_⟩ (g2.app (by omega) (by omega) (by omega) c6) (by rw[F3];simp;omega);rw[ah,F8];rfl
      ·exact aw (by rw[F0];simp;omega) (on3 bs H4 hH (g2.up (by omega)) l6)
     ac_rfl;refine⟨by decide,aI (fun _=>?_) (fun _=>on2 ts H3 ⟨s2,a1,a2⟩ (g1.up (by omega)))⟩;refine⟨⟨_,a1⟩,ai (by decide),_,a1,by rw[F0];exact bA (by omega),?_⟩;refine on2 (ts++[(((i:Nat):Int),((i:Nat):Int)+1+((j:Nat):Int))]) _ ⟨s2.put hp,?_,(ak npq.symm).trans a2⟩ (g1.app (by omega) (by omega) (by omega) c6);rw[ah,F8];rfl
    ac_rfl;refine⟨by decide,aI (fun _=>?_) (fun _=>on1 _)⟩;exact⟨⟨p0,by omega⟩,fun n=>⟨by decide,on1 _⟩⟩
 ·exact h.elim
theorem Aj(T:Tx K mg t):aK P w K mg base CX0 1 t.a_zG t.d_zG ["_law_step","_law_further"] d9:=by
 refine okU (k:=0) T.F_zG BV (fun vs H Q E h=>by
  unfold d9 at h;split at h
  ·rfl
  ·exact h.elim) (fun cdv A outer s H E B hr=>⟨_,(aj (ay (cD (ba (cg hr.units) aH (iX (qv 0) ae) bT (bQ _)) (cB (ba (cg hr.units) aH (iX (qv 1) ae) bT (bQ _)))))),?_⟩)
 intro vs H Q E h;unfold d9 at h;split at h
 ·rename_i a k b a' k' b';ac_rfl;unfold mtg at h;refine aI (fun q=>⟨H,Sub.refl _,?_⟩) (fun q=>⟨H,Sub.refl _,?_⟩)
  ·simp only[q,Bool.true_and]at h;exact h
  ·simp only[q,Bool.false_and]at h;exact h
 ·exact h.elim
theorem Bi(T:Tx K mg t):aK P w K mg base CX0 1 t.a_zM t.d_zM ["_law_drawn","_law_names"] ft:=by
 refine okU (k:=0) T.F_zM nH (fun vs H Q E h=>by
  unfold ft at h;split at h
  ·rfl
  ·exact h.elim) (fun cdv A outer s H E B hr=>⟨_,(af (sN 2 nH.nd (aS bG de rfl T.b_list IB (aa (qv 1) ag)))
  (af (og GF rfl (Bo rfl T.b_reversed (aa (iX (qv 0) ae) ag)) (bJ (n:=2) rfl (aA (gN 3 nH.nd) (aA (gN 4 nH.nd) br)))
  (aj (aF (aP (fS (cW (bL hr.units) bw (qv 4) (qv 2)) (eF (cW (aZ hr.units) bw (qv 3) (qv 2)))))
   (aj (bj (df GY GZ bY cx (qv 2) (aa (qv 3) ag))))
   ax)))
  (aj (ay (qv 2))))),?_⟩)
 intro vs H Q E h;unfold ft at h;split at h
 ·rename_i l m;obtain⟨c,ts,bs,G,e,rfl,ok,hG,h⟩:=h;unfold shp at e;injection e with e;subst e;have t15:=ok.gt.len ok.c6;have g6:=hG.len ok.c6;left;intro f hf;have s1:=(Sub.refl H).put (o:=.lst (G.map PV.int)) hf;have e1:put H f (.lst (G.map PV.int)) f=some (.lst (G.map PV.int)):=ah;generalize put H f (.lst (G.map PV.int))=H1 at *;right;refine⟨by rw[F0];omega,?_⟩;rw[←List.map_reverse];refine cV (fun i σ H2=>∃z1 z2 F,σ=[some (.tup [.int c,.tup (ts.map prV),.tup (bs.map prV)]),some (.tup (G.map PV.int)),some (.ref f),z1,z2]/\U.Sub H H2/\H2 f=some (.lst (F.map PV.int))/\F=(ts.reverse.take i).foldl b0 G/\F.length≤6+i) ?_ ?_ ⟨none,none,G,rfl,s1,e1,rfl,by omega⟩
  ·rintro σ H2 ⟨z1,z2,F,rfl,s2,e2,hF,lF⟩;refine⟨trivial,?_⟩;rw[F0,Ho]at hF;subst hR;ac_rfl;obtain⟨A,an,iff⟩:=vZ ok hG (F:=F) fun x=>by rw[hF];exact pX ok x
   exact⟨H2,Sub.refl _,h f H2 F A hf s2 e2 an iff⟩
  ·rintro N i y σ H2 hy ⟨z1,z2,F,rfl,s2,e2,hF,lF⟩ kk;refine⟨trivial,?_⟩;rw[Gs]at hy;obtain⟨p,hp,rfl⟩:=GX.mp hy;have hi:i<ts.reverse.length:=(Gj.mp hp).1;rw[List.length_reverse]at hi;have hnx:(ts.reverse.take (i+1)).foldl b0 G=b0 F p:=by rw[i9 hp,← hF]
   unfold b0 at hnx;have stay:¬(p.2∈F/\p.1∉F)->N [some (.tup [.int c,.tup (ts.map prV),.tup (bs.map prV)]),some (.tup (G.map PV.int)),some (.ref f),some (.int p.1),some (.int p.2)] H2:=fun hn=>by
    rw[Gp hn]at hnx;exact kk _ _ ⟨_,_,F,rfl,s2,e2,hnx.symm,by omega⟩
   unfold prV;ac_rfl;refine⟨_,e2,aJ,?_⟩;rw[a8];by_cases m1:p.2∈F
   ·refine az (by simp[m1]) ⟨_,e2,aJ,?_⟩;rw[a8];by_cases m2:p.1∈F
    ·exact aw (by simp[m2]) (stay fun h=>h.2 m2)
    ·refine az (by simp[m2]) ⟨⟨_,e2⟩,_,e2,bA (by rw[F0];omega),?_⟩;rw[Gq ⟨m1,m2⟩]at hnx;refine kk _ _ ⟨_,_,F++[p.1],rfl,s2.put hf,by rw[ah,F8];rfl,hnx.symm,by rw[F3,Gr];omega⟩
   ·exact aw (by simp[m1]) (stay fun h=>m1 h.1)
 ·exact h.elim
theorem AW(T:Tx K mg t):aK P w K mg base CX0 1 t.a_zt t.d_zt ["_law_drawn","_law_standing","_law_given","_law_above_here"] ff:=by
 refine okU (k:=0) T.F_zt gr (fun vs H Q E h=>by
  unfold ff at h;split at h
  ·rfl
  ·exact h.elim) (fun cdv A outer s H E B hr=>⟨_,(af (e8 (qv 1) (bJ (n:=2) rfl (aA (gN 4 gr.nd) (aA (gN 5 gr.nd) br))))
  (af (sN 6 gr.nd (bu ag))
  (af (aF (cW (aZ hr.units) bw (qv 4) (qv 2))
  (aj (sC 6 gr.nd (N2:=nl8) (nt:=2) (js:=[4]) (ck (sc:=aq lQ)) (aM (iX (qv 0) ae)) (fun _ _ _ _=>⟨(bJ (n:=2) rfl (aA (gN 0 nn8) (aA (gN 1 nn8) br))),(bH (cN (aG hr.units) aH (qv 0) (qv 2))),(bg (aa (qv 1) (aa bb ag)))⟩)))
  ax)
  (af (aF (aP (bx (aP (fS (aQ (qv 5)) (eF (cW (bL hr.units) bw (qv 4) (qv 3))))) (bB (aP (fS (bC (aQ (qv 5))) (eF (cW (aZ hr.units) bw (qv 4) (qv 2))))))))
  (af (sN 6 gr.nd (bz (qv 6) (cE (N2:=nl8) (nt:=2) (js:=[4]) (ck (sc:=aq lQ)) (aM (iX (qv 0) ae)) (fun _ _ _ _=>⟨(bJ (n:=2) rfl (aA (gN 0 nn8) (aA (gN 1 nn8) br))),(bH (cN (aG hr.units) aH (qv 1) (qv 2))),(bg (aa (qv 0) (aa bb ag)))⟩))))
   (af (sN 6 gr.nd (bz (qv 6) (cE (N2:=nl8) (nt:=2) (js:=[4]) (ck (sc:=aq lQ)) (aM (iX (qv 0) ae)) (fun _ _ _ _=>⟨(bJ (n:=2) rfl (aA (gN 0 nn8) (aA (gN 1 nn8) br))),(bH (cN (aG hr.units) aH (qv 0) (qv 2))),(bg (aa (qv 1) (aa bb ag)))⟩))))
   (aj (sN 6 gr.nd (bz (qv 6) (cE (N2:=nl8) (nt:=2) (js:=[4]) (ck (sc:=aq lQ)) (aM (iX (qv 0) ae)) (fun _ _ _ _=>⟨(bJ (n:=2) rfl (aA (gN 0 nn8) (aA (gN 1 nn8) br))),(bH (cN (aG hr.units) aH (qv 1) (qv 2))),(bg (aa (qv 0) (aa bb ag)))⟩)))))))
  ax)
  (aj (ay (qv 6))))))),?_⟩)
 intro vs H Q E h;unfold ff at h;split at h
 ·rename_i l u m a;obtain⟨c,ts,bs,G,F,A,n,b,rfl,e,rfl,ok,ha,iff,h⟩:=h;unfold sdV;unfold shp at e;injection e with e;subst e;have t15:=ok.gt.len ok.c6;have b15:=ok.gb.len ok.c6;have l1:=eG ok.gt ok.c6 n;have l2:=el ok.gt ok.c6 n;have l3:=eG ok.gb ok.c6 n;have l4:=el ok.gb ok.c6 n;left;right;refine⟨ai (by decide),fun f0 hf0=>?_⟩;have s0:=(Sub.refl H).put (o:=.lst []) hf0;have e0:put H f0 (.lst []) f0=some (.lst (([]:List Sd).map sdV)):=ah;generalize put H f0 (.lst [])=H0 at *;subst hR;refine ao fun R hR=>?_;have key:∀(f:Addr) (L1:List Sd) (H1:PHp),H f=none->U.Sub H H1->H1 f=some (.lst (L1.map sdV))->L1=(if n∈G then []else(fol ts n).map fun m=>((m,true):Sd))->R { nx:=fun _ H=>∃H3,U.Sub H3 H/\Q .non H3,rt:=fun v H=>∃H3,U.Sub H3 H/\Q v H3 } [some (.tup [.int c,.tup (ts.map prV),.tup (bs.map prV)]),some (.tup [.int n,.bl b]),some (.tup (G.map PV.int)),some (.ref a),some (.int n),some (.bl b),some (.ref f)] H1:=fun f L1 H1 hf s1 e1 hL=>by
   have k1:L1.length≤6:=by rw[hL];split<;>simp<;>omega
   subst hR;refine bZ fun T1 R h1 hR=>?_;have key2:∀(f:Addr) (L:List Sd) (H2:PHp),H f=none->U.Sub H H2->H2 f=some (.lst (L.map sdV))->(∀z,z∈L↔z∈L1++(if (b=true/\n∈A)∨(b=false/\n∉G)then(src ts n).map (fun m=>((m,false):Sd))++(bwd bs n).map (fun m=>((m,true):Sd))else []))->L.length≤60->R { nx:=fun _ H=>∃H3,U.Sub H3 H/\Q .non H3,rt:=fun v H=>∃H3,U.Sub H3 H/\Q v H3 } [some (.tup [.int c,.tup (ts.map prV),.tup (bs.map prV)]),some (.tup [.int n,.bl b]),some (.tup (G.map PV.int)),some (.ref a),some (.int n),some (.bl b),some (.ref f)] H2:=fun f L H2 hf s2 e2 hz hl=>by
    subst hR;ac_rfl;exact⟨H2,Sub.refl _,h f H2 L hf s2 e2 (fun z=>by rw[hz z,hL];rfl) hl⟩
   have no:¬((b=true/\n∈A)∨(b=false/\n∉G))->R { nx:=fun _ H=>∃H3,U.Sub H3 H/\Q .non H3,rt:=fun v H=>∃H3,U.Sub H3 H/\Q v H3 } [some (.tup [.int c,.tup (ts.map prV),.tup (bs.map prV)]),some (.tup [.int n,.bl b]),some (.tup (G.map PV.int)),some (.ref a),some (.int n),some (.bl b),some (.ref f)] H1:=fun q=>key2 f L1 H1 hf s1 e1 (fun z=>by rw[Gp q,GS]) (by omega);have yes:(b=true/\n∈A)∨(b=false/\n∉G)->T1 { nx:=R { nx:=fun _ H=>∃H3,U.Sub H3 H/\Q .non H3,rt:=fun v H=>∃H3,U.Sub H3 H/\Q v H3 },rt:=fun v H=>∃H3,U.Sub H3 H/\Q v H3 } [some (.tup [.int c,.tup (ts.map prV),.tup (bs.map prV)]),some (.tup [.int n,.bl b]),some (.tup (G.map PV.int)),some (.ref a),some (.int n),some (.bl b),some (.ref f)] H1:=fun cd=>by
    subst h1;ac_rfl;show ∀acc,H1 acc=none->_;intro q1 hq1;refine aB (fun y=>PV.tup [g0 y,.bl false]) (at1 n) (fun σ=>∃z z2,σ=[z,z2,some (.int n)]) (by rw[F0];omega) (fun _=>trivial) ?_ ?_ ⟨_,_,rfl⟩
    ·rintro y hy l σ R' ⟨z,z2,rfl⟩ hl kT kF;obtain⟨p,hp,rfl⟩:=F4.mp hy;have e:at1 n (prV p)=decide (p.2=n):=rfl;rw[e]at kT kF;unfold prV at *;ac_rfl;refine aI (fun q=>?_) (fun q=>?_)
     ·exact⟨ai (by decide),hl,by rw[aE];exact kT (by simpa using q) _ ⟨_,_,rfl⟩⟩
     ·exact kF (by simpa using q) _ ⟨_,_,rfl⟩
    rw[sV];ac_rfl;refine⟨_,_,(ak (ar e1 hq1)).trans e1,rfl,ai (by simp only[F0,F3];omega),fun q1c hq1c=>?_⟩;rw[←F8];have s2a:=s1.put (o:=.lst (((src ts n).map fun m=>((m,false):Sd)).map sdV)) (s1.free hq1);have hq1H:=s2a.free hq1c;have s2:=s2a.put (o:=.lst ((L1++(src ts n).map fun m=>((m,false):Sd)).map sdV)) hq1H;have e2:put (put H1 q1 (.lst (((src ts n).map fun m=>((m,false):Sd)).map sdV))) q1c (.lst ((L1++(src ts n).map fun m=>((m,false):Sd)).map sdV)) q1c=some (.lst ((L1++(src ts n).map fun m=>((m,false):Sd)).map sdV)):=ah;generalize put (put H1 q1 (.lst (((src ts n).map fun m=>((m,false):Sd)).map sdV))) q1c (.lst ((L1++(src ts n).map fun m=>((m,false):Sd)).map sdV))=H2 at *;show ∀acc,H2 acc=none->_;intro q2 hq2;refine aB (fun y=>PV.tup [g1 y,.bl true]) (at0 n) (fun σ=>∃z z2,σ=[z,z2,some (.int n)]) (by rw[F0];omega) (fun _=>trivial) ?_ ?_ ⟨_,_,rfl⟩
    ·rintro y hy l σ R' ⟨z,z2,rfl⟩ hl kT kF;obtain⟨p,hp,rfl⟩:=F4.mp hy;have e:at0 n (prV p)=decide (p.1=n):=rfl;rw[e]at kT kF;unfold prV at *;ac_rfl;refine aI (fun q=>?_) (fun q=>?_)
     ·exact⟨ai (by decide),hl,by rw[aE];exact kT (by simpa using q) _ ⟨_,_,rfl⟩⟩
     ·exact kF (by simpa using q) _ ⟨_,_,rfl⟩
    rw[tm];ac_rfl;refine⟨_,_,(ak (ar e2 hq2)).trans e2,rfl,ai (by simp only[F0,F3];omega),fun q2c hq2c=>?_⟩;rw[←F8];have s3a:=s2.put (o:=.lst (((fol bs n).map fun m=>((m,true):Sd)).map sdV)) (s2.free hq2);have hq2H:=s3a.free hq2c;have s3:=s3a.put (o:=.lst (((L1++((src ts n).map fun m=>((m,false):Sd)))++(fol bs n).map fun m=>((m,true):Sd)).map sdV)) hq2H;have e3:put (put H2 q2 (.lst (((fol bs n).map fun m=>((m,true):Sd)).map sdV))) q2c (.lst (((L1++((src ts n).map fun m=>((m,false):Sd)))++(fol bs n).map fun m=>((m,true):Sd)).map sdV)) q2c=some (.lst (((L1++((src ts n).map fun m=>((m,false):Sd)))++(fol bs n).map fun m=>((m,true):Sd)).map sdV)):=ah;generalize put (put H2 q2 (.lst (((fol bs n).map fun m=>((m,true):Sd)).map sdV))) q2c (.lst (((L1++((src ts n).map fun m=>((m,false):Sd)))++(fol bs n).map fun m=>((m,true):Sd)).map sdV))=H3 at *;show ∀acc,H3 acc=none->_;intro q3 hq3;refine aB (fun y=>PV.tup [g0 y,.bl true]) (at1 n) (fun σ=>∃z z2,σ=[z,z2,some (.int n)]) (by rw[F0];omega) (fun _=>trivial) ?_ ?_ ⟨_,_,rfl⟩
    ·rintro y hy l σ R' ⟨z,z2,rfl⟩ hl kT kF;obtain⟨p,hp,rfl⟩:=F4.mp hy;have e:at1 n (prV p)=decide (p.2=n):=rfl;rw[e]at kT kF;unfold prV at *;ac_rfl;refine aI (fun q=>?_) (fun q=>?_)
     ·exact⟨ai (by decide),hl,by rw[aE];exact kT (by simpa using q) _ ⟨_,_,rfl⟩⟩
     ·exact kF (by simpa using q) _ ⟨_,_,rfl⟩
    rw[sV];ac_rfl;refine⟨_,_,(ak (ar e3 hq3)).trans e3,rfl,ai (by simp only[F0,F3];omega),fun q3c hq3c=>?_⟩;rw[←F8];have s4a:=s3.put (o:=.lst (((src bs n).map fun m=>((m,true):Sd)).map sdV)) (s3.free hq3);have hq3H:=s4a.free hq3c;have s4:=s4a.put (o:=.lst ((((L1++((src ts n).map fun m=>((m,false):Sd)))++((fol bs n).map fun m=>((m,true):Sd)))++(src bs n).map fun m=>((m,true):Sd)).map sdV)) hq3H;have e4:put (put H3 q3 (.lst (((src bs n).map fun m=>((m,true):Sd)).map sdV))) q3c (.lst ((((L1++((src ts n).map fun m=>((m,false):Sd)))++((fol bs n).map fun m=>((m,true):Sd)))++(src bs n).map fun m=>((m,true):Sd)).map sdV)) q3c=some (.lst ((((L1++((src ts n).map fun m=>((m,false):Sd)))++((fol bs n).map fun m=>((m,true):Sd)))++(src bs n).map fun m=>((m,true):Sd)).map sdV)):=ah;generalize put (put H3 q3 (.lst (((src bs n).map fun m=>((m,true):Sd)).map sdV))) q3c (.lst ((((L1++((src ts n).map fun m=>((m,false):Sd)))++((fol bs n).map fun m=>((m,true):Sd)))++(src bs n).map fun m=>((m,true):Sd)).map sdV))=H4 at *;exact key2 q3c _ H4 hq3H s4 e4 (by
     intro z;rw[Gq cd];unfold bwd;rw[F8];simp only[Gf];exact or4) (by simp only[F3,F0];omega)
   have ha1:=s1 _ _ ha;ac_rfl;cases b with
   | true =>
    refine az rfl ⟨_,ha1,aJ,?_⟩;rw[a8];by_cases hA:n∈F
    ·exact az (by simp[hA]) (yes (.inl ⟨rfl,(iff n).mp hA⟩))
    ·exact aw (by simp[hA]) (aw rfl (no (by simpa using fun z=>hA ((iff n).mpr z))))
   | false =>
    refine aw rfl (az rfl ⟨aJ,?_⟩);rw[a8];by_cases hA:n∈G
    ·exact aw (by simp[hA]) (no (by simp[hA]))
    ·exact az (by simp[hA]) (yes (.inr ⟨rfl,hA⟩))
  ac_rfl;refine⟨aJ,?_⟩;rw[a8];by_cases hg:n∈G
  ·exact aw (by simp[hg]) (key f0 [] H0 hf0 s0 e0 (by rw[Gq hg]))
  refine az (by simp[hg]) ?_;show ∀acc,H0 acc=none->_;intro q hq;refine aB (fun y=>PV.tup [g1 y,.bl true]) (at0 n) (fun σ=>∃z z2,σ=[z,z2,some (.int n)]) (by rw[F0];omega) (fun _=>trivial) ?_ ?_ ⟨_,_,rfl⟩
  ·rintro y hy l σ R' ⟨z,z2,rfl⟩ hl kT kF;obtain⟨p,hp,rfl⟩:=F4.mp hy;have e:at0 n (prV p)=decide (p.1=n):=rfl;rw[e]at kT kF;unfold prV at *;ac_rfl;refine aI (fun q=>?_) (fun q=>?_)
   ·exact⟨ai (by decide),hl,by rw[aE];exact kT (by simpa using q) _ ⟨_,_,rfl⟩⟩
   ·exact kF (by simpa using q) _ ⟨_,_,rfl⟩
  rw[tm];exact key q _ _ (s0.free hq) (s0.put (s0.free hq)) ah (by rw[Gp hg])
 ·exact h.elim
theorem FI(T:Tx K mg t):aK P w K mg base CX0 2 t.a_zA t.d_zA ["_law_drawn","_law_ones","_law_given"] dJ:=by
 refine okU (k:=1) T.F_zA iQ (fun vs H Q E h=>by
  unfold dJ at h;split at h
  ·rfl
  ·exact h.elim) (fun cdv A outer s H E B hr=>⟨_,(af (sN 3 iQ.nd (aC (Bi T) hr.mo rfl T.g_zM T.F_zM.kp T.B_zM (aa (qv 0) (aa (qv 2) ag))))
  (af (sC 4 iQ.nd (N2:=nl9) (nt:=1) (js:=[]) (ck (sc:=aq vj)) (aM (qv 1)) (fun _ _ _ _=>⟨(gN 0 nn9),aY,(bg (aa (qv 0) (aa bb ag)))⟩))
  (af (sN 5 iQ.nd ae)
  (af (rP GF (cN fc fB (qv 5) (au av aO rfl T.b_len Gn (aa (qv 4) ag)))
  (af (b7 GF rfl (aM (aC (AW T) hr.mo rfl T.g_zt T.F_zt.kp T.B_zt (aa (qv 0) (aa (iX (qv 4) (qv 5)) (aa (qv 2) (aa (qv 3) ag)))))) (gN 6 iQ.nd)
   (aj (aF (cW (aZ hr.units) bw (qv 6) (qv 4))
    (aj (bj (df GY GZ bY cx (qv 4) (aa (qv 6) ag))))
    ax)))
   (aj (sN 5 iQ.nd (bE (qv 5) ae)))))
  (aj (ay (qv 4))))))),?_⟩)
 intro vs H Q E h;unfold dJ at h;split at h
 ·rename_i l m n;obtain⟨c,ts,bs,O,G,e,rfl,rfl,ok,hO,hG,h⟩:=h;unfold shp at e;injection e with e;subst e;have o6:=hO.len ok.c6;left;refine⟨c,ts,bs,G,rfl,rfl,ok,hG,fun a H1 F A ha s1 ea an iff=>?_⟩;right;show ∀acc,H1 acc=none->_;intro f hf;refine aB (fun y=>PV.tup [y,.bl false]) (fun _=>true) (fun σ=>∃z,σ=[z]) (by rw[F0];omega) (fun _=>trivial) ?_ ?_ ⟨_,rfl⟩
  ·rintro y hy l σ R' ⟨z,rfl⟩ hl kT kF;obtain⟨k,hk,rfl⟩:=F4.mp hy;ac_rfl;exact⟨ai (by decide),hl,by rw[aE];exact kT rfl _ ⟨_,rfl⟩⟩
  rw[eY];have s2:=(Sub.refl H1).put (o:=.lst ((O.map fun m=>((m,false):Sd)).map sdV)) hf;have e2:put H1 f (.lst ((O.map fun m=>((m,false):Sd)).map sdV)) f=some (.lst ((qE O).map sdV)):=ah;generalize put H1 f (.lst ((O.map fun m=>((m,false):Sd)).map sdV))=H2 at *;right;subst hR;refine ao fun R hR=>?_;refine pq fun Rb hRb=>?_;have ri0:RI ts bs G A O (qE O) 0:=by
   refine⟨?_,fun s hs=>?_,fun x hx=>F4.mpr ⟨x,hx,rfl⟩,fun s hs=>(by cases hs)⟩
   ·unfold qE;rw[GD,Hu];exact hO.up.imp fun h e=>by cases e;omega
   ·obtain⟨y,hy,rfl⟩:=F4.mp hs;exact .base hy
  have len:∀{L:List Sd} {k:Nat},RI ts bs G A O L k->L.length≤12:=fun r=>zt ok.c6 r.nd fun s hs=>zO ok.gt ok.gb hO.lo (r.rl s hs);refine lH (fun m σ H3=>∃z,∃L:List Sd,∃k:Nat,σ=[some (.tup [.int c,.tup (ts.map prV),.tup (bs.map prV)]),some (.tup (O.map PV.int)),some (.tup (G.map PV.int)),some (.ref a),some (.ref f),some (.int (k:Nat)),z]/\U.Sub H1 H3/\H3 f=some (.lst (L.map sdV))/\RI ts bs G A O L k/\k≤L.length/\m=12 - k) _ ⟨none,_,0,rfl,s2,e2,ri0,by omega,rfl⟩ ?_;rintro m σ H3 ⟨z,L,k,rfl,s3,e3,ri,hk,rfl⟩;have l12:=len ri;ac_rfl;refine⟨_,e3,?_⟩;by_cases hlt:k<L.length
  ·refine az (by rw[F0];simpa using hlt) (E9 fun N bk hN=>?_);subst hRb;refine ao fun R' hR'=>?_;ac_rfl;refine⟨_,e3,?_⟩;have eat:atI (L.map sdV) ((k:Nat):Int)=some (sdV L[k]):=by rw[cn (by rw[F0];exact hlt),HW]
   rw[eat];have hLk:L[k]∈L:=Gz hlt;have ek:L.take (k+1)=L.take k++[L[k]]:=by rw[IF,F2 hlt];rfl
   generalize hst:L[k]=st at *;have rst:=ri.rl st hLk
   try unfold sdV
   ac_rfl;refine⟨c,ts,bs,G,F,A,_,_,rfl,rfl,rfl,ok,s3 _ _ ea,iff,fun r H4 L2 hr s4 er hz hl=>⟨_,er,?_⟩⟩;have nrf:r≠f:=(ar e3 hr).symm;refine cV (fun j σ H5=>∃z,∃M:List Sd,σ=[some (.tup [.int c,.tup (ts.map prV),.tup (bs.map prV)]),some (.tup (O.map PV.int)),some (.tup (G.map PV.int)),some (.ref a),some (.ref f),some (.int (k:Nat)),z]/\U.Sub H1 H5/\H5 r=some (.lst (L2.map sdV))/\H5 f=some (.lst (M.map sdV))/\RI ts bs G A O M k/\(∃M2,M=L++M2)/\∀y∈L2.take j,y∈M) ?_ ?_ ⟨_,L,rfl,s3.trans s4,er,s4 _ _ e3,ri,⟨[],by simp⟩,fun y hy=>(by simp at hy)⟩
   ·rintro σ H5 ⟨z,M,rfl,s5,er5,ef5,ri5,⟨M2,rfl⟩,hin⟩;refine⟨er5,?_⟩;rw[F0,Ho]at hin;subst hR';ac_rfl;refine hN _ _ ⟨12 - (k+1),by omega,_,L++M2,k+1,rfl,s5,ef5,⟨ri5.nd,ri5.rl,ri5.st,?_⟩,by rw[F3];omega,rfl⟩;rw[List.take_append_of_le_length (by omega),ek];intro s hs y hy;rcases Gf.mp hs with q | q
    ·exact ri5.sh s (by rw[List.take_append_of_le_length (by omega)];exact q) y hy
    ·rw[Gk.mp q]at hy;exact hin y ((hz y).mpr hy)
   ·rintro N' j y σ H5 hy ⟨z,M,rfl,s5,er5,ef5,ri5,⟨M2,rfl⟩,hin⟩ kk;refine⟨er5,?_⟩;rw[Gs]at hy;obtain⟨s',hs',rfl⟩:=GX.mp hy;have ej:L2.take (j+1)=L2.take j++[s']:=by rw[IF,hs'];rfl
    have m12:=len ri5
    try unfold sdV
    ac_rfl;refine⟨_,ef5,eK,?_⟩;have ea5:=mH (L:=L++M2) (n:=s'.1) (b:=s'.2);unfold sdV at ea5
    try unfold sdV
    rw[ea5];by_cases hm:(s'.1,s'.2)∈L++M2
    ·refine aw (by simp[hm]) (kk _ _ ⟨_,L++M2,rfl,s5,er5,ef5,ri5,⟨M2,rfl⟩,fun y hy=>?_⟩);rw[ej]at hy;rcases Gf.mp hy with q | q
     ·exact hin y q
     ·rw[Gk.mp q];exact hm
    ·refine az (by simp[hm]) ⟨⟨_,ef5⟩,_,ef5,bA (by rw[F0];omega),?_⟩;have hb:s'∈bes ts bs G A (st.1,st.2):=(hz s').mp (Gg hs');refine kk _ _ ⟨_,L++M2++[s'],rfl,s5.put hf,(ak nrf).trans er5,by rw[ah,F8 (l₁:=L++M2) (l₂:=[s'])];rfl,⟨?_,fun s hs=>?_,fun x hx=>GH _ (ri5.st x hx),fun s hs y hy=>?_⟩,⟨M2++[s'],by simp⟩,fun y hy=>?_⟩
     ·exact Ig.mpr ⟨ri5.nd,by simp,fun x hx y hy e=>hm (by rw[Gk.mp hy]at e;rw[←e];exact hx)⟩
     ·rcases Gf.mp hs with q | q
      ·exact ri5.rl s q
      ·rw[Gk.mp q];exact qP rst hb
     ·rw[List.take_append_of_le_length (by rw[F3];omega)]at hs;exact GH _ (ri5.sh s hs y hy)
     ·rw[ej]at hy;rcases Gf.mp hy with q | q
      ·exact GH _ (hin y q)
      ·exact Gy _ q
  ·refine aw (by rw[F0];simpa using hlt) ?_;subst hR;ac_rfl;exact⟨H3,Sub.refl _,h f H3 A L (s1.trans s3) an e3 l12 (ri.iff (by omega))⟩
 ·exact h.elim
theorem DN(T:Tx K mg t):aK P w K mg base CX0 2 t.a_zy t.d_zy ["_law_drawn","_law_step"] fv:=by
 refine okU (k:=1) T.F_zy Bp (fun vs H Q E h=>by
  unfold fv at h;split at h
  ·rfl
  ·exact h.elim) (fun cdv A outer s H E B hr=>⟨_,(af (aF (aP (bx (bC (aQ (au (aW .tuple) (bM .tuple) rfl T.b_isinstance GG (aa (qv 1) (aa (bN rfl T.b_tuple Ie) ag))))) (bB (cN (cg hr.units) aH (au av aO rfl T.b_len Gn (aa (qv 1) ag)) ae))))
  (aj (ay bb))
  ax)
  (af (aF (aP (bx (bC (aQ (aC (yH T) hr.mo rfl T.g_zH T.F_zH.kp T.B_zH (aa (iX (qv 1) ae) ag)))) (bx (bC (aQ (aC (yH T) hr.mo rfl T.g_zH T.F_zH.kp T.B_zH (aa (iX (qv 1) ae) ag)))) (bB (bC (aQ (au (aW .str) (bM .str) rfl T.b_isinstance GG (aa (iX (qv 1) ae) (aa (bN rfl T.b_str boot_str) ag)))))))))
  (aj (ay bb))
  ax)
  (af (aF (cN (aG hr.units) aH (iX (qv 1) ae) bT)
  (aj (ay (ba (bL hr.units) bw (bg (aa (iX (qv 1) ae) (aa (iX (qv 1) ae) ag))) (iX (qv 0) ae) (by with_unfolding_all rfl))))
  ax)
  (af (aF (cN (aG hr.units) aH (iX (qv 1) ae) bT)
  (aj (ay (ba (bL hr.units) bw (bg (aa (iX (qv 1) ae) (aa (iX (qv 1) ae) ag))) (iX (qv 0) ae) (by with_unfolding_all rfl))))
  ax)
  (aj (ay (cD (ba (aG hr.units) aH (iX (qv 1) ae) bT (bQ _)) (cB (ba (bL hr.units) bw (bg (aa (au (oV rfl) yE rfl T.b_min boot_min (aa (iX (qv 1) ae) (aa (iX (qv 1) ae) ag))) (aa (au (oC rfl) xS rfl T.b_max boot_max (aa (iX (qv 1) ae) (aa (iX (qv 1) ae) ag))) ag))) (iX (qv 0) ae) (by with_unfolding_all rfl)))))))))),?_⟩)
 intro vs H Q E h;unfold fv at h;split at h
 ·rename_i l a k b;obtain⟨c,ts,bs,e,ok,h⟩:=h;unfold shp at e;injection e with e;subst e;have fin:∀z:Bool,(z=true↔EdG ts bs (a,k,b))->∃H3,U.Sub H3 H/\Q (.bl z) H3:=fun z q=>⟨H,Sub.refl _,h z q⟩;unfold EdG at fin;simp only at fin;left
  repeat refine aw rfl ?_
  right
  repeat refine aw rfl ?_
  right;by_cases k1:k="down"
  ·subst k1;refine az (by simp) ⟨ai (by decide),cR,?_⟩;rw[dA];exact fin _ (by simp[tj,sI,qt,rp])
  refine aw (by simpa using k1) ?_;right;by_cases k2:k="up"
  ·subst k2;refine az (by simp) ⟨ai (by decide),cR,?_⟩;rw[dA];exact fin _ (by simp[tj,sI,qt,rp])
  refine aw (by simpa using k2) ?_;subst hR;ac_rfl;by_cases k3:k="bow"
  ·subst k3;refine az (by simp) ⟨ai (by decide),cR,?_⟩;rw[dA];exact fin _ (by rw[GI,zE ok.gb];simp[rf,tu])
  ·refine aw (by simpa using k3) (fin _ (by simp[k1,k2,k3]))
 ·exact h.elim
theorem Dl(T:Tx K mg t):aK P w K mg base CX0 2 t.a_zI t.d_zI ["_law_cell","_law_many","_law_kinds"] fF:=by
 refine okU (k:=1) T.F_zI h8 (fun vs H Q E h=>by
  unfold fF at h;split at h
  ·rfl
  ·exact h.elim) (fun cdv A outer s H E B hr=>⟨_,(af (sC 3 h8.nd (N2:=AZ) (nt:=1) (js:=[]) (ck (sc:=aq tq)) (cw rfl T.b_range (aa (qv 2) ag)) (fun _ _ _ _=>⟨(gN 0 Dt),aY,(bu ag)⟩))
  (af (sN 4 h8.nd (a9 (qv 0) ae))
  (af (b7 GF rfl (cw rfl T.b_range (aa (qv 1) ag)) (gN 5 h8.nd)
  (af (sN 6 h8.nd (aL (qv 4) (qv 2)))
   (af (sN 4 h8.nd (a9 (qv 4) (qv 2)))
   (af (aF (cN (aG hr.units) aH (aL (qv 0) ae) ae)
   (aj (sN 6 h8.nd (aL (aC (BP T) hr.mo rfl T.g_zN T.F_zN.kp T.B_zN (aa (qv 0) (aa (bE ae (qv 5)) ag))) (qv 2))))
   ax)
   (aj (bj (df GY GZ bY cx (iX (qv 3) (qv 6)) (aa (qv 5) ag))))))))
  (aj (ay (cE (N2:=Ac) (nt:=1) (js:=[]) (ck (sc:=aq tq)) (aM (qv 3)) (fun _ _ _ _=>⟨(gN 0 Dy),aY,(aS aX bV rfl T.b_tuple Ie (aa (qv 0) ag))⟩))))))),?_⟩)
 intro vs H Q E h;unfold fF at h;split at h
 ·rename_i u c k;obtain⟨⟨c1,c6⟩,⟨k1,k10⟩,h⟩:=h;left;refine⟨⟨by omega,by omega⟩,?_⟩;show ∀acc,H acc=none->_;intro q hq;refine iy (fun j σ H2=>∃z,∃rs:List Addr,σ=[z]/\U.Sub H H2/\H2 q=some (.lst (rs.map PV.ref))/\Rl H2 q rs (List.replicate j [])/\∀r∈rs,H r=none) ?_ ?_ ⟨none,[],rfl,(Sub.refl H).put hq,ah,⟨List.nodup_nil,.nil⟩,fun r hr=>(by cases hr)⟩
  ·rintro j v σ H2 R' hv ⟨z,rs,rfl,s2,e2,rl,fr⟩ kk;refine⟨trivial,?_⟩;have hlr:=Paired.length rl.at';rw[HJ]at hlr;have hj:j<k.toNat:=by have:=(Gj.mp hv).1;simpa[cH]using this
   ac_rfl;refine⟨ai (by decide),fun p hp=>?_⟩;have np:=ar e2 hp;refine⟨_,(ak np).trans e2,bA (by rw[F0];omega),?_⟩;have sa:=(Sub.refl H2).put (o:=.lst []) hp;have pn:∀r∈rs,r≠p/\r≠q:=fun r hr=>by
    obtain⟨L,_,h1,h2⟩:=jM rl.at' hr;exact⟨ar h2 hp,h1⟩
   refine kk _ _ ⟨_,rs++[p],rfl,(s2.trans sa).put hq,by rw[ah,F8];rfl,⟨?_,?_⟩,fun r hr=>?_⟩
   ·exact Ig.mpr ⟨rl.nd,by simp,fun x hx y hy e=>(pn x hx).1 (by rw[Gk.mp hy]at e;exact e)⟩
   ·rw[List.replicate_succ'];refine j1 ⟨np.symm,(ak np.symm).trans ah⟩ (Paired.mapP rl.at' fun r L y_=>by obtain⟨h1,h2⟩:=y_;exact ⟨h1,(ak h1).trans (sa _ _ h2)⟩)
   ·rcases Gf.mp hr with z | z
    ·exact fr r z
    ·rw[Gk.mp z];exact s2.free hp
  rintro σ H1 ⟨z,rs,rfl,s1,e1,rl,fr⟩;refine⟨trivial,?_⟩;have hrl:(cH 0 k.toNat).length=k.toNat:=by simp[cH]
  rw[hrl]at rl;have hk:rs.length=k.toNat:=by have:=Paired.length rl.at';rw[HJ]at this;exact this
  have pt0:PtI k.toNat 0 (List.replicate k.toNat []):=by
   refine⟨HJ ..,fun L hL=>?_,?_⟩
   ·rw[(List.mem_replicate.mp hL).2];exact .nil
   ·have:(List.replicate k.toNat ([]:List Int)).flatten=[]:=by simp
    rw[this];exact List.Perm.nil
  right;refine⟨cQ (by decide) (by decide),?_⟩;generalize u.fdiv 2=nu;right;refine⟨⟨by omega,by omega⟩,?_⟩;refine dN (fun i σ H2=>∃nu z1 z2 Ls,σ=[some (.int u),some (.int c),some (.int k),some (.ref q),some (.int nu),z1,z2]/\U.Sub H H2/\H2 q=some (.lst (rs.map PV.ref))/\Rl H2 q rs Ls/\PtI k.toNat i Ls) ?_ ?_ ⟨nu,none,none,_,rfl,s1,e1,rl,pt0⟩
  ·rintro σ H2 ⟨nu,z1,z2,Ls,rfl,s2,e2,rl,pt⟩;refine⟨trivial,?_⟩;have ec:((c.toNat:Nat):Int)=c:=by omega
   subst hR;ac_rfl;refine⟨_,e2,fun acc hacc=>?_⟩;refine aB (lZ H2) (fun _=>true) (fun σ=>∃z,σ=[z]) (by rw[F0];omega) (fun _=>(ak (ar e2 hacc)).trans e2) ?_ ?_ ⟨_,rfl⟩
   ·rintro y hy l σ R' ⟨z,rfl⟩ hl kT kF;obtain⟨r,hr,rfl⟩:=F4.mp hy;obtain⟨L,_,h1,h2⟩:=jM rl.at' hr;rw[dU h2]at kT;ac_rfl;exact⟨_,(ak (ar h2 hacc)).trans h2,hl,by rw[aE];exact kT rfl _ ⟨_,rfl⟩⟩
   rw[HH.mpr (fun _ _=>rfl),nI rl.at'];refine⟨_,Sub.refl _,h acc _ Ls (s2.free hacc) (s2.put (s2.free hacc)) ah ⟨pt.len,pt.up,?_⟩⟩;have:=pt.pm;rw[ec]at this;exact this
  ·rintro N i σ H2 hi ⟨nu,z1,z2,Ls,rfl,s2,e2,rl,pt⟩ kk;refine⟨trivial,?_⟩;refine ao fun R' hR'=>?_;ac_rfl;refine⟨by omega,?_⟩;have f1:=fm (a:=nu) (b:=k) (by omega);generalize nu.fmod k=kd0 at *;subst hR';refine ao fun R' hR'=>?_;ac_rfl;refine⟨cQ (by omega) (by omega),?_⟩;generalize nu.fdiv k=nu2 at *;subst hR';refine ao fun R' hR'=>?_;have fin:∀kd:Int,0≤kd/\kd<k->R' { nx:=N,rt:=fun v H=>∃H3,U.Sub H3 H/\Q v H3,bk:=R { nx:=fun _ H=>∃H3,U.Sub H3 H/\Q .non H3,rt:=fun v H=>∃H3,U.Sub H3 H/\Q v H3 },ct:=N } [some (.int u),some (.int c),some (.int k),some (.ref q),some (.int nu2),some (.int (i:Nat)),some (.int kd)] H2:=fun kd hd=>by
    have hkd:kd.toNat<rs.length:=by omega
    have hkL:kd.toNat<Ls.length:=by rw[pt.len];omega
    have ea:atI (rs.map PV.ref) kd=some (.ref rs[kd.toNat]):=by
     have:=cn (l:=rs.map PV.ref) (i:=kd.toNat) (by rw[F0];exact hkd);rw[HW,show((kd.toNat:Nat):Int)=kd by omega]at this;exact this
    have hr:=rF rl.at' hkd hkL;have fl:Ls[kd.toNat].length≤6:=My.bU 6 _ ((pt.up _ (Gz hkL)).imp fun h=>by omega) fun x hx=>by
     have:=fA.mp (pt.pm.mem_iff.mp (List.mem_flatten.mpr ⟨_,Gz hkL,hx⟩));omega
    subst hR';ac_rfl;refine⟨_,e2,?_⟩;rw[ea];ac_rfl;refine⟨⟨_,hr.2⟩,_,hr.2,bA (by rw[F0];omega),?_⟩;have hfr:H rs[kd.toNat]=none:=fr _ (Gz hkd);refine kk _ _ ⟨_,_,_,Ls.set kd.toNat (Ls[kd.toNat]++[((i:Nat):Int)]),rfl,s2.put hfr,(ak hr.1.symm).trans e2,⟨rl.nd,?_⟩,pt.next hkL⟩;have:=r8 (M:=Ls[kd.toNat]++[((i:Nat):Int)]) hkd rl.nd rl.at';rw[F8]at this;exact this
   ac_rfl;refine⟨by decide,aI (fun _=>?_) (fun _=>fin _ f1)⟩;exact⟨⟨by omega,by omega⟩,fun n=>⟨by omega,fin _ (fm (by omega))⟩⟩
 ·exact h.elim
theorem zP(T:Tx K mg t):aK P w K mg base CX0 1 t.a_zp t.d_zp ["_law_sets","_law_kind"] fD:=by
 refine okU (k:=0) T.F_zp ko (fun vs H Q E h=>by
  unfold fD at h;split at h
  ·rfl
  ·exact h.elim) (fun cdv A outer s H E B hr=>⟨_,(af (aF (cN iW i4 (au av aO rfl T.b_len Gn (aa (iX (qv 0) (qv 1)) ag)) ae)
  (aj (ay (qv 0)))
  ax)
  (af (sN 2 ko.nd ae)
  (af (b7 GF rfl (cw rfl T.b_range (aa (au av aO rfl T.b_len Gn (aa (qv 0) ag)) ag)) (gN 3 ko.nd)
  (aj (aF (cN mP m9 (au av aO rfl T.b_len Gn (aa (iX (qv 0) (qv 3)) ag)) (au av aO rfl T.b_len Gn (aa (iX (qv 0) (qv 2)) ag)))
   (aj (sN 2 ko.nd (qv 3)))
   ax)))
  (af (sN 4 ko.nd (aS bG de rfl T.b_list IB (aa (qv 0) ag)))
  (af (e8 (ji (iX (qv 0) (qv 2)) (aU (bO ae)) aT) (qz (qv 4) (qv 1)))
  (af (e8 (ji (iX (qv 0) (qv 2)) aT (aU (bO ae))) (qz (qv 4) (qv 2)))
  (aj (ay (qv 4))))))))),?_⟩)
 intro vs H Q E h;unfold fD at h;split at h
 ·rename_i a j;obtain⟨n,c,Ls,ha,pt,⟨c1,c6⟩,n10,⟨j0,jn⟩,h⟩:=h;have hln:=pt.len;have hj:j.toNat<Ls.length:=by omega
  have atL:∀i:Int,0≤i->i<n->∃hi:i.toNat<Ls.length,atI (Ls.map tupI) i=some (.tup (Ls[i.toNat].map PV.int)):=fun i h0 h1=>by
   have hi:i.toNat<Ls.length:=by omega
   refine⟨hi,?_⟩;have:=cn (l:=Ls.map tupI) (i:=i.toNat) (by rw[F0];exact hi);rw[HW,show((i.toNat:Nat):Int)=i by omega]at this;exact this
  obtain⟨_,eaj⟩:=atL j j0 jn;left;refine⟨_,ha,?_⟩;rw[eaj];ac_rfl;by_cases hne:Ls[j.toNat]=[]
  ·refine aw (by rw[hne];simp) ?_;right;right;refine⟨_,ha,⟨by rw[F0];omega,by rw[F0];omega⟩,?_⟩;rw[F0,Ht];refine dN (fun i σ H2=>∃pl z1,∃hp:pl<Ls.length,σ=[some (.ref a),some (.int j),some (.int ((pl:Nat):Int)),z1,none]/\H2=H/\∀i' (hi:i'<Ls.length),i'<i->Ls[i'].length≤Ls[pl].length) ?_ ?_ ⟨0,none,by omega,rfl,rfl,fun i' _ hi=>absurd hi (by omega)⟩
   ·rintro σ H2 ⟨pl,z1,hp,rfl,rfl,hmax⟩;refine⟨trivial,?_⟩;have pne:Ls[pl]≠[]:=fun e=>by
     have h0:Ls.flatten.length≤Ls.length*0:=kG fun L hL=>by
      obtain⟨i,hi,rfl⟩:=List.getElem_of_mem hL;have:=hmax i hi hi;rw[e]at this;exact this
     have h1:=pt.pm.length_eq;unfold ulN at h1;rw[F0,IC]at h1;omega
    obtain⟨P,e,ep⟩:∃P e,Ls[pl]=P++[e]:=by
     rcases List.eq_nil_or_concat Ls[pl]with z |⟨P,e,z⟩
     ·exact absurd z pne
     ·exact⟨P,e,by rw[z,List.concat_eq_append]⟩
    obtain⟨mv,mv2⟩:=pt.move hj hp hne ep;obtain⟨_,eap⟩:=atL ((pl:Nat):Int) (by omega) (by omega);simp only[Ht]at eap;rw[ep]at eap;subst hR;dsimp only;left;refine⟨_,ha,fun f hf=>?_⟩;have s1:=(Sub.refl H2).put (o:=.lst (Ls.map tupI)) hf;have e1:put H2 f (.lst (Ls.map tupI)) f=some (.lst (Ls.map tupI)):=ah;generalize put H2 f (.lst (Ls.map tupI))=H3 at *;right;refine⟨_,s1 _ _ ha,?_⟩;rw[eap];ac_rfl;rw[vz];refine⟨_,j.toNat,e1,by unfold ixN;rw[Gq j0,F0,Gq (by omega)],?_⟩;have es:(Ls.map tupI).set j.toNat (.tup [.int e])=(Ls.set j.toNat [e]).map tupI:=by rw[List.map_set];rfl
    rw[es];have s2:=s1.put (o:=.lst ((Ls.set j.toNat [e]).map tupI)) hf;have e2:put H3 f (.lst ((Ls.set j.toNat [e]).map tupI)) f=some (.lst ((Ls.set j.toNat [e]).map tupI)):=ah;generalize put H3 f (.lst ((Ls.set j.toNat [e]).map tupI))=H4 at *;right;refine⟨_,s2 _ _ ha,?_⟩;rw[eap];ac_rfl;rw[dq];have ed:(P++[e]).dropLast=P:=by simp
    rw[ed];refine⟨_,pl,e2,by unfold ixN;rw[Gq (by omega),F0,List.length_set,Gq (by omega),Ht],?_⟩;have es2:((Ls.set j.toNat [e]).map tupI).set pl (.tup (P.map PV.int))=((Ls.set j.toNat [e]).set pl P).map tupI:=(List.map_set (l:=Ls.set j.toNat [e]) (i:=pl) (a:=P) (f:=tupI)).symm;rw[es2];subst hR;ac_rfl;exact⟨_,Sub.refl _,h f _ _ (s2.put hf) ah mv (by rw[mv2];simp)⟩
   ·rintro N i σ H2 hi ⟨pl,z1,hp,rfl,rfl,hmax⟩ kk;refine⟨trivial,?_⟩;obtain⟨_,ea1⟩:=atL ((i:Nat):Int) (by omega) (by omega);obtain⟨_,ea2⟩:=atL ((pl:Nat):Int) (by omega) (by omega);simp only[Ht]at ea1 ea2;ac_rfl;refine⟨_,ha,?_⟩;rw[ea1];ac_rfl;refine⟨_,ha,?_⟩;rw[ea2];ac_rfl;refine aI (fun z=>?_) (fun z=>?_)
    ·have z:Ls[pl].length≤Ls[i].length:=by simpa using z
     refine kk _ _ ⟨i,_,hi,rfl,rfl,fun i' hi' lt=>?_⟩;rcases Nat.lt_or_ge i' i with q | q
     ·exact GU (hmax i' hi' q) z
     ·have:i'=i:=by omega
      subst this;exact F9 _
    ·have z:Ls[i].length<Ls[pl].length:=by simpa using z
     refine kk _ _ ⟨pl,_,hp,rfl,rfl,fun i' hi' lt=>?_⟩;rcases Nat.lt_or_ge i' i with q | q
     ·exact hmax i' hi' q
     ·have:i'=i:=by omega
      subst this;exact Nat.le_of_lt z
  ·refine az (by rw[F0];simpa[Ia]using hne) ?_;exact⟨H,Sub.refl _,h a H Ls (Sub.refl _) ha pt (by rw[F2 hj];intro z;exact hne (Gw z))⟩
 ·exact h.elim
theorem D8(T:Tx K mg t):aK P w K mg base CX0 1 t.a_zV t.d_zV ["drawing","step"] (fN t):=by
 refine okU (k:=0) T.F_zV BF (fun vs H Q E h=>by
  unfold fN at h;split at h
  ·rfl
  ·exact h.elim) (fun cdv A outer s H E B hr=>⟨_,(af (aF (cN (aG hr.units) aH (iX (qv 1) ae) bT)
  (aj (ay (ba (bL hr.units) bw (bg (aa (iX (qv 1) ae) (aa (iX (qv 1) ae) ag))) (cF (qv 0) T.cl_A T.nfA_ties rfl) (by with_unfolding_all rfl))))
  ax)
  (af (aF (cN (aG hr.units) aH (iX (qv 1) ae) bT)
  (aj (ay (ba (bL hr.units) bw (bg (aa (iX (qv 1) ae) (aa (iX (qv 1) ae) ag))) (cF (qv 0) T.cl_A T.nfA_ties rfl) (by with_unfolding_all rfl))))
  ax)
  (af (aF (cN (aG hr.units) aH (iX (qv 1) ae) bT)
  (aj (ay (Aq (ba (bL hr.units) bw (bg (aa (iX (qv 1) ae) (aa (iX (qv 1) ae) ag))) (cF (qv 0) T.cl_A T.nfA_bows rfl) (by with_unfolding_all rfl)) (cB (ba (bL hr.units) bw (bg (aa (iX (qv 1) ae) (aa (iX (qv 1) ae) ag))) (cF (qv 0) T.cl_A T.nfA_bows rfl) (by with_unfolding_all rfl))))))
  ax)
  (aj (ay bb))))),?_⟩)
 intro vs H Q E h;unfold fN at h;split at h
 ·rename_i x y;obtain⟨c,ts,bs,⟨a,k,b⟩,rfl,⟨dx,hx⟩,h⟩:=h;have fin:∀z:Bool,(z=true↔EdG ts bs (a,k,b))->∃H3,U.Sub H3 H/\Q (.bl z) H3:=fun z q=>⟨H,Sub.refl _,h z q⟩;unfold EdG at fin;simp only at fin;unfold stV;refine bZ fun T1 R h1 hR=>?_;ac_rfl;by_cases k1:k="down"
  ·subst k1;refine az (by simp) ?_;subst h1;ac_rfl;refine⟨ai (by decide),_,_,_,hx,rfl,cR,?_⟩;rw[dA];exact fin _ (by simp[tj,sI])
  refine aw (by simpa using k1) ?_;subst hR;refine bZ fun T1 R h1 hR=>?_;ac_rfl;by_cases k2:k="up"
  ·subst k2;refine az (by simp) ?_;subst h1;ac_rfl;refine⟨ai (by decide),_,_,_,hx,rfl,cR,?_⟩;rw[dA];exact fin _ (by simp[qt,rp])
  refine aw (by simpa using k2) ?_;subst hR;refine bZ fun T1 R h1 hR=>?_;ac_rfl;by_cases k3:k="bow"
  ·subst k3;refine az (by simp) ?_;subst h1;ac_rfl;refine⟨ai (by decide),_,_,_,hx,rfl,cR,?_⟩;rw[dA];refine aI (fun q=>fin _ (by simp[rf,tu,of_decide_eq_true q])) (fun q=>?_);refine⟨ai (by decide),_,_,_,hx,rfl,cR,?_⟩;rw[dA];exact fin _ (by simp[rf,tu,of_decide_eq_false q])
  refine aw (by simpa using k3) ?_;subst hR;ac_rfl;exact fin _ (by simp[k1,k2,k3])
 ·exact h.elim
theorem Dn(T:Tx K mg t):aK P w K mg base CX0 3 t.a_zJ t.d_zJ ["road"] eC:=by
 refine okU (k:=2) T.F_zJ tK (fun vs H Q E h=>by
  unfold eC at h;split at h
  ·rfl
  ·exact h.elim) (fun cdv A outer s H E B hr=>⟨_,(af (sN 1 tK.nd (aC (DI T) hr.mo rfl T.g_zR T.F_zR.kp T.B_zR (aa (qv 0) ag)))
  (af (qW (i:=2) tK.nd rfl (by eq_refl) (N2:=nl6) (nt:=2) (js:=[]) (ck (sc:=aq uX)) rfl (dP rfl T.b_zip (aa (aN (qv 0) aT (aU (bO ae))) (aa (aN (qv 0) (aU ae) aT) ag))) (fun _ _ _ _=>⟨(bJ (n:=2) rfl (aA (gN 0 nn6) (aA (gN 1 nn6) br))),aY,(ba (aG hr.units) aH (iX (qv 0) ae) (iX (qv 1) ae) (bQ _))⟩))
  (aj (ay (cD (au (cb rfl) dg rfl T.b_all boot_all (aa (qv 2) ag)) (cB (ba (aG hr.units) aH (gv rfl rfl T.b_len rfl T.b_set boot_set (qv 1)) (au av aO rfl T.b_len Gn (aa (qv 1) ag)) (bQ _)))))))),?_⟩)
 intro vs H Q E h;unfold eC at h;split at h
 ·rename_i a;obtain⟨c,ts,bs,road,ok,ha,ne,hl,hed,h⟩:=h;have c6:=ok.c6;left;refine⟨road,ha,ne,by omega,fun r H1 hr s0 er=>?_⟩;have ha1:=s0 _ _ ha;right;refine⟨_,ha1,fun p1 hp1=>⟨_,(ak (ar (ha1) hp1)).trans (ha1),fun p2 hp2=>?_⟩⟩;rw[dq,du]at *;have s1:=(Sub.refl H1).put (o:=.lst (road.dropLast.map stV)) hp1;have s2:=s1.put (o:=.lst (road.tail.map stV)) (s1.free hp2);have n12:p1≠p2:=fun e=>by subst e;rw[ah]at hp2;cases hp2
  have e1:put (put H1 p1 (.lst (road.dropLast.map stV))) p2 (.lst (road.tail.map stV)) p1=some (.lst (road.dropLast.map stV)):=(ak n12).trans ah;have e2:put (put H1 p1 (.lst (road.dropLast.map stV))) p2 (.lst (road.tail.map stV)) p2=some (.lst (road.tail.map stV)):=ah;generalize put (put H1 p1 (.lst (road.dropLast.map stV))) p2 (.lst (road.tail.map stV))=H2 at *;refine⟨_,_,e1,rfl,fun acc hacc=>?_⟩;have f1:=ar e1 hacc;have f2:=ar e2 hacc;rw[mG];refine aB (dB (im zpV fun p=>p.1.2.2=p.2.1)) (fun _=>true) (fun σ=>∃z y,σ=[z,y]) (by rw[F0];have:=jU road;omega) (fun _=>⟨(ak f1).trans e1,(ak f2).trans e2⟩) ?_ ?_ ⟨_,_,rfl⟩
  ·rintro y hy l σ R' ⟨z,z2,rfl⟩ hl' kT kF;obtain⟨p,hp,rfl⟩:=F4.mp hy;rw[←eV (b:=p.1.2.2==p.2.1) (by rw[cI gI];simp)]at kT;unfold zpV stV;ac_rfl;exact⟨hl',by rw[aE];exact kT rfl _ ⟨_,_,rfl⟩⟩
  rw[cG];have s3:=s2.put (o:=.lst ((((zp road).map zpV).map fun y=>@decide (im zpV (fun p=>p.1.2.2=p.2.1) y) (Classical.propDecidable _)).map PV.bl)) (s2.free hacc);have e3:put H2 acc (.lst ((((zp road).map zpV).map fun y=>@decide (im zpV (fun p=>p.1.2.2=p.2.1) y) (Classical.propDecidable _)).map PV.bl)) acc=some (.lst ((((zp road).map zpV).map fun y=>@decide (im zpV (fun p=>p.1.2.2=p.2.1) y) (Classical.propDecidable _)).map PV.bl)):=ah;have er3:=s3 _ _ er;have all:=dC (p:=im zpV fun p=>p.1.2.2=p.2.1) (xs:=(zp road).map zpV);generalize put H2 acc (.lst ((((zp road).map zpV).map fun y=>@decide (im zpV (fun p=>p.1.2.2=p.2.1) y) (Classical.propDecidable _)).map PV.bl))=H3 at *;generalize (((zp road).map zpV).map fun y=>@decide (im zpV (fun p=>p.1.2.2=p.2.1) y) (Classical.propDecidable _))=bls at *;rw[fb gI]at all;have sz:=s0.trans s3;have ng:=kz ok hed;have n6:∀n∈(My.nm road).map Int.toNat,n<6:=fun n hn=>by
   obtain⟨z,hz,rfl⟩:=F4.mp hn;have:=ng z hz;omega
  subst hR;ac_rfl;refine⟨bls,e3,?_⟩;refine aI (fun q=>?_) (fun q=>⟨H,sz,h _ ⟨fun z=>(by cases z),fun z=>by rw[all.mpr z.1]at q;cases q⟩⟩);refine⟨(My.nm road).map Int.toNat,by rw[er3,gF ng],n6,_,er3,?_⟩;refine⟨H,sz,h _ ?_⟩;by_cases nd:(My.nm road).Nodup
  ·rw[jY n6 ((jQ fun x hx=>(ng x hx).1).mpr nd)];simp only[F0,beq_self_eq_true,true_iff];exact⟨all.mp q,nd⟩
  ·have lt:=nC n6 (fun z=>nd ((jQ fun x hx=>(ng x hx).1).mp z));rw[F0]at lt;rw[F0];refine⟨fun z=>?_,fun z=>absurd z.2 nd⟩;have:=eq_of_beq z;omega
 ·exact h.elim
theorem Fy(T:Tx K mg t):aK P w K mg base CX0 5 t.a_zg t.d_zg ["drawing","road","given"] (d5 t):=by
 refine okU (k:=4) T.F_zg wg (fun vs H Q E h=>by
  unfold d5 at h;split at h
  ·rfl
  ·exact h.elim) (fun cdv A outer s H E B hr=>⟨_,(af (aF (aP (bx (cN (aG hr.units) aH (au av aO rfl T.b_len Gn (aa (qv 1) ag)) ae) (bx (bC (aQ (au (cb rfl) dg rfl T.b_all boot_all (aa (cE (N2:=AY) (nt:=1) (js:=[0]) (ck (sc:=aq tx)) (aM (qv 1)) (fun _ _ _ _=>⟨(gN 0 Fg),aY,(aC (D8 T) hr.mo rfl T.g_zV T.F_zV.kp T.B_zV (aa (qv 1) (aa (qv 0) ag)))⟩)) ag)))) (bB (bC (aQ (aC (Dn T) hr.mo rfl T.g_zJ T.F_zJ.kp T.B_zJ (aa (qv 1) ag))))))))
  (aj (ay bb))
  ax)
  (af (sN 3 wg.nd (cz (qv 0) T.cl_A T.m_zc (Bw T) hr.mo T.B_zc (aa (qv 2) ag)))
  (aj (ay (au (cb rfl) dg rfl T.b_all boot_all (aa (dv (N2:=BS) (nt:=2) (js:=[2,3]) (ck (sc:=aq tx)) rfl (dP rfl T.b_zip (aa (aN (qv 1) aT (aU (bO ae))) (aa (aN (qv 1) (aU ae) aT) ag))) (fun _ _ _ _=>⟨(bJ (n:=2) rfl (aA (gN 0 zS) (aA (gN 1 zS) br))),aY,(aC (Dv T) hr.mo rfl T.g_zL T.F_zL.kp T.B_zL (aa (qv 0) (aa (qv 1) (aa (qv 2) (aa (qv 3) ag)))))⟩)) ag)))))),?_⟩)
 intro vs H Q E h;unfold d5 at h;split at h
 ·rename_i x a n;obtain⟨c,ts,bs,G,N,road,⟨dx,hx⟩,ok,rfl,hG,an,ha,hl,h⟩:=h;have c1:=ok.c1;have c6:=ok.c6;have no:¬OpI ts bs G N road->∀H1,U.Sub H H1->∃H3,U.Sub H3 H1/\Q (.bl false) H3:=fun q H1 s=>⟨H,s,h false ⟨fun z=>(by cases z),fun z=>absurd z q⟩⟩;left;refine⟨_,ha,?_⟩;rw[F0];by_cases ne:road=[]
  ·exact az (by rw[ne];rfl) (no (fun z=>z.ne ne) _ (Sub.refl _))
  refine aw (by simpa using ne) ⟨_,ha,fun acc hacc=>?_⟩;have na:=ar ha hacc;refine aB (dB (im stV fun s=>EdG ts bs s)) (fun _=>true) (fun σ=>∃z,σ=[z,some (.ref x)]) (by rw[F0];omega) (fun _=>(ak na).trans ha) ?_ ?_ ⟨_,rfl⟩
  ·rintro y hy l σ R' ⟨z,rfl⟩ hl' kT kF;obtain⟨s,hs,rfl⟩:=F4.mp hy;ac_rfl;refine⟨c,ts,bs,s,rfl,⟨dx,(ak (ar hx hacc)).trans hx⟩,fun b hb=>?_⟩;rw[←eV (b:=b) (by rw[cI eP];exact hb)]at kT;exact⟨hl',by rw[aE];exact kT rfl _ ⟨_,rfl⟩⟩
  rw[cG];have all:=dC (p:=im stV fun s=>EdG ts bs s) (xs:=road.map stV);generalize ((road.map stV).map fun y=>@decide (im stV (fun s=>EdG ts bs s) y) (Classical.propDecidable _))=bls at *;rw[fb eP]at all;have s1:=(Sub.refl H).put (o:=.lst (bls.map PV.bl)) hacc;have e1:put H acc (.lst (bls.map PV.bl)) acc=some (.lst (bls.map PV.bl)):=ah;generalize put H acc (.lst (bls.map PV.bl))=H1 at *;refine⟨bls,e1,?_⟩;refine aI (fun q=>no (fun z=>by rw[all.mpr z.ed]at q;cases q) _ s1) (fun q=>?_);have hed:=all.mp (by simpa using q);refine⟨c,ts,bs,road,ok,s1 _ _ ha,ne,hl,hed,fun b hb=>?_⟩;refine aI (fun q=>no (fun z=>by rw[hb.mpr ⟨z.lk,z.nd⟩]at q;cases q) _ s1) (fun q=>?_);have jn:=hb.mp (by simpa using q);right;refine⟨⟨_,_,s1 _ _ hx,rfl⟩,c,ts,G,⟨_,_,s1 _ _ hx⟩,rfl,hG,⟨c1,c6⟩,ok.gt,fun M up iff=>?_⟩;have eM:M=N:=(An.mk up iff).one an;subst eM;have ha1:=s1 _ _ ha;subst hR;ac_rfl;refine⟨_,ha1,fun p1 hp1=>⟨_,(ak (ar (ha1) hp1)).trans (ha1),fun p2 hp2=>?_⟩⟩;rw[dq,du]at *;have t1:=(Sub.refl H1).put (o:=.lst (road.dropLast.map stV)) hp1;have t2:=t1.put (o:=.lst (road.tail.map stV)) (t1.free hp2);have n12:p1≠p2:=fun e=>by subst e;rw[ah]at hp2;cases hp2
  have e3:put (put H1 p1 (.lst (road.dropLast.map stV))) p2 (.lst (road.tail.map stV)) p1=some (.lst (road.dropLast.map stV)):=(ak n12).trans ah;have e4:put (put H1 p1 (.lst (road.dropLast.map stV))) p2 (.lst (road.tail.map stV)) p2=some (.lst (road.tail.map stV)):=ah;generalize put (put H1 p1 (.lst (road.dropLast.map stV))) p2 (.lst (road.tail.map stV))=H2 at *;refine⟨_,_,e3,rfl,fun ac2 hac2=>?_⟩;have f1:=ar e3 hac2;have f2:=ar e4 hac2;rw[mG];refine aB (dB (im zpV fun p=>psd G M p.1 p.2=true)) (fun _=>true) (fun σ=>∃z y,σ=[z,y,some (.tup (G.map PV.int)),some (.tup (M.map PV.int))]) (by rw[F0];have:=jU road;omega) (fun _=>⟨(ak f1).trans e3,(ak f2).trans e4⟩) ?_ ?_ ⟨_,_,rfl⟩
  ·rintro y hy l σ R' ⟨z,z2,rfl⟩ hl' kT kF;obtain⟨p,hp,rfl⟩:=F4.mp hy;rw[←eV (b:=psd G M p.1 p.2) (by rw[cI gI])]at kT;unfold zpV;ac_rfl;exact⟨p.1,p.2,G,M,rfl,rfl,rfl,rfl,hl',by rw[aE];exact kT rfl _ ⟨_,_,rfl⟩⟩
  rw[cG];have al2:=dC (p:=im zpV fun p=>psd G M p.1 p.2=true) (xs:=(zp road).map zpV);generalize (((zp road).map zpV).map fun y=>@decide (im zpV (fun p=>psd G M p.1 p.2=true) y) (Classical.propDecidable _))=bl2 at *;rw[fb gI]at al2;exact⟨bl2,ah,H,(s1.trans t2).put ((s1.trans t2).free hac2),h _ (al2.trans ⟨fun z=>⟨ne,hed,jn.1,jn.2,z⟩,fun z=>z.ps⟩)⟩
 ·exact h.elim
theorem Ew(T:Tx K mg t):aK P w K mg base CX0 1 t.a_zx t.d_zx ["drawing","meeting","given","way"] (gR t):=by
 refine okU (k:=0) T.F_zx AV (fun vs H Q E h=>by
  unfold gR at h;split at h
  ·rfl
  ·exact h.elim) (fun cdv A outer s H E B hr=>⟨_,(af (aF (aP (bx (cN (aG hr.units) aH (au av aO rfl T.b_len Gn (aa (qv 3) ag)) ae) (bx (cN (cg hr.units) aH (iX (qv 3) ae) (qv 1)) (bB (cW (aZ hr.units) bw (iX (qv 3) (bO ae)) (qv 2))))))
  (aj (ay bb))
  ax)
  (af (aF (aQ (au (q0 rfl) xX rfl T.b_any boot_any (aa (cE (N2:=Ce) (nt:=1) (js:=[2]) (ck (sc:=aq qT)) (aM (aN (qv 3) aT (aU (bO ae)))) (fun _ _ _ _=>⟨(gN 0 D5),aY,(ba (bL hr.units) bw (qv 0) (qv 1) (by with_unfolding_all rfl))⟩)) ag)))
  (aj (ay bb))
  ax)
  (aj (ay (au (cb rfl) dg rfl T.b_all boot_all (aa (dv (N2:=Cy) (nt:=2) (js:=[0]) (ck (sc:=aq qT)) rfl (dP rfl T.b_zip (aa (aN (qv 3) aT (aU (bO ae))) (aa (aN (qv 3) (aU ae) aT) ag))) (fun _ _ _ _=>⟨(bJ (n:=2) rfl (aA (gN 0 Bb) (aA (gN 1 Bb) br))),aY,(ba (bL hr.units) bw (bg (aa (qv 0) (aa (qv 1) ag))) (cF (qv 2) T.cl_A T.nfA_ties rfl) (by with_unfolding_all rfl))⟩)) ag)))))),?_⟩)
 intro vs H Q E h;unfold gR at h;split at h
 ·rename_i x m n a;obtain⟨c,ts,bs,G,w,⟨dx,hx⟩,rfl,ha,hl,h⟩:=h;have no:¬Wy ts G m w->∀H1,U.Sub H H1->∃H3,U.Sub H3 H1/\Q (.bl false) H3:=fun q H1 s=>⟨H,s,h false ⟨fun z=>(by cases z),fun z=>absurd z q⟩⟩;left;refine⟨_,ha,?_⟩;rw[F0];by_cases ne:w=[]
  ·exact az (by rw[ne];rfl) (no (fun z=>(dh.mp z).1 ne) _ (Sub.refl _))
  refine aw (by simpa using ne) ⟨_,ha,?_⟩;obtain⟨w0,wt,ew⟩:∃w0 wt,w=w0::wt:=by
   cases w with
   | nil=>exact absurd rfl ne
   | cons x w=>exact⟨x,w,rfl⟩
  have a0:atI (w.map PV.int) 0=some (.int w0):=by
   rw[ew];exact cn (l:=PV.int w0::wt.map PV.int) (i:=0) (by simp)
  rw[a0];ac_rfl;by_cases hm:¬w0=m
  ·exact az (by simpa using hm) (no (fun z=>hm (by have:=(dh.mp z).2.1;rw[ew]at this;simpa using this)) _ (Sub.refl _))
  have hm:=ID.mp hm;refine aw (by simpa using hm) ⟨_,ha,?_⟩;rw[nP ne];ac_rfl;refine⟨aJ,?_⟩;rw[a8];by_cases hg:lsI w∈G
  case neg=>exact az (by simp[hg]) (no (fun z=>hg (dh.mp z).2.2.1) _ (Sub.refl _))
  refine aw (by simp[hg]) ?_;right;refine⟨_,ha,fun p0 hp0=>?_⟩;rw[dq];have s0:=(Sub.refl H).put (o:=.lst (w.dropLast.map PV.int)) hp0;have e0:put H p0 (.lst (w.dropLast.map PV.int)) p0=some (.lst (w.dropLast.map PV.int)):=ah;generalize put H p0 (.lst (w.dropLast.map PV.int))=H0 at *;have ha0:=s0 _ _ ha;have hx0:=s0 _ _ hx;show ∀acc,H0 acc=none->_;intro acc hacc;have na:=ar e0 hacc;refine aB (dB (im PV.int fun y=>y∈G)) (fun _=>true) (fun σ=>∃z,σ=[z,some (.tup (G.map PV.int))]) (by rw[F0,HB];omega) (fun _=>(ak na).trans e0) ?_ ?_ ⟨_,rfl⟩
  ·rintro y hy l σ R' ⟨z,rfl⟩ hl' kT kF;obtain⟨k,hk,rfl⟩:=F4.mp hy;rw[←eV (b:=decide (k∈G)) (by rw[cI gD];simp)]at kT;ac_rfl;refine⟨aJ,?_⟩;simp only[a8];exact⟨hl',by rw[aE];exact kT rfl _ ⟨_,rfl⟩⟩
  rw[cG];have any:=zL (p:=im PV.int fun y=>y∈G) (xs:=w.dropLast.map PV.int);generalize ((w.dropLast.map PV.int).map fun y=>@decide (im PV.int (fun y=>y∈G) y) (Classical.propDecidable _))=bls at *;rw[xW gD]at any;have s1:=s0.put (o:=.lst (bls.map PV.bl)) (s0.free hacc);have e1:put H0 acc (.lst (bls.map PV.bl)) acc=some (.lst (bls.map PV.bl)):=ah;have ha1:put H0 acc (.lst (bls.map PV.bl)) a=some (.lst (w.map PV.int)):=(ak (ar ha0 hacc)).trans ha0;have hx1:put H0 acc (.lst (bls.map PV.bl)) x=some (.ins t.a_A dx (DF c ts bs)):=(ak (ar hx0 hacc)).trans hx0;generalize put H0 acc (.lst (bls.map PV.bl))=H1 at *;refine⟨bls,e1,?_⟩;refine aI (fun q=>no (fun z=>?_) _ s1) (fun q=>?_)
  ·obtain⟨y,hy,hz⟩:=any.mp q;exact(dh.mp z).2.2.2.1 y hy hz
  have lo:∀y∈w.dropLast,y∉G:=fun y hy hz=>by rw[any.mpr ⟨y,hy,hz⟩]at q;cases q
  subst hR;ac_rfl;refine⟨_,ha1,fun p1 hp1=>⟨_,(ak (ar (ha1) hp1)).trans (ha1),fun p2 hp2=>?_⟩⟩;rw[dq,du]at *;have t1:=(Sub.refl H1).put (o:=.lst (w.dropLast.map PV.int)) hp1;have t2:=t1.put (o:=.lst (w.tail.map PV.int)) (t1.free hp2);have n12:p1≠p2:=fun e=>by subst e;rw[ah]at hp2;cases hp2
  have e3:put (put H1 p1 (.lst (w.dropLast.map PV.int))) p2 (.lst (w.tail.map PV.int)) p1=some (.lst (w.dropLast.map PV.int)):=(ak n12).trans ah;have e4:put (put H1 p1 (.lst (w.dropLast.map PV.int))) p2 (.lst (w.tail.map PV.int)) p2=some (.lst (w.tail.map PV.int)):=ah;generalize put (put H1 p1 (.lst (w.dropLast.map PV.int))) p2 (.lst (w.tail.map PV.int))=H2 at *;refine⟨_,_,e3,rfl,fun ac2 hac2=>?_⟩;have f1:=ar e3 hac2;have f2:=ar e4 hac2;rw[uk];refine aB (dB (im ppV fun p=>p∈ts)) (fun _=>true) (fun σ=>∃z y,σ=[z,y,some (.ref x)]) (by rw[F0,List.length_zip,HB];omega) (fun _=>⟨(ak f1).trans e3,(ak f2).trans e4⟩) ?_ ?_ ⟨_,_,rfl⟩
  ·rintro y hy l σ R' ⟨z,z2,rfl⟩ hl' kT kF;obtain⟨p,hp,rfl⟩:=F4.mp hy;rw[←eV (b:=decide (p∈ts)) (by rw[cI nF];simp)]at kT;unfold ppV;ac_rfl;refine⟨ai (by decide),_,_,_,(ak (ar (t2 _ _ hx1) hac2)).trans (t2 _ _ hx1),rfl,cR,?_⟩;rw[dA];exact⟨hl',by rw[aE];exact kT rfl _ ⟨_,_,rfl⟩⟩
  rw[cG];have al2:=dC (p:=im ppV fun p=>p∈ts) (xs:=(w.dropLast.zip w.tail).map ppV);generalize (((w.dropLast.zip w.tail).map ppV).map fun y=>@decide (im ppV (fun p=>p∈ts) y) (Classical.propDecidable _))=bl2 at *;rw[fb nF]at al2;exact⟨bl2,ah,H,(s1.trans t2).put ((s1.trans t2).free hac2),h _ (al2.trans ⟨fun z=>dh.mpr ⟨ne,by rw[ew,hm];rfl,hg,lo,z⟩,fun z=>(dh.mp z).2.2.2.2⟩)⟩
 ·exact h.elim
theorem DZ(T:Tx K mg t):aK P w K mg base CX0 4 t.a_zl t.d_zl ["drawing","road","given","ways"] (gU t):=by
 refine okU (k:=3) T.F_zl wB (fun vs H Q E h=>by
  unfold gU at h;split at h
  ·rfl
  ·exact h.elim) (fun cdv A outer s H E B hr=>⟨_,(af (sN 4 wB.nd (aC (EC T) hr.mo rfl T.g_zQ T.F_zQ.kp T.B_zQ (aa (qv 1) ag)))
  (af (aF (cN (cg hr.units) aH (au av aO rfl T.b_len Gn (aa (qv 3) ag)) (au av aO rfl T.b_len Gn (aa (qv 4) ag)))
  (aj (ay bb))
  ax)
  (aj (ay (au (cb rfl) dg rfl T.b_all boot_all (aa (dv (N2:=Bq) (nt:=2) (js:=[0,2]) (ck (sc:=aq vm)) rfl (dP rfl T.b_zip (aa (qv 4) (aa (qv 3) ag))) (fun _ _ _ _=>⟨(bJ (n:=2) rfl (aA (gN 0 AR) (aA (gN 1 AR) br))),aY,(aC (Ew T) hr.mo rfl T.g_zx T.F_zx.kp T.B_zx (aa (qv 2) (aa (qv 0) (aa (qv 3) (aa (qv 1) ag)))))⟩)) ag)))))),?_⟩)
 intro vs H Q E h;unfold gU at h;split at h
 ·rename_i x a n q;obtain⟨c,ts,bs,G,road,us,ws,⟨dx,hx⟩,rfl,ha,hl,hq,ls,wl,w50,h⟩:=h;left;refine⟨road,ha,by omega,fun r H1 hr s1 er=>?_⟩;have hq1:=s1 _ _ hq;have hx1:=s1 _ _ hx;have ls1:=ls.up s1;have lu:us.length=ws.length:=by have:=ls.len;unfold inV at this;simpa using this
  right;refine⟨_,hq1,_,er,?_⟩;rw[F0,lu];by_cases hn:¬ws.length=(mts road).length
  ·exact az (by simpa using fun z=>hn (by exact_mod_cast z)) ⟨H,s1,h false ⟨fun z=>(by cases z),fun z=>absurd z.1 hn⟩⟩
  have hn:=ID.mp hn;refine aw (by rw[hn];simp) ?_;subst hR;ac_rfl;refine⟨_,_,er,hq1,fun acc hacc=>?_⟩;have f1:=ar er hacc;have f2:=ar hq1 hacc;have um:us.length≤50:=by omega
  refine aB (dB (wyP H1 ts G)) (fun _=>true) (fun σ=>∃z y,σ=[z,y,some (.ref x),some (.tup (G.map PV.int))]) (by rw[d0];omega) (fun _=>⟨(ak f1).trans er,(ak f2).trans hq1⟩) ?_ ?_ ⟨_,_,rfl⟩
  ·rintro y hy l σ R' ⟨z,z2,rfl⟩ hl' kT kF;obtain⟨m,rw_,w,hw,rfl,hrw⟩:=iw ls1 y hy;ac_rfl;refine⟨c,ts,bs,G,w,⟨dx,(ak (ar hx1 hacc)).trans hx1⟩,rfl,(ak (ar hrw hacc)).trans hrw,w50 w hw,fun b hb=>?_⟩;have hbb:b=true↔wyP H1 ts G (.tup [.int m,.ref rw_]):=hb.trans ⟨fun z=>⟨m,rw_,w,rfl,hrw,z⟩,fun y_=>by
    obtain⟨m',r',w',e,hr',wy⟩:=y_;simp only[PV.tup.injEq,HP,PV.int.injEq,PV.ref.injEq,and_true]at e;obtain⟨rfl,rfl⟩:=e;rw[hrw]at hr';rw[gP (PO.lst.inj (Gw hr'))];exact wy⟩
   rw[←eV hbb]at kT;exact⟨hl',by rw[aE];exact kT rfl _ ⟨_,_,rfl⟩⟩
  rw[cG];have al2:=dC (p:=wyP H1 ts G) (xs:=bW ((mts road).map PV.int) us);generalize ((bW ((mts road).map PV.int) us).map fun y=>@decide (wyP H1 ts G y) (Classical.propDecidable _))=bl2 at *;rw[hZ ls1]at al2;exact⟨bl2,ah,H,s1.put (s1.free hacc),h _ (al2.trans ⟨fun z=>⟨hn,z⟩,fun z=>z.2⟩)⟩
 ·exact h.elim
theorem FA(T:Tx K mg t):aK P w K mg base CX0 6 t.a_zT t.d_zT ["drawing","ones","others","given","road","ways"] (d4 t):=by
 refine okU (k:=5) T.F_zT Cz (fun vs H Q E h=>by
  unfold d4 at h;split at h
  ·rfl
  ·exact h.elim) (fun cdv A outer s H E B hr=>⟨_,(af (bj (aC (AD T) hr.mo rfl T.g_zv T.F_zv.kp T.B_zv (aa (qv 0) (aa (qv 1) (aa (qv 2) (aa (qv 3) ag))))))
  (af (aF (bC (aQ (aC (Fy T) hr.mo rfl T.g_zg T.F_zg.kp T.B_zg (aa (qv 0) (aa (qv 4) (aa (qv 3) ag))))))
  (aj (ay bb))
  ax)
  (af (aF (aP (bx (cW (aZ hr.units) bw (iX (iX (qv 4) ae) ae) (qv 1)) (bB (cW (aZ hr.units) bw (iX (iX (qv 4) (bO ae)) ae) (qv 2)))))
  (aj (ay bb))
  ax)
  (aj (ay (aC (DZ T) hr.mo rfl T.g_zl T.F_zl.kp T.B_zl (aa (qv 0) (aa (qv 4) (aa (qv 3) (aa (qv 5) ag)))))))))),?_⟩)
 intro vs H Q E h;unfold d4 at h;split at h
 ·rename_i x l m n a q;obtain⟨c,ts,bs,O,B,G,road,us,ws,dr,ok,rfl,rfl,rfl,ap,ha,hl,hq,ls,wl,w50,h⟩:=h;obtain⟨N,an⟩:=BJ ok ap.g;have iff:=uB (bs:=bs) (O:=O) (B:=B) (r:=road) (ws:=ws) an;have no:¬RdP ts bs O B G road ws->∃H3,U.Sub H3 H/\Q (.bl false) H3:=fun q=>⟨H,Sub.refl _,h false ⟨fun z=>(by cases z),fun z=>absurd z q⟩⟩;left;refine⟨c,ts,bs,O,B,G,dr,ok.c6,rfl,rfl,rfl,ap,?_⟩;right;refine⟨c,ts,bs,G,N,road,dr,ok,rfl,ap.g,an,ha,hl,fun b hb=>?_⟩;refine aI (fun q=>no fun z=>by rw[hb.mpr (iff.mp z).1]at q;cases q) (fun q=>?_);have op:=hb.mp (by simpa using q);subst hR;refine ao fun R hR=>?_;obtain⟨s0,rt,er⟩:∃s0 rt,road=s0::rt:=by
   cases road with
   | nil=>exact absurd rfl op.ne
   | cons x r=>exact⟨x,r,rfl⟩
  ac_rfl;refine⟨_,ha,?_⟩;rw[wU er];have u0:stV s0=PV.tup [.int s0.1,.str s0.2.1,.int s0.2.2]:=rfl;rw[u0];ac_rfl;refine⟨aJ,?_⟩;rw[a8];by_cases h0:s0.1∈O
  case neg=>exact az (by simp[h0]) (no fun z=>h0 (z.hd s0 (by rw[er];rfl)))
  refine aw (by simp[h0]) ⟨_,ha,?_⟩;rw[zV op.ne];have u1:stV (lsS road)=PV.tup [.int (lsS road).1,.str (lsS road).2.1,.int (lsS road).2.2]:=rfl;rw[u1];ac_rfl;refine⟨aJ,?_⟩;rw[a8];by_cases hb2:(lsS road).2.2∈B
  case neg=>exact az (by simp[hb2]) (no fun z=>hb2 z.la)
  refine aw (by simp[hb2]) ?_;subst hR;ac_rfl;refine⟨c,ts,bs,G,road,us,ws,dr,rfl,ha,hl,hq,ls,wl,w50,fun b2 hb3=>⟨H,Sub.refl _,h b2 (hb3.trans ⟨fun z=>iff.mpr ⟨op,fun s hs=>?_,hb2,z⟩,fun z=>z.wy⟩)⟩⟩;rw[er]at hs;have:s0=s:=by simpa using hs
  rw[←this];exact h0
 ·exact h.elim
theorem C1(T:Tx K mg t):aK P w K mg base CX0 6 t.a_zS t.d_zS ["drawing","ones","others","given","standings"] (fi t):=by
 refine okU (k:=5) T.F_zS i6 (fun vs H Q E h=>by
  unfold fi at h;split at h
  ·rfl
  ·exact h.elim) (fun cdv A outer s H E B hr=>⟨_,(af (bj (aC (AD T) hr.mo rfl T.g_zv T.F_zv.kp T.B_zv (aa (qv 0) (aa (qv 1) (aa (qv 2) (aa (qv 3) ag))))))
  (af (sC 5 i6.nd (N2:=Ck) (nt:=1) (js:=[]) (ck (sc:=aq mD)) (aM (qv 4)) (fun _ _ _ _=>⟨(gN 0 Dm),aY,(iX (qv 0) ae)⟩))
  (af (aF (bC (aQ (au (cb rfl) dg rfl T.b_all boot_all (aa (cE (N2:=AS) (nt:=1) (js:=[2,0]) (ck (sc:=aq mD)) (aM (qv 5)) (fun _ _ _ _=>⟨(gN 0 FE),aY,(cD (pZ qr qD fc fB ae (qv 0) (cF (qv 2) T.cl_A T.nfA_count rfl)) (cB (ba (aZ hr.units) bw (qv 0) (qv 1) (by with_unfolding_all rfl))))⟩)) ag))))
  (aj (ay bb))
  ax)
  (af (sN 6 i6.nd (cz (qv 0) T.cl_A T.m_zc (Bw T) hr.mo T.B_zc (aa (qv 3) ag)))
  (af (sN 7 i6.nd rS)
  (af (sC 8 i6.nd (N2:=A7) (nt:=1) (js:=[]) (ck (sc:=aq mD)) (aM (qv 1)) (fun _ _ _ _=>⟨(gN 0 Dk),aY,(bg (aa (qv 0) (aa bb ag)))⟩))
  (af (b7 GF rfl (aM (qv 4)) (gN 9 i6.nd)
  (af (e8 bb (ve hr.units (qv 7) (qv 9)))
   (aj (bj (df HL HM eD d7 (qv 8) (aa (aC (FW T) hr.mo rfl T.g_zr T.F_zr.kp T.B_zr (aa (qv 0) (aa (qv 9) (aa (qv 3) (aa (qv 6) ag))))) ag))))))
  (aj (ay (au (cb rfl) dg rfl T.b_all boot_all (aa (cE (N2:=Bf) (nt:=1) (js:=[7]) (ck (sc:=aq mD)) (aM (qv 8)) (fun _ _ _ _=>⟨(gN 0 EY),aY,(ba (yG hr.units) vP (qv 0) (qv 1) (by with_unfolding_all rfl))⟩)) ag))))))))))),?_⟩)
 intro vs H Q E h;unfold fi at h;split at h
 ·rename_i x l m n a;obtain⟨c,ts,bs,O,B,G,N,L,⟨dx,hx⟩,ok,rfl,rfl,rfl,ap,an,ha,hl,h⟩:=h;have c1:=ok.c1;have c6:=ok.c6;have o6:=ap.a.len c6;left;refine⟨c,ts,bs,O,B,G,⟨dx,hx⟩,c6,rfl,rfl,rfl,ap,?_⟩;right;refine⟨_,ha,fun acc hacc=>?_⟩;have na:=ar ha hacc;refine aB sdF (fun _=>true) (fun σ=>∃z,σ=[z]) (by rw[F0];omega) (fun _=>(ak na).trans ha) ?_ ?_ ⟨_,rfl⟩
  ·rintro y hy l σ R' ⟨z,rfl⟩ hl' kT kF;obtain⟨s,hs,rfl⟩:=F4.mp hy;have e:sdF (sdV s)=.int s.1:=rfl;rw[e]at kT;unfold sdV;ac_rfl;exact⟨hl',by rw[aE];exact kT rfl _ ⟨_,rfl⟩⟩
  rw[ql];have s1:=(Sub.refl H).put (o:=.lst ((L.map (·.1)).map PV.int)) hacc;have e1:put H acc (.lst ((L.map (·.1)).map PV.int)) acc=some (.lst ((L.map (·.1)).map PV.int)):=ah;generalize put H acc (.lst ((L.map (·.1)).map PV.int))=H1 at *;have ha1:=s1 _ _ ha;have hx1:=s1 _ _ hx;right;refine⟨_,e1,fun ac2 hac2=>?_⟩;have n2:=ar e1 hac2;refine aB (dB (im PV.int fun y=>(0≤y/\y<c)/\y∉B)) (fun _=>true) (fun σ=>∃z,σ=[z,some (.tup (B.map PV.int)),some (.ref x)]) (by rw[F0,F0];omega) (fun _=>(ak n2).trans e1) ?_ ?_ ⟨_,rfl⟩
  ·rintro y hy l σ R' ⟨z,rfl⟩ hl' kT kF;obtain⟨k,hk,rfl⟩:=F4.mp hy;have key:∀b:Bool,(b=true↔(0≤k/\k<c)/\k∉B)->R' [some (PV.int k),some (PV.tup (B.map PV.int)),some (PV.ref x)] (put (put H1 ac2 (.lst l)) ac2 (.lst (l++[PV.bl b]))):=fun b hb=>by
    rw[←eV (b:=b) (by rw[cI gD];exact hb)]at kT;rw[aE];exact kT rfl _ ⟨_,rfl⟩
   ac_rfl;by_cases k0:0≤k
   case neg=>exact aw (GR k0) ⟨hl',key false ⟨fun z=>(by cases z),fun z=>absurd z.1.1 k0⟩⟩
   refine az (GP k0) ⟨_,_,_,(ak (ar hx1 hac2)).trans hx1,rfl,?_⟩;show cif (decide (k<c)) _ _;by_cases k1:k<c
   case neg=>exact aw (GR k1) ⟨hl',key false ⟨fun z=>(by cases z),fun z=>absurd z.1.2 k1⟩⟩
   refine az (GP k1) ⟨aJ,hl',?_⟩;rw[a8];exact key _ (by simp[k0,k1])
  rw[cG];have all:=dC (p:=im PV.int fun y=>(0≤y/\y<c)/\y∉B) (xs:=(L.map (·.1)).map PV.int);generalize (((L.map (·.1)).map PV.int).map fun y=>@decide (im PV.int (fun y=>(0≤y/\y<c)/\y∉B) y) (Classical.propDecidable _))=bls at *;rw[fb gD]at all;have s2:=s1.put (o:=.lst (bls.map PV.bl)) (s1.free hac2);have e2:put H1 ac2 (.lst (bls.map PV.bl)) ac2=some (.lst (bls.map PV.bl)):=ah;have ha2:put H1 ac2 (.lst (bls.map PV.bl)) a=some (.lst (L.map sdV)):=(ak (ar ha1 hac2)).trans ha1;have hx2:put H1 ac2 (.lst (bls.map PV.bl)) x=some (.ins t.a_A dx (DF c ts bs)):=(ak (ar hx1 hac2)).trans hx1;generalize put H1 ac2 (.lst (bls.map PV.bl))=H2 at *;refine⟨bls,e2,?_⟩;refine aI (fun q=>⟨H,s2,h false ⟨fun z=>(by cases z),fun z=>?_⟩⟩) (fun q=>?_)
  ·rw[all.mpr fun y hy=>by obtain⟨s,hs,rfl⟩:=F4.mp hy;exact⟨(z.1 s hs).1,(z.1 s hs).2.1⟩]at q;cases q
  have rg:∀s∈L,(0≤s.1/\s.1<c)/\s.1∉B:=fun s hs=>all.mp (by simpa using q) _ (F4.mpr ⟨s,hs,rfl⟩);right;refine⟨⟨_,_,hx2,rfl⟩,c,ts,G,⟨_,_,hx2⟩,rfl,ap.g,⟨c1,c6⟩,ok.gt,fun M up iff=>?_⟩;have eM:M=N:=(An.mk up iff).one an;subst eM;right;show ∀p,H2 p=none->R _ _ (put H2 p (.dS P w []));intro d hd;have s3:=s2.put (o:=.dS P w []) (s2.free hd);have ed:put H2 d (.dS P w []) d=some (.dS P w []):=ah;have ha3:=(ak (ar ha2 hd) (o:=.dS P w [])).trans ha2;have hx3:=(ak (ar hx2 hd) (o:=.dS P w [])).trans hx2;have hdH:=s2.free hd;generalize put H2 d (.dS P w [])=H3 at *;right;show ∀acc,H3 acc=none->_;intro k hk;refine aB (fun y=>PV.tup [y,.bl false]) (fun _=>true) (fun σ=>∃z,σ=[z]) (by rw[F0];omega) (fun _=>trivial) ?_ ?_ ⟨_,rfl⟩
  ·rintro y hy l σ R' ⟨z,rfl⟩ hl' kT kF;obtain⟨j,hj,rfl⟩:=F4.mp hy;ac_rfl;exact⟨ai (by decide),hl',by rw[aE];exact kT rfl _ ⟨_,rfl⟩⟩
  rw[eY];obtain⟨W0,hW0⟩:∃W0,W0=O.map fun m=>((m,false):Sd):=⟨_,rfl⟩;rw[←hW0];have lW0:W0.length≤6:=by rw[hW0,F0];exact o6
  have s4:=s3.put (o:=.lst (W0.map sdV)) (s3.free hk);have ek:put H3 k (.lst (W0.map sdV)) k=some (.lst (W0.map sdV)):=ah;have ed4:=(ak (ar ed hk) (o:=.lst (W0.map sdV))).trans ed;have ha4:=(ak (ar ha3 hk) (o:=.lst (W0.map sdV))).trans ha3;have hx4:=(ak (ar hx3 hk) (o:=.lst (W0.map sdV))).trans hx3;have ndk:d≠k:=ar ed hk;have nak:a≠k:=ar ha3 hk;have nxk:x≠k:=ar hx3 hk;have hkH:=s3.free hk;generalize put H3 k (.lst (W0.map sdV))=H4 at *;right;refine⟨_,ha4,?_⟩;refine cV (fun i σ H5=>∃z ks,σ=[some (.ref x),some (.tup (O.map PV.int)),some (.tup (B.map PV.int)),some (.tup (G.map PV.int)),some (.ref a),some (.ref acc),some (.tup (M.map PV.int)),some (.ref d),some (.ref k),z]/\U.Sub H H5/\H5 d=some (.dS P w ks)/\ks.length≤i/\(∀y,y∈ks↔y∈L.take i)/\H5 k=some (.lst ((W0++(L.take i).flatMap (bes ts bs G M)).map sdV))/\H5 a=some (.lst (L.map sdV))/\H5 x=some (.ins t.a_A dx (DF c ts bs))) ?_ ?_ ⟨none,[],rfl,s4,ed4,F9 _,fun y=>by simp,by simpa using ek,ha4,hx4⟩
  ·rintro σ H5 ⟨z,ks,rfl,s5,ed5,_,iks,ek5,ha5,hx5⟩;refine⟨ha5,?_⟩;rw[F0,Ho]at iks ek5;subst hR;ac_rfl;refine⟨_,ek5,fun ac3 hac3=>?_⟩;have lf:=k7 ok (G:=G) (M:=M) L;refine aB (dB (im sdV fun y=>y∈ks)) (fun _=>true) (fun σ=>∃z,σ=[z,some (.ref d)]) (by rw[F0,F3];omega) (fun _=>(ak (ar ek5 hac3)).trans ek5) ?_ ?_ ⟨_,rfl⟩
   ·rintro y hy l σ R' ⟨z,rfl⟩ hl' kT kF;obtain⟨s,hs,rfl⟩:=F4.mp hy;rw[←eV (b:=decide (s∈ks)) (by rw[cI nJ];simp)]at kT;unfold sdV;ac_rfl;exact⟨ks,(ak (ar ed5 hac3)).trans ed5,hl',by rw[aE];exact kT rfl _ ⟨_,rfl⟩⟩
   rw[cG];have al:=dC (p:=im sdV fun y=>y∈ks) (xs:=(W0++L.flatMap (bes ts bs G M)).map sdV);generalize (((W0++L.flatMap (bes ts bs G M)).map sdV).map fun y=>@decide (im sdV (fun y=>y∈ks) y) (Classical.propDecidable _))=bl2 at *;rw[fb nJ]at al;refine⟨bl2,ah,H,s5.put (s5.free hac3),h _ (al.trans ⟨fun q=>⟨fun s hs=>⟨(rg s hs).1,(rg s hs).2,fun z hz=>(iks z).mp (q z (Gy _ (List.mem_flatMap.mpr ⟨s,hs,hz⟩)))⟩,fun j hj=>(iks _).mp (q _ (GH _ (by rw[hW0];exact F4.mpr ⟨j,hj,rfl⟩)))⟩,fun S z hz=>(iks z).mpr ?_⟩)⟩;rcases Gf.mp hz with q | q
   ·rw[hW0]at q;obtain⟨j,hj,rfl⟩:=F4.mp q;exact S.2 j hj
   ·obtain⟨s,hs,hz⟩:=List.mem_flatMap.mp q;exact(S.1 s hs).2.2 z hz
  ·rintro F i y σ H5 hy ⟨z,ks,rfl,s5,ed5,lks,iks,ek5,ha5,hx5⟩ kk;refine⟨ha5,?_⟩;rw[Gs]at hy;obtain⟨st,hst,rfl⟩:=GX.mp hy;have hi:=(Gj.mp hst).1;have ej:L.take (i+1)=L.take i++[st]:=by rw[IF,hst];rfl
   have r0:=rg st (Gg hst);have lb:=k7 ok (G:=G) (M:=M) (L.take i);rw[GN]at lb;have nad:a≠d:=fun e=>by subst e;rw[ha5]at ed5;cases ed5
   have nxd:x≠d:=fun e=>by subst e;rw[hx5]at ed5;cases ed5
   unfold sdV;refine ao fun R1 hR1=>?_;ac_rfl;refine⟨ks,ed5,by omega,?_⟩;obtain⟨k2,hk2⟩:∃k2,k2=(if (st.1,st.2)∈ks then ks else ks++[(st.1,st.2)]):=⟨_,rfl⟩;rw[←hk2];have lk2:k2.length≤i+1:=by
    rw[hk2];by_cases hm:(st.1,st.2)∈ks
    ·rw[Gq hm];omega
    ·rw[Gp hm,F3,Gr];omega
   have ik2:∀y,y∈k2↔y∈L.take (i+1):=fun y=>by
    rw[hk2,ej,Gf,Gk,← iks];by_cases hm:(st.1,st.2)∈ks
    ·rw[Gq hm];exact⟨.inl,fun z=>z.elim id fun e=>by rw[e];exact hm⟩
    ·rw[Gp hm,Gf,Gk]
   have s6:=s5.put (o:=.dS P w k2) hdH;have ed6:put H5 d (.dS P w k2) d=some (.dS P w k2):=ah;have ek6:=(ak ndk.symm (o:=.dS P w k2)).trans ek5;have ha6:=(ak nad (o:=.dS P w k2)).trans ha5;have hx6:=(ak nxd (o:=.dS P w k2)).trans hx5;show R1 _ _ (put H5 d (.dS P w k2));generalize put H5 d (.dS P w k2)=H6 at *;subst hR1;ac_rfl;refine⟨⟨_,ek6⟩,c,ts,bs,G,M,st.1,st.2,rfl,⟨dx,hx6⟩,ok,r0.1,rfl,rfl,fun r H7 hr s7 er=>?_⟩;have ek7:=s7 _ _ ek6;have bl2:(bes ts bs G M (st.1,st.2)).length≤18:=mW ok.gt ok.gb ok.c6 (G:=G) (A:=M) st;refine⟨_,_,ek7,er,ai (by simp only[F0,F3];omega),?_⟩;refine kk _ _ ⟨_,k2,rfl,(s6.trans s7).put hkH,(ak ndk).trans (s7 _ _ ed6),lk2,ik2,?_,(ak nak).trans (s7 _ _ ha6),(ak nxk).trans (s7 _ _ hx6)⟩;rw[ah,← F8,ej,List.flatMap_append,Hy];simp
 ·exact h.elim
theorem DK(T:Tx K mg t):aK P w K mg base CX0 2 t.a_zz t.d_zz ["_law_drawn","_law_ones","_law_others","_law_given","_law_standings"] d6:=by
 refine okU (k:=1) T.F_zz nL (fun vs H Q E h=>by
  unfold d6 at h;split at h
  ·rfl
  ·exact h.elim) (fun cdv A outer s H E B hr=>⟨_,(af (aF (bC (aQ (au (aW .list) (bM .list) rfl T.b_isinstance GG (aa (qv 4) (aa (bN rfl T.b_list IB) ag)))))
  (aj (ay bb))
  ax)
  (af (sN 5 nL.nd (aC (Bi T) hr.mo rfl T.g_zM T.F_zM.kp T.B_zM (aa (qv 0) (aa (qv 3) ag))))
  (af (b7 GF rfl (aM (qv 4)) (gN 6 nL.nd)
  (af (aF (aP (bx (bC (aQ (au (aW .tuple) (bM .tuple) rfl T.b_isinstance GG (aa (qv 6) (aa (bN rfl T.b_tuple Ie) ag))))) (bx (cN (cg hr.units) aH (au av aO rfl T.b_len Gn (aa (qv 6) ag)) ae) (bB (bC (aQ (au (aW .bool) (bM .bool) rfl T.b_isinstance GG (aa (iX (qv 6) ae) (aa (bN rfl T.b_bool boot_bool) ag)))))))))
   (aj (ay bb))
   ax)
   (af (aF (aP (bx (bC (aQ (aC (yH T) hr.mo rfl T.g_zH T.F_zH.kp T.B_zH (aa (iX (qv 6) ae) ag)))) (bx (cN fc fB (iX (qv 6) ae) ae) (bx (cN mP m9 (iX (qv 6) ae) (iX (qv 0) ae)) (bB (cW (bL hr.units) bw (iX (qv 6) ae) (qv 2)))))))
   (aj (ay bb))
   ax)
   (aj (b7 GF rfl (aM (aC (AW T) hr.mo rfl T.g_zt T.F_zt.kp T.B_zt (aa (qv 0) (aa (qv 6) (aa (qv 3) (aa (qv 5) ag)))))) (gN 7 nL.nd)
   (aj (aF (cW (aZ hr.units) bw (qv 7) (qv 4))
    (aj (ay bb))
    ax)))))))
  (aj (ay (ba (aG hr.units) aH (au av aO rfl T.b_len Gn (aa (cE (N2:=Bj) (nt:=1) (js:=[4]) (ck (sc:=aq vk)) (aM (qv 1)) (fun _ _ _ _=>⟨(gN 0 Dx),(bH (cW (aZ hr.units) bw (bg (aa (qv 0) (aa bb ag))) (qv 1))),(qv 0)⟩)) ag)) ae (bQ _))))))),?_⟩)
 intro vs H Q E h;unfold d6 at h;split at h
 ·rename_i l m k n a;obtain⟨c,ts,bs,O,B,G,N,L,e,rfl,rfl,rfl,ok,hO,hG,an0,ha,hl,h⟩:=h;unfold shp at e;injection e with e;subst e;have o6:=hO.len ok.c6;have no:¬lL c ts bs O B G N L->∀H1,U.Sub H H1->∃H3,U.Sub H3 H1/\Q (.bl false) H3:=fun q H1 s=>⟨H,s,h false ⟨fun z=>(by cases z),fun z=>absurd z q⟩⟩;left;refine⟨_,ha,?_⟩
  repeat refine aw rfl ?_
  right;refine⟨c,ts,bs,G,rfl,rfl,ok,hG,fun f H1 F A hf s1 ef an iff=>?_⟩;have eA:=an0.one an;subst eA;right;refine⟨_,s1 _ _ ha,?_⟩;refine cV (fun i σ H2=>∃z1 z2,σ=[some (.tup [.int c,.tup (ts.map prV),.tup (bs.map prV)]),some (.tup (O.map PV.int)),some (.tup (B.map PV.int)),some (.tup (G.map PV.int)),some (.ref a),some (.ref f),z1,z2]/\U.Sub H1 H2/\∀s∈L.take i,(0≤s.1/\s.1<c)/\s.1∉B/\∀z∈bes ts bs G N s,z∈L) ?_ ?_ ⟨none,none,rfl,Sub.refl _,fun s hs=>(by simp at hs)⟩
  ·rintro σ H2 ⟨z1,z2,rfl,s2,all⟩;rw[F0,Ho]at all;have ha2:=s2 _ _ (s1 _ _ ha);refine⟨ha2,?_⟩;subst hR;ac_rfl;intro acc hacc;refine aB (fun y=>y) (onI fun x=>!decide (((x,false):Sd)∈L)) (fun σ=>∃z,σ=[z,some (.ref a)]) (by rw[F0];omega) (fun _=>trivial) ?_ ?_ ⟨_,rfl⟩
   ·rintro y hy l σ R' ⟨z,rfl⟩ hl kT kF;obtain⟨x,hx,rfl⟩:=F4.mp hy;have eo:onI (fun x=>!decide (((x,false):Sd)∈L)) (PV.int x)=!decide (((x,false):Sd)∈L):=rfl;rw[eo]at kT kF;ac_rfl;refine⟨ai (by decide),_,(ak (ar ha2 hacc)).trans ha2,eK,?_⟩;rw[mH];by_cases m:((x,false):Sd)∈L
    ·exact aw (by simp[m]) (kF (by simp[m]) _ ⟨_,rfl⟩)
    ·exact az (by simp[m]) ⟨hl,by rw[aE];exact kT (by simp[m]) _ ⟨_,rfl⟩⟩
   rw[dX];ac_rfl;refine⟨H,(s1.trans s2).put ((s1.trans s2).free hacc),h _ ?_⟩;rw[F0];have e0:(O.filter fun x=>!decide (((x,false):Sd)∈L))=[]↔∀x∈O,((x,false):Sd)∈L:=by
    rw[List.filter_eq_nil_iff];simp
   constructor
   ·intro q;refine⟨all,e0.mp (List.length_eq_zero_iff.mp ?_)⟩;have:=eq_of_beq q;omega
   ·intro q;rw[e0.mpr q.2];rfl
  ·rintro N' i y σ H2 hy ⟨z1,z2,rfl,s2,all⟩ kk;have ha2:=s2 _ _ (s1 _ _ ha);refine⟨ha2,?_⟩;rw[Gs]at hy;obtain⟨st,hst,rfl⟩:=GX.mp hy;have hm:=Gg hst;have ej:L.take (i+1)=L.take i++[st]:=by rw[IF,hst];rfl
   refine ao fun R' hR'=>?_;unfold sdV;ac_rfl
   repeat refine aw rfl ?_
   subst hR';refine ao fun R' hR'=>?_;ac_rfl;by_cases k0:st.1<0
   ·exact az (GP k0) (no (fun z=>by have:=(z.1 st hm).1.1;omega) _ (s1.trans s2))
   refine aw (GR k0) ?_;by_cases k1:c≤st.1
   ·exact az (by simpa using k1) (no (fun z=>by have:=(z.1 st hm).1.2;omega) _ (s1.trans s2))
   refine aw (by simpa using k1) ⟨aJ,?_⟩;rw[a8];by_cases k2:st.1∈B
   ·exact az (by simp[k2]) (no (fun z=>(z.1 st hm).2.1 k2) _ (s1.trans s2))
   refine aw (by simp[k2]) ?_;subst hR';ac_rfl;refine⟨c,ts,bs,G,F,N,st.1,st.2,rfl,rfl,rfl,ok,s2 _ _ ef,iff,fun r H3 L2 hr s3 er hz hl=>⟨_,er,?_⟩⟩;have ha3:=s3 _ _ ha2;refine cV (fun j σ H4=>∃z2,σ=[some (.tup [.int c,.tup (ts.map prV),.tup (bs.map prV)]),some (.tup (O.map PV.int)),some (.tup (B.map PV.int)),some (.tup (G.map PV.int)),some (.ref a),some (.ref f),some (.tup [.int st.1,.bl st.2]),z2]/\H4=H3/\∀z∈L2.take j,z∈L) ?_ ?_ ⟨_,rfl,rfl,fun z hz=>(by simp at hz)⟩
   ·rintro σ H4 ⟨z2,rfl,rfl,al2⟩;rw[F0,Ho]at al2;refine⟨er,kk _ _ ⟨_,_,rfl,s2.trans s3,fun s hs=>?_⟩⟩;rw[ej]at hs;rcases Gf.mp hs with q | q
    ·exact all s q
    ·rw[Gk.mp q];exact⟨⟨by omega,by omega⟩,k2,fun z hz'=>al2 z ((hz z).mpr hz')⟩
   ·rintro N2 j y σ H4 hy ⟨z2,rfl,rfl,al2⟩ kk2;refine⟨er,?_⟩;rw[Gs]at hy;obtain⟨s',hs',rfl⟩:=GX.mp hy;have ej2:L2.take (j+1)=L2.take j++[s']:=by rw[IF,hs'];rfl
    unfold sdV;ac_rfl;refine⟨_,ha3,eK,?_⟩;rw[mH];by_cases hin:s'∈L
    ·refine aw (by simpa using hin) (kk2 _ _ ⟨_,rfl,rfl,fun z hz'=>?_⟩);rw[ej2]at hz';rcases Gf.mp hz' with q | q
     ·exact al2 z q
     ·rw[Gk.mp q];exact hin
    ·exact az (by simpa using hin) (no (fun z=>hin ((z.1 st hm).2.2 s' ((hz s').mp (Gg hs')))) _ ((s1.trans s2).trans s3))
 ·exact h.elim
theorem Df(T:Tx K mg t):aK P w K mg base CX0 1 t.a_zE t.d_zE ["_law_drawn","_law_name","_law_way","_law_given"] fq:=by
 refine okU (k:=0) T.F_zE wK (fun vs H Q E h=>by
  unfold fq at h;split at h
  ·rfl
  ·exact h.elim) (fun cdv A outer s H E B hr=>⟨_,(af (aF (aP (bx (bC (aQ (au (aW .list) (bM .list) rfl T.b_isinstance GG (aa (qv 2) (aa (bN rfl T.b_list IB) ag))))) (bx (cN (aG hr.units) aH (au av aO rfl T.b_len Gn (aa (qv 2) ag)) ae) (bx (cN (cg hr.units) aH (iX (qv 2) ae) (qv 1)) (bB (cW (aZ hr.units) bw (iX (qv 2) (bO ae)) (qv 3)))))))
  (aj (ay bb))
  ax)
  (af (b7 GF rfl (cw rfl T.b_range (aa (jq (au av aO rfl T.b_len Gn (aa (qv 2) ag)) ae) ag)) (gN 4 wK.nd)
  (aj (aF (aP (bx (cW (bL hr.units) bw (iX (qv 2) (qv 4)) (qv 3)) (bB (cW (aZ hr.units) bw (bg (aa (iX (qv 2) (qv 4)) (aa (iX (qv 2) (bE (qv 4) ae)) ag))) (iX (qv 0) ae)))))
   (aj (ay bb))
   ax)))
  (aj (ay bb)))),?_⟩)
 intro vs H Q E h;unfold fq at h;split at h
 ·rename_i l m a n;obtain⟨c,ts,bs,G,w,e,rfl,ha,hl,h⟩:=h;unfold shp at e;injection e with e;subst e;have no:¬Wy ts G m w->∃H3,U.Sub H3 H/\Q (.bl false) H3:=fun q=>⟨H,Sub.refl _,h false ⟨fun z=>(by cases z),fun z=>absurd z q⟩⟩;left;refine⟨_,ha,_,ha,?_⟩;rw[F0];by_cases ne:w=[]
  ·exact az (by rw[ne];rfl) (no fun z=>(dh.mp z).1 ne)
  refine aw (by simpa using ne) ⟨_,ha,?_⟩;obtain⟨w0,wt,ew⟩:∃w0 wt,w=w0::wt:=by
   cases w with
   | nil=>exact absurd rfl ne
   | cons x w=>exact⟨x,w,rfl⟩
  have a0:atI (w.map PV.int) 0=some (.int w0):=by
   rw[ew];exact cn (l:=PV.int w0::wt.map PV.int) (i:=0) (by simp)
  rw[a0];ac_rfl;by_cases hm:¬w0=m
  ·exact az (by simpa using hm) (no fun z=>hm (by have:=(dh.mp z).2.1;rw[ew]at this;simpa using this))
  have hm:=ID.mp hm;refine aw (by simpa using hm) ⟨_,ha,?_⟩;rw[nP ne];ac_rfl;refine⟨aJ,?_⟩;rw[a8];by_cases hg:lsI w∈G
  case neg=>exact az (by simp[hg]) (no fun z=>hg (dh.mp z).2.2.1)
  refine aw (by simp[hg]) ?_;have wi:=Cc (ts:=ts) ne (by rw[ew,hm];rfl) hg;right;refine⟨_,ha,⟨by rw[F0];omega,by rw[F0];omega⟩,?_⟩;rw[F0];have en:((w.length:Int) - 1).toNat=w.length - 1:=by omega
  rw[en];refine dN (fun i σ H2=>∃z,σ=[some (.tup [.int c,.tup (ts.map prV),.tup (bs.map prV)]),some (.int m),some (.ref a),some (.tup (G.map PV.int)),z]/\H2=H/\∀j (_:j<i),∀x∈w[j]?,∀y∈w[j+1]?,x∉G/\(x,y)∈ts) ?_ ?_ ⟨none,rfl,rfl,fun j hj=>(by omega)⟩
  ·rintro σ H2 ⟨z,rfl,rfl,all⟩;refine⟨trivial,?_⟩;subst hR;ac_rfl;exact⟨H2,Sub.refl _,h true ⟨fun _=>wi.mpr all,fun _=>rfl⟩⟩
  ·rintro N i σ H2 hi ⟨z,rfl,rfl,all⟩ kk;refine⟨trivial,?_⟩;have h1:i+1<w.length:=by omega
   have a1:atI (w.map PV.int) ((i:Nat):Int)=some (.int w[i]):=by rw[cn (by rw[F0];omega),HW]
   have a2:atI (w.map PV.int) (((i:Nat):Int)+1)=some (.int w[i+1]):=by
    have:=cn (l:=w.map PV.int) (i:=i+1) (by rw[F0];omega);rw[HW]at this;exact this
   have at_i:w[i]?=some w[i]:=F2 (by omega);have at_j:w[i+1]?=some w[i+1]:=F2 h1;ac_rfl;refine⟨_,ha,?_⟩;rw[a1];ac_rfl;refine⟨aJ,?_⟩;rw[a8];by_cases g1:w[i]∈G
   ·exact az (by simp[g1]) (no fun z=>(wi.mp z i hi _ at_i _ at_j).1 g1)
   refine aw (by simp[g1]) ⟨_,ha,?_⟩;rw[a1];ac_rfl;refine⟨_,ha,?_⟩;rw[a2];ac_rfl;refine⟨ai (by decide),cR,?_⟩;rw[dA];by_cases g2:(w[i],w[i+1])∈ts
   ·refine aw (by simp[g2]) (kk _ _ ⟨_,rfl,rfl,fun j hj x hx y hy=>?_⟩);by_cases ej:j=i
    ·subst ej;have hx:w[j]?=some x:=hx;have hy:w[j+1]?=some y:=hy;rw[at_i]at hx;rw[at_j]at hy;rw[←Gw hx,← Gw hy];exact⟨g1,g2⟩
    ·exact all j (by omega) x hx y hy
   ·exact az (by simp[g2]) (no fun z=>g2 (wi.mp z i hi _ at_i _ at_j).2)
 ·exact h.elim
theorem C2(T:Tx K mg t):aK P w K mg base CX0 3 t.a_zw t.d_zw ["_law_drawn","_law_ones","_law_others","_law_given","_law_road","_law_ways"] eR:=by
 refine okU (k:=2) T.F_zw kP (fun vs H Q E h=>by
  unfold eR at h;split at h
  ·rfl
  ·exact h.elim) (fun cdv A outer s H E B hr=>⟨_,(af (aF (aP (bx (bC (aQ (au (aW .list) (bM .list) rfl T.b_isinstance GG (aa (qv 4) (aa (bN rfl T.b_list IB) ag))))) (bx (cN (aG hr.units) aH (au av aO rfl T.b_len Gn (aa (qv 4) ag)) ae) (bB (bC (aQ (au (cb rfl) dg rfl T.b_all boot_all (aa (cE (N2:=zR) (nt:=1) (js:=[0]) (ck (sc:=aq oE)) (aM (qv 4)) (fun _ _ _ _=>⟨(gN 0 DJ),aY,(aC (DN T) hr.mo rfl T.g_zy T.F_zy.kp T.B_zy (aa (qv 1) (aa (qv 0) ag)))⟩)) ag))))))))
  (aj (ay bb))
  ax)
  (af (sN 6 kP.nd (bz (bu (aa (iX (iX (qv 4) ae) ae) ag)) (cE (N2:=BE) (nt:=1) (js:=[]) (ck (sc:=aq oE)) (aM (qv 4)) (fun _ _ _ _=>⟨(gN 0 DV),aY,(iX (qv 0) ae)⟩))))
  (af (aF (aP (bx (cN (cg hr.units) aH (gv rfl rfl T.b_len rfl T.b_set boot_set (qv 6)) (au av aO rfl T.b_len Gn (aa (qv 6) ag))) (bx (cW (aZ hr.units) bw (iX (qv 6) ae) (qv 1)) (bB (cW (aZ hr.units) bw (iX (qv 6) (bO ae)) (qv 2))))))
  (aj (ay bb))
  ax)
  (af (sN 7 kP.nd (bu ag))
  (af (og GF rfl (dP rfl T.b_zip (aa (qv 4) (aa (aN (qv 4) (aU ae) aT) ag))) (bJ (n:=2) rfl (aA (gN 8 kP.nd) (aA (gN 9 kP.nd) br)))
  (af (aF (cN (cg hr.units) aH (iX (qv 8) ae) (iX (qv 9) ae))
   (aj (ay bb))
   ax)
   (aj (aF (aQ (aC (Aj T) hr.mo rfl T.g_zG T.F_zG.kp T.B_zG (aa (qv 8) (aa (qv 9) ag))))
   (aj (bj (df GY GZ bY cx (qv 7) (aa (iX (qv 8) ae) ag))))
   (aj (aF (cW (bL hr.units) bw (iX (qv 8) ae) (qv 3))
    (aj (ay bb))
    ax))))))
  (af (aF (aP (bx (bC (aQ (au (aW .list) (bM .list) rfl T.b_isinstance GG (aa (qv 5) (aa (bN rfl T.b_list IB) ag))))) (bB (cN (cg hr.units) aH (au av aO rfl T.b_len Gn (aa (qv 5) ag)) (au av aO rfl T.b_len Gn (aa (qv 7) ag))))))
  (aj (ay bb))
  ax)
  (aj (ay (au (cb rfl) dg rfl T.b_all boot_all (aa (dv (N2:=zX) (nt:=2) (js:=[0,3]) (ck (sc:=aq oE)) rfl (dP rfl T.b_zip (aa (qv 7) (aa (qv 5) ag))) (fun _ _ _ _=>⟨(bJ (n:=2) rfl (aA (gN 0 Bh) (aA (gN 1 Bh) br))),aY,(aC (Df T) hr.mo rfl T.g_zE T.F_zE.kp T.B_zE (aa (qv 2) (aa (qv 0) (aa (qv 1) (aa (qv 3) ag)))))⟩)) ag)))))))))),?_⟩)
 intro vs H Q E h;unfold eR at h;split at h
 ·rename_i l m k n a q;obtain⟨c,ts,bs,O,B,G,road,us,ws,e,rfl,rfl,rfl,ok,ha,hl,hq,ls,wl,w50,h⟩:=h;unfold shp at e;injection e with e;subst e;have no:¬RdP ts bs O B G road ws->∀H1,U.Sub H H1->∃H3,U.Sub H3 H1/\Q (.bl false) H3:=fun q H1 s=>⟨H,s,h false ⟨fun z=>(by cases z),fun z=>absurd z q⟩⟩;left;refine⟨_,ha,_,ha,?_⟩;rw[F0];by_cases ne:road=[]
  ·exact az (by rw[ne];rfl) (no (fun z=>z.ne ne) _ (Sub.refl _))
  refine aw (by simpa using ne) ⟨_,ha,?_⟩;show ∀acc,H acc=none->_;intro acc hacc;refine aB (dB (im stV fun s=>EdG ts bs s)) (fun _=>true) (fun σ=>∃z,σ=[z,some (.tup [.int c,.tup (ts.map prV),.tup (bs.map prV)])]) (by rw[F0];omega) (fun _=>(ak (ar ha hacc)).trans ha) ?_ ?_ ⟨_,rfl⟩
  ·rintro y hy l σ R' ⟨z,rfl⟩ hl kT kF;obtain⟨s,hs,rfl⟩:=F4.mp hy;have key:∀b:Bool,(b=true↔EdG ts bs s)->R' [some (stV s),some (.tup [.int c,.tup (ts.map prV),.tup (bs.map prV)])] (put (put H acc (.lst l)) acc (.lst (l++[PV.bl b]))):=fun b hb=>by
    rw[←eV (b:=b) (by rw[cI eP];exact hb)]at kT;rw[aE];exact kT rfl _ ⟨_,rfl⟩
   unfold stV at key ⊢;ac_rfl;exact⟨c,ts,bs,rfl,ok,fun z hz=>⟨hl,key z hz⟩⟩
  rw[cG];have all:=dC (p:=im stV fun s=>EdG ts bs s) (xs:=road.map stV);generalize ((road.map stV).map fun y=>@decide (im stV (fun s=>EdG ts bs s) y) (Classical.propDecidable _))=bls at *;rw[fb eP]at all;have s1:=(Sub.refl H).put (o:=.lst (bls.map PV.bl)) hacc;have e1:put H acc (.lst (bls.map PV.bl)) acc=some (.lst (bls.map PV.bl)):=ah;generalize put H acc (.lst (bls.map PV.bl))=H1 at *;refine⟨bls,e1,?_⟩;refine aI (fun qq=>no (fun z=>by rw[all.mpr z.ed]at qq;cases qq) _ s1) (fun qq=>?_);have ed:=all.mp (by simpa using qq);have ha1:=s1 _ _ ha;subst hR;obtain⟨s0,t0,er⟩:∃s t,road=s::t:=by
   cases road with
   | nil=>exact absurd rfl ne
   | cons s t=>exact⟨s,t,rfl⟩
  have e0:=wU er;left;refine⟨_,ha1,?_⟩;rw[e0];have u0:stV s0=PV.tup [.int s0.1,.str s0.2.1,.int s0.2.2]:=rfl;rw[u0];ac_rfl;refine⟨ai (by decide),fun p1 hp1=>?_⟩;have s2:=s1.put (o:=.lst [PV.int s0.1]) (s1.free hp1);have e1:put H1 p1 (.lst [PV.int s0.1]) p1=some (.lst [PV.int s0.1]):=ah;generalize put H1 p1 (.lst [PV.int s0.1])=H2 at *;have ha2:=s2 _ _ ha;refine⟨_,ha2,fun acc2 hacc2=>?_⟩;refine aB g32 (fun _=>true) (fun σ=>∃z,σ=[z]) (by rw[F0];omega) (fun _=>(ak (ar ha2 hacc2)).trans ha2) ?_ ?_ ⟨_,rfl⟩
  ·rintro y hy l σ R' ⟨z,rfl⟩ hl' kT kF;obtain⟨s,hs,rfl⟩:=F4.mp hy;unfold stV at kT ⊢;ac_rfl;exact⟨hl',by rw[aE];exact kT rfl _ ⟨_,rfl⟩⟩
  rw[wq];ac_rfl;refine⟨_,_,(ak (ar e1 hacc2)).trans e1,rfl,ai (by simp;omega),fun nr hnr=>?_⟩;have s3:=s2.put (o:=.lst ((road.map (·.2.2)).map PV.int)) (s2.free hacc2);have hnrH:=s3.free hnr;have s4:=s3.put (o:=.lst ([PV.int s0.1]++(road.map (·.2.2)).map PV.int)) hnrH;have enm:My.nm road=s0.1::road.map (·.2.2):=by rw[er];rfl
  have e4:put (put H2 acc2 (.lst ((road.map (·.2.2)).map PV.int))) nr (.lst ([PV.int s0.1]++(road.map (·.2.2)).map PV.int)) nr=some (.lst ((My.nm road).map PV.int)):=by rw[ah,enm];rfl
  show R _ _ (put (put H2 acc2 (.lst ((road.map (·.2.2)).map PV.int))) nr (.lst ([PV.int s0.1]++(road.map (·.2.2)).map PV.int)));generalize put (put H2 acc2 (.lst ((road.map (·.2.2)).map PV.int))) nr (.lst ([PV.int s0.1]++(road.map (·.2.2)).map PV.int))=H4 at *;subst hR;have ng:=kz ok ed;have n6:∀n∈(My.nm road).map Int.toNat,n<6:=fun n hn=>by
   obtain⟨z,hz,rfl⟩:=F4.mp hn;have:=ng z hz;omega
  left;refine⟨(My.nm road).map Int.toNat,by rw[e4,gF ng],n6,_,e4,?_⟩;by_cases nd:¬(My.nm road).Nodup
  ·have lt:=nC n6 (fun z=>nd ((jQ fun x hx=>(ng x hx).1).mp z));rw[F0]at lt;exact az (by rw[F0];simp only[Bool.not_eq_true',Ik];omega) (no (fun z=>nd z.nd) _ s4)
  have nd:=ID.mp nd;rw[jY n6 ((jQ fun x hx=>(ng x hx).1).mpr nd)];refine aw (by rw[F0,F0];simp) ⟨_,e4,?_⟩;have e40:atI ((My.nm road).map PV.int) 0=some (.int s0.1):=by
   rw[enm];exact cn (l:=PV.int s0.1::(road.map (·.2.2)).map PV.int) (i:=0) (by simp)
  rw[e40];ac_rfl;refine⟨aJ,?_⟩;rw[a8];by_cases h0:s0.1∈O
  case neg=>exact az (by simp[h0]) (no (fun z=>h0 (z.hd s0 (by rw[er];rfl))) _ s4)
  refine aw (by simp[h0]) ⟨_,e4,?_⟩;rw[Af ne];ac_rfl;refine⟨aJ,?_⟩;rw[a8];by_cases hb:(lsS road).2.2∈B
  case neg=>exact az (by simp[hb]) (no (fun z=>hb z.la) _ s4)
  refine aw (by simp[hb]) ?_;right;refine⟨ai (by decide),fun mr hmr=>?_⟩;have s5:=s4.put (o:=.lst []) (s4.free hmr);have hmrH:=s4.free hmr;have e5:put H4 mr (.lst []) mr=some (.lst []):=ah;generalize put H4 mr (.lst [])=H5 at *;right;have ha5:=s5 _ _ ha;refine⟨_,ha5,fun p2 hp2=>?_⟩;rw[du];have s6:=(Sub.refl H5).put (o:=.lst (road.tail.map stV)) hp2;have e6:put H5 p2 (.lst (road.tail.map stV)) p2=some (.lst (road.tail.map stV)):=ah;generalize put H5 p2 (.lst (road.tail.map stV))=H6 at *;have nmp:mr≠p2:=ar e5 hp2;have nma:a≠mr:=ar ha hmrH;refine⟨_,_,s6 _ _ ha5,rfl,?_⟩;rw[nD];have lz:=jU road;refine cV (fun i σ H7=>∃z1 z2,σ=[some (.tup [.int c,.tup (ts.map prV),.tup (bs.map prV)]),some (.tup (O.map PV.int)),some (.tup (B.map PV.int)),some (.tup (G.map PV.int)),some (.ref a),some (.ref q),some (.ref nr),some (.ref mr),z1,z2]/\(U.Sub H H7/\H7 a=some (.lst (road.map stV))/\H7 p2=some (.lst (road.tail.map stV)))/\H7 mr=some (.lst ((mtZ ((zp road).take i)).map PV.int))/\∀p∈(zp road).take i,p.1.2.2=p.2.1/\(mtg p.1 p.2=false->p.1.2.2∉G)) ?_ ?_ ⟨none,none,rfl,⟨s5.trans s6,s6 _ _ ha5,e6⟩,by simpa[mtZ]using s6 _ _ e5,fun p hp=>(by simp at hp)⟩
  ·rintro σ H7 ⟨z1,z2,rfl,⟨s7,a7,p7⟩,m7,al7⟩;refine⟨⟨a7,p7⟩,?_⟩;rw[F0,Ho]at m7 al7;rw[←jZ]at m7;subst hR;have lu:=ls.len;simp only[inV,F0]at lu;have hq7:=s7 _ _ hq;have ls7:=ls.up s7;have ml:=jW (zp road);rw[←jZ]at ml;dsimp only;left;refine⟨_,hq7,_,hq7,_,m7,?_⟩;rw[F0,lu];by_cases hn:¬ws.length=(mts road).length
   ·exact az (by simpa using fun z=>hn (by exact_mod_cast z)) (no (fun z=>hn z.wy.1) _ s7)
   have hn:=ID.mp hn;refine aw (by rw[hn];simp) ?_;subst hR;ac_rfl;refine⟨_,_,m7,hq7,fun acc3 hacc3=>?_⟩;refine aB (dB (wyP H7 ts G)) (fun _=>true) (fun σ=>∃z1 z2,σ=[z1,z2,some (.tup [.int c,.tup (ts.map prV),.tup (bs.map prV)]),some (.tup (G.map PV.int))]) (by rw[d0,F0];omega) (fun _=>⟨(ak (ar m7 hacc3)).trans m7,(ak (ar hq7 hacc3)).trans hq7⟩) ?_ ?_ ⟨_,_,rfl⟩
   ·rintro y hy l σ R' ⟨z1,z2,rfl⟩ hl' kT kF;obtain⟨m,rw_,w,hw,rfl,hrw⟩:=iw ls7 y hy;ac_rfl;refine⟨c,ts,bs,G,w,rfl,rfl,(ak (ar hrw hacc3)).trans hrw,w50 w hw,fun b hb=>?_⟩;have hbb:b=true↔wyP H7 ts G (.tup [.int m,.ref rw_]):=hb.trans ⟨fun z=>⟨m,rw_,w,rfl,hrw,z⟩,fun y_=>by
     obtain⟨m',r',w',e,hr',wy⟩:=y_;simp only[PV.tup.injEq,HP,PV.int.injEq,PV.ref.injEq,and_true]at e;obtain⟨rfl,rfl⟩:=e;rw[hrw]at hr';rw[gP (PO.lst.inj (Gw hr'))];exact wy⟩
    rw[←eV hbb]at kT;exact⟨hl',by rw[aE];exact kT rfl _ ⟨_,_,rfl⟩⟩
   rw[cG];have al2:=dC (p:=wyP H7 ts G) (xs:=bW ((mts road).map PV.int) us);generalize ((bW ((mts road).map PV.int) us).map fun y=>@decide (wyP H7 ts G y) (Classical.propDecidable _))=bl2 at *;rw[hZ ls7]at al2;refine⟨bl2,ah,H,s7.put (s7.free hacc3),h _ (al2.trans ⟨fun z=>⟨ne,ed,fun p hp=>(al7 p hp).1,nd,fun p hp=>(al7 p hp).2,fun s hs=>?_,hb,hn,z⟩,fun z=>z.wy.2⟩)⟩;rw[er]at hs;have:s0=s:=by simpa using hs
   rw[←this];exact h0
  ·rintro N' i y σ H7 hy ⟨z1,z2,rfl,⟨s7,a7,p7⟩,m7,al7⟩ kk;refine⟨⟨a7,p7⟩,?_⟩;rw[Gs]at hy;obtain⟨p,hp,rfl⟩:=GX.mp hy;have hm:=Gg hp;have ej:(zp road).take (i+1)=(zp road).take i++[p]:=by rw[IF,hp];rfl
   have ml:=jW ((zp road).take i);rw[GN]at ml;unfold zpV stV;ac_rfl;by_cases lk:¬p.1.2.2=p.2.1
   ·exact az (by simpa using lk) (no (fun z=>lk (z.lk p hm)) _ s7)
   have lk:=ID.mp lk;refine aw (by simpa using lk) ?_;have em:mtg (p.1.1,p.1.2.1,p.1.2.2) (p.2.1,p.2.2.1,p.2.2.2)=mtg p.1 p.2:=rfl;rw[em];have al8:(mtg p.1 p.2=false->p.1.2.2∉G)->∀r∈(zp road).take (i+1),r.1.2.2=r.2.1/\(mtg r.1 r.2=false->r.1.2.2∉G):=fun z r hr=>by
    rw[ej]at hr;rcases Gf.mp hr with w | w
    ·exact al7 r w
    ·rw[Gk.mp w];exact⟨lk,z⟩
   refine aI (fun qq=>?_) (fun qq=>?_)
   ·refine⟨⟨_,m7⟩,_,m7,bA (by rw[F0];omega),kk _ _ ⟨_,_,rfl,⟨s7.put hmrH,(ak nma).trans a7,(ak nmp.symm).trans p7⟩,?_,al8 fun z=>by rw[qq]at z;cases z⟩⟩;rw[ah,ej];unfold mtZ;rw[List.filter_append,F8,F8];simp[qq]
   ·refine⟨aJ,?_⟩;rw[a8];by_cases g:p.1.2.2∈G
    ·exact az (by simp[g]) (no (fun z=>z.ps p hm qq g) _ s7)
    ·refine aw (by simp[g]) (kk _ _ ⟨_,_,rfl,⟨s7,a7,p7⟩,?_,al8 fun _=>g⟩);rw[m7,ej];unfold mtZ;rw[List.filter_append,F8,F8];simp[qq]
 ·exact h.elim
theorem Fs(T:Tx K mg t):aK P w K mg base CX0 2 t.a_zj t.d_zj ["_law_road"] gL:=by
 refine okU (k:=1) T.F_zj A9 (fun vs H Q E h=>by
  unfold gL at h;split at h
  ·rfl
  ·exact h.elim) (fun cdv A outer s H E B hr=>⟨_,(aj (ay (dv (N2:=Cs) (nt:=2) (js:=[]) (ck (sc:=aq vx)) rfl (dP rfl T.b_zip (aa (qv 0) (aa (aN (qv 0) (aU ae) aT) ag))) (fun _ _ _ _=>⟨(bJ (n:=2) rfl (aA (gN 0 BK) (aA (gN 1 BK) br))),(bH (aQ (aC (Aj T) hr.mo rfl T.g_zG T.F_zG.kp T.B_zG (aa (qv 0) (aa (qv 1) ag))))),(iX (qv 0) ae)⟩)))),?_⟩)
 intro vs H Q E h;unfold gL at h;split at h
 ·rename_i a;obtain⟨road,ha,hl,h⟩:=h;ac_rfl;refine⟨_,ha,fun p2 hp2=>?_⟩;rw[du];have s1:=(Sub.refl H).put (o:=.lst (road.tail.map stV)) hp2;have e1:put H p2 (.lst (road.tail.map stV)) p2=some (.lst (road.tail.map stV)):=ah;have ha1:put H p2 (.lst (road.tail.map stV)) a=some (.lst (road.map stV)):=(ak (ar ha hp2)).trans ha;generalize put H p2 (.lst (road.tail.map stV))=H1 at *;refine⟨_,_,ha1,rfl,fun acc hacc=>?_⟩;rw[nD];have lz:=jU road;refine aB mtN mtF (fun σ=>∃z y,σ=[z,y]) (by rw[F0];omega) (fun _=>⟨(ak (ar ha1 hacc)).trans ha1,(ak (ar e1 hacc)).trans e1⟩) ?_ ?_ ⟨_,_,rfl⟩
  ·rintro y hy l σ R' ⟨z,z2,rfl⟩ hl' kT kF;obtain⟨p,hp,rfl⟩:=F4.mp hy;have e:mtF (zpV p)=mtg p.1 p.2:=rfl;rw[e]at kT kF;unfold zpV stV at kT;unfold zpV stV;ac_rfl;exact aI (fun q=>⟨hl',by rw[aE];exact kT q _ ⟨_,_,rfl⟩⟩) (fun q=>kF q _ ⟨_,_,rfl⟩)
  have em:(((zp road).map zpV).filter mtF).map mtN=(mts road).map PV.int:=by rw[←mG];exact jK road
  rw[em];have ml:=jW (zp road);rw[←jZ]at ml;exact⟨_,Sub.refl _,h acc _ _ (s1.free hacc) (s1.put (s1.free hacc)) ah (by omega)⟩
 ·exact h.elim
theorem ER(T:Tx K mg t):aK P w K mg base CX0 1 t.a_zB t.d_zB ["_law_drawn","_law_name","_law_number"] eL:=by
 refine okU (k:=0) T.F_zB lq (fun vs H Q E h=>by
  unfold eL at h;split at h
  ·rfl
  ·exact h.elim) (fun cdv A outer s H E B hr=>⟨_,(af (sC 3 lq.nd (N2:=nl8) (nt:=2) (js:=[1]) (ck (sc:=aq mh)) (aM (iX (qv 0) ae)) (fun _ _ _ _=>⟨(bJ (n:=2) rfl (aA (gN 0 nn8) (aA (gN 1 nn8) br))),(bH (cN (aG hr.units) aH (qv 0) (qv 2))),(bg (aa (qv 2) (aa bT (aa (qv 1) ag))))⟩))
  (af (sN 3 lq.nd (bz (qv 3) (cE (N2:=nl8) (nt:=2) (js:=[1]) (ck (sc:=aq mh)) (aM (iX (qv 0) ae)) (fun _ _ _ _=>⟨(bJ (n:=2) rfl (aA (gN 0 nn8) (aA (gN 1 nn8) br))),(bH (cN (aG hr.units) aH (qv 1) (qv 2))),(bg (aa (qv 2) (aa bT (aa (qv 0) ag))))⟩))))
  (af (sN 3 lq.nd (bz (qv 3) (cE (N2:=nl8) (nt:=2) (js:=[1]) (ck (sc:=aq mh)) (aM (iX (qv 0) ae)) (fun _ _ _ _=>⟨(bJ (n:=2) rfl (aA (gN 0 nn8) (aA (gN 1 nn8) br))),(bH (cN (aG hr.units) aH (qv 0) (qv 2))),(bg (aa (qv 2) (aa bT (aa (qv 1) ag))))⟩))))
  (af (sN 3 lq.nd (bz (qv 3) (cE (N2:=nl8) (nt:=2) (js:=[1]) (ck (sc:=aq mh)) (aM (iX (qv 0) ae)) (fun _ _ _ _=>⟨(bJ (n:=2) rfl (aA (gN 0 nn8) (aA (gN 1 nn8) br))),(bH (cN (aG hr.units) aH (qv 1) (qv 2))),(bg (aa (qv 2) (aa bT (aa (qv 0) ag))))⟩))))
  (af (aF (cN (aG hr.units) aH (au av aO rfl T.b_len Gn (aa (qv 3) ag)) ae)
  (aj (ay jv))
  ax)
  (aj (ay (iX (qv 3) (aL (qv 2) (au av aO rfl T.b_len Gn (aa (qv 3) ag))))))))))),?_⟩)
 intro vs H Q E h;unfold eL at h;split at h
 ·rename_i l n u;obtain⟨c,ts,bs,e,ok,hN,hS⟩:=h;unfold shp at e;injection e with e;subst e;have t15:=ok.gt.len ok.c6;have b15:=ok.gb.len ok.c6;left;show ∀acc,H acc=none->_;intro a1 ha1;refine aB (fun y=>PV.tup [.int n,.str "down",g1 y]) (at0 n) (fun σ=>∃z z2,σ=[z,z2,some (.int n)]) (by rw[F0];omega) (fun _=>trivial) ?_ ?_ ⟨_,_,rfl⟩
  ·rintro y hy l σ R' ⟨z,z2,rfl⟩ hl kT kF;obtain⟨p,hp,rfl⟩:=F4.mp hy;have e:at0 n (prV p)=decide (p.1=n):=rfl;rw[e]at kT kF;unfold prV at kT ⊢;ac_rfl;refine aI (fun q=>?_) (fun q=>?_)
   ·exact⟨ai (by decide),hl,by rw[aE];exact kT (by simpa using q) _ ⟨_,_,rfl⟩⟩
   ·exact kF (by simpa using q) _ ⟨_,_,rfl⟩
  obtain⟨L1,eL1,lL1⟩:=lS (n:=n) (k:="down") ts;rw[eL1];have s1:=(Sub.refl H).put (o:=.lst (L1.map stV)) ha1;have e1:put H a1 (.lst (L1.map stV)) a1=some (.lst (L1.map stV)):=ah;generalize put H a1 (.lst (L1.map stV))=H1 at *;right;show ∀acc,H1 acc=none->_;intro a2 ha2;refine aB (fun y=>PV.tup [.int n,.str "up",g0 y]) (at1 n) (fun σ=>∃z z2,σ=[z,z2,some (.int n)]) (by rw[F0];omega) (fun _=>trivial) ?_ ?_ ⟨_,_,rfl⟩
  ·rintro y hy l σ R' ⟨z,z2,rfl⟩ hl kT kF;obtain⟨p,hp,rfl⟩:=F4.mp hy;have e:at1 n (prV p)=decide (p.2=n):=rfl;rw[e]at kT kF;unfold prV at kT ⊢;ac_rfl;refine aI (fun q=>?_) (fun q=>?_)
   ·exact⟨ai (by decide),hl,by rw[aE];exact kT (by simpa using q) _ ⟨_,_,rfl⟩⟩
   ·exact kF (by simpa using q) _ ⟨_,_,rfl⟩
  obtain⟨L2,eL2,lL2⟩:=ma (n:=n) (k:="up") ts;rw[eL2];ac_rfl;refine⟨_,_,(ak (ar e1 ha2)).trans e1,rfl,ai (by simp only[F0,F3];omega),fun p2 hp2=>?_⟩;rw[←F8];have s2a:=s1.put (o:=.lst (L2.map stV)) (s1.free ha2);have s2:=s2a.put (o:=.lst ((L1++L2).map stV)) (s2a.free hp2);have e2:put (put H1 a2 (.lst (L2.map stV))) p2 (.lst ((L1++L2).map stV)) p2=some (.lst ((L1++L2).map stV)):=ah;generalize put (put H1 a2 (.lst (L2.map stV))) p2 (.lst ((L1++L2).map stV))=H2 at *;have lL12:(L1++L2).length=L1.length+L2.length:=F3;generalize L1++L2=L12 at *;right;show ∀acc,H2 acc=none->_;intro a3 ha3;refine aB (fun y=>PV.tup [.int n,.str "bow",g1 y]) (at0 n) (fun σ=>∃z z2,σ=[z,z2,some (.int n)]) (by rw[F0];omega) (fun _=>trivial) ?_ ?_ ⟨_,_,rfl⟩
  ·rintro y hy l σ R' ⟨z,z2,rfl⟩ hl kT kF;obtain⟨p,hp,rfl⟩:=F4.mp hy;have e:at0 n (prV p)=decide (p.1=n):=rfl;rw[e]at kT kF;unfold prV at kT ⊢;ac_rfl;refine aI (fun q=>?_) (fun q=>?_)
   ·exact⟨ai (by decide),hl,by rw[aE];exact kT (by simpa using q) _ ⟨_,_,rfl⟩⟩
   ·exact kF (by simpa using q) _ ⟨_,_,rfl⟩
  obtain⟨L3,eL3,lL3⟩:=lS (n:=n) (k:="bow") bs;rw[eL3];ac_rfl;refine⟨_,_,(ak (ar e2 ha3)).trans e2,rfl,ai (by simp only[F0,F3];omega),fun p3 hp3=>?_⟩;rw[←F8];have s3a:=s2.put (o:=.lst (L3.map stV)) (s2.free ha3);have s3:=s3a.put (o:=.lst ((L12++L3).map stV)) (s3a.free hp3);have e3:put (put H2 a3 (.lst (L3.map stV))) p3 (.lst ((L12++L3).map stV)) p3=some (.lst ((L12++L3).map stV)):=ah;generalize put (put H2 a3 (.lst (L3.map stV))) p3 (.lst ((L12++L3).map stV))=H3 at *;have lL13:(L12++L3).length=L12.length+L3.length:=F3;generalize L12++L3=L13 at *;right;show ∀acc,H3 acc=none->_;intro a4 ha4;refine aB (fun y=>PV.tup [.int n,.str "bow",g0 y]) (at1 n) (fun σ=>∃z z2,σ=[z,z2,some (.int n)]) (by rw[F0];omega) (fun _=>trivial) ?_ ?_ ⟨_,_,rfl⟩
  ·rintro y hy l σ R' ⟨z,z2,rfl⟩ hl kT kF;obtain⟨p,hp,rfl⟩:=F4.mp hy;have e:at1 n (prV p)=decide (p.2=n):=rfl;rw[e]at kT kF;unfold prV at kT ⊢;ac_rfl;refine aI (fun q=>?_) (fun q=>?_)
   ·exact⟨ai (by decide),hl,by rw[aE];exact kT (by simpa using q) _ ⟨_,_,rfl⟩⟩
   ·exact kF (by simpa using q) _ ⟨_,_,rfl⟩
  obtain⟨L4,eL4,lL4⟩:=ma (n:=n) (k:="bow") bs;rw[eL4];ac_rfl;refine⟨_,_,(ak (ar e3 ha4)).trans e3,rfl,ai (by simp only[F0,F3];omega),fun p4 hp4=>?_⟩;rw[←F8];have s4a:=s3.put (o:=.lst (L4.map stV)) (s3.free ha4);have s4:=s4a.put (o:=.lst ((L13++L4).map stV)) (s4a.free hp4);have e4:put (put H3 a4 (.lst (L4.map stV))) p4 (.lst ((L13++L4).map stV)) p4=some (.lst ((L13++L4).map stV)):=ah;generalize put (put H3 a4 (.lst (L4.map stV))) p4 (.lst ((L13++L4).map stV))=H4 at *;have lL14:(L13++L4).length=L13.length+L4.length:=F3;generalize L13++L4=L14 at *;right;refine⟨_,e4,?_⟩;rw[F0];by_cases ne:L14=[]
  ·exact az (by rw[ne];rfl) ⟨H,s4,hN⟩
  refine aw (by simpa using ne) ?_;subst hR;ac_rfl;have lp:0<L14.length:=Ia.mpr ne;refine⟨_,e4,?_⟩;rw[F0];refine⟨by omega,_,e4,?_⟩;have hf:=fm (a:=u) (b:=(L14.length:Int)) (by omega);have ej:u.fmod L14.length=((u.fmod L14.length).toNat:Int):=by omega
  rw[ej,cn (by rw[F0];omega),HW];exact⟨H,s4,hS _⟩
 ·exact h.elim
theorem EV(T:Tx K mg t):aK P w K mg base CX0 1 t.a_zm t.d_zm ["_law_told","_law_cell","_law_many"] fh:=by
 refine okU (k:=0) T.F_zm rm (fun vs H Q E h=>by
  unfold fh at h;split at h
  ·rfl
  ·exact h.elim) (fun cdv A outer s H E B hr=>⟨_,(af (sN 3 rm.nd (aL (qv 1) ae))
  (af (sN 4 rm.nd (aL (a9 (qv 1) ae) (bE (au av aO rfl T.b_len Gn (aa (qv 0) ag)) ae)))
  (af (aF (cN (aG hr.units) aH (qv 3) ae)
  (aj (ay (bz (aN (qv 0) (aU (qv 4)) aT) (aN (qv 0) aT (aU (qv 4))))))
  ax)
  (af (aF (cN (aG hr.units) aH (qv 3) ae)
  (aj (ay (bz (qv 0) (aN (qv 0) aT (aU (qv 4))))))
  ax)
  (af (aF (cN (aG hr.units) aH (qv 3) ae)
  (aj (ay (bz (aN (qv 0) aT (aU (qv 4))) (aN (qv 0) (aU (bE (qv 4) ae)) aT))))
  ax)
  (af (aF (cN (aG hr.units) aH (qv 3) ae)
  (aj (ay (bz (qv 0) (bu (aa (bg (aa (aL (a9 (qv 1) ae) (qv 2)) (aa (ba (aG hr.units) aH (aL (a9 (qv 1) ae) ae) ae (bQ _)) ag))) ag)))))
  ax)
  (af (aF (cN (aG hr.units) aH (qv 3) ae)
  (aj (ay (bz (qv 0) (bu (aa (bg (aa (iX (bu (aa (jq (bO ae) (aL (a9 (qv 1) ae) (ju ae ae))) (aa (bE (qv 2) (aL (a9 (qv 1) ae) (ju ae ae))) ag))) (aL (a9 (qv 1) ae) ae)) (aa bb ag))) ag)))))
  ax)
  (aj (ay (bz (cE (N2:=Bz) (nt:=1) (js:=[]) (ck (sc:=aq tX)) (aM (qv 0)) (fun _ _ _ _=>⟨(gN 0 E3),(bH (aQ (iX (qv 0) ae))),(qv 0)⟩)) (aN (qv 0) aT (aU (qv 4))))))))))))),?_⟩)
 intro vs H Q E h;unfold fh at h;split at h
 ·rename_i a u c;obtain⟨L,⟨c1,c6⟩,ha,hl,h⟩:=h;left;refine⟨by decide,?_⟩;generalize u.fmod 6=kd;right;refine⟨cQ (by decide) (by decide),_,ha,?_⟩;rw[F0];refine⟨by omega,?_⟩;generalize (u.fdiv 6).fmod ((L.length:Int)+1)=i;subst hR;refine bZ fun T1 R h1 hR=>?_;ac_rfl;refine aI (fun _=>?_) (fun _=>?_)
  ·subst h1;ac_rfl;refine⟨_,ha,fun p1 hp1=>?_⟩;obtain⟨M1,e1,l1,_⟩:=cf sdV L (some i) none;rw[e1];refine⟨_,(ak (ar ha hp1)).trans ha,fun p2 hp2=>?_⟩;obtain⟨M2,e2,l2,_⟩:=cf sdV L none (some i);rw[e2];have n12:p1≠p2:=fun e=>by subst e;rw[ah]at hp2;cases hp2
   have s1:=(Sub.refl H).put (o:=.lst (M1.map sdV)) hp1;have s2:=s1.put (o:=.lst (M2.map sdV)) (s1.free hp2);refine⟨_,_,(ak n12).trans ah,rfl,ai (by simp only[F0];omega),fun p3 hp3=>?_⟩;exact⟨_,Sub.refl _,h p3 _ (M1++M2) (s2.put (s2.free hp3)) (by rw[ah,F8]) (by rw[F3];omega)⟩
  subst hR;refine bZ fun T1 R h1 hR=>?_;ac_rfl;refine aI (fun _=>?_) (fun _=>?_)
  ·subst h1;ac_rfl;refine⟨_,ha,fun p2 hp2=>?_⟩;obtain⟨M2,e2,l2,_⟩:=cf sdV L none (some i);rw[e2];have s2:=(Sub.refl H).put (o:=.lst (M2.map sdV)) hp2;refine⟨_,_,(ak (ar ha hp2)).trans ha,rfl,ai (by simp only[F0];omega),fun p3 hp3=>?_⟩;exact⟨_,Sub.refl _,h p3 _ (L++M2) (s2.put (s2.free hp3)) (by rw[ah,F8]) (by rw[F3];omega)⟩
  subst hR;refine bZ fun T1 R h1 hR=>?_;ac_rfl;refine aI (fun _=>?_) (fun _=>?_)
  ·subst h1;ac_rfl;refine⟨_,ha,fun p1 hp1=>?_⟩;obtain⟨M1,e1,l1,_⟩:=cf sdV L none (some i);rw[e1];refine⟨_,(ak (ar ha hp1)).trans ha,fun p2 hp2=>?_⟩;obtain⟨M2,e2,l2,_⟩:=cf sdV L (some (i+1)) none;rw[e2];have n12:p1≠p2:=fun e=>by subst e;rw[ah]at hp2;cases hp2
   have s1:=(Sub.refl H).put (o:=.lst (M1.map sdV)) hp1;have s2:=s1.put (o:=.lst (M2.map sdV)) (s1.free hp2);refine⟨_,_,(ak n12).trans ah,rfl,ai (by simp only[F0];omega),fun p3 hp3=>?_⟩;exact⟨_,Sub.refl _,h p3 _ (M1++M2) (s2.put (s2.free hp3)) (by rw[ah,F8]) (by rw[F3];omega)⟩
  subst hR;refine bZ fun T1 R h1 hR=>?_;ac_rfl;refine aI (fun _=>?_) (fun _=>?_)
  ·subst h1;ac_rfl;refine⟨cQ (by decide) (by decide),by omega,cQ (by decide) (by decide),by decide,ai (by decide),ai (by decide),fun p2 hp2=>?_⟩;generalize (u.fdiv 60).fmod c=x;generalize ((u.fdiv 600).fmod 2==1)=y;have s2:=(Sub.refl H).put (o:=.lst [PV.tup [.int x,.bl y]]) hp2;refine⟨_,_,(ak (ar ha hp2)).trans ha,rfl,ai (by simp only[F0,Gr];omega),fun p3 hp3=>?_⟩;exact⟨_,Sub.refl _,h p3 _ (L++[(x,y)]) (s2.put (s2.free hp3)) (by rw[ah,F8];rfl) (by rw[F3,Gr];omega)⟩
  subst hR;refine bZ fun T1 R h1 hR=>?_;ac_rfl;refine aI (fun _=>?_) (fun _=>?_)
  ·subst h1;ac_rfl;have cp:tV 10 20:=⟨by decide,by decide,by decide⟩;refine⟨cQ (by decide) (by decide),cp,ny,cQ (by decide) (by decide),cp,ny,ai (by decide),fun p1 hp1=>⟨cQ (by decide) (by decide),by decide,?_⟩⟩;obtain⟨x,ex⟩:=at2 (a:=-1 - (u.fdiv 60).fmod (10 ^ Int.toNat 20)) (b:=c+(u.fdiv 60).fmod (10 ^ Int.toNat 20)) (fm (a:=u.fdiv 6) (b:=2) (by decide));rw[ex];generalize [PV.int (-1 - (u.fdiv 60).fmod (10 ^ Int.toNat 20)),PV.int (c+(u.fdiv 60).fmod (10 ^ Int.toNat 20))]=two;have s1:=(Sub.refl H).put (o:=.lst two) hp1;have ha1:put H p1 (.lst two) a=some (.lst (L.map sdV)):=(ak (ar ha hp1)).trans ha;generalize put H p1 (.lst two)=H1 at *;refine⟨ai (by decide),ai (by decide),fun p2 hp2=>?_⟩;have s2:=s1.put (o:=.lst [PV.tup [.int x,.bl false]]) (s1.free hp2);refine⟨_,_,(ak (ar ha1 hp2)).trans ha1,rfl,ai (by simp only[F0,Gr];omega),fun p3 hp3=>?_⟩;exact⟨_,Sub.refl _,h p3 _ (L++[(x,false)]) (s2.put (s2.free hp3)) (by rw[ah,F8];rfl) (by rw[F3,Gr];omega)⟩
  subst hR;ac_rfl;refine⟨_,ha,fun acc hacc=>?_⟩;refine aB (fun y=>y) kT2 (fun σ=>∃z,σ=[z]) (by rw[F0];omega) (fun _=>(ak (ar ha hacc)).trans ha) ?_ ?_ ⟨_,rfl⟩
  ·rintro y hy l σ R' ⟨z,rfl⟩ hl' kT kF;obtain⟨s,hs,rfl⟩:=F4.mp hy;have ek:kT2 (sdV s)=s.2:=rfl;rw[ek]at kT kF;unfold sdV at kT ⊢;ac_rfl;exact aI (fun q=>⟨hl',by rw[aE];exact kT q _ ⟨_,rfl⟩⟩) (fun q=>kF q _ ⟨_,rfl⟩)
  obtain⟨M1,e1,l1⟩:=jk L;rw[e1];ac_rfl;refine⟨_,(ak (ar ha hacc)).trans ha,fun p2 hp2=>?_⟩;obtain⟨M2,e2,l2,_⟩:=cf sdV L none (some i);rw[e2];have n12:acc≠p2:=fun e=>by subst e;rw[ah]at hp2;cases hp2
  have s1:=(Sub.refl H).put (o:=.lst (M1.map sdV)) hacc;have s2:=s1.put (o:=.lst (M2.map sdV)) (s1.free hp2);refine⟨_,_,(ak n12).trans ah,rfl,ai (by simp only[F0];omega),fun p3 hp3=>?_⟩;exact⟨_,Sub.refl _,h p3 _ (M1++M2) (s2.put (s2.free hp3)) (by rw[ah,F8]) (by rw[F3];omega)⟩
 ·exact h.elim
theorem FV(T:Tx K mg t):aK P w K mg base CX0 1 t.a_zi t.d_zi ["_law_drawn","_law_name","_law_cell","_law_given"] gK:=by
 refine okU (k:=0) T.F_zi kc (fun vs H Q E h=>by
  unfold gK at h;split at h
  ·rfl
  ·exact h.elim) (fun cdv A outer s H E B hr=>⟨_,(af (sN 4 kc.nd (bu (aa (qv 1) ag)))
  (af (b7 GF rfl (cw rfl T.b_range (aa ae ag)) (gN 5 kc.nd)
  (af (sC 6 kc.nd (N2:=A8) (nt:=2) (js:=[4]) (ck (sc:=aq u5)) (aM (iX (qv 0) ae)) (fun _ _ _ _=>⟨(bJ (n:=2) rfl (aA (gN 0 CB) (aA (gN 1 CB) br))),(bH (cN rb pU (qv 0) (iX (qv 2) (bO ae)))),(qv 1)⟩))
   (af (aF (aP (bx (cW (bL hr.units) bw (iX (qv 4) (bO ae)) (qv 3)) (bB (cN rb pU (au av aO rfl T.b_len Gn (aa (qv 6) ag)) ae))))
   (aj (ay (qv 4)))
   ax)
   (af (bj (df GY GZ bY cx (qv 4) (aa (iX (qv 6) (aL (qv 2) (au av aO rfl T.b_len Gn (aa (qv 6) ag)))) ag)))
   (aj (sN 2 kc.nd (a9 (qv 2) ae)))))))
  (aj (ay (qv 4))))),?_⟩)
 intro vs H Q E h;unfold gK at h;split at h
 ·rename_i l n u k;obtain⟨c,ts,bs,G,e,ok,rfl,h⟩:=h;unfold shp at e;injection e with e;subst e;have t15:=ok.gt.len ok.c6;left;refine⟨ai (by decide),fun p hp=>?_⟩;have s0:=(Sub.refl H).put (o:=.lst [PV.int n]) hp;have e0:put H p (.lst [PV.int n]) p=some (.lst (([n]:List Int).map PV.int)):=ah;generalize put H p (.lst [PV.int n])=H0 at *;right;refine⟨⟨by decide,by decide⟩,?_⟩;refine dN (fun i σ H2=>∃z1 z2 v w,σ=[some (.tup [.int c,.tup (ts.map prV),.tup (bs.map prV)]),some (.int n),some (.int v),some (.tup (G.map PV.int)),some (.ref p),z1,z2]/\U.Sub H H2/\H2 p=some (.lst (w.map PV.int))/\w≠[]/\w.length≤1+i) ?_ ?_ ⟨none,none,u,[n],rfl,s0,e0,by simp,F9 _⟩
  ·rintro σ H2 ⟨z1,z2,v,w,rfl,s2,e2,ne,lw⟩;have lw:w.length≤1+5:=lw;refine⟨trivial,?_⟩;subst hR;ac_rfl;exact⟨H2,Sub.refl _,h p H2 w hp s2 e2 ne (by omega)⟩
  ·rintro N i σ H2 hi ⟨z1,z2,v,w,rfl,s2,e2,ne,lw⟩ kk;have hi:i<5:=hi;refine⟨trivial,?_⟩;refine ao fun R1 hR1=>?_;ac_rfl;show ∀acc,H2 acc=none->_;intro acc hacc;refine aB g1 (at0 (lsI w)) (fun σ=>∃z z2,σ=[z,z2,some (.ref p)]) (by rw[F0];omega) (fun _=>trivial) ?_ ?_ ⟨_,_,rfl⟩
   ·rintro y hy l σ R' ⟨z,z2,rfl⟩ hl kT kF;obtain⟨pr,hp,rfl⟩:=F4.mp hy;have eo:at0 (lsI w) (prV pr)=decide (pr.1=lsI w):=rfl;rw[eo]at kT kF;unfold prV at kT ⊢;ac_rfl;refine⟨_,(ak (ar e2 hacc)).trans e2,?_⟩;rw[nP ne];ac_rfl;refine aI (fun q=>?_) (fun q=>?_)
    ·exact⟨hl,by rw[aE];exact kT (by simpa using q) _ ⟨_,_,rfl⟩⟩
    ·exact kF (by simpa using q) _ ⟨_,_,rfl⟩
   have fl:((ts.map prV).filter (at0 (lsI w))).map g1=(fol ts (lsI w)).map PV.int:=dm;rw[fl];have lf:=eG ok.gt ok.c6 (lsI w);generalize fol ts (lsI w)=F at *;have s3:=s2.put (o:=.lst (F.map PV.int)) (s2.free hacc);have e3:put H2 acc (.lst (F.map PV.int)) acc=some (.lst (F.map PV.int)):=ah;have e4:put H2 acc (.lst (F.map PV.int)) p=some (.lst (w.map PV.int)):=(ak (ar e2 hacc)).trans e2;generalize put H2 acc (.lst (F.map PV.int))=H3 at *;have out:∃H4,U.Sub H4 H3/\Q (.ref p) H4:=⟨H3,Sub.refl _,h p H3 w hp s3 e4 ne (by omega)⟩;subst hR1;refine ao fun R1 hR1=>?_;ac_rfl;refine⟨_,e4,?_⟩;rw[nP ne];ac_rfl;refine⟨aJ,?_⟩;rw[a8];by_cases g:lsI w∈G
   ·exact az (by simp[g]) out
   refine aw (by simp[g]) ⟨_,e3,?_⟩;rw[F0];by_cases fe:F=[]
   ·exact az (by rw[fe];rfl) out
   refine aw (by simpa using fe) ?_;have lp:0<F.length:=Ia.mpr fe;subst hR1;refine ao fun R1 hR1=>?_;ac_rfl;refine⟨⟨_,e4⟩,_,e3,?_⟩;rw[F0];refine⟨by omega,_,e3,?_⟩;have hf:=fm (a:=v) (b:=(F.length:Int)) (by omega);generalize v.fmod (F.length:Int)=y at *;obtain⟨m,rfl⟩:∃m:Nat,y=(m:Int):=⟨y.toNat,by omega⟩;rw[cn (by rw[F0];omega),HW];ac_rfl;refine⟨_,e4,bA (by rw[F0];omega),?_⟩;generalize F[m]=x;have s5:=s3.put (o:=.lst (w.map PV.int++[.int x])) hp;have e5:put H3 p (.lst (w.map PV.int++[.int x])) p=some (.lst ((w++[x]).map PV.int)):=by rw[ah,F8];rfl
   generalize put H3 p (.lst (w.map PV.int++[.int x]))=H5 at *;subst hR1;ac_rfl;exact⟨cQ (by decide) (by decide),kk _ _ ⟨_,_,_,w++[x],rfl,s5,e5,by simp,by rw[F3,Gr];omega⟩⟩
 ·exact h.elim
theorem Fc(T:Tx K mg t):aK P w K mg base CX0 2 t.a_zh t.d_zh ["_law_drawn","_law_start","_law_cell","_law_last"] fy:=by
 refine okU (k:=1) T.F_zh iC (fun vs H Q E h=>by
  unfold fy at h;split at h
  ·rfl
  ·exact h.elim) (fun cdv A outer s H E B hr=>⟨_,(af (sN 4 iC.nd (bu ag))
  (af (sN 5 iC.nd (qv 1))
  (af (b7 GF rfl (cw rfl T.b_range (aa (bE ae (aL (qv 2) ae)) ag)) (gN 6 iC.nd)
  (af (sN 2 iC.nd (a9 (qv 2) ae))
   (af (sN 7 iC.nd (aC (ER T) hr.mo rfl T.g_zB T.F_zB.kp T.B_zB (aa (qv 0) (aa (qv 5) (aa (qv 2) ag)))))
   (aj (aF (cN uc uz (qv 7) jv)
   (af (bj (df GY GZ bY cx (qv 4) (aa (qv 7) ag)))
    (af (sN 5 iC.nd (iX (qv 7) ae))
    (aj (aF (cW (bL hr.units) bw (qv 5) (qv 3))
    (aj (ay (qv 4)))
    ax))))
   ax)))))
  (aj (ay (qv 4)))))),?_⟩)
 intro vs H Q E h;unfold fy at h;split at h
 ·rename_i l n u k;obtain⟨c,ts,bs,B,e,ok,rfl,h⟩:=h;unfold shp at e;injection e with e;subst e;left;refine⟨ai (by decide),fun p hp=>?_⟩;have s0:=(Sub.refl H).put (o:=.lst []) hp;have e0:put H p (.lst []) p=some (.lst (([]:List Sp3).map stV)):=ah;generalize put H p (.lst [])=H0 at *;right;right;have hf:=fm (a:=u) (b:=4) (by decide);refine⟨by decide,⟨by omega,by omega⟩,?_⟩;have hk:(1+u.fmod 4).toNat≤4:=by omega
  generalize (1+u.fmod 4).toNat=m at *;refine dN (fun i σ H2=>∃z1 z2 x v road,σ=[some (.tup [.int c,.tup (ts.map prV),.tup (bs.map prV)]),some (.int n),some (.int v),some (.tup (B.map PV.int)),some (.ref p),some (.int x),z1,z2]/\U.Sub H H2/\H2 p=some (.lst (road.map stV))/\road.length≤i) ?_ ?_ ⟨none,none,n,u,[],rfl,s0,e0,F9 _⟩
  ·rintro σ H2 ⟨z1,z2,x,v,road,rfl,s2,e2,lr⟩;refine⟨trivial,?_⟩;subst hR;ac_rfl;exact⟨H2,Sub.refl _,h p H2 road s2 e2 (by omega)⟩
  ·rintro N i σ H2 hi ⟨z1,z2,x,v,road,rfl,s2,e2,lr⟩ kk;refine⟨trivial,?_⟩;refine ao fun R1 hR1=>?_;ac_rfl;refine⟨cQ (by decide) (by decide),?_⟩;generalize v.fdiv 8=v2;subst hR1;refine ao fun R1 hR1=>?_;ac_rfl;refine⟨c,ts,bs,rfl,ok,?_,fun s=>?_⟩
   ·subst hR1;ac_rfl;exact kk _ _ ⟨_,_,x,v2,road,rfl,s2,e2,by omega⟩
   ·subst hR1;have u0:stV s=PV.tup [.int s.1,.str s.2.1,.int s.2.2]:=rfl;rw[u0];ac_rfl;refine⟨⟨_,e2⟩,_,e2,bA (by rw[F0];omega),aJ,?_⟩;rw[a8];have s3:=s2.put (o:=.lst (road.map stV++[PV.tup [.int s.1,.str s.2.1,.int s.2.2]])) hp;have e3:put H2 p (.lst (road.map stV++[PV.tup [.int s.1,.str s.2.1,.int s.2.2]])) p=some (.lst ((road++[s]).map stV)):=by rw[ah,F8];rfl
    generalize put H2 p (.lst (road.map stV++[PV.tup [.int s.1,.str s.2.1,.int s.2.2]]))=H3 at *;refine aI (fun _=>⟨H3,Sub.refl _,h p H3 (road++[s]) s3 e3 (by rw[F3,Gr];omega)⟩) (fun _=>kk _ _ ⟨_,_,_,v2,road++[s],rfl,s3,e3,by rw[F3,Gr];omega⟩)
 ·exact h.elim
theorem D0(T:Tx K mg t):aK P w K mg base CX0 1 t.a_zk t.d_zk ["_law_road","_law_cell","_law_many"] fJ:=by
 refine okU (k:=0) T.F_zk i8 (fun vs H Q E h=>by
  unfold fJ at h;split at h
  ·rfl
  ·exact h.elim) (fun cdv A outer s H E B hr=>⟨_,(af (aF (aP (bx (cN (cg hr.units) aH (aL (qv 1) ae) ae) (bB (cN (aG hr.units) aH (au av aO rfl T.b_len Gn (aa (qv 0) ag)) ae))))
  (aj (ay (qv 0)))
  ax)
  (af (sN 3 i8.nd (aL (a9 (qv 1) ae) (au av aO rfl T.b_len Gn (aa (qv 0) ag))))
  (af (e8 (iX (qv 0) (qv 3)) (bJ (n:=3) rfl (aA (gN 4 i8.nd) (aA (gN 5 i8.nd) (aA (gN 6 i8.nd) br)))))
  (af (sN 5 i8.nd (iX (bu (aa bT (aa bT (aa bT (aa bT (aa (qv 5) ag)))))) (aL (a9 (qv 1) ae) ae)))
  (aj (ay (bz (bz (aN (qv 0) aT (aU (qv 3))) (bu (aa (bg (aa (qv 4) (aa (qv 5) (aa (iX (bu (aa (qv 6) (aa (qv 2) (aa (bO ae) ag)))) (aL (a9 (qv 1) ae) ae)) ag)))) ag))) (aN (qv 0) (aU (bE (qv 3) ae)) aT)))))))),?_⟩)
 intro vs H Q E h;unfold fJ at h;split at h
 ·rename_i a u c;obtain⟨road,ha,hl,h⟩:=h;left;refine⟨by decide,?_⟩;have out:∃H3,U.Sub H3 H/\Q (.ref a) H3:=⟨H,Sub.refl _,h a H road (Sub.refl _) ha (by omega)⟩;refine aI (fun _=>out) (fun _=>⟨_,ha,?_⟩);rw[F0];by_cases ne:road=[]
  ·exact az (by rw[ne];rfl) out
  refine aw (by simpa using ne) ?_;have lp:0<road.length:=Ia.mpr ne;right;refine⟨cQ (by decide) (by decide),_,ha,?_⟩;rw[F0];refine⟨by omega,?_⟩;have hf:=fm (a:=u.fdiv 5) (b:=(road.length:Int)) (by omega);generalize (u.fdiv 5).fmod (road.length:Int)=i at *;obtain⟨j,rfl⟩:∃j:Nat,i=(j:Int):=⟨i.toNat,by omega⟩;have at1:atI (road.map stV) ((j:Nat):Int)=some (stV road[j]):=by rw[cn (by rw[F0];omega),HW]
  generalize road[j]=s at *;right;refine⟨_,ha,?_⟩;rw[at1];have u0:stV s=PV.tup [.int s.1,.str s.2.1,.int s.2.2]:=rfl;rw[u0];ac_rfl;right;refine⟨ai (by decide),fun p1 hp1=>⟨cQ (by decide) (by decide),by decide,?_⟩⟩;obtain⟨k,ek⟩:=FN (a:="down") (b:="up") (c:="bow") (d:="over") (e:=s.2.1) (fm (a:=u.fdiv 60) (b:=5) (by decide));rw[ek];generalize [PV.str "down",PV.str "up",PV.str "bow",PV.str "over",PV.str s.2.1]=five;have s1:=(Sub.refl H).put (o:=.lst five) hp1;have ha1:put H p1 (.lst five) a=some (.lst (road.map stV)):=(ak (ar ha hp1)).trans ha;show R _ _ (put H p1 (.lst five));generalize put H p1 (.lst five)=H1 at *;subst hR;ac_rfl;obtain⟨M1,e1,l1,_⟩:=cf stV road none (some ((j:Nat):Int));obtain⟨M2,e2,l2,_⟩:=cf stV road (some (((j:Nat):Int)+1)) none;refine⟨_,ha1,fun p2 hp2=>?_⟩;rw[e1];have s2:=s1.put (o:=.lst (M1.map stV)) (s1.free hp2);have b2:put H1 p2 (.lst (M1.map stV)) p2=some (.lst (M1.map stV)):=ah;have a2:=(ak (ar ha1 hp2) (o:=.lst (M1.map stV))).trans ha1;generalize put H1 p2 (.lst (M1.map stV))=H2 at *;refine⟨ai (by decide),fun p3 hp3=>⟨cQ (by decide) (by decide),by decide,?_⟩⟩;obtain⟨y,ey⟩:=EL (a:=s.2.2) (b:=c) (c:=-1) (fm (a:=u.fdiv 300) (b:=3) (by decide));rw[ey];generalize [PV.int s.2.2,PV.int c,PV.int (-1)]=three;have s3:=s2.put (o:=.lst three) (s2.free hp3);have b3:=(ak (ar b2 hp3) (o:=.lst three)).trans b2;have a3:=(ak (ar a2 hp3) (o:=.lst three)).trans a2;generalize put H2 p3 (.lst three)=H3 at *;refine⟨ai (by decide),ai (by decide),fun p4 hp4=>?_⟩;have s4:=s3.put (o:=.lst [PV.tup [.int s.1,.str k,.int y]]) (s3.free hp4);have b4:=(ak (ar b3 hp4) (o:=.lst [PV.tup [.int s.1,.str k,.int y]])).trans b3;have a4:=(ak (ar a3 hp4) (o:=.lst [PV.tup [.int s.1,.str k,.int y]])).trans a3;generalize put H3 p4 (.lst [PV.tup [.int s.1,.str k,.int y]])=H4 at *;refine⟨_,_,b4,rfl,ai (by simp only[F0,Gr];omega),fun p5 hp5=>?_⟩;have s5:=s4.put (o:=.lst (M1.map stV++[PV.tup [.int s.1,.str k,.int y]])) (s4.free hp5);have b5:put H4 p5 (.lst (M1.map stV++[PV.tup [.int s.1,.str k,.int y]])) p5=some (.lst (M1.map stV++[PV.tup [.int s.1,.str k,.int y]])):=ah;have a5:=(ak (ar a4 hp5) (o:=.lst (M1.map stV++[PV.tup [.int s.1,.str k,.int y]]))).trans a4;generalize put H4 p5 (.lst (M1.map stV++[PV.tup [.int s.1,.str k,.int y]]))=H5 at *;refine⟨_,a5,fun p6 hp6=>?_⟩;rw[e2];have s6:=s5.put (o:=.lst (M2.map stV)) (s5.free hp6);refine⟨_,_,(ak (ar b5 hp6)).trans b5,rfl,ai (by simp only[F0,F3,Gr];omega),fun p7 hp7=>?_⟩;exact⟨_,Sub.refl _,h p7 _ (M1++[(s.1,k,y)]++M2) (s6.put (s6.free hp7)) (by rw[ah,F8,F8];rfl) (by rw[F3,F3,Gr];omega)⟩
 ·exact h.elim
theorem Dh(T:Tx K mg t):aK P w K mg base CX0 1 t.a_zn t.d_zn ["_law_ways","_law_cell","_law_many"] fG:=by
 refine okU (k:=0) T.F_zn fI (fun vs H Q E h=>by
  unfold fG at h;split at h
  ·rfl
  ·exact h.elim) (fun cdv A outer s H E B hr=>⟨_,(af (sN 3 fI.nd (iX (bu (aa (aL (a9 (qv 1) ae) (qv 2)) (aa (jq (bO ae) (aL (a9 (qv 1) ae) (ju ae ae))) (aa (bE (qv 2) (aL (a9 (qv 1) ae) (ju ae ae))) (aa ae ag))))) (aL (a9 (qv 1) ae) ae)))
  (af (aF (cN (aG hr.units) aH (aL (qv 1) ae) ae)
  (aj (ay (bz (aN (qv 0) (aU ae) aT) (zF (bu (aa (bu (aa (qv 3) ag)) ag)) (aL (a9 (qv 1) ae) ae)))))
  ax)
  (af (aF (aP (bx (cN iW i4 (aL (qv 1) ae) ae) (bB (cN (aG hr.units) aH (au av aO rfl T.b_len Gn (aa (qv 0) ag)) ae))))
  (aj (ay (qv 0)))
  ax)
  (af (sN 4 fI.nd (aL (a9 (qv 1) ae) (au av aO rfl T.b_len Gn (aa (qv 0) ag))))
  (af (sN 5 fI.nd (iX (qv 0) (qv 4)))
  (af (sN 6 fI.nd (aL (a9 (qv 1) ae) (au av aO rfl T.b_len Gn (aa (qv 5) ag))))
  (af (aF (cN (aG hr.units) aH (aL (qv 1) ae) ae)
  (aj (sN 5 fI.nd (bz (aN (qv 5) aT (aU (qv 6))) (aN (qv 5) (aU (bE (qv 6) ae)) aT))))
  ax)
  (af (aF (cN (aG hr.units) aH (aL (qv 1) ae) ae)
  (aj (sN 5 fI.nd (bz (bz (aN (qv 5) aT (aU (qv 6))) (bu (aa (qv 3) ag))) (aN (qv 5) (aU (bE (qv 6) ae)) aT))))
  ax)
  (af (aF (cN (aG hr.units) aH (aL (qv 1) ae) ae)
  (aj (sN 5 fI.nd (bz (qv 5) (bu (aa (qv 3) ag)))))
  ax)
  (af (aF (cN (aG hr.units) aH (aL (qv 1) ae) ae)
  (aj (sN 5 fI.nd (bu ag)))
  ax)
  (aj (ay (bz (bz (aN (qv 0) aT (aU (qv 4))) (bu (aa (qv 5) ag))) (aN (qv 0) (aU (bE (qv 4) ae)) aT)))))))))))))),?_⟩)
 intro vs H Q E h;unfold fG at h;split at h
 ·rename_i q u c;obtain⟨us,ws,⟨c1,c6⟩,hq,ls,wl,w10,h⟩:=h;have cp:tV 10 20:=⟨by decide,by decide,by decide⟩;left;refine⟨cQ (by decide) (by decide),by omega,cQ (by decide) (by decide),cp,ny,cQ (by decide) (by decide),cp,ny,ai (by decide),fun p1 hp1=>⟨cQ (by decide) (by decide),by decide,?_⟩⟩;obtain⟨x,ex⟩:=Dd (a:=(u.fdiv 50).fmod c) (b:=-1 - (u.fdiv 50).fmod (10 ^ Int.toNat 20)) (c:=c+(u.fdiv 50).fmod (10 ^ Int.toNat 20)) (d:=0) (fm (a:=u.fdiv 10) (b:=4) (by decide));rw[ex];generalize [PV.int ((u.fdiv 50).fmod c),PV.int (-1 - (u.fdiv 50).fmod (10 ^ Int.toNat 20)),PV.int (c+(u.fdiv 50).fmod (10 ^ Int.toNat 20)),PV.int 0]=four;have s1:=(Sub.refl H).put (o:=.lst four) hp1;show R _ _ (put H p1 (.lst four));generalize put H p1 (.lst four)=H1 at *;have hq1:=s1 _ _ hq;have ls1:=ls.up s1;have lu:us.length=ws.length:=by have:=ls.len;simpa[inV]using this
  subst hR;refine bZ fun T1 R h1 hR=>?_;ac_rfl;refine⟨by decide,?_⟩;refine aI (fun _=>?_) (fun _=>?_)
  ·subst h1;ac_rfl;refine⟨_,hq1,fun a1 ha1=>?_⟩;have ec:b9 us (some 1) none=us.drop 1:=kL us 1;rw[ec];have t1:=(Sub.refl H1).put (o:=.lst (us.drop 1)) ha1;have b1:put H1 a1 (.lst (us.drop 1)) a1=some (.lst (us.drop 1)):=ah;generalize put H1 a1 (.lst (us.drop 1))=G1 at *;refine⟨ai (by decide),fun a2 ha2=>?_⟩;have t2:=t1.put (o:=.lst [PV.int x]) (t1.free ha2);have b2:=(ak (ar b1 ha2) (o:=.lst [PV.int x])).trans b1;have c2:put G1 a2 (.lst [PV.int x]) a2=some (.lst [PV.int x]):=ah;generalize put G1 a2 (.lst [PV.int x])=G2 at *;refine⟨ai (by decide),fun a3 ha3=>?_⟩;have hf:=fm (a:=u.fdiv 10) (b:=2) (by decide);generalize (u.fdiv 10).fmod 2=y at *;have t3:=t2.put (o:=.lst [PV.ref a2]) (t2.free ha3);have b3:=(ak (ar b2 ha3) (o:=.lst [PV.ref a2])).trans b2;have c3:=(ak (ar c2 ha3) (o:=.lst [PV.ref a2])).trans c2;generalize put G2 a3 (.lst [PV.ref a2])=G3 at *;refine⟨cQ (by decide) (by decide),by decide,⟨by omega,by omega⟩,by decide,fun a4 ha4=>?_⟩;obtain⟨vs,xs,ev,lv,pv⟩:∃vs xs,(List.replicate y.toNat [PV.ref a2]).flatten=vs/\xs.length≤1/\((vs=[]/\xs=[])∨(vs=[PV.ref a2]/\xs=[[x]])):=by
    have:y=0∨y=1:=by omega
    rcases this with rfl | rfl
    ·exact⟨[],[],rfl,by simp,.inl ⟨rfl,rfl⟩⟩
    ·exact⟨[PV.ref a2],[[x]],rfl,by simp,.inr ⟨rfl,rfl⟩⟩
   rw[ev];have t4:=t3.put (o:=.lst vs) (t3.free ha4);have b4:=(ak (ar b3 ha4) (o:=.lst vs)).trans b3;have c4:=(ak (ar c3 ha4) (o:=.lst vs)).trans c3;have vl:vs.length≤1:=by rcases pv with⟨rfl,_⟩ |⟨rfl,_⟩<;>simp
   generalize put G3 a4 (.lst vs)=G4 at *;refine⟨_,_,b4,rfl,ai (by rw[Hm];omega),fun a5 ha5=>?_⟩;have t5:=t4.put (o:=.lst (us.drop 1++vs)) (t4.free ha5);have c5:=(ak (ar c4 ha5) (o:=.lst (us.drop 1++vs))).trans c4;have b5:put G4 a5 (.lst (us.drop 1++vs)) a5=some (.lst (us.drop 1++vs)):=ah;have n25:a2≠a5:=ar c4 ha5;have h15:=t4.free ha5;generalize put G4 a5 (.lst (us.drop 1++vs))=G5 at *;refine⟨_,Sub.refl _,h a5 G5 _ (ws.drop 1++xs) (s1.trans t5) b5 ?_ (by rw[F3,Hm];omega) (fun w hw=>?_)⟩
   ·have d1:bK H1 q (us.drop 1) ((inV ws).drop 1):=jT 1 ls1;have d2:=d1.mv t5 h15;have e1:inV (ws.drop 1++xs)=(inV ws).drop 1++inV xs:=by unfold inV;rw[F8,List.map_drop]
    rw[e1];refine iu d2 ?_;rcases pv with⟨rfl,rfl⟩ |⟨rfl,rfl⟩
    ·exact .nil
    ·exact .cons ⟨a2,rfl,n25,c5⟩ .nil
   ·rcases Gf.mp hw with z | z
    ·have:=w10 w (List.mem_of_mem_drop z);omega
    ·rcases pv with⟨_,rfl⟩ |⟨_,rfl⟩
     ·cases z
     ·rw[Gk.mp z];simp
  subst hR;have out:∃H3,U.Sub H3 H1/\Q (.ref q) H3:=⟨H1,Sub.refl _,h q H1 us ws s1 hq1 ls1 (by omega) (fun w hw=>by have:=w10 w hw;omega)⟩;refine bZ fun T1 R h1 hR=>?_;ac_rfl;refine⟨by decide,?_⟩;refine aI (fun _=>by subst h1;ac_rfl;exact out) (fun _=>?_);refine⟨_,hq1,?_⟩;by_cases ne:us=[]
  ·refine az (by rw[ne];rfl) ?_;subst h1;ac_rfl;exact out
  refine aw (by simpa using ne) ?_;have lp:0<us.length:=Ia.mpr ne;right;refine⟨cQ (by decide) (by decide),_,hq1,by omega,?_⟩;have hf:=fm (a:=u.fdiv 13) (b:=(us.length:Int)) (by omega);generalize (u.fdiv 13).fmod (us.length:Int)=jj at *;obtain⟨j,rfl⟩:∃j:Nat,jj=(j:Int):=⟨jj.toNat,by omega⟩;have jl:j<us.length:=by omega
  obtain⟨l0,v0,hl0,ev0,nv0,hv0⟩:=ls1.at (i:=j) (F2 jl);have hw0:(ws.map fun w=>w.map PV.int)[j]?=some l0:=hl0;rw[Gs,F2 (by omega)]at hw0;have jw:j<ws.length:=by omega
  obtain⟨w0,hw,rfl⟩:∃w0,w0∈ws/\w0.map PV.int=l0:=⟨ws[j],Gz jw,by simpa using hw0⟩;have w11:=w10 w0 hw;right;refine⟨_,hq1,?_⟩;rw[cn jl,ev0];ac_rfl;right;refine⟨cQ (by decide) (by decide),_,hv0,?_⟩;rw[F0];have lw0:=Ia.mpr w11.2;refine⟨by omega,?_⟩;generalize (u.fdiv 17).fmod (w0.length:Int)=i;subst hR;have z0:=Sub.refl H1;have m0:w0.length≤10:=w11.1;have g0:=hv0;refine ao fun R hR=>?_;have key:∀(v1:Addr) (w1:List Int) (G1:PHp),U.Sub H1 G1->G1 v1=some (.lst (w1.map PV.int))->w1.length≤20->R { nx:=fun _ H=>∃H3,U.Sub H3 H/\Q .non H3,rt:=fun v H=>∃H3,U.Sub H3 H/\Q v H3 } [some (.ref q),some (.int u),some (.int c),some (.int x),some (.int (j:Nat)),some (.ref v1),some (.int i)] G1:=fun v1 w1 G1 z1 g1 m1=>by
   subst hR;refine ao fun R hR=>?_;have key:∀(v2:Addr) (w2:List Int) (G2:PHp),U.Sub H1 G2->G2 v2=some (.lst (w2.map PV.int))->w2.length≤41->R { nx:=fun _ H=>∃H3,U.Sub H3 H/\Q .non H3,rt:=fun v H=>∃H3,U.Sub H3 H/\Q v H3 } [some (.ref q),some (.int u),some (.int c),some (.int x),some (.int (j:Nat)),some (.ref v2),some (.int i)] G2:=fun v2 w2 G2 z2 g2 m2=>by
    subst hR;refine ao fun R hR=>?_;have key:∀(v3:Addr) (w3:List Int) (G3:PHp),U.Sub H1 G3->G3 v3=some (.lst (w3.map PV.int))->w3.length≤42->R { nx:=fun _ H=>∃H3,U.Sub H3 H/\Q .non H3,rt:=fun v H=>∃H3,U.Sub H3 H/\Q v H3 } [some (.ref q),some (.int u),some (.int c),some (.int x),some (.int (j:Nat)),some (.ref v3),some (.int i)] G3:=fun v3 w3 G3 z3 g3 m3=>by
     subst hR;refine ao fun R hR=>?_;have key:∀(v4:Addr) (w4:List Int) (G4:PHp),U.Sub H1 G4->G4 v4=some (.lst (w4.map PV.int))->w4.length≤42->R { nx:=fun _ H=>∃H3,U.Sub H3 H/\Q .non H3,rt:=fun v H=>∃H3,U.Sub H3 H/\Q v H3 } [some (.ref q),some (.int u),some (.int c),some (.int x),some (.int (j:Nat)),some (.ref v4),some (.int i)] G4:=fun v4 w4 G4 z4 g4 m4=>by
      subst hR;ac_rfl;have gq:=z4 _ _ hq1;refine⟨_,gq,fun a1 ha1=>?_⟩;have ec:b9 us none (some ((j:Nat):Int))=us.take j:=qF us j;rw[ec];have t1:=z4.put (o:=.lst (us.take j)) (z4.free ha1);have b1:put G4 a1 (.lst (us.take j)) a1=some (.lst (us.take j)):=ah;have gv1:=(ak (ar g4 ha1) (o:=.lst (us.take j))).trans g4;generalize put G4 a1 (.lst (us.take j))=K1 at *;refine⟨ai (by decide),fun a2 ha2=>?_⟩;have t2:=t1.put (o:=.lst [PV.ref v4]) (t1.free ha2);have b2:=(ak (ar b1 ha2) (o:=.lst [PV.ref v4])).trans b1;have gv2:=(ak (ar gv1 ha2) (o:=.lst [PV.ref v4])).trans gv1;generalize put K1 a2 (.lst [PV.ref v4])=K2 at *;refine⟨_,_,b2,rfl,ai (by rw[GN,Gr];omega),fun a3 ha3=>?_⟩;have t3:=t2.put (o:=.lst (us.take j++[PV.ref v4])) (t2.free ha3);have b3:put K2 a3 (.lst (us.take j++[PV.ref v4])) a3=some (.lst (us.take j++[PV.ref v4])):=ah;have gv3:=(ak (ar gv2 ha3) (o:=.lst (us.take j++[PV.ref v4]))).trans gv2;generalize put K2 a3 (.lst (us.take j++[PV.ref v4]))=K3 at *;refine⟨_,t3 _ _ hq1,fun a4 ha4=>?_⟩;have ec2:b9 us (some (((j:Nat):Int)+1)) none=us.drop (j+1):=by have:=kL us (j+1);exact this
      rw[ec2];have t4:=t3.put (o:=.lst (us.drop (j+1))) (t3.free ha4);have b4:=(ak (ar b3 ha4) (o:=.lst (us.drop (j+1)))).trans b3;have gv4:=(ak (ar gv3 ha4) (o:=.lst (us.drop (j+1)))).trans gv3;generalize put K3 a4 (.lst (us.drop (j+1)))=K4 at *;refine⟨_,_,b4,rfl,ai (by rw[F3,GN,Gr,Hm];omega),fun a5 ha5=>?_⟩;have t5:=t4.put (o:=.lst (us.take j++[PV.ref v4]++us.drop (j+1))) (t4.free ha5);have b5:put K4 a5 (.lst (us.take j++[PV.ref v4]++us.drop (j+1))) a5=some (.lst (us.take j++[PV.ref v4]++us.drop (j+1))):=ah;have gv5:=(ak (ar gv4 ha5) (o:=.lst (us.take j++[PV.ref v4]++us.drop (j+1)))).trans gv4;have n5:v4≠a5:=ar gv4 ha5;have h5:=t4.free ha5;generalize put K4 a5 (.lst (us.take j++[PV.ref v4]++us.drop (j+1)))=K5 at *;refine⟨_,Sub.refl _,h a5 K5 _ (ws.take j++[w4]++ws.drop (j+1)) (s1.trans t5) b5 ?_ (by rw[F3,F3,GN,Gr,Hm];omega) (fun w hw=>?_)⟩
      ·have d1:bK H1 q (us.take j) ((inV ws).take j):=nY j ls1;have d2:bK H1 q (us.drop (j+1)) ((inV ws).drop (j+1)):=jT (j+1) ls1;have e1:inV (ws.take j++[w4]++ws.drop (j+1))=(inV ws).take j++[w4.map PV.int]++(inV ws).drop (j+1):=by unfold inV;rw[F8,F8,List.map_take,List.map_drop];rfl
       rw[e1];exact iu (iu (d1.mv t5 h5) (.cons ⟨v4,rfl,n5,gv5⟩ .nil)) (d2.mv t5 h5)
      ·rcases Gf.mp hw with y | y
       ·rcases Gf.mp y with y | y
        ·have:=w10 w (List.mem_of_mem_take y);omega
        ·rw[Gk.mp y];omega
       ·have:=w10 w (List.mem_of_mem_drop y);omega
     ac_rfl;refine⟨by decide,?_⟩;refine aI (fun _=>?_) (fun _=>key v3 w3 G3 z3 g3 (by omega));refine⟨ai (by decide),fun a1 ha1=>?_⟩;exact key a1 [] _ ((z3).put ((z3).free ha1)) ah (by simp)
    ac_rfl;refine⟨by decide,?_⟩;refine aI (fun _=>?_) (fun _=>key v2 w2 G2 z2 g2 (by omega));refine⟨ai (by decide),fun a1 ha1=>?_⟩;have t1:=(z2).put (o:=.lst [PV.int x]) ((z2).free ha1);refine⟨_,_,(ak (ar g2 ha1)).trans g2,rfl,ai (by simp only[F0,Gr];omega),fun a2 ha2=>?_⟩;exact key a2 (w2++[x]) _ (t1.put (t1.free ha2)) (by rw[ah,F8];rfl) (by rw[F3,Gr];omega)
   ac_rfl;refine⟨by decide,?_⟩;refine aI (fun _=>?_) (fun _=>key v1 w1 G1 z1 g1 (by omega));obtain⟨M1,e1,l1,_⟩:=cf PV.int w1 none (some i);obtain⟨M2,e2,l2,_⟩:=cf PV.int w1 (some (i+1)) none;refine⟨_,g1,fun a1 ha1=>?_⟩;rw[e1];refine⟨ai (by decide),fun a2 ha2=>?_⟩;have n12:a1≠a2:=fun z=>by subst z;rw[ah]at ha2;cases ha2
   have t1:=(z1).put (o:=.lst (M1.map PV.int)) ((z1).free ha1);have t2:=t1.put (o:=.lst [PV.int x]) (t1.free ha2);refine⟨_,_,(ak n12).trans ah,rfl,ai (by simp only[F0,Gr];omega),fun a3 ha3=>?_⟩;have t3:=t2.put (o:=.lst (M1.map PV.int++[PV.int x])) (t2.free ha3);have vv1:put G1 a1 (.lst (M1.map PV.int)) v1=some (.lst (w1.map PV.int)):=(ak (ar g1 ha1)).trans g1;have vv2:put (put G1 a1 (.lst (M1.map PV.int))) a2 (.lst [PV.int x]) v1=some (.lst (w1.map PV.int)):=(ak (ar vv1 ha2)).trans vv1;have vv3:put (put (put G1 a1 (.lst (M1.map PV.int))) a2 (.lst [PV.int x])) a3 (.lst (M1.map PV.int++[PV.int x])) v1=some (.lst (w1.map PV.int)):=(ak (ar vv2 ha3)).trans vv2;have b3:put (put (put G1 a1 (.lst (M1.map PV.int))) a2 (.lst [PV.int x])) a3 (.lst (M1.map PV.int++[PV.int x])) a3=some (.lst (M1.map PV.int++[PV.int x])):=ah;generalize put (put (put G1 a1 (.lst (M1.map PV.int))) a2 (.lst [PV.int x])) a3 (.lst (M1.map PV.int++[PV.int x]))=H9 at *;refine⟨_,vv3,fun a4 ha4=>?_⟩;rw[e2];have t4:=t3.put (o:=.lst (M2.map PV.int)) (t3.free ha4);refine⟨_,_,(ak (ar b3 ha4)).trans b3,rfl,ai (by simp only[F0,F3,Gr];omega),fun a5 ha5=>?_⟩;exact key a5 (M1++[x]++M2) _ (t4.put (t4.free ha5)) (by rw[ah,F8,F8];rfl) (by rw[F3,F3,Gr];omega)
  ac_rfl;refine⟨by decide,?_⟩;refine aI (fun _=>?_) (fun _=>key v0 w0 H1 z0 g0 (by omega));obtain⟨M1,e1,l1,_⟩:=cf PV.int w0 none (some i);obtain⟨M2,e2,l2,_⟩:=cf PV.int w0 (some (i+1)) none;refine⟨_,g0,fun a1 ha1=>?_⟩;rw[e1];refine⟨_,(ak (ar g0 ha1)).trans g0,fun a2 ha2=>?_⟩;rw[e2];have n12:a1≠a2:=fun z=>by subst z;rw[ah]at ha2;cases ha2
  have t1:=(z0).put (o:=.lst (M1.map PV.int)) ((z0).free ha1);have t2:=t1.put (o:=.lst (M2.map PV.int)) (t1.free ha2);refine⟨_,_,(ak n12).trans ah,rfl,ai (by simp only[F0];omega),fun a3 ha3=>?_⟩;exact key a3 (M1++M2) _ (t2.put (t2.free ha3)) (by rw[ah,F8]) (by rw[F3];omega)
 ·exact h.elim
theorem A1(T:Tx K mg t):aK P w K mg base CX0 1 t.a_zP t.d_zP ["_law_found","_law_due"] fx:=by
 refine okU (k:=0) T.F_zP Bc (fun vs H Q E h=>by
  unfold fx at h;split at h
  ·rfl
  ·exact h.elim) (fun cdv A outer s H E B hr=>⟨_,(af (aF (aP (bx (aQ (au (aW .tuple) (bM .tuple) rfl T.b_isinstance GG (aa (qv 1) (aa (bN rfl T.b_tuple Ie) ag)))) (bB (aQ (au (aW .list) (bM .list) rfl T.b_isinstance GG (aa (qv 1) (aa (bN rfl T.b_list IB) ag)))))))
  bX
  ax)
  (af (aF (aQ (au (aW .bool) (bM .bool) rfl T.b_isinstance GG (aa (qv 1) (aa (bN rfl T.b_bool boot_bool) ag))))
  (aj (ay (cD (au (aW .bool) (bM .bool) rfl T.b_isinstance GG (aa (qv 0) (aa (bN rfl T.b_bool boot_bool) ag))) (cB (ba (aG hr.units) aH (qv 0) (qv 1) (bQ _))))))
  ax)
  (af (aF (aQ (au (aW .int) (bM .int) rfl T.b_isinstance GG (aa (qv 1) (aa (bN rfl T.b_int boot_int) ag))))
  (aj (ay (cD (au (aW .int) (bM .int) rfl T.b_isinstance GG (aa (qv 0) (aa (bN rfl T.b_int boot_int) ag))) (cD (sL (au (aW .bool) (bM .bool) rfl T.b_isinstance GG (aa (qv 0) (aa (bN rfl T.b_bool boot_bool) ag)))) (cB (ba (aG hr.units) aH (qv 0) (qv 1) (bQ _)))))))
  ax)
  (af (aF (aQ (au (aW .str) (bM .str) rfl T.b_isinstance GG (aa (qv 1) (aa (bN rfl T.b_str boot_str) ag))))
  (aj (ay (cD (au (aW .str) (bM .str) rfl T.b_isinstance GG (aa (qv 0) (aa (bN rfl T.b_str boot_str) ag))) (cB (ba (aG hr.units) aH (qv 0) (qv 1) (bQ _))))))
  ax)
  (aj (ay (cD (ba p9 tR (qv 1) jv (bQ _)) (cB (ba p9 tR (qv 0) jv (bQ _)))))))))),?_⟩)
 intro vs H Q E h;unfold fx at h;split at h
 ·rename_i a b;refine bZ fun T1 R h1 hR=>?_;ac_rfl;subst hR;refine bZ fun T1 R h1 hR=>?_;ac_rfl;subst h1;ac_rfl;exact⟨H,Sub.refl _,h⟩
 ·exact h.elim
theorem C5(T:Tx K mg t):aK P w K mg base CX0 9 t.a_zX t.d_zX ["_law_script"] spL:=by
 refine okU (k:=8) T.F_zX b8 (fun vs H Q E h=>by
  unfold spL at h;split at h
  ·rfl
  ·exact h.elim) (fun cdv A outer s H E B hr=>⟨_,(af (sN 1 b8.nd (bE ae (aL (aC (wZ T) hr.mo rfl T.g_zC T.F_zC.kp T.B_zC (aa (qv 0) (aa ae ag))) ae)))
  (af (sN 2 b8.nd (aC (Dp T) hr.mo rfl T.g_zs T.F_zs.kp T.B_zs (aa (qv 0) (aa ae (aa (qv 1) ag)))))
  (af (sN 3 b8.nd (uA T.mk_A (E6 T) hr.mo rfl T.g_A T.B_zu (aa (qv 1) (aa (aS bG de rfl T.b_list IB (aa (iX (qv 2) ae) ag)) (aa (aS bG de rfl T.b_list IB (aa (iX (qv 2) ae) ag)) ag)))))
  (af (b7 GF rfl (yU rfl T.b_range (aa ae (aa ae (aa ae ag)))) (gN 4 b8.nd)
  (af (e8 (cE (N2:=CJ) (nt:=1) (js:=[0,4]) (ck (sc:=aq tM)) (cw rfl T.b_range (aa ae ag)) (fun _ _ _ _=>⟨(gN 0 Ds),aY,(aC (wZ T) hr.mo rfl T.g_zC T.F_zC.kp T.B_zC (aa (qv 1) (aa (bE (bE ae (qv 2)) (qv 0)) ag)))⟩)) (tD (n:=3) rfl (aA (gN 5 b8.nd) (aA (gN 6 b8.nd) (aA (gN 7 b8.nd) br)))))
   (af (e8 (aC (zP T) hr.mo rfl T.g_zp T.F_zp.kp T.B_zp (aa (aC (zP T) hr.mo rfl T.g_zp T.F_zp.kp T.B_zp (aa (aC (Dl T) hr.mo rfl T.g_zI T.F_zI.kp T.B_zI (aa (qv 5) (aa (qv 1) (aa ae ag)))) (aa ae ag))) (aa ae ag))) (tD (n:=4) rfl (aA (gN 8 b8.nd) (aA (gN 9 b8.nd) (aA (gN 10 b8.nd) (aA (gN 11 b8.nd) br))))))
   (aj (aF (cN iW i4 (au av aO rfl T.b_len Gn (aa (qv 8) ag)) ae)
   (af (sN 12 b8.nd (aC (EV T) hr.mo rfl T.g_zm T.F_zm.kp T.B_zm (aa (aC (FI T) hr.mo rfl T.g_zA T.F_zA.kp T.B_zA (aa (qv 2) (aa (qv 8) (aa (qv 10) ag)))) (aa (qv 6) (aa (qv 1) ag)))))
    (af (sN 13 b8.nd (aS bG de rfl T.b_list IB (aa (qv 12) ag)))
    (af (sN 14 b8.nd (aC (DK T) hr.mo rfl T.g_zz T.F_zz.kp T.B_zz (aa (qv 2) (aa (qv 8) (aa (qv 9) (aa (qv 10) (aa (qv 12) ag)))))))
    (af (aF (aP (bx (bC (aQ (aC (A1 T) hr.mo rfl T.g_zP T.F_zP.kp T.B_zP (aa (aC (C1 T) hr.mo rfl T.g_zS T.F_zS.kp T.B_zS (aa (qv 3) (aa (qv 8) (aa (qv 9) (aa (qv 10) (aa (qv 13) ag)))))) (aa (qv 14) ag))))) (bB (cN (cg hr.units) aH (qv 13) (qv 12)))))
    (aj (ay bb))
    ax)
    (af (sN 15 b8.nd (iX (bu (aa (iX (qv 8) ae) (aa (aL (a9 (qv 7) ae) (qv 1)) ag))) (aS oQ xM rfl T.b_int boot_int (aa (ba (aG hr.units) aH (aL (qv 6) ae) ae (bQ _)) ag))))
    (af (sN 16 b8.nd (aC (D0 T) hr.mo rfl T.g_zk T.F_zk.kp T.B_zk (aa (aC (Fc T) hr.mo rfl T.g_zh T.F_zh.kp T.B_zh (aa (qv 2) (aa (qv 15) (aa (qv 7) (aa (qv 9) ag))))) (aa (qv 6) (aa (qv 1) ag)))))
    (af (sC 17 b8.nd (N2:=Av) (nt:=1) (js:=[2,10,7]) (ck (sc:=aq tM)) (aM (aC (Fs T) hr.mo rfl T.g_zj T.F_zj.kp T.B_zj (aa (qv 16) ag))) (fun _ _ _ _=>⟨(gN 0 D9),aY,(aC (FV T) hr.mo rfl T.g_zi T.F_zi.kp T.B_zi (aa (qv 1) (aa (qv 0) (aa (a9 (qv 3) ae) (aa (qv 2) ag)))))⟩))
    (af (sN 17 b8.nd (aC (Dh T) hr.mo rfl T.g_zn T.F_zn.kp T.B_zn (aa (qv 17) (aa (a9 (qv 6) ae) (aa (qv 1) ag)))))
    (af (sN 14 b8.nd (aC (C2 T) hr.mo rfl T.g_zw T.F_zw.kp T.B_zw (aa (qv 2) (aa (qv 8) (aa (qv 9) (aa (qv 10) (aa (qv 16) (aa (qv 17) ag))))))))
    (af (sN 18 b8.nd (aC (FA T) hr.mo rfl T.g_zT T.F_zT.kp T.B_zT (aa (qv 3) (aa (qv 8) (aa (qv 9) (aa (qv 10) (aa (aS bG de rfl T.b_list IB (aa (qv 16) ag)) (aa (aS bG de rfl T.b_list IB (aa (qv 17) ag)) ag))))))))
    (aj (aF (bC (aQ (aC (A1 T) hr.mo rfl T.g_zP T.F_zP.kp T.B_zP (aa (qv 18) (aa (qv 14) ag)))))
    (aj (ay bb))
    ax))))))))))))
   ax)))))
  (aj (ay bb)))))),?_⟩)
 intro vs H Q E h;unfold spL at h;split at h
 ·rename_i l;obtain⟨ns,rfl,hl,h⟩:=h;left;refine⟨⟨by decide,by decide⟩,ns,rfl,by decide,?_⟩;have hc:=fm (a:=ns.getD (Int.toNat 0) 0) (b:=5) (by decide);generalize hcc:2+(ns.getD (Int.toNat 0) 0).fmod 5=c at *;have c2:2≤c/\c≤6:=by omega
  right;refine⟨⟨by decide,by decide⟩,⟨by omega,c2.2⟩,ns,rfl,fun ts bs ok=>?_⟩;subst hR;unfold shp;left;intro p5 hp5;refine fun p6 hp6 x dx hx hdx nd=>?_;have n56:p5≠p6:=fun e=>by subst e;rw[ah]at hp6;cases hp6
  have sa:=(Sub.refl H).put (o:=.lst (ts.map prV)) hp5;have sb:=sa.put (o:=.lst (bs.map prV)) (sa.free hp6);have i1:put (put H p5 (.lst (ts.map prV))) p6 (.lst (bs.map prV)) p5=some (.lst (ts.map prV)):=(ak n56).trans ah;have i2:put (put H p5 (.lst (ts.map prV))) p6 (.lst (bs.map prV)) p6=some (.lst (bs.map prV)):=ah;generalize put (put H p5 (.lst (ts.map prV))) p6 (.lst (bs.map prV))=H6 at *;have sc:=(Sub.refl H6).put (o:=.ins t.a_A dx []) hx;refine⟨dx,_,_,ts,bs,rfl,sc _ _ i1,sc _ _ i2,ig,ig,ok.gt,ok.gb,⟨by omega,c2.2,ok.b6⟩,fun T1 B1 pT sT pB sB=>?_⟩;rw[aE];have eT:=DM.nj (List.Perm.refl _) ok.st pT sT;have eB:=DM.nj (List.Perm.refl _) ok.sb pB sB;subst eT;subst eB;have sd:=sb.put (o:=.ins t.a_A dx (DF c ts bs)) (sb.free hx);have x3:put H6 x (.ins t.a_A dx (DF c ts bs)) x=some (.ins t.a_A dx (DF c ts bs)):=ah;generalize put H6 x (.ins t.a_A dx (DF c ts bs))=H7 at *;right;refine⟨by decide,by decide,by decide,by decide,?_⟩;have e20:by3 0 60=20:=by decide
  rw[e20];refine cV (fun i σ H9=>∃z1 z2 z3 z4 z5 z6 z7 z8 z9 z10 z11 z12 z13 z14 z15,σ=[some (.fls (ns.map PV.int)),some (.int c),some (.tup [.int c,.tup (ts.map prV),.tup (bs.map prV)]),some (.ref x),z1,z2,z3,z4,z5,z6,z7,z8,z9,z10,z11,z12,z13,z14,z15]/\U.Sub H7 H9) ?_ ?_ ⟨none,none,none,none,none,none,none,none,none,none,none,none,none,none,none,rfl,Sub.refl _⟩
  ·rintro σ H9 ⟨z1,z2,z3,z4,z5,z6,z7,z8,z9,z10,z11,z12,z13,z14,z15,rfl,s9⟩;refine⟨trivial,?_⟩;subst hR;ac_rfl;exact⟨H,sd.trans s9,h⟩
  ·rintro N i y σ H9 hy ⟨z1,z2,z3,z4,z5,z6,z7,z8,z9,z10,z11,z12,z13,z14,z15,rfl,s9⟩ kk;refine⟨trivial,?_⟩;obtain⟨k,rfl,k0,k60⟩:=xi hy;refine ao fun R1 hR1=>?_;ac_rfl;refine⟨by omega,fun acc hacc=>?_⟩;refine iy (fun j σ H2=>∃z,∃us:List Int,σ=[z,some (.fls (ns.map PV.int)),some (.int k)]/\U.Sub H9 H2/\H2 acc=some (.lst (us.map PV.int))/\us.length=j) ?_ ?_ ⟨none,[],rfl,(Sub.refl H9).put hacc,ah,rfl⟩
   ·rintro j v σ H2 R' hv ⟨z,us,rfl,s2,e2,l2⟩ kk2;obtain⟨u,rfl,u0,u3⟩:=D4 (Gg hv);have lj:=(Gj.mp hv).1;rw[nM]at lj;refine⟨trivial,?_⟩;ac_rfl;refine⟨⟨by omega,by omega⟩,ns,rfl,_,e2,bA (by rw[F0];omega),kk2 _ _ ⟨_,us++[_],rfl,s2.put hacc,by rw[F8];exact ah,by rw[F3,l2];rfl⟩⟩
   ·rintro σ H2 ⟨z,us,rfl,s2,e2,l2⟩;refine⟨trivial,?_⟩;rw[nM]at l2;obtain⟨u1,u2,u3,rfl⟩:∃a b d,us=[a,b,d]:=by
     match us,l2 with
     | [a,b,d],_=>exact⟨a,b,d,rfl⟩
    refine⟨_,e2,rfl,?_⟩;ac_rfl;subst hR1;refine ao fun R1 hR1=>?_;ac_rfl;refine⟨⟨by omega,c2.2⟩,⟨by decide,by decide⟩,fun r1 Ha L1 _ sa1 er1 pt1=>?_⟩;have pt1:Pt 4 c L1:=pt1;refine⟨4,c,L1,er1,pt1,⟨by omega,c2.2⟩,by decide,⟨by decide,by decide⟩,fun r2 Hb L2 sb1 er2 pt2 _=>?_⟩;refine⟨4,c,L2,er2,pt2,⟨by omega,c2.2⟩,by decide,⟨by decide,by decide⟩,fun r3 Hc L3 sc1 er3 pt3 ne1=>?_⟩;obtain⟨O,B,G,W,rfl⟩:∃O B G W,L3=[O,B,G,W]:=by
     have:=pt3.len
     match L3,this with
     | [O,B,G,W],_=>exact⟨O,B,G,W,rfl⟩
    refine⟨_,er3,rfl,?_⟩;have s10:=s9.trans (s2.trans (sa1.trans (sb1.trans sc1)));have nb:B≠[]:=fun e=>ne1 (by rw[e];rfl);unfold tupI;ac_rfl;subst hR1;refine wX fun T1 hT1=>?_;ac_rfl;by_cases no:O=[]
    ·subst no;exact aw (by simp) (kk _ _ ⟨_,_,_,_,_,_,_,_,_,_,_,_,_,_,_,rfl,s10⟩)
    have ap:=pt3.ap no nb;have dr:∀{Hz:PHp},U.Sub Hc Hz->Dr t Hz x c ts bs:=fun sz=>⟨dx,sz _ _ (s10 _ _ x3)⟩;refine az (by rw[F0];simpa[Ia]using no) ?_;subst hT1;refine ao fun R1 hR1=>?_;ac_rfl;refine⟨c,ts,bs,O,G,rfl,rfl,rfl,ok,ap.a,ap.g,fun r4 Hd A4 L4 s4 an er4 l4 _=>?_⟩;refine⟨L4,⟨by omega,c2.2⟩,er4,l4,fun r5 He L5 s5 er5 l5=>?_⟩;subst hR1;refine ao fun R1 hR1=>?_;ac_rfl;refine⟨_,er5,fun p7 hp7=>?_⟩;have s6:=(Sub.refl He).put (o:=.lst (L5.map sdV)) hp7;have er6:=s6 _ _ er5;have eh:put He p7 (.lst (L5.map sdV)) p7=some (.lst (L5.map sdV)):=ah;have sf:=(s4.trans s5).trans s6;generalize put He p7 (.lst (L5.map sdV))=Hf at *;subst hR1;refine ao fun R1 hR1=>?_;ac_rfl;refine⟨c,ts,bs,O,B,G,A4,L5,rfl,rfl,rfl,rfl,ok,ap.a,ap.g,an,er6,by omega,fun b hb=>?_⟩;subst hR1;refine ao fun R1 hR1=>?_;ac_rfl;refine⟨c,ts,bs,O,B,G,A4,L5,dr sf,ok,rfl,rfl,rfl,ap,an,eh,by omega,fun b2 hb2=>?_⟩;have eb:b2=b:=by rw[HD,hb,hb2]
    subst eb;have ed:eS (L5.map sdV) (L5.map sdV)=true:=by have:=dR (x:=.fls (L5.map sdV)) rY;rwa [deq]at this
    refine aw (by simp) ⟨_,eh,_,er6,eK,eK,aw (by rw[ed];rfl) ?_⟩;obtain⟨o1,ho⟩:∃o1,atI (O.map PV.int) 0=some (.int o1):=by
     cases O with
     | nil=>exact absurd rfl no
     | cons o1 O=>exact⟨o1,cn (l:=.int o1::O.map PV.int) (i:=0) (by simp)⟩
    subst hR1;refine ao fun R1 hR1=>?_;ac_rfl;refine wO ho ⟨cQ (by decide) (by decide),by omega,ai (by decide),fun p8 hp8=>⟨by decide,?_⟩⟩;obtain⟨st,est⟩:=at2 (a:=o1) (b:=(u3.fdiv 11).fmod c) (n:=b2n (u2.fmod 3==2)) (by unfold b2n;split<;>omega);refine wO est ?_;have sg:=sf.trans ((Sub.refl Hf).put (o:=.lst [PV.int o1,PV.int ((u3.fdiv 11).fmod c)]) hp8);generalize put Hf p8 (.lst [PV.int o1,PV.int ((u3.fdiv 11).fmod c)])=Hg at *;subst hR1;refine ao fun R1 hR1=>?_;ac_rfl;refine⟨c,ts,bs,B,rfl,ok,rfl,fun r9 Hh road0 sh er9 l9=>?_⟩;refine⟨road0,er9,l9,fun r10 Hi road si er10 l10=>?_⟩;have sj:=sg.trans (sh.trans si);subst hR1;refine ao fun R1 hR1=>?_;ac_rfl;refine⟨road,er10,l10,fun mr Hj ms hmr sm em lm=>⟨_,em,fun ac hac=>?_⟩⟩;refine iy (fun j σ H3=>∃z us,∃ws:List (List Int),σ=[z,some (.tup [.int c,.tup (ts.map prV),.tup (bs.map prV)]),some (.tup (G.map PV.int)),some (.int u3)]/\U.Sub Hj H3/\H3 ac=some (.lst us)/\bK H3 ac us (inV ws)/\ws.length=j/\∀w∈ws,w.length≤10/\w≠[]) ?_ ?_ ⟨none,[],[],rfl,(Sub.refl Hj).put hac,ah,by simp[bK,inV,Paired.nil],rfl,fun w hw=>(by cases hw)⟩
    ·rintro j v σ H3 R' hv ⟨z,us,ws,rfl,s3,e3,l3,j3,w6⟩ kk2;have lj:=(Gj.mp hv).1;rw[F0]at lj;rw[Gs]at hv;obtain⟨m,hmj,rfl⟩:=GX.mp hv;refine⟨s3 _ _ em,?_⟩;ac_rfl;refine⟨cQ (by decide) (by decide),c,ts,bs,G,rfl,ok,rfl,fun r H4 w hr s4' er wn wl=>?_⟩;have hl2:=l3.len;simp only[inV,F0]at hl2;refine⟨_,s4' _ _ e3,bA (by omega),?_⟩;have nr:=ar e3 hr;refine kk2 _ _ ⟨_,us++[.ref r],ws++[w],rfl,(s3.trans s4').put hac,ah,?_,by rw[F3,j3];rfl,fun w' hw'=>?_⟩
     ·have:=((l3.up s4').snoc (r:=r) nr.symm er).put (o:=.lst (us++[PV.ref r]));simpa[inV]using this
     ·rcases Gf.mp hw' with q | q
      ·exact w6 w' q
      ·rw[Gk.mp q];exact⟨by omega,wn⟩
    ·rintro σ H3 ⟨z,us,ws,rfl,s3,e3,l3,j3,w6⟩;rw[F0]at j3;refine⟨s3 _ _ em,?_⟩;subst hR1;refine ao fun R1 hR1=>?_;ac_rfl;refine⟨cQ (by decide) (by decide),us,ws,⟨by omega,c2.2⟩,e3,l3,by omega,w6,fun r11 Hk us' ws' sk ek lk nk wk=>?_⟩;have erk:=(sm.trans (s3.trans sk)) _ _ er10;have s15:=sj.trans (sm.trans (s3.trans sk));subst hR1;refine ao fun R1 hR1=>?_;ac_rfl;refine⟨c,ts,bs,O,B,G,road,us',ws',rfl,rfl,rfl,rfl,ok,erk,by omega,ek,lk,by omega,fun w hw=>by have:=wk w hw;omega,fun b3 hb3=>?_⟩;subst hR1;refine ao fun R1 hR1=>?_;ac_rfl;refine⟨_,erk,fun q1 hq1=>?_⟩;have sl:=(Sub.refl Hk).put (o:=.lst (road.map stV)) hq1;have eq1:put Hk q1 (.lst (road.map stV)) q1=some (.lst (road.map stV)):=ah;generalize put Hk q1 (.lst (road.map stV))=Hl at *;refine⟨_,sl _ _ ek,fun q2 hq2=>?_⟩;have sn:=(Sub.refl Hl).put (o:=.lst us') hq2;have ln:=lk.mv (sl.trans sn) (sl.free hq2);generalize put Hl q2 (.lst us')=Hn at *;refine⟨c,ts,bs,O,B,G,road,us',ws',dr (s15.trans (sl.trans sn)),ok,rfl,rfl,rfl,ap,sn _ _ eq1,by omega,rfl,ln,by omega,fun w hw=>by have:=wk w hw;omega,fun b4 hb4=>?_⟩;have eb:b4=b3:=by rw[HD,hb3,hb4]
     subst eb;subst hR1;ac_rfl;exact aw (by simp) (kk _ _ ⟨_,_,_,_,_,_,_,_,_,_,_,_,_,_,_,rfl,s10.trans (s15.trans (sl.trans sn))⟩)
 ·exact h.elim
end
theorem jA(h:∀a,bindArgs fd ⟨[a],[]⟩=pure (List.zip ps [a]))(us:List Value)(hl:us.length=1):bindArgs fd ⟨us,[]⟩=pure (List.zip ps us):=BI (P:=fun us=>bindArgs fd ⟨us,[]⟩=pure (List.zip ps us)) h us hl
theorem dE(h:∀a b,bindArgs fd ⟨[a,b],[]⟩=pure (List.zip ps [a,b]))(us:List Value)(hl:us.length=2):bindArgs fd ⟨us,[]⟩=pure (List.zip ps us):=As (P:=fun us=>bindArgs fd ⟨us,[]⟩=pure (List.zip ps us)) h us hl
theorem kC(h:∀a b c,bindArgs fd ⟨[a,b,c],[]⟩=pure (List.zip ps [a,b,c]))(us:List Value)(hl:us.length=3):bindArgs fd ⟨us,[]⟩=pure (List.zip ps us):=BG (P:=fun us=>bindArgs fd ⟨us,[]⟩=pure (List.zip ps us)) h us hl
theorem iF(h:∀a b c d,bindArgs fd ⟨[a,b,c,d],[]⟩=pure (List.zip ps [a,b,c,d]))(us:List Value)(hl:us.length=4):bindArgs fd ⟨us,[]⟩=pure (List.zip ps us):=BL (P:=fun us=>bindArgs fd ⟨us,[]⟩=pure (List.zip ps us)) h us hl
theorem Cr(h:∀a b c d e,bindArgs fd ⟨[a,b,c,d,e],[]⟩=pure (List.zip ps [a,b,c,d,e]))(us:List Value)(hl:us.length=5):bindArgs fd ⟨us,[]⟩=pure (List.zip ps us):=Bv (P:=fun us=>bindArgs fd ⟨us,[]⟩=pure (List.zip ps us)) h us hl
theorem Cj(h:∀a b c d e f,bindArgs fd ⟨[a,b,c,d,e,f],[]⟩=pure (List.zip ps [a,b,c,d,e,f]))(us:List Value)(hl:us.length=6):bindArgs fd ⟨us,[]⟩=pure (List.zip ps us):=FJ (P:=fun us=>bindArgs fd ⟨us,[]⟩=pure (List.zip ps us)) h us hl
open PySem.W in
theorem l7{K:Frag}{h:Heap}{mg:Str->Option Value}{f_zU f_zK f_zW f_zu f_zb f_zd f_ze f_za f_zc f_zo f_zO f_zD f_zv f_zq f_zf f_zF f_zV f_zR f_zQ f_zL f_zJ f_zg f_zx f_zl f_zT f_zr f_zS f_zC f_zN f_zH f_zs f_zM f_zt f_zA f_zz f_zy f_zE f_zG f_zw f_zI f_zp f_zP f_zm f_zB f_zh f_zi f_zk f_zn f_zj f_zX k_A:Addr}(X:K.In h)(G:h.Ns mainGlobals mg)
  {d_zU d_zK d_zW d_zu d_zb d_zd d_ze d_za d_zc d_zo d_zO d_zD d_zv d_zq d_zf d_zF d_zV d_zR d_zQ d_zL d_zJ d_zg d_zx d_zl d_zT d_zr d_zS d_zC d_zN d_zH d_zs d_zM d_zt d_zA d_zz d_zy d_zE d_zG d_zw d_zI d_zp d_zP d_zm d_zB d_zh d_zi d_zk d_zn d_zj d_zX:FuncData}
  {tk_MOST_BOWS tk_MOST_NAMES:Tok}
  (C_A:nX1 K "Drawing" k_A)
  (a_zU:nX1 K "is_pair" f_zU)
  (l_zU:Fun K "is_pair" "is_pair" xV f_zU d_zU)
  (a_zK:nX1 K "are_pairs" f_zK)
  (l_zK:Fun K "are_pairs" "are_pairs" uM f_zK d_zK)
  (a_zW:nX1 K "is_set" f_zW)
  (l_zW:Fun K "is_set" "is_set" xI f_zW d_zW)
  (a_zu:fX1 K k_A "__init__" f_zu)
  (i_zu:isFn K (.ref f_zu)=true)
  (l_zu:Fun K "__init__" "Drawing.__init__" sX f_zu d_zu)
  (a_zb:fX1 K k_A "need_name" f_zb)
  (i_zb:isFn K (.ref f_zb)=true)
  (l_zb:Fun K "need_name" "Drawing.need_name" y9 f_zb d_zb)
  (a_zd:fX1 K k_A "need_set" f_zd)
  (i_zd:isFn K (.ref f_zd)=true)
  (l_zd:Fun K "need_set" "Drawing.need_set" yj f_zd d_zd)
  (a_ze:fX1 K k_A "sources" f_ze)
  (i_ze:isFn K (.ref f_ze)=true)
  (l_ze:Fun K "sources" "Drawing.sources" vE f_ze d_ze)
  (a_za:fX1 K k_A "followers" f_za)
  (i_za:isFn K (.ref f_za)=true)
  (l_za:Fun K "followers" "Drawing.followers" t6 f_za d_za)
  (a_zc:fX1 K k_A "ancestors" f_zc)
  (i_zc:isFn K (.ref f_zc)=true)
  (l_zc:Fun K "ancestors" "Drawing.ancestors" xc f_zc d_zc)
  (a_zo:fX1 K k_A "bowed" f_zo)
  (i_zo:isFn K (.ref f_zo)=true)
  (l_zo:Fun K "bowed" "Drawing.bowed" rN f_zo d_zo)
  (a_zO:nX1 K "need_sets" f_zO)
  (l_zO:Fun K "need_sets" "need_sets" yB f_zO d_zO)
  (a_zD:nX1 K "need_apart" f_zD)
  (l_zD:Fun K "need_apart" "need_apart" xN f_zD d_zD)
  (a_zv:nX1 K "need_barring" f_zv)
  (l_zv:Fun K "need_barring" "need_barring" yW f_zv d_zv)
  (a_zq:nX1 K "points_at_to" f_zq)
  (l_zq:Fun K "points_at_to" "points_at_to" xl f_zq d_zq)
  (a_zf:nX1 K "points_at_from" f_zf)
  (l_zf:Fun K "points_at_from" "points_at_from" xP f_zf d_zf)
  (a_zF:nX1 K "is_meeting" f_zF)
  (l_zF:Fun K "is_meeting" "is_meeting" zJ f_zF d_zF)
  (a_zV:nX1 K "is_step" f_zV)
  (l_zV:Fun K "is_step" "is_step" xx f_zV d_zV)
  (a_zR:nX1 K "names_on" f_zR)
  (l_zR:Fun K "names_on" "names_on" uN f_zR d_zR)
  (a_zQ:nX1 K "meetings" f_zQ)
  (l_zQ:Fun K "meetings" "meetings" tZ f_zQ d_zQ)
  (a_zL:nX1 K "is_passed" f_zL)
  (l_zL:Fun K "is_passed" "is_passed" zr f_zL d_zL)
  (a_zJ:nX1 K "is_joined" f_zJ)
  (l_zJ:Fun K "is_joined" "is_joined" uX f_zJ d_zJ)
  (a_zg:nX1 K "is_open_inside" f_zg)
  (l_zg:Fun K "is_open_inside" "is_open_inside" tx f_zg d_zg)
  (a_zx:nX1 K "is_way_down" f_zx)
  (l_zx:Fun K "is_way_down" "is_way_down" qT f_zx d_zx)
  (a_zl:nX1 K "are_ways_down" f_zl)
  (l_zl:Fun K "are_ways_down" "are_ways_down" vm f_zl d_zl)
  (a_zT:nX1 K "is_road" f_zT)
  (l_zT:Fun K "is_road" "is_road" yY f_zT d_zT)
  (a_zr:nX1 K "asked_beside" f_zr)
  (l_zr:Fun K "asked_beside" "asked_beside" oI f_zr d_zr)
  (a_zS:nX1 K "is_shut" f_zS)
  (l_zS:Fun K "is_shut" "is_shut" mD f_zS d_zS)
  (a_zC:nX1 K "_law_cell_at" f_zC)
  (l_zC:Fun K "_law_cell_at" "_law_cell_at" ym f_zC d_zC)
  (a_zN:nX1 K "_law_mixed" f_zN)
  (l_zN:Fun K "_law_mixed" "_law_mixed" yC f_zN d_zN)
  (a_zH:nX1 K "_law_whole" f_zH)
  (l_zH:Fun K "_law_whole" "_law_whole" yJ f_zH d_zH)
  (a_zs:nX1 K "_law_pairs_of" f_zs)
  (l_zs:Fun K "_law_pairs_of" "_law_pairs_of" yu f_zs d_zs)
  (a_zM:nX1 K "_law_above" f_zM)
  (l_zM:Fun K "_law_above" "_law_above" yp f_zM d_zM)
  (a_zt:nX1 K "_law_asked_by" f_zt)
  (l_zt:Fun K "_law_asked_by" "_law_asked_by" lQ f_zt d_zt)
  (a_zA:nX1 K "_law_reached" f_zA)
  (l_zA:Fun K "_law_reached" "_law_reached" vj f_zA d_zA)
  (a_zz:nX1 K "_law_is_shut" f_zz)
  (l_zz:Fun K "_law_is_shut" "_law_is_shut" vk f_zz d_zz)
  (a_zy:nX1 K "_law_is_step" f_zy)
  (l_zy:Fun K "_law_is_step" "_law_is_step" xh f_zy d_zy)
  (a_zE:nX1 K "_law_is_way" f_zE)
  (l_zE:Fun K "_law_is_way" "_law_is_way" xn f_zE d_zE)
  (a_zG:nX1 K "_law_meets" f_zG)
  (l_zG:Fun K "_law_meets" "_law_meets" zi f_zG d_zG)
  (a_zw:nX1 K "_law_is_open" f_zw)
  (l_zw:Fun K "_law_is_open" "_law_is_open" oE f_zw d_zw)
  (a_zI:nX1 K "_law_roles" f_zI)
  (l_zI:Fun K "_law_roles" "_law_roles" tq f_zI d_zI)
  (a_zp:nX1 K "_law_moved_to" f_zp)
  (l_zp:Fun K "_law_moved_to" "_law_moved_to" xH f_zp d_zp)
  (a_zP:nX1 K "_law_same" f_zP)
  (l_zP:Fun K "_law_same" "_law_same" zj f_zP d_zP)
  (a_zm:nX1 K "_law_bent_list" f_zm)
  (l_zm:Fun K "_law_bent_list" "_law_bent_list" tX f_zm d_zm)
  (a_zB:nX1 K "_law_step_on" f_zB)
  (l_zB:Fun K "_law_step_on" "_law_step_on" mh f_zB d_zB)
  (a_zh:nX1 K "_law_drawn_road" f_zh)
  (l_zh:Fun K "_law_drawn_road" "_law_drawn_road" yy f_zh d_zh)
  (a_zi:nX1 K "_law_drawn_way" f_zi)
  (l_zi:Fun K "_law_drawn_way" "_law_drawn_way" u5 f_zi d_zi)
  (a_zk:nX1 K "_law_bent_road" f_zk)
  (l_zk:Fun K "_law_bent_road" "_law_bent_road" yk f_zk d_zk)
  (a_zn:nX1 K "_law_bent_ways" f_zn)
  (l_zn:Fun K "_law_bent_ways" "_law_bent_ways" xR f_zn d_zn)
  (a_zj:nX1 K "_law_pairs_met" f_zj)
  (l_zj:Fun K "_law_pairs_met" "_law_pairs_met" vx f_zj d_zj)
  (a_zX:nX1 K "law" f_zX)
  (l_zX:Fun K "law" "law" tM f_zX d_zX)
  (pg_A:plainGet K k_A Str.empty=true)
  (hd_A:hasDictIn K k_A=true)
  (po_A:plainOver K k_A=true)
  (sa_A:findIn K (.ref k_A) "__setattr__"=some (some (.builtin "object.__setattr__")))
  (mk_A:makesIn K k_A=true)
  (kc_A:keepIn K (.ref k_A)=true)
  (z_all:nX2 K "all")
  (z_any:nX2 K "any")
  (z_bool:nX2 K "bool")
  (z_int:nX2 K "int")
  (z_isinstance:nX2 K "isinstance")
  (z_len:nX2 K "len")
  (z_list:nX2 K "list")
  (z_max:nX2 K "max")
  (z_min:nX2 K "min")
  (z_range:nX2 K "range")
  (z_reversed:nX2 K "reversed")
  (z_set:nX2 K "set")
  (z_sorted:nX2 K "sorted")
  (z_str:nX2 K "str")
  (z_tuple:nX2 K "tuple")
  (z_zip:nX2 K "zip")
  (v_MOST_BOWS:nsIn K mainGlobals "MOST_BOWS"=some (some (.int 6 tk_MOST_BOWS)))
  (v_MOST_NAMES:nsIn K mainGlobals "MOST_NAMES"=some (some (.int 6 tk_MOST_NAMES)))
  (nA_bows:findIn K (.ref k_A) "bows"=some none)
  (nA_count:findIn K (.ref k_A) "count"=some none)
  (nA_ties:findIn K (.ref k_A) "ties"=some none) :
  ∃t:Ad,Tx K mg t/\t.a_zX=f_zX/\∀(s:Shared) (v:Value),BindsTo s t.d_zX ⟨[v],[]⟩ [("_law_script",v)]:=by
 obtain⟨oc,od,kV,doc,pm,an,cdv,ct,osl,rfl,lk,hcd⟩:=l_zX.ex;exact⟨⟨f_zU,_,f_zK,_,f_zW,_,f_zu,_,f_zb,_,f_zd,_,f_ze,_,f_za,_,f_zc,_,f_zo,_,f_zO,_,f_zD,_,f_zv,_,f_zq,_,f_zf,_,f_zF,_,f_zV,_,f_zR,_,f_zQ,_,f_zL,_,f_zJ,_,f_zg,_,f_zx,_,f_zl,_,f_zT,_,f_zr,_,f_zS,_,f_zC,_,f_zN,_,f_zH,_,f_zs,_,f_zM,_,f_zt,_,f_zA,_,f_zz,_,f_zy,_,f_zE,_,f_zG,_,f_zw,_,f_zI,_,f_zp,_,f_zP,_,f_zm,_,f_zB,_,f_zh,_,f_zi,_,f_zk,_,f_zn,_,f_zj,_,f_zX,_,k_A⟩,⟨l_zU,
  l_zU.binds fun _ _ _ _ _ _=>dE fun _ _=>rfl,
  mg_of X G a_zU,
  l_zK,
  l_zK.binds fun _ _ _ _ _ _=>dE fun _ _=>rfl,
  mg_of X G a_zK,
  l_zW,
  l_zW.binds fun _ _ _ _ _ _=>dE fun _ _=>rfl,
  mg_of X G a_zW,
  l_zu,
  l_zu.binds fun _ _ _ _ _ _=>iF fun _ _ _ _=>rfl,
  l_zb,
  l_zb.binds fun _ _ _ _ _ _=>dE fun _ _=>rfl,
  ⟨a_zb,i_zb,l_zb.kp⟩,
  l_zd,
  l_zd.binds fun _ _ _ _ _ _=>dE fun _ _=>rfl,
  ⟨a_zd,i_zd,l_zd.kp⟩,
  l_ze,
  l_ze.binds fun _ _ _ _ _ _=>dE fun _ _=>rfl,
  ⟨a_ze,i_ze,l_ze.kp⟩,
  l_za,
  l_za.binds fun _ _ _ _ _ _=>dE fun _ _=>rfl,
  ⟨a_za,i_za,l_za.kp⟩,
  l_zc,
  l_zc.binds fun _ _ _ _ _ _=>dE fun _ _=>rfl,
  ⟨a_zc,i_zc,l_zc.kp⟩,
  l_zo,
  l_zo.binds fun _ _ _ _ _ _=>dE fun _ _=>rfl,
  ⟨a_zo,i_zo,l_zo.kp⟩,
  l_zO,
  l_zO.binds fun _ _ _ _ _ _=>dE fun _ _=>rfl,
  mg_of X G a_zO,
  l_zD,
  l_zD.binds fun _ _ _ _ _ _=>jA fun _=>rfl,
  mg_of X G a_zD,
  l_zv,
  l_zv.binds fun _ _ _ _ _ _=>iF fun _ _ _ _=>rfl,
  mg_of X G a_zv,
  l_zq,
  l_zq.binds fun _ _ _ _ _ _=>jA fun _=>rfl,
  mg_of X G a_zq,
  l_zf,
  l_zf.binds fun _ _ _ _ _ _=>jA fun _=>rfl,
  mg_of X G a_zf,
  l_zF,
  l_zF.binds fun _ _ _ _ _ _=>dE fun _ _=>rfl,
  mg_of X G a_zF,
  l_zV,
  l_zV.binds fun _ _ _ _ _ _=>dE fun _ _=>rfl,
  mg_of X G a_zV,
  l_zR,
  l_zR.binds fun _ _ _ _ _ _=>jA fun _=>rfl,
  mg_of X G a_zR,
  l_zQ,
  l_zQ.binds fun _ _ _ _ _ _=>jA fun _=>rfl,
  mg_of X G a_zQ,
  l_zL,
  l_zL.binds fun _ _ _ _ _ _=>iF fun _ _ _ _=>rfl,
  mg_of X G a_zL,
  l_zJ,
  l_zJ.binds fun _ _ _ _ _ _=>jA fun _=>rfl,
  mg_of X G a_zJ,
  l_zg,
  l_zg.binds fun _ _ _ _ _ _=>kC fun _ _ _=>rfl,
  mg_of X G a_zg,
  l_zx,
  l_zx.binds fun _ _ _ _ _ _=>iF fun _ _ _ _=>rfl,
  mg_of X G a_zx,
  l_zl,
  l_zl.binds fun _ _ _ _ _ _=>iF fun _ _ _ _=>rfl,
  mg_of X G a_zl,
  l_zT,
  l_zT.binds fun _ _ _ _ _ _=>Cj fun _ _ _ _ _ _=>rfl,
  mg_of X G a_zT,
  l_zr,
  l_zr.binds fun _ _ _ _ _ _=>iF fun _ _ _ _=>rfl,
  mg_of X G a_zr,
  l_zS,
  l_zS.binds fun _ _ _ _ _ _=>Cr fun _ _ _ _ _=>rfl,
  mg_of X G a_zS,
  l_zC,
  l_zC.binds fun _ _ _ _ _ _=>dE fun _ _=>rfl,
  mg_of X G a_zC,
  l_zN,
  l_zN.binds fun _ _ _ _ _ _=>dE fun _ _=>rfl,
  mg_of X G a_zN,
  l_zH,
  l_zH.binds fun _ _ _ _ _ _=>jA fun _=>rfl,
  mg_of X G a_zH,
  l_zs,
  l_zs.binds fun _ _ _ _ _ _=>kC fun _ _ _=>rfl,
  mg_of X G a_zs,
  l_zM,
  l_zM.binds fun _ _ _ _ _ _=>dE fun _ _=>rfl,
  mg_of X G a_zM,
  l_zt,
  l_zt.binds fun _ _ _ _ _ _=>iF fun _ _ _ _=>rfl,
  mg_of X G a_zt,
  l_zA,
  l_zA.binds fun _ _ _ _ _ _=>kC fun _ _ _=>rfl,
  mg_of X G a_zA,
  l_zz,
  l_zz.binds fun _ _ _ _ _ _=>Cr fun _ _ _ _ _=>rfl,
  mg_of X G a_zz,
  l_zy,
  l_zy.binds fun _ _ _ _ _ _=>dE fun _ _=>rfl,
  mg_of X G a_zy,
  l_zE,
  l_zE.binds fun _ _ _ _ _ _=>iF fun _ _ _ _=>rfl,
  mg_of X G a_zE,
  l_zG,
  l_zG.binds fun _ _ _ _ _ _=>dE fun _ _=>rfl,
  mg_of X G a_zG,
  l_zw,
  l_zw.binds fun _ _ _ _ _ _=>Cj fun _ _ _ _ _ _=>rfl,
  mg_of X G a_zw,
  l_zI,
  l_zI.binds fun _ _ _ _ _ _=>kC fun _ _ _=>rfl,
  mg_of X G a_zI,
  l_zp,
  l_zp.binds fun _ _ _ _ _ _=>dE fun _ _=>rfl,
  mg_of X G a_zp,
  l_zP,
  l_zP.binds fun _ _ _ _ _ _=>dE fun _ _=>rfl,
  mg_of X G a_zP,
  l_zm,
  l_zm.binds fun _ _ _ _ _ _=>kC fun _ _ _=>rfl,
  mg_of X G a_zm,
  l_zB,
  l_zB.binds fun _ _ _ _ _ _=>kC fun _ _ _=>rfl,
  mg_of X G a_zB,
  l_zh,
  l_zh.binds fun _ _ _ _ _ _=>iF fun _ _ _ _=>rfl,
  mg_of X G a_zh,
  l_zi,
  l_zi.binds fun _ _ _ _ _ _=>iF fun _ _ _ _=>rfl,
  mg_of X G a_zi,
  l_zk,
  l_zk.binds fun _ _ _ _ _ _=>kC fun _ _ _=>rfl,
  mg_of X G a_zk,
  l_zn,
  l_zn.binds fun _ _ _ _ _ _=>kC fun _ _ _=>rfl,
  mg_of X G a_zn,
  l_zj,
  l_zj.binds fun _ _ _ _ _ _=>jA fun _=>rfl,
  mg_of X G a_zj,
  l_zX,
  l_zX.binds fun _ _ _ _ _ _=>jA fun _=>rfl,
  mg_of X G a_zX,
  mg_of X G C_A,
  ⟨pg_A,hd_A,po_A,sa_A⟩,
  ⟨mk_A,a_zu,i_zu,kc_A⟩,
  mg_none_of X G z_all,
  mg_none_of X G z_any,
  mg_none_of X G z_bool,
  mg_none_of X G z_int,
  mg_none_of X G z_isinstance,
  mg_none_of X G z_len,
  mg_none_of X G z_list,
  mg_none_of X G z_max,
  mg_none_of X G z_min,
  mg_none_of X G z_range,
  mg_none_of X G z_reversed,
  mg_none_of X G z_set,
  mg_none_of X G z_sorted,
  mg_none_of X G z_str,
  mg_none_of X G z_tuple,
  mg_none_of X G z_zip,
  ⟨_,mg_of X G v_MOST_BOWS,⟨_,rfl⟩⟩,
  ⟨_,mg_of X G v_MOST_NAMES,⟨_,rfl⟩⟩,
  nA_bows,
  nA_count,
  nA_ties⟩,rfl,fun s v=>.of_eq rfl⟩
theorem zZ{K:PySem.W.Frag}(h:∃t:Ad,Tx K mg t/\t.a_zX=f/\∀(s:Shared) (v:Value),BindsTo s t.d_zX ⟨[v],[]⟩ [(x,v)])(e:mg "law"=some (.ref f)) :
  ∃t:Ad,Tx K mg t/\mg "law"=some (.ref t.a_zX)/\∀(s:Shared) (v:Value),BindsTo s t.d_zX ⟨[v],[]⟩ [(x,v)]:=by
 obtain⟨t,T,rfl,b⟩:=h;exact⟨t,T,e,b⟩
end Lw
end
open PySem PySem.W PyProof.Rows
set_option maxRecDepth 100000 in
set_option maxHeartbeats 0 in
theorem PySem.Challenge.cw_doingbook_k12_papers_looked_at_holds : PySem.Challenge.rw_doingbook_k12_papers_looked_at.Holds := by
 w_on;o_law;k_head;(case hw=>w_witness2)
 k_fill
 refine L2.qU (l:=PySem.Challenge.rw_doingbook_k12_papers_looked_at) (n:=63) (k:=9) (x:="_law_script") (CX:=L2.CX0) (sp:=fun K=>U.gm K U.spL) rfl (by decide) rfl ⟨rfl,by decide,by decide⟩ (fun w h Y=>PySem.W.kIn_of Y) ?F (fun K H a ns hl hO hS=>U.oM hl hO hS) (fun _ _ _ _ z=>z)
 case F =>
  intro w mg fa h KX G hmg;have T:∃t:Lw.Ad,Lw.Tx (L2.KOf KX) mg t/\mg "law"=some (.ref t.a_zX)/\∀(s:Shared) (v:Value),BindsTo s t.d_zX ⟨[v],[]⟩ [("_law_script",v)]:=by
   dsimp only[L2.KOf];refine Lw.zZ ?_ (PySem.W.mg_of KX G (by k_is));apply Lw.l7 KX G<;>((try delta Lw.nX1);(try delta Lw.nX2);(try delta Lw.fX1);(try delta Lw.kX1);first|k_is|(apply L2.zm<;>k_is) | kernel_rfl | kit_is |((repeat' (first | exact trivial | refine And.intro ?_ ?_))<;>kit_is))
  obtain⟨t,T,e,hb⟩:=T;have e0:=hmg.symm.trans e;cases e0;exact⟨t.d_zX,hb,fun base kb nb=>Lw.C5 T⟩
