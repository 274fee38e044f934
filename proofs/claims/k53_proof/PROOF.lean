import PyProof.Rows.All
import Wide.All
import OpenK.AllK
import Wide.FinOn
import Lean
import PyProof.EqAt
import PyProof.EqKinds
import PyProof.TupleCall
import PyProof.NeKinds
import PyProof.StationsW
import PyProof.RulesAs
import PyProof.ExcClass2
import PyProof.IsiH_tuple
import PyProof.NsDelKeeps
import PyProof.ConsumeWalk
import PyProof.Rows.SortWalk
import PySem.SetOps
import PySem.Builtin.Tuple.Common
import PyProof.Rows.SetFrom
import PyProof.TupleKey
import PyProof.SetRoads
import KE.KSortTup
import PyProof.DictWalks
import PyProof.FactsAll.set
import PyProof.CollectWalk
import KE.KDictList
import PyProof.Rows.Range3
import PyProof.ListRange
import PyProof.TupleOfStr
import KE.KUnpack
import PyProof.Draws
import PyProof.EnumMake
import PyProof.TupleIter
import PyProof.WalksMore
import KE.KRevIter
import PyProof.CollectIter
import PyProof.Rows.Tup
import PyProof.SumAny
import PySem.Challenge.RW_doingbook_k53_whole_never_both
set_option Elab.async false
namespace PySem.W.Fast
def tw13316591861560696651:=()
def tw10219134917270110262:=()
def tw5833192434271974380:=()
def tw15183517245386296386:=()
def tw855889441520421885:=()
def tw13463155638242745881:=()
def tw7548920540444957653:=()
def tw14188830926776878002:=()
def tw13499089858162606254:=()
def tw7570109972499238273:=()
def tw13030407159600521621:=()
def tw6891950075714798170:=()
def tw17745807507863290736:=()
def tw1006130677798936868:=()
def tw2285827756601606962:=()
def tw5820365127441042740:=()
def tw16389468005608553065:=()
def tw5106584705740513011:=()
def tw4993619612563142248:=()
def tw4906519069826512462:=()
def tw11176543178428576395:=()
def tw8267306467922236376:=()
def tw17367159037234440443:=()
def tw7279516070429589890:=()
def tw12307882167397714807:=()
def tw12082191952332552125:=()
def tw15712269530970597742:=()
def tw6700082037143634478:=()
def tw9871228866647600456:=()
def tw5788331011244304025:=()
def tw1603453174279189809:=()
def tw7019534286499441267:=()
def tw1585522789382900999:=()
def tw10547994013387228503:=()
def tw1658088691482347533:=()
def tw16855713254885760639:=()
def tw13548005221503632852:=()
def tw17268892655797471063:=()
def tw5211063913510983386:=()
def tw12126873223963011426:=()
def tw12871223601900833340:=()
def tw532425381965876877:=()
def tw18344912555442560414:=()
def tw16815117729437945529:=()
def tw6410817640072060902:=()
def tw15159934197130108342:=()
def tw2583088640517360284:=()
def tw9966568196404083837:=()
def tw11460092182297043960:=()
def tw163168470144628168:=()
def tw12300004347825194189:=()
def tw4694741144478549370:=()
def tw5764805684415586900:=()
def tw12372116187730617830:=()
def tw12752358124879950728:=()
def tw14578469867214814130:=()
def tw17665821735710952466:=()
def tw15603221932269330225:=()
def tw17637898164867524714:=()
def tw1298252462147871527:=()
def tw5981366738221808070:=()
def tw6129157871207465944:=()
def tw15236895145331096731:=()
def tw9942625202489309348:=()
def tw17932211816972187753:=()
def tw13480176152683740431:=()
def tw15188752586355136602:=()
def tw9298868387555681308:=()
def tw15087081814779738634:=()
def tw12923173128706213419:=()
def tw6906384760157638410:=()
def tw7693936318329024282:=()
def tw3767069373139842642:=()
def tw2248630133004523124:=()
def tw5991937158328515962:=()
def tw13924796877349891447:=()
def tw9038378061593599822:=()
def tw17596709022875040053:=()
def tw15015605123150536931:=()
def tw8241439218349762671:=()
def tw9180887364058315547:=()
def tw9458621182589280036:=()
def tw15127824255166931530:=()
def tw974869360802250160:=()
def tw9412098801453786810:=()
def tw1362908140565502294:=()
def tw8624503664862516249:=()
def tw8310928438576180330:=()
def tw6660149684824011552:=()
def tw1763820094313628686:=()
def tw15455465280257828606:=()
def tw5844306928338162904:=()
def tw4980024983737397554:=()
def tw14820576540198024255:=()
def tw15830977057840095391:=()
def tw8255689163510158154:=()
def tw15225542071219263085:=()
def tw13693566797784867044:=()
def tw3756521799269944729:=()
def tw2604966724661164244:=()
def tw9958903324649806453:=()
def tw466375041043570787:=()
def tw5918554765900584867:=()
def tw10258944947733730082:=()
def tw11863754723178404777:=()
def tw5795003737583456640:=()
def tw11617793935137344751:=()
def tw15877006882769448723:=()
def tw8279257921137196468:=()
def tw15590945769002839465:=()
def tw11483876395200850579:=()
def tw8415796888521972904:=()
def tw116598301856446144:=()
def tw11596419940692916936:=()
def tw18059965411333956931:=()
def tw6069931120099050402:=()
def tw10987311430757131899:=()
def tw678519030566584482:=()
def tw18324350712413428998:=()
def tw11121375520390095214:=()
def tw15792263836155716730:=()
def tw18439981496613386682:=()
def tw11770215741450611328:=()
def tw14858483079650217207:=()
def tw13882734879353140269:=()
def tw3354217257365268259:=()
def tw15834646040586547164:=()
def tw15570843987492592502:=()
def tw3285923546702983343:=()
def tw14667071105182219492:=()
def tw13084241087188320107:=()
def tw16514671167863051949:=()
def tw12179416036531374961:=()
def tw12004303808442002197:=()
def tw13129721550286498398:=()
def tw13661936541826609685:=()
def tw1421947257744084255:=()
def tw9071462054354574963:=()
def tw9489851006007269455:=()
def tw3252248115334503395:=()
def tw8164295357182749289:=()
def tw16275507941338275157:=()
def tw6059302987721202403:=()
def tw9695296852847411668:=()
def tw17070653694892064215:=()
def tw10355108883633967987:=()
def tw4038290661337421682:=()
def tw11711738093947084002:=()
def tw7595594085995366480:=()
def tw6461765261941353932:=()
def tw4064023641277585544:=()
def tw16550904781185377056:=()
def tw12796266049373534195:=()
def tw10307755063205812992:=()
def tw18048676270534680670:=()
def tw14449259169119522917:=()
def tw17061747474628929064:=()
def tw13496014531614644338:=()
def tw651981919183021685:=()
def tw11087972535904640949:=()
def tw7065553924577890892:=()
def tw8801949080254575525:=()
def tw6544432970553732240:=()
def tw13774120510307088646:=()
def tw15225066647436356495:=()
def tw1618275067814650689:=()
def tw15969413760972591525:=()
def tw10708411411374238212:=()
def tw9733815542420047015:=()
def tw11466421834627731295:=()
def tw6530704017412959223:=()
def tw15791432674715934287:=()
def tw12799616297931278979:=()
def tw8802691848631417495:=()
def tw7084207124393124745:=()
def tw315593673010807687:=()
def tw13279581865484139368:=()
def tw17439122498283155311:=()
def tw12816134151942204655:=()
def tw8961190810828215747:=()
def tw16125574050049682778:=()
def tw4849958185923063882:=()
def tw10817768649077958684:=()
def tw6553486643644223979:=()
def tw6219327260197547639:=()
def tw5170847146803393320:=()
def tw4674281891804560888:=()
def tw2984914349077664911:=()
def tw2860352645348475330:=()
def tw8906421995861603381:=()
def tw15811818985417176225:=()
def tw2692422867965403978:=()
def tw8233361967068086724:=()
def tw14182926957867340347:=()
def tw16002022729281034887:=()
def tw8203126582499565321:=()
def tw16302350051823996384:=()
def tw16598176543086482301:=()
def tw18212204639128853092:=()
def tw14700541189156954564:=()
def tw2098246620658636491:=()
def tw7145026662879872052:=()
def tw9443865826994246:=()
def tw9306940239095817699:=()
def tw17921132187806152552:=()
def tw4962731197402956550:=()
def tw2634110734104418202:=()
def tw14831151666413102389:=()
def tw930871276544694663:=()
def tw4911527423968932894:=()
def tw16417668723684542174:=()
def tw13594485761214705037:=()
def tw8302668329884145361:=()
def tw17814829627719432977:=()
def tw7925156962748489619:=()
def tw13768301233308440052:=()
def tw4537632393378090767:=()
def tw696092837379425978:=()
def tw17328532677236265997:=()
def tw1821210849544090905:=()
def tw16404680325823239464:=()
def tw899053358586840565:=()
def tw16108604532758686587:=()
def tw16667813486880379054:=()
def tw9927718271483096369:=()
def tw10230302373068009979:=()
def tw17449365149931997252:=()
def tw6534638023108432133:=()
def tw14898293172521492207:=()
def tw15956621485084830455:=()
def tw7283955429274909265:=()
def tw15833460588682925375:=()
def tw18394153373093142623:=()
def tw604060138601039920:=()
def tw4606897638866657058:=()
def tw10669903147191911839:=()
def tw12371330661898551278:=()
def tw16202446289313439989:=()
def tw3068635394931213183:=()
def tw4083661840175620982:=()
def tw13155433728192437508:=()
def tw14522691904691356459:=()
def tw17902997844034632128:=()
def tw1799414684835954194:=()
def tw9485434739690911752:=()
def tw11391675191065355867:=()
def tw13929643299681572190:=()
def tw10509423128939209626:=()
def tw15476104692835736001:=()
def tw10567643718738540725:=()
def tw8083780327158049992:=()
def tw15462147485552802154:=()
def tw9707586718571000333:=()
def tw17837644725104754845:=()
def tw2032042738002686594:=()
def tw3392721249008554350:=()
def tw14120560181179345279:=()
def tw703972140185633846:=()
def tw2360269840118076145:=()
def tw15023120546704043439:=()
def tw16216626515848154518:=()
def tw17764779912203326450:=()
def tw13033556834466135389:=()
def tw8044149741077991788:=()
def tw3871147921139012642:=()
def tw15029375845205552984:=()
def tw1307471657200626792:=()
def tw1868276593318561251:=()
def tw6202559585546714931:=()
def tw7237191742607351662:=()
def tw10662284787725326939:=()
def tw2438237887219052852:=()
def tw15544859009343678570:=()
def tw6434949376908461636:=()
def tw8924631626757022522:=()
def tw16833072101644018997:=()
def tw8869588687883773412:=()
def tw5709703077373836575:=()
def tw5625300355401329576:=()
def tw9914717605333357227:=()
def tw14959594408856667591:=()
def tw1454748257072912967:=()
def tw866346466910851499:=()
def tw11593918064575634010:=()
def tw5822064085434573501:=()
def tw2164418569057965673:=()
def tw14787499626506117221:=()
def tw7596703786611523215:=()
def tw12998342791404281891:=()
def tw17987747804802298925:=()
def tw8719671170195620601:=()
def tw4001598152598138091:=()
def tw6383441201927098192:=()
def tw8926147630795953094:=()
def tw12689060730367515277:=()
def tw14699087829438827645:=()
def tw13902112885634984314:=()
def tw13514813799955067059:=()
def tw12391725063593657282:=()
def tw5364023808785051899:=()
def tw2185645637171530875:=()
def tw14655041655630803665:=()
def tw3490813411384629294:=()
def tw12219377912179645700:=()
def tw9776390884781479374:=()
def tw7083369758547556993:=()
def tw4829845892351146546:=()
def tw6841769409649826729:=()
def tw7884417911906247504:=()
def tw13417434592747615497:=()
def tw8058642063234993788:=()
def tw17481046465903013205:=()
def tw13068277021852614084:=()
def tw4598574577646730621:=()
def tw11212632890930054516:=()
def tw15026979638134432245:=()
def tw10983507983375104531:=()
def tw1153615769285823105:=()
def tw16999084638484073211:=()
def tw9591212283606761707:=()
def tw10804116296721974037:=()
def tw6685466739754188514:=()
def tw1992154893538689836:=()
def tw16908787361699491583:=()
def tw13539922131541380303:=()
def tw15826804014352048345:=()
def tw12883105669058861060:=()
def tw2731683868372912914:=()
def tw4713170134810303450:=()
end PySem.W.Fast
set_option genSizeOf false
set_option Elab.async false
set_option linter.all false
set_option maxRecDepth 100000
section
open PySem PySem.Spec PyProof.Rows
theorem EW:type_of% @List.length_map:=@List.length_map
theorem EX:type_of% @wpAny_bind:=@wpAny_bind
theorem EY:type_of% @List.getElem?_eq_getElem:=@List.getElem?_eq_getElem
theorem EZ:type_of% @Heap.get?_push_of_some:=@Heap.get?_push_of_some
theorem E1:type_of% @wpAny_pure:=@wpAny_pure
theorem E3:type_of% @List.length_append:=@List.length_append
theorem E4:type_of% @List.getD_eq_getElem?_getD:=@List.getD_eq_getElem?_getD
theorem E5:type_of% @List.mem_singleton:=@List.mem_singleton
theorem E6:type_of% @List.getElem?_eq_some_iff:=@List.getElem?_eq_some_iff
theorem E7:type_of% @List.mem_cons_self:=@List.mem_cons_self
theorem E8:type_of% @List.map_cons:=@List.map_cons
theorem E9:type_of% @List.mem_append:=@List.mem_append
theorem Fb:type_of% @Heap.lt_size:=@Heap.lt_size
theorem Fc:type_of% @Heap.get?_push_size:=@Heap.get?_push_size
theorem Fd:type_of% @Nat.le_refl:=@Nat.le_refl
theorem Fe:type_of% @List.size_toArray:=@List.size_toArray
theorem Ff:type_of% @List.mem_cons_of_mem:=@List.mem_cons_of_mem
theorem Fg:type_of% @List.mem_map:=@List.mem_map
theorem Fh:type_of% @if_neg:=@if_neg
theorem Fi:type_of% @List.map_append:=@List.map_append
theorem Fj:type_of% @List.length_singleton:=@List.length_singleton
theorem Fl:type_of% @Nat.ne_of_lt:=@Nat.ne_of_lt
theorem Fm:type_of% @Array.getElem?_eq_getElem:=@Array.getElem?_eq_getElem
theorem Fn:type_of% @List.mem_cons:=@List.mem_cons
theorem Fo:type_of% @PySem.boot_len:=@PySem.boot_len
theorem Fp:type_of% @if_pos:=@if_pos
theorem Fq:type_of% @List.mem_filter:=@List.mem_filter
theorem Fs:type_of% @List.length_cons:=@List.length_cons
theorem Ft:type_of% @List.getElem_mem:=@List.getElem_mem
theorem Fu:type_of% @PySem.F.slot_list_append:=@PySem.F.slot_list_append
theorem Fv:type_of% @PySem.F.type_list_append:=@PySem.F.type_list_append
theorem Fw:type_of% @List.mem_append_right:=@List.mem_append_right
theorem Fx:type_of% @PassesOwn.never:=@PassesOwn.never
theorem Fy:type_of% @List.mem_of_getElem?:=@List.mem_of_getElem?
theorem Fz:type_of% @List.filter_cons:=@List.filter_cons
theorem FA:type_of% @List.length_take:=@List.length_take
theorem FC:type_of% @List.all_eq_true:=@List.all_eq_true
theorem FD:type_of% @Nat.lt_of_lt_of_le:=@Nat.lt_of_lt_of_le
theorem FE:type_of% @List.mem_append_left:=@List.mem_append_left
theorem FF:type_of% @wpAny_newObj_type:=@wpAny_newObj_type
theorem FG:type_of% @PyProof.Rows.callWith_type1:=@PyProof.Rows.callWith_type1
theorem FH:type_of% @Option.some.inj:=@Option.some.inj
theorem FI:type_of% @Nat.le_trans:=@Nat.le_trans
theorem FJ:type_of% @decide_eq_true_eq:=@decide_eq_true_eq
theorem FK:type_of% @List.getElem_map:=@List.getElem_map
theorem FL:type_of% @List.mem_range:=@List.mem_range
theorem FN:type_of% @List.getElem?_map:=@List.getElem?_map
theorem FO:type_of% @decide_eq_true:=@decide_eq_true
theorem FP:type_of% @sizeLine_eq:=@sizeLine_eq
theorem FQ:type_of% @Around.under_plainId:=@Around.under_plainId
theorem FR:type_of% @Array.getElem?_toList:=@Array.getElem?_toList
theorem FU:type_of% @wpAny_call_entry:=@wpAny_call_entry
theorem FV:type_of% @boot_tuple:=@boot_tuple
theorem FW:type_of% @List.take_length:=@List.take_length
theorem FX:type_of% @Heap.get?_update_self:=@Heap.get?_update_self
theorem FY:type_of% @Heap.SameBut.update:=@Heap.SameBut.update
theorem FZ:type_of% @List.length_drop:=@List.length_drop
theorem F0:type_of% @List.lookup_cons:=@List.lookup_cons
theorem F1:type_of% @List.append_nil:=@List.append_nil
theorem F2:type_of% @Int.toNat_natCast:=@Int.toNat_natCast
theorem F3:type_of% @codeAny_builtin:=@codeAny_builtin
theorem F4:type_of% @List.map_map:=@List.map_map
theorem F5:type_of% @Classical.byContradiction:=@Classical.byContradiction
theorem F6:type_of% @List.take_add_one:=@List.take_add_one
theorem F7:type_of% @decide_eq_false:=@decide_eq_false
theorem F8:type_of% @wpAny_ite_split:=@wpAny_ite_split
theorem F9:type_of% @wpAny_callSpecial?_slot:=@wpAny_callSpecial?_slot
theorem Ga:type_of% @List.length_range:=@List.length_range
theorem Gb:type_of% @Nat.zero_le:=@Nat.zero_le
theorem Gd:type_of% @List.getElem?_append_left:=@List.getElem?_append_left
theorem Ge:type_of% @List.drop_eq_getElem_cons:=@List.drop_eq_getElem_cons
theorem Gf:type_of% @wpAny_Call_Name_kw:=@wpAny_Call_Name_kw
theorem Gg:type_of% @Bool.and_eq_true:=@Bool.and_eq_true
theorem Gh:type_of% @Array.length_toList:=@Array.length_toList
theorem Gi:type_of% @List.length_filter_le:=@List.length_filter_le
theorem Gj:type_of% @builtinLookup_eq_fast:=@builtinLookup_eq_fast
theorem Gk:type_of% @of_decide_eq_true:=@of_decide_eq_true
theorem Gm:type_of% @List.length_eq_zero_iff:=@List.length_eq_zero_iff
theorem Gn:type_of% @List.getElem?_append_right:=@List.getElem?_append_right
theorem Gp:type_of% @wpAny_holding:=@wpAny_holding
theorem Gq:type_of% @Bool.eq_iff_iff:=@Bool.eq_iff_iff
theorem Gr:type_of% @List.filter_eq_nil_iff:=@List.filter_eq_nil_iff
theorem Gs:type_of% @List.filter_eq_self:=@List.filter_eq_self
theorem Gu:type_of% @List.getElem?_eq_none:=@List.getElem?_eq_none
theorem Gv:type_of% @Bool.false_ne_true:=@Bool.false_ne_true
theorem Gw:type_of% @wpAny_field:=@wpAny_field
theorem Gx:type_of% @F.plain_set_update_loop:=@F.plain_set_update_loop
theorem Gy:type_of% @wpAny_truthy_bool:=@wpAny_truthy_bool
theorem Gz:type_of% @Nat.ne_of_gt:=@Nat.ne_of_gt
theorem GA:type_of% @Heap.size_push:=@Heap.size_push
theorem GB:type_of% @Nat.lt_succ_of_lt:=@Nat.lt_succ_of_lt
theorem GC:type_of% @wpAny_setState_of:=@wpAny_setState_of
theorem GD:type_of% @Array.getElem?_eq_none:=@Array.getElem?_eq_none
theorem GF:type_of% @isSubtype_type:=@isSubtype_type
theorem GG:type_of% @List.append_assoc:=@List.append_assoc
theorem GH:type_of% @typeLookup_type:=@typeLookup_type
theorem GI:type_of% @Nat.lt_irrefl:=@Nat.lt_irrefl
theorem GK:type_of% @plainId_quiet:=@plainId_quiet
theorem GL:type_of% @wpAny_of_eq:=@wpAny_of_eq
theorem GN:type_of% @List.any_eq_true:=@List.any_eq_true
theorem GO:type_of% @List.Perm.refl:=@List.Perm.refl
theorem GP:type_of% @Bool.false_eq_true:=@Bool.false_eq_true
theorem GQ:type_of% @wpAny_setField:=@wpAny_setField
theorem GR:type_of% @List.pairwise_cons:=@List.pairwise_cons
theorem GS:type_of% @wpAny_passesOwn:=@wpAny_passesOwn
theorem GU:type_of% @List.nodup_cons:=@List.nodup_cons
theorem GV:type_of% @wpAny_specialOf:=@wpAny_specialOf
theorem GW:type_of% @List.pairwise_map:=@List.pairwise_map
theorem GX:type_of% @wpAny_mono:=@wpAny_mono
theorem GY:type_of% @beq_iff_eq:=@beq_iff_eq
theorem GZ:type_of% @Nat.le_of_lt:=@Nat.le_of_lt
theorem G0:type_of% @codeAny_mono:=@codeAny_mono
namespace L2
section
abbrev Key:=Sum Int Str
def jK:Key->Value->Bool
 | .inl k,v=>Value.isInt k v
 | .inr x,v=>Value.isStrOf x v
def Dg(w:World):Key->Int
 | .inl k=>hashInt k
 | .inr x=>hashStr w x
theorem bM:∀{k:Key} {v:Value},jK k v=true->(∃i t,k=Sum.inl i/\v=Value.int i t)∨(∃x t,k=Sum.inr x/\v=Value.str x t)
 | .inl i,v,h=>by
  obtain⟨t,e⟩:=Value.isInt_shape (k:=i) (v:=v) h;exact .inl ⟨i,t,rfl,e⟩
 | .inr x,v,h=>by
  obtain⟨t,e⟩:=Value.isStrOf_shape (x:=x) (v:=v) h;exact .inr ⟨x,t,rfl,e⟩
theorem pJ(i:Int)(t:Tok):jK (.inl i) (.int i t)=true:=by simp[jK,Value.isInt]
theorem pP(x:Str)(t:Tok):jK (.inr x) (.str x t)=true:=by simp[jK,Value.isStrOf]
theorem yZ(a b:Int):decide ((Sum.inl a:Key)=Sum.inl b)=(a==b):=by
 by_cases e:a=b
 ·subst e;simp
 ·have h:¬(Sum.inl a:Key)=Sum.inl b:=fun q=>e (Sum.inl.inj q);rw[F7 h];exact(beq_eq_false_iff_ne.mpr e).symm
theorem yR(a b:Str):decide ((Sum.inr a:Key)=Sum.inr b)=decide (a=b):=by
 by_cases e:a=b
 ·subst e;simp
 ·have h:¬(Sum.inr a:Key)=Sum.inr b:=fun q=>e (Sum.inr.inj q);rw[F7 h,F7 e]
theorem y2(a:Int)(b:Str):decide ((Sum.inl a:Key)=Sum.inr b)=false:=F7 (fun q=>nomatch q)
theorem zX(a:Str)(b:Int):decide ((Sum.inr a:Key)=Sum.inl b)=false:=F7 (fun q=>nomatch q)
def bV(prog:Program)(w:World):PySem.KeyKind prog w Key where
 is:=jK
 hash:=Dg w
 inj:=fun v a b ha hb=>by
  rcases bM ha with⟨i,t,rfl,rfl⟩ |⟨x,t,rfl,rfl⟩
  ·rcases bM hb with⟨j,u,rfl,e⟩ |⟨y,u,rfl,e⟩
   ·injection e with e1 _;rw[e1]
   ·exact nomatch e
  ·rcases bM hb with⟨j,u,rfl,e⟩ |⟨y,u,rfl,e⟩
   ·exact nomatch e
   ·injection e with e1 _;rw[e1]
 byValue:=fun k v h=>by
  rcases bM h with⟨i,t,rfl,rfl⟩ |⟨x,t,rfl,rfl⟩<;>rfl
 pyHash:=fun hv h=>by
  rcases bM hv with⟨i,t,rfl,rfl⟩ |⟨x,t,rfl,rfl⟩
  ·exact wpAny_pyHash_int h
  ·exact wpAny_pyHash_str h
 eqBool:=fun hu hv h=>by
  rcases bM hu with⟨i,t,rfl,rfl⟩ |⟨x,t,rfl,rfl⟩
  ·rcases bM hv with⟨j,u,rfl,rfl⟩ |⟨y,u,rfl,rfl⟩
   ·rw[yZ]at h;exact wpAny_eqBool_int h
   ·rw[y2]at h;exact SeqAt.EqAt.int_str i t y u _ _ _ _ h
  ·rcases bM hv with⟨j,u,rfl,rfl⟩ |⟨y,u,rfl,rfl⟩
   ·rw[zX]at h;exact SeqAt.EqAt.str_int x t j u _ _ _ _ h
   ·rw[yR]at h;exact wpAny_eqBool_str h
 «strs»:=fun k x t v h=>by
  rcases bM h with⟨i,u,rfl,e⟩ |⟨y,u,rfl,e⟩
  ·exact nomatch e
  ·injection e with e1 _;subst e1;cases v<;>rfl
theorem lC(prog:Program)(w:World)(i:Int)(t:Tok):(bV prog w).is (.inl i) (.int i t)=true:=pJ i t
theorem kC(prog:Program)(w:World)(x:Str)(t:Tok):(bV prog w).is (.inr x) (.str x t)=true:=pP x t
end
section
inductive V where
 | non | bl (b:Bool) | int (i:Int) | str (x:Str) | byt (b:Array UInt8) | flt (b:UInt64) | ref (a:Addr) | ty (n:String)
 deriving DecidableEq
def RelV:V->Value->Prop
 | .non,u=>u=Value.none
 | .bl b,u=>u=Value.bool b
 | .int i,u=>∃t,u=Value.int i t
 | .str x,u=>∃t,u=Value.str x t
 | .byt b,u=>∃t,u=Value.bytes b t
 | .flt b,u=>∃t,u=Value.float b t
 | .ref a,u=>u=Value.ref a
 | .ty n,u=>u=Value.type n
abbrev Vals:List V->List Value->Prop:=Paired RelV
theorem Vals.length{xs:List V}{us:List Value}(r:Vals xs us):xs.length=us.length:=Paired.length r
theorem Vals.get:∀{xs:List V} {us:List Value} {i:Nat} {x:V},Vals xs us->xs[i]?=some x->∃u,us[i]?=some u/\RelV x u
 | _,_,_,_,.nil,e=>by simp at e
 | _,_,0,_,.cons r _,e=>by simp at e;subst e;exact⟨_,rfl,r⟩
 | _,_,i+1,x,.cons _ t,e=>by
  obtain⟨u,h1,h2⟩:=Vals.get (i:=i) (x:=x) t (by simpa using e);exact⟨u,by simpa using h1,h2⟩
theorem Vals.append:∀{xs ys:List V} {us ws:List Value},Vals xs us->Vals ys ws->Vals (xs++ys) (us++ws)
 | _,_,_,_,.nil,s=>s
 | _,_,_,_,.cons r t,s=>.cons r (Vals.append t s)
theorem Vals.take:∀{xs:List V} {us:List Value} (n:Nat),Vals xs us->Vals (xs.take n) (us.take n)
 | _,_,0,_=>.nil
 | _,_,_+1,.nil=>.nil
 | _,_,n+1,.cons r t=>.cons r (Vals.take n t)
theorem Vals.drop:∀{xs:List V} {us:List Value} (n:Nat),Vals xs us->Vals (xs.drop n) (us.drop n)
 | _,_,0,r=>r
 | _,_,_+1,.nil=>.nil
 | _,_,n+1,.cons _ t=>Vals.drop n t
def f7:Option V->Option Value->Prop
 | some v,some u=>RelV v u
 | none,none=>True
 | _,_=>False
def KV{κ:Type}:List (κ×V)->List (κ×Value)->Prop:=Paired fun(p:κ×V) (q:κ×Value)=>p.1=q.1/\RelV p.2 q.2
def kV:Key->V
 | .inl i=>.int i
 | .inr x=>.str x
inductive HO where
  | lst (xs:List V)
  | tup (xs:List V)
  | dK (kvs:List (Key×V)) | dT (kvs:List (List Key×V))
  | set (S:Int->Bool) (n:Nat)
  | ins (C dx:Addr) (fs:List (Str×V))
  | own (x:Addr)
  | xd (fs:List (Str×V))
  | met (f x:Addr)
  | rng (lo hi:Int)
  | frz (o:Obj) (u:HO)
  | tbl (ps:Array Value)
  | ext (φ:Heap->Prop)
abbrev Hp:=Addr->Option HO
def upd(H:Hp)(a:Addr)(o:HO):Hp:=fun b=>if b=a then some o else H b
theorem bt{H:Hp}{a:Addr}{o:HO}:upd H a o a=some o:=by unfold upd;rw[Fp rfl]
theorem aZ{H:Hp}{a b:Addr}{o:HO}(h:b≠a):upd H a o b=H b:=by unfold upd;rw[Fh h]
theorem t7{H:Hp}{a b:Addr}{o u:HO}(h:H a=some o)(h':H b=some u)(d:o≠u):a≠b:=by
 intro e;subst e;rw[h]at h';exact d (FH h')
theorem bf{H:Hp}{a b:Addr}{o:HO}(h:H a=some o)(h':H b=none):a≠b:=by
 intro e;subst e;rw[h]at h';cases h'
section
variable (P:Program)(w:World)
def bQ(H:Hp)(h:Heap)(a:Addr):HO->Prop
 | .lst xs=>xs.length≤sizeLine/\∃(its:List Value) (n:Nat),Vals xs its/\h.get? a=some { cls:=.type "list",data:=.seq its.toArray n }
 | .tup xs=>xs.length≤sizeLine/\∃its:List Value,Vals xs its/\IsTup h a its.toArray
 | .dK kvs=>kvs.length≤sizeLine/\(a==sysModules)=false/\∃vs,KV kvs vs/\h.DictOf (bV P w) a vs
 | .dT kvs=>kvs.length≤sizeLine/\(a==sysModules)=false/\∃xs:List (List Key×Addr×Value),
   Paired (fun(p:List Key×V) (q:List Key×Addr×Value)=>p.1=q.1/\H q.2.1=some (.tup (p.1.map kV))/\RelV p.2 q.2.2) kvs xs /\
   ∃o es ep,h.get? a=some o/\o.ExactDict/\o.data=.dict es ep/\es.toList=xs.map (entryOfKey (tupleKind (bV P w)))/\(xs.map (·.1)).Nodup
 | .set S n=>h.SetOf (intKind P w) a S n
 | .ins C dx fs=>H dx=some (.own a)/\fs.length≤1000/\dx≠a/\h.get? a=some (PySem.W.instObj C dx) /\
   ∃mA,h.Ns1 dx mA/\(∀f,f7 (fs.lookup f) (mA f))/\PySem.Within mA (fs.map (·.1))
 | .own _=>∃o,h.get? a=some o
 | .xd fs=>∃mA,h.Ns1 a mA/\∀f,f7 (fs.lookup f) (mA f)
 | .rng lo hi=>∃t u v,h.get? a=some { cls:=.type "range",data:=.fields #[.int lo t,.int hi u,.int 1 v] }
 | .frz o u=>h.get? a=some o/\bQ H h a u
 | .tbl ps=>h.get? a=some { cls:=.none,data:=.fields ps }
 | .met f x=>h.get? a=some (PySem.W.methodObj (.ref f) (.ref x))
 | .ext φ=>φ h/\(∃o,h.get? a=some o)/\∀h1 h2:Heap,φ h1->(∀o,h1.get? a=some o->h2.get? a=some o)->φ h2
def HOk(H:Hp)(h:Heap):Prop:=∀a o,H a=some o->bQ P w H h a o
end
section
variable {P:Program}{w:World}{H H':Hp}{h h':Heap}{a:Addr}{o:HO}
theorem bQ.lt(x:bQ P w H h a o):a<h.objs.size:=by
 cases o with
 | lst xs=>obtain⟨_,_,_,_,e⟩:=x;exact Fb e
 | tup xs=>obtain⟨_,_,_,p⟩:=x;exact p.lt
 | dK kvs=>obtain⟨_,_,_,_,o,_,_,e,_⟩:=x;exact Fb e
 | dT kvs=>obtain⟨_,_,_,_,o,_,_,e,_⟩:=x;exact Fb e
 | set S n=>obtain⟨o,_,_,_,e,_⟩:=x;exact Fb e
 | ins C dx fs=>obtain⟨_,_,_,e,_⟩:=x;exact Fb e
 | own y=>obtain⟨_,e⟩:=x;exact Fb e
 | xd fs=>obtain⟨_,⟨_,_,_,e,_⟩,_⟩:=x;exact Fb e
 | rng lo hi=>obtain⟨_,_,_,e⟩:=x;exact Fb e
 | frz ob u=>obtain⟨e,_⟩:=x;exact Fb e
 | tbl ps=>exact Fb (show h.get? a=some _ from x)
 | met f y=>exact Fb (show h.get? a=some _ from x)
 | ext φ=>obtain⟨_,⟨_,e⟩,_⟩:=x;exact Fb e
theorem Paired.mapP{α β:Type}{F G:α->β->Prop}:∀{l₁:List α} {l₂:List β},Paired F l₁ l₂->(∀a b,F a b->G a b)->Paired G l₁ l₂
 | _,_,.nil,_=>.nil
 | _,_,.cons r t,f=>.cons (f _ _ r) (Paired.mapP t f)
theorem bQ.stay(x:bQ P w H h a o)(k:∀b u,(b=a∨H b=some (.own a))->h.get? b=some u->h'.get? b=some u)
  (ho:∀b,H b=some (.own a)->H' b=some (.own a)) (ht:∀b xs,H b=some (.tup xs)->H' b=some (.tup xs)):bQ P w H' h' a o:=by
 induction o with
 | lst xs=>obtain⟨z,its,n,r,e⟩:=x;exact⟨z,its,n,r,k _ _ (.inl rfl) e⟩
 | tup xs=>obtain⟨z,its,r,ob,e,c⟩:=x;exact⟨z,its,r,ob,k _ _ (.inl rfl) e,c⟩
 | dK kvs=>obtain⟨z,y,vs,r,ob,es,ep,e,c⟩:=x;exact⟨z,y,vs,r,ob,es,ep,k _ _ (.inl rfl) e,c⟩
 | dT kvs =>
  obtain⟨z,y,xs,r,ob,es,ep,e,c⟩:=x;exact⟨z,y,xs,Paired.mapP r fun p q z=>⟨z.1,ht _ _ z.2.1,z.2.2⟩,ob,es,ep,k _ _ (.inl rfl) e,c⟩
 | set S n=>obtain⟨ob,es,ep,t,e,c⟩:=x;exact⟨ob,es,ep,t,k _ _ (.inl rfl) e,c⟩
 | ins C dx fs =>
  obtain⟨d,z,ne,e,mA,⟨od,es,ep,e2,c⟩,r⟩:=x;exact⟨ho _ d,z,ne,k _ _ (.inl rfl) e,mA,⟨od,es,ep,k _ _ (.inr d) e2,c⟩,r⟩
 | own y=>obtain⟨ob,e⟩:=x;exact⟨ob,k _ _ (.inl rfl) e⟩
 | xd fs=>obtain⟨mA,⟨od,es,ep,e,c⟩,r⟩:=x;exact⟨mA,⟨od,es,ep,k _ _ (.inl rfl) e,c⟩,r⟩
 | rng lo hi=>obtain⟨t,u,v,e⟩:=x;exact⟨t,u,v,k _ _ (.inl rfl) e⟩
 | frz ob u ih=>obtain⟨e,q⟩:=x;exact⟨k _ _ (.inl rfl) e,ih q⟩
 | tbl ps =>
  have e:h.get? a=some { cls:=.none,data:=.fields ps }:=x;show h'.get? a=some { cls:=.none,data:=.fields ps };exact k a _ (.inl rfl) e
 | met f y =>
  have e:h.get? a=some (PySem.W.methodObj (.ref f) (.ref y)):=x;show h'.get? a=some (PySem.W.methodObj (.ref f) (.ref y));exact k a _ (.inl rfl) e
 | ext φ=>obtain⟨p,⟨o,e⟩,st⟩:=x;exact⟨st _ _ p fun o q=>k _ _ (.inl rfl) q,⟨o,k _ _ (.inl rfl) e⟩,st⟩
theorem HOk.lt(x:HOk P w H h)(e:H a=some o):a<h.objs.size:=(x a o e).lt
theorem HOk.fresh(x:HOk P w H h)(e:h.objs.size≤a):H a=none:=by
 cases q:H a with
 | none=>rfl
 | some u=>exact absurd (FD (x.lt q) e) (GI _)
theorem HOk.kept(x:HOk P w H h)(k:∀b u,h.get? b=some u->h'.get? b=some u):HOk P w H h':=fun a o e =>
 (x a o e).stay (fun b u _ q=>k b u q) (fun _ q=>q) fun _ _ q=>q
theorem HOk.laid(x:HOk P w H h)(k:∀b u,h.get? b=some u->h'.get? b=some u)(hp:h.objs.size≤a)(new:bQ P w (upd H a o) h' a o):HOk P w (upd H a o) h':=fun b u e=>by
 have hn:=x.fresh hp;by_cases hb:b=a
 ·subst hb;rw[bt]at e;cases e;exact new
 ·rw[aZ hb]at e;exact(x b u e).stay (fun c v _ q=>k c v q) (fun c q=>by rw[aZ (bf q hn)];exact q) fun c xs q=>by rw[aZ (bf q hn)];exact q
end
def Rd(H:Hp)(a:Addr)(u:HO):Prop:=H a=some u∨∃o,H a=some (.frz o u)
theorem Rd.ok{P:Program}{w:World}{H:Hp}{h:Heap}{a:Addr}{u:HO}(r:Rd H a u)(x:HOk P w H h):bQ P w H h a u:=by
 rcases r with r |⟨o,r⟩
 ·exact x a u r
 ·obtain⟨_,q⟩:=x a _ r;exact q
def Mut:Option HO->Prop
 | some (.lst _)=>True
 | some (.dK _)=>True
 | some (.dT _)=>True
 | some (.set _ _)=>True
 | some (.ins _ _ _)=>True
 | some (.ext _)=>True
 | _=>False
section
variable {P:Program}{w:World}{H:Hp}{h h':Heap}{x e:Addr}{o':HO}
theorem HOk.write(ok:HOk P w H h)(mu:Mut (H x))(he:e=x∨H e=some (.own x))(k:∀b u,b≠e->h.get? b=some u->h'.get? b=some u)(heo:∃u,h'.get? e=some u)
  (new:bQ P w (upd H x o') h' x o'):HOk P w (upd H x o') h':=fun b u q=>by
 have nown:∀c y,H c=some (.own y)->c≠x:=fun c y r z=>by subst z;rw[r]at mu;exact mu
 have ntup:∀c xs,H c=some (.tup xs)->c≠x:=fun c xs r z=>by subst z;rw[r]at mu;exact mu
 by_cases hb:b=x
 ·subst hb;rw[bt]at q;cases q;exact new
 ·rw[aZ hb]at q;by_cases hbe:b=e
  ·have q':H b=some (.own x):=by
    rcases he with z | z
    ·exact absurd (hbe.trans z) hb
    ·rw[hbe];exact z
   rw[q]at q';cases q';obtain⟨v,hv⟩:=heo;exact⟨v,by rw[hbe];exact hv⟩
  ·refine(ok b u q).stay (fun c v hc r=>k c v ?_ r) (fun c r=>by rw[aZ (nown c b r)];exact r) fun c xs r=>by rw[aZ (ntup c xs r)];exact r
   rcases hc with rfl | hc
   ·exact hbe
   ·rintro rfl;rcases he with z | z
    ·exact nown c b hc z
    ·rw[hc]at z;cases z;exact hb rfl
end
structure Un (fs ex:List Addr) (H H':Hp) (h h':Heap):Prop where
 keep:∀b o,h.get? b=some o->H b=none->b∉fs->b∉ex->h'.get? b=some o
 slot:∀b o,h.get? b=some o->H b=none->b∈fs->b∉ex->∃sl,h'.get? b=some { o with slots:=sl }
 free:∀b o,h.get? b=some o->H b=none->b∉ex->H' b=none
 there:∀b o,h.get? b=some o->b∉ex->∃o',h'.get? b=some o'
 tups:∀b xs,H b=some (.tup xs)->H' b=some (.tup xs)
 frzs:∀b o u,H b=some (.frz o u)->H' b=some (.frz o u)
 tbls:∀b ps,H b=some (.tbl ps)->∃more,H' b=some (.tbl (ps++more))
section
variable {fs fs' ex ex':List Addr}{H H1 H2:Hp}{h h1 h2 h':Heap}{a x e:Addr}{o:HO}
theorem Un.any(u:Un fs ex H H1 h h1){b:Addr}{ob:Obj}(q:h.get? b=some ob)(n:H b=none)(hx:b∉ex):∃sl,h1.get? b=some { ob with slots:=sl }:=by
 by_cases hb:b∈fs
 ·exact u.slot b ob q n hb hx
 ·exact⟨ob.slots,u.keep b ob q n hb hx⟩
theorem Un.kept(k:∀b u,h.get? b=some u->h'.get? b=some u):Un fs ex H H h h' :=
 ⟨fun b ob q _ _ _=>k b ob q,fun b ob q _ _ _=>⟨ob.slots,k b ob q⟩,fun _ _ _ n _=>n,fun b ob q _=>⟨ob,k b ob q⟩,fun _ _ q=>q,fun _ _ _ q=>q,fun _ ps q=>⟨#[],by rw[q];simp⟩⟩
theorem Un.refl:Un fs ex H H h h:=Un.kept fun _ _ q=>q
theorem Un.laid(k:∀b u,h.get? b=some u->h'.get? b=some u)(hp:h.objs.size≤a)(hn:H a=none):Un fs ex H (upd H a o) h h' where
 keep:=fun b u q _ _ _=>k b u q
 slot:=fun b u q _ _ _=>⟨u.slots,k b u q⟩
 free:=fun b u q n _=>by rw[aZ (Fl (FD (Fb q) hp))];exact n
 there:=fun b u q _=>⟨u,k b u q⟩
 tups:=fun b xs q=>by rw[aZ (bf q hn)];exact q
 frzs:=fun b u xs q=>by rw[aZ (bf q hn)];exact q
 tbls:=fun b ps q=>⟨#[],by rw[aZ (bf q hn),q];simp⟩
theorem Un.write(mu:Mut (H x))(he:e=x∨H e=some (.own x))(k:∀b u,b≠e->h.get? b=some u->h'.get? b=some u)(heo:∃u,h'.get? e=some u):Un fs ex H (upd H x o) h h':=by
 have hx:∀b,H b=none->b≠x:=fun b n z=>by subst z;rw[n]at mu;exact mu
 have hb:∀b,H b=none->b≠e:=fun b n z=>by
  subst z;rcases he with r | r
  ·exact hx b n r
  ·rw[n]at r;cases r
 have hm:∀b u,H b=some u->¬Mut (some u)->b≠x:=fun b u q nm z=>by subst z;rw[q]at mu;exact nm mu
 refine⟨fun b u q n _ _=>k b u (hb b n) q,fun b u q n _ _=>⟨u.slots,k b u (hb b n) q⟩,fun b u q n _=>by rw[aZ (hx b n)];exact n,fun b u q _=>?_,
  fun b xs q=>by rw[aZ (hm b _ q fun z=>z)];exact q,fun b u xs q=>by rw[aZ (hm b _ q fun z=>z)];exact q,fun b ps q=>⟨#[],by rw[aZ (hm b _ q fun z=>z),q];simp⟩⟩
 by_cases hbe:b=e
 ·subst hbe;exact heo
 ·exact⟨u,k b u hbe q⟩
end
def trk(h:Heap)(H:Hp):List Addr:=(List.range h.objs.size).filter fun a=>(H a).isSome
def ka(h:Heap)(H:Hp):Heap:=PySem.W.hideAll h (trk h H)
theorem ph(h:Heap)(H:Hp):(ka h H).objs.size=h.objs.size:=PySem.W.hideAll_size _ _
theorem tN{h:Heap}{H:Hp}{b:Addr}{o:Obj}(e:h.get? b=some o)(n:H b=none):(ka h H).get? b=some o :=
 PySem.W.hideAll_get _ e fun hm=>by
  have q:(H b).isSome=true:=(Fq.mp hm).2;rw[n]at q;simp at q
theorem vV{h:Heap}{H:Hp}{b:Addr}{o:Obj}(e:(ka h H).get? b=some o):h.get? b=some o/\H b=none:=by
 have e':h.get? b=some o:=PySem.W.of_hideAll (trk h H) e;refine⟨e',?_⟩;cases q:H b with
 | none=>rfl
 | some x =>
  have hm:b∈trk h H:=Fq.mpr ⟨FL.mpr (Fb e'),by simp[q]⟩;have z:(ka h H).get? b=none:=PySem.W.hideAll_none (trk h H) hm;rw[z]at e;cases e
def wD(g h:Heap)(L:Addr):List (Addr×Obj):=(List.range h.objs.size).filterMap fun a=>if a=L∨(g.get? a).isSome=true then none else(h.get? a).map fun o=>(a,o)
def rest(g h:Heap)(L d:Addr):List (Addr×Obj):=(wD g h L).filter fun p=>decide (p.1≠d)
end
section
structure Mod (K:PySem.W.Frag) (mg:Str→Option Value) (base:Heap):Prop where
 kin:K.In base
 glob:base.Ns mainGlobals mg
 blt:∃mb,base.Ns builtinsNs mb/\∀x:Str,x≠"__name__"->mb x=bootBuiltins x
 nolimit:base.NoLimit
structure Cx where
 prog:Program
 w:World
 K:PySem.W.Frag
 mg:Str->Option Value
 base:Heap
 A:Around
 N:List Str
 s₀:Shared
 H₀:Hp
 env:Env
 outer:List Env
 stack:List Env
 ex:List Addr
 fn:Str->Bool
 calm:Bool
 pn:List (Addr×Obj)
 xe:Value->Shared->Prop
def frs(l:List Env):List Addr:=l.filterMap (·.frame)
abbrev Cx.fs(X:Cx):List Addr:=frs X.outer
def Vis(sc:Scope)(x:Str):Prop:=sc.names.lookup x=some .local∨sc.names.lookup x=some .cell∨sc.names.lookup x=some .free
def Loc(sc:Scope)(x:Str):Prop:=sc.names.lookup x=some .local∨sc.names.lookup x=some .cell
def Look(env:Env)(h:Heap)(m:Str->Option Value)(x:Str)(u:Value):Prop :=
 (env.kindOf x=some .local/\m x=some u)∨((env.kindOf x=some .cell∨env.kindOf x=some .free)/\∃c,env.cells.lookup x=some c/\h.IsCell c (some u))
structure Cx.Ok (X:Cx):Prop where
 mod:Mod X.K X.mg X.base
 kind:X.env.scope.kind=.function
 glob:X.env.globals=mainGlobals
 blt:X.env.builtins=builtinsNs
 above:X.s₀.heap.objs.size≤X.env.locals
 inj:∀x y c,X.env.cells.lookup x=some c->X.env.cells.lookup y=some c->x=y
 has:∀x,(X.env.kindOf x=some .cell∨X.env.kindOf x=some .free)->∃c,X.env.cells.lookup x=some c
 cab:∀x c,X.fn x=true->X.env.cells.lookup x=some c->X.s₀.heap.objs.size≤c
 hd:X.calm=true->X.A.handled=none
 frames:X.A.frames=some X.stack
 stk:X.stack=X.outer∨(X.stack=X.env::X.outer/\X.env.frame=some X.env.locals)
 exf:∀b∈X.ex,b≠X.env.locals/\∀x c,X.env.cells.lookup x=some c->c≠b
 bs:∀b o,X.base.get? b=some o->X.s₀.heap.get? b=some o/\X.H₀ b=none
 bsz:X.base.objs.size≤X.s₀.heap.objs.size
 noex:∀b o,X.base.get? b=some o->b∉X.ex
 exfs:∀b∈X.ex,b∉X.fs
 funs:X.s₀.heap.FunFrames X.base X.outer
 frf:∀b∈X.fs,X.H₀ b=none
structure Inv (X:Cx) (pins:List (Addr × Obj)) (σ:List (Option V)) (H:Hp) (s:Shared):Prop where
 ok:X.Ok
 os:s.os=X.s₀.os
 bare:AllBare s.gens
 base:Un X.fs X.ex X.H₀ H X.s₀.heap s.heap
 loc:∃m,s.heap.Ns X.env.locals m/\∀(i:Nat) (x:Str) (v:V),X.N[i]?=some x->σ[i]?=some (some v)->Vis X.env.scope x->∃u,RelV v u/\Look X.env s.heap m x u
 cell:∀x c,X.env.cells.lookup x=some c->∃v,s.heap.IsCell c v
 free:H X.env.locals=none
 freeC:∀x c,X.env.cells.lookup x=some c->H c=none
 pin:∀p∈X.pn++pins,s.heap.get? p.1=some p.2/\H p.1=none/\p.1≠X.env.locals/\p.1∉X.fs/\∀v,p.2.data≠.cell v
 hok:HOk X.prog X.w H s.heap
 len:σ.length=X.N.length
section
variable {X:Cx}{pins:List (Addr×Obj)}{σ:List (Option V)}{H H':Hp}{s:Shared}{h':Heap}
theorem Cx.Ok.nofr(ok:X.Ok){b:Addr}{o:Obj}(e:X.base.get? b=some o):b∉X.fs:=fun hb=>by
 have:=(ok.funs.mem hb).1;rw[e]at this;cases this
theorem Inv.bs(I:Inv X pins σ H s):∀b o,X.base.get? b=some o->s.heap.get? b=some o/\H b=none:=fun b o e =>
 ⟨I.base.keep b o (I.ok.bs b o e).1 (I.ok.bs b o e).2 (I.ok.nofr e) (I.ok.noex b o e),I.base.free b o (I.ok.bs b o e).1 (I.ok.bs b o e).2 (I.ok.noex b o e)⟩
theorem Inv.bk(I:Inv X pins σ H s):∀b o,X.base.get? b=some o->s.heap.get? b=some o:=fun b o e=>(I.bs b o e).1
theorem Inv.mod(I:Inv X pins σ H s):Mod X.K X.mg X.base:=I.ok.mod
theorem Inv.kIn(I:Inv X pins σ H s):X.K.In s.heap:=I.ok.mod.kin.keeps I.bk
theorem Inv.lt(I:Inv X pins σ H s):X.env.locals<s.heap.objs.size:=let ⟨_,hn,_⟩:=I.loc;hn.lt
theorem Inv.sz(I:Inv X pins σ H s):X.s₀.heap.objs.size≤s.heap.objs.size:=FI I.ok.above (GZ I.lt)
theorem Inv.nofs(I:Inv X pins σ H s){a:Addr}(h:s.heap.objs.size≤a):a∉X.fs:=fun hb=>by
 obtain⟨_,o,ho,_⟩:=I.ok.funs.mem hb;exact absurd (FD (Fb ho) (FI I.sz h)) (GI _)
theorem Inv.cne(I:Inv X pins σ H s):∀x c,X.env.cells.lookup x=some c->c≠X.env.locals:=fun x c e z=>by
 obtain⟨v,o,ho,hd⟩:=I.cell x c e;obtain⟨m,⟨o',es,ep,ho',hd',_⟩,_⟩:=I.loc;rw[z,ho']at ho;cases ho;rw[hd']at hd;cases hd
theorem Inv.funs(I:Inv X pins σ H s):s.heap.FunFrames X.base X.outer:=by
 have all:∀(l:List Env),(∀b∈frs l,b∈X.fs)->X.s₀.heap.FunFrames X.base l->s.heap.FunFrames X.base l:=by
  intro l
  induction l with
  | nil=>intro _ _;trivial
  | cons env r ih =>
   intro hs hl;obtain⟨hk,⟨L,o,hf,hn,ho,hd⟩,hr⟩:=hl;have hL:L∈X.fs:=hs L (by unfold frs;rw[List.filterMap_cons,hf];exact E7);obtain⟨sl,e⟩:=I.base.slot L o ho (I.ok.frf L hL) hL fun z=>I.ok.exfs L z hL;exact⟨hk,⟨L,_,hf,hn,e,hd⟩,ih (fun b hb=>hs b (by unfold frs;rw[List.filterMap_cons,hf];exact Ff _ hb)) hr⟩
 exact all X.outer (fun _ hb=>hb) I.ok.funs
theorem Inv.stack(I:Inv X pins σ H s):s.heap.FunFrames X.base X.stack:=by
 rcases I.ok.stk with e |⟨e,hf⟩
 ·rw[e];exact I.funs
 ·rw[e];obtain⟨m,hn,_⟩:=I.loc;refine .cons (by rw[I.ok.kind];decide) hf hn ?_ I.funs;exact Heap.get?_none_of_le (FI I.ok.bsz I.ok.above)
theorem Inv.stkSub(I:Inv X pins σ H s):∀b∈frs X.stack,b∈X.env.locals::X.fs:=fun b hb=>by
 rcases I.ok.stk with e |⟨e,hf⟩
 ·rw[e]at hb;exact Ff _ hb
 ·rw[e]at hb;unfold frs at hb;rw[List.filterMap_cons,hf]at hb;exact hb
theorem Inv.stkFree(I:Inv X pins σ H s):∀b∈frs X.stack,H b=none:=fun b hb=>by
 rcases Fn.mp (I.stkSub b hb)with e | hb
 ·rw[e];exact I.free
 ·obtain⟨_,o,ho,_⟩:=I.ok.funs.mem hb;exact I.base.free b o ho (I.ok.frf b hb) fun z=>I.ok.exfs b z hb
theorem Inv.step{g':Array GenState}{t':Nat}{d':Drawn}{ch:List Addr}(I:Inv X pins σ H s)
  (hch:∀b∈ch,(b∈X.ex∨X.s₀.heap.objs.size≤b)/\b≠X.env.locals/\(∀x c,X.env.cells.lookup x=some c->c≠b)/\∀p∈X.pn++pins,p.1≠b)
  (keep:∀b o,b≠X.env.locals->b∉X.fs->b∉ch->s.heap.get? b=some o->H b=none->h'.get? b=some o)
  (slot:∀b o,b≠X.env.locals->b∈X.fs->b∉ch->s.heap.get? b=some o->H b=none->∃sl,h'.get? b=some { o with slots:=sl }) (free:∀b o,b∉ch->s.heap.get? b=some o->H b=none->H' b=none)
  (there:∀b o,b∉ch->s.heap.get? b=some o->∃o',h'.get? b=some o')
  (tups:∀b xs,H b=some (.tup xs)->H' b=some (.tup xs)) (frzs:∀b o u,H b=some (.frz o u)->H' b=some (.frz o u)) (tbls:∀b ps,H b=some (.tbl ps)->∃more,H' b=some (.tbl (ps++more)))
  (ns:∀m,s.heap.Ns X.env.locals m->h'.Ns X.env.locals m) (hok:HOk X.prog X.w H' h') (hg:AllBare g') :
  Inv X pins σ H' { s with heap:=h',gens:=g',drawn:=d',toks:=t' }:=by
 have neL:∀b o,X.s₀.heap.get? b=some o->b≠X.env.locals:=fun b o e=>Fl (FD (Fb e) I.ok.above);have neC:∀b o,X.s₀.heap.get? b=some o->b∉X.ex->b∉ch:=fun b o e hx hb=>by
  rcases (hch b hb).1 with z | z
  ·exact hx z
  ·exact absurd (FD (Fb e) z) (GI _)
 have cellK:∀x c,X.env.cells.lookup x=some c->∀v,s.heap.IsCell c v->h'.IsCell c v:=fun x c e v y_=>by
  obtain⟨o,ho,hd⟩:=y_;have nch:c∉ch:=fun z=>(hch c z).2.2.1 x c e rfl;by_cases hc:c∈X.fs
  ·obtain⟨sl,q⟩:=slot c o (I.cne x c e) hc nch ho (I.freeC x c e);exact⟨_,q,hd⟩
  ·exact⟨o,keep c o (I.cne x c e) hc nch ho (I.freeC x c e),hd⟩
 refine⟨I.ok,I.os,hg,⟨fun b o e n hb hx=>?_,fun b o e n hb hx=>?_,fun b o e n hx=>?_,fun b o e hx=>?_,fun b xs e=>tups b xs (I.base.tups b xs e),fun b o xs e=>frzs b o xs (I.base.frzs b o xs e),fun b ps e=>?_⟩,?_,fun x c e=>?_,?_,fun x c e=>?_,fun p hp=>?_,hok,I.len⟩
 ·exact keep b o (neL b o e) hb (neC b o e hx) (I.base.keep b o e n hb hx) (I.base.free b o e n hx)
 ·obtain⟨sl,e1⟩:=I.base.slot b o e n hb hx;obtain⟨sl',e2⟩:=slot b _ (neL b o e) hb (neC b o e hx) e1 (I.base.free b o e n hx);exact⟨sl',e2⟩
 ·obtain⟨o',e1⟩:=I.base.there b o e hx;exact free b o' (neC b o e hx) e1 (I.base.free b o e n hx)
 ·obtain⟨o',e1⟩:=I.base.there b o e hx;exact there b o' (neC b o e hx) e1
 ·obtain⟨m1,e1⟩:=I.base.tbls b ps e;obtain⟨m2,e2⟩:=tbls b _ e1;exact⟨m1++m2,by rw[e2,Array.append_assoc]⟩
 ·obtain⟨m,hn,hl⟩:=I.loc;refine⟨m,ns m hn,fun i x v e1 e2 e3=>?_⟩;obtain⟨u,r,l⟩:=hl i x v e1 e2 e3;refine⟨u,r,?_⟩;rcases l with l |⟨k,c,e,z⟩
  ·exact .inl l
  ·exact .inr ⟨k,c,e,cellK x c e _ z⟩
 ·obtain⟨v,z⟩:=I.cell x c e;exact⟨v,cellK x c e v z⟩
 ·obtain⟨m,⟨o,_,_,ho,_⟩,_⟩:=I.loc;exact free _ o (fun z=>(hch _ z).2.1 rfl) ho I.free
 ·obtain⟨v,o,ho,hd⟩:=I.cell x c e;exact free c o (fun z=>(hch c z).2.2.1 x c e rfl) ho (I.freeC x c e)
 ·obtain⟨e,n,ne,nf,d⟩:=I.pin p hp;have nch:p.1∉ch:=fun z=>(hch p.1 z).2.2.2 p hp rfl;exact⟨keep p.1 p.2 ne nf nch e n,free p.1 p.2 nch e n,ne,nf,d⟩
theorem Inv.un{t':Nat}(I:Inv X pins σ H s)(u:Un X.fs [] H H' s.heap h')(hok:HOk X.prog X.w H' h'):Inv X pins σ H' { s with heap:=h',toks:=t' }:=by
 obtain⟨m,⟨o,es,ep,ho,r⟩,_⟩:=id I.loc;obtain⟨sl,hL⟩:=u.any ho I.free (by simp);exact I.step (g':=s.gens) (d':=s.drawn) (ch:=[]) (fun _ z=>nomatch z) (fun b o _ hb _ e n=>u.keep b o e n hb (by simp)) (fun b o _ hb _ e n=>u.slot b o e n hb (by simp)) (fun b o _ e n=>u.free b o e n (by simp)) (fun b o _ e=>u.there b o e (by simp)) u.tups u.frzs u.tbls (fun m' hm=>by
  obtain⟨o',es',ep',ho',r'⟩:=hm;rw[ho]at ho';cases ho';exact⟨_,es',ep',hL,r'⟩) hok I.bare
theorem Inv.call{g':Array GenState}{t':Nat}{d':Drawn}{ch:List Addr}(I:Inv X pins σ H s)(u:Un (frs X.stack) ch H H' s.heap h')(hok:HOk X.prog X.w H' h')(hg:AllBare g')
  (hch:∀b∈ch,(b∈X.ex∨X.s₀.heap.objs.size≤b)/\b≠X.env.locals/\(∀x c,X.env.cells.lookup x=some c->c≠b)/\∀p∈X.pn++pins,p.1≠b) :
  Inv X pins σ H' { s with heap:=h',gens:=g',drawn:=d',toks:=t' }:=by
 obtain⟨m,⟨o,es,ep,ho,r⟩,_⟩:=id I.loc;obtain⟨sl,hL⟩:=u.any ho I.free fun z=>(hch _ z).2.1 rfl;exact I.step (ch:=ch) hch (fun b o hL hb hc e n=>u.keep b o e n (fun z=>(Fn.mp (I.stkSub b z)).elim hL hb) hc) (fun b o _ _ hc e n=>u.any e n hc) (fun b o hc e n=>u.free b o e n hc) (fun b o hc e=>u.there b o e hc) u.tups u.frzs u.tbls (fun m' hm=>by
  obtain⟨o',es',ep',ho',r'⟩:=hm;rw[ho]at ho';cases ho';exact⟨_,es',ep',hL,r'⟩) hok hg
theorem Inv.turned{t':Nat}{it:Addr}(I:Inv X pins σ H s)(k:∀b o,b≠it->s.heap.get? b=some o->h'.get? b=some o)(hn:H it=none)(hL:it≠X.env.locals)
  (h1:it∈X.ex∨X.s₀.heap.objs.size≤it) (h2:∀x c,X.env.cells.lookup x=some c->c≠it) (h3:∀p∈X.pn++pins,p.1≠it):Inv X pins σ H { s with heap:=h',toks:=t' }:=by
 have nit:∀b u,H b=some u->b≠it:=fun b u e z=>by rw[z,hn]at e;cases e
 refine I.step (g':=s.gens) (d':=s.drawn) (ch:=[it]) (fun b hb=>?_) (fun b o _ _ hc e _=>k b o (fun z=>hc (by simp[z])) e) (fun b o _ _ hc e _=>⟨o.slots,k b o (fun z=>hc (by simp[z])) e⟩) (fun _ _ _ _ n=>n)
  (fun b o hc e=>⟨o,k b o (fun z=>hc (by simp[z])) e⟩) (fun _ _ e=>e) (fun _ _ _ e=>e) (fun b ps e=>⟨#[],by rw[e];simp⟩) (fun m hm=>?_) (fun b u e=>?_) I.bare
 ·have e:b=it:=by simpa using hb
  subst e;exact⟨h1,hL,h2,h3⟩
 ·obtain⟨o,es,ep,ho,r⟩:=hm;exact⟨o,es,ep,k _ o (Ne.symm hL) ho,r⟩
 ·refine(I.hok b u e).stay (fun c v hc q=>k c v ?_ q) (fun _ q=>q) fun _ _ q=>q;rcases hc with z | z
  ·rw[z];exact nit b u e
  ·exact nit c _ z
theorem Inv.tok(I:Inv X pins σ H s)(t:Nat):Inv X pins σ H { s with toks:=t }:=I.un (h':=s.heap) (t':=t) Un.refl I.hok
theorem Inv.kept{t':Nat}(I:Inv X pins σ H s)(k:∀b u,s.heap.get? b=some u->h'.get? b=some u):Inv X pins σ H { s with heap:=h',toks:=t' }:=I.un (Un.kept k) (I.hok.kept k)
theorem Inv.laid{a:Addr}{o:HO}{t':Nat}(I:Inv X pins σ H s)(k:∀b u,s.heap.get? b=some u->h'.get? b=some u)(hp:s.heap.objs.size≤a)(new:bQ X.prog X.w (upd H a o) h' a o) :
  Inv X pins σ (upd H a o) { s with heap:=h',toks:=t' }:=I.un (Un.laid k hp (I.hok.fresh hp)) (I.hok.laid k hp new)
theorem Inv.write{x e:Addr}{o:HO}{t':Nat}(I:Inv X pins σ H s)(mu:Mut (H x))(he:e=x∨H e=some (.own x))(k:∀b u,b≠e->s.heap.get? b=some u->h'.get? b=some u)(heo:∃u,h'.get? e=some u)
  (new:bQ X.prog X.w (upd H x o) h' x o):Inv X pins σ (upd H x o) { s with heap:=h',toks:=t' }:=I.un (Un.write mu he k heo) (I.hok.write mu he k heo new)
theorem Inv.pins_of{pins':List (Addr×Obj)}(I:Inv X pins σ H s)(h:∀p∈pins',s.heap.get? p.1=some p.2/\H p.1=none/\p.1≠X.env.locals/\p.1∉X.fs/\∀v,p.2.data≠.cell v):Inv X pins' σ H s :=
 ⟨I.ok,I.os,I.bare,I.base,I.loc,I.cell,I.free,I.freeC,fun p hp=>(E9.mp hp).elim (fun z=>I.pin p (FE _ z)) (h p),I.hok,I.len⟩
theorem lQ{N:List Str}(hN:N.Nodup){i j:Nat}{x:Str}(a:N[i]?=some x)(b:N[j]?=some x):i=j:=by
 obtain⟨h1,e1⟩:=E6.mp a;obtain⟨h2,e2⟩:=E6.mp b;exact(List.getElem_inj hN).mp (e1.trans e2.symm)
theorem jA{M:Model}{A:Around}{E:Value->Shared->Prop}{i:Nat}{x:Str}{v:V}{u:Value}{Q:Unit->Shared->Prop}(I:Inv X pins σ H s)(hN:X.N.Nodup)(hi:X.N[i]?=some x)(hx:Loc X.env.scope x)(r:RelV v u)
  (h:∀s',Inv X pins (σ.set i (some v)) H s'->(∃a,Heap.SameBut a s.heap s'.heap/\(a=X.env.locals∨X.env.cells.lookup x=some a))->Q () s') (hf:X.fn x=true∨X.env.scope.names.lookup x=some .local:=by first | exact .inl rfl | exact .inr rfl | assumption):wpAny M A (storeName X.env x u) Q E s:=by
 obtain⟨m,hn,hl⟩:=id I.loc;have hcls:(X.env.scope.kind==.class||(X.env.scope.kind==.module&&X.env.locals !=X.env.globals))=false:=by rw[I.ok.kind];rfl
 have hiσ:i<σ.length:=by rw[I.len];exact(E6.mp hi).1
 have cne:=I.cne;have tracked:∀{a:Addr} {h':Heap},(∃o,s.heap.get? a=some o/\H a=none)->Heap.SameBut a s.heap h'->HOk X.prog X.w H h':=fun {a h'} ha hs b ob e=>by
  obtain⟨_,_,hfree⟩:=ha;refine(I.hok b ob e).stay (fun c w' hc q=>(hs.2 c ?_).trans q) (fun _ q=>q) fun _ _ q=>q;rintro rfl;rcases hc with rfl | hc
  ·rw[hfree]at e;cases e
  ·rw[hfree]at hc;cases hc
 rcases hx with hk | hk
 ·refine wpAny_storeName_local hk hn (fun h' hn' hs=>?_) hcls;obtain⟨oL,_,_,hoL,_⟩:=id hn;refine h _ ⟨I.ok,I.os,I.bare,⟨fun b o e n hb hx=>?_,fun b o e n hb hx=>?_,I.base.free,fun b o e hx=>?_,I.base.tups,I.base.frzs,I.base.tbls⟩,⟨_,hn',fun j y v' e1 e2 e3=>?_⟩,fun y c e=>?_,I.free,I.freeC,fun p hp=>?_,tracked ⟨oL,hoL,I.free⟩ hs,by simpa using I.len⟩ ⟨_,hs,.inl rfl⟩
  ·exact(hs.2 b (Fl (FD (Fb e) I.ok.above))).trans (I.base.keep b o e n hb hx)
  ·obtain⟨sl,e1⟩:=I.base.slot b o e n hb hx;exact⟨sl,(hs.2 b (Fl (FD (Fb e) I.ok.above))).trans e1⟩
  ·obtain⟨o',e1⟩:=I.base.there b o e hx;exact⟨o',(hs.2 b (Fl (FD (Fb e) I.ok.above))).trans e1⟩
  ·by_cases hj:j=i
   ·subst hj;rw[hi]at e1;cases e1;rw[List.getElem?_set_self hiσ]at e2;cases e2;exact⟨u,r,.inl ⟨hk,by simp⟩⟩
   ·rw[List.getElem?_set_ne (Ne.symm hj)]at e2;obtain⟨u',r',q⟩:=hl j y v' e1 e2 e3;refine⟨u',r',?_⟩;rcases q with⟨k,e⟩ |⟨k,c,e,z⟩
    ·refine .inl ⟨k,?_⟩;have:y≠x:=fun e=>hj (lQ hN e1 (e▸hi));simp[this,e]
    ·exact .inr ⟨k,c,e,z.sameBut hs (cne y c e)⟩
  ·obtain⟨w',z⟩:=I.cell y c e;exact⟨w',z.sameBut hs (cne y c e)⟩
  ·obtain⟨e,n,ne,nf,d⟩:=I.pin p hp;exact⟨(hs.2 p.1 ne).trans e,n,ne,nf,d⟩
 ·have hfn:X.fn x=true:=by
   rcases hf with z | z
   ·exact z
   ·rw[z]at hk;cases hk
  obtain⟨c,hc⟩:=I.ok.has x (.inl hk);obtain⟨w',z⟩:=I.cell x c hc;refine wpAny_storeName_cell I.ok.kind hk hc z (fun h' hc' hs=>?_);obtain⟨oc,hoc,hocd⟩:=id z;refine h { s with heap:=h' } ⟨I.ok,I.os,I.bare,⟨fun b o e n hb hx=>?_,fun b o e n hb hx=>?_,I.base.free,fun b o e hx=>?_,I.base.tups,I.base.frzs,I.base.tbls⟩,⟨m,hn.sameBut hs (Ne.symm (cne x c hc)),fun j y v' e1 e2 e3=>?_⟩,fun y c' e=>?_,I.free,I.freeC,fun p hp=>?_,tracked ⟨oc,hoc,I.freeC x c hc⟩ hs,by simpa using I.len⟩ ⟨c,hs,.inr hc⟩
  ·exact(hs.2 b (Fl (FD (Fb e) (I.ok.cab x c hfn hc)))).trans (I.base.keep b o e n hb hx)
  ·obtain⟨sl,e1⟩:=I.base.slot b o e n hb hx;exact⟨sl,(hs.2 b (Fl (FD (Fb e) (I.ok.cab x c hfn hc)))).trans e1⟩
  ·obtain⟨o',e1⟩:=I.base.there b o e hx;exact⟨o',(hs.2 b (Fl (FD (Fb e) (I.ok.cab x c hfn hc)))).trans e1⟩
  ·by_cases hj:j=i
   ·subst hj;rw[hi]at e1;cases e1;rw[List.getElem?_set_self hiσ]at e2;cases e2;exact⟨u,r,.inr ⟨.inl hk,c,hc,hc'⟩⟩
   ·rw[List.getElem?_set_ne (Ne.symm hj)]at e2;obtain⟨u',r',q⟩:=hl j y v' e1 e2 e3;refine⟨u',r',?_⟩;rcases q with q |⟨k,c',e,z'⟩
    ·exact .inl q
    ·refine .inr ⟨k,c',e,z'.sameBut hs ?_⟩;rintro rfl;exact hj (lQ hN e1 (I.ok.inj _ _ _ e hc▸hi))
  ·by_cases hcc:c'=c
   ·subst hcc;exact⟨_,hc'⟩
   ·obtain⟨w2,z2⟩:=I.cell y c' e;exact⟨w2,z2.sameBut hs hcc⟩
  ·obtain⟨e,n,ne,nf,d⟩:=I.pin p hp;refine⟨(hs.2 p.1 ?_).trans e,n,ne,nf,d⟩;intro q;rw[q,hoc]at e;have q':oc=p.2:=FH e;exact d w' (by rw[←q'];exact hocd)
theorem lx{M:Model}{A:Around}{E:Value->Shared->Prop}{i:Nat}{x:Str}{v:V}{u:Value}{Q:Unit->Shared->Prop}(I:Inv X pins σ H s)(hN:X.N.Nodup)(hi:X.N[i]?=some x)(hx:Loc X.env.scope x)(r:RelV v u)
  (h:∀s',Inv X pins (σ.set i (some v)) H s'->Q () s') (hf:X.fn x=true∨X.env.scope.names.lookup x=some .local:=by first | exact .inl rfl | exact .inr rfl | assumption):wpAny M A (storeName X.env x u) Q E s :=
 jA I hN hi hx r (fun s' I' _=>h s' I') hf
theorem Inv.call'{s':Shared}{ch:List Addr}(I:Inv X pins σ H s)(ho:s'.os=s.os)(u:Un (frs X.stack) ch H H' s.heap s'.heap)(hok:HOk X.prog X.w H' s'.heap)(hg:AllBare s'.gens)
  (hch:∀b∈ch,(b∈X.ex∨X.s₀.heap.objs.size≤b)/\b≠X.env.locals/\(∀x c,X.env.cells.lookup x=some c->c≠b)/\∀p∈X.pn++pins,p.1≠b):Inv X pins σ H' s':=by
 obtain⟨h',g',d',t',o'⟩:=s';have e:o'=s.os:=ho;subst e;exact I.call (g':=g') (t':=t') (d':=d') u hok hg hch
end
abbrev XK:=Value->Option Addr->Hp->Prop
abbrev St:=List (Option V)
abbrev VK:=V->Hp->Prop
abbrev TE:=St->Hp->VK->Prop
abbrev TT:=St->Hp->(Bool->Hp->Prop)->Prop
abbrev TA:=St->Hp->(List V->Hp->Prop)->Prop
structure Ends where
 nx:St->Hp->Prop
 rt:VK
 bk:St->Hp->Prop:=fun _ _=>False
 ct:St->Hp->Prop:=fun _ _=>False
abbrev TS:=Ends->St->Hp->Prop
def EP(X:Cx)(pins:List (Addr×Obj))(σ:St)(Q:VK)(u:Value)(s':Shared):Prop:=∃v H',Inv X pins σ H' s'/\RelV v u/\Q v H'
def TP(X:Cx)(pins:List (Addr×Obj))(σ:St)(Q:Bool->Hp->Prop)(b:Bool)(s':Shared):Prop:=∃H',Inv X pins σ H' s'/\Q b H'
def AP(X:Cx)(pins:List (Addr×Obj))(σ:St)(Q:List V->Hp->Prop)(us:List Value)(s':Shared):Prop:=∃vs H',Inv X pins σ H' s'/\Vals vs us/\Q vs H'
def SP(X:Cx)(pins:List (Addr×Obj))(D:Ends)(f:Flow)(s':Shared):Prop :=
 match f with
 | .next=>∃σ' H',Inv X pins σ' H' s'/\D.nx σ' H'
 | .brk=>∃σ' H',Inv X pins σ' H' s'/\D.bk σ' H'
 | .cont=>∃σ' H',Inv X pins σ' H' s'/\D.ct σ' H'
 | .ret u=>∃v σ' H',Inv X pins σ' H' s'/\RelV v u/\D.rt v H'
def PE(X:Cx)(e:Expr)(t:TE):Prop :=
 ∀(pins:List (Addr×Obj)) (s:Shared) (σ:St) (H:Hp) (Q:VK),Inv X pins σ H s->t σ H Q->wpAny (model X.prog X.w) X.A (eval e X.env) (EP X pins σ Q) X.xe s
def PT(X:Cx)(e:Expr)(t:TT):Prop :=
 ∀(pins:List (Addr×Obj)) (s:Shared) (σ:St) (H:Hp) (Q:Bool->Hp->Prop),Inv X pins σ H s->t σ H Q->wpAny (model X.prog X.w) X.A (isTrue e X.env (eval e X.env)) (TP X pins σ Q) X.xe s
def PW(X:Cx)(e:Expr)(t:TT):Prop :=
 ∀(whole:Sem Value) (pins:List (Addr×Obj)) (s:Shared) (σ:St) (H:Hp) (Q:Bool->Hp->Prop),Inv X pins σ H s->t σ H Q->wpAny (model X.prog X.w) X.A (isTrue e X.env whole) (TP X pins σ Q) X.xe s
theorem PW.pt{X:Cx}{e:Expr}{t:TT}(h:PW X e t):PT X e t:=h _
def PA(X:Cx)(es:List Expr)(t:TA):Prop :=
 ∀(pos:Pos) (pins:List (Addr×Obj)) (s:Shared) (σ:St) (H:Hp) (Q:List V->Hp->Prop),Inv X pins σ H s->t σ H Q->wpAny (model X.prog X.w) X.A (spliced (backTo pos (starEach es X.env))) (AP X pins σ Q) X.xe s
def PS(X:Cx)(st:Stmt)(t:TS):Prop :=
 ∀(pins:List (Addr×Obj)) (s:Shared) (σ:St) (H:Hp) (D:Ends),Inv X pins σ H s->t D σ H->wpAny (model X.prog X.w) X.A (exec st X.env) (SP X pins D) X.xe s
def PSs(X:Cx)(st:List Stmt)(t:TS):Prop :=
 ∀(pins:List (Addr×Obj)) (s:Shared) (σ:St) (H:Hp) (D:Ends),Inv X pins σ H s->t D σ H->wpAny (model X.prog X.w) X.A (execs st X.env) (SP X pins D) X.xe s
theorem thn{α:Type}{t:Sem α}{Q Q':α->Shared->Prop}{M:Model}{A:Around}{E:Value->Shared->Prop}{s:Shared}(h:wpAny M A t Q E s)(hQ:∀a s,Q a s->Q' a s):wpAny M A t Q' E s:=GX h hQ fun _ _ x=>x
end
section
section
variable {X:Cx}
theorem bin{a b:Expr}{ta tb:TE}(ha:PE X a ta)(hb:PE X b tb){pins:List (Addr×Obj)}{s:Shared}{σ:St}{H:Hp}{R:V->V->Hp->Prop}(I:Inv X pins σ H s)(h:ta σ H fun x H1=>tb σ H1 fun y H2=>R x y H2)
  {α:Type} {Q:α->Shared->Prop} {f:Value->Value->Sem α}
  (hf:∀v u s2 x y H2,Inv X pins σ H2 s2->RelV x v->RelV y u->R x y H2->wpAny (model X.prog X.w) X.A (f v u) Q X.xe s2) :
  wpAny (model X.prog X.w) X.A (eval a X.env) (fun v s₁=>wpAny (model X.prog X.w) X.A (eval b X.env) (fun u s₂=>wpAny (model X.prog X.w) X.A (f v u) Q X.xe s₂) X.xe s₁) X.xe s:=by
 refine thn (ha pins s σ H _ I h) fun v s1 y_=>?_;obtain⟨x,H1,I1,r1,q1⟩:=y_;refine thn (hb pins s1 σ H1 _ I1 q1) fun u s2 y_=>?_;obtain⟨y,H2,I2,r2,q2⟩:=y_;exact hf v u s2 x y H2 I2 r1 r2 q2
def A4(i:Nat):TE:=fun σ H Q=>∃v,σ[i]?=some (some v)/\Q v H
def tC(v:V):TE:=fun _ H Q=>Q v H
theorem zB{i:Nat}{x:Str}{pos:Pos}(hN:X.N[i]?=some x)(hv:Vis X.env.scope x)(hd:(x==("__debug__":Str))=false:=by decide)(hcd:(x==("__classdict__":Str))=false:=by decide):PE X (.Name x pos) (A4 i):=by
 intro pins s σ H Q I h;obtain⟨v,e,h⟩:=h;obtain⟨m,hn,hl⟩:=I.loc;obtain⟨u,r,l⟩:=hl i x v hN e hv;have fin:EP X pins σ Q u s:=⟨v,H,I,r,h⟩;rcases l with⟨hk,hm⟩ |⟨hk,c,hc,hcell⟩
 ·exact wpAny_Name (wpAny_loadName_local I.ok.kind hk hn hm fin) hd
 ·rcases hk with hk | hk
  ·exact wpAny_Name (wpAny_loadName_cell I.ok.kind hk hc hcell fin) hd
  ·exact wpAny_Name (wpAny_loadName_free I.ok.kind hk hc hcell fin hcd) hd
theorem Ak{i j pos}:PE X (.Constant (.int i) j pos) (tC (.int i)):=fun _ _ _ H _ I h=>wpAny_Constant_int ⟨.int i,H,I.tok _,⟨_,rfl⟩,h⟩
theorem tD{b j pos}:PE X (.Constant (.bool b) j pos) (tC (.bl b)):=fun _ _ _ H _ I h=>Constant_bool ⟨.bl b,H,I,rfl,h⟩
theorem yD{x j pos}:PE X (.Constant (.str x) j pos) (tC (.str x)):=fun _ _ _ H _ I h=>Calls.Constant_str ⟨.str x,H,I.tok _,⟨_,rfl⟩,h⟩
def Gl(X:Cx)(x:Str):Prop:=X.env.kindOf x=some .globalImplicit
theorem j9{E:Value->Shared->Prop}{pins:List (Addr×Obj)}{s:Shared}{σ:St}{H:Hp}{x:Str}{u:Value}{pos:Pos}{Q:Value->Shared->Prop}(I:Inv X pins σ H s)(hg:Gl X x)(hm:X.mg x=some u)(h:Q u s)
  (hd:(x==("__debug__":Str))=false:=by decide):wpAny (model X.prog X.w) X.A (eval (.Name x pos) X.env) Q E s :=
 Calls.Name_function_global I.ok.kind hg (Calls.loadGlobal_global (by rw[I.ok.glob];exact I.mod.glob.keeps I.bk) hm h) hd
theorem cQ{E:Value->Shared->Prop}{pins:List (Addr×Obj)}{s:Shared}{σ:St}{H:Hp}{x:Str}{u:Value}{pos:Pos}{Q:Value->Shared->Prop}(I:Inv X pins σ H s)(hg:Gl X x)(hm:X.mg x=none)(hv:bootBuiltins x=some u)(h:Q u s)
  (hn:x≠"__name__":=by decide) (hd:(x==("__debug__":Str))=false:=by decide):wpAny (model X.prog X.w) X.A (eval (.Name x pos) X.env) Q E s:=by
 obtain⟨mb,h1,h2⟩:=I.mod.blt;exact Calls.Name_function_global I.ok.kind hg (Calls.loadGlobal_builtin (by rw[I.ok.glob];exact I.mod.glob.keeps I.bk) hm (by rw[I.ok.blt];exact h1.keeps I.bk) ((h2 x hn).trans hv) h) hd
theorem wM{x:Str}{v:V}{u:Value}{pos:Pos}(hg:Gl X x)(hm:X.mg x=some u)(r:RelV v u)(hd:(x==("__debug__":Str))=false:=by decide):PE X (.Name x pos) (tC v) :=
 fun _ _ _ H _ I h=>j9 I hg hm ⟨v,H,I,r,h⟩ hd
variable {a b:Expr}{ta tb:TE}{pos:Pos}
def PC(X:Cx)(op:CmpOp)(a b:Expr)(t:TE):Prop :=
 ∀(pins:List (Addr×Obj)) (s:Shared) (σ:St) (H:Hp) (Q:VK),Inv X pins σ H s->t σ H Q ->
  wpAny (model X.prog X.w) X.A (eval a X.env) (fun v s₁=>wpAny (model X.prog X.w) X.A (eval b X.env) (fun u s₂=>wpAny (model X.prog X.w) X.A (compareOp op v u) (EP X pins σ Q) X.xe s₂) X.xe s₁) X.xe s
theorem qT(b:Expr){op:CmpOp}(h:op≠.In)(h2:op≠.NotIn):behindInMarks op b=false:=by
 have e1:(op==CmpOp.In)=false:=by cases op<;>first | rfl | exact absurd rfl h
 have e2:(op==CmpOp.NotIn)=false:=by cases op<;>first | rfl | exact absurd rfl h2
 cases b<;>simp[behindInMarks,e1,e2]
def tB(t:TE):TT:=fun σ H Q=>t σ H fun x H1=>∃c,x=.bl c/\Q c H1
theorem yq{op:CmpOp}{t:TE}(h:PC X op a b t)(h1:behindInMarks op b=false:=by first | exact qT _ (by decide) (by decide) | rfl):PT X (.Compare a [op] [b] pos) (tB t):=by
 intro pins s σ H Q I hw;refine wpAny_isTrue_Compare1 (thn (h pins s σ H _ I hw) fun v s1 h1=>thn h1 fun u s2 h2=>thn h2 fun c s3 ⟨x,H1,I1,r1,q1⟩=>?_) h1;obtain⟨d,rfl,q⟩:=q1;cases r1;exact Gy ⟨H1,I1,q⟩
theorem zc{e:Expr}{t:TE}(h:PE X e t)(he:∀whole,isTrue e X.env whole=(do let v←whole;standAt e.pos;holding [v] (truthy v)):=by intro _;rfl):PT X e (tB t):=by
 intro pins s σ H Q I hw;refine isTrue_plain (thn (h pins s σ H _ I hw) fun v s1 ⟨x,H1,I1,r1,q1⟩=>?_) (he _);obtain⟨d,rfl,q⟩:=q1;cases r1;exact Gy ⟨H1,I1,q⟩
variable {tA tB':TT}{rest:List Expr}
def Di(t u:TT):TT:=fun σ H Q=>t σ H fun c H1=>if c=true then u σ H1 Q else Q false H1
def tOr(t u:TT):TT:=fun σ H Q=>t σ H fun c H1=>if c=true then Q true H1 else u σ H1 Q
def Ef(t:TT):TT:=fun σ H Q=>t σ H fun c H1=>Q (!c) H1
theorem vd(ha:PT X a tA):PW X (.BoolOp .And [a] pos) tA:=by
 intro wh pins s σ H Q I h;refine isTrue_and (thn (ha pins s σ H Q I h) fun c s1 e=>?_);cases c with
 | true=>exact isTrue_and_nil e
 | false=>exact e
theorem zu(ha:PT X a tA):PW X (.BoolOp .Or [a] pos) tA:=by
 intro wh pins s σ H Q I h;refine isTrue_or (thn (ha pins s σ H Q I h) fun c s1 e=>?_);cases c with
 | false=>exact isTrue_or_nil e
 | true=>exact e
theorem Ae(ha:PT X a tA)(hb:PW X (.BoolOp .And (b::rest) pos) tB'):PW X (.BoolOp .And (a::b::rest) pos) (Di tA tB'):=by
 intro wh pins s σ H Q I h;refine isTrue_and (thn (ha pins s σ H _ I h) fun c s1 y_=>?_);obtain⟨H1,I1,q1⟩:=y_;cases c with
 | true=>exact hb wh pins s1 σ H1 Q I1 q1
 | false=>exact⟨H1,I1,q1⟩
theorem Ca(ha:PT X a tA)(hb:PW X (.BoolOp .Or (b::rest) pos) tB'):PW X (.BoolOp .Or (a::b::rest) pos) (tOr tA tB'):=by
 intro wh pins s σ H Q I h;refine isTrue_or (thn (ha pins s σ H _ I h) fun c s1 y_=>?_);obtain⟨H1,I1,q1⟩:=y_;cases c with
 | true=>exact⟨H1,I1,q1⟩
 | false=>exact hb wh pins s1 σ H1 Q I1 q1
theorem zt(ha:PT X a tA):PT X (.UnaryOp .Not a pos) (Ef tA):=by
 intro pins s σ H Q I h;exact isTrue_not (ha pins s σ H (fun c H1=>Q (!c) H1) I h)
def Co(ta tb:TE):TE:=fun σ H Q=>ta σ H fun x H1=>∃c,x=.bl c/\if c=true then tb σ H1 Q else Q (.bl false) H1
theorem yy{op}{t:TE}(h:PE X a t):PE X (.BoolOp op [a] pos) t:=fun pins s σ H Q I hw=>BoolOp_one (h pins s σ H Q I hw)
theorem Ai(ha:PE X a ta)(hb:PE X (.BoolOp .And (b::rest) pos) tb):PE X (.BoolOp .And (a::b::rest) pos) (Co ta tb):=by
 intro pins s σ H Q I h;refine BoolOp_and (thn (ha pins s σ H _ I h) fun v s1 y_=>?_);obtain⟨x,H1,I1,r1,q1⟩:=y_;obtain⟨c,rfl,q1⟩:=q1;cases r1;refine Gy ?_;cases c with
 | true=>exact hb pins s1 σ H1 Q I1 q1
 | false=>exact⟨.bl false,H1,I1,rfl,q1⟩
end
end
section
def SqL(K:PySem.W.Frag)(H:Hp)(a:Addr)(xs:List V):Prop :=
 Rd H a (.lst xs) ∨
  ∃(o:Obj) (its:Array Value) (n:Nat),K.lookup a=some o/\o.cls=.type "list"/\o.dict=none/\o.data=.seq its n/\its.size≤sizeLine/\Vals xs its.toList
def SqT(K:PySem.W.Frag)(H:Hp)(a:Addr)(xs:List V):Prop :=
 Rd H a (.tup xs) ∨
  ∃(o:Obj) (its:Array Value) (n:Nat),K.lookup a=some o/\o.cls=.type "tuple"/\o.data=.seq its n/\its.size≤sizeLine/\Vals xs its.toList
def EF:Value->Option V
 | .none=>some .non
 | .bool b=>some (.bl b)
 | .int i _=>some (.int i)
 | .str x _=>some (.str x)
 | .bytes b _=>some (.byt b)
 | .float b _=>some (.flt b)
 | .ref a=>some (.ref a)
 | .type n=>some (.ty n)
 | _=>none
theorem RelV.abs{x:V}{u:Value}(r:RelV x u):EF u=some x:=by
 cases x with
 | non=>cases r;rfl
 | bl _=>cases r;rfl
 | int _=>obtain⟨t,rfl⟩:=r;rfl
 | str _=>obtain⟨t,rfl⟩:=r;rfl
 | byt _=>obtain⟨t,rfl⟩:=r;rfl
 | flt _=>obtain⟨t,rfl⟩:=r;rfl
 | ref _=>cases r;rfl
 | ty _=>cases r;rfl
theorem RelV.inj{x y:V}{u:Value}(r:RelV x u)(q:RelV y u):x=y:=FH (r.abs.symm.trans q.abs)
theorem Vals.inj:∀{xs ys:List V} {us:List Value},Vals xs us->Vals ys us->xs=ys
 | _,_,_,.nil,.nil=>rfl
 | _,_,_,.cons r t,.cons r' t'=>by rw[r.inj r',Vals.inj t t']
section
variable {X:Cx}{pins:List (Addr×Obj)}{σ:St}{H:Hp}{s:Shared}{a:Addr}{xs ys:List V}
theorem SqL.of{K:PySem.W.Frag}(h:H a=some (.lst xs)):SqL K H a xs:=.inl (.inl h)
theorem SqT.of{K:PySem.W.Frag}(h:H a=some (.tup xs)):SqT K H a xs:=.inl (.inl h)
theorem Inv.list(I:Inv X pins σ H s)(h:SqL X.K H a xs):∃its:List Value,Vals xs its/\PlainL s.heap a its.toArray/\xs.length≤sizeLine:=by
 rcases h with h |⟨o,its,n,hk,hc,hd,hs,hz,r⟩
 ·obtain⟨z,its,n,r,e⟩:=h.ok I.hok;exact⟨its,r,⟨_,n,e,rfl,rfl,rfl⟩,z⟩
 ·refine⟨its.toList,r,⟨o,n,I.kIn a o hk,hc,hd,by simpa using hs⟩,?_⟩;have e:=r.length;simp only[Gh]at e;omega
theorem Inv.tuple(I:Inv X pins σ H s)(h:SqT X.K H a xs):∃its:List Value,Vals xs its/\IsTup s.heap a its.toArray/\xs.length≤sizeLine:=by
 rcases h with h |⟨o,its,n,hk,hc,hs,hz,r⟩
 ·obtain⟨z,its,r,p⟩:=h.ok I.hok;exact⟨its,r,p,z⟩
 ·refine⟨its.toList,r,⟨o,I.kIn a o hk,hc,n,by simpa using hs⟩,?_⟩;have e:=r.length;simp only[Gh]at e;omega
theorem Inv.list_inj(I:Inv X pins σ H s)(h:SqL X.K H a xs)(h':SqL X.K H a ys):xs=ys:=by
 obtain⟨its,r,⟨o,n,e,_,_,d⟩,_⟩:=I.list h;obtain⟨its',r',⟨o',n',e',_,_,d'⟩,_⟩:=I.list h';rw[e]at e';cases e';rw[d]at d';injection d' with d1 _;have:its=its':=by simpa using congrArg Array.toList d1
 subst this;exact r.inj r'
theorem Inv.tuple_inj(I:Inv X pins σ H s)(h:SqT X.K H a xs)(h':SqT X.K H a ys):xs=ys:=by
 obtain⟨its,r,⟨o,e,_,n,d⟩,_⟩:=I.tuple h;obtain⟨its',r',⟨o',e',_,n',d'⟩,_⟩:=I.tuple h';rw[e]at e';cases e';rw[d]at d';injection d' with d1 _;have:its=its':=by simpa using congrArg Array.toList d1
 subst this;exact r.inj r'
end
abbrev Cx.wish(X:Cx)(E:Value->Shared->Prop):Cx:={ X with xe:=E }
abbrev Cx.nox(X:Cx):Cx:=X.wish fun _ _=>False
theorem Cx.Ok.wish{X:Cx}(ok:X.Ok)(E:Value->Shared->Prop):(X.wish E).Ok :=
 ⟨ok.mod,ok.kind,ok.glob,ok.blt,ok.above,ok.inj,ok.has,ok.cab,ok.hd,ok.frames,ok.stk,ok.exf,ok.bs,ok.bsz,ok.noex,ok.exfs,ok.funs,ok.frf⟩
theorem Cx.Ok.unwish{X:Cx}{E:Value->Shared->Prop}(ok:(X.wish E).Ok):X.Ok :=
 ⟨ok.mod,ok.kind,ok.glob,ok.blt,ok.above,ok.inj,ok.has,ok.cab,ok.hd,ok.frames,ok.stk,ok.exf,ok.bs,ok.bsz,ok.noex,ok.exfs,ok.funs,ok.frf⟩
section
variable {X:Cx}{pins:List (Addr×Obj)}{σ:St}{H:Hp}{s:Shared}{E:Value->Shared->Prop}
theorem Inv.wish(I:Inv X pins σ H s)(E:Value->Shared->Prop):Inv (X.wish E) pins σ H s:=⟨I.ok.wish E,I.os,I.bare,I.base,I.loc,I.cell,I.free,I.freeC,I.pin,I.hok,I.len⟩
theorem Inv.unwish(I:Inv (X.wish E) pins σ H s):Inv X pins σ H s:=⟨I.ok.unwish,I.os,I.bare,I.base,I.loc,I.cell,I.free,I.freeC,I.pin,I.hok,I.len⟩
theorem SP.unwish{D:Ends}{f:Flow}{s':Shared}(h:SP (X.wish E) pins D f s'):SP X pins D f s':=by
 cases f with
 | next=>obtain⟨σ',H',I,q⟩:=h;exact⟨σ',H',I.unwish,q⟩
 | brk=>obtain⟨σ',H',I,q⟩:=h;exact⟨σ',H',I.unwish,q⟩
 | cont=>obtain⟨σ',H',I,q⟩:=h;exact⟨σ',H',I.unwish,q⟩
 | ret u=>obtain⟨v,σ',H',I,r,q⟩:=h;exact⟨v,σ',H',I.unwish,r,q⟩
theorem PSs.nox{st:List Stmt}{t:TS}(h:PSs X.nox st t):PSs X st t:=fun pins s σ H D I hw =>
 GX (h pins s σ H D (I.wish _) hw) (fun _ _ q=>q.unwish) fun _ _ z=>False.elim z
end
section
variable {X:Cx}{st:Stmt}{rest:List Stmt}{t u:TS}{e:Expr}{te:TE}{pos:Pos}
def Bg:TS:=fun D σ H=>D.nx σ H
def CH(t u:TS):TS:=fun D σ H=>t { D with nx:=u D } σ H
theorem uX:PSs X [] Bg:=fun _ _ σ H _ I h=>wpAny_execs_nil ⟨σ,H,I,h⟩
theorem rD(h1:PS X st t)(h2:PSs X rest u):PSs X (st::rest) (CH t u):=by
 intro pins s σ H D I h;refine wpAny_execs_cons (thn (h1 pins s σ H { D with nx:=u D } I h) fun f s1 q=>?_);cases f with
 | next =>
  obtain⟨σ',H',I',q⟩:=q;exact h2 pins s1 σ' H' D I' q
 | ret v=>exact q
 | brk=>exact q
 | cont=>exact q
theorem wc(h1:PS X st t):PSs X [st] t:=by
 intro pins s σ H D I h;refine wpAny_execs_cons (thn (h1 pins s σ H D I h) fun f s1 q=>?_);cases f with
 | next=>exact wpAny_execs_nil q
 | ret v=>exact q
 | brk=>exact q
 | cont=>exact q
theorem Inv.quiet{pins:List (Addr×Obj)}{σ:St}{H:Hp}{s:Shared}(I:Inv X pins σ H s):interactive X.env=false:=by simp[interactive,I.ok.kind]
def Av(te:TE):TS:=fun D σ H=>te σ H fun _ H1=>D.nx σ H1
theorem wo(he:PE X e te)(hs:swapsWith e none pos.line X.env=pure false:=by rfl):PS X (.Expr e pos) (Av te):=by
 intro pins s σ H D I h;exact wpAny_Expr_any (thn (he pins s σ H _ I h) fun v s1 y_=>by obtain⟨x,H1,I1,r1,q1⟩:=y_;exact ⟨σ,H1,I1,q1⟩) I.quiet hs
def EO(te:TE):TS:=fun D σ H=>te σ H D.rt
theorem zO(he:PE X e te):PS X (.Return (some e) pos) (EO te):=by
 intro pins s σ H D I h;exact wpAny_Return_some (thn (he pins s σ H _ I h) fun v s1 y_=>by obtain⟨x,H1,I1,r1,q1⟩:=y_;exact ⟨x,σ,H1,I1,r1,q1⟩)
def Ei(c:TT)(t u:TS):TS:=fun D σ H=>c σ H fun b H1=>if b=true then t D σ H1 else u D σ H1
theorem AS{c:Expr}{a b:List Stmt}{tc:TT}(hc:PT X c tc)(ha:PSs X a t)(hb:PSs X b u):PS X (.If c a b pos) (Ei tc t u):=by
 intro pins s σ H D I h;refine wpAny_If (thn (hc pins s σ H _ I h) fun d s1 y_=>?_);obtain⟨H1,I1,q1⟩:=y_;cases d with
 | true=>exact ha pins s1 σ H1 D I1 q1
 | false=>exact hb pins s1 σ H1 D I1 q1
end
abbrev TG:=V->St->Hp->(St->Hp->Prop)->Prop
abbrev TGs:=List V->St->Hp->(St->Hp->Prop)->Prop
def PG(X:Cx)(target:Expr)(t:TG):Prop :=
 ∀(pins:List (Addr×Obj)) (s:Shared) (σ:St) (H:Hp) (v:V) (u:Value) (Q:St->Hp->Prop),Inv X pins σ H s->RelV v u->t v σ H Q ->
  wpAny (model X.prog X.w) X.A (assign target X.env u) (fun _ s'=>∃σ' H',Inv X pins σ' H' s'/\Q σ' H') X.xe s
def PGs(X:Cx)(ts:List Expr)(t:TGs):Prop :=
 ∀(pins:List (Addr×Obj)) (s:Shared) (σ:St) (H:Hp) (vs:List V) (us:List Value) (Q:St->Hp->Prop),Inv X pins σ H s->Vals vs us->t vs σ H Q ->
  wpAny (model X.prog X.w) X.A (assignInOrder ((assignEach ts X.env).map (·.2)) us) (fun _ s'=>∃σ' H',Inv X pins σ' H' s'/\Q σ' H') X.xe s
abbrev Cy:=V->V->V->Hp->(Hp->Prop)->Prop
def kO(X:Cx)(t:Cy):Prop :=
 ∀(pins:List (Addr×Obj)) (s:Shared) (σ:St) (H:Hp) (o i v:V) (ov iv u:Value) (Q:Hp->Prop),Inv X pins σ H s->RelV o ov->RelV i iv->RelV v u->t o i v H Q ->
  wpAny (model X.prog X.w) X.A (setItem ov iv u) (fun _ s'=>∃H',Inv X pins σ H' s'/\Q H') X.xe s
section
variable {X:Cx}{pos:Pos}
def n8(i:Nat):TG:=fun v σ H Q=>Q (σ.set i (some v)) H
theorem vB{i:Nat}{x:Str}(hN:X.N.Nodup)(hi:X.N[i]?=some x)(hx:Loc X.env.scope x)(hf:X.fn x=true∨X.env.scope.names.lookup x=some .local:=by first | exact .inl rfl | exact .inr rfl | assumption):PG X (.Name x pos) (n8 i):=by
 intro pins s σ H v u Q I r h;exact wpAny_assign_Name (lx I hN hi hx r (fun s' I'=>⟨_,H,I',h⟩) hf)
def Ek:TGs:=fun vs σ H Q=>vs=[]/\Q σ H
def BW(t:TG)(u:TGs):TGs:=fun vs σ H Q=>∃v r,vs=v::r/\t v σ H fun σ' H'=>u r σ' H' Q
theorem we:PGs X [] Ek:=by
 intro pins s σ H vs us Q I r h;obtain⟨e,h⟩:=h;subst e;cases r;exact assignInOrder_nil ⟨σ,H,I,h⟩
theorem rb{e:Expr}{es:List Expr}{t:TG}{u:TGs}(h1:PG X e t)(h2:PGs X es u)
  (hs:(assignEach (e::es) X.env).map (·.2)=assign e X.env::(assignEach es X.env).map (·.2):=by rfl):PGs X (e::es) (BW t u):=by
 intro pins s σ H vs us Q I r h;obtain⟨v,vr,e1,h⟩:=h;subst e1;cases r with
 | cons r rr =>
  rw[hs];refine assignInOrder_cons (thn (h1 pins s σ H _ _ _ I r h) fun _ s1 y_=>?_);obtain⟨σ1,H1,I1,q1⟩:=y_;exact h2 pins s1 σ1 H1 _ _ Q I1 rr q1
def Eh(K:PySem.W.Frag)(n:Nat)(t:TGs):TG:=fun v σ H Q=>∃a xs,v=.ref a/\SqT K H a xs/\xs.length=n/\t xs σ H Q
theorem yg{es:List Expr}{k:Nat}{t:TGs}{n:Nat}(hc:X.calm=true)(h:PGs X es t)
  (hn:(assignEach es X.env).length=n:=by rfl) (hst:(assignEach es X.env).findIdx? (·.1)=none:=by rfl):PG X (.Tuple es k pos) (Eh X.K n t):=by
 intro pins s σ H v u Q I r hw;obtain⟨a,xs,e1,hq,hl,hw⟩:=hw;subst e1;cases r;obtain⟨its,rv,ht,hz⟩:=I.tuple hq;refine assign_Tuple_tuple (I.ok.hd hc) ht (by simp[hn,← hl,rv.length]) hst fun h' hx=>?_;have I1:Inv X pins σ H { s with heap:=h' }:=I.kept (t':=s.toks) fun b o e=>hx b o (Fl (Fb e)) e;exact h pins _ σ H xs _ Q I1 (by simpa using rv) hw
def uW(te:TE)(g:TG):TS:=fun D σ H=>te σ H fun x H1=>g x σ H1 D.nx
theorem zk{tg e:Expr}{te:TE}{g:TG}(he:PE X e te)(hg:PG X tg g)(hs:swapsWithSole [tg] e pos.line X.env=pure false:=by rfl)(hw:swappedStores [tg] e X.env=pure none:=by rfl)
  (h1:(assignEach [tg] X.env).map (·.2)=[assign tg X.env]:=by rfl):PS X (.Assign [tg] e pos) (uW te g):=by
 intro pins s σ H D I h;refine wpAny_Assign_stores (thn (he pins s σ H _ I h) fun v s1 ⟨x,H1,I1,r1,q1⟩=>?_) hs hw;rw[h1];exact thn (hg pins s1 σ H1 x v _ I1 r1 q1) fun _ s2 q=>q
theorem zQ{i:Nat}{x:Str}{e:Expr}{te:TE}{pos':Pos}(hN:X.N.Nodup)(hi:X.N[i]?=some x)(hx:Loc X.env.scope x)(he:PE X e te)(hs:swapsWith e (some (.Name x pos')) pos.line X.env=pure false:=by rfl)(hf:X.fn x=true∨X.env.scope.names.lookup x=some .local:=by first | exact .inl rfl | exact .inr rfl | assumption) :
  PS X (.Assign [.Name x pos'] e pos) (uW te (n8 i)):=by
 intro pins s σ H D I h;refine wpAny_Assign_Name (thn (he pins s σ H _ I h) fun v s1 ⟨y,H1,I1,r1,q1⟩=>?_) hs;exact lx I1 hN hi hx r1 (fun s2 I2=>⟨_,H1,I2,q1⟩) hf
end
section
variable {X:Cx}{pos:Pos}
def uh(c:TT)(tb:TS):TS:=fun D σ H=>∃W:Nat->St->Hp->Prop,(∃m,W m σ H)/\∀m σ H,W m σ H ->
 c σ H fun b H1=>if b=true then ∃N:St->Hp->Prop,(∀σ' H',N σ' H'->∃m',m'<m/\W m' σ' H')/\tb { D with nx:=N,ct:=N,bk:=D.nx } σ H1 else D.nx σ H1
theorem sY{c:Expr}{body:List Stmt}{tc:TT}{tb:TS}(hp:PassesOwn (model X.prog X.w) X.A X.env X.xe)(hc:PT X c tc)(hb:PSs X body tb):PS X (.While c body [] pos) (uh tc tb):=by
 intro pins s σ H D I h;obtain⟨W,⟨m0,w0⟩,turn⟩:=h;refine wpAny_While (codeAny_whileLoop (fun n s'=>∃σ' H',Inv X pins σ' H' s'/\W n σ' H') ?_ m0 ⟨σ,H,I,w0⟩);rintro n s1 ⟨σ1,H1,I1,w1⟩;refine GS hp (thn (hc pins s1 σ1 H1 _ I1 (turn n σ1 H1 w1)) fun b s2 y_=>?_);obtain⟨H2,I2,q2⟩:=y_;cases b with
 | true =>
  obtain⟨N,hN,q2⟩:=q2;rw[Fp rfl];refine GS hp (thn (hb pins s2 σ1 H2 _ I2 q2) fun f s3 q3=>?_);cases f with
  | next =>
   obtain⟨σ3,H3,I3,n3⟩:=q3;obtain⟨m',hm,w3⟩:=hN σ3 H3 n3;exact⟨m',hm,σ3,H3,I3,w3⟩
  | cont =>
   obtain⟨σ3,H3,I3,n3⟩:=q3;obtain⟨m',hm,w3⟩:=hN σ3 H3 n3;exact⟨m',hm,σ3,H3,I3,w3⟩
  | brk=>exact q3
  | ret v=>exact q3
 | false =>
  rw[Fh Gv];exact wpAny_execs_nil ⟨σ1,H2,I2,q2⟩
end
structure It where
 go:Nat->Hp->Prop
 yld:Nat->Hp->V->Hp->Prop
 stop:Nat->Hp->Prop
def h8(X:Cx)(pins:List (Addr×Obj))(H:Hp)(b:Addr):Prop :=
 H b=none/\b≠X.env.locals/\b∉X.fs/\(b∈X.ex∨X.s₀.heap.objs.size≤b)/\(∀x c,X.env.cells.lookup x=some c->c≠b)/\∀p∈X.pn++pins,p.1≠b
theorem Inv.fpOk{X:Cx}{pins:List (Addr×Obj)}{σ:St}{H H':Hp}{s:Shared}{b:Addr}(I:Inv X pins σ H s)(hb:s.heap.objs.size≤b)(hn:H' b=none):h8 X pins H' b:=by
 refine⟨hn,Gz (FD I.lt hb),I.nofs hb,.inr (FI I.sz hb),fun x c e z=>?_,fun p hp z=>?_⟩
 ·obtain⟨v,q⟩:=I.cell x c e;exact absurd (FD q.lt (by rw[z];exact hb)) (GI _)
 ·exact absurd (FD (Fb (I.pin p hp).1) (by rw[z];exact hb)) (GI _)
structure Turn (P:Program) (w:World) (K:PySem.W.Frag) (tg:Expr) (J:It) (fp:List Addr) (it:Addr) (tn:Nat→Heap→Prop):Prop where
 mem:it∈fp
 obj:∀i h,tn i h->∀b∈fp,∃o,h.get? b=some o/\∀v,o.data≠.cell v
 keep:∀i h h',tn i h->(∀b∈fp,∀o,h.get? b=some o->h'.get? b=some o)->tn i h'
 item:∀(X:Cx),X.prog=P->X.w=w->X.K=K->X.calm=true->∀(i:Nat) (pins:List (Addr×Obj)) (s:Shared) (σ:St) (H:Hp) (E:Value->Shared->Prop),Inv X pins σ H s->(∀b∈fp,h8 X pins H b)->tn i s.heap->J.go i H ->
  wpAny (model P w) X.A (pyNext (.ref it)) (fun r s1=>∃u,r=some u /\
   wpAny (model P w) X.A (letOwnedTupleGo tg (.ref it) u) (fun _ s2=>∃x H',Inv X pins σ H' s2/\RelV x u/\J.yld i H x H'/\tn (i+1) s2.heap/\∀b∈fp,H' b=none) E s1) E s
 done:∀(X:Cx),X.prog=P->X.w=w->X.K=K->X.calm=true->∀(i:Nat) (pins:List (Addr×Obj)) (s:Shared) (σ:St) (H:Hp) (E:Value->Shared->Prop),Inv X pins σ H s->(∀b∈fp,h8 X pins H b)->tn i s.heap->J.stop i H ->
  wpAny (model P w) X.A (pyNext (.ref it)) (fun r s1=>r=none/\Inv X pins σ H s1) E s
 self:∀(A:Around) (i:Nat) (s:Shared) (Q:Value->Shared->Prop) (E:Value->Shared->Prop),tn i s.heap->Q (.ref it) s->wpAny (model P w) A (pyIter (.ref it)) Q E s
abbrev TI:=St->Hp->(It->Hp->Prop)->Prop
def PIE(X:Cx)(pins:List (Addr×Obj))(σ:St)(tg:Expr)(R:It->Hp->Prop)(itv:Value)(s2:Shared):Prop :=
 ∃(it:Addr) (fp:List Addr) (tn:Nat->Heap->Prop) (J:It) (H':Hp),itv=.ref it/\Inv X pins σ H' s2/\Turn X.prog X.w X.K tg J fp it tn/\tn 0 s2.heap/\(∀b∈fp,h8 X pins H' b)/\R J H'
def PI(X:Cx)(tg iter:Expr)(wi:TI):Prop :=
 ∀(pins:List (Addr×Obj)) (s:Shared) (σ:St) (H:Hp) (R:It->Hp->Prop),Inv X pins σ H s->wi σ H R ->
  wpAny (model X.prog X.w) X.A (eval iter X.env) (fun v s1=>wpAny (model X.prog X.w) X.A (pyIter v) (PIE X pins σ tg R) X.xe s1) X.xe s
theorem oC{M:Model}{A:Around}{E:Value->Shared->Prop}{s:Shared}{tg:Expr}{it:Addr}{u:Value}{o:Obj}{n:String}{vs:Array Value}{Q:Unit->Shared->Prop}(ho:s.heap.get? it=some o)(hc:o.cls=.type n)(hd:o.data=.fields vs)
  (hn:["enumerate","zip","dict_itemiterator","dict_reverseitemiterator","odict_iterator","itertools.zip_longest","itertools.pairwise"].contains n=false) (hQ:Q () s):wpAny M A (letOwnedTupleGo tg (.ref it) u) Q E s:=by
 unfold letOwnedTupleGo;cases tg<;>first
  | exact E1 hQ
  |(cases u<;>first
    | exact E1 hQ
    | (refine EX (wpAny_load ho ?_)
       rw [hc,hd];show wpAny M A (if (["enumerate","zip","dict_itemiterator","dict_reverseitemiterator","odict_iterator","itertools.zip_longest","itertools.pairwise"].contains n && vs[0]? == some (rawInt _))=true then _ else _) Q E s;rw [Fh (by intro h; rw [hn,Bool.false_and] at h; cases h)];exact E1 hQ))
def Itl(K:PySem.W.Frag)(a:Addr):It :=
 ⟨fun i H=>∃xs x,SqL K H a xs/\xs[i]?=some x,fun i H x H'=>H'=H/\∀xs,SqL K H a xs->xs[i]?=some x,fun i H=>∃xs,SqL K H a xs/\xs.length≤i⟩
def Itt(K:PySem.W.Frag)(a:Addr):It :=
 ⟨fun i H=>∃xs x,SqT K H a xs/\xs[i]?=some x,fun i H x H'=>H'=H/\∀xs,SqT K H a xs->xs[i]?=some x,fun i H=>∃xs,SqT K H a xs/\xs.length≤i⟩
def Itr(lo:Int)(n:Nat):It:=⟨fun i _=>i<n,fun i H x H'=>H'=H/\x=.int (lo+i),fun i _=>n≤i⟩
theorem px{P:Program}{w:World}{K:PySem.W.Frag}{tg:Expr}(a it:Addr):Turn P w K tg (Itl K a) [it] it (fun i h=>h.IsListIter it a i) where
 mem:=by simp
 obj:=fun i h st b hb=>by
  have e:b=it:=by simpa using hb
  subst e;obtain⟨o,e,c,d⟩:=st;exact⟨o,e,fun v z=>by rw[d]at z;cases z⟩
 keep:=fun i h h' st k=>st.at fun o e=>k it (by simp) o e
 item:=by
  intro X hP hw hK hc i pins s σ H E I hf st hg;subst hP hw hK;obtain⟨xs,x,hq,hx⟩:=hg;obtain⟨its,rv,p,hz⟩:=I.list hq;obtain⟨u,hu,ru⟩:=rv.get hx;obtain⟨f0,f1,f2,f3,f4,f5⟩:=hf it (by simp);refine wpAny_pyNext_list_item st p.isList (x:=u) (by simpa using hu) fun h' st' sb=>?_;have I1:Inv X pins σ H { s with heap:=h' }:=I.turned (t':=s.toks) (fun b o hb e=>(sb.2 b hb).trans e) f0 f1 f3 f4 f5;obtain⟨o,e,c,d⟩:=id st';exact⟨u,rfl,oC (s:={ s with heap:=h' }) e c d (by decide) ⟨x,H,I1,ru,⟨rfl,fun ys hy=>by rw[I.list_inj hy hq];exact hx⟩,st',fun b hb=>(hf b hb).1⟩⟩
 done:=by
  intro X hP hw hK hc i pins s σ H E I hf st hg;subst hP hw hK;obtain⟨xs,hq,hx⟩:=hg;obtain⟨its,rv,p,hz⟩:=I.list hq;obtain⟨f0,f1,f2,f3,f4,f5⟩:=hf it (by simp);have hl:=rv.length;exact wpAny_pyNext_list_end (I.ok.hd hc) st p.isList (by simp;omega) fun h' eb=>⟨rfl,I.turned (t':=s.toks) (fun b o hb e=>eb b o hb e) f0 f1 f3 f4 f5⟩
 self:=fun _ _ _ _ _ st h=>wpAny_pyIter_listiter st h
theorem ni{P:Program}{w:World}{K:PySem.W.Frag}{tg:Expr}(a it:Addr):Turn P w K tg (Itt K a) [it] it (fun i h=>h.IsTupleIter it a i) where
 mem:=by simp
 obj:=fun i h st b hb=>by
  have e:b=it:=by simpa using hb
  subst e;obtain⟨o,e,c,d⟩:=st;exact⟨o,e,fun v z=>by rw[d]at z;cases z⟩
 keep:=fun i h h' st k=>st.at fun o e=>k it (by simp) o e
 item:=by
  intro X hP hw hK hc i pins s σ H E I hf st hg;subst hP hw hK;obtain⟨xs,x,hq,hx⟩:=hg;obtain⟨its,rv,p,hz⟩:=I.tuple hq;obtain⟨u,hu,ru⟩:=rv.get hx;obtain⟨f0,f1,f2,f3,f4,f5⟩:=hf it (by simp);refine wpAny_pyNext_tuple_item st (show s.heap.IsTuple a its.toArray from p) (x:=u) (by simpa using hu) fun h' st' sb=>?_;have I1:Inv X pins σ H { s with heap:=h' }:=I.turned (t':=s.toks) (fun b o hb e=>(sb.2 b hb).trans e) f0 f1 f3 f4 f5;obtain⟨o,e,c,d⟩:=id st';exact⟨u,rfl,oC (s:={ s with heap:=h' }) e c d (by decide) ⟨x,H,I1,ru,⟨rfl,fun ys hy=>by rw[I.tuple_inj hy hq];exact hx⟩,st',fun b hb=>(hf b hb).1⟩⟩
 done:=by
  intro X hP hw hK hc i pins s σ H E I hf st hg;subst hP hw hK;obtain⟨xs,hq,hx⟩:=hg;obtain⟨its,rv,p,hz⟩:=I.tuple hq;obtain⟨f0,f1,f2,f3,f4,f5⟩:=hf it (by simp);have hl:=rv.length;exact wpAny_pyNext_tuple_end (I.ok.hd hc) st (show s.heap.IsTuple a its.toArray from p) (by simp;omega) fun h' eb=>⟨rfl,I.turned (t':=s.toks) (fun b o hb e=>eb b o hb e) f0 f1 f3 f4 f5⟩
 self:=fun _ _ _ _ _ st h=>wpAny_pyIter_tupleiter st h
theorem mV{P:Program}{w:World}{K:PySem.W.Frag}{tg:Expr}(it:Addr)(lo:Int)(n:Nat):Turn P w K tg (Itr lo n) [it] it (fun i h=>IsRangeIter h it (lo+(i:Nat)*1) ((n:Int) - (i:Nat)) 1) where
 mem:=by simp
 obj:=fun i h st b hb=>by
  have e:b=it:=by simpa using hb
  subst e;exact⟨_,st,fun v z=>by
   have z':Data.fields _=Data.cell v:=z;cases z'⟩
 keep:=fun i h h' st k=>k it (by simp) _ st
 item:=by
  intro X hP hw hK hc i pins s σ H E I hf st hg;subst hP hw hK;obtain⟨f0,f1,f2,f3,f4,f5⟩:=hf it (by simp);have W:=Walks.range (prog:=X.prog) (w:=X.w) (I.ok.hd hc) it lo 1 n;refine W.item i s _ _ hg st fun v h' tk hv st' kk=>?_;obtain⟨t,rfl⟩:=hv;have I1:Inv X pins σ H { s with heap:=h',toks:=tk }:=I.turned (fun b o hb e=>kk b o (by simpa using hb) e) f0 f1 f3 f4 f5;refine⟨_,rfl,oC (s:={ s with heap:=h',toks:=tk }) (n:="range_iterator") st' rfl rfl (by decide) ⟨.int (lo+i),H,I1,⟨t,?_⟩,⟨rfl,rfl⟩,st',fun b hb=>(hf b hb).1⟩⟩;rw[Int.mul_one]
 done:=by
  intro X hP hw hK hc i pins s σ H E I hf st hg;subst hP hw hK;obtain⟨f0,f1,f2,f3,f4,f5⟩:=hf it (by simp);exact wpAny_pyNext_range_end (I.ok.hd hc) st (by have:n≤i:=hg;omega) fun h' eb=>⟨rfl,I.turned (t':=s.toks) (fun b o hb e=>eb b o hb e) f0 f1 f3 f4 f5⟩
 self:=fun _ _ _ _ _ st h=>wpAny_pyIter_rangeiter st h
end
section
section
variable {X:Cx}{tg:Expr}
theorem kN{pins:List (Addr×Obj)}{σ:St}{H:Hp}{s:Shared}{R:It->Hp->Prop}{E:Value->Shared->Prop}{lo hi:Int}{t u v:Tok}{tk:Nat}(I:Inv X pins σ H s)(h1:-(2 ^ 62)≤lo)(h2:lo<2 ^ 62)(h3:-(2 ^ 62)≤hi)(h4:hi<2 ^ 62)
  (q:R (Itr lo (hi - lo).toNat) H):wpAny (model X.prog X.w) X.A (pyIter (.ref s.heap.objs.size)) (PIE X pins σ tg R) E { s with heap:=s.heap.push { cls:=.type "range",data:=.fields #[.int lo t,.int hi u,.int 1 v] },toks:=tk }:=by
 refine wpAny_pyIter_range (IsRange.new ..) (small_one h1 h2 h3 h4) ?_;have I1:Inv X pins σ H { s with heap:=s.heap.push { cls:=.type "range",data:=.fields #[.int lo t,.int hi u,.int 1 v] },toks:=tk }:=I.kept fun b o e=>EZ _ e;refine⟨(s.heap.push { cls:=.type "range",data:=.fields #[.int lo t,.int hi u,.int 1 v] }).objs.size,[(s.heap.push { cls:=.type "range",data:=.fields #[.int lo t,.int hi u,.int 1 v] }).objs.size],_,_,H,rfl,
  I1.kept (t':=tk) fun b o e=>EZ _ e,mV _ lo (hi - lo).toNat,?_,fun b hb=>?_,q⟩
 ·have e1:lo+((0:Nat):Int)*1=lo:=by simp
  have e2:(((hi - lo).toNat:Nat):Int) - ((0:Nat):Int)=Builtin.Range.rangeSize lo hi 1:=by rw[rangeSize_one];split<;>omega
  show IsRangeIter _ _ (lo+((0:Nat):Int)*1) ((((hi - lo).toNat:Nat):Int) - ((0:Nat):Int)) 1;rw[e1,e2];exact Fc _ rfl
 ·have e:b=(s.heap.push { cls:=.type "range",data:=.fields #[.int lo t,.int hi u,.int 1 v] }).objs.size:=by simpa using hb
  subst e;exact I1.fpOk (Fd _) (I1.hok.fresh (Fd _))
def Cj(ta:TA):TI:=fun σ H R=>ta σ H fun vs H1=>∃j:Int,vs=[.int j]/\-(2 ^ 62)≤j/\j<2 ^ 62/\R (Itr 0 j.toNat) H1
def Cc(ta:TA):TI:=fun σ H R=>ta σ H fun vs H1=>∃i j:Int,vs=[.int i,.int j]/\(-(2 ^ 62)≤i/\i<2 ^ 62/\-(2 ^ 62)≤j/\j<2 ^ 62)/\R (Itr i (j - i).toNat) H1
theorem p9{a:Expr}{ta:TA}{p pos:Pos}(hg:Gl X "range")(hm:X.mg "range"=none)(ha:PA X [a] ta)(hs:starEach [a] X.env=[(false,eval a X.env)]:=by rfl):PI X tg (.Call (.Name "range" p) [a] [] pos) (Cj ta):=by
 intro pins s σ H R I h;refine Call_ (cQ I hg hm boot_range (FG (thn (ha pos pins s σ H _ I h) fun us s1 ⟨vs,H1,I1,r1,q1⟩=>?_) hs rfl));obtain⟨j,e,q1,q2,q⟩:=q1;subst e;cases r1 with
 | cons r rr =>
  cases rr;obtain⟨t,rfl⟩:=r;exact call_range_1 (kN I1 (by omega) (by omega) q1 q2 (by simpa using q))
theorem qz{a b:Expr}{ta:TA}{p pos:Pos}(hg:Gl X "range")(hm:X.mg "range"=none)(ha:PA X [a,b] ta)(hs:starEach [a,b] X.env=[(false,eval a X.env),(false,eval b X.env)]:=by rfl)(hs2:starEach [b] X.env=[(false,eval b X.env)]:=by rfl) :
  PI X tg (.Call (.Name "range" p) [a,b] [] pos) (Cc ta):=by
 intro pins s σ H R I h;refine Call_ (cQ I hg hm boot_range (FG (thn (ha pos pins s σ H _ I h) fun us s1 ⟨vs,H1,I1,r1,q1⟩=>?_) (by rw[hs,hs2]) (by rw[hs2];rfl)));obtain⟨i,j,e,⟨q1,q2,q3,q4⟩,q⟩:=q1;subst e;cases r1 with
 | cons r rr =>
  cases rr with
  | cons r' rr =>
   cases rr;obtain⟨t,rfl⟩:=r;obtain⟨t',rfl⟩:=r';exact call_range_2 (kN I1 q1 q2 q3 q4 q)
def CA(wi:TI)(g:TG)(tb:TS):TS:=fun D σ H=>wi σ H fun J H1=>∃W:Nat->Nat->St->Hp->Prop,(∃m,W 0 m σ H1)/\∀i m σ H,W i m σ H ->
 (J.stop i H/\D.nx σ H)∨(J.go i H/\∃N:St->Hp->Prop,(∀σ' H',N σ' H'->∃m',m'<m/\W (i+1) m' σ' H')/\∀x H',J.yld i H x H'->g x σ H' fun σ2 H2=>tb { D with nx:=N,ct:=N,bk:=D.nx } σ2 H2)
def iN(fp:List Addr)(h:Heap):List (Addr×Obj):=fp.filterMap fun b=>(h.get? b).map fun o=>(b,o)
theorem dR{fp:List Addr}{h:Heap}{b:Addr}{o:Obj}(hb:b∈fp)(e:h.get? b=some o):(b,o)∈iN fp h:=List.mem_filterMap.mpr ⟨b,hb,by rw[e];rfl⟩
theorem qG{fp:List Addr}{h:Heap}{p:Addr×Obj}(hp:p∈iN fp h):p.1∈fp/\h.get? p.1=some p.2:=by
 obtain⟨b,hb,e⟩:=List.mem_filterMap.mp hp;cases q:h.get? b with
 | none=>rw[q]at e;cases e
 | some o =>
  rw[q]at e;have e':(b,o)=p:=FH e;subst e';exact⟨hb,q⟩
theorem Inv.pinned{pins:List (Addr×Obj)}{σ:St}{H:Hp}{s:Shared}{fp:List Addr}(I:Inv X pins σ H s)(hf:∀b∈fp,h8 X pins H b)(ho:∀b∈fp,∃o,s.heap.get? b=some o/\∀v,o.data≠.cell v):Inv X (pins++iN fp s.heap) σ H s :=
 I.pins_of fun p hp=>(E9.mp hp).elim (fun z=>I.pin p (Fw _ z)) fun z=>by
  obtain⟨hb,e⟩:=qG z;obtain⟨f0,f1,f2,_⟩:=hf p.1 hb;obtain⟨o,e',d⟩:=ho p.1 hb;rw[e]at e';cases e';exact⟨e,f0,f1,f2,d⟩
theorem Inv.unpinned{pins pl:List (Addr×Obj)}{σ:St}{H:Hp}{s:Shared}(I:Inv X (pins++pl) σ H s):Inv X pins σ H s:=I.pins_of fun p hp=>I.pin p (Fw _ (FE _ hp))
theorem zx{iter:Expr}{body:List Stmt}{wi:TI}{g:TG}{tb:TS}{pos:Pos}(hp:PassesOwn (model X.prog X.w) X.A X.env X.xe)(hc:X.calm=true)(hi:PI X tg iter wi)(hg:PG X tg g)(hb:PSs X body tb)
  (hs:∀x,foldedSetIterable iter X.env x=pure x:=by intro _;rfl):PS X (.For tg iter body [] pos) (CA wi g tb):=by
 intro pins s σ H D I h;refine wpAny_For (thn (hi pins s σ H _ I h) fun v s1 h1=>thn h1 fun itv s2 h2=>?_) hs;obtain⟨it,fp,tn,J,H2,e,I2,T,st2,f2,W,⟨m0,w0⟩,turn⟩:=h2;subst e;have stat:∀{H':Hp},(∀b∈fp,H' b=none)->∀b∈fp,h8 X pins H' b:=fun hn b hb=>⟨hn b hb,(f2 b hb).2⟩;refine codeAny_forLoop_any (fun n s'=>∃i σ' H',Inv X pins σ' H' s'/\tn i s'.heap/\(∀b∈fp,H' b=none)/\W i n σ' H') ?_ m0 ⟨0,σ,H2,I2,st2,fun b hb=>(f2 b hb).1,w0⟩;rintro n s3 ⟨i,σ3,H3,I3,st3,fr3,w3⟩;rcases turn i n σ3 H3 w3 with⟨stop,qn⟩ |⟨go,N,hN,step⟩
 ·refine GS hp (thn (T.done X rfl rfl rfl hc i pins s3 σ3 H3 X.xe I3 (stat fr3) st3 stop) fun r s4 y_=>?_);obtain⟨hr,I4⟩:=y_;subst hr;exact wpAny_execs_nil ⟨σ3,H3,I4,qn⟩
 ·refine GS hp (thn (T.item X rfl rfl rfl hc i pins s3 σ3 H3 X.xe I3 (stat fr3) st3 go) fun r s4 y_=>?_);obtain⟨u,hr,h4⟩:=y_;subst hr;refine GS hp (thn h4 fun _ s5 y_=>?_);obtain⟨x,H5,I5,r5,y5,st5,fr5⟩:=y_;have I5':=I5.pinned (stat fr5) (T.obj _ _ st5);refine GS hp (thn (hg _ s5 σ3 H5 x u _ I5' r5 (step x H5 y5)) fun _ s6 y_=>?_);obtain⟨σ6,H6,I6,q6⟩:=y_;refine GS hp (thn (hb _ s6 σ6 H6 _ I6 q6) fun f s7 q7=>?_);have again:∀{σ7:St} {H7:Hp},Inv X (pins++iN fp s5.heap) σ7 H7 s7->N σ7 H7->∃m,m<n/\∃i σ' H',Inv X pins σ' H' s7/\tn i s7.heap/\(∀b∈fp,H' b=none)/\W i m σ' H':=fun {σ7 H7} I7 n7=>by
   obtain⟨m',hm,w7⟩:=hN σ7 H7 n7;refine⟨m',hm,i+1,σ7,H7,I7.unpinned,T.keep _ _ _ st5 fun b hb o e=>(I7.pin (b,o) (Fw _ (Fw _ (dR hb e)))).1,fun b hb=>?_,w7⟩;obtain⟨o,e,d⟩:=T.obj _ _ st5 b hb;exact(I7.pin (b,o) (Fw _ (Fw _ (dR hb e)))).2.1
  cases f with
  | next=>obtain⟨σ7,H7,I7,n7⟩:=q7;exact again I7 n7
  | cont=>obtain⟨σ7,H7,I7,n7⟩:=q7;exact again I7 n7
  | brk=>obtain⟨σ7,H7,I7,q7⟩:=q7;exact⟨σ7,H7,I7.unpinned,q7⟩
  | ret v=>obtain⟨x7,σ7,H7,I7,r7,q7⟩:=q7;exact⟨x7,σ7,H7,I7.unpinned,r7,q7⟩
end
theorem eG{c:TT}{tb:TS}{D:Ends}{σ:St}{H:Hp}(Pv:St->Hp->Prop)(μ:St->Hp->Nat)(h0:Pv σ H)
  (hs:∀σ H,Pv σ H->c σ H fun b H1=>if b=true then tb { D with nx:=fun σ' H'=>Pv σ' H'/\μ σ' H'<μ σ H,ct:=fun σ' H'=>Pv σ' H'/\μ σ' H'<μ σ H,bk:=D.nx } σ H1 else D.nx σ H1)
  (mono:∀σ H Q Q',(∀b H1,Q b H1->Q' b H1)->c σ H Q->c σ H Q'):uh c tb D σ H:=by
 refine⟨fun m σ H=>m=μ σ H/\Pv σ H,⟨_,rfl,h0⟩,?_⟩;rintro m σ H ⟨rfl,p⟩;refine mono σ H _ _ (fun b H1 q=>?_) (hs σ H p);cases b with
 | true=>exact⟨_,fun σ' H' y_=>by obtain⟨p',l⟩:=y_;exact ⟨_,l,rfl,p'⟩,q⟩
 | false=>exact q
end
section
abbrev R2:=V->V->Hp->VK->Prop
def OpR(X:Cx)(f:Value->Value->Sem Value)(r:R2):Prop :=
 ∀(pins:List (Addr×Obj)) (s:Shared) (σ:St) (H:Hp) (x y:V) (v u:Value) (Q:VK),Inv X pins σ H s->RelV x v->RelV y u->r x y H Q ->
  wpAny (model X.prog X.w) X.A (f v u) (EP X pins σ Q) X.xe s
def UnR(X:Cx)(f:Value->Sem Value)(r:V->Hp->VK->Prop):Prop :=
 ∀(pins:List (Addr×Obj)) (s:Shared) (σ:St) (H:Hp) (x:V) (v:Value) (Q:VK),Inv X pins σ H s->RelV x v->r x H Q ->
  wpAny (model X.prog X.w) X.A (f v) (EP X pins σ Q) X.xe s
def cD(X:Cx)(f:Value)(r:List V->Hp->VK->Prop):Prop :=
 ∀(pins:List (Addr×Obj)) (s:Shared) (σ:St) (H:Hp) (xs:List V) (us:List Value) (Q:VK),Inv X pins σ H s->Vals xs us->r xs H Q ->
  wpAny (model X.prog X.w) X.A (call f us) (EP X pins σ Q) X.xe s
def tOp(r:R2)(ta tb:TE):TE:=fun σ H Q=>ta σ H fun x H1=>tb σ H1 fun y H2=>r x y H2 Q
def tUn(r:V->Hp->VK->Prop)(ta:TE):TE:=fun σ H Q=>ta σ H fun x H1=>r x H1 Q
def rI(C:Int->Int->Prop)(g:Int->Int->V):R2:=fun x y H Q=>∃i j,x=.int i/\y=.int j/\C i j/\Q (g i j) H
def rI0(g:Int->Int->V):R2:=fun x y H Q=>∃i j,x=.int i/\y=.int j/\Q (g i j) H
def rU(g:Int->V):V->Hp->VK->Prop:=fun x H Q=>∃i,x=.int i/\Q (g i) H
section
variable {X:Cx}{a b c:Expr}{ta tb tc:TE}{pos:Pos}
theorem xZ(ha:PE X a ta)(hb:PE X b tb){pins:List (Addr×Obj)}{s:Shared}{σ:St}{H:Hp}{R:V->V->Hp->Prop}(I:Inv X pins σ H s)
  (h:ta σ H fun x H1=>tb σ H1 fun y H2=>R x y H2) {Q:Value->Shared->Prop} {f:Value->Value->Sem Value}
  (hf:∀v u s2 x y H2,Inv X pins σ H2 s2->RelV x v->RelV y u->R x y H2->wpAny (model X.prog X.w) X.A (f v u) Q X.xe s2) :
  wpAny (model X.prog X.w) X.A (eval a X.env) (fun v s₁=>wpAny (model X.prog X.w) X.A (eval b X.env) (fun u s₂=>wpAny (model X.prog X.w) X.A (f v u) Q X.xe s₂) X.xe s₁) X.xe s:=by
 refine thn (ha pins s σ H _ I h) fun v s1 y_=>?_;obtain⟨x,H1,I1,r1,q1⟩:=y_;refine thn (hb pins s1 σ H1 _ I1 q1) fun u s2 y_=>?_;obtain⟨y,H2,I2,r2,q2⟩:=y_;exact hf v u s2 x y H2 I2 r1 r2 q2
theorem By{op:Operator}{r:R2}(ho:OpR X (binaryOp op) r)(ha:PE X a ta)(hb:PE X b tb):PE X (.BinOp a op b pos) (tOp r ta tb):=by
 intro pins s σ H Q I h;exact wpAny_BinOp (xZ ha hb I h fun v u s2 x y H2 I2 rx ry q=>ho pins s2 σ H2 x y v u Q I2 rx ry q)
theorem Bi{op:UnaryOp}{r:V->Hp->VK->Prop}(ho:UnR X (unaryOp op) r)(ha:PE X a ta):PE X (.UnaryOp op a pos) (tUn r ta):=by
 intro pins s σ H Q I h;exact UnaryOp_ (thn (ha pins s σ H _ I h) fun v s1 y_=>by obtain⟨x,H1,I1,r1,q1⟩:=y_;exact ho pins s1 σ H1 x v Q I1 r1 q1)
theorem opI{f:Value->Value->Sem Value}{C:Int->Int->Prop}{g:Int->Int->Int}
  (rule:∀(i j:Int) (t u:Tok) (s:Shared) (Q:Value->Shared->Prop) (E:Value->Shared->Prop),C i j->Q (.int (g i j) s.toks) { s with toks:=s.toks+1 }->wpAny (model X.prog X.w) X.A (f (.int i t) (.int j u)) Q E s) :
  OpR X f (rI C fun i j=>.int (g i j)):=by
 intro pins s σ H x y v u Q I rx ry h;obtain⟨i,j,rfl,rfl,hc,q⟩:=h;obtain⟨t,rfl⟩:=rx;obtain⟨t',rfl⟩:=ry;exact rule i j t t' s _ _ hc ⟨.int (g i j),H,I.tok _,⟨_,rfl⟩,q⟩
theorem Bf{f:Value->Value->Sem Value}{g:Int->Int->Int}
  (rule:∀(i j:Int) (t u:Tok) (s:Shared) (Q:Value->Shared->Prop) (E:Value->Shared->Prop),Q (.int (g i j) s.toks) { s with toks:=s.toks+1 }->wpAny (model X.prog X.w) X.A (f (.int i t) (.int j u)) Q E s) :
  OpR X f (rI0 fun i j=>.int (g i j)):=by
 intro pins s σ H x y v u Q I rx ry h;obtain⟨i,j,rfl,rfl,q⟩:=h;obtain⟨t,rfl⟩:=rx;obtain⟨t',rfl⟩:=ry;exact rule i j t t' s _ _ ⟨.int (g i j),H,I.tok _,⟨_,rfl⟩,q⟩
theorem vT{f:Value->Value->Sem Value}{g:Int->Int->Bool}
  (rule:∀(i j:Int) (t u:Tok) (s:Shared) (Q:Value->Shared->Prop) (E:Value->Shared->Prop),Q (.bool (g i j)) s->wpAny (model X.prog X.w) X.A (f (.int i t) (.int j u)) Q E s) :
  OpR X f (rI0 fun i j=>.bl (g i j)):=by
 intro pins s σ H x y v u Q I rx ry h;obtain⟨i,j,rfl,rfl,q⟩:=h;obtain⟨t,rfl⟩:=rx;obtain⟨t',rfl⟩:=ry;exact rule i j t t' s _ _ ⟨.bl (g i j),H,I,rfl,q⟩
def qx(i j:Int):Prop:=0≤j/\j≤1000000/\i.natAbs<2 ^ 64
def ym(i j:Int):Prop:=(-(2 ^ 64)<i/\i<2 ^ 64)∨(-(2 ^ 64)<j/\j<2 ^ 64)
theorem ym.ok{i j:Int}(h:ym i j):IntMulOk i j:=by
 rcases h with⟨h1,h2⟩ |⟨h1,h2⟩
 ·exact .of_left (intBits_le_64 h1 h2)
 ·exact .of_right (intBits_le_64 h1 h2)
theorem nD(k:Nat):(0:Int)≤2 ^ k:=by
 rw[two_pow_cast];exact Int.natCast_nonneg _
theorem zv:OpR X (binaryOp .Add) (rI0 fun i j=>.int (i+j)):=Bf fun _ _ _ _ _ _ _ q=>add_int q
theorem zS:OpR X (binaryOp .Sub) (rI0 fun i j=>.int (i - j)):=Bf fun _ _ _ _ _ _ _ q=>sub_int q
theorem wx:OpR X (binaryOp .Mod) (rI (fun _ j=>j≠0) fun i j=>.int (i.fmod j)):=opI fun _ _ _ _ _ _ _ hc q=>mod_int' hc q
theorem y6:OpR X (binaryOp .Pow) (rI qx fun i j=>.int (i ^ j.toNat)):=opI fun _ _ _ _ _ _ _ hc q=>pow_int_small hc.1 hc.2.1 hc.2.2 q
theorem zF:OpR X (binaryOp .LShift) (rI qx fun i j=>.int (i*2 ^ j.toNat)):=opI fun _ _ _ _ _ _ _ hc q=>lshift_int_small hc.1 hc.2.1 hc.2.2 q
theorem Ap:OpR X (binaryOp .RShift) (rI (fun _ j=>0≤j) fun i j=>.int (i / 2 ^ j.toNat)):=opI fun i j _ _ _ _ _ hc q =>
 rshift_int hc (by rw[Int.fdiv_eq_ediv_of_nonneg i (nD _)];exact q)
theorem unI{f:Value->Sem Value}{g:Int->Int}
  (rule:∀(i:Int) (t:Tok) (s:Shared) (Q:Value->Shared->Prop) (E:Value->Shared->Prop),Q (.int (g i) s.toks) { s with toks:=s.toks+1 }->wpAny (model X.prog X.w) X.A (f (.int i t)) Q E s) :
  UnR X f (rU fun i=>.int (g i)):=by
 intro pins s σ H x v Q I rx h;obtain⟨i,rfl,q⟩:=h;obtain⟨t,rfl⟩:=rx;exact rule i t s _ _ ⟨.int (g i),H,I.tok _,⟨_,rfl⟩,q⟩
theorem An:UnR X (unaryOp .USub) (rU fun i=>.int (-i)):=unI fun _ _ _ _ _ q=>neg_int q
end
section
variable {X:Cx}{a b c:Expr}{ta tb tc:TE}{pos:Pos}
theorem d0:OpR X (compareOp .Lt) (rI0 fun i j=>.bl (decide (i<j))):=vT fun _ _ _ _ _ _ _ q=>lt_int q
theorem tx:OpR X (compareOp .LtE) (rI0 fun i j=>.bl (decide (i≤j))):=vT fun _ _ _ _ _ _ _ q=>le_int q
theorem gP:OpR X (compareOp .Gt) (rI0 fun i j=>.bl (decide (j<i))):=vT fun _ _ _ _ _ _ _ q=>gt_int q
theorem kP:OpR X (compareOp .GtE) (rI0 fun i j=>.bl (decide (j≤i))):=vT fun _ _ _ _ _ _ _ q=>ge_int q
theorem au(b:Expr){op:CmpOp}(h:op≠.In:=by decide)(h2:op≠.NotIn:=by decide):behindInMarks op b=false:=by
 have e1:(op==CmpOp.In)=false:=by cases op<;>first | rfl | exact absurd rfl h
 have e2:(op==CmpOp.NotIn)=false:=by cases op<;>first | rfl | exact absurd rfl h2
 cases b<;>simp[behindInMarks,e1,e2]
theorem uF{op:CmpOp}{r:R2}(ho:OpR X (compareOp op) r)(ha:PE X a ta)(hb:PE X b tb)(hm:behindInMarks op b=false):PE X (.Compare a [op] [b] pos) (tOp r ta tb):=by
 intro pins s σ H Q I h;exact wpAny_Compare1 (xZ ha hb I h fun v u s2 x y H2 I2 rx ry q=>ho pins s2 σ H2 x y v u Q I2 rx ry q) hm
def xo(t:TE):TT:=fun σ H Q=>t σ H fun x H'=>∃k,x=.bl k/\Q k H'
theorem vq{op:CmpOp}{r:R2}(ho:OpR X (compareOp op) r)(ha:PE X a ta)(hb:PE X b tb)(hm:behindInMarks op b=false):PT X (.Compare a [op] [b] pos) (xo (tOp r ta tb)):=by
 intro pins s σ H Q I h;refine wpAny_isTrue_Compare1 (thn (ha pins s σ H _ I h) fun v s1 ⟨x,H1,I1,r1,q1⟩=>thn (hb pins s1 σ H1 _ I1 q1) fun u s2 ⟨y,H2,I2,r2,q2⟩ =>
  thn (ho pins s2 σ H2 x y v u _ I2 r1 r2 q2) fun c s3 ⟨z,H3,I3,r3,k,e,q3⟩=>?_) hm
 subst e;cases r3;exact Gy ⟨H3,I3,q3⟩
theorem nj:(sizeLine:Nat)<2 ^ 63:=by rw[FP];decide
theorem vals1{x:V}{us:List Value}(r:Vals [x] us):∃u,us=[u]/\RelV x u:=by
 cases r with
 | cons r1 r2=>cases r2;exact⟨_,rfl,r1⟩
theorem vals2{x y:V}{us:List Value}(r:Vals [x,y] us):∃u w',us=[u,w']/\RelV x u/\RelV y w':=by
 cases r with
 | cons r1 r2 =>
  cases r2 with
  | cons r3 r4=>cases r4;exact⟨_,_,rfl,r1,r3⟩
theorem pC:cD X (.type "int") (fun xs H Q=>(∃i,xs=[.int i]/\Q (.int i) H)∨∃k,xs=[.bl k]/\Q (.int (if k then 1 else 0)) H):=by
 intro pins s σ H xs us Q I r h;rcases h with⟨i,rfl,q⟩ |⟨k,rfl,q⟩
 ·obtain⟨u,rfl,t,rfl⟩:=vals1 r;exact call_int_int ⟨.int i,H,I,⟨_,rfl⟩,q⟩
 ·obtain⟨u,rfl,r1⟩:=vals1 r;cases r1;exact call_int_bool ⟨.int (if k then 1 else 0),H,I.tok _,⟨_,rfl⟩,q⟩
end
end
section
structure mP (h:Heap) (x dx C:Addr) (mA:Str→Option Value):Prop where
 obj:h.get? x=some (PySem.W.instObj C dx)
 ns:h.Ns1 dx mA
 ne:dx≠x
theorem qw{h:Heap}{dx:Addr}{mA:Str->Option Value}(n:h.Ns1 dx mA):∃od,h.get? dx=some od/\∀name,PySem.W.lookIn name od=some (mA name):=by
 obtain⟨o,es,ep,ho,hd,hk,_,hm⟩:=n;refine⟨o,ho,fun name=>?_⟩;have e:=hm name;unfold nsFind findBy at e;rw[←Array.find?_toList]at e;unfold PySem.W.lookIn;rw[hd];dsimp only;split
 ·rename_i y q;rw[q]at e;exact congrArg some e
 ·rename_i q;rw[q]at e;have a:es.toList.any (·.refKey)=false:=by
   rw[List.any_eq_false];intro y hy;obtain⟨z,t,hkey⟩:=hk y (Array.mem_toList_iff.mp hy);simp[DictEntry.refKey,hkey]
  have a':¬es.toList.any (·.refKey)=true:=by rw[a];exact Gv
  rw[Fh a'];exact congrArg some e
theorem mP.look{h:Heap}{x dx C:Addr}{mA:Str->Option Value}(I:mP h x dx C mA):∃od,PySem.W.InstAt h x (PySem.W.instObj C dx) C (some od)/\∀name,PySem.W.lookIn name od=some (mA name) :=
 let ⟨od,ho,hl⟩:=qw I.ns
 ⟨od,⟨I.obj,rfl,rfl,ho⟩,hl⟩
section
variable {prog:Program}{w:World}{A:Around}{E:Value->Shared->Prop}{s:Shared}{K:PySem.W.Frag}{x dx C f:Addr}{mA:Str->Option Value}{name:Str}{v:Value}
theorem get_map{expr:Bool}{Q:Value->Shared->Prop}(X:K.In s.heap)(I:mP s.heap x dx C mA)(hg:PySem.W.plainGet K C name=true)(hh:PySem.W.hasDictIn K C=true)
  (ha:PySem.W.findIn K (.ref C) name=some none) (hv:mA name=some v) (hv':PySem.W.handedIn v=true) (h:Q v { s with toks:=s.toks+1 }) :
  wpAny (model prog w) A (getAttr (.ref x) name expr) Q E s:=by
 obtain⟨od,J,hl⟩:=I.look;exact PySem.W.get_value X J (PySem.W.plainGet_of hg).1 (PySem.W.findObj_own hh ha rfl (by rw[hl,hv])) hv' h
theorem tf{pl:Sem Bool}{Q:Value×List Value->Shared->Prop}(X:K.In s.heap)(I:mP s.heap x dx C mA)(hg:PySem.W.plainGet K C name=true)
  (hf:PySem.W.findIn K (.ref C) name=some (some (.ref f))) (ht:PySem.W.isFn K (.ref f)=true) (hv:mA name=none) (h:Q (.ref f,[.ref x]) s) :
  wpAny (model prog w) A (getMethod (.ref x) name pl) Q E s:=by
 obtain⟨od,J,hl⟩:=I.look;exact PySem.W.method_fn X J (PySem.W.plainGet_of hg).1 (PySem.W.plainGet_of hg).2 hf (GY.mp ht) (by show(PySem.W.lookIn name od).map (·.isSome)=some false;rw[hl,hv];rfl) h
theorem uB{ns:List Str}{Q:Unit->Shared->Prop}(X:K.In s.heap)(I:mP s.heap x dx C mA)
  (hs:PySem.W.findIn K (.ref C) "__setattr__"=some (some (.builtin "object.__setattr__"))) (hp:PySem.W.plainOver K C=true) (ht:PySem.W.takerIn K C name=some none) (hh:PySem.W.hasDictIn K C=true)
  (hw:PySem.Within mA ns) (hsz:ns.length≤sizeLine)
  (h:∀h',mP h' x dx C (fun y=>if y=name then some v else mA y)->Heap.SameBut dx s.heap h'->Q () { s with heap:=h',toks:=s.toks+2 }) :
  wpAny (model prog w) A (setAttr (.ref x) name v) Q E s:=by
 obtain⟨od,J,hl⟩:=I.look;refine PySem.W.set_plain X J hs (PySem.W.osa_open (s:={ s with toks:=s.toks+1 }) (r:=none) X J hp ht fun b=>?_);obtain⟨cd,hc,hd'⟩:=PySem.W.any_some hh;have hx:s.heap.get? x=some ⟨.ref C,some dx,.plain,#[]⟩:=I.obj;refine EX (E1 (EX (EX (wpAny_loadPart hx (EX (PySem.W.Looks.here (s:={ s with toks:=s.toks+1 }) (PySem.W.looks_clsIn X hc) ?_))))));rw[hd'];refine E1 (a:=some dx) (EX (E1 (EX ?_)));refine wpAny_nsSet1 (s:={ s with toks:=s.toks+1 }) I.ns fun h' hn2 hs2=>?_;obtain⟨oD,esD,epD,hoD,hdD,hcD⟩:=hn2.count (PySem.Within.cons name v hw);refine EX (wpAny_lookBehind hoD (by rw[hdD];exact pastItsLine_dict (FI hcD (by rw[Fs];omega))) ?_);exact E1 (h _ ⟨(hs2.2 _ (Ne.symm I.ne)).trans I.obj,hn2,I.ne⟩ hs2)
theorem tT{R:Result->Shared->Prop}{vs:List Value}{kw:List (Str×Value)}(X:K.In s.heap)(hm:PySem.W.makesIn K C=true)
  (hi:PySem.W.findIn K (.ref C) "__init__"=some (some (.ref f))) (hf:PySem.W.typeIn K (.ref f)=some (.type "function"))
  (h:codeAny (model prog w) (A.under (.builtin "type.__call__" ⟨.ref C::vs,kw⟩)) (.call (.ref f) ⟨.ref (s.heap.objs.size+1)::vs,kw⟩) (PySem.W.InitBack (s.heap.objs.size+1) R)
   { s with heap:=(s.heap.push PySem.W.emptyDict).push (PySem.W.instObj C s.heap.objs.size) }) :
  codeAny (model prog w) A (.call (.ref C) ⟨vs,kw⟩) R s:=by
 obtain⟨hh,g,d,t,os⟩:=s;exact PySem.W.make_core (PySem.W.makes_of X hm) (PySem.W.looks_findIn X hi) (fun self=>PySem.W.bind_fn X self hf) (.inl rfl) h
end
def dF(f:Str)(v:V):List (Str×V)->List (Str×V)
 | []=>[(f,v)]
 |(g,x)::r=>if g=f then(g,v)::r else(g,x)::dF f v r
theorem gQ(f g:Str)(v:V):∀fs:List (Str×V),(dF f v fs).lookup g=if g=f then some v else fs.lookup g
 | []=>by
  show List.lookup g [(f,v)]=_;by_cases h:g=f
  ·have hb:(g==f)=true:=GY.mpr h;simp only[List.lookup,hb,Fp h]
  ·have hb:(g==f)=false:=beq_eq_false_iff_ne.mpr h;simp only[List.lookup,hb,Fh h]
 |(k,x)::r=>by
  have ih:=gQ f g v r;rw[show dF f v ((k,x)::r)=(if k=f then(k,v)::r else(k,x)::dF f v r)from rfl];by_cases hk:k=f
  ·rw[Fp hk];by_cases h:g=k
   ·have hb:(g==k)=true:=GY.mpr h;simp only[List.lookup,hb,Fp (h.trans hk)]
   ·have hb:(g==k)=false:=beq_eq_false_iff_ne.mpr h;simp only[List.lookup,hb,Fh (fun e:g=f=>h (e.trans hk.symm))]
  ·rw[Fh hk];by_cases h:g=k
   ·have hb:(g==k)=true:=GY.mpr h;simp only[List.lookup,hb,Fh (fun e:g=f=>hk (h.symm.trans e))]
   ·have hb:(g==k)=false:=beq_eq_false_iff_ne.mpr h;simp only[List.lookup,hb];exact ih
theorem gD(f:Str)(v:V):∀fs:List (Str×V),f∈(dF f v fs).map (·.1)/\∀g,g∈fs.map (·.1)->g∈(dF f v fs).map (·.1)
 | []=>⟨by simp[dF],fun g h=>by simp at h⟩
 |(k,x)::r=>by
  obtain⟨i1,i2⟩:=gD f v r;rw[show dF f v ((k,x)::r)=(if k=f then(k,v)::r else(k,x)::dF f v r)from rfl];by_cases hk:k=f
  ·rw[Fp hk];subst hk;exact⟨by simp,fun g h=>by simpa using h⟩
  ·rw[Fh hk];refine⟨?_,fun g h=>?_⟩
   ·rw[E8];exact Ff _ i1
   ·rw[E8]at h ⊢;rcases Fn.mp h with e | e
    ·exact Fn.mpr (.inl e)
    ·exact Ff _ (i2 g e)
theorem gU(f:Str)(v:V):∀fs:List (Str×V),(dF f v fs).length≤fs.length+1
 | []=>by simp[dF]
 |(k,x)::r=>by
  have ih:=gU f v r;rw[show dF f v ((k,x)::r)=(if k=f then(k,v)::r else(k,x)::dF f v r)from rfl];by_cases hk:k=f
  ·rw[Fp hk,Fs,Fs];omega
  ·rw[Fh hk,Fs,Fs];omega
theorem f7.some_of{v:V}{o:Option Value}(r:f7 (some v) o):∃u,o=some u/\RelV v u:=by
 cases o with
 | none=>exact(show False from r).elim
 | some u=>exact⟨u,rfl,r⟩
theorem f7.none_of{o:Option Value}(r:f7 none o):o=none:=by
 cases o with
 | none=>rfl
 | some u=>exact(show False from r).elim
theorem pS{v:V}{u:Value}(r:RelV v u):PySem.W.handedIn u=true:=by
 cases v with
 | non=>cases (show u=Value.none from r);rfl
 | bl b=>cases (show u=Value.bool b from r);rfl
 | int i=>obtain⟨t,e⟩:=(show ∃t,u=Value.int i t from r);cases e;rfl
 | str x=>obtain⟨t,e⟩:=(show ∃t,u=Value.str x t from r);cases e;rfl
 | byt b=>obtain⟨t,e⟩:=(show ∃t,u=Value.bytes b t from r);cases e;rfl
 | flt b=>obtain⟨t,e⟩:=(show ∃t,u=Value.float b t from r);cases e;rfl
 | ref a=>cases (show u=Value.ref a from r);rfl
 | ty n=>cases (show u=Value.type n from r);rfl
section
variable {P:Program}{w:World}{H H':Hp}{h h':Heap}{a C dx:Addr}{fs fs':List (Str×V)}
theorem j4(hok:HOk P w H h)(e:H a=some (.ins C dx fs)):∃mA,mP h a dx C mA/\(∀f,f7 (fs.lookup f) (mA f))/\PySem.Within mA (fs.map (·.1))/\fs.length≤1000/\H dx=some (.own a):=by
 obtain⟨d,z,ne,ob,mA,n,r,q⟩:=(show bQ P w H h a (.ins C dx fs)from hok a _ e);exact⟨mA,⟨ob,n,ne⟩,r,q,z,d⟩
end
structure Cls (K:PySem.W.Frag) (C:Addr):Prop where
 pg:PySem.W.plainGet K C Str.empty=true
 hd:PySem.W.hasDictIn K C=true
 po:PySem.W.plainOver K C=true
 sa:PySem.W.findIn K (.ref C) "__setattr__"=some (some (.builtin "object.__setattr__"))
theorem Cls.get{K:PySem.W.Frag}{C:Addr}(c:Cls K C)(f:Str):PySem.W.plainGet K C f=true:=c.pg
def c7(K:PySem.W.Frag)(C:Addr)(f:Str):Prop:=PySem.W.findIn K (.ref C) f=some none
theorem c7.taker{K:PySem.W.Frag}{C:Addr}{f:Str}(n:c7 K C f):PySem.W.takerIn K C f=some none:=by
 unfold PySem.W.takerIn;rw[show PySem.W.findIn K (.ref C) f=some none from n];rfl
structure Meth (K:PySem.W.Frag) (C:Addr) (m:Str) (f:Addr):Prop where
 at_:PySem.W.findIn K (.ref C) m=some (some (.ref f))
 fn:PySem.W.isFn K (.ref f)=true
 kp:PySem.W.keepIn K (.ref f)=true
section
variable {X:Cx}{pins:List (Addr×Obj)}{σ:St}{H:Hp}{s:Shared}{a C dx:Addr}{fs:List (Str×V)}{f:Str}{v:V}{A:Around}{E:Value->Shared->Prop}
theorem mE{b:Bool}{Q:Value->Shared->Prop}(I:Inv X pins σ H s)(e:H a=some (.ins C dx fs))(c:Cls X.K C)(n:c7 X.K C f)(l:fs.lookup f=some v)
  (h:∀u s',Inv X pins σ H s'->RelV v u->Q u s'):wpAny (model X.prog X.w) A (getAttr (.ref a) f b) Q E s:=by
 obtain⟨mA,O,r,_,_,_⟩:=j4 I.hok e;obtain⟨u,hu,ru⟩:=f7.some_of (v:=v) (o:=mA f) (by rw[←l];exact r f);exact get_map I.kIn O (c.get f) c.hd n hu (pS ru) (h u _ (I.tok _) ru)
theorem i8{m:Str}{g:Addr}{pl:Sem Bool}{Q:Value×List Value->Shared->Prop}(I:Inv X pins σ H s)(e:H a=some (.ins C dx fs))(c:Cls X.K C)(k:Meth X.K C m g)(l:fs.lookup m=none)
  (h:Q (.ref g,[.ref a]) s):wpAny (model X.prog X.w) A (getMethod (.ref a) m pl) Q E s:=by
 obtain⟨mA,O,r,_,_,_⟩:=j4 I.hok e;have hn:mA m=none:=f7.none_of (by rw[←l];exact r m);exact tf I.kIn O (c.get m) k.at_ k.fn hn h
theorem m5{y:V}{u:Value}{Q:Unit->Shared->Prop}(I:Inv X pins σ H s)(e:H a=some (.ins C dx fs))(c:Cls X.K C)(n:c7 X.K C f)(hl:fs.length<1000)(ry:RelV y u)
  (h:∀s',Inv X pins σ (upd H a (.ins C dx (dF f y fs))) s'->Q () s'):wpAny (model X.prog X.w) A (setAttr (.ref a) f u) Q E s:=by
 obtain⟨mA,O,r,wi,_,ho⟩:=j4 I.hok e;have hz:(fs.map (·.1)).length≤sizeLine:=by rw[EW,FP];omega
 refine uB I.kIn O c.sa c.po n.taker c.hd wi hz fun h' O' sb=>h _ ?_;have hd:∃o,h'.get? dx=some o:=let ⟨o,_,_,e',_⟩:=O'.ns;⟨o,e'⟩
 refine I.write (x:=a) (e:=dx) (by rw[e];exact True.intro) (.inr ho) (fun b q hb z=>(sb.2 b hb).trans z) hd ?_;refine⟨by rw[aZ O.ne];exact ho,?_,O.ne,O'.obj,_,O'.ns,fun g=>?_,fun g hg=>?_⟩
 ·have:=gU f y fs;omega
 ·show f7 ((dF f y fs).lookup g) (if g=f then some u else mA g);rw[gQ];by_cases q:g=f
  ·rw[Fp q,Fp q];exact ry
  ·rw[Fh q,Fh q];exact r g
 ·by_cases q:g=f
  ·rw[q];exact(gD f y fs).1
  ·refine(gD f y fs).2 g (wi g fun z=>hg ?_);show(if g=f then some u else mA g)=none;rw[Fh q];exact z
theorem Inv.made(I:Inv X pins σ H s):Inv X pins σ (upd (upd H s.heap.objs.size (.own (s.heap.objs.size+1))) (s.heap.objs.size+1) (.ins C s.heap.objs.size []))
  { s with heap:=(s.heap.push PySem.W.emptyDict).push (PySem.W.instObj C s.heap.objs.size) }:=by
 have e1:(s.heap.push PySem.W.emptyDict).get? s.heap.objs.size=some PySem.W.emptyDict:=Fc s.heap rfl;have e2:((s.heap.push PySem.W.emptyDict).push (PySem.W.instObj C s.heap.objs.size)).get? (s.heap.objs.size+1)=some (PySem.W.instObj C s.heap.objs.size):=by
  have:=Fc (s.heap.push PySem.W.emptyDict) (o:=PySem.W.instObj C s.heap.objs.size) rfl
  rwa [GA]at this
 have e3:(s.heap.push PySem.W.emptyDict).Ns s.heap.objs.size (fun _=>none):=⟨PySem.W.emptyDict,#[],_,e1,rfl,(fun e he=>absurd he (by simp)),fun _=>rfl⟩;have I1:=I.laid (a:=s.heap.objs.size) (o:=.own (s.heap.objs.size+1)) (h':=s.heap.push PySem.W.emptyDict) (t':=s.toks) (fun b u q=>EZ _ q) (Fd _) ⟨_,e1⟩;refine I1.laid (a:=s.heap.objs.size+1) (o:=.ins C s.heap.objs.size []) (t':=s.toks) (fun b u q=>EZ _ q) (Nat.le_of_eq (GA _ _)) ?_;have ne:s.heap.objs.size≠s.heap.objs.size+1:=Fl (Nat.lt_succ_self _);refine⟨by rw[aZ ne,bt],Gb _,ne,e2,fun _=>none,(Heap.Ns1.of_empty e3).at fun o q=>EZ _ q,fun _=>True.intro,fun y hy=>absurd rfl hy⟩
theorem vK{prog:Program}{w:World}{env:Env}{e:Expr}{f:Str}{pos:Pos}{s:Shared}{Q:Value->Shared->Prop}(hb:attributeBase e f env (eval e env)=eval e env)
  (h:wpAny (model prog w) A (eval e env) (fun o s₁=>wpAny (model prog w) A (getAttr o f true) Q E s₁) E s):wpAny (model prog w) A (eval (.Attribute e f pos) env) Q E s :=
 Attribute_any_ h (by rw[arm_eval_Attribute,hb])
end
def C6(K:PySem.W.Frag)(ta:TE)(f:Str):TE:=fun σ H Q=>ta σ H fun x H1=>∃a C dx fs v,x=.ref a/\H1 a=some (.ins C dx fs)/\Cls K C/\c7 K C f/\fs.lookup f=some v/\Q v H1
def EG(K:PySem.W.Frag)(ta tv:TE)(f:Str):TS:=fun D σ H=>tv σ H fun y H1=>ta σ H1 fun x H2=>∃a C dx fs,x=.ref a/\H2 a=some (.ins C dx fs)/\Cls K C/\c7 K C f/\fs.length<1000 /\
 D.nx σ (upd H2 a (.ins C dx (dF f y fs)))
section
variable {X:Cx}{o e value:Expr}{f:Str}{pos pos' tpos:Pos}{ta tv:TE}
theorem zi(he:PE X e ta)(hb:attributeBase e f X.env (eval e X.env)=eval e X.env):PE X (.Attribute e f pos) (C6 X.K ta f):=by
 intro pins s σ H Q I h;refine vK hb (thn (he pins s σ H _ I h) fun u s1 y_=>?_);obtain⟨x,H1,I1,rx,a,C,dx,fs,v,ex,ea,c,n,l,q⟩:=y_;subst ex;obtain rfl:u=Value.ref a:=rx;exact mE I1 ea c n l fun u' s2 I2 ru=>⟨v,H1,I2,ru,q⟩
theorem z4(ha:PE X o ta)(hv:PE X value tv)(hs:swapsWith value (some (.Attribute o f pos')) pos.line X.env=pure false):PS X (.Assign [.Attribute o f pos'] value pos) (EG X.K ta tv f):=by
 intro pins s σ H D I h;refine plainObj_wpAny_Assign_Attribute (thn (hv pins s σ H _ I h) fun u s1 ⟨y,H1,I1,ry,q⟩=>thn (ha pins s1 σ H1 _ I1 q) fun ov s2 ⟨x,H2,I2,rx,a,C,dx,fs,ex,ea,c,n,l,q2⟩=>?_) hs;subst ex;obtain rfl:ov=Value.ref a:=rx;exact m5 I2 ea c n l ry fun s3 I3=>⟨σ,_,I3,q2⟩
theorem xO{pl:Sem Bool}{m:Str}{apos:Pos}{args:List Expr}{pins:List (Addr×Obj)}{s:Shared}{σ:St}{H:Hp}{Q:Value->Shared->Prop}{te:TE}(he:PE X e te)(I:Inv X pins σ H s)
  (h:te σ H fun x H1=>∃a C dx fs g,x=.ref a/\H1 a=some (.ins C dx fs)/\Cls X.K C/\Meth X.K C m g/\fs.lookup m=none /\
   ∀s1,Inv X pins σ H1 s1->wpAny (model X.prog X.w) X.A (callWith pos (.ref g) [.ref a] (backTo pos (starEach args X.env)) (backToKw pos (keywordEach [] X.env))) Q X.xe s1)
  (ht:eval (.Call (.Attribute e m apos) args [] pos) X.env=(do
   let ov←eval e X.env
   standAt apos.atName
   let (f,first)←holding [ov] (getMethod ov m pl)
   callWith pos f first (backTo pos (starEach args X.env)) (backToKw pos (keywordEach [] X.env)))) :
  wpAny (model X.prog X.w) X.A (eval (.Call (.Attribute e m apos) args [] pos) X.env) Q X.xe s:=by
 refine PySem.W.methodCall_KW (pl:=pl) (thn (he pins s σ H _ I h) fun u s1 ⟨x,H1,I1,rx,a,C,dx,fs,g,ex,ea,c,k,l,q⟩=>?_) ht;subst ex;obtain rfl:u=Value.ref a:=rx;exact i8 I1 ea c k l (q s1 I1)
end
section
variable {X:Cx}{pins:List (Addr×Obj)}{σ:St}{H:Hp}{s:Shared}{A:Around}{E:Value->Shared->Prop}{Q:Value->Shared->Prop}{c:Value}{b:Bool}
end
end
section
structure cB (k:Nat) (A:Around):Prop where
 hd:A.handled=none
 dp:A.depth+3*k+5<recursionLimit
 un:A.units+16*k+200<cLine
theorem cB.mono{j k:Nat}{A:Around}(r:cB k A)(h:j≤k):cB j A:=⟨r.hd,by have:=r.dp;omega,by have:=r.un;omega⟩
theorem cB.deeper{k:Nat}{A:Around}(r:cB (k+1) A)(env:Env):cB k (A.deeper env) :=
 ⟨r.hd,by have:=r.dp;show A.depth+1+3*k+5<_;omega,by have:=r.un;show A.units+3+16*k+200<_;omega⟩
theorem m6{A:Around}{C:Addr}{us:List Value}{kw:List (Str×Value)}:(A.under (.builtin "type.__call__" ⟨.ref C::us,kw⟩)).depth=A.depth+1:=by
 first | rfl | simp[Around.under,Code.weight,Code.isCreation,Code.isGuard,Code.isCaller,Code.frames,Code.isFrame,guardIds]
theorem nc{A:Around}{C:Addr}{us:List Value}{kw:List (Str×Value)}:(A.under (.builtin "type.__call__" ⟨.ref C::us,kw⟩)).units=A.units+1:=by
 first | rfl | simp[Around.under,Code.cUnits,Code.frames,Code.isFrame]
theorem cB.make{k:Nat}{A:Around}(r:cB (k+1) A)(C:Addr)(us:List Value)(kw:List (Str×Value)):cB k (A.under (.builtin "type.__call__" ⟨.ref C::us,kw⟩)) :=
 ⟨r.hd,by have:=r.dp;rw[m6];omega,by have:=r.un;rw[nc];omega⟩
theorem cB.depth{k:Nat}{A:Around}(r:cB k A):A.depth<recursionLimit:=by have:=r.dp;omega
theorem cB.units{k:Nat}{A:Around}(r:cB k A):A.units+64<cLine:=by have:=r.un;omega
def Dy:TA:=fun _ H Q=>Q [] H
def Ci(ta:TE)(tr:TA):TA:=fun σ H Q=>ta σ H fun x H1=>tr σ H1 fun xs H2=>Q (x::xs) H2
section
variable {X:Cx}{e:Expr}{es:List Expr}{te:TE}{t:TA}{pos:Pos}
theorem dw:PA X [] Dy:=fun _ _ _ _ H Q I h=>Calls.spliced_nil ⟨[],H,I,.nil,h⟩
theorem cJ(ha:PE X e te)(hr:PA X es t)(hs:starEach (e::es) X.env=(false,eval e X.env)::starEach es X.env:=by rfl):PA X (e::es) (Ci te t):=by
 intro pos pins s σ H Q I h;rw[hs];show wpAny _ _ (spliced ((false,eval e X.env)::backTo pos (starEach es X.env))) _ _ s;refine Calls.spliced_cons (thn (ha pins s σ H _ I h) fun u s1 y_=>?_);obtain⟨x,H1,I1,r1,q1⟩:=y_;exact thn (hr pos pins s1 σ H1 _ I1 q1) fun us s2 ⟨xs,H2,I2,r2,q2⟩=>⟨x::xs,H2,I2,.cons r1 r2,q2⟩
def En(t:TA):TE:=fun σ H Q=>t σ H fun xs H1=>xs.length≤sizeLine/\∀p,H1 p=none->Q (.ref p) (upd H1 p (.tup xs))
def D5(t:TA):TE:=fun σ H Q=>t σ H fun xs H1=>xs.length≤sizeLine/\∀p,H1 p=none->Q (.ref p) (upd H1 p (.lst xs))
theorem yh{x1}(h:PA X es t):PE X (.Tuple es x1 pos) (En t):=by
 intro pins s σ H Q I hq;refine wpAny_Tuple_spliced (thn (h pos pins s σ H _ I hq) fun us s1 ⟨xs,H1,I1,r,z,q⟩=>⟨by rw[←r.length];exact z,?_⟩);have hf:H1 s1.heap.objs.size=none:=I1.hok.fresh (Fd _);refine⟨.ref s1.heap.objs.size,upd H1 s1.heap.objs.size (.tup xs),I1.laid (t':=s1.toks) (fun b u e=>EZ _ e) (Fd _) ?_,rfl,q _ hf⟩;exact⟨z,us,r,⟨_,Fc _ rfl,rfl,_,rfl⟩⟩
theorem zP(h:PA X es t):PE X (.List es pos) (D5 t):=by
 intro pins s σ H Q I hq;refine wpAny_List_spliced (thn (h pos pins s σ H _ I hq) fun us s1 ⟨xs,H1,I1,r,z,q⟩=>⟨by rw[←r.length];exact z,?_⟩);have hf:H1 s1.heap.objs.size=none:=I1.hok.fresh (Fd _);refine⟨.ref s1.heap.objs.size,upd H1 s1.heap.objs.size (.lst xs),I1.laid (t':=s1.toks) (fun b u e=>EZ _ e) (Fd _) ?_,rfl,q _ hf⟩;exact⟨z,us,0,r,Fc _ rfl⟩
end
abbrev Sp:=List V->Hp->VK->XK->Prop
abbrev CXT:=List Env->Hp->Shared->XK->Value->Shared->Prop
structure mG (P:Program) (w:World) (K:PySem.W.Frag) (mg:Str→Option Value) (base:Heap) (A:Around) (outer:List Env) (s:Shared) (H:Hp):Prop where
 frames:A.frames=some outer
 mod:Mod K mg base
 bs:∀b o,base.get? b=some o->s.heap.get? b=some o/\H b=none
 bsz:base.objs.size≤s.heap.objs.size
 funs:s.heap.FunFrames base outer
 frf:∀b∈frs outer,H b=none
 hok:HOk P w H s.heap
 bare:AllBare s.gens
def CE(outer:List Env)(P:Program)(w:World)(H:Hp)(s:Shared)(Q:VK)(u:Value)(s':Shared):Prop :=
 ∃v H',s'.os=s.os/\AllBare s'.gens/\Un (frs outer) [] H H' s.heap s'.heap/\HOk P w H' s'.heap/\RelV v u/\Q v H'
def CR(CX:CXT)(outer:List Env)(P:Program)(w:World)(H:Hp)(s:Shared)(Q:VK)(E:XK)(r:Result)(s':Shared):Prop :=
 match r with
 | .ok (.ret u)=>CE outer P w H s Q u s'
 | .ok _=>False
 | .error e=>CX outer H s E e s'
structure iU (P:Program) (w:World) (K:PySem.W.Frag) (mg:Str→Option Value) (base:Heap) (CX:CXT) (k:Nat) (f:Addr) (fd:FuncData) (ps:List Str) (sp:Sp):Prop where
 len:∀vs H Q E,sp vs H Q E->vs.length=ps.length
 run:∀(A:Around) (outer:List Env) (s:Shared) (H:Hp) (args:Args) (us:List Value) (vs:List V) (Q:VK) (E:XK),cB k A->mG P w K mg base A outer s H->BindsTo s fd args (ps.zip us)->Vals vs us->sp vs H Q E ->
  codeAny (model P w) A (.call (.ref f) args) (CR CX outer P w H s Q E) s
theorem mG.make{P:Program}{w:World}{K:PySem.W.Frag}{mg:Str->Option Value}{base:Heap}{A:Around}{outer:List Env}{s:Shared}{H:Hp}(e:mG P w K mg base A outer s H)(C:Addr)(us:List Value)(kw:List (Str×Value)) :
  mG P w K mg base (A.under (.builtin "type.__call__" ⟨.ref C::us,kw⟩)) outer s H:=⟨by first | exact e.frames |(simpa[Around.under,Code.envs,Code.isFrame,pushEnvs]using e.frames),e.mod,e.bs,e.bsz,e.funs,e.frf,e.hok,e.bare⟩
section
variable {X:Cx}{pins:List (Addr×Obj)}{σ:St}{H:Hp}{s s':Shared}
theorem Inv.env0(I:Inv X pins σ H s):mG X.prog X.w X.K X.mg X.base X.A X.stack s H :=
 ⟨I.ok.frames,I.ok.mod,I.bs,FI I.ok.bsz I.sz,I.stack,I.stkFree,I.hok,I.bare⟩
theorem Inv.after{Q:VK}{u:Value}(I:Inv X pins σ H s)(h:CE X.stack X.prog X.w H s Q u s'):EP X pins σ Q u s':=by
 obtain⟨v,H',os,bare,un,hok,r,q⟩:=h;obtain⟨hh,g,d,t,os'⟩:=s';obtain rfl:os'=s.os:=os;exact⟨v,H',I.call (h':=hh) (g':=g) (d':=d) (t':=t) (ch:=[]) un hok bare (fun b z=>absurd z (by simp)),r,q⟩
end
def wU(sp:Sp)(dvs:List V)(E:XK)(t:TA):TE:=fun σ H Q=>t σ H fun vs H1=>sp (vs++dvs) H1 Q E
def xt(C:Addr)(m:Str)(sp:Sp)(dvs:List V)(E:XK)(ta:TE)(t:TA):TE:=fun σ H Q=>ta σ H fun x H1=>∃a dx fs,x=.ref a/\H1 a=some (.ins C dx fs)/\fs.lookup m=none /\
 t σ H1 fun vs H2=>sp (x::(vs++dvs)) H2 Q E
def AQ(C:Addr)(sp:Sp)(dvs:List V)(E:XK)(t:TA):TE:=fun σ H Q=>t σ H fun vs H1=>∀x dx,H1 x=none->H1 dx=none->dx≠x ->
 sp (.ref x::(vs++dvs)) (upd (upd H1 dx (.own x)) x (.ins C dx [])) (fun v H2=>v=.non/\Q (.ref x) H2) E
def Binds(K:PySem.W.Frag)(fd:FuncData)(ps:List Str)(ds:List Value):Prop :=
 ∀(s:Shared) (us:List Value),K.In s.heap->(us++ds).length=ps.length->BindsTo s fd ⟨us,[]⟩ (ps.zip (us++ds))
theorem Binds.all{K:PySem.W.Frag}{fd:FuncData}{ps:List Str}(h:∀us:List Value,us.length=ps.length->bindArgs fd ⟨us,[]⟩=pure (ps.zip us)):Binds K fd ps []:=fun s us _ hl=>by
 rw[F1]at hl ⊢;exact .of_eq (h us hl)
def Passes(CX:CXT)(X:Cx)(E:XK):Prop:=∀(pins:List (Addr×Obj)) (σ:St) (H:Hp) (s:Shared) (e:Value) (s':Shared),Inv X pins σ H s->CX X.stack H s E e s'->X.xe e s'
section
variable {X:Cx}{CX:CXT}{k:Nat}{f C:Addr}{fd:FuncData}{ps:List Str}{sp:Sp}{dvs:List V}{ds:List Value}{E:XK}{x m:Str}{p pos apos:Pos}{e o:Expr}{es:List Expr}{ta:TE}{t:TA}
theorem rA{pins:List (Addr×Obj)}{σ:St}{H:Hp}{s:Shared}{Q:VK}{us:List Value}{vs:List V}(F:iU X.prog X.w X.K X.mg X.base CX k f fd ps sp)(hr:cB k X.A)(hb:Binds X.K fd ps ds)(hd:Vals dvs ds)(hx:Passes CX X E)
  (I:Inv X pins σ H s) (r:Vals vs us) (h:sp (vs++dvs) H Q E):wpAny (model X.prog X.w) X.A (call (.ref f) us) (EP X pins σ Q) X.xe s:=by
 have r2:Vals (vs++dvs) (us++ds):=r.append hd;have hl:(us++ds).length=ps.length:=by rw[←r2.length];exact F.len _ _ _ _ h
 refine wpAny_call (G0 (F.run X.A X.stack s H ⟨us,[]⟩ (us++ds) (vs++dvs) Q E hr I.env0 (hb s us I.kIn hl) r2 h) fun r s' hq=>?_);cases r with
 | error e=>exact hx pins σ H s e s' I hq
 | ok fl =>
  cases fl with
  | ret u=>exact I.after hq
  | next=>exact False.elim hq
  | brk=>exact False.elim hq
  | cont=>exact False.elim hq
theorem vW(F:iU X.prog X.w X.K X.mg X.base CX k f fd ps sp)(hr:cB k X.A)(hg:Gl X x)(hm:X.mg x=some (.ref f))(hk:PySem.W.keepIn X.K (.ref f)=true)(hb:Binds X.K fd ps ds)(hd:Vals dvs ds)(hx:Passes CX X E)
  (ha:PA X (e::es) t) (hdb:(x==("__debug__":Str))=false:=by decide) (he:starEach (e::es) X.env=(false,eval e X.env)::starEach es X.env:=by rfl) (hpl:(backTo pos (starEach es X.env)).any (·.1)=false:=by rfl) :
  PE X (.Call (.Name x p) (e::es) [] pos) (wU sp dvs E t):=by
 intro pins s σ H Q I h;refine Gf (j9 I hg hm ?_ hdb);refine PySem.W.callWith_K (h₀:=X.base) I.ok.mod.kin hk (thn (ha pos pins s σ H _ I h) fun us s1 ⟨vs,H1,I1,r,q⟩=>⟨I1.kIn,?_⟩) he hpl;exact rA F hr hb hd hx I1 r q
theorem vz{pl:Sem Bool}(he:PE X o ta)(c:Cls X.K C)(hm:Meth X.K C m f)(F:iU X.prog X.w X.K X.mg X.base CX k f fd ps sp)(hr:cB k X.A)(hb:Binds X.K fd ps ds)(hd:Vals dvs ds)(hx:Passes CX X E)(ha:PA X (e::es) t)
  (hst:starEach (e::es) X.env=(false,eval e X.env)::starEach es X.env:=by rfl) (hpl:(backTo pos (starEach es X.env)).any (·.1)=false:=by rfl)
  (ht:eval (.Call (.Attribute o m apos) (e::es) [] pos) X.env=(do
   let ov←eval o X.env
   standAt apos.atName
   let (f,first)←holding [ov] (getMethod ov m pl)
   callWith pos f first (backTo pos (starEach (e::es) X.env)) (backToKw pos (keywordEach [] X.env))):=by rfl) :
  PE X (.Call (.Attribute o m apos) (e::es) [] pos) (xt C m sp dvs E ta t):=by
 intro pins s σ H Q I h;refine PySem.W.methodCall_KW (pl:=pl) (thn (he pins s σ H _ I h) fun u s1 ⟨x,H1,I1,rx,a,dx,fs,ex,ea,l,q⟩=>?_) ht;subst ex;obtain rfl:u=Value.ref a:=rx;refine i8 I1 ea c hm l ?_;refine PySem.W.callWith_K (first:=[.ref a]) (h₀:=X.base) I.ok.mod.kin hm.kp (thn (ha pos pins s1 σ H1 _ I1 q) fun us s2 ⟨vs,H2,I2,r,q2⟩=>⟨I2.kIn,?_⟩) hst hpl;exact rA (us:=.ref a::us) (vs:=.ref a::vs) F hr hb hd hx I2 (.cons rfl r) q2
structure Mk (K:PySem.W.Frag) (C f:Addr):Prop where
 makes:PySem.W.makesIn K C=true
 init:PySem.W.findIn K (.ref C) "__init__"=some (some (.ref f))
 fn:PySem.W.isFn K (.ref f)=true
 kp:PySem.W.keepIn K (.ref C)=true
theorem rq{pins:List (Addr×Obj)}{σ:St}{H:Hp}{s:Shared}{Q:VK}{us:List Value}{vs:List V}(M:Mk X.K C f)(F:iU X.prog X.w X.K X.mg X.base CX k f fd ps sp)(hr:cB (k+1) X.A)(hb:Binds X.K fd ps ds)(hd:Vals dvs ds)
  (hx:Passes CX X E) (I:Inv X pins σ H s) (r:Vals vs us)
  (h:∀x dx,H x=none->H dx=none->dx≠x->sp (.ref x::(vs++dvs)) (upd (upd H dx (.own x)) x (.ins C dx [])) (fun v H2=>v=.non/\Q (.ref x) H2) E) :
  wpAny (model X.prog X.w) X.A (call (.ref C) us) (EP X pins σ Q) X.xe s:=by
 have hq:=h (s.heap.objs.size+1) s.heap.objs.size (I.hok.fresh (Nat.le_succ _)) (I.hok.fresh (Fd _)) (Fl (Nat.lt_succ_self _));have I2:=Inv.made (C:=C) I;have r2:Vals (V.ref (s.heap.objs.size+1)::(vs++dvs)) (Value.ref (s.heap.objs.size+1)::(us++ds)):=.cons rfl (r.append hd);have hl:(Value.ref (s.heap.objs.size+1)::us++ds).length=ps.length:=by
  have e:=r2.length;rw[F.len _ _ _ _ hq]at e;exact e.symm
 refine wpAny_call (tT (f:=f) I.kIn M.makes M.init (GY.mp M.fn) (G0 (F.run _ X.stack _ _ ⟨Value.ref (s.heap.objs.size+1)::us,[]⟩ (Value.ref (s.heap.objs.size+1)::(us++ds)) _ _ E (hr.make C us [])
  (I2.env0.make C us []) (hb _ (Value.ref (s.heap.objs.size+1)::us) I2.kIn hl) r2 hq) fun r s' hq'=>?_))
 cases r with
 | error e=>exact hx pins σ _ _ e s' I2 hq'
 | ok fl =>
  cases fl with
  | ret u =>
   obtain⟨v,H',I3,rv,ev,q3⟩:=I2.after hq';subst ev;exact⟨rv,⟨V.ref (s.heap.objs.size+1),H',I3,rfl,q3⟩⟩
  | next=>exact False.elim hq'
  | brk=>exact False.elim hq'
  | cont=>exact False.elim hq'
theorem vZ(M:Mk X.K C f)(F:iU X.prog X.w X.K X.mg X.base CX k f fd ps sp)(hr:cB (k+1) X.A)(hg:Gl X x)(hm:X.mg x=some (.ref C))(hb:Binds X.K fd ps ds)(hd:Vals dvs ds)(hx:Passes CX X E)
  (ha:PA X (e::es) t) (hdb:(x==("__debug__":Str))=false:=by decide) (he:starEach (e::es) X.env=(false,eval e X.env)::starEach es X.env:=by rfl) (hpl:(backTo pos (starEach es X.env)).any (·.1)=false:=by rfl) :
  PE X (.Call (.Name x p) (e::es) [] pos) (AQ C sp dvs E t):=by
 intro pins s σ H Q I h;refine Gf (j9 I hg hm ?_ hdb);refine PySem.W.callWith_K (h₀:=X.base) I.ok.mod.kin M.kp (thn (ha pos pins s σ H _ I h) fun us s1 ⟨vs,H1,I1,r,q⟩=>⟨I1.kIn,?_⟩) he hpl;exact rq M F hr hb hd hx I1 r q
end
section
variable {X:Cx}{CX:CXT}{k:Nat}{f C:Addr}{fd:FuncData}{ps ks:List Str}{sp:Sp}{E:XK}{x m:Str}{p pos apos kpos:Pos}{e o:Expr}{es:List Expr}{kws:List Keyword}{te ta:TE}{t tk:TA}{nm:Option Str}
variable {g:List Value->List Value->List Value}{gV:List V->List V->List V}
end
structure aH (N P:List Str) (sc:Scope):Prop where
 kind:sc.kind=.function
 co:sc.isCoroutine=false
 gen:sc.isGenerator=false
 nd:N.Nodup
 pre:N.take P.length=P
 par:∀x∈P,sc.names.lookup x=some .local∨sc.names.lookup x=some .cell
 nofree:∀y∈sc.names,y.2≠.free
theorem jB{kindOf:Str->Option NameKind}{x:Str}:∀{binds:List (Str×Value)} {m:Str->Option Value},(∀v,(x,v)∉binds)->bindL kindOf binds m x=m x
 | [],_,_=>rfl
 |(n,v)::r,m,h=>by
  unfold bindL;rw[jB fun w hw=>h w (Ff _ hw)];split
  ·have:x≠n:=by rintro rfl;exact h v E7
   simp[this]
  ·rfl
theorem jR{kindOf:Str->Option NameKind}{x:Str}:∀{binds:List (Str×Value)} {m:Str->Option Value},(∀v,(x,v)∉binds)->bindC kindOf binds m x=m x
 | [],_,_=>rfl
 |(n,v)::r,m,h=>by
  unfold bindC;rw[jR fun w hw=>h w (Ff _ hw)];split
  ·rfl
  ·have:x≠n:=by rintro rfl;exact h v E7
   simp[this]
theorem jO{kindOf:Str->Option NameKind}{x:Str}{v:Value}:∀{P:List Str} {vs:List Value} {i:Nat} {m:Str->Option Value},P.Nodup->P[i]?=some x->vs[i]?=some v->kindOf x=some .local ->
  bindL kindOf (P.zip vs) m x=some v
 | [],_,_,_,_,h,_,_=>by simp at h
 | _::_,[],_,_,_,_,h,_=>by simp at h
 | p::P,w::vs,0,m,nd,h1,h2,hk=>by
  simp at h1 h2;subst h1;subst h2;show bindL kindOf ((p,w)::P.zip vs) m p=_;unfold bindL;rw[jB fun v hv=>(GU.mp nd).1 (List.of_mem_zip hv).1,Fp hk];simp
 | p::P,w::vs,i+1,m,nd,h1,h2,hk=>by
  show bindL kindOf ((p,w)::P.zip vs) m x=_;unfold bindL;exact jO (i:=i) (GU.mp nd).2 (by simpa using h1) (by simpa using h2) hk
theorem jr{kindOf:Str->Option NameKind}{x:Str}{v:Value}:∀{P:List Str} {vs:List Value} {i:Nat} {m:Str->Option Value},P.Nodup->P[i]?=some x->vs[i]?=some v->kindOf x≠some .local ->
  bindC kindOf (P.zip vs) m x=some v
 | [],_,_,_,_,h,_,_=>by simp at h
 | _::_,[],_,_,_,_,h,_=>by simp at h
 | p::P,w::vs,0,m,nd,h1,h2,hk=>by
  simp at h1 h2;subst h1;subst h2;show bindC kindOf ((p,w)::P.zip vs) m p=_;unfold bindC;rw[jR fun v hv=>(GU.mp nd).1 (List.of_mem_zip hv).1,Fh hk];simp
 | p::P,w::vs,i+1,m,nd,h1,h2,hk=>by
  show bindC kindOf ((p,w)::P.zip vs) m x=_;unfold bindC;exact jr (i:=i) (GU.mp nd).2 (by simpa using h1) (by simpa using h2) hk
def start(N:List Str)(vs:List V):St:=vs.map some++List.replicate (N.length - vs.length) none
def nq(CX:CXT)(P:Program)(w:World)(K:PySem.W.Frag)(mg:Str->Option Value)(base:Heap)(N:List Str)(qual:Str)(scope:Scope)(f:Addr)(cd:Value)(A:Around)(outer:List Env)(s:Shared)(H:Hp)(E:XK):Cx where
 prog:=P
 w:=w
 K:=K
 mg:=mg
 base:=base
 A:=A.deeper (envOfC qual scope s.heap.objs.size f cd)
 N:=N
 s₀:=s
 H₀:=H
 env:=envOfC qual scope s.heap.objs.size f cd
 outer:=outer
 stack:=envOfC qual scope s.heap.objs.size f cd::outer
 ex:=[]
 calm:=true
 fn:=fun _=>true
 pn:=[]
 xe:=fun e s'=>wpAny (model P w) (A.deeper (envOfC qual scope s.heap.objs.size f cd)) (leaving (envOfC qual scope s.heap.objs.size f cd) e) (fun _ s''=>CX outer H s E e s'') (fun e' s''=>CX outer H s E e' s'') s'
theorem kR{sc:Scope}{n:Nat}{x:Str}(h:sc.names.lookup x=some .cell):∃c,(cellsFrom n sc.names []).lookup x=some c:=by
 have q:=PySem.W.cellsFrom_some sc.names n [] (.inl h);exact Option.isSome_iff_exists.mp q
theorem qg{CX:CXT}{P:Program}{w:World}{K:PySem.W.Frag}{mg:Str->Option Value}{base:Heap}{N ps:List Str}{qual:Str}{scope:Scope}{f:Addr}{cd:Value}{A:Around}{outer:List Env}{s s1:Shared}{H:Hp}{E:XK}{us:List Value}{vs:List V}
  (S:aH N ps scope) (hd:A.handled=none) (e0:mG P w K mg base A outer s H) (hl:vs.length=ps.length) (r:Vals vs us)
  (x:InCallC s s.heap.objs.size (bindL (envOfC qual scope s.heap.objs.size f cd).kindOf (ps.zip us) fun _=>none) (cellsFrom (s.heap.objs.size+1) scope.names []) (bindC (envOfC qual scope s.heap.objs.size f cd).kindOf (ps.zip us) fun _=>none) s1) :
  Inv (nq CX P w K mg base N qual scope f cd A outer s H E) [] (start N vs) H s1:=by
 have hpl:ps.length≤N.length:=by have:=congrArg List.length S.pre;rw[FA]at this;omega
 obtain⟨h1,tk,rfl,hk⟩:=x.done;have noA:∀b:Addr,b∉(nq CX P w K mg base N qual scope f cd A outer s H E).ex:=fun b z=>absurd (show b∈([]:List Addr)from z) (by simp);refine⟨⟨e0.mod,S.kind,rfl,rfl,Fd _,fun y z c h1 h2=>?_,fun y hy=>?_,fun y c _ h=>?_,fun _=>hd,Around.frames_deeper e0.frames,.inr ⟨rfl,rfl⟩,fun b z=>absurd z (noA b),e0.bs,e0.bsz,fun b _ _=>noA b,fun b z=>absurd z (noA b),e0.funs,e0.frf⟩,
  rfl,e0.bare,Un.kept hk,⟨_,x.toInCall.ns,fun i y v h1 h2 h3=>?_⟩,fun y c h=>⟨_,x.cell y c h⟩,e0.hok.fresh (Fd _),fun y c h=>?_,fun p hp=>absurd (show p∈([]:List (Addr×Obj))from hp) (by simp),e0.hok.kept hk,?_⟩
 ·exact name_of_addr x.apart (PySem.mem_of_lookup h1) (PySem.mem_of_lookup h2)
 ·have hy:scope.names.lookup y=some .cell∨scope.names.lookup y=some .free:=hy;rcases hy with hy | hy
  ·exact kR hy
  ·exact absurd rfl (S.nofree _ (PySem.mem_of_lookup hy))
 ·exact GZ (x.above y c (PySem.mem_of_lookup h))
 ·have hi:i<vs.length:=by
   unfold start at h2;by_cases hi:i<vs.length
   ·exact hi
   ·rw[Gn (by simpa using hi)]at h2;rw[List.getElem?_replicate]at h2;split at h2<;>cases h2
  have ha:vs[i]?=some v:=by
   unfold start at h2;rw[Gd (by simpa using hi),FN]at h2;cases e:vs[i]? with
   | none=>rw[e]at h2;cases h2
   | some a=>rw[e]at h2;cases h2;rfl
  obtain⟨u,hu,rv⟩:=r.get ha;have hp:ps[i]?=some y:=by
   rw[←S.pre,List.getElem?_take_of_lt (by omega)];exact h1
  have ndP:ps.Nodup:=by rw[←S.pre];exact S.nd.sublist (List.take_sublist _ _)
  refine⟨u,rv,?_⟩;rcases S.par y (Fy hp)with k | k
  ·exact .inl ⟨k,jO ndP hp hu k⟩
  ·obtain⟨c,e⟩:=kR (n:=s.heap.objs.size+1) k;refine .inr ⟨.inl k,c,e,?_⟩;have q:=x.cell y c e;rw[jr ndP hp hu (by show scope.names.lookup y≠_;rw[k];decide)]at q;exact q
 ·exact e0.hok.fresh (GZ (x.above y c (PySem.mem_of_lookup h)))
 ·unfold start;show _=N.length;rw[E3,EW,List.length_replicate];omega
theorem AZ{CX:CXT}{P:Program}{w:World}{K:PySem.W.Frag}{mg:Str->Option Value}{base:Heap}{k:Nat}{f:Addr}{name qual:Str}{params:Arguments}{body:List Stmt}{scope:Scope}{dV kV doc pm cdv ct oc:Value}{an od:Option Addr}
  {osl:Array (Option Value)} {N ps:List Str} {sp:Sp} (lk:K.lookup f=some ⟨oc,od,.func (PySem.W.fnOf name qual params body scope dV kV doc pm an cdv ct),osl⟩) (hcd:PySem.W.codeIn K cdv qual=true) (S:aH N ps scope)
  (len:∀vs H Q E,sp vs H Q E->vs.length=ps.length)
  (hbody:∀(A:Around) (outer:List Env) (s:Shared) (H:Hp) (vs:List V) (Q:VK) (E:XK),cB k (A.deeper (envOfC qual scope s.heap.objs.size f cdv))->sp vs H Q E ->
   ∃t,PSs (nq CX P w K mg base N qual scope f cdv A outer s H E) body t/\t { nx:=fun _ H'=>Q .non H',rt:=Q } (start N vs) H) :
  iU P w K mg base CX (k+1) f (PySem.W.fnOf name qual params body scope dV kV doc pm an cdv ct) ps sp:=by
 refine⟨len,fun A outer s H args us vs Q E hr e0 hb r hsp=>?_⟩;have hl:=len _ _ _ _ hsp;have KX:K.In s.heap:=e0.mod.kin.keeps fun b o e=>(e0.bs b o e).1;have lim:s.heap.NoLimit:=e0.mod.nolimit.keeps fun b o e=>(e0.bs b o e).1;have hkind:∀y∈ps.zip us,scope.names.lookup y.1=some .local∨(scope.names.lookup y.1=some .cell/\((cellsFrom (s.heap.objs.size+1) scope.names []).lookup y.1).isSome=true):=fun y_ hy=>by
  obtain⟨n,v⟩:=y_;rcases S.par n (List.of_mem_zip hy).1 with q | q
  ·exact .inl q
  ·exact .inr ⟨q,PySem.W.cellsFrom_some _ _ _ (.inl q)⟩
 refine codeAny_call_function hr.depth (KX _ _ lk) rfl S.co S.gen rfl (PySem.W.codeRec_of KX hcd) (hb _ _ _ _ ?_);refine wpAny_newFunctionEnv_cells S.kind hkind fun env he s1 x=>?_;subst he;refine⟨lim.keeps x.toInCall.keep,codeAny_func ?_⟩;obtain⟨t,ht,hq⟩:=hbody A outer s H vs Q E (hr.deeper _) hsp;have I:Inv (nq CX P w K mg base N qual scope f cdv A outer s H E) [] (start N vs) H s1:=qg S hr.hd e0 hl r x;refine GX (ht [] s1 (start N vs) H _ I hq) (fun fl s' hs=>?_) fun e s' hs=>hs;have fin:∀{σ':St} {H':Hp} {v:V} {u:Value},Inv (nq CX P w K mg base N qual scope f cdv A outer s H E) [] σ' H' s'->RelV v u->Q v H'->CE outer P w H s Q u s' :=
  fun {σ' H' v u} J rv q=>⟨v,H',J.os,J.bare,J.base,J.hok,rv,q⟩
 cases fl with
 | ret u =>
  obtain⟨v,σ',H',J,rv,q⟩:=hs;exact fin J rv q
 | next =>
  obtain⟨σ',H',J,q⟩:=hs;exact fin (v:=V.non) (u:=Value.none) J rfl q
 | brk =>
  obtain⟨_,_,_,q⟩:=hs;exact False.elim q
 | cont =>
  obtain⟨_,_,_,q⟩:=hs;exact False.elim q
end
section
section
variable {X:Cx}{x:Str}{p pos:Pos}{e:Expr}{es:List Expr}{t:TA}{id T:String}{r:List V->Hp->VK->Prop}
def tCB(r:List V->Hp->VK->Prop)(t:TA):TE:=fun σ H Q=>t σ H fun vs H1=>r vs H1 Q
theorem fI(hc:cD X (.builtin id) r)(hg:Gl X x)(hm:X.mg x=none)(hv:bootBuiltins x=some (.builtin id))(ha:PA X (e::es) t)(hn:x≠"__name__":=by decide)(hdb:(x==("__debug__":Str))=false:=by decide)
  (he:starEach (e::es) X.env=(false,eval e X.env)::starEach es X.env:=by rfl) (hpl:(backTo pos (starEach es X.env)).any (·.1)=false:=by rfl):PE X (.Call (.Name x p) (e::es) [] pos) (tCB r t):=by
 intro pins s σ H Q I h;refine Gf (cQ I hg hm hv ?_ hn hdb);exact PyProof.Rows.callWith_builtin1 (thn (ha pos pins s σ H _ I h) fun us s1 y_=>by obtain⟨vs,H1,I1,r1,q1⟩:=y_;exact hc pins s1 σ H1 vs us Q I1 r1 q1) he hpl
theorem eY(hc:cD X (.type T) r)(hg:Gl X x)(hm:X.mg x=none)(hv:bootBuiltins x=some (.type T))(ha:PA X (e::es) t)(hn:x≠"__name__":=by decide)(hdb:(x==("__debug__":Str))=false:=by decide)
  (he:starEach (e::es) X.env=(false,eval e X.env)::starEach es X.env:=by rfl) (hpl:(backTo pos (starEach es X.env)).any (·.1)=false:=by rfl):PE X (.Call (.Name x p) (e::es) [] pos) (tCB r t):=by
 intro pins s σ H Q I h;refine Gf (cQ I hg hm hv ?_ hn hdb);exact FG (thn (ha pos pins s σ H _ I h) fun us s1 y_=>by obtain⟨vs,H1,I1,r1,q1⟩:=y_;exact hc pins s1 σ H1 vs us Q I1 r1 q1) he hpl
end
end
end L2
namespace HT
section
open PySem.SeqAt
open PySem.AutoSeq1 (wpAny_loadPart')
open PySem.MeetsSeq PySem.MeetsSeq2 PySem.MeetsSeq3
end
section
variable {prog:Program}{w:World}{A:Around}{E:Value->Shared->Prop}{s:Shared}
theorem u7{t b:Addr}{vs ws:List Value}{Q:Value->Shared->Prop}(ht:IsTup s.heap t vs.toArray)(hb:IsTup s.heap b ws.toArray)(hv:vs≠[])
  (h1:ws=[]->Q (.ref t) s) (h2:ws≠[]->Q (.ref s.heap.objs.size) { s with heap:=s.heap.push { cls:=.type "tuple",data:=.seq (vs++ws).toArray } })
  (hsz:vs.length+ws.length≤sizeLine):wpAny (model prog w) A (binaryOp .Add (.ref t) (.ref b)) Q E s:=by
 obtain⟨⟨cls,dd,data,sl⟩,ho,hc,n,hd⟩:=id ht;obtain⟨⟨cls2,dd2,data2,sl2⟩,ho2,hc2,n2,hd2⟩:=id hb;simp only at hc hd hc2 hd2;subst hc hd hc2 hd2;have e:vs.toArray++ws.toArray=(vs++ws).toArray:=by simp
 by_cases hw:ws=[]
 ·exact concat_meets ⟨_,ho,rfl⟩ ⟨_,ho2,rfl⟩ noFill_tuple_add seq_tuple_add PySem.F.slot_tuple_add PySem.F.entry_tuple_add (PySem.F.args_tuple_add_2 _ _)
   (tuple_addW1 t b vs.toArray ws.toArray n n2 dd dd2 sl sl2 (by simpa using hv) (by simp[hw])) ⟨ho,ho2,h1 hw⟩
 ·refine concat_meets ⟨_,ho,rfl⟩ ⟨_,ho2,rfl⟩ noFill_tuple_add seq_tuple_add PySem.F.slot_tuple_add PySem.F.entry_tuple_add (PySem.F.args_tuple_add_2 _ _)
   (tuple_addW2 t b vs.toArray ws.toArray n n2 dd dd2 sl sl2 (by simpa using hv) (by simpa using hw) (by rw[Fe,Fe];exact hsz)) ⟨ho,ho2,?_⟩
  rw[e];exact h2 hw
def sIx(n d:Nat):Option Int->Nat
 | none=>d
 | some v=>if v<0 then(v+(n:Int)).toNat else min v.toNat n
theorem d5(n d:Nat):sIx n d none=d:=rfl
theorem h9(n d k:Nat):sIx n d (some (k:Int))=min k n:=by
 show(if (k:Int)<0 then((k:Int)+(n:Int)).toNat else min (k:Int).toNat n)=min k n;rw[Fh (by omega),F2]
theorem zA(n d:Nat)(hd:d≤n)(o:Option Int):sIx n d o≤n:=by
 cases o with
 | none=>exact hd
 | some v =>
  show(if v<0 then(v+(n:Int)).toNat else min v.toNat n)≤n;by_cases hv:v<0
  ·rw[Fp hv];omega
  ·rw[Fh hv];exact Nat.min_le_right _ _
theorem oS(v:Int)(n d:Nat):(if v<0 then max (v+(n:Int)) 0 else min v (n:Int))=((sIx n d (some v):Nat):Int):=by
 show(if v<0 then max (v+(n:Int)) 0 else min v (n:Int))=(((if v<0 then(v+(n:Int)).toNat else min v.toNat n):Nat):Int);by_cases hv:v<0
 ·simp only[Fp hv];omega
 ·simp only[Fh hv];omega
theorem nz(lo hi:Option Int)(n:Nat):Builtin.Slice.sliceAdjust lo hi 1 (n:Int)=(((sIx n 0 lo:Nat):Int),((sIx n n hi:Nat):Int)):=by
 have h1:¬((1:Int)<0):=by omega
 unfold Builtin.Slice.sliceAdjust;simp only[h1,if_false];refine Prod.ext ?_ ?_
 ·cases lo with
  | none=>rfl
  | some v=>exact oS v n 0
 ·cases hi with
  | none=>rfl
  | some v=>exact oS v n n
theorem mW(i j:Nat):Builtin.Slice.slicePlaces (i:Int) (j:Int) 1=j - i:=by
 unfold Builtin.Slice.slicePlaces;have h1:(1:Int)>0:=by omega
 simp only[h1,if_true,Int.ediv_one];split<;>omega
theorem i6{v:Value}{o:Option Int}{Q:Option Int->Shared->Prop}(p:IsPart v o)(h:Q o s):wpAny (model prog w) A (Builtin.Slice.slicePartIndex v) Q E s:=by
 cases p with
 | none=>exact slicePart_none h
 | int i t=>exact slicePart_int h
theorem dA{sl:Addr}{vl vu:Value}{lo hi:Option Int}{n:Nat}{Q:Int×Int×Nat->Shared->Prop}(hs:s.heap.IsSliceOf sl vl vu .none)(pl:IsPart vl lo)(pu:IsPart vu hi)
  (h:Q (((sIx n 0 lo:Nat):Int),1,sIx n n hi - sIx n 0 lo) s):wpAny (model prog w) A (Builtin.Slice.sliceApplied (.ref sl) (pure (n:Int))) Q E s:=by
 obtain⟨os,hos,hcs,hds⟩:=id hs;unfold Builtin.Slice.sliceApplied Builtin.Slice.sliceFields;refine EX (EX (Gw hos hds (x:=vl) rfl (EX (Gw hos hds (x:=vu) rfl (EX (Gw hos hds (x:=.none) rfl (E1 ?_)))))));refine EX (slicePart_none ?_);show wpAny _ _ (if ((1:Int)==0)=true then _ else _) _ _ s;rw[Fh (by decide)];refine EX (i6 pl (EX (i6 pu (EX (E1 ?_)))));show wpAny _ _ (match Builtin.Slice.sliceAdjust lo hi 1 (n:Int)with |(lo,hi)=>pure (lo,(1:Int),Builtin.Slice.slicePlaces lo hi 1)) _ _ s;rw[nz lo hi n];show wpAny _ _ (pure (((sIx n 0 lo:Nat):Int),(1:Int),Builtin.Slice.slicePlaces ((sIx n 0 lo:Nat):Int) ((sIx n n hi:Nat):Int) 1)) _ _ s;rw[mW];exact E1 h
theorem sC(xs:Array Value)(i k:Nat):((List.range k).filterMap fun(m:Nat)=>xs[((i:Int)+(m:Int)*1).toNat]?).toArray=((xs.toList.drop i).take k).toArray:=by
 have e:(fun(m:Nat)=>xs[((i:Int)+(m:Int)*1).toNat]?)=fun m=>xs[i+m]?:=by
  funext m;have:((i:Int)+(m:Int)*1).toNat=i+m:=by omega
  rw[this]
 rw[e];have:=pick_run xs i k;rw[List.filterMap_map]at this;have e2:((fun x=>xs[x]?) ∘ fun x=>i+x)=fun m=>xs[i+m]?:=rfl;rw[e2]at this;rw[this]
theorem fP{t sl:Addr}{items:Array Value}{vl vu:Value}{lo hi:Option Int}{Q:Value->Shared->Prop}(ht:IsTup s.heap t items)(hs:s.heap.IsSliceOf sl vl vu .none)(pl:IsPart vl lo)(pu:IsPart vu hi)
  (hw:¬(sIx items.size 0 lo=0/\sIx items.size items.size hi=items.size))
  (h:Q (.ref s.heap.objs.size) { s with heap:=s.heap.push { cls:=.type "tuple",data:=.seq ((items.toList.drop (sIx items.size 0 lo)).take (sIx items.size items.size hi - sIx items.size 0 lo)).toArray } })
  (hsz:items.size≤sizeLine):wpAny (model prog w) A (getItem (.ref t) (.ref sl)) Q E s:=by
 have htake:sizeOk (.seq ((items.toList.drop (sIx items.size 0 lo)).take (sIx items.size items.size hi - sIx items.size 0 lo)).toArray):=by
  show((items.toList.drop (sIx items.size 0 lo)).take (sIx items.size items.size hi - sIx items.size 0 lo)).toArray.size≤sizeLine;rw[Fe,FA,FZ,Gh];omega
 have hj:sIx items.size items.size hi≤items.size:=zA _ _ (Fd _) hi;obtain⟨os,hos,hcs,hds⟩:=id hs;have hTs:s.TypeIs (.ref sl) "slice":=⟨os,hos,hcs⟩;unfold getItem
 try with_reducible refine Gp ?_
 first | refine EX (E1 ?_) | skip
 refine EX (wpAny_sequenceKey ht.typeIs (by decide) ?_);refine EX (F9 (name:=Str.ofString "__getitem__") ht.typeIs PyProof.Rows.slot_tuple_getitem
  (FU PyProof.Rows.slot_tuple_getitem ht.typeIs entry_tuple_getitem ?_ (args_tuple_getitem _ _)))
 show wpAny _ _ (Builtin.Tuple.tupleItemsOf (.ref t) >>= _) _ _ s;refine EX (tupleItemsOf_ ht ?_);refine EX (wpAny_typeOf hTs ?_);rw[Fp (by decide)];refine EX (dA hs pl pu ?_);have hno:¬((((sIx items.size 0 lo:Nat):Int)==0&&(1:Int)==1&&(sIx items.size items.size hi - sIx items.size 0 lo)==items.size)=true):=by
  intro q;rw[Gg,Gg]at q;have q1:((sIx items.size 0 lo:Nat):Int)=0:=eq_of_beq q.1.1;have q2:sIx items.size items.size hi - sIx items.size 0 lo=items.size:=eq_of_beq q.2;exact hw ⟨by omega,by omega⟩
 show wpAny _ _ (if (((sIx items.size 0 lo:Nat):Int)==0&&(1:Int)==1&&(sIx items.size items.size hi - sIx items.size 0 lo)==items.size)=true then _ else _) _ _ s;rw[Fh hno,sC]
 first
  | exact EX (m:=Builtin.Tuple.tupleExact _) (FF (E1 ⟨_,rfl,E1 h⟩) htake)
  | exact EX (m:=Builtin.Tuple.tupleExact _) (FF (EX (E1 (E1 ⟨_,rfl,E1 h⟩))) htake)
  | exact EX (EX (m:=Builtin.Tuple.tupleExact _) (FF (E1 (E1 ⟨_,rfl,E1 h⟩)) htake))
  | exact EX (EX (m:=Builtin.Tuple.tupleExact _) (FF (E1 ⟨_,rfl,E1 h⟩) htake))
end
end HT
namespace L2
section
abbrev TO:=St->Hp->(Option Int->Hp->Prop)->Prop
def PO(X:Cx)(e:Option Expr)(t:TO):Prop :=
 ∀(pins:List (Addr×Obj)) (s:Shared) (σ:St) (H:Hp) (Q:Option Int->Hp->Prop),Inv X pins σ H s->t σ H Q ->
  wpAny (model X.prog X.w) X.A (evalPart e X.env) (fun u s'=>∃o H',Inv X pins σ H' s'/\IsPart u o/\Q o H') X.xe s
def uT:TO:=fun _ H Q=>Q none H
def BC(t:TE):TO:=fun σ H Q=>t σ H fun x H1=>∃i,x=.int i/\Q (some i) H1
section
variable {X:Cx}{e:Expr}{te:TE}{lo hi:Option Expr}{tl th:TO}{pos p2:Pos}
theorem v7:PO X none uT:=by
 intro pins s σ H Q I h;rw[evalPart_none];exact E1 ⟨none,H,I,.none,h⟩
theorem vF(h:PE X e te):PO X (some e) (BC te):=by
 intro pins s σ H Q I hw;rw[evalPart_some];refine thn (h pins s σ H _ I hw) fun u s1 y_=>?_;obtain⟨x,H1,I1,r1,q1⟩:=y_;obtain⟨i,rfl,q⟩:=q1;obtain⟨t,rfl⟩:=r1;exact⟨some i,H1,I1,.int i t,q⟩
def SlR(X:Cx)(r:V->Option Int->Option Int->Hp->VK->Prop):Prop :=
 ∀(pins:List (Addr×Obj)) (s:Shared) (σ:St) (H:Hp) (x:V) (v vl vu:Value) (lo hi:Option Int) (sl:Addr) (Q:VK),Inv X pins σ H s->RelV x v->s.heap.IsSliceOf sl vl vu .none->IsPart vl lo->IsPart vu hi->r x lo hi H Q ->
  ∃T id,typeLookup (.type T) "__getitem__"=pure (some (.builtin id))/\s.TypeIs v T/\wpAny (model X.prog X.w) X.A (getItem v (.ref sl)) (EP X pins σ Q) X.xe s
def tSl(r:V->Option Int->Option Int->Hp->VK->Prop)(te:TE)(tl th:TO):TE:=fun σ H Q=>te σ H fun x H1=>tl σ H1 fun l H2=>th σ H2 fun u H3=>r x l u H3 Q
theorem qZ{r:V->Option Int->Option Int->Hp->VK->Prop}(hr:SlR X r)(he:PE X e te)(hl:PO X lo tl)(hu:PO X hi th):PE X (.Subscript e (.Slice lo hi none p2) pos) (tSl r te tl th):=by
 intro pins s σ H Q I h;refine Subscript_ (thn (he pins s σ H _ I h) fun v s1 y_=>?_);obtain⟨x,H1,I1,r1,q1⟩:=y_;refine wpAny_Slice (thn (hl pins s1 σ H1 _ I1 q1) fun vl s2 ⟨l,H2,I2,pl,q2⟩=>thn (hu pins s2 σ H2 _ I2 q2) fun vu s3 y_=>?_);obtain⟨u,H3,I3,pu,q3⟩:=y_;rw[evalPart_none];refine E1 ?_;have I4:Inv X pins σ H3 { s3 with heap:=s3.heap.push { cls:=.type "slice",data:=.fields #[vl,vu,.none] } }:=I3.kept (t':=s3.toks) fun b ob q=>EZ _ q;obtain⟨T,id,hT,ht,hg⟩:=hr pins { s3 with heap:=s3.heap.push { cls:=.type "slice",data:=.fields #[vl,vu,.none] } } σ H3 x v vl vu l u s3.heap.objs.size Q I4 r1 (Heap.IsSliceOf.new ..) pl pu q3;show wpAny (model X.prog X.w) X.A (subscriptTail e (.Slice lo hi none p2) v (.ref s3.heap.objs.size)) (EP X pins σ Q) X.xe { s3 with heap:=s3.heap.push { cls:=.type "slice",data:=.fields #[vl,vu,.none] } };exact tail_any (ops:=[.ref s3.heap.objs.size,v]) ht hT hg (by with_unfolding_all rfl)
def aQ(xs:List V)(lo hi:Option Int):List V:=(xs.drop (HT.sIx xs.length 0 lo)).take (HT.sIx xs.length xs.length hi - HT.sIx xs.length 0 lo)
theorem hG(xs:List V)(lo hi:Option Int):(aQ xs lo hi).length≤xs.length:=by
 unfold aQ;rw[FA,FZ];omega
def ER(K:PySem.W.Frag):V->Option Int->Option Int->Hp->VK->Prop:=fun x lo hi H Q=>∃a xs,x=.ref a/\SqT K H a xs /\
 ¬(HT.sIx xs.length 0 lo=0/\HT.sIx xs.length xs.length hi=xs.length)/\∀p,H p=none->Q (.ref p) (upd H p (.tup (aQ xs lo hi)))
theorem zU:SlR X (ER X.K):=by
 intro pins s σ H x v vl vu lo hi sl Q I rx hs pl pu h;obtain⟨a,xs,rfl,hx,hw,q⟩:=h;cases rx;obtain⟨its,r,ht,hz⟩:=I.tuple hx;have hlen:its.toArray.size=xs.length:=by rw[Fe];exact r.length.symm
 refine⟨"tuple",_,PyProof.Rows.slot_tuple_getitem.lookup,ht.typeIs,?_⟩;refine HT.fP ht hs pl pu (by rw[hlen];exact hw) ?_ (by rw[hlen];exact hz);rw[hlen];refine⟨.ref s.heap.objs.size,_,I.laid (t':=s.toks) (o:=.tup (aQ xs lo hi)) (fun b ob q=>EZ _ q) (Fd _) ?_,rfl,q _ (I.hok.fresh (Fd _))⟩;exact⟨FI (hG xs lo hi) hz,_,(r.drop (HT.sIx xs.length 0 lo)).take (HT.sIx xs.length xs.length hi - HT.sIx xs.length 0 lo),IsTup.new _ _⟩
def Cq(K:PySem.W.Frag):R2:=fun x y H Q=>∃a b xs ys,x=.ref a/\y=.ref b/\SqT K H a xs/\SqT K H b ys/\xs≠[]/\xs.length+ys.length≤sizeLine /\
 (ys=[]->Q (.ref a) H)/\(ys≠[]->∀p,H p=none->Q (.ref p) (upd H p (.tup (xs++ys))))
theorem Vals.nil_iff{xs:List V}{us:List Value}(r:Vals xs us):us=[]↔xs=[]:=by
 cases r with
 | nil=>simp
 | cons _ _=>simp
theorem vp:OpR X (binaryOp .Add) (Cq X.K):=by
 intro pins s σ H x y v u Q I rx ry h;obtain⟨a,b,xs,ys,rfl,rfl,ha,hb,hx,hz,q1,q2⟩:=h;cases rx;cases ry;obtain⟨its,r1,p1,_⟩:=I.tuple ha;obtain⟨its2,r2,p2,_⟩:=I.tuple hb;refine HT.u7 p1 p2 (fun z=>hx (r1.nil_iff.mp z)) (fun z=>⟨.ref a,H,I,rfl,q1 (r2.nil_iff.mp z)⟩) (fun z=>?_) (by rw[←r1.length,← r2.length];exact hz);refine⟨.ref s.heap.objs.size,_,I.laid (t':=s.toks) (o:=.tup (xs++ys)) (fun b ob q=>EZ _ q) (Fd _) ?_,rfl,q2 (fun w=>z (r2.nil_iff.mpr w)) _ (I.hok.fresh (Fd _))⟩;exact⟨by rw[E3];exact hz,_,r1.append r2,IsTup.new _ _⟩
end
end
section
def ixN(n:Nat)(i:Int):Option Nat:=if 0≤i then(if i<n then some i.toNat else none)else if -(n:Int)≤i then some (i+n).toNat else none
def atI{α:Type}(xs:List α)(i:Int):Option α:=(ixN xs.length i).bind fun j=>xs[j]?
theorem vU{n:Nat}{i:Int}{j:Nat}(h:ixN n i=some j):seqIndex? i n=some j/\j<n/\-(n:Int)≤i/\i<n:=by
 unfold ixN at h;by_cases h0:0≤i
 ·rw[Fp h0]at h;by_cases h1:i<n
  ·rw[Fp h1]at h;have e:i.toNat=j:=FH h;exact⟨by rw[seqIndex_of h0 h1,e],by omega,by omega,h1⟩
  ·rw[Fh h1]at h;cases h
 ·rw[Fh h0]at h;by_cases h1:-(n:Int)≤i
  ·rw[Fp h1]at h;have e:(i+n).toNat=j:=FH h;exact⟨by rw[seqIndex_neg (by omega) h1,e],by omega,h1,by omega⟩
  ·rw[Fh h1]at h;cases h
theorem nT{α:Type}{xs:List α}{i:Int}{v:α}(h:atI xs i=some v):∃j,seqIndex? i xs.length=some j/\xs[j]?=some v/\j<xs.length/\-(xs.length:Int)≤i/\i<xs.length:=by
 unfold atI at h;cases e:ixN xs.length i with
 | none=>rw[e]at h;cases h
 | some j =>
  rw[e]at h;obtain⟨h1,h2,h3,h4⟩:=vU e;exact⟨j,h1,h,h2,h3,h4⟩
def oQ(b:Expr):Prop:=∀o i,subscripted b false o i=operate [o,i] (getItem o i)
def IxR(X:Cx)(r:R2):Prop :=
 ∀(value slice:Expr) (pins:List (Addr×Obj)) (s:Shared) (σ:St) (H:Hp) (x y:V) (v u:Value) (Q:VK),Inv X pins σ H s->RelV x v->RelV y u->r x y H Q ->
  subscripted slice false v u=operate [v,u] (getItem v u)->wpAny (model X.prog X.w) X.A (subscriptTail value slice v u) (EP X pins σ Q) X.xe s
def MtR(X:Cx)(id:String)(r:V->List V->Hp->VK->Prop):Prop :=
 ∀(pins:List (Addr×Obj)) (s:Shared) (σ:St) (H:Hp) (x:V) (xs:List V) (v:Value) (us:List Value) (Q:VK),Inv X pins σ H s->RelV x v->Vals xs us->r x xs H Q ->
  wpAny (model X.prog X.w) X.A (call (.builtin id) (v::us)) (EP X pins σ Q) X.xe s
section
variable {X:Cx}{a b:Expr}{ta tb:TE}{pos:Pos}
theorem IxR.or{r r':R2}(h:IxR X r)(h':IxR X r'):IxR X (fun x y H Q=>r x y H Q∨r' x y H Q):=by
 intro value slice pins s σ H x y v u Q I rx ry q hs;rcases q with q | q
 ·exact h value slice pins s σ H x y v u Q I rx ry q hs
 ·exact h' value slice pins s σ H x y v u Q I rx ry q hs
theorem AO{r:R2}(hr:IxR X r)(ha:PE X a ta)(hb:PE X b tb)(hs:oQ b):PE X (.Subscript a b pos) (tOp r ta tb):=by
 intro pins s σ H Q I h;exact Subscript_ (xZ ha hb I h fun v u s2 x y H2 I2 rx ry q=>hr a b pins s2 σ H2 x y v u Q I2 rx ry q (hs _ _))
def yn(K:PySem.W.Frag):R2:=fun x y H Q=>∃p xs i v,x=.ref p/\y=.int i/\SqL K H p xs/\atI xs i=some v/\Q v H
def yH(K:PySem.W.Frag):R2:=fun x y H Q=>∃p xs i v,x=.ref p/\y=.int i/\SqT K H p xs/\atI xs i=some v/\Q v H
theorem wQ:IxR X (yn X.K):=by
 intro value slice pins s σ H x y v u Q I rx ry h hs;obtain⟨p,xs,i,z,rfl,rfl,hq,he,q⟩:=h;cases rx;obtain⟨t,rfl⟩:=ry;obtain⟨its,r,pl,hz⟩:=I.list hq;obtain⟨j,h1,h2,h3,h4,h5⟩:=nT he;obtain⟨w,ew,rw'⟩:=r.get h2;have hl:=r.length;have hn:=nj;have fin:EP X pins σ Q w s:=⟨z,H,I,rw',q⟩;by_cases h0:0≤i
 ·have hj:i.toNat=j:=by
   rw[seqIndex_of h0 h5]at h1;exact FH h1
  exact item_listR pl.isList h0 (by omega) (by rw[hj];simpa using ew) fin hs
 ·have hj:(i+(its.toArray.size:Int)).toNat=j:=by
   rw[seqIndex_neg (by omega) h4]at h1;rw[Fe,← hl];exact FH h1
  exact subscriptTail_builtinR (x:=w) pl.isList.typeIs slot_list_getitem.lookup
   (wpAny_getItem_list_neg (Q:=fun r s'=>r=w/\EP X pins σ Q r s') pl.isList (by omega) (by rw[Fe]<;>omega) (by omega) (by rw[hj];simpa using ew) ⟨rfl,fin⟩) hs
theorem zL:IxR X (yH X.K):=by
 intro value slice pins s σ H x y v u Q I rx ry h hs;obtain⟨p,xs,i,z,rfl,rfl,hq,he,q⟩:=h;cases rx;obtain⟨t,rfl⟩:=ry;obtain⟨its,r,pl,hz⟩:=I.tuple hq;obtain⟨j,h1,h2,h3,h4,h5⟩:=nT he;obtain⟨w,ew,rw'⟩:=r.get h2;have hl:=r.length;have hn:=nj;have fin:EP X pins σ Q w s:=⟨z,H,I,rw',q⟩;exact subscriptTail_builtinR (x:=w) pl.typeIs slot_tuple_getitem.lookup
  (getItem_tuple (j:=j) (Q:=fun r s'=>r=w/\EP X pins σ Q r s') pl (by omega) (by omega) (by rw[Fe,← hl];exact h1) (by simpa using ew) ⟨rfl,fin⟩) hs
theorem j3(lo hi:Option Int)(n:Nat):(sliceBounds lo hi none n).1=((HT.sIx n 0 lo:Nat):Int)/\(sliceBounds lo hi none n).2.1=((HT.sIx n n hi:Nat):Int)/\(sliceBounds lo hi none n).2.2=1:=by
 refine⟨?_,?_,rfl⟩
 ·cases lo with
  | none=>simp[sliceBounds,HT.sIx]
  | some i =>
   simp only[sliceBounds,HT.sIx,Option.getD_none,show(1:Int)>0 by decide,if_true];by_cases h:i<0
   ·simp only[h,if_true]<;>omega
   ·simp only[h,if_false]<;>omega
 ·cases hi with
  | none=>simp[sliceBounds,HT.sIx]
  | some i =>
   simp only[sliceBounds,HT.sIx,Option.getD_none,show(1:Int)>0 by decide,if_true];by_cases h:i<0
   ·simp only[h,if_true]<;>omega
   ·simp only[h,if_false]<;>omega
theorem jg(its:List Value)(lo hi:Option Int):slicePick its.toArray lo hi none=((its.drop (HT.sIx its.length 0 lo)).take (HT.sIx its.length its.length hi - HT.sIx its.length 0 lo)).toArray:=by
 obtain⟨h1,h2,h3⟩:=j3 lo hi its.toArray.size;unfold slicePick;rw[h1,h2,h3];simp only[sliceRange_one,pick_run,Fe]<;>rfl
def C5(K:PySem.W.Frag):V->Option Int->Option Int->Hp->VK->Prop:=fun x lo hi H Q=>∃a xs,x=.ref a/\SqL K H a xs/\∀p,H p=none->Q (.ref p) (upd H p (.lst (aQ xs lo hi)))
theorem Cs:SlR X (C5 X.K):=by
 intro pins s σ H x v vl vu lo hi sl Q I rx hs pl pu h;obtain⟨a,xs,rfl,hx,q⟩:=h;cases rx;obtain⟨its,r,ht,hz⟩:=I.list hx;have hlen:=r.length;refine⟨"list",_,slot_list_getitem.lookup,ht.isList.typeIs,?_⟩;refine wpAny_getItem_list_slice ht.isList hs pl pu .none (by simp) ?_ (by rw[Fe]<;>omega);rw[jg,← hlen];refine⟨.ref s.heap.objs.size,_,I.laid (t':=s.toks) (o:=.lst (aQ xs lo hi)) (fun b ob q=>EZ _ q) (Fd _) ?_,rfl,q _ (I.hok.fresh (Fd _))⟩;exact⟨FI (hG xs lo hi) hz,_,0,(r.drop (HT.sIx xs.length 0 lo)).take (HT.sIx xs.length xs.length hi - HT.sIx xs.length 0 lo),Fc _ rfl⟩
theorem av:cD X (.builtin "len") (fun xs H Q=>∃p ys,xs=[.ref p]/\(SqL X.K H p ys∨SqT X.K H p ys)/\Q (.int ys.length) H):=by
 intro pins s σ H xs us Q I r h;obtain⟨p,ys,rfl,hq,q⟩:=h;obtain⟨u,rfl,rx⟩:=vals1 r;cases rx;have hn:=nj;rcases hq with hq | hq
 ·obtain⟨its,r',pl,hz⟩:=I.list hq;have hlen:=r'.length;exact Calls.call_len_list pl.isList (by simp only[Fe]<;>omega) ⟨.int ys.length,H,I.tok _,⟨s.toks+1,by rw[Fe,hlen]⟩,q⟩
 ·obtain⟨its,r',pl,hz⟩:=I.tuple hq;have hlen:=r'.length;exact len_tuple pl (by simp only[Fe]<;>omega) ⟨.int ys.length,H,I.tok _,⟨s.toks+1,by rw[Fe,hlen]⟩,q⟩
theorem cv:cD X (.type "list") (fun xs H Q=>∃p ys,xs=[.ref p]/\(SqL X.K H p ys∨SqT X.K H p ys)/\∀l,H l=none->Q (.ref l) (upd H l (.lst ys))):=by
 intro pins s σ H xs us Q I r h;obtain⟨p,ys,rfl,hq,q⟩:=h;obtain⟨u,rfl,rx⟩:=vals1 r;cases rx;have fin:∀(its:List Value),Vals ys its->ys.length≤sizeLine->∀(h':Heap) (c':Nat),(∀b o',s.heap.get? b=some o'->h'.get? b=some o') ->
   h'.get? s.heap.objs.size=some { cls:=.type "list",dict:=none,data:=.seq its.toArray c',slots:=#[] }->EP X pins σ Q (.ref s.heap.objs.size) { s with heap:=h' }:=fun its r' hz h' c' kp e =>
  ⟨.ref s.heap.objs.size,_,I.laid (t':=s.toks) kp (Fd _) (show bQ X.prog X.w _ h' _ (.lst ys)from⟨hz,its,c',r',e⟩),rfl,q _ (I.hok.fresh (Fd _))⟩
 rcases hq with hq | hq
 ·obtain⟨its,r',pl,hz⟩:=I.list hq;have hlen:=r'.length;obtain⟨o,ho,hc,n,hd⟩:=pl.isList;exact call_list_seq p (.inl rfl) ho hc hd (fun h' c' kp e=>fin its r' hz h' c' kp e) (by simp only[Fe]<;>omega)
 ·obtain⟨its,r',pl,hz⟩:=I.tuple hq;have hlen:=r'.length;obtain⟨o,ho,hc,n,hd⟩:=pl;exact call_list_seq p (.inr rfl) ho hc hd (fun h' c' kp e=>fin its r' hz h' c' kp e) (by simp only[Fe]<;>omega)
theorem aF:cD X (.type "tuple") (fun xs H Q=>∃p ys,xs=[.ref p]/\((SqL X.K H p ys/\∀l,H l=none->Q (.ref l) (upd H l (.tup ys)))∨(SqT X.K H p ys/\Q (.ref p) H))):=by
 intro pins s σ H xs us Q I r h;obtain⟨p,ys,rfl,h⟩:=h;obtain⟨u,rfl,rx⟩:=vals1 r;cases rx;rcases h with⟨hq,q⟩ |⟨hq,q⟩
 ·obtain⟨its,r',pl,hz⟩:=I.list hq;have hlen:=r'.length;refine call_tuple_list pl.isList (fun h' kp=>?_) (by simp only[Fe]<;>omega);have I1:Inv X pins σ H { s with heap:=h' }:=I.kept (t':=s.toks) kp;have I2:Inv X pins σ (upd H h'.objs.size (.tup ys)) { s with heap:=h'.push { cls:=.type "tuple",data:=.seq its.toArray } } :=
   I1.laid (t':=s.toks) (fun b o e=>EZ _ e) (Fd _) (show bQ X.prog X.w _ _ _ (.tup ys)from⟨hz,its,r',IsTup.new _ _⟩)
  exact⟨.ref h'.objs.size,_,I2,rfl,q _ (I1.hok.fresh (Fd _))⟩
 ·obtain⟨its,r',pl,hz⟩:=I.tuple hq;exact call_tuple_same pl ⟨.ref p,H,I,rfl,q⟩
def tyV(K:PySem.W.Frag)(T:String)(x:V)(H:Hp):Prop:=match x with
 | .str _=>T="str"
 | .int _=>T="int"
 | .ref p=>(T="list"/\∃xs,SqL K H p xs)∨(T="tuple"/\∃o,K.lookup p=some o/\o.cls=.type "tuple"/\o.dict=none) ∨
   (T="dict"/\((∃kvs,H p=some (.dK kvs))∨∃kvs,H p=some (.dT kvs)))∨(T="set"/\∃S n,H p=some (.set S n))
 | _=>False
theorem tV{pins:List (Addr×Obj)}{σ:St}{H:Hp}{s:Shared}{T:String}{x:V}{v:Value}(I:Inv X pins σ H s)(r:RelV x v)(ty:tyV X.K T x H) :
  s.TypeIs v T/\∀a,v=.ref a->∃ob,s.heap.get? a=some ob/\ob.dict=none:=by
 cases x with
 | str z =>
  obtain⟨t,rfl⟩:=r;cases (show T="str" from ty);exact⟨typeIs_str s z t,fun _ e=>nomatch e⟩
 | int i =>
  obtain⟨t,rfl⟩:=r;cases (show T="int" from ty);exact⟨typeIs_int s i t,fun _ e=>nomatch e⟩
 | ref p =>
  cases r;rcases ty with⟨rfl,xs,hq⟩ |⟨rfl,o,hk,hc,hd⟩ |⟨rfl,hk⟩ |⟨rfl,S,n,hk⟩
  ·obtain⟨its,_,pl,_⟩:=I.list hq;refine⟨pl.isList.typeIs,fun a e=>?_⟩;cases e;obtain⟨o,n,e,c,hd,_⟩:=pl;exact⟨o,e,hd⟩
  ·refine⟨⟨o,I.kIn p o hk,hc⟩,fun a e=>?_⟩;cases e;exact⟨o,I.kIn _ o hk,hd⟩
  ·have z:∃o,s.heap.get? p=some o/\o.ExactDict:=by
    rcases hk with⟨kvs,hk⟩ |⟨kvs,hk⟩
    ·obtain⟨_,_,_,_,o,_,_,e,ex,_⟩:=I.hok p _ hk;exact⟨o,e,ex⟩
    ·obtain⟨_,_,_,_,o,_,_,e,ex,_⟩:=I.hok p _ hk;exact⟨o,e,ex⟩
   obtain⟨o,e,ex⟩:=z;refine⟨⟨o,e,ex.1⟩,fun a e2=>?_⟩;cases e2;exact⟨o,e,ex.2.1⟩
  ·obtain⟨o,_,_,_,e,ex,_⟩:=I.hok p _ hk;refine⟨⟨o,e,ex.1⟩,fun a e2=>?_⟩;cases e2;exact⟨o,e,ex.2.1⟩
 | _=>exact False.elim ty
def C3(K:PySem.W.Frag)(T:String)(r:V->List V->Hp->VK->Prop)(to:TE):TE:=fun σ H Q=>to σ H fun x H1=>tyV K T x H1/\r x [] H1 Q
def tBM(K:PySem.W.Frag)(T:String)(r:V->List V->Hp->VK->Prop)(to:TE)(t:TA):TE:=fun σ H Q=>to σ H fun x H1=>tyV K T x H1/\t σ H1 fun xs H2=>r x xs H2 Q
variable {o e:Expr}{es:List Expr}{to:TE}{t:TA}{name:Str}{apos cpos:Pos}{T id:String}{r:V->List V->Hp->VK->Prop}
theorem yW(pa:PlainAttrs T)(slot:Slot T name id)(hty:typeOf (.builtin id)=pure (.type "method_descriptor"))(hm:MtR X id r)(ho:PE X o to)
  (hbase:attributeBase o name X.env (eval o X.env)=eval o X.env:=by rfl) (hline:(apos.endLine==cpos.line)=true:=by rfl):PE X (.Call (.Attribute o name apos) [] [] cpos) (C3 X.K T r to):=by
 intro pins s σ H Q I h;refine wpAny_Call_method0_late hbase hline (thn (ho pins s σ H _ I h) fun v s1 y_=>?_);obtain⟨x,H1,I1,r1,ty,q1⟩:=y_;obtain⟨h1,h2⟩:=tV I1 r1 ty;exact⟨T,id,pa,slot,hty,h1,h2,Calls.callWith_builtin rfl (PySem.evalArgs_none (hm pins s1 σ H1 x [] v [] Q I1 r1 .nil q1))⟩
theorem B3(pa:PlainAttrs T)(slot:Slot T name id)(hty:typeOf (.builtin id)=pure (.type "method_descriptor"))(hm:MtR X id r)(ho:PE X o to)(ha:PA X (e::es) t)
  (hbase:attributeBase o name X.env (eval o X.env)=eval o X.env:=by rfl)
  (hfew:((backTo cpos (starEach (e::es) X.env)).all (fun x=>!x.1)&&(backToKw cpos (keywordEach [] X.env)).all (fun x=>x.1.isSome)
   && decide ((e::es).length+([]:List Keyword).length+(if ([]:List Keyword).isEmpty then 0 else 1)<30))=true:=by rfl)
  (hline:(apos.endLine==cpos.line)=true:=by rfl) (hs:starEach (e::es) X.env=(false,eval e X.env)::starEach es X.env:=by rfl) (hplain:(backTo cpos (starEach es X.env)).any (·.1)=false:=by rfl) :
  PE X (.Call (.Attribute o name apos) (e::es) [] cpos) (tBM X.K T r to t):=by
 intro pins s σ H Q I h;refine wpAny_Call_method_late hbase hfew hline rfl (thn (ho pins s σ H _ I h) fun v s1 y_=>?_);obtain⟨x,H1,I1,r1,ty,q1⟩:=y_;obtain⟨h1,h2⟩:=tV I1 r1 ty;refine⟨T,id,pa,slot,hty,h1,h2,?_⟩;have hA:=ha cpos pins s1 σ H1 _ I1 q1;rw[hs]at hA ⊢;refine Calls.callWith_builtin (by show(false||(backTo cpos (starEach es X.env)).any (·.1))=false;rw[hplain]<;>rfl) (Calls.evalArgs_plain ?_);exact thn hA fun us s2 ⟨vs,H2,I2,r2,q2⟩=>hm pins s2 σ H2 x vs v us Q I2 r1 r2 q2
end
end
section
def MtM(X:Cx)(id:String)(r:V->List V->Hp->VK->Prop):Prop :=
 ∀(pins:List (Addr×Obj)) (s:Shared) (σ:St) (H:Hp) (x:V) (xs:List V) (v:Value) (us:List Value) (Q:VK),Inv X pins σ H s->RelV x v->Vals xs us->r x xs H Q ->
  wpAny (model X.prog X.w) X.A (call (.builtin id) (v::us)) (EP X pins σ Q) X.xe s
theorem Vals.one:∀{x:V} {us:List Value},Vals [x] us->∃u,us=[u]/\RelV x u
 | _,_,.cons r .nil=>⟨_,rfl,r⟩
theorem Vals.zero:∀{us:List Value},Vals [] us->us=[]
 | _,.nil=>rfl
theorem Vals.dropLast{xs:List V}{us:List Value}(h:Vals xs us):Vals xs.dropLast us.dropLast:=by
 induction h with
 | nil=>exact .nil
 | cons r t ih =>
  cases t with
  | nil=>exact .nil
  | cons q t'=>exact .cons r ih
theorem mw{α:Type}(l:List α):l.eraseIdx (l.length - 1)=l.dropLast:=by
 induction l with
 | nil=>rfl
 | cons a r ih =>
  cases r with
  | nil=>rfl
  | cons b r =>
   have e:(a::b::r).length - 1=((b::r).length - 1)+1:=by
    have h1:(a::b::r).length=r.length+2:=rfl;have h2:(b::r).length=r.length+1:=rfl;omega
   rw[e,List.eraseIdx_cons_succ,ih]
   all_goals rfl
section
variable {X:Cx}{pins:List (Addr×Obj)}{σ:St}{H:Hp}{s:Shared}{l b:Addr}{xs ys zs:List V}
theorem Inv.lset{its its':List Value}{n:Nat}{f:Array Value->Array Value}{t':Nat}(I:Inv X pins σ H s)(hH:H l=some (.lst xs))
  (e:s.heap.get? l=some { cls:=.type "list",data:=.seq its.toArray n }) (hf:f its.toArray=its'.toArray) (hv:Vals ys its') (hz:ys.length≤sizeLine) :
  Inv X pins σ (upd H l (.lst ys)) { s with heap:=s.heap.update l (Obj.mapSeq f),toks:=t' }:=by
 have q:=PySem.IsL.update e f;rw[hf]at q;refine I.write (x:=l) (e:=l) (by rw[hH];exact trivial) (.inl rfl) (fun b' u hb hu=>(Heap.get?_update_other s.heap (Obj.mapSeq f) (Ne.symm hb)).trans hu) ⟨_,q⟩ ?_;exact⟨hz,its',_,hv,q⟩
theorem Inv.lnew{its:List Value}{t':Nat}(I:Inv X pins σ H s)(hv:Vals ys its)(hz:ys.length≤sizeLine) :
  Inv X pins σ (upd H s.heap.objs.size (.lst ys)) { s with heap:=s.heap.push { cls:=.type "list",data:=.seq its.toArray },toks:=t' } :=
 I.laid (fun _ _ q=>EZ _ q) (Fd _) ⟨hz,its,0,hv,Fc _ rfl⟩
theorem Inv.fresh(I:Inv X pins σ H s):H s.heap.objs.size=none:=I.hok.fresh (Fd _)
theorem Inv.lstM(I:Inv X pins σ H s)(hH:H l=some (.lst xs)):xs.length≤sizeLine/\∃(its:List Value) (n:Nat),Vals xs its/\xs.length=its.length/\s.heap.get? l=some { cls:=.type "list",data:=.seq its.toArray n }:=by
 obtain⟨z,its,n,r,e⟩:=I.hok l _ hH;exact⟨z,its,n,r,r.length,e⟩
theorem kW{n:Nat}(h:n≤sizeLine):Builtin.List.listTooLong n=false:=by
 unfold Builtin.List.listTooLong;exact F7 (by omega)
end
section
variable {X:Cx}
def n5:V->List V->Hp->VK->Prop:=fun x vs H Q=>∃l xs y,x=.ref l/\vs=[y]/\H l=some (.lst xs)/\xs.length<sizeLine/\Q .non (upd H l (.lst (xs++[y])))
theorem a9:MtM X "list.append" n5:=by
 intro pins s σ H x vs v us Q I rx rv h;obtain⟨l,xs,y,rfl,rfl,hH,hz,q⟩:=h;cases rx;obtain⟨u,rfl,ru⟩:=rv.one;obtain⟨z,its,n,r,hl,e⟩:=I.lstM hH;refine call_meets F.slot_list_append ⟨_,e,rfl⟩ F.entry_list_append (F.args_list_append_2 _ _) (PySem.list_append l its.toArray n u (by rw[Fe];omega)) ⟨e,?_⟩;refine⟨.non,_,I.lset (its':=its++[u]) hH e (by simp) (r.append (.cons ru .nil)) ?_,rfl,q⟩;rw[E3,Fj];omega
def ve:V->List V->Hp->VK->Prop:=fun x vs H Q=>∃l b xs zs,x=.ref l/\vs=[.ref b]/\H l=some (.lst xs)/\H b=some (.lst zs)/\xs.length+zs.length≤sizeLine/\Q .non (upd H l (.lst (xs++zs)))
theorem Ar:MtM X "list.extend" ve:=by
 intro pins s σ H x vs v us Q I rx rv h;obtain⟨l,b,xs,zs,rfl,rfl,hH,hB,hz,q⟩:=h;cases rx;obtain⟨u,rfl,ru⟩:=rv.one;cases ru;obtain⟨z,its,n,r,hl,e⟩:=I.lstM hH;obtain⟨z2,its2,n2,r2,hl2,e2⟩:=I.lstM hB;have hsz:its.toArray.size+its2.toArray.size≤sizeLine:=by rw[Fe,Fe];omega
 have hlong:¬(!its.toArray.isEmpty&&Builtin.List.listTooLong (its.toArray.size+its2.toArray.size))=true:=by
  rw[kW hsz,Bool.and_false];exact Gv
 refine call_meets F.slot_list_extend ⟨_,e,rfl⟩ F.entry_list_extend (F.args_list_extend_2 _ _)
  (AutoSeq1.list_extend_list_list_0 l its.toArray n b its2.toArray n2 hlong (by rw[Fe];omega) (by omega)) ⟨e,e2,?_⟩
 refine⟨.non,_,I.lset (its':=its++its2) hH e (by simp) (r.append r2) ?_,rfl,q⟩;rw[E3];omega
def B7:V->List V->Hp->VK->Prop:=fun x vs H Q=>∃l xs y,x=.ref l/\vs=[]/\H l=some (.lst xs)/\xs[xs.length - 1]?=some y/\Q y (upd H l (.lst xs.dropLast))
theorem zG:MtM X "list.pop" B7:=by
 intro pins s σ H x vs v us Q I rx rv h;obtain⟨l,xs,y,rfl,rfl,hH,hy,q⟩:=h;cases rx;have hus:=rv.zero;subst hus;obtain⟨z,its,n,r,hl,e⟩:=I.lstM hH;obtain⟨u,hu,ru⟩:=r.get hy;have hy':its.toArray[its.toArray.size - 1]?=some u:=by
  show its.toArray[its.length - 1]?=some u;rw[←FR,← hl];exact hu
 refine call_meets F.slot_list_pop ⟨_,e,rfl⟩ F.entry_list_pop (F.args_list_pop_1 _) (MeetsSeq.list_pop_last l its.toArray n u hy' (by rw[Fe];omega)) ⟨e,?_⟩;refine⟨y,_,I.lset (its':=its.dropLast) hH e ?_ r.dropLast ?_,ru,q⟩
 ·show its.toArray.eraseIdxIfInBounds (its.toArray.size - 1)=its.dropLast.toArray;rw[Fe,List.eraseIdxIfInBounds_toArray,mw]
 ·rw[List.length_dropLast];omega
def Bb:R2:=fun x y H Q=>∃l b xs zs,x=.ref l/\y=.ref b/\H l=some (.lst xs)/\H b=some (.lst zs)/\xs.length+zs.length≤sizeLine/\∀p,H p=none->Q (.ref p) (upd H p (.lst (xs++zs)))
theorem yd:OpR X (binaryOp .Add) Bb:=by
 intro pins s σ H x y v u Q I rx ry h;obtain⟨l,b,xs,zs,rfl,rfl,hH,hB,hz,q⟩:=h;cases rx;cases ry;obtain⟨z,its,n,r,hl,e⟩:=I.lstM hH;obtain⟨z2,its2,n2,r2,hl2,e2⟩:=I.lstM hB;refine PySem.P.add_list e e2 ?_ (by rw[Fe,Fe];omega);have ea:its.toArray++its2.toArray=(its++its2).toArray:=by simp
 rw[ea];exact⟨.ref _,_,I.lnew (t':=s.toks) (r.append r2) (by rw[E3];omega),rfl,q _ I.fresh⟩
end
section
variable {prog:Program}{w:World}{A:Around}{E:Value->Shared->Prop}{s:Shared}
end
section
variable {X:Cx}
end
end
end L2
namespace Att
open PySem.W PySem.Calls
theorem hZ{P:Params}{h:Heap}:∀(ns:List Int) (vs:List Value),WellAll P h vs (ns.map WData.int)->IntsAre vs ns:=by
 intro ns
 induction ns with
 | nil =>
  intro vs w;rw[List.map_nil]at w;cases w;exact .nil
 | cons n ns ih =>
  intro vs w;rw[E8]at w;cases w with
  | cons a b =>
   cases a;exact .cons _ _ (ih _ b)
theorem o4{l:OpenLaw}{n:Nat}(hn:l.most=some n){P:Params}{h:Heap}{args:List WData}{vals:List Value}
  (hpre:l.row.toRowW.claim.pre args=true) (hwl:WellAll P h vals args) :
  ∃a vs ns,vals=[Value.ref a]/\args=[WData.list (ns.map WData.int)]/\h.get? a=some { cls:=.type "list",data:=.seq vs.toArray }/\IntsAre vs ns/\ns.length≤n:=by
 have hsh:WShape.hasAll [] args [.list .int]=true:=(pre_splitW hpre).1;have hc:l.pre.holds [] { args:=args }=true:=(pre_splitW hpre).2;obtain⟨d,r,rfl,h1,h2⟩:=hasAllW_cons hsh;obtain rfl:=hasAllW_nil h2;obtain⟨xs,rfl,h3⟩:=hasW_list h1;obtain⟨ns,rfl⟩:=items_int h3;have hlen:ns.length≤n:=by
  unfold OpenLaw.pre at hc;have h4:(WTm.not (.lt (.lit (.int (n:Int))) (.len (.arg 0)))).holds [] { args:=[.list (ns.map .int)] }=true:=by
   have h4:=(holds_andW hc).1;rw[hn]at h4;exact h4
  have h5:=condW_of h4 (w_not (w_lt w_lit (w_len_list (w_arg rfl))));rw[EW]at h5;refine Nat.le_of_not_lt fun q=>?_;have q':(n:Int)<((ns.length:Nat):Int):=by omega
  first
   |(rw[FO q']at h5;exact absurd h5 (by decide))
   |(simp at h5;omega)
 cases hwl with
 | cons w1 w2 =>
  cases w2;cases w1 with
  | list ho hall=>exact⟨_,_,ns,rfl,rfl,ho,hZ ns _ hall,hlen⟩
theorem qp(l:OpenLaw)(args:List WData):l.row.toRowW.claim.post args (.bool true) args=true :=
 postW_of (r:=l.row.toRowW) (X:=(true==true))
  (show WShape.has [] (.bool true) .bool=true by first | rfl | decide | simp[WShape.has,WShape.arms,WShape.armsAll])
  (show(WTm.eq .res (.lit (.bool true))).value [] { args:=args,res:=some (.bool true),after:=args }=some (.bool (true==true))from w_eq_bool (w_res rfl) w_lit) rfl
theorem k8{l:OpenLaw}{n:Nat}{q:Program}{loose:List Str}{XP:(Str->Option Value)->Heap->Prop}{YP:World->Heap->Prop}{d:DefRec}
  (hn:l.most=some n) (hdf:d.params.defaults=[])
  (call:∀(w:World) (s₀ s₁:Shared) (mg mb:Str->Option Value) (fa:Addr) (o:Obj) (pm cd doc:Value) (a:Addr) (vs:List Value) (ns:List Int),
   Ground q loose [] XP w s₀ mg mb s₁.heap->YP w s₁.heap ->
   s₁.heap.get? fa=some o->o.data=.func (docDef d.name d.params d.body d.scope pm cd doc)->s₁.heap.CodeRec cd d.name->mg d.name=some (.ref fa) ->
   s₁.heap.get? a=some { cls:=.type "list",data:=.seq vs.toArray }->IntsAre vs ns->ns.length≤n->s₁.gens=#[] ->
   codeAny (model l.prog w) callerA (.call (.ref fa) ⟨[.ref a],[]⟩) (fun r s'=>r=.ok (.ret (.bool true))/\OldK s₁.heap s'.heap/\s'.os=s₁.os/\AllBare s'.gens) s₁) :
  WalkO q loose XP YP l.row.toRowW d [] (fun f vs=>PySem.call f vs):=by
 intro w s₀ s₁ mg mb G Y fa o pm cd doc dV kV ho hd hcd hD hmg hg args vals as hpre hlay hrd hwl hlo;obtain rfl:dV=.none:=Dflts.none hD hdf;obtain rfl:kV=.none:=Dflts.noKw hD;obtain⟨a,vs,ns,rfl,rfl,hobj,hints,hlen⟩:=o4 hn hpre hwl;refine enter_call (G0 (call w s₀ s₁ mg mb fa o pm cd doc a vs ns G Y ho (fd_plain hd) hcd hmg hobj hints hlen hg) fun r s' hq=>?_);obtain⟨rfl,h2,h3,h4⟩:=hq;exact⟨.inl ⟨.bool true,.bool true,[],rfl,fun _=>rfl,.bool true,qp l _,fun _=>⟨List.Pairwise.nil,fun _ hm=>(nomatch hm)⟩⟩,h2,h3,h4⟩
section
variable {prog:Program}{w:World}{A:Around}{E:Value->Shared->Prop}{s:Shared}{K:Frag}
def ledger(h:Heap)(L d:Addr):List (Addr×Obj):=(List.range h.objs.size).filterMap fun a=>if a=L∨a=d then none else(h.get? a).map fun o=>(a,o)
end
end Att
namespace L2
section
theorem dB:∀{vs:List Value} {ns:List Int},IntsAre vs ns->Vals (ns.map V.int) vs
 | _,_,.nil=>.nil
 | _,_,.cons n t h=>.cons ⟨t,rfl⟩ (dB h)
def pN(H:Hp):Prop:=∀b,H b=none∨∃o xs,H b=some (.frz o (.lst xs))
theorem uw{P:Program}{w:World}{K:PySem.W.Frag}{mg mb:Str->Option Value}{CX:CXT}{k:Nat}{fa a:Addr}{fd:FuncData}{x:Str}{sp:Sp}{s₁:Shared}{vs:List Value}{ns:List Int}
  (KX:K.In s₁.heap) (hns:s₁.heap.Ns mainGlobals mg) (hb:s₁.heap.Ns builtinsNs mb) (hbb:∀x:Str,x≠"__name__"->mb x=bootBuiltins x) (hlim:s₁.heap.NoLimit) (hg:s₁.gens=#[])
  (ha:s₁.heap.get? a=some { cls:=.type "list",data:=.seq vs.toArray }) (hi:IntsAre vs ns) (hl:ns.length≤sizeLine) (hr:cB k callerA)
  (F:∀base:Heap,K.In base->base.Ns mainGlobals mg->iU P w K mg base CX k fa fd [x] sp) (hbind:∀(s:Shared) (u:Value),BindsTo s fd ⟨[u],[]⟩ [(x,u)])
  (hsp:∀H:Hp,pN H->SqL K H a (ns.map V.int)->sp [.ref a] H (fun v _=>v=.bl true) fun _ _ _=>False)
  (hCX:∀H e s',CX [] H s₁ (fun _ _ _=>False) e s'->False) :
  codeAny (model P w) callerA (.call (.ref fa) ⟨[.ref a],[]⟩) (fun r s'=>r=.ok (.ret (.bool true))/\OldK s₁.heap s'.heap/\s'.os=s₁.os/\AllBare s'.gens) s₁:=by
 have rv:=dB hi;have lenV:=hi.length;have core:∀H:Hp,pN H->SqL K H a (ns.map V.int)->HOk P w H s₁.heap->(∀b,H b≠none->b=a)->(H a≠none->K.lookup a=none) ->
   codeAny (model P w) callerA (.call (.ref fa) ⟨[.ref a],[]⟩) (fun r s'=>r=.ok (.ret (.bool true))/\OldK s₁.heap s'.heap/\s'.os=s₁.os/\AllBare s'.gens) s₁:=by
  intro H hO hS hok hA hK;have base_of:∀{b:Addr} {o:Obj},s₁.heap.get? b=some o->H b=none->(ka s₁.heap H).get? b=some o:=fun e n=>tN e n;have noA:∀{b:Addr} {o:Obj} {es:Array DictEntry} {ep:Nat},s₁.heap.get? b=some o->o.data=.dict es ep->H b=none:=fun {b o es ep} e d=>by
   cases q:H b with
   | none=>rfl
   | some u =>
    have e':b=a:=hA b (by rw[q];simp);subst e';rw[ha]at e;cases e;have d':Data.seq vs.toArray _=Data.dict es ep:=d;cases d'
  have nsK:∀{b:Addr} {m:Str->Option Value},s₁.heap.Ns b m->(ka s₁.heap H).Ns b m:=fun {b m} ⟨o,es,ep,e,d,r⟩=>⟨o,es,ep,base_of e (noA e d),d,r⟩;have hKb:K.In (ka s₁.heap H):=fun b o e=>base_of (KX b o e) (by
   cases q:H b with
   | none=>rfl
   | some u =>
    have e':b=a:=hA b (by rw[q];simp);subst e';rw[hK (by rw[q];simp)]at e;cases e)
  have hM:Mod K mg (ka s₁.heap H):=⟨hKb,nsK hns,⟨mb,nsK hb,hbb⟩,let ⟨mc,h1,h2⟩:=hlim;⟨mc,nsK h1,h2⟩⟩;have e0:mG P w K mg (ka s₁.heap H) callerA [] s₁ H:=⟨rfl,hM,fun b o e=>vV e,Nat.le_of_eq (ph _ _),trivial,fun b hb=>absurd (show b∈([]:List Addr)from hb) (by simp),hok,.of_eq hg⟩;refine G0 ((F _ hKb (nsK hns)).run callerA [] s₁ H ⟨[.ref a],[]⟩ [.ref a] [.ref a] _ _ hr e0 (hbind s₁ (.ref a)) (.cons rfl .nil) (hsp H hO hS)) fun r s' h=>?_;cases r with
  | error e=>exact(hCX H e s' h).elim
  | ok fl =>
   cases fl with
   | next=>exact False.elim h
   | brk=>exact False.elim h
   | cont=>exact False.elim h
   | ret u =>
    obtain⟨v,H',os,bare,un,hok',r',q⟩:=h;have q':v=.bl true:=q;subst q';obtain rfl:u=Value.bool true:=r';refine⟨rfl,OldK.of_keep fun b o e=>?_,os,bare⟩;cases q:H b with
    | none=>exact un.keep b o e q (by intro z;exact absurd (show b∈([]:List Addr)from z) (by simp)) (by simp)
    | some u =>
     rcases hO b with z |⟨ob,xs,z⟩
     ·rw[q]at z;cases z
     ·have z2:=un.frzs b ob _ z;obtain⟨e1,_⟩:=hok b _ z;obtain⟨e2,_⟩:=hok' b _ z2;rw[e]at e1;cases e1;exact e2
 cases hk:K.lookup a with
 | some o =>
  have e:=KX a o hk;rw[ha]at e;cases e;refine core (fun _=>none) (fun _=>.inl rfl) (.inr ⟨_,vs.toArray,_,hk,rfl,rfl,rfl,by rw[Fe,lenV];exact hl,by simpa using rv⟩) (fun b u z=>by have z':(none:Option HO)=some u:=z;cases z') (fun b z=>absurd rfl z) fun z=>absurd rfl z
 | none =>
  refine core (fun b=>if b=a then some (.frz { cls:=.type "list",data:=.seq vs.toArray } (.lst (ns.map V.int)))else none) (fun b=>?_) (.inl (.inr ⟨{ cls:=.type "list",data:=.seq vs.toArray },Fp rfl⟩)) (fun b u z=>?_) (fun b z=>?_) fun _=>hk
  ·by_cases hb:b=a
   ·exact .inr ⟨_,_,Fp hb⟩
   ·exact .inl (Fh hb)
  ·by_cases hb:b=a
   ·have z':=(Fp hb).symm.trans z;cases z';subst hb;exact⟨ha,by rw[EW];exact hl,vs,_,rv,ha⟩
   ·have z':=(Fh hb).symm.trans z;cases z'
  ·by_cases hb:b=a
   ·exact hb
   ·exact absurd (Fh hb) z
end
section
abbrev KOf{K:PySem.W.Frag}{h:Heap}(_:K.In h):PySem.W.Frag:=K
theorem oY{l:PySem.W.OpenLaw}{n k:Nat}{q:Program}{loose:List Str}{XP:(Str->Option Value)->Heap->Prop}{YP:World->Heap->Prop}{d:DefRec}{K:Params->PySem.W.Frag}{CX:World->CXT}{sp:World->Sp}{x:Str}
  (hn:l.most=some n) (hn2:n≤sizeLine) (hdf:d.params.defaults=[]) (hr:cB k callerA)
  (hY:∀(w:World) (h:Heap),YP w h->(K w.params).In h)
  (F:∀(w:World) (mg:Str->Option Value) (fa:Addr) (h:Heap),(K w.params).In h->h.Ns mainGlobals mg->mg d.name=some (.ref fa) ->
   ∃fd:FuncData,(∀(s:Shared) (u:Value),BindsTo s fd ⟨[u],[]⟩ [(x,u)]) /\
    ∀base:Heap,(K w.params).In base->base.Ns mainGlobals mg->iU l.prog w (K w.params) mg base (CX w) k fa fd [x] (sp w))
  (hsp:∀(w:World) (H:Hp) (a:Addr) (ns:List Int),ns.length≤n->pN H->SqL (K w.params) H a (ns.map V.int)->sp w [.ref a] H (fun v _=>v=.bl true) fun _ _ _=>False)
  (hCX:∀(w:World) (H:Hp) (s:Shared) (e:Value) (s':Shared),CX w [] H s (fun _ _ _=>False) e s'->False) :
  PySem.W.WalkO q loose XP YP l.row.toRowW d [] (fun f vs=>PySem.call f vs):=by
 refine Att.k8 hn hdf fun w s₀ s₁ mg mb fa o pm cd doc a vs ns G Y ho hd hcd hmg hobj hints hlen hg=>?_;have KX:=hY w _ Y;obtain⟨fd,hb,hF⟩:=F w mg fa _ KX G.T.g hmg;exact uw KX G.T.g G.T.b G.T.builtins G.T.nolimit hg hobj hints (FI hlen hn2) hr hF hb (fun H hO hS=>hsp w H a ns hlen hO hS) fun H e s'=>hCX w H s₁ e s'
theorem tR{l:PySem.W.OpenLaw}{n k:Nat}{q:Program}{loose:List Str}{XP:(Str->Option Value)->Heap->Prop}{YP:World->Heap->Prop}{d:DefRec}{K:Params->PySem.W.Frag}{CX:CXT}{sp:PySem.W.Frag->Sp}{x:Str}
  (hn:l.most=some n) (hn2:n≤sizeLine) (hdf:d.params.defaults=[]) (hr:cB k callerA)
  (hY:∀(w:World) (h:Heap),YP w h->(K w.params).In h)
  (F:∀(w:World) (mg:Str->Option Value) (fa:Addr) (h:Heap),(K w.params).In h->h.Ns mainGlobals mg->mg d.name=some (.ref fa) ->
   ∃fd:FuncData,(∀(s:Shared) (u:Value),BindsTo s fd ⟨[u],[]⟩ [(x,u)]) /\
    ∀base:Heap,(K w.params).In base->base.Ns mainGlobals mg->iU l.prog w (K w.params) mg base CX k fa fd [x] (sp (K w.params)))
  (hsp:∀(K:PySem.W.Frag) (H:Hp) (a:Addr) (ns:List Int),ns.length≤n->pN H->SqL K H a (ns.map V.int)->sp K [.ref a] H (fun v _=>v=.bl true) fun _ _ _=>False)
  (hCX:∀(H:Hp) (s:Shared) (e:Value) (s':Shared),CX [] H s (fun _ _ _=>False) e s'->False) :
  PySem.W.WalkO q loose XP YP l.row.toRowW d [] (fun f vs=>PySem.call f vs) :=
 oY (K:=K) (CX:=fun _=>CX) (sp:=fun w=>sp (K w.params)) hn hn2 hdf hr hY F (fun w H a ns h1 h2 h3=>hsp (K w.params) H a ns h1 h2 h3) fun _ H s e s'=>hCX H s e s'
end
section
def inClass(s:Stmt)(j:Nat):Stmt:=match s with
 | .ClassDef _ _ _ body _ _ _ _ _ _ _=>body.getD j (.Pass ⟨0,0,0,0⟩)
 | _=>.Pass ⟨0,0,0,0⟩
def iq(s:Stmt):Arguments:=match s with
 | .FunctionDef _ a _ _ _ _ _ _ _ _=>a
 | _=>{ posonlyargs:=[],args:=[],vararg:=none,kwonlyargs:=[],kw_defaults:=[],kwarg:=none,defaults:=[] }
def fo(s:Stmt):List Stmt:=match s with
 | .FunctionDef _ _ b _ _ _ _ _ _ _=>b
 | _=>[]
def aj(s:Stmt):Scope:=match s with
 | .FunctionDef _ _ _ _ _ _ sc _ _ _=>sc
 | _=>{ kind:=.function,names:=[],isGenerator:=false,isCoroutine:=false }
abbrev CX0:CXT:=fun _ _ _ _ _ _=>False
abbrev E0:XK:=fun _ _ _=>False
theorem rH{X:Cx}:Passes CX0 X E0:=fun _ _ _ _ _ _ _ h=>h.elim
structure Fun (K:PySem.W.Frag) (x qual:Str) (st:Stmt) (f:Addr) (fd:FuncData):Prop where
 ex:∃(oc:Value) (od:Option Addr) (kV doc pm:Value) (an:Option Addr) (cdv ct:Value) (osl:Array (Option Value)),
  fd=PySem.W.fnOf x qual (iq st) (fo st) (aj st) .none kV doc pm an cdv ct/\K.lookup f=some ⟨oc,od,.func fd,osl⟩/\PySem.W.codeIn K cdv qual=true
 kp:PySem.W.keepIn K (.ref f)=true
section
variable {P:Program}{w:World}{K:PySem.W.Frag}{mg:Str->Option Value}{base:Heap}
theorem Fun.ok{x qual:Str}{st:Stmt}{f:Addr}{fd:FuncData}{N ps:List Str}{k:Nat}{sp:Sp}(F:Fun K x qual st f fd)(S:aH N ps (aj st))(len:∀vs H Q E,sp vs H Q E->vs.length=ps.length)
  (hbody:∀(cdv:Value) (A:Around) (outer:List Env) (s:Shared) (H:Hp) (vs:List V) (Q:VK) (E:XK),cB k (A.deeper (envOfC qual (aj st) s.heap.objs.size f cdv))->sp vs H Q E ->
   ∃t,PSs (nq CX0 P w K mg base N qual (aj st) f cdv A outer s H E).nox (fo st) t/\t { nx:=fun _ H'=>Q .non H',rt:=Q } (start N vs) H):iU P w K mg base CX0 (k+1) f fd ps sp:=by
 obtain⟨oc,od,kV,doc,pm,an,cdv,ct,osl,rfl,lk,hcd⟩:=F.ex;refine AZ lk hcd S len fun A outer s H vs Q E hr hsp=>?_;obtain⟨t,h,q⟩:=hbody cdv A outer s H vs Q E hr hsp;exact⟨t,h.nox,q⟩
theorem Fun.binds{x qual:Str}{st:Stmt}{f:Addr}{fd:FuncData}{ps:List Str}(F:Fun K x qual st f fd)
  (h:∀(kV doc pm:Value) (an:Option Addr) (cdv ct:Value) (us:List Value),us.length=ps.length->bindArgs (PySem.W.fnOf x qual (iq st) (fo st) (aj st) .none kV doc pm an cdv ct) ⟨us,[]⟩=pure (ps.zip us)):Binds K fd ps []:=by
 obtain⟨oc,od,kV,doc,pm,an,cdv,ct,osl,rfl,lk,hcd⟩:=F.ex;exact .all (h kV doc pm an cdv ct)
theorem Aj{x qual:Str}{st:Stmt}{f:Addr}{oc:Value}{od an:Option Addr}{osl:Array (Option Value)}{kV doc pm cdv ct:Value}(l:K.lookup f=some ⟨oc,od,.func (PySem.W.fnOf x qual (iq st) (fo st) (aj st) .none kV doc pm an cdv ct),osl⟩)
  (c:PySem.W.codeIn K cdv qual=true) (k:PySem.W.keepIn K (.ref f)=true):Fun K x qual st f (PySem.W.fnOf x qual (iq st) (fo st) (aj st) .none kV doc pm an cdv ct):=⟨⟨oc,od,kV,doc,pm,an,cdv,ct,osl,rfl,l,c⟩,k⟩
end
theorem a5{n:Nat}(h:n≤1000):n<sizeLine:=Nat.lt_of_le_of_lt h (by decide)
section
variable {X:Cx}
theorem pv(i:Nat){x:Str}{pos:Pos}(hN:X.N[i]?=some x:=by rfl)(hv:Vis X.env.scope x:=by first | exact Or.inl rfl | exact Or.inr (Or.inl rfl) | exact Or.inr (Or.inr rfl))(hd:(x==("__debug__":Str))=false:=by decide)
  (hcd:(x==("__classdict__":Str))=false:=by decide):PE X (.Name x pos) (A4 i):=zB hN hv hd hcd
end
theorem kx{A B:Prop}(h:B):if false=true then A else B:=by
 rw[Fh Gv];exact h
theorem ko{A B:Prop}(h:A):if true=true then A else B:=by
 rw[Fp rfl];exact h
def EV(H H':Hp):Prop:=∀b o,H b=some o->H' b=some o
end
end L2
set_option maxHeartbeats 4000000
namespace U
open L2
section
inductive PV where
 | non | bl (b:Bool) | int (i:Int) | str (x:Str) | ref (a:Addr) | tup (l:List PV) | fls (l:List PV) | oth (v:V)
def FzL(K:PySem.W.Frag)(H:Hp)(a:Addr)(xs:List V):Prop :=
 (∃o,H a=some (.frz o (.lst xs))) ∨
  ∃(o:Obj) (its:Array Value) (n:Nat),K.lookup a=some o/\o.cls=.type "list"/\o.dict=none/\o.data=.seq its n/\its.size≤sizeLine/\Vals xs its.toList
theorem FzL.sq{K:PySem.W.Frag}{H:Hp}{a:Addr}{xs:List V}(h:FzL K H a xs):SqL K H a xs:=by
 rcases h with h | h
 ·exact .inl (.inr h)
 ·exact .inr h
structure Kp (H H1:Hp):Prop where
 t:∀a us,H a=some (.tup us)->H1 a=some (.tup us)
 z:∀a o u,H a=some (.frz o u)->H1 a=some (.frz o u)
theorem Kp.sqT{K:PySem.W.Frag}{H H1:Hp}(k:Kp H H1){a:Addr}{us:List V}(h:SqT K H a us):SqT K H1 a us:=by
 rcases h with(h |⟨o,h⟩) | h
 ·exact .inl (.inl (k.t _ _ h))
 ·exact .inl (.inr ⟨o,k.z _ _ _ h⟩)
 ·exact .inr h
theorem Kp.fzL{K:PySem.W.Frag}{H H1:Hp}(k:Kp H H1){a:Addr}{us:List V}(h:FzL K H a us):FzL K H1 a us:=by
 rcases h with⟨o,h⟩ | h
 ·exact .inl ⟨o,k.z _ _ _ h⟩
 ·exact .inr h
section
variable (K:PySem.W.Frag)
mutual
def RP(H:Hp):PV->V->Prop
 | .non,v=>v=.non
 | .bl b,v=>v=.bl b
 | .int i,v=>v=.int i
 | .str x,v=>v=.str x
 | .ref a,v=>v=.ref a
 | .oth w,v=>v=w
 | .tup l,v=>∃a us,v=.ref a/\SqT K H a us/\RPs H l us
 | .fls l,v=>∃a us,v=.ref a/\FzL K H a us/\RPs H l us
def RPs(H:Hp):List PV->List V->Prop
 | [],us=>us=[]
 | x::l,us=>∃u r,us=u::r/\RP H x u/\RPs H l r
end
mutual
theorem RP.kp{H H1:Hp}(k:Kp H H1):∀{x:PV} {v:V},RP K H x v->RP K H1 x v
 | .non,_,h=>h
 | .bl _,_,h=>h
 | .int _,_,h=>h
 | .str _,_,h=>h
 | .ref _,_,h=>h
 | .oth _,_,h=>h
 | .tup l,v,h=>by
  simp only[RP]at h ⊢;obtain⟨a,us,e,q,r⟩:=h;exact⟨a,us,e,k.sqT q,RPs.kp k r⟩
 | .fls l,v,h=>by
  simp only[RP]at h ⊢;obtain⟨a,us,e,q,r⟩:=h;exact⟨a,us,e,k.fzL q,RPs.kp k r⟩
theorem RPs.kp{H H1:Hp}(k:Kp H H1):∀{l:List PV} {us:List V},RPs K H l us->RPs K H1 l us
 | [],_,h=>h
 | x::l,us,h=>by
  simp only[RPs]at h ⊢;obtain⟨u,r,e,a,b⟩:=h;exact⟨u,r,e,RP.kp k a,RPs.kp k b⟩
end
theorem RPs.nil{H:Hp}:RPs K H [] []:=by simp[RPs]
theorem RPs.cons{H:Hp}{x:PV}{l:List PV}{u:V}{us:List V}(a:RP K H x u)(b:RPs K H l us):RPs K H (x::l) (u::us):=by
 simp only[RPs];exact⟨u,us,rfl,a,b⟩
theorem RPs.length{H:Hp}:∀{l:List PV} {us:List V},RPs K H l us->us.length=l.length
 | [],us,h=>by simp only[RPs]at h;subst h;rfl
 | x::l,us,h=>by
  simp only[RPs]at h;obtain⟨u,r,rfl,_,b⟩:=h;simp[RPs.length b]
theorem RPs.get{H:Hp}:∀{l:List PV} {us:List V} {i:Nat} {x:PV},RPs K H l us->l[i]?=some x->∃u,us[i]?=some u/\RP K H x u
 | [],_,_,_,_,e=>by simp at e
 | y::l,us,i,x,h,e=>by
  simp only[RPs]at h;obtain⟨u,r,rfl,a,b⟩:=h;cases i with
  | zero=>simp at e;subst e;exact⟨u,by simp,a⟩
  | succ i=>obtain⟨w,e1,e2⟩:=RPs.get (i:=i) (x:=x) b (by simpa using e);exact⟨w,by simpa using e1,e2⟩
theorem RPs.append{H:Hp}:∀{l m:List PV} {us ws:List V},RPs K H l us->RPs K H m ws->RPs K H (l++m) (us++ws)
 | [],m,us,ws,h,g=>by simp only[RPs]at h;subst h;simpa using g
 | x::l,m,us,ws,h,g=>by
  simp only[RPs]at h;obtain⟨u,r,rfl,a,b⟩:=h;exact RPs.cons K a (RPs.append b g)
theorem RPs.take{H:Hp}:∀{l:List PV} {us:List V} (n:Nat),RPs K H l us->RPs K H (l.take n) (us.take n)
 | [],us,n,h=>by simp only[RPs]at h;subst h;simp[RPs]
 | x::l,us,0,h=>by simp[RPs]
 | x::l,us,n+1,h=>by
  simp only[RPs]at h;obtain⟨u,r,rfl,a,b⟩:=h;exact RPs.cons K a (RPs.take n b)
theorem RPs.drop{H:Hp}:∀{l:List PV} {us:List V} (n:Nat),RPs K H l us->RPs K H (l.drop n) (us.drop n)
 | [],us,n,h=>by simp only[RPs]at h;subst h;simp[RPs]
 | x::l,us,0,h=>h
 | x::l,us,n+1,h=>by
  simp only[RPs]at h;obtain⟨u,r,rfl,a,b⟩:=h;exact RPs.drop n b
theorem RPs.dropLast{H:Hp}{l:List PV}{us:List V}(h:RPs K H l us):RPs K H l.dropLast us.dropLast:=by
 rw[List.dropLast_eq_take,List.dropLast_eq_take,RPs.length K h];exact RPs.take K _ h
theorem RPs.ints{H:Hp}:∀(ns:List Int),RPs K H (ns.map PV.int) (ns.map V.int)
 | []=>by simp[RPs]
 | n::ns=>RPs.cons K (by simp[RP]) (RPs.ints ns)
end
def DB(a C:Addr)(h:Heap):Prop:=∃o,h.get? a=some o/\o.cls=.ref C
inductive PO where
 | exc (C:Addr)
 | lst (l:List PV)
 | ins (C dx:Addr) (fs:List (Str×PV))
 | dK (kvs:List (Key×PV))
 | dT (kvs:List (List Key×PV))
abbrev PHp:=Addr->Option PO
def put(H:PHp)(a:Addr)(o:PO):PHp:=fun b=>if b=a then some o else H b
theorem ai{H:PHp}{a:Addr}{o:PO}:put H a o a=some o:=by unfold put;rw[Fp rfl]
theorem ao{H:PHp}{a b:Addr}{o:PO}(h:b≠a):put H a o b=H b:=by unfold put;rw[Fh h]
theorem aI{H:PHp}{a:Addr}{o u:PO}:put (put H a o) a u=put H a u:=by
 funext b;unfold put;split<;>rfl
theorem aC{H:PHp}{a b:Addr}{o:PO}(h:H a=some o)(h':H b=none):a≠b:=by
 intro e;subst e;rw[h]at h';cases h'
abbrev eF(K:PySem.W.Frag)(H:Hp){κ:Type}:List (κ×PV)->List (κ×V)->Prop:=Paired fun p q=>p.1=q.1/\RP K H p.2 q.2
def OAt(K:PySem.W.Frag)(H:Hp)(a:Addr):PO->Prop
 | .exc C=>H a=some (.ext (DB a C))
 | .lst l=>∃us,H a=some (.lst us)/\RPs K H l us
 | .ins C dx fs=>∃gs,H a=some (.ins C dx gs)/\eF K H fs gs
 | .dK kvs=>∃ws,H a=some (.dK ws)/\eF K H kvs ws
 | .dT kvs=>∃ws,H a=some (.dT ws)/\eF K H kvs ws
abbrev HR(K:PySem.W.Frag)(H':PHp)(H:Hp):Prop:=∀a o,H' a=some o->OAt K H a o
abbrev St':=List (Option PV)
abbrev Bs:=PHp×Hp
def Ev(H':PHp)(H:Hp)(H1':PHp)(H1:Hp):Prop:=∀a o,H a=some o->H' a=none->H1 a=some o/\H1' a=none
structure SR (K:PySem.W.Frag) (B:Bs) (σ':St') (H':PHp) (σ:L2.St) (H:Hp):Prop where
 len:σ'.length=σ.length
 loc:∀(i:Nat) (v':PV),σ'[i]?=some (some v')->∃v,σ[i]?=some (some v)/\RP K H v' v
 hp:HR K H' H
 ev:Ev B.1 B.2 H' H
theorem Ev.refl(H':PHp)(H:Hp):Ev H' H H' H:=fun _ _ h h'=>⟨h,h'⟩
theorem Ev.trans{H':PHp}{H:Hp}{H1':PHp}{H1:Hp}{H2':PHp}{H2:Hp}(a:Ev H' H H1' H1)(b:Ev H1' H1 H2' H2):Ev H' H H2' H2:=fun c o h h'=>by
 obtain⟨p,q⟩:=a c o h h';exact b c o p q
section
variable {K:PySem.W.Frag}
theorem eF.kp{κ:Type}{H H1:Hp}(k:Kp H H1){fs:List (κ×PV)}{gs:List (κ×V)}(h:eF K H fs gs):eF K H1 fs gs:=Paired.mapP h fun _ _ ⟨a,b⟩=>⟨a,RP.kp K k b⟩
theorem OAt.some{H:Hp}{a:Addr}:∀{o:PO},OAt K H a o->∃u,H a=Option.some u/\(∀us,u≠.tup us)/\(∀o us,u≠.frz o us)/\(∀x,u≠.own x)
 | .exc C,e=>⟨_,e,(fun _=>by nofun),(fun _ _=>by nofun),(fun _=>by nofun)⟩
 | .lst l,⟨us,e,_⟩=>⟨_,e,(fun _=>by nofun),(fun _ _=>by nofun),(fun _=>by nofun)⟩
 | .ins C dx fs,⟨us,e,_⟩=>⟨_,e,(fun _=>by nofun),(fun _ _=>by nofun),(fun _=>by nofun)⟩
 | .dK l,⟨us,e,_⟩=>⟨_,e,(fun _=>by nofun),(fun _ _=>by nofun),(fun _=>by nofun)⟩
 | .dT l,⟨us,e,_⟩=>⟨_,e,(fun _=>by nofun),(fun _ _=>by nofun),(fun _=>by nofun)⟩
theorem OAt.keep{H H1:Hp}{a:Addr}(k:Kp H H1)(e:H1 a=H a):∀{o:PO},OAt K H a o->OAt K H1 a o
 | .exc C,h=>e.trans h
 | .lst l,⟨us,h,r⟩=>⟨us,e.trans h,RPs.kp K k r⟩
 | .ins C dx fs,⟨us,h,r⟩=>⟨us,e.trans h,eF.kp k r⟩
 | .dK l,⟨us,h,r⟩=>⟨us,e.trans h,eF.kp k r⟩
 | .dT l,⟨us,h,r⟩=>⟨us,e.trans h,eF.kp k r⟩
theorem HR.tup{H':PHp}{H:Hp}(h:HR K H' H){a:Addr}{us:List V}(e:H a=some (.tup us)):H' a=none:=by
 cases q:H' a with
 | none=>rfl
 | some o=>obtain⟨u,e1,n,_⟩:=(h a o q).some;rw[e]at e1;exact absurd (FH e1).symm (n us)
theorem HR.frz{H':PHp}{H:Hp}(h:HR K H' H){a:Addr}{o:Obj}{u:HO}(e:H a=some (.frz o u)):H' a=none:=by
 cases q:H' a with
 | none=>rfl
 | some o'=>obtain⟨u',e1,_,n,_⟩:=(h a o' q).some;rw[e]at e1;exact absurd (FH e1).symm (n o u)
theorem HR.free{H':PHp}{H:Hp}(h:HR K H' H){a:Addr}(e:H a=none):H' a=none:=by
 cases q:H' a with
 | none=>rfl
 | some o=>obtain⟨u,e1,_⟩:=(h a o q).some;rw[e]at e1;cases e1
theorem Ev.kp{H':PHp}{H:Hp}{H1':PHp}{H1:Hp}(e:Ev H' H H1' H1)(h:HR K H' H):Kp H H1 :=
 ⟨fun a us q=>(e a _ q (h.tup q)).1,fun a o u q=>(e a _ q (h.frz q)).1⟩
theorem f9{H:Hp}{p:Addr}{o:HO}(e:H p=none):Kp H (upd H p o) :=
 ⟨fun a us q=>by rw[aZ (bf q e)];exact q,fun a o u q=>by rw[aZ (bf q e)];exact q⟩
theorem kG{H:Hp}{p:Addr}{o u:HO}(e:H p=some u)(n1:∀us,u≠.tup us)(n2:∀o us,u≠.frz o us):Kp H (upd H p o) :=
 ⟨fun a us q=>by rw[aZ (t7 q e fun z=>n1 us z.symm)];exact q,fun a o' u' q=>by rw[aZ (t7 q e fun z=>n2 o' u' z.symm)];exact q⟩
theorem SR.kp{B:Bs}{σ':St'}{H' H1':PHp}{σ:L2.St}{H H1:Hp}(s:SR K B σ' H' σ H)(e:Ev H' H H1' H1)(h:HR K H1' H1):SR K B σ' H1' σ H1 :=
 ⟨s.len,fun i v' q=>by obtain⟨v,a,b⟩:=s.loc i v' q;exact⟨v,a,RP.kp K (e.kp s.hp) b⟩,h,s.ev.trans e⟩
theorem HR.hid{H':PHp}{H:Hp}{p:Addr}{o:HO}(h:HR K H' H)(e:H p=none):HR K H' (upd H p o):=fun a u q=>by
 have na:a≠p:=by rintro rfl;rw[h.free e]at q;cases q
 exact(h a u q).keep (f9 e) (aZ na)
theorem Ev.hid{H':PHp}{H:Hp}{p:Addr}{o:HO}(e:H p=none):Ev H' H H' (upd H p o):=fun a u q n=>⟨by rw[aZ (bf q e)];exact q,n⟩
theorem HR.new{H':PHp}{H:Hp}{p:Addr}{o:HO}{o':PO}(h:HR K H' H)(e:H p=none)(new:OAt K (upd H p o) p o'):HR K (put H' p o') (upd H p o):=fun a u q=>by
 by_cases hp:a=p
 ·subst hp;rw[ai]at q;cases q;exact new
 ·rw[ao hp]at q;exact(h a u q).keep (f9 e) (aZ hp)
theorem Ev.new{H':PHp}{H:Hp}{p:Addr}{o:HO}{o':PO}(e:H p=none):Ev H' H (put H' p o') (upd H p o):=fun a u q n=>by
 have na:=bf q e;exact⟨by rw[aZ na];exact q,by rw[ao na];exact n⟩
theorem HR.wr{H':PHp}{H:Hp}{p:Addr}{o:HO}{o' u':PO}(h:HR K H' H)(e:H' p=some u')(new:OAt K (upd H p o) p o'):HR K (put H' p o') (upd H p o):=fun a u q=>by
 obtain⟨v,e1,n1,n2,_⟩:=(h p u' e).some;by_cases hp:a=p
 ·subst hp;rw[ai]at q;cases q;exact new
 ·rw[ao hp]at q;exact(h a u q).keep (kG e1 n1 n2) (aZ hp)
theorem HR.kpw{H':PHp}{H:Hp}{p:Addr}{o:HO}{u':PO}(h:HR K H' H)(e:H' p=some u'):Kp H (upd H p o):=by
 obtain⟨v,e1,n1,n2,_⟩:=(h p u' e).some;exact kG e1 n1 n2
theorem Ev.wr{H':PHp}{H:Hp}{p:Addr}{o:HO}{o' u':PO}(e:H' p=some u'):Ev H' H (put H' p o') (upd H p o):=fun a u q n=>by
 have na:a≠p:=by rintro rfl;rw[e]at n;cases n
 exact⟨by rw[aZ na];exact q,by rw[ao na];exact n⟩
def Sub(A B:PHp):Prop:=∀a o,A a=some o->B a=some o
theorem Sub.refl(A:PHp):Sub A A:=fun _ _ h=>h
theorem Sub.trans{A B C:PHp}(a:Sub A B)(b:Sub B C):Sub A C:=fun c o h=>b c o (a c o h)
theorem Sub.put{A B:PHp}{p:Addr}{o:PO}(a:Sub A B)(n:A p=none):Sub A (put B p o):=fun c u h=>by rw[ao (aC h n)];exact a c u h
theorem Sub.free{A B:PHp}(a:Sub A B){p:Addr}(n:B p=none):A p=none:=by
 cases q:A p with
 | none=>rfl
 | some o=>rw[a p o q]at n;cases n
theorem HR.sub{A B:PHp}{H:Hp}(h:HR K B H)(s:Sub A B):HR K A H:=fun a o e=>h a o (s a o e)
theorem Ev.sub{H':PHp}{H:Hp}{A B:PHp}{H1:Hp}(e:Ev H' H B H1)(s:Sub A B):Ev H' H A H1:=fun a o q n=>by
 obtain⟨x,y⟩:=e a o q n;exact⟨x,s.free y⟩
end
end
section
variable {B:Bs}
abbrev VK':=PV->PHp->Prop
abbrev TE':=St'->PHp->VK'->Prop
abbrev TT':=St'->PHp->(Bool->PHp->Prop)->Prop
abbrev TA':=St'->PHp->(List PV->PHp->Prop)->Prop
abbrev XK':=Value->Option Addr->PHp->Prop
structure fw where
 nx:St'->PHp->Prop
 rt:VK'
 bk:St'->PHp->Prop:=fun _ _=>False
 ct:St'->PHp->Prop:=fun _ _=>False
abbrev TS':=fw->St'->PHp->Prop
abbrev TG':=PV->St'->PHp->(St'->PHp->Prop)->Prop
abbrev hV:=List PV->St'->PHp->(St'->PHp->Prop)->Prop
structure It' where
 items:List PV
 ok:PHp->Prop
abbrev TI':=St'->PHp->(It'->PHp->Prop)->Prop
section
variable (K:PySem.W.Frag)(B:Bs)
def low(t:TE'):TE:=fun σ H Q=>∃σ' H' Q',SR K B σ' H' σ H/\t σ' H' Q'/\∀v' H1' v H1,Q' v' H1'->RP K H1 v' v->SR K B σ' H1' σ H1->Ev H' H H1' H1->Q v H1
def jY(t:TT'):TT:=fun σ H Q=>∃σ' H' Q',SR K B σ' H' σ H/\t σ' H' Q'/\∀b H1' H1,Q' b H1'->SR K B σ' H1' σ H1->Ev H' H H1' H1->Q b H1
def uv(t:TA'):TA:=fun σ H Q=>∃σ' H' Q',SR K B σ' H' σ H/\t σ' H' Q'/\∀vs' H1' vs H1,Q' vs' H1'->RPs K H1 vs' vs->SR K B σ' H1' σ H1->Ev H' H H1' H1->Q vs H1
structure DR (D':fw) (D:Ends) (H':PHp) (H:Hp):Prop where
 nx:∀σ1' H1' σ1 H1,D'.nx σ1' H1'->SR K B σ1' H1' σ1 H1->Ev H' H H1' H1->D.nx σ1 H1
 rt:∀v' H1' v H1,D'.rt v' H1'->RP K H1 v' v->HR K H1' H1->Ev H' H H1' H1->D.rt v H1
 bk:∀σ1' H1' σ1 H1,D'.bk σ1' H1'->SR K B σ1' H1' σ1 H1->Ev H' H H1' H1->D.bk σ1 H1
 ct:∀σ1' H1' σ1 H1,D'.ct σ1' H1'->SR K B σ1' H1' σ1 H1->Ev H' H H1' H1->D.ct σ1 H1
theorem DR.ev{D':fw}{D:Ends}{H':PHp}{H:Hp}{H1':PHp}{H1:Hp}(d:DR K B D' D H' H)(e:Ev H' H H1' H1):DR K B D' D H1' H1 :=
 ⟨fun a b c f p q r=>d.nx a b c f p q (e.trans r),fun a b c f p q r s=>d.rt a b c f p q r (e.trans s),fun a b c f p q r=>d.bk a b c f p q (e.trans r),fun a b c f p q r=>d.ct a b c f p q (e.trans r)⟩
def zr(t:TS'):TS:=fun D σ H=>∃σ' H' D',SR K B σ' H' σ H/\t D' σ' H'/\DR K B D' D H' H
def lowG(t:TG'):TG:=fun v σ H Q=>∃v' σ' H' Q',RP K H v' v/\SR K B σ' H' σ H/\t v' σ' H' Q'/\∀σ1' H1' σ1 H1,Q' σ1' H1'->SR K B σ1' H1' σ1 H1->Ev H' H H1' H1->Q σ1 H1
def Bq(t:hV):TGs:=fun vs σ H Q=>∃vs' σ' H' Q',RPs K H vs' vs/\SR K B σ' H' σ H/\t vs' σ' H' Q'/\∀σ1' H1' σ1 H1,Q' σ1' H1'->SR K B σ1' H1' σ1 H1->Ev H' H H1' H1->Q σ1 H1
structure Walks (H1:Hp) (J:It) (J':It'):Prop where
 go:∀H' H i,Kp H1 H->HR K H' H->J'.ok H'->i<J'.items.length->J.go i H
 yld:∀H' H i x H2,Kp H1 H->HR K H' H->J'.ok H'->J.yld i H x H2->H2=H/\∀x',J'.items[i]?=some x'->RP K H x' x
 stop:∀H' H i,Kp H1 H->HR K H' H->J'.ok H'->J'.items.length≤i->J.stop i H
def Bo(t:TI'):TI:=fun σ H R=>∃σ' H' R',SR K B σ' H' σ H/\t σ' H' R'/\∀J' H1' J H1,R' J' H1'->Walks K H1 J J'->SR K B σ' H1' σ H1->Ev H' H H1' H1->R J H1
end
section
variable {X:Cx}
theorem a8{e:Expr}{t1 t2:TE}(h:PE X e t2)(i:∀σ H Q,t1 σ H Q->t2 σ H Q):PE X e t1:=fun pins s σ H Q I q=>h pins s σ H Q I (i σ H Q q)
theorem kq{e:Expr}{t1 t2:TT}(h:PT X e t2)(i:∀σ H Q,t1 σ H Q->t2 σ H Q):PT X e t1:=fun pins s σ H Q I q=>h pins s σ H Q I (i σ H Q q)
theorem tH{e:Expr}{t1 t2:TT}(h:PW X e t2)(i:∀σ H Q,t1 σ H Q->t2 σ H Q):PW X e t1:=fun w pins s σ H Q I q=>h w pins s σ H Q I (i σ H Q q)
theorem uu{e:List Expr}{t1 t2:TA}(h:PA X e t2)(i:∀σ H Q,t1 σ H Q->t2 σ H Q):PA X e t1:=fun p pins s σ H Q I q=>h p pins s σ H Q I (i σ H Q q)
theorem dt{e:Stmt}{t1 t2:TS}(h:PS X e t2)(i:∀D σ H,t1 D σ H->t2 D σ H):PS X e t1:=fun pins s σ H D I q=>h pins s σ H D I (i D σ H q)
theorem nX{e:List Stmt}{t1 t2:TS}(h:PSs X e t2)(i:∀D σ H,t1 D σ H->t2 D σ H):PSs X e t1:=fun pins s σ H D I q=>h pins s σ H D I (i D σ H q)
theorem sf{e:Expr}{t1 t2:TG}(h:PG X e t2)(i:∀v σ H Q,t1 v σ H Q->t2 v σ H Q):PG X e t1:=fun pins s σ H v u Q I r q=>h pins s σ H v u Q I r (i v σ H Q q)
theorem oW{e:List Expr}{t1 t2:TGs}(h:PGs X e t2)(i:∀v σ H Q,t1 v σ H Q->t2 v σ H Q):PGs X e t1:=fun pins s σ H v u Q I r q=>h pins s σ H v u Q I r (i v σ H Q q)
theorem iR{tg e:Expr}{t1 t2:TI}(h:PI X tg e t2)(i:∀σ H Q,t1 σ H Q->t2 σ H Q):PI X tg e t1:=fun pins s σ H Q I q=>h pins s σ H Q I (i σ H Q q)
abbrev PE'(X:Cx)(B:Bs)(e:Expr)(t:TE'):Prop:=PE X e (low X.K B t)
abbrev PT'(X:Cx)(B:Bs)(e:Expr)(t:TT'):Prop:=PT X e (jY X.K B t)
abbrev PW'(X:Cx)(B:Bs)(e:Expr)(t:TT'):Prop:=PW X e (jY X.K B t)
abbrev PA'(X:Cx)(B:Bs)(e:List Expr)(t:TA'):Prop:=PA X e (uv X.K B t)
abbrev PS'(X:Cx)(B:Bs)(e:Stmt)(t:TS'):Prop:=PS X e (zr X.K B t)
abbrev jh(X:Cx)(B:Bs)(e:List Stmt)(t:TS'):Prop:=PSs X e (zr X.K B t)
abbrev PG'(X:Cx)(B:Bs)(e:Expr)(t:TG'):Prop:=PG X e (lowG X.K B t)
abbrev vg(X:Cx)(B:Bs)(e:List Expr)(t:hV):Prop:=PGs X e (Bq X.K B t)
abbrev PI'(X:Cx)(B:Bs)(tg e:Expr)(t:TI'):Prop:=PI X tg e (Bo X.K B t)
def k4(o:Option (Option PV))(k:PV->Prop):Prop:=match o with
 | some (some v)=>k v
 | _=>False
theorem k4.ex{o:Option (Option PV)}{k:PV->Prop}(h:k4 o k):∃v,o=some (some v)/\k v:=by
 unfold k4 at h;split at h
 ·exact⟨_,rfl,h⟩
 ·exact h.elim
def B9(i:Nat):TE':=fun σ H Q=>k4 σ[i]? fun v=>Q v H
def uC(v:PV):TE':=fun _ H Q=>Q v H
theorem qv(i:Nat){x:Str}{pos:Pos}(hN:X.N[i]?=some x:=by rfl)(hv:Vis X.env.scope x:=by first | exact Or.inl rfl | exact Or.inr (Or.inl rfl) | exact Or.inr (Or.inr rfl))(hd:(x==("__debug__":Str))=false:=by decide)
  (hcd:(x==("__classdict__":Str))=false:=by decide):PE' X B (.Name x pos) (B9 i):=a8 (pv i hN hv hd hcd) fun σ H Q y_=>by
 obtain⟨σ',H',Q',s,h,k⟩:=y_;obtain⟨v',e,q⟩:=h.ex;obtain⟨v,a,b⟩:=s.loc i v' e;exact⟨v,a,k v' H' v H q b s (Ev.refl _ _)⟩
theorem uM{K:PySem.W.Frag}{v':PV}{v:V}(r:∀H,RP K H v' v){σ:L2.St}{H:Hp}{Q:VK}(h:low K B (uC v') σ H Q):tC v σ H Q:=by
 obtain⟨σ',H',Q',s,h,k⟩:=h;exact k v' H' v H h (r H) s (Ev.refl _ _)
theorem af{i j pos}:PE' X B (.Constant (.int i) j pos) (uC (.int i)):=a8 Ak fun _ _ _ h=>uM (fun _=>by simp[RP]) h
theorem cO{i j pos}:PE' X B (.Constant (.bool i) j pos) (uC (.bl i)):=a8 tD fun _ _ _ h=>uM (fun _=>by simp[RP]) h
theorem b0{i j pos}:PE' X B (.Constant (.str i) j pos) (uC (.str i)):=a8 yD fun _ _ _ h=>uM (fun _=>by simp[RP]) h
theorem vC{x:Str}{v':PV}{v:V}{u:Value}{pos:Pos}(hg:Gl X x)(hm:X.mg x=some u)(r:RelV v u)(r':∀H,RP X.K H v' v)(hd:(x==("__debug__":Str))=false:=by decide):PE' X B (.Name x pos) (uC v') :=
 a8 (wM hg hm r hd) fun _ _ _ h=>uM r' h
abbrev R2':=PV->PV->PHp->VK'->Prop
def VR(K:PySem.W.Frag)(B:Bs)(r':R2')(r:R2):Prop:=∀(σ':St') (σ:L2.St) (H':PHp) (H:Hp) x' y' x y (Q':VK') (Q:VK),SR K B σ' H' σ H->RP K H x' x->RP K H y' y->r' x' y' H' Q' ->
 (∀v' H1' v H1,Q' v' H1'->RP K H1 v' v->SR K B σ' H1' σ H1->Ev H' H H1' H1->Q v H1)->r x y H Q
def uOp(r:R2')(ta tb:TE'):TE':=fun σ H Q=>ta σ H fun x H1=>tb σ H1 fun y H2=>r x y H2 Q
theorem j8{K:PySem.W.Frag}{r':R2'}{r:R2}{ta tb:TE'}(v:VR K B r' r){σ:L2.St}{H:Hp}{Q:VK}(h:low K B (uOp r' ta tb) σ H Q):tOp r (low K B ta) (low K B tb) σ H Q:=by
 obtain⟨σ',H',Q',s,h,k⟩:=h;refine⟨σ',H',_,s,h,fun x' H1' x H1 h1 rx s1 e1=>⟨σ',H1',_,s1,h1,fun y' H2' y H2 h2 ry s2 e2=>?_⟩⟩;exact v σ' σ H2' H2 x' y' x y Q' Q s2 (RP.kp K (e2.kp s1.hp) rx) ry h2 fun v' H3' v H3 q rv s3 e3=>k v' H3' v H3 q rv s3 (e1.trans (e2.trans e3))
variable {a b c:Expr}{ta tb tc:TE'}{pos:Pos}
theorem fv{op:Operator}{r':R2'}{r:R2}(ho:OpR X (binaryOp op) r)(v:VR X.K B r' r)(ha:PE' X B a ta)(hb:PE' X B b tb):PE' X B (.BinOp a op b pos) (uOp r' ta tb):=a8 (By ho ha hb) fun _ _ _ h=>j8 v h
theorem bU{op:CmpOp}{r':R2'}{r:R2}(ho:OpR X (compareOp op) r)(v:VR X.K B r' r)(ha:PE' X B a ta)(hb:PE' X B b tb)(hm:behindInMarks op b=false):PE' X B (.Compare a [op] [b] pos) (uOp r' ta tb) :=
 a8 (uF ho ha hb hm) fun _ _ _ h=>j8 v h
def cif(b:Bool)(A B:Prop):Prop:=match b with
 | true=>A
 | false=>B
theorem Ck{A B:Prop}:cif true A B=A:=rfl
theorem AA{A B:Prop}:cif false A B=B:=rfl
theorem aS{b:Bool}{A B:Prop}(h1:b=true->A)(h2:b=false->B):cif b A B:=by
 cases b
 ·exact h2 rfl
 ·exact h1 rfl
theorem aB{b:Bool}{A B:Prop}(h:b=true)(h1:A):cif b A B:=by subst h;exact h1
theorem ay{b:Bool}{A B:Prop}(h:b=false)(h1:B):cif b A B:=by subst h;exact h1
theorem bC{c:Prop}[Decidable c]{A B:Prop}(h1:c->A)(h2:¬c->B):cif (decide c) A B:=by
 by_cases h:c
 ·exact aB (FO h) (h1 h)
 ·exact ay (F7 h) (h2 h)
def eP(x:PV)(k:Bool->Prop):Prop:=match x with
 | .bl b=>k b
 | _=>False
theorem eP.ex{x:PV}{k:Bool->Prop}(h:eP x k):∃v,x=.bl v/\k v:=by
 unfold eP at h;split at h
 ·exact⟨_,rfl,h⟩
 ·exact h.elim
def cz(x:PV)(k:Int->Prop):Prop:=match x with
 | .int i=>k i
 | _=>False
theorem cz.ex{x:PV}{k:Int->Prop}(h:cz x k):∃v,x=.int v/\k v:=by
 unfold cz at h;split at h
 ·exact⟨_,rfl,h⟩
 ·exact h.elim
def lK(t:TE'):TT':=fun σ H Q=>t σ H fun x H1=>eP x fun b=>Q b H1
theorem iI{K:PySem.W.Frag}{t:TE'}{σ:L2.St}{H:Hp}{Q:Bool->Hp->Prop}(h:jY K B (lK t) σ H Q):xo (low K B t) σ H Q:=by
 obtain⟨σ',H',Q',s,h,k⟩:=h;refine⟨σ',H',_,s,h,fun x' H1' x H1 h1 rx s1 e1=>?_⟩;obtain⟨b,rfl,q⟩:=h1.ex;simp only[RP]at rx;exact⟨b,rx,k b H1' H1 q s1 e1⟩
theorem cc{e:Expr}{t:TE'}(h:PE' X B e t)(he:∀whole,isTrue e X.env whole=(do let v←whole;standAt e.pos;holding [v] (truthy v)):=by intro _;rfl):PT' X B e (lK t):=kq (zc h he) fun _ _ _ h=>iI h
theorem aq{op:CmpOp}{r':R2'}{r:R2}(ho:OpR X (compareOp op) r)(v:VR X.K B r' r)(ha:PE' X B a ta)(hb:PE' X B b tb)(hm:behindInMarks op b=false):PT' X B (.Compare a [op] [b] pos) (lK (uOp r' ta tb)) :=
 kq (vq ho ha hb hm) fun _ _ _ h=>by
  obtain⟨σ',H',Q',s,h,k⟩:=iI h;exact j8 v ⟨σ',H',Q',s,h,k⟩
def xW(r r':R2')(ta tb tc:TE'):TE':=fun σ H Q=>ta σ H fun x H1=>tb σ H1 fun y H2=>r x y H2 fun z H3=>eP z fun k=>cif k (tc σ H3 fun w' H4=>r' y w' H4 Q) (Q (.bl false) H3)
def uI(C:Int->Int->Prop)(g:Int->Int->PV):R2':=fun x y H Q=>cz x fun i=>cz y fun j=>C i j/\Q (g i j) H
def uI0(g:Int->Int->PV):R2':=fun x y H Q=>cz x fun i=>cz y fun j=>Q (g i j) H
theorem qr{K:PySem.W.Frag}{C:Int->Int->Prop}{g':Int->Int->PV}{g:Int->Int->V}(r:∀i j H,RP K H (g' i j) (g i j)):VR K B (uI C g') (rI C g):=by
 intro σ' σ H' H x' y' x y Q' Q s rx ry h k;obtain⟨i,rfl,h1⟩:=cz.ex h;obtain⟨j,rfl,hc,h⟩:=cz.ex h1;simp only[RP]at rx ry;exact⟨i,j,rx,ry,hc,k _ H' _ H h (r i j H) s (Ev.refl _ _)⟩
theorem jq{K:PySem.W.Frag}{g':Int->Int->PV}{g:Int->Int->V}(r:∀i j H,RP K H (g' i j) (g i j)):VR K B (uI0 g') (rI0 g):=by
 intro σ' σ H' H x' y' x y Q' Q s rx ry h k;obtain⟨i,rfl,h1⟩:=cz.ex h;obtain⟨j,rfl,h⟩:=cz.ex h1;simp only[RP]at rx ry;exact⟨i,j,rx,ry,k _ H' _ H h (r i j H) s (Ev.refl _ _)⟩
abbrev DK:R2':=uI0 fun i j=>.int (i+j)
abbrev EA:R2':=uI0 fun i j=>.int (i - j)
abbrev uLt:R2':=uI0 fun i j=>.bl (decide (i<j))
abbrev uLe:R2':=uI0 fun i j=>.bl (decide (i≤j))
abbrev uGt:R2':=uI0 fun i j=>.bl (decide (j<i))
abbrev uGe:R2':=uI0 fun i j=>.bl (decide (j≤i))
def Fit(i:Int):Prop:=i.natAbs.log2<9000
def nU(i j:Int):Prop:=ym i j∨(Fit i/\Fit j)
def oU(i j:Int):Prop:=j≠0/\Fit j
theorem nU.ok{i j:Int}(h:nU i j):IntMulOk i j:=by
 rcases h with h |⟨h1,h2⟩
 ·exact h.ok
 ·unfold IntMulOk;have e:∀x:Int,Fit x->Builtin.Int.intBits x≤9000:=fun x hx=>by
   unfold Builtin.Int.intBits Fit at *;split<;>omega
  have e1:=e i h1;have e2:=e j h2;have e3:Builtin.Int.intTooBig (Builtin.Int.intBits i+Builtin.Int.intBits j)=false:=by
   unfold Builtin.Int.intTooBig;refine F7 ?_;show ¬(bitsLine:Int)<_;have hb:(18000:Nat)≤bitsLine:=by decide +kernel
   omega
  rw[e3];simp
abbrev Dz:R2':=uI nU fun i j=>.int (i*j)
abbrev A7:R2':=uI oU fun i j=>.int (i.fdiv j)
theorem uV{X:Cx}:OpR X (binaryOp .Mult) (rI nU fun i j=>.int (i*j)):=opI fun _ _ _ _ _ _ _ hc q=>mul_int q hc.ok
theorem sL{X:Cx}:OpR X (binaryOp .FloorDiv) (rI oU fun i j=>.int (i.fdiv j)):=opI fun _ _ _ _ _ _ _ hc q=>floordiv_int hc.1 q (.inl (PyProof.noPylong_of_log2 hc.2))
abbrev Dc:R2':=uI (fun _ j=>j≠0) fun i j=>.int (i.fmod j)
abbrev DC:R2':=uI qx fun i j=>.int (i ^ j.toNat)
theorem cx(ha:PE' X B a ta)(hb:PE' X B b tb):PE' X B (.BinOp a .Add b pos) (uOp DK ta tb):=fv zv (jq fun _ _ _=>by simp[RP]) ha hb
theorem eC(ha:PE' X B a ta)(hb:PE' X B b tb):PE' X B (.BinOp a .Sub b pos) (uOp EA ta tb):=fv zS (jq fun _ _ _=>by simp[RP]) ha hb
theorem gI(ha:PE' X B a ta)(hb:PE' X B b tb):PE' X B (.BinOp a .Mult b pos) (uOp Dz ta tb):=fv uV (qr fun _ _ _=>by simp[RP]) ha hb
theorem bz(ha:PE' X B a ta)(hb:PE' X B b tb):PE' X B (.BinOp a .FloorDiv b pos) (uOp A7 ta tb):=fv sL (qr fun _ _ _=>by simp[RP]) ha hb
theorem bc(ha:PE' X B a ta)(hb:PE' X B b tb):PE' X B (.BinOp a .Mod b pos) (uOp Dc ta tb):=fv wx (qr fun _ _ _=>by simp[RP]) ha hb
theorem fG(ha:PE' X B a ta)(hb:PE' X B b tb):PE' X B (.BinOp a .Pow b pos) (uOp DC ta tb):=fv y6 (qr fun _ _ _=>by simp[RP]) ha hb
theorem eh{K:PySem.W.Frag}:VR K B uLt (rI0 fun i j=>.bl (decide (i<j))):=jq fun _ _ _=>by simp[RP]
theorem uy{K:PySem.W.Frag}:VR K B uLe (rI0 fun i j=>.bl (decide (i≤j))):=jq fun _ _ _=>by simp[RP]
theorem gX{K:PySem.W.Frag}:VR K B uGt (rI0 fun i j=>.bl (decide (j<i))):=jq fun _ _ _=>by simp[RP]
theorem kA{K:PySem.W.Frag}:VR K B uGe (rI0 fun i j=>.bl (decide (j≤i))):=jq fun _ _ _=>by simp[RP]
end
end
section
variable {B:Bs}
section
variable {X:Cx}{a b c e o:Expr}{es rest:List Expr}{ta tb tc:TE'}{tA tB:TT'}{t:TA'}{pos:Pos}
def AG(t u:TT'):TT':=fun σ H Q=>t σ H fun c H1=>cif c (u σ H1 Q) (Q false H1)
def uOr(t u:TT'):TT':=fun σ H Q=>t σ H fun c H1=>cif c (Q true H1) (u σ H1 Q)
def Cb(t:TT'):TT':=fun σ H Q=>t σ H fun c H1=>Q (!c) H1
theorem bN(ha:PT' X B a tA):PW' X B (.BoolOp .And [a] pos) tA:=vd ha
theorem cw(ha:PT' X B a tA):PW' X B (.BoolOp .Or [a] pos) tA:=zu ha
theorem bR(ha:PT' X B a tA)(hb:PW' X B (.BoolOp .And (b::rest) pos) tB):PW' X B (.BoolOp .And (a::b::rest) pos) (AG tA tB):=tH (Ae ha hb) fun σ H Q y_=>by
 obtain⟨σ',H',Q',s,h,k⟩:=y_;refine⟨σ',H',_,s,h,fun x H1' H1 h1 s1 e1=>?_⟩;cases x with
 | true=>exact ko ⟨σ',H1',_,s1,h1,fun y H2' H2 h2 s2 e2=>k y H2' H2 h2 s2 (e1.trans e2)⟩
 | false=>exact kx (k false H1' H1 h1 s1 e1)
theorem cL(ha:PT' X B a tA)(hb:PW' X B (.BoolOp .Or (b::rest) pos) tB):PW' X B (.BoolOp .Or (a::b::rest) pos) (uOr tA tB):=tH (Ca ha hb) fun σ H Q y_=>by
 obtain⟨σ',H',Q',s,h,k⟩:=y_;refine⟨σ',H',_,s,h,fun x H1' H1 h1 s1 e1=>?_⟩;cases x with
 | false=>exact kx ⟨σ',H1',_,s1,h1,fun y H2' H2 h2 s2 e2=>k y H2' H2 h2 s2 (e1.trans e2)⟩
 | true=>exact ko (k true H1' H1 h1 s1 e1)
theorem aY(h:PW' X B e tA):PT' X B e tA:=PW.pt h
theorem cZ(ha:PT' X B a tA):PT' X B (.UnaryOp .Not a pos) (Cb tA):=kq (zt ha) fun σ H Q ⟨σ',H',Q',s,h,k⟩=>⟨σ',H',_,s,h,fun x H1' H1 h1 s1 e1=>k _ H1' H1 h1 s1 e1⟩
def w4(ta tb:TE'):TE':=fun σ H Q=>ta σ H fun x H1=>eP x fun c=>cif c (tb σ H1 Q) (Q (.bl false) H1)
def Ez(ta tb:TE'):TE':=fun σ H Q=>ta σ H fun x H1=>eP x fun c=>cif c (Q (.bl true) H1) (tb σ H1 Q)
def AI(ta:TE'):TE':=fun σ H Q=>ta σ H fun x H1=>eP x fun c=>Q (.bl (!c)) H1
theorem gL{op}(h:PE' X B a ta):PE' X B (.BoolOp op [a] pos) ta:=yy h
theorem gE(ha:PE' X B a ta)(hb:PE' X B (.BoolOp .And (b::rest) pos) tb):PE' X B (.BoolOp .And (a::b::rest) pos) (w4 ta tb):=a8 (Ai ha hb) fun σ H Q y_=>by
 obtain⟨σ',H',Q',s,h,k⟩:=y_;refine⟨σ',H',_,s,h,fun x H1' v H1 h1 r1 s1 e1=>?_⟩;obtain⟨y,rfl,h1⟩:=h1.ex;simp only[RP]at r1;refine⟨y,r1,?_⟩;cases y with
 | true=>exact ko ⟨σ',H1',_,s1,h1,fun y H2' v2 H2 h2 r2 s2 e2=>k y H2' v2 H2 h2 r2 s2 (e1.trans e2)⟩
 | false=>exact kx (k _ H1' _ H1 h1 (by simp[RP]) s1 e1)
def uIf(t:TT')(ta tb:TE'):TE':=fun σ H Q=>t σ H fun c H1=>cif c (ta σ H1 Q) (tb σ H1 Q)
def uUn(r:PV->PHp->VK'->Prop)(ta:TE'):TE':=fun σ H Q=>ta σ H fun x H1=>r x H1 Q
theorem fC(ha:PE' X B a ta):PE' X B (.UnaryOp .USub a pos) (uUn (fun x H Q=>cz x fun i=>Q (.int (-i)) H) ta):=a8 (Bi An ha) fun σ H Q y_=>by
 obtain⟨σ',H',Q',s,h,k⟩:=y_;refine⟨σ',H',_,s,h,fun x H1' v H1 h1 r1 s1 e1=>?_⟩;obtain⟨i,rfl,h1⟩:=cz.ex h1;simp only[RP]at r1;exact⟨i,r1,k _ H1' _ H1 h1 (by simp[RP]) s1 e1⟩
def BQ:TA':=fun _ H Q=>Q [] H
def xn(ta:TE')(tr:TA'):TA':=fun σ H Q=>ta σ H fun x H1=>tr σ H1 fun xs H2=>Q (x::xs) H2
theorem ab:PA' X B [] BQ:=uu dw fun σ H Q ⟨σ',H',Q',s,h,k⟩=>k [] H' [] H h (RPs.nil _) s (Ev.refl _ _)
theorem aa(ha:PE' X B e ta)(hr:PA' X B es t)(hs:starEach (e::es) X.env=(false,eval e X.env)::starEach es X.env:=by rfl):PA' X B (e::es) (xn ta t):=uu (cJ ha hr hs) fun σ H Q y_=>by
 obtain⟨σ',H',Q',s,h,k⟩:=y_;refine⟨σ',H',_,s,h,fun x H1' v H1 h1 r1 s1 e1=>⟨σ',H1',_,s1,h1,fun xs H2' vs H2 h2 r2 s2 e2=>?_⟩⟩;exact k _ H2' _ H2 h2 (RPs.cons _ (RP.kp _ (e2.kp s1.hp) r1) r2) s2 (e1.trans e2)
def BU(t:TA'):TE':=fun σ H Q=>t σ H fun xs H1=>xs.length≤sizeLine/\Q (.tup xs) H1
def AL(t:TA'):TE':=fun σ H Q=>t σ H fun xs H1=>xs.length≤sizeLine/\∀p,H1 p=none->Q (.ref p) (put H1 p (.lst xs))
theorem SR.hid{K:PySem.W.Frag}{σ':St'}{σ:L2.St}{H':PHp}{H:Hp}{p:Addr}{o:HO}(s:SR K B σ' H' σ H)(n:H p=none):SR K B σ' H' σ (upd H p o):=s.kp (Ev.hid n) (s.hp.hid n)
theorem SR.new{K:PySem.W.Frag}{σ':St'}{σ:L2.St}{H':PHp}{H:Hp}{p:Addr}{o:HO}{o':PO}(s:SR K B σ' H' σ H)(n:H p=none)(w:OAt K (upd H p o) p o'):SR K B σ' (put H' p o') σ (upd H p o):=s.kp (Ev.new n) (s.hp.new n w)
theorem SR.wr{K:PySem.W.Frag}{σ':St'}{σ:L2.St}{H':PHp}{H:Hp}{p:Addr}{o:HO}{o' u':PO}(s:SR K B σ' H' σ H)(n:H' p=some u')(w:OAt K (upd H p o) p o'):SR K B σ' (put H' p o') σ (upd H p o):=s.kp (Ev.wr n) (s.hp.wr n w)
theorem mx{K:PySem.W.Frag}{H:Hp}{p:Addr}{xs:List PV}{us:List V}(n:H p=none)(r:RPs K H xs us):RP K (upd H p (.tup us)) (.tup xs) (.ref p):=by
 simp only[RP];exact⟨p,us,rfl,SqT.of bt,RPs.kp K (f9 n) r⟩
theorem lT{K:PySem.W.Frag}{H:Hp}{p:Addr}{xs:List PV}{us:List V}(n:H p=none)(r:RPs K H xs us):OAt K (upd H p (.lst us)) p (.lst xs):=⟨us,bt,RPs.kp K (f9 n) r⟩
theorem wrL{K:PySem.W.Frag}{H':PHp}{H:Hp}{p:Addr}{u':PO}{xs:List PV}{us:List V}(h:HR K H' H)(n:H' p=some u')(r:RPs K H xs us):OAt K (upd H p (.lst us)) p (.lst xs):=⟨us,bt,RPs.kp K (h.kpw n) r⟩
theorem ba{x1}(h:PA' X B es t):PE' X B (.Tuple es x1 pos) (BU t):=a8 (yh h) fun σ H Q y_=>by
 obtain⟨σ',H',Q',s,h,k⟩:=y_;refine⟨σ',H',_,s,h,fun xs H1' us H1 h1 r1 s1 e1=>⟨by rw[RPs.length _ r1];exact h1.1,fun p n=>?_⟩⟩;exact k _ H1' _ _ h1.2 (mx n r1) (s1.hid n) (e1.trans (Ev.hid n))
theorem aV(h:PA' X B es t):PE' X B (.List es pos) (AL t):=a8 (zP h) fun σ H Q y_=>by
 obtain⟨σ',H',Q',s,h,k⟩:=y_;refine⟨σ',H',_,s,h,fun xs H1' us H1 h1 r1 s1 e1=>⟨by rw[RPs.length _ r1];exact h1.1,fun p n=>?_⟩⟩;exact k _ _ _ _ (h1.2 p (s1.hp.free n)) (by simp[RP]) (s1.new n (lT n r1)) (e1.trans (Ev.new n))
def cK(x:PV)(H:PHp)(k:List PV->Prop):Prop:=match x with
 | .tup l=>k l
 | .fls l=>k l
 | .ref a=>∃l,H a=some (.lst l)/\k l
 | _=>False
theorem cK.ex{K:PySem.W.Frag}{σ':St'}{σ:L2.St}{x:PV}{v:V}{H':PHp}{H:Hp}{k:List PV->Prop}(h:cK x H' k)(s:SR K B σ' H' σ H)(r:RP K H x v):∃l us p,v=.ref p/\RPs K H l us/\(SqL K H p us∨SqT K H p us)/\k l:=by
 unfold cK at h;split at h
 ·simp only[RP]at r;obtain⟨a,us,e,q,r⟩:=r;exact⟨_,us,a,e,r,.inr q,h⟩
 ·simp only[RP]at r;obtain⟨a,us,e,q,r⟩:=r;exact⟨_,us,a,e,r,.inl q.sq,h⟩
 ·simp only[RP]at r;obtain⟨l,e,h⟩:=h;obtain⟨us,q,r2⟩:=s.hp _ _ e;exact⟨l,us,_,r,r2,.inl (SqL.of q),h⟩
 ·exact h.elim
theorem yB{K:PySem.W.Frag}{H:Hp}{l:List PV}{us:List V}{i:Int}{x:PV}(r:RPs K H l us)(e:atI l i=some x):∃u,atI us i=some u/\RP K H x u:=by
 unfold atI at e ⊢;rw[RPs.length _ r];cases q:ixN l.length i with
 | none=>rw[q]at e;cases e
 | some j =>
  rw[q]at e;obtain⟨u,e1,e2⟩:=RPs.get _ r (show l[j]?=some x from e);exact⟨u,e1,e2⟩
def eE(o:Option PV)(k:PV->Prop):Prop:=match o with
 | some v=>k v
 | none=>False
theorem eE.ex{o:Option PV}{k:PV->Prop}(h:eE o k):∃v,o=some v/\k v:=by
 unfold eE at h;split at h
 ·exact⟨_,rfl,h⟩
 ·exact h.elim
def uIx:R2':=fun x y H Q=>cK x H fun l=>cz y fun i=>eE (atI l i) fun v=>Q v H
theorem wd{X:Cx}:IxR X (fun x y H Q=>yn X.K x y H Q∨yH X.K x y H Q):=wQ.or zL
theorem BL{K:PySem.W.Frag}:VR K B uIx (fun x y H Q=>yn K x y H Q∨yH K x y H Q):=by
 intro σ' σ H' H x' y' x y Q' Q s rx ry h k;obtain⟨l,us,p,rfl,r,q,h1⟩:=cK.ex h s rx;obtain⟨i,rfl,h2⟩:=cz.ex h1;obtain⟨v,e,h3⟩:=eE.ex h2;simp only[RP]at ry;obtain⟨u,e1,e2⟩:=yB r e;have:=k v H' u H h3 e2 s (Ev.refl _ _);rcases q with q | q
 ·exact .inl ⟨p,us,i,u,rfl,ry,q,e1,this⟩
 ·exact .inr ⟨p,us,i,u,rfl,ry,q,e1,this⟩
theorem aJ(ha:PE' X B a ta)(hb:PE' X B b tb)(hs:oQ b):PE' X B (.Subscript a b pos) (uOp uIx ta tb):=a8 (AO wd ha hb hs) fun _ _ _ h=>j8 BL h
abbrev TO':=St'->PHp->(Option Int->PHp->Prop)->Prop
def CS(K:PySem.W.Frag)(B:Bs)(t:TO'):TO:=fun σ H Q=>∃σ' H' Q',SR K B σ' H' σ H/\t σ' H' Q'/\∀b H1' H1,Q' b H1'->SR K B σ' H1' σ H1->Ev H' H H1' H1->Q b H1
abbrev PO'(X:Cx)(B:Bs)(e:Option Expr)(t:TO'):Prop:=L2.PO X e (CS X.K B t)
theorem se{e:Option Expr}{t1 t2:TO}(h:L2.PO X e t2)(i:∀σ H Q,t1 σ H Q->t2 σ H Q):L2.PO X e t1:=fun pins s σ H Q I q=>h pins s σ H Q I (i σ H Q q)
def oo:TO':=fun _ H Q=>Q none H
def xD(t:TE'):TO':=fun σ H Q=>t σ H fun x H1=>cz x fun i=>Q (some i) H1
theorem bH:PO' X B none oo:=se v7 fun σ H Q ⟨σ',H',Q',s,h,k⟩=>k none H' H h s (Ev.refl _ _)
theorem bF(h:PE' X B e ta):PO' X B (some e) (xD ta):=se (vF h) fun σ H Q y_=>by
 obtain⟨σ',H',Q',s,h,k⟩:=y_;refine⟨σ',H',_,s,h,fun x H1' v H1 h1 r1 s1 e1=>?_⟩;obtain⟨i,rfl,h1⟩:=cz.ex h1;simp only[RP]at r1;exact⟨i,r1,k _ H1' H1 h1 s1 e1⟩
def cC(xs:List PV)(lo hi:Option Int):List PV:=(xs.drop (HT.sIx xs.length 0 lo)).take (HT.sIx xs.length xs.length hi - HT.sIx xs.length 0 lo)
theorem zM{K:PySem.W.Frag}{H:Hp}{l:List PV}{us:List V}{lo hi:Option Int}(r:RPs K H l us):RPs K H (cC l lo hi) (aQ us lo hi):=by
 unfold cC aQ;rw[RPs.length _ r];exact RPs.take _ _ (RPs.drop _ _ r)
def sliceOf(x:PV)(lo hi:Option Int)(H3:PHp)(Q:VK'):Prop:=match x with
 | .fls l=>∀p,H3 p=none->Q (.ref p) (put H3 p (.lst (cC l lo hi)))
 | .ref a=>∃l,H3 a=some (.lst l)/\∀p,H3 p=none->Q (.ref p) (put H3 p (.lst (cC l lo hi)))
 | .tup l=>¬(HT.sIx l.length 0 lo=0/\HT.sIx l.length l.length hi=l.length)/\Q (.tup (cC l lo hi)) H3
 | _=>False
def yt(ta:TE')(tl th:TO'):TE':=fun σ H Q=>ta σ H fun x H1=>tl σ H1 fun lo H2=>th σ H2 fun hi H3=>sliceOf x lo hi H3 Q
def VC(K:PySem.W.Frag)(B:Bs)(r':List PV->PHp->VK'->Prop)(r:List V->Hp->VK->Prop):Prop:=∀(σ':St') (σ:L2.St) (H':PHp) (H:Hp) xs' xs (Q':VK') (Q:VK),SR K B σ' H' σ H->RPs K H xs' xs->r' xs' H' Q' ->
 (∀v' H1' v H1,Q' v' H1'->RP K H1 v' v->SR K B σ' H1' σ H1->Ev H' H H1' H1->Q v H1)->r xs H Q
def uCB(r:List PV->PHp->VK'->Prop)(t:TA'):TE':=fun σ H Q=>t σ H fun vs H1=>r vs H1 Q
theorem qM{K:PySem.W.Frag}{r':List PV->PHp->VK'->Prop}{r:List V->Hp->VK->Prop}{t:TA'}(v:VC K B r' r){σ:L2.St}{H:Hp}{Q:VK}(h:low K B (uCB r' t) σ H Q):tCB r (uv K B t) σ H Q:=by
 obtain⟨σ',H',Q',s,h,k⟩:=h;exact⟨σ',H',_,s,h,fun xs' H1' xs H1 h1 rx s1 e1=>v σ' σ H1' H1 xs' xs Q' Q s1 rx h1 fun v' H3' v H3 q rv s3 e3=>k v' H3' v H3 q rv s3 (e1.trans e3)⟩
variable {x:Str}{p:Pos}
theorem aE{id:String}{r':List PV->PHp->VK'->Prop}{r:List V->Hp->VK->Prop}(hc:cD X (.builtin id) r)(v:VC X.K B r' r)(hg:Gl X x)(hm:X.mg x=none)(hv:bootBuiltins x=some (.builtin id))(ha:PA' X B (e::es) t)
  (hn:x≠"__name__":=by decide) (hdb:(x==("__debug__":Str))=false:=by decide) (he:starEach (e::es) X.env=(false,eval e X.env)::starEach es X.env:=by rfl) (hpl:(backTo pos (starEach es X.env)).any (·.1)=false:=by rfl) :
  PE' X B (.Call (.Name x p) (e::es) [] pos) (uCB r' t):=a8 (fI hc hg hm hv ha hn hdb he hpl) fun _ _ _ h=>qM v h
theorem aL{id:String}{r':List PV->PHp->VK'->Prop}{r:List V->Hp->VK->Prop}(hc:cD X (.type id) r)(v:VC X.K B r' r)(hg:Gl X x)(hm:X.mg x=none)(hv:bootBuiltins x=some (.type id))(ha:PA' X B (e::es) t)
  (hn:x≠"__name__":=by decide) (hdb:(x==("__debug__":Str))=false:=by decide) (he:starEach (e::es) X.env=(false,eval e X.env)::starEach es X.env:=by rfl) (hpl:(backTo pos (starEach es X.env)).any (·.1)=false:=by rfl) :
  PE' X B (.Call (.Name x p) (e::es) [] pos) (uCB r' t):=a8 (eY hc hg hm hv ha hn hdb he hpl) fun _ _ _ h=>qM v h
def c9(f:PV->PHp->VK'->Prop):List PV->PHp->VK'->Prop:=fun xs H Q=>match xs with
 | [x]=>f x H Q
 | _=>False
theorem c9.ex{K:PySem.W.Frag}{H:Hp}{f:PV->PHp->VK'->Prop}{xs':List PV}{xs:List V}{H':PHp}{Q':VK'}(h:c9 f xs' H' Q')(r:RPs K H xs' xs):∃x' x,xs'=[x']/\xs=[x]/\RP K H x' x/\f x' H' Q':=by
 unfold c9 at h;split at h
 ·simp only[RPs]at r;obtain⟨u,r,rfl,q,rfl⟩:=r;exact⟨_,u,rfl,rfl,q,h⟩
 ·exact h.elim
def BO:List PV->PHp->VK'->Prop:=c9 fun x H Q=>cK x H fun l=>Q (.int l.length) H
theorem a6{K:PySem.W.Frag}:VC K B BO (fun xs H Q=>∃p ys,xs=[.ref p]/\(SqL K H p ys∨SqT K H p ys)/\Q (.int ys.length) H):=by
 intro σ' σ H' H xs' xs Q' Q s r h k;obtain⟨x',x,rfl,rfl,rx,h⟩:=c9.ex h r;obtain⟨l,us,p,rfl,r,q,h⟩:=cK.ex h s rx;exact⟨p,us,rfl,q,k _ H' _ H h (by simp[RP,RPs.length _ r]) s (Ev.refl _ _)⟩
def CF:List PV->PHp->VK'->Prop:=c9 fun x H Q=>cz x fun i=>Q (.int (if i<0 then -i else i)) H
def b2n(b:Bool):Int:=if b then 1 else 0
def intOf(x:PV)(k:Int->Prop):Prop:=match x with
 | .int i=>k i
 | .bl b=>k (b2n b)
 | _=>False
def Bm:List PV->PHp->VK'->Prop:=c9 fun x H Q=>intOf x fun i=>Q (.int i) H
theorem yT{K:PySem.W.Frag}:VC K B Bm (fun xs H Q=>(∃i,xs=[.int i]/\Q (.int i) H)∨∃k,xs=[.bl k]/\Q (.int (if k then 1 else 0)) H):=by
 intro σ' σ H' H xs' xs Q' Q s r h k;obtain⟨x',x,rfl,rfl,rx,h⟩:=c9.ex h r;cases x' with
 | int i=>simp only[RP]at rx;subst rx;exact .inl ⟨i,rfl,k _ H' _ H h (by simp[RP]) s (Ev.refl _ _)⟩
 | bl i=>simp only[RP]at rx;subst rx;exact .inr ⟨i,rfl,k _ H' _ H h (by simp[RP,b2n]) s (Ev.refl _ _)⟩
 | _=>exact h.elim
def xJ:List PV->PHp->VK'->Prop:=c9 fun x H Q=>cK x H fun l=>∀p,H p=none->Q (.ref p) (put H p (.lst l))
theorem fQ{K:PySem.W.Frag}:VC K B xJ (fun xs H Q=>∃p ys,xs=[.ref p]/\(SqL K H p ys∨SqT K H p ys)/\∀l,H l=none->Q (.ref l) (upd H l (.lst ys))):=by
 intro σ' σ H' H xs' xs Q' Q s r h k;obtain⟨x',x,rfl,rfl,rx,h⟩:=c9.ex h r;obtain⟨l,us,p,rfl,r,q,h⟩:=cK.ex h s rx;exact⟨p,us,rfl,q,fun p n=>k _ _ _ _ (h p (s.hp.free n)) (by simp[RP]) (s.new n (lT n r)) (Ev.new n)⟩
def t8:List PV->PHp->VK'->Prop:=c9 fun x H Q=>cK x H fun l=>Q (.tup l) H
theorem aU{K:PySem.W.Frag}:VC K B t8 (fun xs H Q=>∃p ys,xs=[.ref p]/\((SqL K H p ys/\∀l,H l=none->Q (.ref l) (upd H l (.tup ys)))∨(SqT K H p ys/\Q (.ref p) H))):=by
 intro σ' σ H' H xs' xs Q' Q s r h k;obtain⟨x',x,rfl,rfl,rx,h⟩:=c9.ex h r;obtain⟨l,us,p,rfl,r,q,h⟩:=cK.ex h s rx;refine⟨p,us,rfl,?_⟩;rcases q with q | q
 ·exact .inl ⟨q,fun p n=>k _ _ _ _ h (mx n r) (s.hid n) (Ev.hid n)⟩
 ·exact .inr ⟨q,k _ _ _ _ h (by simp only[RP];exact⟨p,us,rfl,q,r⟩) s (Ev.refl _ _)⟩
end
end
section
variable {B:Bs}
section
variable {X:Cx}{a b c e o:Expr}{es:List Expr}{ta tb te:TE'}{tA tB:TT'}{st:Stmt}{sts:List Stmt}{t u:TS'}{pos:Pos}
def xk:TS':=fun D σ H=>D.nx σ H
def vJ(t u:TS'):TS':=fun D σ H=>t { D with nx:=u D } σ H
theorem aG:jh X B [] xk:=nX uX fun D σ H ⟨σ',H',D',s,h,d⟩=>d.nx _ _ _ _ h s (Ev.refl _ _)
theorem ae(h1:PS' X B st t)(h2:jh X B sts u):jh X B (st::sts) (vJ t u):=nX (rD h1 h2) fun D σ H ⟨σ',H',D',s,h,d⟩ =>
 ⟨σ',H',_,s,h,fun σ1' H1' σ1 H1 h1 s1 e1=>⟨σ1',H1',D',s1,h1,d.ev _ _ e1⟩,d.rt,d.bk,d.ct⟩
theorem ah(h1:PS' X B st t):jh X B [st] t:=wc h1
def yS:TS':=fun D σ H=>D.bk σ H
def BX:TS':=fun D σ H=>D.ct σ H
def xp(te:TE'):TS':=fun D σ H=>te σ H fun _ H1=>D.nx σ H1
theorem a0(he:PE' X B e te)(hs:swapsWith e none pos.line X.env=pure false:=by rfl):PS' X B (.Expr e pos) (xp te):=dt (wo he hs) fun D σ H ⟨σ',H',D',s,h,d⟩ =>
 ⟨σ',H',_,s,h,fun v' H1' v H1 h1 r1 s1 e1=>d.nx _ _ _ _ h1 s1 e1⟩
def AV(te:TE'):TS':=fun D σ H=>te σ H D.rt
theorem aD(he:PE' X B e te):PS' X B (.Return (some e) pos) (AV te):=dt (zO he) fun D σ H ⟨σ',H',D',s,h,d⟩ =>
 ⟨σ',H',_,s,h,fun v' H1' v H1 h1 r1 s1 e1=>d.rt _ _ _ _ h1 r1 s1.hp e1⟩
def BA:TS':=fun D _ H=>D.rt .non H
def AN(c:TT')(t u:TS'):TS':=fun D σ H=>c σ H fun b H1=>cif b (t D σ H1) (u D σ H1)
theorem aP{l1 l2:List Stmt}(hc:PT' X B c tA)(ha:jh X B l1 t)(hb:jh X B l2 u):PS' X B (.If c l1 l2 pos) (AN tA t u):=dt (AS hc ha hb) fun D σ H y_=>by
 obtain⟨σ',H',D',s,h,d⟩:=y_;refine⟨σ',H',_,s,h,fun x H1' H1 h1 s1 e1=>?_⟩;cases x with
 | true=>exact ko ⟨σ',H1',D',s1,h1,d.ev _ _ e1⟩
 | false=>exact kx ⟨σ',H1',D',s1,h1,d.ev _ _ e1⟩
def zT:TS':=fun _ _ _=>False
theorem cq:jh X B sts zT:=fun _ _ _ _ _ _ ⟨_,_,_,_,h,_⟩=>h.elim
def oN(i:Nat):TG':=fun v σ H Q=>Q (σ.set i (some v)) H
theorem SR.set{K:PySem.W.Frag}{σ':St'}{H':PHp}{σ:L2.St}{H:Hp}{v':PV}{v:V}(s:SR K B σ' H' σ H)(r:RP K H v' v)(i:Nat):SR K B (σ'.set i (some v')) H' (σ.set i (some v)) H:=by
 refine⟨by simp[s.len],fun j w e=>?_,s.hp,s.ev⟩;by_cases hj:i=j
 ·subst hj;have hl:i<σ'.length:=by
   rcases Nat.lt_or_ge i σ'.length with h | h
   ·exact h
   ·rw[Gu (by simpa using h)]at e;cases e
  rw[List.getElem?_set_self hl]at e;cases e;exact⟨v,List.getElem?_set_self (by rw[←s.len];exact hl),r⟩
 ·rw[List.getElem?_set_ne hj]at e ⊢;exact s.loc j w e
theorem ax{i:Nat}{x:Str}(hN:X.N.Nodup)(hi:X.N[i]?=some x)(hx:Loc X.env.scope x)(hf:X.fn x=true∨X.env.scope.names.lookup x=some .local:=by first | exact .inl rfl | exact .inr rfl | assumption):PG' X B (.Name x pos) (oN i) :=
 sf (vB hN hi hx hf) fun v σ H Q ⟨v',σ',H',Q',r,s,h,k⟩=>k _ _ _ _ h (s.set r i) (Ev.refl _ _)
def y8:hV:=fun vs σ H Q=>vs=[]/\Q σ H
def wX(t:TG')(u:hV):hV:=fun vs σ H Q=>match vs with
 | v::r=>t v σ H fun σ' H'=>u r σ' H' Q
 | []=>False
theorem dq:vg X B [] y8:=oW we fun vs σ H Q y_=>by
 obtain⟨v',σ',H',Q',r,s,h,k⟩:=y_;obtain⟨rfl,h⟩:=h;simp only[RPs]at r;exact⟨r,k _ _ _ _ h s (Ev.refl _ _)⟩
theorem bA{t:TG'}{u:hV}(h1:PG' X B e t)(h2:vg X B es u)(hs:(assignEach (e::es) X.env).map (·.2)=assign e X.env::(assignEach es X.env).map (·.2):=by rfl):vg X B (e::es) (wX t u) :=
 oW (rb h1 h2 hs) fun vs σ H Q y_=>by
 obtain⟨vs',σ',H',Q',r,s,h,k⟩:=y_;cases vs' with
 | nil=>exact h.elim
 | cons v' r' =>
  simp only[RPs]at r;obtain⟨v,w,rfl,rv,rw'⟩:=r;refine⟨v,w,rfl,v',σ',H',_,rv,s,h,fun σ1' H1' σ1 H1 h1 s1 e1=>⟨r',σ1',H1',Q',RPs.kp _ (e1.kp s.hp) rw',s1,h1,fun σ2' H2' σ2 H2 h2 s2 e2=>k _ _ _ _ h2 s2 (e1.trans e2)⟩⟩
def AD(n:Nat)(t:hV):TG':=fun v σ H Q=>match v with
 | .tup l=>l.length=n/\t l σ H Q
 | _=>False
theorem d8{k:Nat}{t:hV}{n:Nat}(hc:X.calm=true)(h:vg X B es t)(hn:(assignEach es X.env).length=n:=by rfl)(hst:(assignEach es X.env).findIdx? (·.1)=none:=by rfl):PG' X B (.Tuple es k pos) (AD n t) :=
 sf (yg hc h hn hst) fun v σ H Q y_=>by
 obtain⟨v',σ',H',Q',r,s,h,k⟩:=y_;cases v' with
 | tup l =>
  obtain⟨hl,h⟩:=h;simp only[RP]at r;obtain⟨a,us,rfl,q,r⟩:=r;exact⟨a,us,rfl,q,by rw[RPs.length _ r];exact hl,l,σ',H',Q',r,s,h,k⟩
 | _=>exact h.elim
def qP(te:TE')(g:TG'):TS':=fun D σ H=>te σ H fun x H1=>g x σ H1 D.nx
theorem vP{K:PySem.W.Frag}{te:TE'}{g:TG'}{D:Ends}{σ:L2.St}{H:Hp}(h:zr K B (qP te g) D σ H):uW (low K B te) (lowG K B g) D σ H:=by
 obtain⟨σ',H',D',s,h,d⟩:=h;exact⟨σ',H',_,s,h,fun x H1' v H1 h1 r1 s1 e1=>⟨x,σ',H1',_,r1,s1,h1,fun σ2' H2' σ2 H2 h2 s2 e2=>d.nx _ _ _ _ h2 s2 (e1.trans e2)⟩⟩
theorem mr{tg:Expr}{g:TG'}(he:PE' X B e te)(hg:PG' X B tg g)(hs:swapsWithSole [tg] e pos.line X.env=pure false:=by rfl)(hw:swappedStores [tg] e X.env=pure none:=by rfl)
  (h1:(assignEach [tg] X.env).map (·.2)=[assign tg X.env]:=by rfl):PS' X B (.Assign [tg] e pos) (qP te g):=dt (zk he hg hs hw h1) fun _ _ _ h=>vP h
theorem az{i:Nat}{x:Str}{pos':Pos}(hN:X.N.Nodup)(hi:X.N[i]?=some x)(hx:Loc X.env.scope x)(he:PE' X B e te)(hs:swapsWith e (some (.Name x pos')) pos.line X.env=pure false:=by rfl)(hf:X.fn x=true∨X.env.scope.names.lookup x=some .local:=by first | exact .inl rfl | exact .inr rfl | assumption) :
  PS' X B (.Assign [.Name x pos'] e pos) (qP te (oN i)):=dt (zQ hN hi hx he hs hf) fun D σ H h=>by
 obtain⟨σ',H',D',s,h,d⟩:=h;exact⟨σ',H',_,s,h,fun x H1' v H1 h1 r1 s1 e1=>d.nx _ _ _ _ h1 (s1.set r1 i) e1⟩
def j6(c:TT')(tb:TS'):TS':=fun D σ H=>∃W:Nat->St'->PHp->Prop,(∃m,W m σ H)/\∀m σ H,W m σ H ->
 c σ H fun b H1=>cif b (∃N:St'->PHp->Prop,(∀σ' H',N σ' H'->∃m',m'<m/\W m' σ' H')/\tb { D with nx:=N,ct:=N,bk:=D.nx } σ H1) (D.nx σ H1)
theorem fW{body:List Stmt}(hp:PassesOwn (model X.prog X.w) X.A X.env X.xe)(hc:PT' X B c tA)(hb:jh X B body t):PS' X B (.While c body [] pos) (j6 tA t):=dt (sY hp hc hb) fun D σ H y_=>by
 obtain⟨σ',H',D',s,⟨W,⟨m0,w0⟩,turn⟩,d⟩:=y_;refine⟨fun m σ1 H1=>∃σ1' H1',SR X.K B σ1' H1' σ1 H1/\Ev H' H H1' H1/\W m σ1' H1',⟨m0,σ',H',s,Ev.refl _ _,w0⟩,?_⟩;rintro m σ1 H1 ⟨σ1',H1',s1,e1,w1⟩;refine⟨σ1',H1',_,s1,turn m σ1' H1' w1,fun x H2' H2 h2 s2 e2=>?_⟩;cases x with
 | false=>exact kx (d.nx _ _ _ _ h2 s2 (e1.trans e2))
 | true =>
  obtain⟨N,hN,h2⟩:=(show ∃N:St'->PHp->Prop,_ from h2);refine ko ⟨fun σ3 H3=>∃σ3' H3',SR X.K B σ3' H3' σ3 H3/\Ev H' H H3' H3/\N σ3' H3',?_,σ1',H2',_,s2,h2,?_,?_,?_,?_⟩
  ·rintro σ3 H3 ⟨σ3',H3',s3,e3,n3⟩;obtain⟨m',hm,w'⟩:=hN _ _ n3;exact⟨m',hm,σ3',H3',s3,e3,w'⟩
  ·intro σ3' H3' σ3 H3 n3 s3 e3;exact⟨σ3',H3',s3,(e1.trans e2).trans e3,n3⟩
  ·intro v' H3' v H3 n3 r3 s3 e3;exact d.rt _ _ _ _ n3 r3 s3 ((e1.trans e2).trans e3)
  ·intro σ3' H3' σ3 H3 n3 s3 e3;exact d.nx _ _ _ _ n3 s3 ((e1.trans e2).trans e3)
  ·intro σ3' H3' σ3 H3 n3 s3 e3;exact⟨σ3',H3',s3,(e1.trans e2).trans e3,n3⟩
theorem eG{c:TT'}{tb:TS'}{D:fw}{σ:St'}{H:PHp}(Pv:Nat->St'->PHp->Prop)(m0:Nat)(h0:Pv m0 σ H)
  (hs:∀m σ H,Pv m σ H->c σ H fun b H1=>cif b (∃N:St'->PHp->Prop,(∀σ' H',N σ' H'->∃m',m'<m/\Pv m' σ' H')/\tb { D with nx:=N,ct:=N,bk:=D.nx } σ H1) (D.nx σ H1)):j6 c tb D σ H:=⟨Pv,⟨m0,h0⟩,hs⟩
def fR(ok:PHp->Prop)(g:TG')(tb:TS')(D:fw):List PV->St'->PHp->Prop
 | [],σ,H=>ok H/\D.nx σ H
 | x::r,σ,H=>ok H/\g x σ H fun σ2 H2=>tb { D with nx:=fR ok g tb D r,ct:=fR ok g tb D r,bk:=D.nx } σ2 H2
def Cd(wi:TI')(g:TG')(tb:TS'):TS':=fun D σ H=>wi σ H fun J H1=>fR J.ok g tb D J.items σ H1
theorem bK{iter tg:Expr}{body:List Stmt}{wi:TI'}{g:TG'}(hp:PassesOwn (model X.prog X.w) X.A X.env X.xe)(hc:X.calm=true)(hi:PI' X B tg iter wi)(hg:PG' X B tg g)(hb:jh X B body t)
  (hs:∀x,foldedSetIterable iter X.env x=pure x:=by intro _;rfl):PS' X B (.For tg iter body [] pos) (Cd wi g t):=dt (zx hp hc hi hg hb hs) fun D σ H y_=>by
 obtain⟨σ',H',D',s,h,d⟩:=y_;refine⟨σ',H',_,s,h,fun J' H1' J H1 h1 wk s1 e1=>?_⟩;refine⟨fun i m σ2 H2=>i≤J'.items.length/\m=J'.items.length - i/\∃σ2' H2',SR X.K B σ2' H2' σ2 H2/\Ev H1' H1 H2' H2/\fR J'.ok g t D' (J'.items.drop i) σ2' H2',⟨J'.items.length,Gb _,by simp,σ',H1',s1,Ev.refl _ _,h1⟩,?_⟩;rintro i m σ2 H2 ⟨hi,rfl,σ2',H2',s2,e2,h2⟩;have k2:=e2.kp s1.hp;by_cases hlt:i<J'.items.length
 ·obtain⟨x',hx⟩:∃x',J'.items[i]?=some x':=⟨_,EY hlt⟩;have hd:J'.items.drop i=x'::J'.items.drop (i+1):=by
   rw[Ge hlt];rw[EY hlt]at hx;cases hx;rfl
  rw[hd]at h2;obtain⟨ok2,h2⟩:=(show J'.ok H2'/\_ from h2);refine .inr ⟨wk.go H2' H2 i k2 s2.hp ok2 hlt,fun σ3 H3=>∃σ3' H3',SR X.K B σ3' H3' σ3 H3/\Ev H1' H1 H3' H3/\fR J'.ok g t D' (J'.items.drop (i+1)) σ3' H3',?_,fun x H3 y=>?_⟩
  ·rintro σ3 H3 ⟨σ3',H3',s3,e3,h3⟩;exact⟨J'.items.length - (i+1),by omega,hlt,rfl,σ3',H3',s3,e3,h3⟩
  ·obtain⟨rfl,rx⟩:=wk.yld H2' H2 i x H3 k2 s2.hp ok2 y;refine⟨x',σ2',H2',_,rx x' hx,s2,h2,fun σ3' H3' σ3 H3 h3 s3 e3=>⟨σ3',H3',_,s3,h3,?_,?_,?_,?_⟩⟩
   ·intro σ4' H4' σ4 H4 h4 s4 e4;exact⟨σ4',H4',s4,e2.trans (e3.trans e4),h4⟩
   ·intro v' H4' v H4 h4 r4 s4 e4;exact d.rt _ _ _ _ h4 r4 s4 (e1.trans (e2.trans (e3.trans e4)))
   ·intro σ4' H4' σ4 H4 h4 s4 e4;exact d.nx _ _ _ _ h4 s4 (e1.trans (e2.trans (e3.trans e4)))
   ·intro σ4' H4' σ4 H4 h4 s4 e4;exact⟨σ4',H4',s4,e2.trans (e3.trans e4),h4⟩
 ·have hi':i=J'.items.length:=by omega
  subst hi';rw[List.drop_length]at h2;obtain⟨ok2,h2⟩:=(show J'.ok H2'/\_ from h2);exact .inl ⟨wk.stop H2' H2 _ k2 s2.hp ok2 (Fd _),d.nx _ _ _ _ h2 s2 (e1.trans e2)⟩
def tm(x:PV)(H1:PHp)(R:It'->PHp->Prop):Prop:=match x with
 | .tup l=>R ⟨l,fun _=>True⟩ H1
 | .fls l=>R ⟨l,fun _=>True⟩ H1
 | .ref a=>∃l,H1 a=some (.lst l)/\R ⟨l,fun H=>H a=some (.lst l)⟩ H1
 | _=>False
def xE(ta:TE'):TI':=fun σ H R=>ta σ H fun x H1=>tm x H1 R
def D7(K:PySem.W.Frag)(tl:TE):TI:=fun σ H R=>tl σ H fun x H1=>∃a,x=.ref a/\((∃xs,SqL K H1 a xs)/\R (Itl K a) H1∨(∃xs,SqT K H1 a xs)/\R (Itt K a) H1)
theorem y3{tg l:Expr}{tl:TE}(hl:PE X l tl):PI X tg l (D7 X.K tl):=by
 intro pins s σ H R I h;refine thn (hl pins s σ H _ I h) fun v s1 y_=>?_;obtain⟨x,H1,I1,r1,q1⟩:=y_;obtain⟨a,e,⟨⟨xs,hq⟩,q⟩ |⟨⟨xs,hq⟩,q⟩⟩:=q1
 ·subst e;cases r1;obtain⟨its,rv,p,hz⟩:=I1.list hq;refine wpAny_pyIter_list p.isList ?_;refine⟨s1.heap.objs.size,[s1.heap.objs.size],_,_,H1,rfl,I1.kept (t':=s1.toks) fun b o e=>EZ _ e,px a _,⟨_,Fc _ rfl,rfl,rfl⟩,fun b hb=>?_,q⟩;have e:b=s1.heap.objs.size:=by simpa using hb
  subst e;exact I1.fpOk (Fd _) (I1.hok.fresh (Fd _))
 ·subst e;cases r1;obtain⟨its,rv,p,hz⟩:=I1.tuple hq;refine wpAny_pyIter_tuple (show s1.heap.IsTuple a its.toArray from p) ?_;refine⟨s1.heap.objs.size,[s1.heap.objs.size],_,_,H1,rfl,I1.kept (t':=s1.toks) fun b o e=>EZ _ e,ni a _,⟨_,Fc _ rfl,rfl,rfl⟩,fun b hb=>?_,q⟩;have e:b=s1.heap.objs.size:=by simpa using hb
  subst e;exact I1.fpOk (Fd _) (I1.hok.fresh (Fd _))
theorem jc{K:PySem.W.Frag}{H1:Hp}{J':It'}{a:Addr}(h:∀H' H,Kp H1 H->HR K H' H->J'.ok H'->∃us,SqL K H a us/\RPs K H J'.items us):Walks K H1 (Itl K a) J' where
 go:=fun H' H i k s o hi=>by
  obtain⟨us,q,r⟩:=h H' H k s o;obtain⟨u,e,_⟩:=RPs.get _ r (EY hi);exact⟨us,u,q,e⟩
 yld:=fun H' H i x H2 k s o y=>by
  obtain⟨us,q,r⟩:=h H' H k s o;refine⟨y.1,fun x' hx=>?_⟩;obtain⟨u,e,ru⟩:=RPs.get _ r hx;have:=y.2 us q;rw[e]at this;cases this;exact ru
 stop:=fun H' H i k s o hi=>by
  obtain⟨us,q,r⟩:=h H' H k s o;exact⟨us,q,by rw[RPs.length _ r];exact hi⟩
theorem qF{K:PySem.W.Frag}{H1:Hp}{J':It'}{a:Addr}(h:∀H' H,Kp H1 H->HR K H' H->J'.ok H'->∃us,SqT K H a us/\RPs K H J'.items us):Walks K H1 (Itt K a) J' where
 go:=fun H' H i k s o hi=>by
  obtain⟨us,q,r⟩:=h H' H k s o;obtain⟨u,e,_⟩:=RPs.get _ r (EY hi);exact⟨us,u,q,e⟩
 yld:=fun H' H i x H2 k s o y=>by
  obtain⟨us,q,r⟩:=h H' H k s o;refine⟨y.1,fun x' hx=>?_⟩;obtain⟨u,e,ru⟩:=RPs.get _ r hx;have:=y.2 us q;rw[e]at this;cases this;exact ru
 stop:=fun H' H i k s o hi=>by
  obtain⟨us,q,r⟩:=h H' H k s o;exact⟨us,q,by rw[RPs.length _ r];exact hi⟩
theorem aX{tg:Expr}(ha:PE' X B a ta):PI' X B tg a (xE ta):=iR (y3 ha) fun σ H R y_=>by
 obtain⟨σ',H',R',s,h,k⟩:=y_;refine⟨σ',H',_,s,h,fun x' H1' x H1 h1 r1 s1 e1=>?_⟩;cases x' with
 | tup l =>
  simp only[RP]at r1;obtain⟨p,us,rfl,q,r⟩:=r1;exact⟨p,rfl,.inr ⟨⟨us,q⟩,k _ H1' _ H1 h1 (qF fun _ H2 k2 _ _=>⟨us,k2.sqT q,RPs.kp _ k2 r⟩) s1 e1⟩⟩
 | fls l =>
  simp only[RP]at r1;obtain⟨p,us,rfl,q,r⟩:=r1;exact⟨p,rfl,.inl ⟨⟨us,q.sq⟩,k _ H1' _ H1 h1 (jc fun _ H2 k2 _ _=>⟨us,(k2.fzL q).sq,RPs.kp _ k2 r⟩) s1 e1⟩⟩
 | ref p =>
  simp only[RP]at r1;obtain⟨l,q,h1⟩:=h1;obtain⟨us,q2,r⟩:=s1.hp _ _ q;refine⟨p,r1,.inl ⟨⟨us,SqL.of q2⟩,k _ H1' _ H1 h1 (jc fun H2' H2 k2 s2 o2=>?_) s1 e1⟩⟩;obtain⟨us2,q3,r3⟩:=s2 _ _ o2;exact⟨us2,SqL.of q3,r3⟩
 | _=>exact h1.elim
def b7(lo:Int)(n:Nat):List PV:=(List.range n).map fun k=>PV.int (lo+(k:Nat))
theorem jS{K:PySem.W.Frag}{H1:Hp}{lo:Int}{n:Nat}:Walks K H1 (Itr lo n) ⟨b7 lo n,fun _=>True⟩ where
 go:=fun H' H i k s o hi=>by
  have h:i<n:=by simpa[b7]using hi
  exact h
 yld:=fun H' H i x H2 k s o y=>by
  obtain⟨e,rfl⟩:=y;refine⟨e,fun x' hx=>?_⟩;simp only[b7,FN]at hx;cases q:(List.range n)[i]? with
  | none=>rw[q]at hx;cases hx
  | some j =>
   rw[q]at hx;obtain⟨h1,h2⟩:=E6.mp q;rw[List.getElem_range]at h2;subst h2;cases hx;simp[RP]
 stop:=fun H' H i k s o hi=>by
  have h:n≤i:=by simpa[b7]using hi
  exact h
def uK(vs:List PV)(H1:PHp)(R:It'->PHp->Prop):Prop:=match vs with
 | [.int j]=>(-(2 ^ 62)≤j/\j<2 ^ 62)/\R ⟨b7 0 j.toNat,fun _=>True⟩ H1
 | _=>False
def wW(t:TA'):TI':=fun σ H R=>t σ H fun vs H1=>uK vs H1 R
def vR(vs:List PV)(H1:PHp)(R:It'->PHp->Prop):Prop:=match vs with
 | [.int i,.int j]=>(-(2 ^ 62)≤i/\i<2 ^ 62/\-(2 ^ 62)≤j/\j<2 ^ 62)/\R ⟨b7 i (j - i).toNat,fun _=>True⟩ H1
 | _=>False
def xq(t:TA'):TI':=fun σ H R=>t σ H fun vs H1=>vR vs H1 R
theorem bL{tg:Expr}{t:TA'}{p:Pos}(hg:Gl X "range")(hm:X.mg "range"=none)(ha:PA' X B [a] t)(hs:starEach [a] X.env=[(false,eval a X.env)]:=by rfl):PI' X B tg (.Call (.Name "range" p) [a] [] pos) (wW t) :=
 iR (p9 hg hm ha hs) fun σ H R y_=>by
 obtain⟨σ',H',R',s,h,k⟩:=y_;refine⟨σ',H',_,s,h,fun vs' H1' vs H1 h1 r1 s1 e1=>?_⟩;unfold uK at h1;split at h1
 ·rename_i j;simp only[RPs,RP]at r1;obtain⟨u,r,rfl,rfl,rfl⟩:=r1;exact⟨j,rfl,h1.1.1,h1.1.2,k _ H1' _ H1 h1.2 jS s1 e1⟩
 ·exact h1.elim
theorem qa{tg:Expr}{t:TA'}{p:Pos}(hg:Gl X "range")(hm:X.mg "range"=none)(ha:PA' X B [a,b] t)(hs:starEach [a,b] X.env=[(false,eval a X.env),(false,eval b X.env)]:=by rfl)(hs2:starEach [b] X.env=[(false,eval b X.env)]:=by rfl) :
  PI' X B tg (.Call (.Name "range" p) [a,b] [] pos) (xq t):=iR (qz hg hm ha hs hs2) fun σ H R y_=>by
 obtain⟨σ',H',R',s,h,k⟩:=y_;refine⟨σ',H',_,s,h,fun vs' H1' vs H1 h1 r1 s1 e1=>?_⟩;unfold vR at h1;split at h1
 ·rename_i i j;simp only[RPs,RP]at r1;obtain⟨u,r,rfl,rfl,w,r,rfl,rfl,rfl⟩:=r1;exact⟨i,j,rfl,h1.1,k _ H1' _ H1 h1.2 jS s1 e1⟩
 ·exact h1.elim
end
end
section
variable {B:Bs}
abbrev Sp':=List PV->PHp->VK'->XK'->Prop
def gZ(K:PySem.W.Frag)(sp:Sp'):Sp:=fun vs H Q E=>∃vs' H' Q' E',RPs K H vs' vs/\HR K H' H/\sp vs' H' Q' E'/\(∀v' H1' v H1,Q' v' H1'->RP K H1 v' v->HR K H1' H1->Ev H' H H1' H1->Q v H1) /\
 (∀c d H1' H1,E' c d H1'->HR K H1' H1->Ev H' H H1' H1->E c d H1)
abbrev aT(P:Program)(w:World)(K:PySem.W.Frag)(mg:Str->Option Value)(base:Heap)(CX:CXT)(k:Nat)(f:Addr)(fd:FuncData)(ps:List Str)(sp:Sp'):Prop:=iU P w K mg base CX k f fd ps (gZ K sp)
def gG(N:List Str)(vs:List PV):St':=vs.map some++List.replicate (N.length - vs.length) none
theorem qK{K:PySem.W.Frag}{N:List Str}{vs':List PV}{vs:List V}{H':PHp}{H:Hp}(r:RPs K H vs' vs)(h:HR K H' H):SR K (H',H) (gG N vs') H' (L2.start N vs) H:=by
 have hl:=RPs.length _ r;refine⟨by simp[gG,L2.start,hl],fun i v' e=>?_,h,Ev.refl _ _⟩;unfold gG at e;unfold L2.start;by_cases hi:i<vs'.length
 ·rw[Gd (by simpa using hi)]at e;rw[Gd (by simpa[hl]using hi)];rw[FN]at e ⊢;cases q:vs'[i]? with
  | none=>rw[q]at e;cases e
  | some w =>
   rw[q]at e;cases e;obtain⟨u,e1,e2⟩:=RPs.get _ r q;exact⟨u,by rw[e1];rfl,e2⟩
 ·rw[Gn (by simpa using hi)]at e;rw[List.getElem?_replicate]at e;split at e<;>cases e
def ends(Q:VK'):fw where
 nx:=fun _ H=>∃H3,Sub H3 H/\Q .non H3
 rt:=fun v H=>∃H3,Sub H3 H/\Q v H3
section
variable {P:Program}{w:World}{K:PySem.W.Frag}{mg:Str->Option Value}{base:Heap}
theorem okU{x qual:Str}{st:Stmt}{f:Addr}{fd:FuncData}{N ps:List Str}{k:Nat}{sp:Sp'}(F:Fun K x qual st f fd)(S:aH N ps (aj st))(len:∀vs H Q E,sp vs H Q E->vs.length=ps.length)
  (hbody:∀(cdv:Value) (A:Around) (outer:List Env) (s:Shared) (H:Hp) (E:XK) (B:Bs),cB k (A.deeper (envOfC qual (aj st) s.heap.objs.size f cdv)) ->
   ∃t,jh (nq CX0 P w K mg base N qual (aj st) f cdv A outer s H E).nox B (fo st) t/\∀vs' H' Q' E',sp vs' H' Q' E'->t (ends Q') (gG N vs') H'):aT P w K mg base CX0 (k+1) f fd ps sp:=by
 refine F.ok S (fun vs H Q E zz=>?_) (fun cdv A outer s H vs Q E hr h=>?_)
 ·obtain⟨vs',H',Q',E',r,hr,h,_⟩:=zz;rw[RPs.length _ r];exact len _ _ _ _ h
 ·obtain⟨vs',H',Q',E',r,hh,h,k1,k2⟩:=h;obtain⟨t,ht,hq⟩:=hbody cdv A outer s H E (H',H) hr;refine⟨_,ht,gG N vs',H',_,qK r hh,hq vs' H' Q' E' h,?_,?_,?_,?_⟩
  ·rintro σ1' H1' σ1 H1 ⟨H3,sb,q⟩ s1 e1;exact k1 _ H3 _ H1 q (by simp[RP]) (s1.hp.sub sb) (e1.sub sb)
  ·rintro v' H1' v H1 ⟨H3,sb,q⟩ r1 s1 e1;exact k1 _ H3 _ H1 q r1 (s1.sub sb) (e1.sub sb)
  ·intro _ _ _ _ z;exact z.elim
  ·intro _ _ _ _ z;exact z.elim
end
section
variable {X:Cx}{CX:CXT}{k:Nat}{f C:Addr}{fd:FuncData}{ps:List Str}{sp:Sp'}{E:XK}{E':XK'}{x m:Str}{p pos apos:Pos}{e o:Expr}{es:List Expr}{ta:TE'}{t:TA'}
def rL(sp:Sp')(E':XK')(t:TA'):TE':=fun σ H Q=>t σ H fun vs H1=>sp vs H1 Q E'
abbrev X0:XK':=fun _ _ _=>False
theorem pK{K:PySem.W.Frag}{σ:L2.St}{H:Hp}{Q:VK}(h:low K B (rL sp X0 t) σ H Q):wU (gZ K sp) [] E0 (uv K B t) σ H Q:=by
 obtain⟨σ',H',Q',s,h,k⟩:=h;refine⟨σ',H',_,s,h,fun vs' H1' vs H1 h1 r1 s1 e1=>?_⟩;show gZ K sp (vs++[]) H1 Q E0;rw[F1];exact⟨vs',H1',Q',X0,r1,s1.hp,h1,fun v' H2' v H2 q r2 h2 e2=>k v' H2' v H2 q r2 (s1.kp e2 h2) (e1.trans e2),fun _ _ _ _ z=>z.elim⟩
theorem aw(F:aT X.prog X.w X.K X.mg X.base CX0 k f fd ps sp)(hr:cB k X.A)(hg:Gl X x)(hm:X.mg x=some (.ref f))(hk:PySem.W.keepIn X.K (.ref f)=true)(hb:Binds X.K fd ps [])
  (ha:PA' X B (e::es) t) (hdb:(x==("__debug__":Str))=false:=by decide) (he:starEach (e::es) X.env=(false,eval e X.env)::starEach es X.env:=by rfl) (hpl:(backTo pos (starEach es X.env)).any (·.1)=false:=by rfl) :
  PE' X B (.Call (.Name x p) (e::es) [] pos) (rL sp X0 t):=a8 (vW F hr hg hm hk hb .nil rH ha hdb he hpl) fun _ _ _ h=>pK h
theorem B8{K:PySem.W.Frag}{H:Hp}{a:Addr}{xs:List V}(o:pN H)(h:SqL K H a xs):FzL K H a xs:=by
 rcases h with(h | h) | h
 ·rcases o a with z |⟨ob,ys,z⟩
  ·rw[z]at h;cases h
  ·rw[z]at h;cases h
 ·exact .inl h
 ·exact .inr h
def spL:Sp':=fun vs H Q _=>match vs with
 | [.fls l]=>∃ns:List Int,l=ns.map PV.int/\ns.length≤63/\Q (.bl true) H
 | _=>False
theorem pG{K:PySem.W.Frag}{H:Hp}{a:Addr}{ns:List Int}(hl:ns.length≤63)(o:pN H)(h:SqL K H a (ns.map V.int)):gZ K spL [.ref a] H (fun v _=>v=.bl true) fun _ _ _=>False:=by
 refine⟨[.fls (ns.map PV.int)],fun _=>none,fun v _=>v=.bl true,X0,?_,fun _ _ z=>(nomatch z),⟨ns,rfl,hl,rfl⟩,fun v' _ v _ q r _ _=>?_,fun _ _ _ _ z=>z.elim⟩
 ·refine RPs.cons _ ?_ (RPs.nil _);simp only[RP];exact⟨a,_,rfl,B8 o h,RPs.ints _ _⟩
 ·subst q;simpa[RP]using r
end
end
section
variable {B:Bs}
mutual
def deq:PV->PV->Bool
 | .non,.non=>true
 | .bl a,.bl b=>a==b
 | .int a,.int b=>a==b
 | .bl a,.int b=>(if a then 1 else 0)==b
 | .int a,.bl b=>a==(if b then 1 else 0)
 | .str a,.str b=>a==b
 | .tup l,.tup m=>dh l m
 | .fls l,.fls m=>dh l m
 | _,_=>false
def dh:List PV->List PV->Bool
 | [],[]=>true
 | x::l,y::m=>deq x y&&dh l m
 | _,_=>false
end
def flat:Nat->PV->Bool
 | _,.non=>true
 | _,.bl _=>true
 | _,.int _=>true
 | _,.str _=>true
 | n+1,.tup l=>l.all (flat n)
 | n+1,.fls l=>l.all (flat n)
 | _,_=>false
theorem cf:∀(l m:List PV),dh l m=((List.range (min l.length m.length)).all (fun i=>deq (l.getD i .non) (m.getD i .non))&&l.length==m.length)
 | [],[]=>by simp[dh]
 | [],_::_=>by simp[dh]
 | _::_,[]=>by simp[dh]
 | x::l,y::m=>by
  simp only[dh,cf l m,Fs];rw[show min (l.length+1) (m.length+1)=min l.length m.length+1 by omega,List.range_succ_eq_map,List.all_cons,List.all_map];simp only[List.getD_cons_zero,Bool.and_assoc];congr 1;congr 1;simp
theorem gK{n:Nat}:∀(l:List PV),(∀x∈l,deq x x=true)->dh l l=true
 | [],_=>rfl
 | x::l,h=>by
  have h1:=h x (by simp);have h2:=gK (n:=n) l fun y hy=>h y (by simp[hy]);simp only[dh,h1,h2,Bool.and_self]
theorem gm:∀{n:Nat} {x:PV},flat n x=true->deq x x=true
 | _,.non,_=>by simp[deq]
 | _,.bl _,_=>by simp[deq]
 | _,.int _,_=>by simp[deq]
 | _,.str _,_=>by simp[deq]
 | n+1,.tup l,h=>by
  simp only[flat,FC]at h;simp only[deq];exact gK (n:=0) l fun x hx=>gm (h x hx)
 | n+1,.fls l,h=>by
  simp only[flat,FC]at h;simp only[deq];exact gK (n:=0) l fun x hx=>gm (h x hx)
 | 0,.tup _,h=>by cases h
 | 0,.fls _,h=>by cases h
 | n,.ref _,h=>by cases n<;>cases h
 | n,.oth _,h=>by cases n<;>cases h
section
variable {X:Cx}{pins:List (Addr×Obj)}{σ:L2.St}{H:Hp}{s:Shared}
def RR(K:PySem.W.Frag)(H:Hp)(x:PV)(u:Value):Prop:=∃v,RP K H x v/\RelV v u
def RL(K:PySem.W.Frag)(H:Hp)(l:List PV)(us:List Value):Prop:=∃vs,RPs K H l vs/\Vals vs us
def RD(K:PySem.W.Frag)(H:Hp)(x:PV)(u:Value):Prop:=match x with
 | .fls l=>∃a vs,u=.ref a/\SqL K H a vs/\RPs K H l vs
 | x=>RR K H x u
theorem RL.get{K:PySem.W.Frag}{l:List PV}{us:List Value}(r:RL K H l us){i:Nat}{u:Value}(e:us[i]?=some u):∃x,l[i]?=some x/\RR K H x u:=by
 obtain⟨vs,r1,r2⟩:=r;have hl:=r2.length;have hl2:=RPs.length _ r1;have hi:i<l.length:=by
  have:=(E6.mp e).1;omega
 obtain⟨v,e1,e2⟩:=RPs.get _ r1 (EY hi);obtain⟨w,e3,e4⟩:=r2.get e1;rw[e]at e3;cases e3;exact⟨_,EY hi,v,e2,e4⟩
theorem RL.length{K:PySem.W.Frag}{l:List PV}{us:List Value}(r:RL K H l us):us.length=l.length:=by
 obtain⟨vs,r1,r2⟩:=r;rw[←r2.length,RPs.length _ r1]
theorem RR.rd{K:PySem.W.Frag}{x:PV}{u:Value}(r:RR K H x u):RD K H x u:=by
 cases x with
 | fls l =>
  obtain⟨v,r1,r2⟩:=r;simp only[RP]at r1;obtain⟨a,us,rfl,q,rr⟩:=r1;cases r2;exact⟨a,us,rfl,q.sq,rr⟩
 | _=>exact r
theorem bZ(I:Inv X pins σ H s){l:List PV}{u:Value}(r:RD X.K H (.tup l) u):∃a its,u=.ref a/\RL X.K H l its/\s.heap.IsTuple a its.toArray:=by
 obtain⟨v,r1,r2⟩:=r;simp only[RP]at r1;obtain⟨a,us,rfl,q,rr⟩:=r1;cases r2;obtain⟨its,rv,p,_⟩:=I.tuple q;exact⟨a,its,rfl,⟨us,rr,rv⟩,p⟩
theorem bX(I:Inv X pins σ H s){l:List PV}{u:Value}(r:RD X.K H (.fls l) u):∃a its,u=.ref a/\RL X.K H l its/\s.heap.IsList a its.toArray:=by
 obtain⟨a,us,rfl,q,rr⟩:=r;obtain⟨its,rv,p,_⟩:=I.list q;exact⟨a,its,rfl,⟨us,rr,rv⟩,p.isList⟩
theorem k9{a:Addr}{x y:Array Value}(h1:s.heap.IsTuple a x)(h2:s.heap.IsTuple a y):x=y:=by
 obtain⟨o,e,c,n,d⟩:=h1;obtain⟨o',e',c',n',d'⟩:=h2;rw[e]at e';cases e';rw[d]at d';cases d';rfl
theorem mv{a:Addr}{x y:Array Value}(h1:s.heap.IsList a x)(h2:s.heap.IsList a y):x=y:=by
 obtain⟨o,e,c,n,d⟩:=h1;obtain⟨o',e',c',n',d'⟩:=h2;rw[e]at e';cases e';rw[d]at d';cases d';rfl
theorem kS{a:Addr}{x y:Array Value}(h1:s.heap.IsTuple a x)(h2:s.heap.IsList a y):False:=by
 obtain⟨o,e,c,n,d⟩:=h1;obtain⟨o',e',c',n',d'⟩:=h2;rw[e]at e';cases e';rw[c]at c';exact absurd c' (by decide)
theorem RL.list_inj{K:PySem.W.Frag}{n:Nat}(ih:∀{x y:PV} {u:Value},flat n x=true->flat n y=true->RD K H x u->RD K H y u->x=y){l m:List PV}{us:List Value}(h1:l.all (flat n)=true)(h2:m.all (flat n)=true)
  (r1:RL K H l us) (r2:RL K H m us):l=m:=by
 rw[FC]at h1 h2;refine List.ext_getElem? fun i=>?_;cases e:us[i]? with
 | none =>
  have:=List.getElem?_eq_none_iff.mp e;rw[Gu (by rw[←r1.length];exact this),Gu (by rw[←r2.length];exact this)]
 | some u =>
  obtain⟨x,ex,rx⟩:=r1.get e;obtain⟨y,ey,ry⟩:=r2.get e;rw[ex,ey,ih (h1 x (Fy ex)) (h2 y (Fy ey)) rx.rd ry.rd]
theorem ki(I:Inv X pins σ H s):∀(n:Nat) {x y:PV} {u:Value},flat n x=true->flat n y=true->RD X.K H x u->RD X.K H y u->x=y:=by
 have sc:∀{x:PV} {u:Value},RD X.K H x u->(∀l,x≠.fls l)->RR X.K H x u:=fun {x u} r h=>by
  cases x with
  | fls l=>exact absurd rfl (h l)
  | _=>exact r
 intro n
 induction n with
 | zero =>
  intro x y u hx hy rx ry;cases x<;>first |(cases hx;done) | skip
  all_goals cases y<;>first |(cases hy;done) | skip
  all_goals
   obtain⟨v,r1,r2⟩:=sc rx (by intro l z;cases z);obtain⟨v',r1',r2'⟩:=sc ry (by intro l z;cases z);simp only[RP]at r1 r1';subst r1;subst r1';have:=RelV.inj r2 r2'
   first | rfl |(cases this;done) |(cases this;rfl)
 | succ n ih =>
  intro x y u hx hy rx ry;cases x with
  | tup l =>
   obtain⟨a,its,rfl,rl,p⟩:=bZ I rx;cases y with
   | tup m =>
    obtain⟨b,its',e,rl',p'⟩:=bZ I ry;cases e;have:=k9 p p';have e2:its=its':=by simpa using this
    subst e2;rw[RL.list_inj (n:=n) ih hx hy rl rl']
   | fls m =>
    obtain⟨b,its',e,rl',p'⟩:=bX I ry;cases e;exact(kS p p').elim
   | ref a=>cases hy
   | oth a=>cases hy
   | _ =>
    obtain⟨v',r1',r2'⟩:=sc ry (by intro l z;cases z);simp only[RP]at r1';subst r1';simp[L2.RelV]at r2'
  | fls l =>
   obtain⟨a,its,rfl,rl,p⟩:=bX I rx;cases y with
   | tup m =>
    obtain⟨b,its',e,rl',p'⟩:=bZ I ry;cases e;exact(kS p' p).elim
   | fls m =>
    obtain⟨b,its',e,rl',p'⟩:=bX I ry;cases e;have:=mv p p';have e2:its=its':=by simpa using this
    subst e2;rw[RL.list_inj (n:=n) ih hx hy rl rl']
   | ref a=>cases hy
   | oth a=>cases hy
   | _ =>
    obtain⟨v',r1',r2'⟩:=sc ry (by intro l z;cases z);simp only[RP]at r1';subst r1';simp[L2.RelV]at r2'
  | ref a=>cases hx
  | oth a=>cases hx
  | _ =>
   cases y with
   | tup m =>
    obtain⟨b,its',e,rl',p'⟩:=bZ I ry;subst e;obtain⟨v',r1',r2'⟩:=sc rx (by intro l z;cases z);simp only[RP]at r1';subst r1';simp[L2.RelV]at r2'
   | fls m =>
    obtain⟨b,its',e,rl',p'⟩:=bX I ry;subst e;obtain⟨v',r1',r2'⟩:=sc rx (by intro l z;cases z);simp only[RP]at r1';subst r1';simp[L2.RelV]at r2'
   | ref a=>cases hy
   | oth a=>cases hy
   | _ =>
    obtain⟨v,r1,r2⟩:=sc rx (by intro l z;cases z);obtain⟨v',r1',r2'⟩:=sc ry (by intro l z;cases z);simp only[RP]at r1 r1';subst r1;subst r1';have:=RelV.inj r2 r2'
    first | rfl |(cases this;done) |(cases this;rfl)
open SeqAt in
theorem ix(I:Inv X pins σ H s):∀(n:Nat) {A:Around} {x y:PV} {u w:Value},A.units+n<cLine->flat n x=true->flat n y=true->RD X.K H x u->RD X.K H y w->EqAt A s u w (deq x y)/\RcAt A s u w (deq x y):=by
 have sc:∀{x:PV} {u:Value},RD X.K H x u->(∀l,x≠.fls l)->RR X.K H x u:=fun {x u} r h=>by
  cases x with
  | fls l=>exact absurd rfl (h l)
  | _=>exact r
 have v_non:∀{u:Value},RD X.K H .non u->u=.none:=fun {u} r=>by
  obtain⟨v,r1,r2⟩:=sc r (by intro l z;cases z);simp only[RP]at r1;subst r1;exact r2
 have v_bl:∀{b:Bool} {u:Value},RD X.K H (.bl b) u->u=.bool b:=fun {b u} r=>by
  obtain⟨v,r1,r2⟩:=sc r (by intro l z;cases z);simp only[RP]at r1;subst r1;exact r2
 have v_int:∀{i:Int} {u:Value},RD X.K H (.int i) u->∃t,u=.int i t:=fun {b u} r=>by
  obtain⟨v,r1,r2⟩:=sc r (by intro l z;cases z);simp only[RP]at r1;subst r1;exact r2
 have v_str:∀{i:Str} {u:Value},RD X.K H (.str i) u->∃t,u=.str i t:=fun {b u} r=>by
  obtain⟨v,r1,r2⟩:=sc r (by intro l z;cases z);simp only[RP]at r1;subst r1;exact r2
 intro n
 induction n with
 | zero =>
  intro A x y u w hu hx hy rx ry;cases x with
  | non =>
   rw[v_non rx];cases y with
   | non=>rw[v_non ry];exact⟨EqAt.same _,RcAt.none_none⟩
   | bl b=>rw[v_bl ry];exact⟨EqAt.none_bool b,RcAt.none_bool b⟩
   | int b=>obtain⟨t,rfl⟩:=v_int ry;exact⟨EqAt.none_int b t,RcAt.none_int b t⟩
   | str b=>obtain⟨t,rfl⟩:=v_str ry;exact⟨EqAt.none_str b t,RcAt.none_str b t⟩
   | _=>cases hy
  | bl a =>
   rw[v_bl rx];cases y with
   | non=>rw[v_non ry];exact⟨EqAt.bool_none a,RcAt.bool_none a⟩
   | bl b=>rw[v_bl ry];exact⟨EqAt.bool_bool a b,RcAt.bool_bool a b⟩
   | int b=>obtain⟨t,rfl⟩:=v_int ry;exact⟨EqAt.bool_int a b t,RcAt.bool_int a b t⟩
   | str b=>obtain⟨t,rfl⟩:=v_str ry;exact⟨EqAt.bool_str a b t,RcAt.bool_str a b t⟩
   | _=>cases hy
  | int a =>
   obtain⟨t0,rfl⟩:=v_int rx;cases y with
   | non=>rw[v_non ry];exact⟨EqAt.int_none a t0,RcAt.int_none a t0⟩
   | bl b=>rw[v_bl ry];exact⟨EqAt.int_bool a t0 b,RcAt.int_bool a t0 b⟩
   | int b=>obtain⟨t,rfl⟩:=v_int ry;exact⟨EqAt.int_int a t0 b t,RcAt.int_int a t0 b t⟩
   | str b=>obtain⟨t,rfl⟩:=v_str ry;exact⟨EqAt.int_str a t0 b t,RcAt.int_str a t0 b t⟩
   | _=>cases hy
  | str a =>
   obtain⟨t0,rfl⟩:=v_str rx;cases y with
   | non=>rw[v_non ry];exact⟨EqAt.str_none a t0,RcAt.str_none a t0⟩
   | bl b=>rw[v_bl ry];exact⟨EqAt.str_bool a t0 b,RcAt.str_bool a t0 b⟩
   | int b=>obtain⟨t,rfl⟩:=v_int ry;exact⟨EqAt.str_int a t0 b t,RcAt.str_int a t0 b t⟩
   | str b=>obtain⟨t,rfl⟩:=v_str ry;exact⟨EqAt.str_str a t0 b t,RcAt.str_str a t0 b t⟩
   | _=>cases hy
  | _=>cases hx
 | succ n ih =>
  intro A x y u w hu hx hy rx ry;have hu0:A.units<cLine:=by omega
  have hu1:A.in1.units+n<cLine:=by show A.units+1+n<cLine;omega
  cases x with
  | tup l =>
   obtain⟨a,its,rfl,rl,p⟩:=bZ I rx;cases y with
   | non=>rw[v_non ry];exact⟨EqAt.tuple_none p hu0,RcAt.tuple_none p hu0⟩
   | bl b=>rw[v_bl ry];exact⟨EqAt.tuple_bool b p hu0,RcAt.tuple_bool b p hu0⟩
   | int b=>obtain⟨t,rfl⟩:=v_int ry;exact⟨EqAt.tuple_int b t p hu0,RcAt.tuple_int b t p hu0⟩
   | str b=>obtain⟨t,rfl⟩:=v_str ry;exact⟨EqAt.tuple_str b t p hu0,RcAt.tuple_str b t p hu0⟩
   | tup m =>
    obtain⟨b,its',rfl,rl',p'⟩:=bZ I ry;have key:RcAt A s (.ref a) (.ref b) (deq (.tup l) (.tup m)):=by
     have:=RcAt.tuples (e:=fun i=>deq (l.getD i .non) (m.getD i .non)) p p' hu0 fun j h1 h2=>by
      have h1':j<its.length:=by simpa using h1
      have h2':j<its'.length:=by simpa using h2
      obtain⟨x,ex,rx'⟩:=rl.get (EY h1');obtain⟨y,ey,ry'⟩:=rl'.get (EY h2');have q:=ih hu1 (FC.mp hx x (Fy ex)) (FC.mp hy y (Fy ey)) rx'.rd ry'.rd;have e1:l.getD j .non=x:=by rw[E4,ex];rfl
      have e2:m.getD j .non=y:=by rw[E4,ey];rfl
      rw[e1,e2];simpa using q.1
     have e:deq (.tup l) (.tup m)=((List.range (min its.toArray.size its'.toArray.size)).all (fun i=>deq (l.getD i .non) (m.getD i .non))&&its.toArray.size==its'.toArray.size):=by
      simp only[deq,cf,Fe,rl.length,rl'.length]
     rw[e];exact this
    refine⟨?_,key⟩;by_cases hab:a=b
    ·subst hab;have:=ki I (n+1) hx hy rx ry;rw[←this,gm hx];exact EqAt.same _
    ·exact EqAt.of_refs hab key
   | fls m =>
    obtain⟨b,its',rfl,rl',p'⟩:=bX I ry;exact⟨EqAt.tuple_list p p' hu0,RcAt.tuple_list p p' hu0⟩
   | _=>cases hy
  | fls l =>
   obtain⟨a,its,rfl,rl,p⟩:=bX I rx;cases y with
   | non=>rw[v_non ry];exact⟨EqAt.list_none p hu0,RcAt.list_none p hu0⟩
   | bl b=>rw[v_bl ry];exact⟨EqAt.list_bool b p hu0,RcAt.list_bool b p hu0⟩
   | int b=>obtain⟨t,rfl⟩:=v_int ry;exact⟨EqAt.list_int b t p hu0,RcAt.list_int b t p hu0⟩
   | str b=>obtain⟨t,rfl⟩:=v_str ry;exact⟨EqAt.list_str b t p hu0,RcAt.list_str b t p hu0⟩
   | tup m =>
    obtain⟨b,its',rfl,rl',p'⟩:=bZ I ry;exact⟨EqAt.list_tuple p p' hu0,RcAt.list_tuple p p' hu0⟩
   | fls m =>
    obtain⟨b,its',rfl,rl',p'⟩:=bX I ry;have key:RcAt A s (.ref a) (.ref b) (deq (.fls l) (.fls m)):=by
     by_cases hs:its.length=its'.length
     ·have:=RcAt.lists (e:=fun i=>deq (l.getD i .non) (m.getD i .non)) p p' (by simpa using hs) hu0 fun j h1 h2=>by
       have h1':j<its.length:=by simpa using h1
       have h2':j<its'.length:=by simpa using h2
       obtain⟨x,ex,rx'⟩:=rl.get (EY h1');obtain⟨y,ey,ry'⟩:=rl'.get (EY h2');have q:=ih hu1 (FC.mp hx x (Fy ex)) (FC.mp hy y (Fy ey)) rx'.rd ry'.rd;have e1:l.getD j .non=x:=by rw[E4,ex];rfl
       have e2:m.getD j .non=y:=by rw[E4,ey];rfl
       rw[e1,e2];simpa using q.1
      have e:deq (.fls l) (.fls m)=(List.range its.toArray.size).all (fun i=>deq (l.getD i .non) (m.getD i .non)):=by
       have e0:l.length=m.length:=by rw[←rl.length,← rl'.length];exact hs
       simp[deq,cf,rl.length,e0]
      rw[e];exact this
     ·have e:deq (.fls l) (.fls m)=false:=by
       have e0:l.length≠m.length:=by rw[←rl.length,← rl'.length];exact hs
       simp[deq,cf,e0]
      rw[e];exact RcAt.lists_lengths p p' (by simpa using hs) hu0
    refine⟨?_,key⟩;by_cases hab:a=b
    ·subst hab;have:=ki I (n+1) hx hy rx ry;rw[←this,gm hx];exact EqAt.same _
    ·exact EqAt.of_refs hab key
   | _=>cases hy
  | ref a=>cases hx
  | oth a=>cases hx
  | non =>
   cases y with
   | tup m=>obtain⟨b,its',rfl,rl',p'⟩:=bZ I ry;rw[v_non rx];exact⟨EqAt.none_tuple p' hu0,RcAt.none_tuple p' hu0⟩
   | fls m=>obtain⟨b,its',rfl,rl',p'⟩:=bX I ry;rw[v_non rx];exact⟨EqAt.none_list p' hu0,RcAt.none_list p' hu0⟩
   | ref a=>cases hy
   | oth a=>cases hy
   | _=>exact ih (by omega) (by cases n<;>rfl) (by cases n<;>rfl) rx ry
  | bl i =>
   cases y with
   | tup m=>obtain⟨b,its',rfl,rl',p'⟩:=bZ I ry;rw[v_bl rx];exact⟨EqAt.bool_tuple i p' hu0,RcAt.bool_tuple i p' hu0⟩
   | fls m=>obtain⟨b,its',rfl,rl',p'⟩:=bX I ry;rw[v_bl rx];exact⟨EqAt.bool_list i p' hu0,RcAt.bool_list i p' hu0⟩
   | ref a=>cases hy
   | oth a=>cases hy
   | _=>exact ih (by omega) (by cases n<;>rfl) (by cases n<;>rfl) rx ry
  | int i =>
   cases y with
   | tup m=>obtain⟨b,its',rfl,rl',p'⟩:=bZ I ry;obtain⟨t,rfl⟩:=v_int rx;exact⟨EqAt.int_tuple i t p' hu0,RcAt.int_tuple i t p' hu0⟩
   | fls m=>obtain⟨b,its',rfl,rl',p'⟩:=bX I ry;obtain⟨t,rfl⟩:=v_int rx;exact⟨EqAt.int_list i t p' hu0,RcAt.int_list i t p' hu0⟩
   | ref a=>cases hy
   | oth a=>cases hy
   | _=>exact ih (by omega) (by cases n<;>rfl) (by cases n<;>rfl) rx ry
  | str i =>
   cases y with
   | tup m=>obtain⟨b,its',rfl,rl',p'⟩:=bZ I ry;obtain⟨t,rfl⟩:=v_str rx;exact⟨EqAt.str_tuple i t p' hu0,RcAt.str_tuple i t p' hu0⟩
   | fls m=>obtain⟨b,its',rfl,rl',p'⟩:=bX I ry;obtain⟨t,rfl⟩:=v_str rx;exact⟨EqAt.str_list i t p' hu0,RcAt.str_list i t p' hu0⟩
   | ref a=>cases hy
   | oth a=>cases hy
   | _=>exact ih (by omega) (by cases n<;>rfl) (by cases n<;>rfl) rx ry
end
end
section
variable {B:Bs}
section
variable {X:Cx}{pins:List (Addr×Obj)}{σ:L2.St}{H:Hp}{s:Shared}
open SeqAt in
theorem vX(I:Inv X pins σ H s):∀(n:Nat) {A:Around} {x y:PV} {u w:Value},A.units+n<cLine->flat n x=true->flat n y=true->RD X.K H x u->RD X.K H y w->RcNeAt A s u w (!deq x y):=by
 have sc:∀{x:PV} {u:Value},RD X.K H x u->(∀l,x≠.fls l)->RR X.K H x u:=fun {x u} r h=>by
  cases x with
  | fls l=>exact absurd rfl (h l)
  | _=>exact r
 have v_non:∀{u:Value},RD X.K H .non u->u=.none:=fun {u} r=>by
  obtain⟨v,r1,r2⟩:=sc r (by intro l z;cases z);simp only[RP]at r1;subst r1;exact r2
 have v_bl:∀{b:Bool} {u:Value},RD X.K H (.bl b) u->u=.bool b:=fun {b u} r=>by
  obtain⟨v,r1,r2⟩:=sc r (by intro l z;cases z);simp only[RP]at r1;subst r1;exact r2
 have v_int:∀{i:Int} {u:Value},RD X.K H (.int i) u->∃t,u=.int i t:=fun {b u} r=>by
  obtain⟨v,r1,r2⟩:=sc r (by intro l z;cases z);simp only[RP]at r1;subst r1;exact r2
 have v_str:∀{i:Str} {u:Value},RD X.K H (.str i) u->∃t,u=.str i t:=fun {b u} r=>by
  obtain⟨v,r1,r2⟩:=sc r (by intro l z;cases z);simp only[RP]at r1;subst r1;exact r2
 intro n
 induction n with
 | zero =>
  intro A x y u w hu hx hy rx ry;cases x with
  | non =>
   rw[v_non rx];cases y with
   | non=>rw[v_non ry];exact RcNeAt.none_none
   | bl b=>rw[v_bl ry];exact RcNeAt.none_bool b
   | int b=>obtain⟨t,rfl⟩:=v_int ry;exact RcNeAt.none_int b t
   | str b=>obtain⟨t,rfl⟩:=v_str ry;exact RcNeAt.none_str b t
   | _=>cases hy
  | bl a =>
   rw[v_bl rx];cases y with
   | non=>rw[v_non ry];exact RcNeAt.bool_none a
   | bl b=>rw[v_bl ry];exact RcNeAt.bool_bool a b
   | int b=>obtain⟨t,rfl⟩:=v_int ry;exact RcNeAt.bool_int a b t
   | str b=>obtain⟨t,rfl⟩:=v_str ry;exact RcNeAt.bool_str a b t
   | _=>cases hy
  | int a =>
   obtain⟨t0,rfl⟩:=v_int rx;cases y with
   | non=>rw[v_non ry];exact RcNeAt.int_none a t0
   | bl b=>rw[v_bl ry];exact RcNeAt.int_bool a t0 b
   | int b=>obtain⟨t,rfl⟩:=v_int ry;exact RcNeAt.int_int a t0 b t
   | str b=>obtain⟨t,rfl⟩:=v_str ry;exact RcNeAt.int_str a t0 b t
   | _=>cases hy
  | str a =>
   obtain⟨t0,rfl⟩:=v_str rx;cases y with
   | non=>rw[v_non ry];exact RcNeAt.str_none a t0
   | bl b=>rw[v_bl ry];exact RcNeAt.str_bool a t0 b
   | int b=>obtain⟨t,rfl⟩:=v_int ry;exact RcNeAt.str_int a t0 b t
   | str b=>obtain⟨t,rfl⟩:=v_str ry;exact RcNeAt.str_str a t0 b t
   | _=>cases hy
  | _=>cases hx
 | succ n ih =>
  intro A x y u w hu hx hy rx ry;have hu0:A.units<cLine:=by omega
  have hu1:A.in1.units+n<cLine:=by show A.units+1+n<cLine;omega
  cases x with
  | tup l =>
   obtain⟨a,its,rfl,rl,p⟩:=bZ I rx;cases y with
   | non=>rw[v_non ry];exact RcNeAt.tuple_none p hu0
   | bl b=>rw[v_bl ry];exact RcNeAt.tuple_bool b p hu0
   | int b=>obtain⟨t,rfl⟩:=v_int ry;exact RcNeAt.tuple_int b t p hu0
   | str b=>obtain⟨t,rfl⟩:=v_str ry;exact RcNeAt.tuple_str b t p hu0
   | tup m =>
    obtain⟨b,its',rfl,rl',p'⟩:=bZ I ry;have key:RcNeAt A s (.ref a) (.ref b) (!deq (.tup l) (.tup m)):=by
     have:=RcNeAt.tuples (e:=fun i=>deq (l.getD i .non) (m.getD i .non)) p p' hu0 fun j h1 h2=>by
      have h1':j<its.length:=by simpa using h1
      have h2':j<its'.length:=by simpa using h2
      obtain⟨x,ex,rx'⟩:=rl.get (EY h1');obtain⟨y,ey,ry'⟩:=rl'.get (EY h2');have q:=ix I n hu1 (FC.mp hx x (Fy ex)) (FC.mp hy y (Fy ey)) rx'.rd ry'.rd;have e1:l.getD j .non=x:=by rw[E4,ex];rfl
      have e2:m.getD j .non=y:=by rw[E4,ey];rfl
      rw[e1,e2];simpa using q.1
     have e:deq (.tup l) (.tup m)=((List.range (min its.toArray.size its'.toArray.size)).all (fun i=>deq (l.getD i .non) (m.getD i .non))&&its.toArray.size==its'.toArray.size):=by
      simp only[deq,cf,Fe,rl.length,rl'.length]
     rw[e];exact this
    exact key
   | fls m =>
    obtain⟨b,its',rfl,rl',p'⟩:=bX I ry;exact RcNeAt.tuple_list p p' hu0
   | _=>cases hy
  | fls l =>
   obtain⟨a,its,rfl,rl,p⟩:=bX I rx;cases y with
   | non=>rw[v_non ry];exact RcNeAt.list_none p hu0
   | bl b=>rw[v_bl ry];exact RcNeAt.list_bool b p hu0
   | int b=>obtain⟨t,rfl⟩:=v_int ry;exact RcNeAt.list_int b t p hu0
   | str b=>obtain⟨t,rfl⟩:=v_str ry;exact RcNeAt.list_str b t p hu0
   | tup m =>
    obtain⟨b,its',rfl,rl',p'⟩:=bZ I ry;exact RcNeAt.list_tuple p p' hu0
   | fls m =>
    obtain⟨b,its',rfl,rl',p'⟩:=bX I ry;have key:RcNeAt A s (.ref a) (.ref b) (!deq (.fls l) (.fls m)):=by
     by_cases hs:its.length=its'.length
     ·have:=RcNeAt.lists (e:=fun i=>deq (l.getD i .non) (m.getD i .non)) p p' (by simpa using hs) hu0 fun j h1 h2=>by
       have h1':j<its.length:=by simpa using h1
       have h2':j<its'.length:=by simpa using h2
       obtain⟨x,ex,rx'⟩:=rl.get (EY h1');obtain⟨y,ey,ry'⟩:=rl'.get (EY h2');have q:=ix I n hu1 (FC.mp hx x (Fy ex)) (FC.mp hy y (Fy ey)) rx'.rd ry'.rd;have e1:l.getD j .non=x:=by rw[E4,ex];rfl
       have e2:m.getD j .non=y:=by rw[E4,ey];rfl
       rw[e1,e2];simpa using q.1
      have e:deq (.fls l) (.fls m)=(List.range its.toArray.size).all (fun i=>deq (l.getD i .non) (m.getD i .non)):=by
       have e0:l.length=m.length:=by rw[←rl.length,← rl'.length];exact hs
       simp[deq,cf,rl.length,e0]
      rw[e];exact this
     ·have e:deq (.fls l) (.fls m)=false:=by
       have e0:l.length≠m.length:=by rw[←rl.length,← rl'.length];exact hs
       simp[deq,cf,e0]
      rw[e];exact RcNeAt.lists_lengths p p' (by simpa using hs) hu0
    exact key
   | _=>cases hy
  | ref a=>cases hx
  | oth a=>cases hx
  | non =>
   cases y with
   | tup m=>obtain⟨b,its',rfl,rl',p'⟩:=bZ I ry;rw[v_non rx];exact RcNeAt.none_tuple p' hu0
   | fls m=>obtain⟨b,its',rfl,rl',p'⟩:=bX I ry;rw[v_non rx];exact RcNeAt.none_list p' hu0
   | ref a=>cases hy
   | oth a=>cases hy
   | _=>exact ih (by omega) (by cases n<;>rfl) (by cases n<;>rfl) rx ry
  | bl i =>
   cases y with
   | tup m=>obtain⟨b,its',rfl,rl',p'⟩:=bZ I ry;rw[v_bl rx];exact RcNeAt.bool_tuple i p' hu0
   | fls m=>obtain⟨b,its',rfl,rl',p'⟩:=bX I ry;rw[v_bl rx];exact RcNeAt.bool_list i p' hu0
   | ref a=>cases hy
   | oth a=>cases hy
   | _=>exact ih (by omega) (by cases n<;>rfl) (by cases n<;>rfl) rx ry
  | int i =>
   cases y with
   | tup m=>obtain⟨b,its',rfl,rl',p'⟩:=bZ I ry;obtain⟨t,rfl⟩:=v_int rx;exact RcNeAt.int_tuple i t p' hu0
   | fls m=>obtain⟨b,its',rfl,rl',p'⟩:=bX I ry;obtain⟨t,rfl⟩:=v_int rx;exact RcNeAt.int_list i t p' hu0
   | ref a=>cases hy
   | oth a=>cases hy
   | _=>exact ih (by omega) (by cases n<;>rfl) (by cases n<;>rfl) rx ry
  | str i =>
   cases y with
   | tup m=>obtain⟨b,its',rfl,rl',p'⟩:=bZ I ry;obtain⟨t,rfl⟩:=v_str rx;exact RcNeAt.str_tuple i t p' hu0
   | fls m=>obtain⟨b,its',rfl,rl',p'⟩:=bX I ry;obtain⟨t,rfl⟩:=v_str rx;exact RcNeAt.str_list i t p' hu0
   | ref a=>cases hy
   | oth a=>cases hy
   | _=>exact ih (by omega) (by cases n<;>rfl) (by cases n<;>rfl) rx ry
def RDv(K:PySem.W.Frag)(H:Hp)(d:PV)(x:V):Prop:=match d with
 | .fls l=>∃a vs,x=.ref a/\SqL K H a vs/\RPs K H l vs
 | d=>RP K H d x
theorem RDv.rd{K:PySem.W.Frag}{d:PV}{x:V}{u:Value}(h:RDv K H d x)(r:L2.RelV x u):RD K H d u:=by
 cases d with
 | fls l=>obtain⟨a,vs,rfl,q,rr⟩:=h;cases r;exact⟨a,vs,rfl,q,rr⟩
 | _=>exact⟨x,h,r⟩
def c8(x:PV)(H:PHp)(k:PV->Prop):Prop:=match x with
 | .ref a=>∃l,H a=some (.lst l)/\k (.fls l)
 | x=>k x
theorem c8.ex{K:PySem.W.Frag}{σ':St'}{x:PV}{v:V}{H':PHp}{k:PV->Prop}(h:c8 x H' k)(s:SR K B σ' H' σ H)(r:RP K H x v):∃d,RDv K H d v/\k d:=by
 cases x with
 | ref a =>
  obtain⟨l,e,h⟩:=h;obtain⟨us,q,r2⟩:=s.hp _ _ e;simp only[RP]at r;exact⟨.fls l,⟨a,us,r,SqL.of q,r2⟩,h⟩
 | fls l =>
  simp only[RP]at r;obtain⟨a,us,e,q,r⟩:=r;exact⟨.fls l,⟨a,us,e,q.sq,r⟩,h⟩
 | non=>exact⟨.non,r,h⟩
 | bl b=>exact⟨.bl b,r,h⟩
 | int b=>exact⟨.int b,r,h⟩
 | str b=>exact⟨.str b,r,h⟩
 | tup b=>exact⟨.tup b,r,h⟩
 | oth b=>exact⟨.oth b,r,h⟩
def zK(K:PySem.W.Frag)(g:Bool->Bool):R2:=fun x y H Q=>∃d1 d2,flat 9 d1=true/\flat 9 d2=true/\RDv K H d1 x/\RDv K H d2 y/\Q (.bl (g (deq d1 d2))) H
theorem aM(hu:X.A.units+64<cLine):OpR X (compareOp .Eq) (zK X.K fun b=>b):=by
 intro pins s σ H x y v u Q I rx ry h;obtain⟨d1,d2,f1,f2,r1,r2,q⟩:=h;exact(ix I 9 (by omega) f1 f2 (r1.rd rx) (r2.rd ry)).2 _ _ _ _ ⟨.bl _,H,I,rfl,q⟩
theorem cg(hu:X.A.units+64<cLine):OpR X (compareOp .NotEq) (zK X.K fun b=>!b):=by
 intro pins s σ H x y v u Q I rx ry h;obtain⟨d1,d2,f1,f2,r1,r2,q⟩:=h;exact vX I 9 (by omega) f1 f2 (r1.rd rx) (r2.rd ry) _ _ _ _ ⟨.bl _,H,I,rfl,q⟩
def AB(g:Bool->Bool):R2':=fun x y H Q=>c8 x H fun d1=>c8 y H fun d2=>flat 9 d1=true/\flat 9 d2=true/\Q (.bl (g (deq d1 d2))) H
theorem aN{K:PySem.W.Frag}{g:Bool->Bool}:VR K B (AB g) (zK K g):=by
 intro σ' σ H' H x' y' x y Q' Q s rx ry h k;obtain⟨d1,r1,h1⟩:=c8.ex h s rx;obtain⟨d2,r2,f1,f2,q⟩:=c8.ex h1 s ry;exact⟨d1,d2,f1,f2,r1,r2,k _ H' _ H q (by simp[RP]) s (Ev.refl _ _)⟩
def zR(K:PySem.W.Frag)(g:Bool->Bool):R2:=fun x y H Q=>∃d p l us,flat 8 d=true/\RDv K H d x/\y=.ref p/\l.all (flat 8)=true/\RPs K H l us/\(SqL K H p us∨SqT K H p us)/\Q (.bl (g (l.any fun z=>deq z d))) H
open Classical in
theorem gi(I:Inv X pins σ H s){A:Around}{d:PV}{v:Value}{l:List PV}{its:List Value}(hu:A.units+20<cLine)(fd:flat 8 d=true)(rd:RD X.K H d v)(fl:l.all (flat 8)=true)(rl:RL X.K H l its) :
  ∃e:Value->Bool,(∀y,y∈its.toArray->SeqAt.EqAt A.in1 s y v (e y))/\its.toArray.any e=l.any fun z=>deq z d:=by
 refine⟨fun u=>decide (∃z,flat 8 z=true/\RD X.K H z u/\deq z d=true),fun y hy=>?_,?_⟩
 ·have hy':y∈its:=by simpa using hy
  obtain⟨i,hi⟩:=List.mem_iff_getElem?.mp hy';obtain⟨z,ez,rz⟩:=rl.get hi;have fz:=FC.mp fl z (Fy ez);have q:=(ix I 8 (A:=A.in1) (by show A.units+1+8<cLine;omega) fz fd rz.rd rd).1;have e:decide (∃z,flat 8 z=true/\RD X.K H z y/\deq z d=true)=deq z d:=by
   rw[Gq,decide_eq_true_iff];constructor
   ·rintro⟨z',f',r',e'⟩;rw[ki I 8 fz f' rz.rd r'];exact e'
   ·intro e;exact⟨z,fz,rz.rd,e⟩
  show SeqAt.EqAt A.in1 s y v (decide _);rw[e];exact q
 ·rw[Gq];simp only[List.any_toArray,GN,decide_eq_true_iff];constructor
  ·rintro⟨u,hu',z,fz,rz,ez⟩;obtain⟨i,hi⟩:=List.mem_iff_getElem?.mp hu';obtain⟨z2,ez2,rz2⟩:=rl.get hi;have fz2:=FC.mp fl z2 (Fy ez2);refine⟨z2,Fy ez2,?_⟩;rw[ki I 8 fz2 fz rz2.rd rz];exact ez
  ·rintro⟨z,hz,ez⟩;obtain⟨i,hi⟩:=List.mem_iff_getElem?.mp hz;have hlt:i<its.length:=by
    have:=(E6.mp hi).1;rw[rl.length];exact this
   obtain⟨z2,ez2,rz2⟩:=rl.get (EY hlt);rw[hi]at ez2;cases ez2;exact⟨_,Ft hlt,z,FC.mp fl z hz,rz2.rd,ez⟩
theorem bB(hu:X.A.units+64<cLine):OpR X (compareOp .In) (zR X.K fun b=>b):=by
 intro pins s σ H x y v u Q I rx ry h;obtain⟨d,p,l,us,fd,rd,rfl,fl,rl,hq,q⟩:=h;cases ry;rcases hq with hq | hq
 ·obtain⟨its,rv,pl,_⟩:=I.list hq;obtain⟨e,h1,h2⟩:=gi I (A:=X.A) (by omega) fd (rd.rd rx) fl ⟨us,rl,rv⟩;exact SeqAt.in_listAt e pl.isList h1 (by rw[h2];exact⟨.bl _,H,I,rfl,q⟩)
 ·obtain⟨its,rv,pl,_⟩:=I.tuple hq;obtain⟨e,h1,h2⟩:=gi I (A:=X.A) (by omega) fd (rd.rd rx) fl ⟨us,rl,rv⟩;exact SeqAt.in_tupleAt e pl h1 (by rw[h2];exact⟨.bl _,H,I,rfl,q⟩)
theorem bP(hu:X.A.units+64<cLine):OpR X (compareOp .NotIn) (zR X.K fun b=>!b):=by
 intro pins s σ H x y v u Q I rx ry h;obtain⟨d,p,l,us,fd,rd,rfl,fl,rl,hq,q⟩:=h;cases ry;rcases hq with hq | hq
 ·obtain⟨its,rv,pl,_⟩:=I.list hq;obtain⟨e,h1,h2⟩:=gi I (A:=X.A) (by omega) fd (rd.rd rx) fl ⟨us,rl,rv⟩;exact SeqAt.notIn_listAt e pl.isList h1 (by rw[h2];exact⟨.bl _,H,I,rfl,q⟩)
 ·obtain⟨its,rv,pl,_⟩:=I.tuple hq;obtain⟨e,h1,h2⟩:=gi I (A:=X.A) (by omega) fd (rd.rd rx) fl ⟨us,rl,rv⟩;exact SeqAt.notIn_tupleAt e pl h1 (by rw[h2];exact⟨.bl _,H,I,rfl,q⟩)
def BB(g:Bool->Bool):R2':=fun x y H Q=>c8 x H fun d=>cK y H fun l=>flat 8 d=true/\l.all (flat 8)=true/\Q (.bl (g (l.any fun z=>deq z d))) H
theorem bu{K:PySem.W.Frag}{g:Bool->Bool}:VR K B (BB g) (zR K g):=by
 intro σ' σ H' H x' y' x y Q' Q s rx ry h k;obtain⟨d1,r1,h1⟩:=c8.ex h s rx;obtain⟨l,us,p,rfl,r2,hq,f1,f2,q⟩:=cK.ex h1 s ry;exact⟨d1,p,l,us,f1,r1,rfl,f2,r2,hq,k _ H' _ H q (by simp[RP]) s (Ev.refl _ _)⟩
def tG(g:Bool->Bool):R2':=fun x y H Q=>match y,x with
 | .non,.non=>Q (.bl (g true)) H
 | .non,.oth _=>False
 | .non,_=>Q (.bl (g false)) H
 | _,_=>False
inductive BT where | non | bool | int | str | list | tuple
def BT.nm:BT->String | .non=>"NoneType" | .bool=>"bool" | .int=>"int" | .str=>"str" | .list=>"list" | .tuple=>"tuple"
def BT.sub:BT->BT->Bool
 | .non,.non=>true | .bool,.bool=>true | .int,.int=>true | .str,.str=>true | .list,.list=>true | .tuple,.tuple=>true
 | .bool,.int=>true
 | _,_=>false
def dG(x:PV)(H:PHp)(k:BT->Prop):Prop:=match x with
 | .non=>k .non
 | .bl _=>k .bool
 | .int _=>k .int
 | .str _=>k .str
 | .tup _=>k .tuple
 | .fls _=>k .list
 | .ref a=>∃l,H a=some (.lst l)/\k .list
 | _=>False
def EK(c:BT):List PV->PHp->VK'->Prop:=fun xs H Q=>match xs with
 | [x,.oth (.ty n)]=>n=c.nm/\dG x H fun t=>Q (.bl (t.sub c)) H
 | _=>False
variable {e o:Expr}{es:List Expr}{to:TE'}{t:TA'}{name:Str}{apos cpos:Pos}
def isL(x:PV)(H1:PHp):Prop:=match x with
 | .ref a=>∃l,H1 a=some (.lst l)
 | _=>False
def uBM(r:PV->List PV->PHp->VK'->Prop)(to:TE')(t:TA'):TE':=fun σ H Q=>to σ H fun x H1=>isL x H1/\t σ H1 fun xs H2=>r x xs H2 Q
def Ce(r:PV->List PV->PHp->VK'->Prop)(to:TE'):TE':=fun σ H Q=>to σ H fun x H1=>r x [] H1 Q
def VM(K:PySem.W.Frag)(B:Bs)(r':PV->List PV->PHp->VK'->Prop)(r:V->List V->Hp->VK->Prop):Prop:=∀(σ':St') (σ:L2.St) (H':PHp) (H:Hp) x' xs' x xs (Q':VK') (Q:VK),SR K B σ' H' σ H->RP K H x' x->RPs K H xs' xs->r' x' xs' H' Q' ->
 (∀v' H1' v H1,Q' v' H1'->RP K H1 v' v->SR K B σ' H1' σ H1->Ev H' H H1' H1->Q v H1)->r x xs H Q
theorem x5{K:PySem.W.Frag}{r':PV->List PV->PHp->VK'->Prop}{r:V->List V->Hp->VK->Prop}(v:VM K B r' r){σ:L2.St}{H:Hp}{Q:VK}(h:low K B (uBM r' to t) σ H Q):tBM K "list" r (low K B to) (uv K B t) σ H Q:=by
 obtain⟨σ',H',Q',s,h,k⟩:=h;refine⟨σ',H',_,s,h,fun x' H1' x H1 h1 rx s1 e1=>?_⟩;obtain⟨ty,h1⟩:=h1;constructor
 ·cases x' with
  | ref a =>
   obtain⟨l,e⟩:=ty;obtain⟨us,q,_⟩:=s1.hp _ _ e;simp only[RP]at rx;subst rx;exact .inl ⟨rfl,us,SqL.of q⟩
  | _=>exact ty.elim
 ·refine⟨σ',H1',_,s1,h1,fun xs' H2' xs H2 h2 r2 s2 e2=>?_⟩;exact v σ' σ H2' H2 x' xs' x xs Q' Q s2 (RP.kp K (e2.kp s1.hp) rx) r2 h2 fun v' H3' v H3 q rv s3 e3=>k v' H3' v H3 q rv s3 (e1.trans (e2.trans e3))
theorem cA{id:String}{r':PV->List PV->PHp->VK'->Prop}{r:V->List V->Hp->VK->Prop}(slot:Slot "list" name id)(hty:typeOf (.builtin id)=pure (.type "method_descriptor"))(hm:MtR X id r)(v:VM X.K B r' r)(ho:PE' X B o to)(ha:PA' X B (e::es) t)
  (hbase:attributeBase o name X.env (eval o X.env)=eval o X.env:=by rfl)
  (hfew:((backTo cpos (starEach (e::es) X.env)).all (fun x=>!x.1)&&(backToKw cpos (keywordEach [] X.env)).all (fun x=>x.1.isSome)
   && decide ((e::es).length+([]:List Keyword).length+(if ([]:List Keyword).isEmpty then 0 else 1)<30))=true:=by rfl)
  (hline:(apos.endLine==cpos.line)=true:=by rfl) (hs:starEach (e::es) X.env=(false,eval e X.env)::starEach es X.env:=by rfl) (hplain:(backTo cpos (starEach es X.env)).any (·.1)=false:=by rfl) :
  PE' X B (.Call (.Attribute o name apos) (e::es) [] cpos) (uBM r' to t):=a8 (B3 PySem.F.plainAttrs_list slot hty hm ho ha hbase hfew hline hs hplain) fun _ _ _ h=>x5 v h
theorem yM{id:String}{r':PV->List PV->PHp->VK'->Prop}{r:V->List V->Hp->VK->Prop}(slot:Slot "list" name id)(hty:typeOf (.builtin id)=pure (.type "method_descriptor"))(hm:MtR X id r)(v:VM X.K B r' r)
  (hl:∀x H Q,r' x [] H Q->match x with | .ref a=>∃l,H a=some (.lst l) | _=>False) (ho:PE' X B o to)
  (hbase:attributeBase o name X.env (eval o X.env)=eval o X.env:=by rfl) (hline:(apos.endLine==cpos.line)=true:=by rfl) :
  PE' X B (.Call (.Attribute o name apos) [] [] cpos) (Ce r' to):=a8 (yW PySem.F.plainAttrs_list slot hty hm ho hbase hline) fun σ H Q h=>by
 obtain⟨σ',H',Q',s,h,k⟩:=h;refine⟨σ',H',_,s,h,fun x' H1' x H1 h1 rx s1 e1=>?_⟩;constructor
 ·have ty:=hl _ _ _ h1;cases x' with
  | ref a =>
   obtain⟨l,e⟩:=ty;obtain⟨us,q,_⟩:=s1.hp _ _ e;simp only[RP]at rx;subst rx;exact .inl ⟨rfl,us,SqL.of q⟩
  | _=>exact ty.elim
 ·exact v σ' σ H1' H1 x' [] x [] Q' Q s1 rx (RPs.nil _) h1 fun v' H3' v H3 q rv s3 e3=>k v' H3' v H3 q rv s3 (e1.trans e3)
def jZ:PV->List PV->PHp->VK'->Prop:=fun x vs H Q=>match x,vs with
 | .ref a,[y]=>∃l,H a=some (.lst l)/\l.length<sizeLine/\Q .non (put H a (.lst (l++[y])))
 | _,_=>False
theorem bg{K:PySem.W.Frag}:VM K B jZ n5:=by
 intro σ' σ H' H x' xs' x xs Q' Q s rx r h k;unfold jZ at h;split at h
 ·rename_i a y;obtain⟨l,e,hl,h⟩:=h;obtain⟨us,q,r2⟩:=s.hp _ _ e;simp only[RP,RPs]at rx r;obtain⟨u,r1,rfl,ru,rfl⟩:=r;subst rx;exact⟨a,us,u,rfl,rfl,q,by rw[RPs.length _ r2];exact hl,k _ _ _ _ h (by simp[RP]) (s.wr e (wrL s.hp e (RPs.append _ r2 (RPs.cons _ ru (RPs.nil _))))) (Ev.wr e)⟩
 ·exact h.elim
def uR:PV->List PV->PHp->VK'->Prop:=fun x vs H Q=>match x,vs with
 | .ref a,[.ref b]=>∃l m,H a=some (.lst l)/\H b=some (.lst m)/\l.length+m.length≤sizeLine/\Q .non (put H a (.lst (l++m)))
 | _,_=>False
def wb:PV->List PV->PHp->VK'->Prop:=fun x vs H Q=>match x,vs with
 | .ref a,[]=>∃l y,H a=some (.lst l)/\l[l.length - 1]?=some y/\Q y (put H a (.lst l.dropLast))
 | _,_=>False
theorem z3{K:PySem.W.Frag}:VM K B wb B7:=by
 intro σ' σ H' H x' xs' x xs Q' Q s rx r h k;unfold wb at h;split at h
 ·rename_i a;obtain⟨l,y,e,hl,h⟩:=h;obtain⟨us,q,r2⟩:=s.hp _ _ e;simp only[RP,RPs]at rx r;subst rx;subst r;obtain⟨u,e1,e2⟩:=RPs.get _ r2 hl;exact⟨a,us,u,rfl,rfl,q,by rw[RPs.length _ r2];exact e1,k _ _ _ _ h (RP.kp _ (s.hp.kpw e) e2) (s.wr e (wrL s.hp e (RPs.dropLast _ r2))) (Ev.wr e)⟩
 ·exact h.elim
end
end
section
variable {B:Bs}
theorem pH(lo:Int)(n i:Nat)(h:i<n):(b7 lo n).drop i=PV.int (lo+(i:Nat))::(b7 lo n).drop (i+1):=by
 have hl:i<(b7 lo n).length:=by simpa[b7]using h
 rw[Ge hl];simp[b7]
theorem uo(lo:Int)(n:Nat):(b7 lo n).drop n=[]:=by
 apply List.drop_of_length_le;simp[b7]
theorem dP{ok:PHp->Prop}{g:TG'}{tb:TS'}{D:fw}{lo:Int}{n:Nat}(Pv:Nat->St'->PHp->Prop)(hd:∀σ H,Pv n σ H->ok H/\D.nx σ H)
  (hs:∀(G:St'->PHp->Prop) i σ H,i<n->Pv i σ H->(∀σ' H',Pv (i+1) σ' H'->G σ' H')->ok H/\g (.int (lo+(i:Nat))) σ H fun σ2 H2=>tb { D with nx:=G,ct:=G,bk:=D.nx } σ2 H2)
  {σ:St'} {H:PHp} (h0:Pv 0 σ H):fR ok g tb D (b7 lo n) σ H:=by
 have key:∀(k i:Nat) {σ:St'} {H:PHp},i+k=n->Pv i σ H->fR ok g tb D ((b7 lo n).drop i) σ H:=by
  intro k
  induction k with
  | zero =>
   intro i σ H hk p;have:i=n:=hk;subst this;rw[uo];exact hd σ H p
  | succ k ih =>
   intro i σ H hk p;have hi:i<n:=hk▸Nat.lt_add_of_pos_right (Nat.succ_pos k);rw[pH lo n i hi];exact hs _ i σ H hi p fun σ' H' p'=>ih (i+1) ((Nat.succ_add_eq_add_succ i k).trans hk) p'
 exact key n 0 (Nat.zero_add n) h0
theorem b9{ok:PHp->Prop}{g:TG'}{tb:TS'}{D:fw}{xs:List PV}(Pv:Nat->St'->PHp->Prop)(hd:∀σ H,Pv xs.length σ H->ok H/\D.nx σ H)
  (hs:∀(G:St'->PHp->Prop) i x σ H,xs[i]?=some x->Pv i σ H->(∀σ' H',Pv (i+1) σ' H'->G σ' H')->ok H/\g x σ H fun σ2 H2=>tb { D with nx:=G,ct:=G,bk:=D.nx } σ2 H2)
  {σ:St'} {H:PHp} (h0:Pv 0 σ H):fR ok g tb D xs σ H:=by
 have key:∀(k i:Nat) {σ:St'} {H:PHp},xs.length - i=k->i≤xs.length->Pv i σ H->fR ok g tb D (xs.drop i) σ H:=by
  intro k
  induction k with
  | zero =>
   intro i σ H hk hi p;have:i=xs.length:=by omega
   subst this;rw[List.drop_length];exact hd σ H p
  | succ k ih =>
   intro i σ H hk hi p;have hl:i<xs.length:=by omega
   rw[Ge hl];exact hs _ i _ σ H (EY hl) p fun σ' H' p'=>ih (i+1) (by omega) (by omega) p'
 have:=key xs.length 0 (by omega) (by omega) h0;simpa using this
theorem vL{m:List Int}{z:Int}(h0:0≤z)(h1:z<m.length):atI (m.map PV.int) z=some (.int (m.getD z.toNat 0)):=by
 unfold atI ixN;rw[Fp h0,EW,Fp h1];show(m.map PV.int)[z.toNat]?=_;rw[FN,E4];have:z.toNat<m.length:=by omega
 rw[EY this];rfl
theorem my(xs:List PV)(k:Nat):cC xs none (some (k:Int))=xs.take k:=by
 unfold cC;rw[HT.d5,HT.h9,List.drop_zero,Nat.sub_zero];rw[List.take_eq_take_iff];omega
theorem w_V{v:PV}{k:PV->Prop}:k4 (some (some v)) k=k v:=rfl
theorem w_B{b:Bool}{k:Bool->Prop}:eP (.bl b) k=k b:=rfl
theorem w_I{b:Int}{k:Int->Prop}:cz (.int b) k=k b:=rfl
theorem w_O{b:PV}{k:PV->Prop}:eE (some b) k=k b:=rfl
theorem CZ{l:List PV}{H:PHp}{k:List PV->Prop}:cK (.tup l) H k=k l:=rfl
theorem Dt{l:List PV}{H:PHp}{k:List PV->Prop}:cK (.fls l) H k=k l:=rfl
theorem EM{a:Addr}{H:PHp}{k:List PV->Prop}:cK (.ref a) H k=∃l,H a=some (.lst l)/\k l:=rfl
theorem CT{a:Addr}{H:PHp}{k:PV->Prop}:c8 (.ref a) H k=∃l,H a=some (.lst l)/\k (.fls l):=rfl
theorem EI{H:PHp}{k:PV->Prop}:c8 .non H k=k .non:=rfl
theorem Ep{b:Bool}{H:PHp}{k:PV->Prop}:c8 (.bl b) H k=k (.bl b):=rfl
theorem D4{b:Int}{H:PHp}{k:PV->Prop}:c8 (.int b) H k=k (.int b):=rfl
theorem Cz{b:Str}{H:PHp}{k:PV->Prop}:c8 (.str b) H k=k (.str b):=rfl
theorem EE{b:List PV}{H:PHp}{k:PV->Prop}:c8 (.tup b) H k=k (.tup b):=rfl
theorem DS{b:List PV}{H:PHp}{k:PV->Prop}:c8 (.fls b) H k=k (.fls b):=rfl
theorem C0{H:PHp}{k:BT->Prop}:dG .non H k=k .non:=rfl
theorem Eu{b:Bool}{H:PHp}{k:BT->Prop}:dG (.bl b) H k=k .bool:=rfl
theorem Df{b:Int}{H:PHp}{k:BT->Prop}:dG (.int b) H k=k .int:=rfl
theorem D3{b:Str}{H:PHp}{k:BT->Prop}:dG (.str b) H k=k .str:=rfl
theorem CK{b:List PV}{H:PHp}{k:BT->Prop}:dG (.tup b) H k=k .tuple:=rfl
theorem CC{b:List PV}{H:PHp}{k:BT->Prop}:dG (.fls b) H k=k .list:=rfl
theorem Ct{a:Addr}{H:PHp}{k:BT->Prop}:dG (.ref a) H k=∃l,H a=some (.lst l)/\k .list:=rfl
theorem EU{b:Int}{k:Int->Prop}:intOf (.int b) k=k b:=rfl
theorem DL{b:Bool}{k:Int->Prop}:intOf (.bl b) k=k (b2n b):=rfl
theorem Dq{l:List PV}{lo hi:Option Int}{H:PHp}{Q:VK'}:sliceOf (.fls l) lo hi H Q=∀p,H p=none->Q (.ref p) (put H p (.lst (cC l lo hi))):=rfl
theorem C4{a:Addr}{lo hi:Option Int}{H:PHp}{Q:VK'}:sliceOf (.ref a) lo hi H Q=∃l,H a=some (.lst l)/\∀p,H p=none->Q (.ref p) (put H p (.lst (cC l lo hi))):=rfl
theorem Ex{l:List PV}{lo hi:Option Int}{H:PHp}{Q:VK'}:sliceOf (.tup l) lo hi H Q=(¬(HT.sIx l.length 0 lo=0/\HT.sIx l.length l.length hi=l.length)/\Q (.tup (cC l lo hi)) H):=rfl
theorem CG{l:List PV}{H:PHp}{R:It'->PHp->Prop}:tm (.tup l) H R=R ⟨l,fun _=>True⟩ H:=rfl
theorem Dw{l:List PV}{H:PHp}{R:It'->PHp->Prop}:tm (.fls l) H R=R ⟨l,fun _=>True⟩ H:=rfl
theorem DX{a:Addr}{H:PHp}{R:It'->PHp->Prop}:tm (.ref a) H R=∃l,H a=some (.lst l)/\R ⟨l,fun H=>H a=some (.lst l)⟩ H:=rfl
theorem w_1{f:PV->PHp->VK'->Prop}{x:PV}{H:PHp}{Q:VK'}:c9 f [x] H Q=f x H Q:=rfl
theorem BE{c:BT}{x:PV}{n:String}{H:PHp}{Q:VK'}:EK c [x,.oth (.ty n)] H Q=(n=c.nm/\dG x H fun t=>Q (.bl (t.sub c)) H):=rfl
theorem C7{g:Bool->Bool}{H:PHp}{Q:VK'}:tG g .non .non H Q=Q (.bl (g true)) H:=rfl
theorem CN{g:Bool->Bool}{a:Addr}{H:PHp}{Q:VK'}:tG g (.ref a) .non H Q=Q (.bl (g false)) H:=rfl
theorem D1{g:Bool->Bool}{l:List PV}{H:PHp}{Q:VK'}:tG g (.tup l) .non H Q=Q (.bl (g false)) H:=rfl
theorem ET{g:Bool->Bool}{l:Int}{H:PHp}{Q:VK'}:tG g (.int l) .non H Q=Q (.bl (g false)) H:=rfl
theorem EH{g:Bool->Bool}{l:Bool}{H:PHp}{Q:VK'}:tG g (.bl l) .non H Q=Q (.bl (g false)) H:=rfl
theorem CI{n:Nat}{t:hV}{l:List PV}{σ:St'}{H:PHp}{Q:St'->PHp->Prop}:AD n t (.tup l) σ H Q=(l.length=n/\t l σ H Q):=rfl
theorem D0{t:TG'}{u:hV}{v:PV}{r:List PV}{σ:St'}{H:PHp}{Q:St'->PHp->Prop}:wX t u (v::r) σ H Q=t v σ H fun σ' H'=>u r σ' H' Q:=rfl
theorem C1{σ:St'}{H:PHp}{Q:St'->PHp->Prop}:y8 [] σ H Q=(True/\Q σ H):=by simp[y8]
theorem Cv{t:TA'}{σ:St'}{H:PHp}{R:It'->PHp->Prop}:wW t σ H R=t σ H fun vs H1=>uK vs H1 R:=rfl
theorem AW{j:Int}{H1:PHp}{R:It'->PHp->Prop}:uK [.int j] H1 R=((-(2 ^ 62)≤j/\j<2 ^ 62)/\R ⟨b7 0 j.toNat,fun _=>True⟩ H1):=rfl
theorem De{t:TA'}{σ:St'}{H:PHp}{R:It'->PHp->Prop}:xq t σ H R=t σ H fun vs H1=>vR vs H1 R:=rfl
theorem Az{i j:Int}{H1:PHp}{R:It'->PHp->Prop}:vR [.int i,.int j] H1 R=((-(2 ^ 62)≤i/\i<2 ^ 62/\-(2 ^ 62)≤j/\j<2 ^ 62)/\R ⟨b7 i (j - i).toNat,fun _=>True⟩ H1):=rfl
theorem Ed{a:Addr}{y:PV}{H:PHp}{Q:VK'}:jZ (.ref a) [y] H Q=∃l,H a=some (.lst l)/\l.length<sizeLine/\Q .non (put H a (.lst (l++[y]))):=rfl
theorem EL{a b:Addr}{H:PHp}{Q:VK'}:uR (.ref a) [.ref b] H Q=∃l m,H a=some (.lst l)/\H b=some (.lst m)/\l.length+m.length≤sizeLine/\Q .non (put H a (.lst (l++m))):=rfl
theorem EC{a:Addr}{H:PHp}{Q:VK'}:wb (.ref a) [] H Q=∃l y,H a=some (.lst l)/\l[l.length - 1]?=some y/\Q y (put H a (.lst l.dropLast)):=rfl
theorem DQ{r:PV->List PV->PHp->VK'->Prop}{to:TE'}{t:TA'}{σ:St'}{H:PHp}{Q:VK'}:uBM r to t σ H Q=to σ H fun x H1=>isL x H1/\t σ H1 fun xs H2=>r x xs H2 Q:=rfl
theorem Dh{a:Addr}{H:PHp}:isL (.ref a) H=∃l,H a=some (.lst l):=rfl
theorem ag{n:Nat}(h:n≤1000):n≤sizeLine:=GZ (a5 h)
end
section
theorem ak{t u:TS'}{D:fw}{σ:St'}{H:PHp}(h:∀R:TS',R=u->vJ t R D σ H):vJ t u D σ H:=h u rfl
end
section
variable {B:Bs}
section
variable {X:Cx}{pins:List (Addr×Obj)}{σ:L2.St}{H H':Hp}{s:Shared}{h':Heap}{a C T:Addr}{fl:Value}
variable {M:Model}{E:Value->Shared->Prop}{Q:Unit->Shared->Prop}
end
end
end U
namespace U
open L2 PySem.W
section
variable {prog:Program}{w:World}{A:Around}{E:Value->Shared->Prop}{h:Heap}{g:Array GenState}{d:Drawn}{t:Nat}{os:OsState}{a C:Addr}{o:Obj}{K:Frag}
end
end U
namespace U
open L2
section
variable {B:Bs}
section
variable {P:Program}{w:World}{K:PySem.W.Frag}{mg:Str->Option Value}{base:Heap}
end
section
variable {X:Cx}{k:Nat}{f C D:Addr}{fd:FuncData}{ps:List Str}{sp:Sp'}{E:XK}{E':XK'}{x m n:Str}{p np pos apos cpos:Pos}{e o:Expr}{es:List Expr}{ta:TE'}{t:TA'}
end
end
section
variable {B:Bs}
section
variable {X:Cx}{pins:List (Addr×Obj)}{σ:L2.St}{H:Hp}{s:Shared}{a C T:Addr}{fl:Value}
end
end
section
variable {B:Bs}
section
variable {X:Cx}{k:Nat}{f C D:Addr}{fd:FuncData}{ps:List Str}{sp:Sp'}{x m n:Str}{p np pos apos cpos:Pos}{e o:Expr}{es:List Expr}{ta:TE'}{t:TA'}
end
end
section
def pr(p:Str×Bool):PV:=.tup [.str p.1,.bl p.2]
def told(xs:List (Str×Bool)):List PV:=(xs.filter (·.2)).map fun p=>PV.str p.1
end
section
def pairs:List (Str×TE')->List Bool->List PV
 |(n,_)::r,b::bs=>.tup [.str n,.bl b]::pairs r bs
 | _,_=>[]
end
end U
namespace U
theorem len0{P:List Value->Prop}(h:P [])(us:List Value)(hl:us.length=0):P us:=by
 cases us with
 | nil=>exact h
 | cons a r=>exact absurd hl (Nat.succ_ne_zero _)
theorem AY{P:List Value->Prop}(h:∀a,P [a])(us:List Value)(hl:us.length=1):P us:=by
 cases us with
 | nil=>exact absurd hl.symm (Nat.succ_ne_zero _)
 | cons a r=>exact len0 (P:=fun r=>P (a::r)) (h a) r (Nat.succ.inj hl)
theorem AJ{P:List Value->Prop}(h:∀a b,P [a,b])(us:List Value)(hl:us.length=2):P us:=by
 cases us with
 | nil=>exact absurd hl.symm (Nat.succ_ne_zero _)
 | cons a r=>exact AY (P:=fun r=>P (a::r)) (h a) r (Nat.succ.inj hl)
theorem AH{P:List Value->Prop}(h:∀a b c,P [a,b,c])(us:List Value)(hl:us.length=3):P us:=by
 cases us with
 | nil=>exact absurd hl.symm (Nat.succ_ne_zero _)
 | cons a r=>exact AJ (P:=fun r=>P (a::r)) (h a) r (Nat.succ.inj hl)
theorem D6{P:List Value->Prop}(h:∀a b c d,P [a,b,c,d])(us:List Value)(hl:us.length=4):P us:=by
 cases us with
 | nil=>exact absurd hl.symm (Nat.succ_ne_zero _)
 | cons a r=>exact AH (P:=fun r=>P (a::r)) (h a) r (Nat.succ.inj hl)
end U
namespace U
open L2
variable {B:Bs}{X:Cx}
end U
namespace L2
section
def du(X:Cx)(N2:List Str)(scope:Scope)(cl:List (Str×Addr))(s0:Shared)(H0:Hp)(fp:List Addr)(ps:List (Addr×Obj)):Cx :=
 { X with N:=N2,s₀:=s0,H₀:=H0,env:=compEnvC scope cl s0.heap.objs.size X.env,outer:=X.stack,stack:=X.stack,ex:=fp,fn:=fun x=>(cl.lookup x).isNone,pn:=ps,xe:=fun _ _=>False }
def ly(nt:Nat)(js:List Nat)(σ:St):St:=List.replicate nt none++js.map fun j=>(σ[j]?).join
theorem cU{env:Env}:∀{names:List (Str×NameKind)} {x:Str},names.lookup x=some .free ->
  (names.map fun(n,k)=>if (k==NameKind.free&&env.scope.kind==.function&&env.kindOf n==some .cell)then(n,NameKind.cell)else(n,k)).lookup x=some .cell ∨
  (names.map fun(n,k)=>if (k==NameKind.free&&env.scope.kind==.function&&env.kindOf n==some .cell)then(n,NameKind.cell)else(n,k)).lookup x=some .free
 | [],_,h=>by simp at h
 |(n,k)::r,x,h=>by
  have ih:=@cU env r x;show List.lookup x ((if (k==NameKind.free&&env.scope.kind==.function&&env.kindOf n==some .cell)=true then(n,NameKind.cell)else(n,k))::_)=_∨List.lookup x ((if (k==NameKind.free&&env.scope.kind==.function&&env.kindOf n==some .cell)=true then(n,NameKind.cell)else(n,k))::_)=_;cases hx:x==n with
  | true =>
   simp only[F0,hx]at h;cases h;by_cases hc:(NameKind.free==NameKind.free&&env.scope.kind==.function&&env.kindOf n==some .cell)=true
   ·rw[Fp hc];simp[F0,hx]
   ·rw[Fh hc];simp[F0,hx]
  | false =>
   simp only[F0,hx]at h;by_cases hc:(k==NameKind.free&&env.scope.kind==.function&&env.kindOf n==some .cell)=true
   ·rw[Fp hc];simp only[F0,hx];exact ih h
   ·rw[Fh hc];simp only[F0,hx];exact ih h
structure cT (X:Cx) (N2:List Str) (nt:Nat) (js:List Nat) (scope:Scope) (cl:List (Str × Addr)) (sc:Scope):Prop where
 clos:closureFor scope X.env=pure cl
 sub:∀x c,cl.lookup x=some c->X.env.cells.lookup x=some c
 xsc:X.env.scope=sc
 kind:scope.kind=.function
 nocell:∀y∈scope.names,y.2≠.cell
 loc:∀y∈scope.names,y.2=.local->scope.names.lookup y.1=some .local
 has:∀y∈scope.names,y.2=.free->y.1∈cl.map (·.1)
 frs:∀x∈N2.drop nt,scope.names.lookup x=some .free/\sc.names.lookup x=some .cell
 len:N2.length=nt+js.length
 pl:∀(k j:Nat),js[k]?=some j->X.N[j]?=N2[nt+k]?
theorem mem_lookup{α:Type}:∀{l:List (Str×α)} {x:Str},x∈l.map (·.1)->∃c,l.lookup x=some c
 | [],_,h=>by simp at h
 |(n,k)::r,x,h=>by
  cases hx:x==n with
  | true=>exact⟨k,by simp[F0,hx]⟩
  | false =>
   have h':x=n∨x∈r.map (·.1):=by simpa using h
   have hn:x≠n:=by intro e;subst e;simp at hx
   obtain⟨c,e⟩:=mem_lookup (h'.resolve_left hn);exact⟨c,by simp[F0,hx,e]⟩
theorem lookup_mem{α:Type}:∀{l:List (Str×α)} {x:Str} {c:α},l.lookup x=some c->(x,c)∈l
 | [],_,_,h=>by simp at h
 |(n,k)::r,x,c,h=>by
  cases hx:x==n with
  | true =>
   simp only[F0,hx]at h;have e:x=n:=by simpa using hx
   cases h;subst e;exact E7
  | false =>
   simp only[F0,hx]at h;exact Ff _ (lookup_mem h)
section
variable {X:Cx}{pins:List (Addr×Obj)}{σ:St}{H:Hp}{s:Shared}{N2:List Str}{nt:Nat}{js:List Nat}{scope sc:Scope}{cl:List (Str×Addr)}{fp:List Addr}
theorem cT.kindOf(O:cT X N2 nt js scope cl sc){x:Str}{C:Addr}(h:(compEnvC scope cl C X.env).kindOf x=some .cell∨(compEnvC scope cl C X.env).kindOf x=some .free):∃c,cl.lookup x=some c:=by
 have h':(relabel scope X.env).names.lookup x=some .cell∨(relabel scope X.env).names.lookup x=some .free:=h;have key:∀(k:NameKind),(relabel scope X.env).names.lookup x=some k->(k=.cell∨k=.free)->∃y∈scope.names,y.1=x/\(y.2=.cell∨y.2=.free):=fun k e hk=>by
  have m:=lookup_mem e;obtain⟨⟨n,k'⟩,hm,e'⟩:=Fg.mp m;by_cases hc:(k'==NameKind.free&&X.env.scope.kind==.function&&X.env.kindOf n==some .cell)=true
  ·simp only[hc,if_true]at e';have e1:n=x:=congrArg Prod.fst e';refine⟨(n,k'),hm,e1,.inr ?_⟩;rw[Gg,Gg]at hc;exact GY.mp hc.1.1
  ·have e'':(n,k')=(x,k):=by
    dsimp only at e';rw[Fh hc]at e';exact e'
   cases e'';exact⟨(x,k),hm,rfl,hk⟩
 obtain⟨y,hy,rfl,hk⟩:=h'.elim (fun e=>key _ e (.inl rfl)) fun e=>key _ e (.inr rfl);rcases hk with hk | hk
 ·exact absurd hk (O.nocell y hy)
 ·exact mem_lookup (O.has y hy hk)
theorem pq(O:cT X N2 nt js scope cl sc)(I:Inv X pins σ H s)(hf:∀b∈fp,h8 X pins H b)(hlt:∀b∈fp,b<s.heap.objs.size):(du X N2 scope cl s H fp (X.pn++pins)).Ok where
 mod:=I.ok.mod
 kind:=O.kind
 glob:=I.ok.glob
 blt:=I.ok.blt
 above:=Fd _
 inj:=fun x y c h1 h2=>I.ok.inj x y c (O.sub x c h1) (O.sub y c h2)
 has:=fun x h=>O.kindOf h
 cab:=fun x c h1 h2=>by
  have h1':(cl.lookup x).isNone=true:=h1;have h2':cl.lookup x=some c:=h2;rw[h2']at h1';cases h1'
 hd:=I.ok.hd
 frames:=I.ok.frames
 stk:=.inl rfl
 exf:=fun b hb=>⟨Fl (hlt b hb),fun x c e=>(hf b hb).2.2.2.2.1 x c (O.sub x c e)⟩
 bs:=I.bs
 bsz:=FI I.ok.bsz I.sz
 noex:=fun b o e hb=>by
  obtain⟨_,_,_,h3,_⟩:=hf b hb;rcases h3 with h3 | h3
  ·exact I.ok.noex b o e h3
  ·exact absurd (FD (Fb (I.ok.bs b o e).1) h3) (GI _)
 exfs:=fun b hb hs=>by
  obtain⟨_,h1,h2,_⟩:=hf b hb;rcases Fn.mp (I.stkSub b hs)with e | e
  ·exact h1 e
  ·exact h2 e
 funs:=I.stack
 frf:=I.stkFree
theorem nC(O:cT X N2 nt js scope cl sc)(I:Inv X pins σ H s)(hf:∀b∈fp,h8 X pins H b)(hlt:∀b∈fp,b<s.heap.objs.size){h4:Heap}{t4:Nat}(hn:h4.Ns s.heap.objs.size fun _=>none)
  (hk:∀b o,s.heap.get? b=some o->h4.get? b=some o):Inv (du X N2 scope cl s H fp (X.pn++pins)) [] (ly nt js σ) H { s with heap:=h4,toks:=t4 }:=by
 refine⟨pq O I hf hlt,rfl,I.bare,Un.kept hk,⟨_,hn,fun i x v e1 e2 e3=>?_⟩,fun x c e=>?_,I.hok.fresh (Fd _),fun x c e=>I.freeC x c (O.sub x c e),fun p hp=>?_,I.hok.kept hk,?_⟩
 ·unfold ly at e2;by_cases hi:i<nt
  ·rw[Gd (by simpa using hi),List.getElem?_replicate]at e2;split at e2<;>cases e2
  ·obtain⟨k,rfl⟩:∃k,i=nt+k:=⟨i - nt,by omega⟩;rw[Gn (by simp),List.length_replicate,Nat.add_sub_cancel_left,FN]at e2;cases ej:js[k]? with
   | none=>rw[ej]at e2;cases e2
   | some j =>
    rw[ej]at e2;have e2':(σ[j]?).join=some v:=FH e2;have eσ:σ[j]?=some (some v):=by
     cases q:σ[j]? with
     | none=>rw[q]at e2';cases e2'
     | some o=>rw[q]at e2';exact congrArg some e2'
    have eN:X.N[j]?=some x:=(O.pl k j ej).trans e1;have hx:x∈N2.drop nt:=by
     have:(N2.drop nt)[k]?=some x:=by rw[List.getElem?_drop];exact e1
     exact Fy this
    obtain⟨f1,f2⟩:=O.frs x hx;have vis:Vis X.env.scope x:=.inr (.inl (by rw[O.xsc];exact f2));obtain⟨m,hnX,hl⟩:=I.loc;obtain⟨u,r,l⟩:=hl j x v eN eσ vis;refine⟨u,r,.inr ⟨?_,?_⟩⟩
    ·exact cU f1
    ·rcases l with⟨k1,_⟩ |⟨_,c,ec,ic⟩
     ·have k2:sc.names.lookup x=some .local:=by rw[←O.xsc];exact k1
      rw[f2]at k2;cases k2
     ·obtain⟨c',ec'⟩:=mem_lookup (O.has (x,.free) (lookup_mem f1) rfl);have:=O.sub x c' ec';rw[ec]at this;cases this;obtain⟨o,ho,hd⟩:=ic;exact⟨c,ec',o,hk _ _ ho,hd⟩
 ·obtain⟨v,o,ho,hd⟩:=I.cell x c (O.sub x c e);exact⟨v,o,hk _ _ ho,hd⟩
 ·have hp':p∈X.pn++pins:=by
   have hp2:p∈(X.pn++pins)++[]:=hp
   rwa [F1]at hp2
  obtain⟨e,n,ne,nf,d⟩:=I.pin p hp';refine⟨hk _ _ e,n,Fl (Fb e),fun hb=>?_,d⟩;rcases Fn.mp (I.stkSub p.1 hb)with z | z
  ·exact ne z
  ·exact nf z
 ·unfold ly;show _=N2.length;rw[E3,List.length_replicate,EW,O.len]
theorem tw{σ':St}{H':Hp}{s':Shared}{pl:List (Addr×Obj)}(I:Inv X pins σ H s)(hf:∀b∈fp,h8 X pins H b)(J:Inv (du X N2 scope cl s H fp (X.pn++pins)) pl σ' H' s'):Inv X pins σ H' s' :=
 I.call' (ch:=fp) J.os J.base J.hok J.bare fun b hb=>by
  obtain⟨h0,h1,h2,h3,h4,h5⟩:=hf b hb;exact⟨h3,h1,h4,h5⟩
end
end
section
def PIf(Y:Cx)(ifs:List Expr)(t:TT):Prop :=
 ∀(pins:List (Addr×Obj)) (s:Shared) (σ:St) (H:Hp) (Q:Bool->Hp->Prop),Inv Y pins σ H s->t σ H Q ->
  wpAny (model Y.prog Y.w) Y.A (forIn ifs true fun c r=>if r=true then do let ok←isTrue c Y.env (eval c Y.env);pure (ForInStep.yield ok)else pure (ForInStep.yield r)) (TP Y pins σ Q) Y.xe s
def Em:TT:=fun _ H Q=>Q true H
theorem uS{Y:Cx}:PIf Y [] Em:=fun _ _ _ H _ I h=>wpAny_tests_nil ⟨H,I,h⟩
theorem vm{Y:Cx}{c:Expr}{t:TT}(h:PT Y c t):PIf Y [c] t:=fun pins s σ H Q I hw=>wpAny_tests_one (h pins s σ H Q I hw)
def xj(acc:Addr)(J:It)(g:TG)(tt:TT)(te:TE)(W:Nat->Nat->L2.St->Hp->Prop)(i m:Nat)(σ0:L2.St)(H:Hp):Prop :=
 J.go i H/\∀x H',J.yld i H x H'->g x σ0 H' fun σ3 H2=>tt σ3 H2 fun b H3 =>
  if b=true then te σ3 H3 fun y H4=>∃ys,H4 acc=some (.lst ys)/\ys.length<sizeLine/\∃m',m'<m/\W (i+1) m' σ3 (upd H4 acc (.lst (ys++[y])))
  else ∃m',m'<m/\W (i+1) m' σ3 H3
def oe(nt:Nat)(js:List Nat)(wi:TI)(g:TG)(tt:TT)(te:TE):TE:=fun σ H Q=>wi σ H fun J H1=>∀acc,H1 acc=none ->
 ∃W:Nat->Nat->L2.St->Hp->Prop,(∃m,W 0 m (ly nt js σ) (upd H1 acc (.lst [])))/\∀i m σ0 H,W i m σ0 H->(J.stop i H/\Q (.ref acc) H)∨xj acc J g tt te W i m σ0 H
structure tI (Y:Cx) (tg:Expr) (ifs:List Expr) (elt:Expr) (g:TG) (tt:TT) (te:TE):Prop where
 tgt:PG Y tg g
 tst:PIf Y ifs tt
 elt:PE Y elt te
theorem kd{prog:Program}{w:World}{A:Around}{R:Result->Shared->Prop}{s:Shared}{elt target iter:Expr}{ifs:List Expr}{scope:Scope}{pos:Pos}{it acc:Value}{env:Env}(I:Nat->Shared->Prop)
  (turn:∀n s,I n s->wpAny (model prog w) A (pyNext it) (fun r s₁=>match r with
   | none=>R (.ok .next) s₁
   | some v=>wpAny (model prog w) A (letOwnedTupleGo target it v) (fun _ s₀=>wpAny (model prog w) A (assign target env v) (fun _ s₂ =>
     wpAny (model prog w) A (forIn ifs true fun c r=>if r=true then do let ok←isTrue c env (eval c env);pure (ForInStep.yield ok)else pure (ForInStep.yield r)) (fun ok s₃ =>
      if ok=true then wpAny (model prog w) A (eval elt env) (fun x s₄ =>
       wpAny (model prog w) A (call (.builtin "list.append") [acc,x]) (fun _ s₅=>∃m,m<n/\I m s₅) (fun _ _=>False) s₄) (fun _ _=>False) s₃
      else ∃m,m<n/\I m s₃) (fun _ _=>False) s₂) (fun _ _=>False) s₀) (fun _ _=>False) s₁) (fun _ _=>False) s)
  (n:Nat) (h:I n s) :
  codeAny (model prog w) A (.compLoop (.ListComp elt [⟨target,iter,ifs,0⟩] scope pos) 0 it acc env) R s:=by
 refine codeAny_loop rfl I (fun n s hI=>?_) n h;show wpAny _ A ((compTurn (.ListComp elt [⟨target,iter,ifs,0⟩] scope pos) 0 it acc env).onRaise (fun x=>do noteFrame x env;theTreesLotGoes x)) _ _ s;refine wpAny_noted ?_;rw[compTurn_list];refine EX (wpAny_standAt (EX (GX (turn n s hI) (fun r s₁ h₁=>?_) fun _ _ h'=>h'.elim)));cases r with
 | none=>exact E1 h₁
 | some v =>
  refine EX (GX h₁ (fun _ s₀ h₀=>?_) fun _ _ h'=>h'.elim);refine EX (GX h₀ (fun _ s₂ h₂=>EX (GX h₂ (fun ok s₃ h₃=>?_) fun _ _ h'=>h'.elim)) fun _ _ h'=>h'.elim);cases ok with
  | false=>exact E1 ⟨rfl,h₃⟩
  | true =>
   exact EX (EX (GX h₃ (fun x s₄ h₄=>EX (GX h₄ (fun _ s₅ h₅=>E1 (E1 ⟨rfl,h₅⟩)) fun _ _ h'=>h'.elim)) fun _ _ h'=>h'.elim))
section
variable {X:Cx}{pins:List (Addr×Obj)}{σ:St}{H:Hp}{s:Shared}{N2:List Str}{nt:Nat}{js:List Nat}{scope sc:Scope}{cl:List (Str×Addr)}{fp:List Addr}{elt iter tg:Expr}{ifs:List Expr}{pos:Pos}
 {wi:TI} {g:TG} {tt:TT} {te:TE}
theorem mj(O:cT X N2 nt js scope cl sc)(hc:X.calm=true)(B:∀(s0:Shared) (H0:Hp) (fp:List Addr) (ps:List (Addr×Obj)),tI (du X N2 scope cl s0 H0 fp ps) tg ifs elt g tt te)
  {it:Addr} {tn:Nat->Heap->Prop} {J:It} {E:Value->Shared->Prop} {Q:VK} {RR:Value->Addr->Result->Shared->Prop}
  (I:Inv X pins σ H s) (T:Turn X.prog X.w X.K tg J fp it tn) (st:tn 0 s.heap) (hf:∀b∈fp,h8 X pins H b)
  (h:∀acc,H acc=none->∃W:Nat->Nat->L2.St->Hp->Prop,(∃m,W 0 m (ly nt js σ) (upd H acc (.lst [])))/\∀i m σ0 H,W i m σ0 H->(J.stop i H/\Q (.ref acc) H)∨xj acc J g tt te W i m σ0 H)
  (hRR:∀(acc C:Addr) (s':Shared) (H':Hp) (m:Str->Option Value),s'.heap.Ns C m->Inv X pins σ H' s'->H' C=none->C≠X.env.locals->X.s₀.heap.objs.size≤C->(∀x c,X.env.cells.lookup x=some c->c≠C)->(∀p∈X.pn++pins,p.1≠C)->Q (.ref acc) H'->RR (.ref acc) C (.ok .next) s') :
  wpAny (model X.prog X.w) X.A (newList []) (fun acc s₃=>wpAny (model X.prog X.w) X.A (newFunctionEnv scope X.env.globals cl [] X.env.qual none .none (some X.env)) (fun cenv s₄ =>
   codeAny (model X.prog X.w) X.A (.compStart (.ListComp elt [⟨tg,iter,ifs,0⟩] scope pos) 0 (.ref it) acc { cenv with scope:=relabel scope X.env }) (RR acc cenv.locals) s₄) E s₃) E s:=by
 have hlt:∀b∈fp,b<s.heap.objs.size:=fun b hb=>by
  obtain⟨o,e,_⟩:=T.obj _ _ st b hb;exact Fb e
 have hnA:H s.heap.objs.size=none:=I.hok.fresh (Fd _);obtain⟨W,⟨m0,w0⟩,turn⟩:=h s.heap.objs.size hnA;refine FF (wpAny_newFunctionEnv O.nocell (by intro y hy;simp at hy) (fun h₁ hns₁ hsb₁=>?_) O.kind);dsimp only at hns₁ hsb₁ ⊢;have I3:Inv X pins σ (upd H s.heap.objs.size (.lst [])) { s with heap:=s.heap.push { cls:=.type "list",dict:=none,data:=.seq ([]:List Value).toArray } } :=
  I.laid (t':=s.toks) (fun b u e=>EZ _ e) (Fd _) ⟨by show 0≤sizeLine;exact Gb _,[],0,.nil,Fc _ rfl⟩
 generalize hs3:({ s with heap:=s.heap.push { cls:=.type "list",dict:=none,data:=.seq ([]:List Value).toArray } }:Shared)=s3 at I3;have e3:s3.heap=s.heap.push { cls:=.type "list",dict:=none,data:=.seq ([]:List Value).toArray }:=by rw[←hs3]
 rw[←e3]at hns₁ hsb₁ ⊢;have et:s3.toks=s.toks:=by rw[←hs3]
 have hf3:∀b∈fp,h8 X pins (upd H s.heap.objs.size (.lst [])) b:=fun b hb=>by
  obtain⟨f0,f⟩:=hf b hb;exact⟨by rw[aZ (Fl (hlt b hb))];exact f0,f⟩
 have hlt3:∀b∈fp,b<s3.heap.objs.size:=fun b hb=>by rw[e3,GA];exact GB (hlt b hb)
 have hk4:∀b o,s3.heap.get? b=some o->h₁.get? b=some o:=fun b o e=>hsb₁.extBut b o (Fl (Fb e)) (EZ _ e);have hns':h₁.Ns s3.heap.objs.size fun _=>none:=hns₁;have I4:=nC (t4:=s3.toks+([]:List (Str×Value)).length) O I3 hf3 hlt3 hns' hk4;have st4:tn 0 h₁:=T.keep _ _ _ st fun b hb o e=>hk4 b o (by rw[e3];exact EZ _ e);have B4:=B s3 (upd H s.heap.objs.size (.lst [])) fp (X.pn++pins);generalize hY:du X N2 scope cl s3 (upd H s.heap.objs.size (.lst [])) fp (X.pn++pins)=Y at I4 B4;have yP:Y.prog=X.prog:=by rw[←hY];rfl
 have yw:Y.w=X.w:=by rw[←hY];rfl
 have yK:Y.K=X.K:=by rw[←hY];rfl
 have yA:Y.A=X.A:=by rw[←hY];rfl
 have yc:Y.calm=true:=by rw[←hY];exact hc
 have yx:Y.xe=fun _ _=>False:=by rw[←hY];rfl
 have ye:Y.env=compEnvC scope cl s3.heap.objs.size X.env:=by rw[←hY];rfl
 have fpY:∀{H':Hp},(∀b∈fp,H' b=none)->∀b∈fp,h8 Y [] H' b:=fun hn b hb=>by
  obtain⟨f0,f1,f2,f3,f4,f5⟩:=hf3 b hb;rw[←hY];refine⟨hn b hb,Fl (hlt3 b hb),fun hs=>?_,.inl hb,fun x c e=>f4 x c (O.sub x c e),fun p hp=>?_⟩
  ·rcases Fn.mp (I3.stkSub b hs)with e | e
   ·exact f1 e
   ·exact f2 e
  ·have hp2:p∈(X.pn++pins)++[]:=hp;rw[F1]at hp2;exact f5 p hp2
 have fin:∀{σ':St} {H':Hp} {s':Shared} {pl:List (Addr×Obj)},Inv Y pl σ' H' s'->Q (.ref s.heap.objs.size) H'->RR (.ref s.heap.objs.size) s3.heap.objs.size (.ok .next) s':=fun {σ' H' s' pl} I' q=>by
  have J':Inv X pins σ H' s':=tw I3 hf3 (hY▸I');obtain⟨m,hn,_⟩:=I'.loc;have hfr:=I'.free;rw[ye]at hn hfr;refine hRR _ _ s' H' m hn J' hfr (Gz I3.lt) I3.sz (fun x c e z=>?_) (fun p hp z=>?_) q
  ·obtain⟨v,q⟩:=I3.cell x c e;exact absurd (FD q.lt (by rw[z];exact Fd _)) (GI _)
  ·exact absurd (FD (Fb (I3.pin p hp).1) (by rw[z];exact Fd _)) (GI _)
 have loop:∀s4:Shared,s4={ s3 with heap:=h₁,toks:=s3.toks+([]:List (Str×Value)).length } ->
   codeAny (model X.prog X.w) X.A (.compLoop (.ListComp elt [⟨tg,iter,ifs,0⟩] scope pos) 0 (.ref it) (.ref s.heap.objs.size) (compEnvC scope cl s3.heap.objs.size X.env)) (RR (.ref s.heap.objs.size) s3.heap.objs.size) s4:=by
  rintro s4 rfl;refine kd (fun n s'=>∃i σ0 H',Inv Y [] σ0 H' s'/\tn i s'.heap/\(∀b∈fp,H' b=none)/\W i n σ0 H') ?_ m0
   ⟨0,_,_,I4,st4,fun b hb=>(hf3 b hb).1,w0⟩
  rintro n s5 ⟨i,σ5,H5,I5,st5,fr5,w5⟩;rcases turn i n σ5 H5 w5 with⟨stop,q⟩ |⟨go,step⟩
  ·have r:=T.done Y yP yw yK yc i [] s5 _ H5 (fun _ _=>False) I5 (fpY fr5) st5 stop;rw[yA]at r;refine thn r fun r s6 y_=>?_;obtain⟨hr,I6⟩:=y_;subst hr;exact fin I6 q
  ·have r:=T.item Y yP yw yK yc i [] s5 _ H5 (fun _ _=>False) I5 (fpY fr5) st5 go;rw[yA]at r;refine thn r fun r s6 y_=>?_;obtain⟨u,hr,h6⟩:=y_;subst hr;refine thn h6 fun _ s7 y_=>?_;obtain⟨x,H7,I7,r7,y7,st7,fr7⟩:=y_;have I7':=I7.pinned (fpY fr7) (T.obj _ _ st7);have r:=B4.tgt _ s7 _ H7 x u _ I7' r7 (step x H7 y7);rw[yP,yw,yA,yx,ye]at r;refine thn r fun _ s8 y_=>?_;obtain⟨σ8,H8,I8,q8⟩:=y_;have r:=B4.tst _ s8 σ8 H8 _ I8 q8;rw[yP,yw,yA,yx,ye]at r;refine thn r fun ok s9 y_=>?_;obtain⟨H9,I9,q9⟩:=y_;have back:∀{s':Shared} {H':Hp},Inv Y ([]++iN fp s7.heap) σ8 H' s'->(Inv Y [] σ8 H' s'/\tn (i+1) s'.heap/\∀b∈fp,H' b=none):=fun {s' H'} I'=>by
    refine⟨I'.unpinned,T.keep _ _ _ st7 fun b hb o e=>(I'.pin (b,o) (Fw _ (Fw _ (dR hb e)))).1,fun b hb=>?_⟩;obtain⟨o,e,d⟩:=T.obj _ _ st7 b hb;exact(I'.pin (b,o) (Fw _ (Fw _ (dR hb e)))).2.1
   cases ok with
   | false =>
    have q9':∃m',m'<n/\W (i+1) m' σ8 H9:=q9;obtain⟨m',hm,w9⟩:=q9';obtain⟨b1,b2,b3⟩:=back I9;show ∃m,m<n/\_;exact⟨m',hm,i+1,σ8,H9,b1,b2,b3,w9⟩
   | true =>
    have q9':te σ8 H9 fun y H4=>∃ys,H4 s.heap.objs.size=some (.lst ys)/\ys.length<sizeLine/\∃m',m'<n/\W (i+1) m' σ8 (upd H4 s.heap.objs.size (.lst (ys++[y]))):=q9;have r:=B4.elt _ s9 σ8 H9 _ I9 q9';rw[yP,yw,yA,yx,ye]at r;show wpAny _ _ (eval elt _) _ _ s9;refine thn r fun y s10 y_=>?_;obtain⟨yv,H10,I10,r10,q10⟩:=y_;obtain⟨ys,a1,a2,m',hm,w10⟩:=q10;have r:=a9 (X:=Y) _ s10 σ8 H10 (.ref s.heap.objs.size) [yv] (.ref s.heap.objs.size) [y] (fun _ H'=>H'=upd H10 s.heap.objs.size (.lst (ys++[yv]))) I10 rfl (.cons r10 .nil) ⟨_,ys,yv,rfl,rfl,a1,a2,rfl⟩;rw[yP,yw,yA,yx]at r;refine thn r fun _ s11 y_=>?_;obtain⟨_,H11,I11,_,e11⟩:=y_;subst e11;obtain⟨b1,b2,b3⟩:=back I11;exact⟨m',hm,i+1,σ8,_,b1,b2,b3,w10⟩
 have st4':tn 0 ({ s3 with heap:=h₁,toks:=s3.toks+([]:List (Str×Value)).length }:Shared).heap:=st4;have hs4:({ s with heap:=h₁,toks:=s.toks+([]:List (Str×Value)).length }:Shared)={ s3 with heap:=h₁,toks:=s3.toks+([]:List (Str×Value)).length }:=by rw[←hs3]
 exact codeAny_compStart_list (loop _ hs4) (T.self _ 0 _ _ _ st4 (loop _ hs4))
theorem lH(O:cT X N2 nt js scope cl sc)(hc:X.calm=true)(hi:PI X tg iter wi)(B:∀(s0:Shared) (H0:Hp) (fp:List Addr) (ps:List (Addr×Obj)),tI (du X N2 scope cl s0 H0 fp ps) tg ifs elt g tt te)
  (hs:∀x,foldedSetIterable iter X.env x=pure x:=by intro _;rfl):PE X (.ListComp elt [⟨tg,iter,ifs,0⟩] scope pos) (oe nt js wi g tt te):=by
 intro pins s σ H Q I h;rw[eval_ListComp];refine wpAny_comprehension_free (use:=none) rfl hs O.clos O.kind O.loc (thn (hi pins s σ H _ I h) fun xv s1 h1=>thn h1 fun itv s2 h2=>?_);obtain⟨it,fp,tn,J,H2,e,I2,T,st2,f2,q⟩:=h2;subst e;refine mj (RR:=fun acc C=>compPost (model X.prog X.w) X.A X.xe none (EP X pins σ Q) acc C) O hc B I2 T st2 f2 q ?_;intro acc C s' H' m hn J' c1 c2 c3 c4 c5 q';refine⟨m,hn,fun h' hsb=>⟨.ref acc,H',?_,rfl,q'⟩⟩;exact J'.turned (t':=s'.toks) (fun b o hb e=>hsb.extBut b o hb e) c1 (Ne.symm c2 |> fun z=>fun y=>z y.symm) (.inr c3) c4 c5
theorem tO{i:Nat}{y:Str}{py spos:Pos}(hN:X.N.Nodup)(hy:X.N[i]?=some y)(hl:Loc X.env.scope y)(O:cT X N2 nt js scope cl sc)(hc:X.calm=true)(hi:PI X tg iter wi)
  (B:∀(s0:Shared) (H0:Hp) (fp:List Addr) (ps:List (Addr×Obj)),tI (du X N2 scope cl s0 H0 fp ps) tg ifs elt g tt te)
  (hsw:swapsWith (.ListComp elt [⟨tg,iter,ifs,0⟩] scope pos) (some (.Name y py)) spos.line X.env=pure true:=by rfl)
  (hs:∀x,foldedSetIterable iter X.env x=pure x:=by intro _;rfl) (hfn:X.fn y=true∨X.env.scope.names.lookup y=some .local:=by first | exact .inl rfl | exact .inr rfl | assumption) :
  PS X (.Assign [.Name y py] (.ListComp elt [⟨tg,iter,ifs,0⟩] scope pos) spos) (uW (oe nt js wi g tt te) (n8 i)):=by
 intro pins s σ H D I h;rw[exec_Assign_Name_used _ _ _ _ hsw];refine EX (wpAny_standAt (EX ?_));show wpAny _ X.A (do let _←comprehension (.ListComp elt [⟨tg,iter,ifs,0⟩] scope pos) scope X.env _ (newList []) false (eval iter X.env) (some (assign (.Name y py) X.env))) _ _ s;refine EX (GX (wpAny_comprehension_free (use:=some (assign (.Name y py) X.env)) (Q:=fun _ s'=>SP X pins D .next s') rfl hs O.clos O.kind O.loc
  (thn (hi pins s σ H _ I h) fun xv s1 h1=>thn h1 fun itv s2 h2=>?_)) (fun _ s' hq=>E1 (E1 hq)) fun _ _ e=>e)
 obtain⟨it,fp,tn,J,H2,e,I2,T,st2,f2,q⟩:=h2;subst e;refine mj (Q:=fun v H1=>n8 i v σ H1 D.nx) (RR:=fun acc C=>compPost (model X.prog X.w) X.A X.xe (some (assign (.Name y py) X.env)) (fun _ s'=>SP X pins D .next s') acc C) O hc B I2 T st2 f2 q ?_;intro acc C s' H' m hn J' c1 c2 c3 c4 c5 q';show wpAny _ X.A (assign (.Name y py) X.env (.ref acc)) _ _ _;refine wpAny_assign_Name (jA (v:=.ref acc) J' hN hy hl rfl (fun s2 I2' ⟨a,sb,ha⟩=>?_) hfn);have hCa:C≠a:=by
  rcases ha with ha | ha
  ·rw[ha];exact c2
  ·exact fun z=>c4 y a ha z.symm
 refine⟨m,hn.sameBut sb hCa,fun h' hsb=>⟨_,H',?_,q'⟩⟩;exact I2'.turned (t':=s2.toks) (fun b o hb e=>hsb.extBut b o hb e) c1 c2 (.inr c3) c4 c5
end
end
end L2
namespace U
open L2
section
variable {B:Bs}{X:Cx}{pos:Pos}
def wt(nt:Nat)(js:List Nat)(σ:St'):St':=List.replicate nt none++js.map fun j=>(σ[j]?).join
theorem SR.sig{K:PySem.W.Frag}{σ':St'}{H':PHp}{σ:L2.St}{H:Hp}(s:SR K B σ' H' σ H)(nt:Nat)(js:List Nat):SR K B (wt nt js σ') H' (ly nt js σ) H:=by
 refine⟨by simp[wt,ly],fun i v' e=>?_,s.hp,s.ev⟩;unfold wt at e;unfold ly;by_cases hi:i<nt
 ·rw[Gd (by simpa using hi),List.getElem?_replicate]at e;split at e<;>cases e
 ·rw[Gn (by simp;omega),List.length_replicate,FN]at e ⊢;cases ej:js[i - nt]? with
  | none=>rw[ej]at e;cases e
  | some j =>
   rw[ej]at e;have e2:(σ'[j]?).join=some v':=FH e;cases q:σ'[j]? with
   | none=>rw[q]at e2;cases e2
   | some o =>
    rw[q]at e2;have e3:σ'[j]?=some (some v'):=by rw[q];exact congrArg some e2
    obtain⟨v,a,b⟩:=s.loc j v' e3;exact⟨v,by show some ((σ[j]?).join)=_;rw[a];rfl,b⟩
def dX(ok:PHp->Prop)(g:TG')(tt:TT')(te:TE')(acc:Addr)(Q:VK'):List PV->St'->PHp->Prop
 | [],σ,H=>ok H/\Q (.ref acc) H
 | x::r,σ,H=>ok H/\g x σ H fun σ3 H2=>tt σ3 H2 fun b H3=>cif b (te σ3 H3 fun y H4=>∃l,H4 acc=some (.lst l)/\l.length<sizeLine/\dX ok g tt te acc Q r σ3 (put H4 acc (.lst (l++[y])))) (dX ok g tt te acc Q r σ3 H3)
def jD(nt:Nat)(js:List Nat)(wi:TI')(g:TG')(tt:TT')(te:TE'):TE':=fun σ H Q=>wi σ H fun J H1=>∀acc,H1 acc=none->dX J.ok g tt te acc Q J.items (wt nt js σ) (put H1 acc (.lst []))
def yO(Y:Cx)(B:Bs)(ifs:List Expr)(t:TT'):Prop:=PIf Y ifs (jY Y.K B t)
def Bk:TT':=fun _ H Q=>Q true H
theorem cI{Y:Cx}:yO Y B [] Bk:=fun pins s σ H Q I ⟨σ',H',Q',sr,h,k⟩=>uS pins s σ H Q I (k true H' H h sr (Ev.refl _ _))
theorem bh{Y:Cx}{c:Expr}{t:TT'}(h:PT' Y B c t):yO Y B [c] t:=vm h
theorem kI{K:PySem.W.Frag}{nt:Nat}{js:List Nat}{wi:TI'}{g:TG'}{tt:TT'}{te:TE'}{σ:L2.St}{H:Hp}{Q:VK}(h:low K B (jD nt js wi g tt te) σ H Q) :
  oe nt js (Bo K B wi) (lowG K B g) (jY K B tt) (low K B te) σ H Q:=by
 obtain⟨σ',H',Q',s,h,k⟩:=h;refine⟨σ',H',_,s,h,fun J' H1' J H1 h1 wk s1 e1 acc ha=>?_⟩;have h1:=h1 acc (s1.hp.free ha);have sn:SR K B σ' (put H1' acc (.lst [])) σ (upd H1 acc (.lst [])):=s1.new ha ⟨[],bt,RPs.nil _⟩;have en:Ev H1' H1 (put H1' acc (.lst [])) (upd H1 acc (.lst [])):=Ev.new ha;refine⟨fun i m σ2 H2=>i≤J'.items.length/\m=J'.items.length - i/\∃σ2' H2',SR K B σ2' H2' σ2 H2/\SR K B σ' H2' σ H2/\Ev H1' H1 H2' H2/\dX J'.ok g tt te acc Q' (J'.items.drop i) σ2' H2',
  ⟨J'.items.length,Gb _,by simp,_,_,sn.sig nt js,sn,en,h1⟩,?_⟩
 rintro i m σ2 H2 ⟨hi,rfl,σ2',H2',s2,so,e2,h2⟩;have k2:=e2.kp s1.hp;by_cases hlt:i<J'.items.length
 ·obtain⟨x',hx⟩:∃x',J'.items[i]?=some x':=⟨_,EY hlt⟩;have hd:J'.items.drop i=x'::J'.items.drop (i+1):=by
   rw[Ge hlt];rw[EY hlt]at hx;cases hx;rfl
  rw[hd]at h2;obtain⟨ok2,h2⟩:=(show J'.ok H2'/\_ from h2);refine .inr ⟨wk.go H2' H2 i k2 s2.hp ok2 hlt,fun x H3 y=>?_⟩;obtain⟨rfl,rx⟩:=wk.yld H2' H2 i x H3 k2 s2.hp ok2 y;refine⟨x',σ2',H2',_,rx x' hx,s2,h2,fun σ3' H3' σ3 H3 h3 s3 e3=>⟨σ3',H3',_,s3,h3,fun b H4' H4 h4 s4 e4=>?_⟩⟩;cases b with
  | false =>
   have e24:=e3.trans e4;exact kx ⟨J'.items.length - (i+1),by omega,hlt,rfl,σ3',H4',s4,so.kp e24 s4.hp,e2.trans e24,h4⟩
  | true =>
   refine ko ⟨σ3',H4',_,s4,h4,fun y' H5' y H5 h5 ry5 s5 e5=>?_⟩;obtain⟨l,a1,a2,h5⟩:=h5;have e25:=(e3.trans e4).trans e5;obtain⟨us,q1,q2⟩:=s5.hp _ _ a1;have wr:=wrL s5.hp a1 (RPs.append _ q2 (RPs.cons _ ry5 (RPs.nil _)));refine⟨us,q1,by rw[RPs.length _ q2];exact a2,J'.items.length - (i+1),by omega,hlt,rfl,σ3',_,s5.wr a1 wr,(so.kp e25 s5.hp).wr a1 wr,(e2.trans e25).trans (Ev.wr a1),h5⟩
 ·have hi':i=J'.items.length:=by omega
  subst hi';rw[List.drop_length]at h2;obtain⟨ok2,h2⟩:=(show J'.ok H2'/\_ from h2);exact .inl ⟨wk.stop H2' H2 _ k2 s2.hp ok2 (Fd _),k _ _ _ _ h2 (by simp[RP]) so (e1.trans e2)⟩
section
variable {N2:List Str}{nt:Nat}{js:List Nat}{scope sc:Scope}{cl:List (Str×Addr)}{elt iter tg:Expr}{ifs:List Expr}{wi:TI'}{g:TG'}{tt:TT'}{te:TE'}
structure mS (Y:Cx) (B:Bs) (tg:Expr) (ifs:List Expr) (elt:Expr) (g:TG') (tt:TT') (te:TE'):Prop where
 tgt:PG' Y B tg g
 tst:yO Y B ifs tt
 elt:PE' Y B elt te
theorem bI(O:cT X N2 nt js scope cl sc)(hc:X.calm=true)(hi:PI' X B tg iter wi)(b:∀(s0:Shared) (H0:Hp) (fp:List Addr) (ps:List (Addr×Obj)),mS (du X N2 scope cl s0 H0 fp ps) B tg ifs elt g tt te)
  (hs:∀x,foldedSetIterable iter X.env x=pure x:=by intro _;rfl):PE' X B (.ListComp elt [⟨tg,iter,ifs,0⟩] scope pos) (jD nt js wi g tt te) :=
 a8 (lH (g:=lowG X.K B g) (tt:=jY X.K B tt) (te:=low X.K B te) O hc hi (fun s0 H0 fp ps=>⟨(b s0 H0 fp ps).tgt,(b s0 H0 fp ps).tst,(b s0 H0 fp ps).elt⟩) hs) fun _ _ _ h=>kI h
theorem b8{i:Nat}{y:Str}{py spos:Pos}(hN:X.N.Nodup)(hy:X.N[i]?=some y)(hl:Loc X.env.scope y)(O:cT X N2 nt js scope cl sc)(hc:X.calm=true)(hi:PI' X B tg iter wi)
  (b:∀(s0:Shared) (H0:Hp) (fp:List Addr) (ps:List (Addr×Obj)),mS (du X N2 scope cl s0 H0 fp ps) B tg ifs elt g tt te)
  (hsw:swapsWith (.ListComp elt [⟨tg,iter,ifs,0⟩] scope pos) (some (.Name y py)) spos.line X.env=pure true:=by rfl)
  (hs:∀x,foldedSetIterable iter X.env x=pure x:=by intro _;rfl) (hfn:X.fn y=true∨X.env.scope.names.lookup y=some .local:=by first | exact .inl rfl | exact .inr rfl | assumption) :
  PS' X B (.Assign [.Name y py] (.ListComp elt [⟨tg,iter,ifs,0⟩] scope pos) spos) (qP (jD nt js wi g tt te) (oN i)) :=
 dt (tO (g:=lowG X.K B g) (tt:=jY X.K B tt) (te:=low X.K B te) hN hy hl O hc hi (fun s0 H0 fp ps=>⟨(b s0 H0 fp ps).tgt,(b s0 H0 fp ps).tst,(b s0 H0 fp ps).elt⟩) hsw hs hfn) fun D σ H y_=>by
  obtain⟨σ',H',D',s,h,d⟩:=y_;refine kI ⟨σ',H',_,s,h,fun v' H1' v H1 q r s1 e1=>?_⟩;exact d.nx _ _ _ _ q (s1.set r i) e1
end
end
section
def pZ(cs:List (Str×Addr)):List (Str×Addr)->Prop
 | []=>True
 | p::r=>cs.lookup p.1=some p.2/\pZ cs r
theorem pZ.mem{cs:List (Str×Addr)}:∀{l:List (Str×Addr)} {p:Str×Addr},pZ cs l->p∈l->cs.lookup p.1=some p.2
 | q::r,p,h,m=>by
  rcases Fn.mp m with rfl | m
  ·exact h.1
  ·exact pZ.mem h.2 m
theorem cok{X:Cx}{N2:List Str}{nt:Nat}{js:List Nat}{scope sc:Scope}{cl:List (Str×Addr)}(clos:closureFor scope X.env=pure cl)(sub:pZ X.env.cells cl)(xsc:X.env.scope=sc)(kind:scope.kind=.function)
  (nocell:∀y∈scope.names,y.2≠.cell) (loc:∀y∈scope.names,y.2=.local->scope.names.lookup y.1=some .local) (names:cl.map (·.1)=((scope.names.filter (·.2==.free)).map (·.1)).reverse)
  (frs:∀x∈N2.drop nt,scope.names.lookup x=some .free/\sc.names.lookup x=some .cell) (len:N2.length=nt+js.length) (pl:js.map (fun j=>X.N[j]?)=(N2.drop nt).map some):cT X N2 nt js scope cl sc :=
 ⟨clos,fun x c e=>sub.mem (lookup_mem e),xsc,kind,nocell,loc,fun y m f=>by rw[names];exact List.mem_reverse.mpr (List.mem_map_of_mem (Fq.mpr ⟨m,by rw[f];rfl⟩)),frs,len,fun k j e=>by
  have h:(js.map (fun j=>X.N[j]?))[k]?=((N2.drop nt).map some)[k]?:=by rw[pl]
  rw[FN,FN,e,List.getElem?_drop]at h;cases q:N2[nt+k]? with
  | none=>rw[q]at h;cases h
  | some x=>rw[q]at h;exact FH h⟩
end
section
end
end U
namespace L2
variable {X:Cx}{a b c d:Expr}{pos:Pos}{ta tb tc td:TE}
def vo(r r' r'':R2)(ta tb tc td:TE):TE:=fun σ H Q=>ta σ H fun x H1=>tb σ H1 fun y H2=>r x y H2 fun z H3=>∃k,z=.bl k /\
 (if k=true then tc σ H3 fun w' H4=>r' y w' H4 fun z' H5=>∃k',z'=.bl k'/\(if k'=true then td σ H5 fun v' H6=>r'' w' v' H6 Q else Q (.bl false) H5)else Q (.bl false) H3)
theorem qc{op op' op'':CmpOp}{r r' r'':R2}(ho:OpR X (compareOp op) r)(ho':OpR X (compareOp op') r')(ho'':OpR X (compareOp op'') r'')(ha:PE X a ta)(hb:PE X b tb)(hc:PE X c tc)(hd:PE X d td)
  (hm:lastMarks [op,op',op''] [b,c,d]=false:=by with_unfolding_all rfl):PE X (.Compare a [op,op',op''] [b,c,d] pos) (vo r r' r'' ta tb tc td):=by
 intro pins s σ H Q I h;refine Compare_chain (thn (ha pins s σ H _ I h) fun v s1 ⟨x,H1,I1,r1,q1⟩=>chain_link (thn (hb pins s1 σ H1 _ I1 q1) fun u s2 ⟨y,H2,I2,r2,q2⟩ =>
  thn (ho pins s2 σ H2 x y v u _ I2 r1 r2 q2) fun d s3 ⟨z,H3,I3,r3,k,e,q3⟩=>?_)) hm
 subst e;cases r3;refine Gy ?_;cases k with
 | false=>exact ite_ff ⟨.bl false,H3,I3,rfl,q3⟩
 | true =>
  refine ite_tt (chain_link (thn (hc pins s3 σ H3 _ I3 q3) fun w' s4 ⟨z',H4,I4,r4,q4⟩=>thn (ho' pins s4 σ H4 y z' u w' _ I4 r2 r4 q4) fun d' s5 y_=>?_));obtain⟨z5,H5,I5,r5,k5,e5,q5⟩:=y_;subst e5;cases r5;refine Gy ?_;cases k5 with
  | false=>exact ite_ff ⟨.bl false,H5,I5,rfl,q5⟩
  | true=>exact ite_tt (chain_last (thn (hd pins s5 σ H5 _ I5 q5) fun w6 s6 y_=>by obtain⟨z6,H6,I6,r6,q6⟩:=y_;exact ho'' pins s6 σ H6 z' z6 w' w6 Q I6 r4 r6 q6))
end L2
namespace U
open L2
variable {B:Bs}{X:Cx}{a b c d e o value:Expr}{pos pos' apos p:Pos}{ta tb tc td tv:TE'}{f m x:Str}{C g:Addr}
def oR(r r' r'':R2')(ta tb tc td:TE'):TE':=fun σ H Q=>ta σ H fun x H1=>tb σ H1 fun y H2=>r x y H2 fun z H3=>eP z fun k=>cif k (tc σ H3 fun w' H4=>r' y w' H4 fun z' H5=>eP z' fun k'=>cif k' (td σ H5 fun v' H6=>r'' w' v' H6 Q) (Q (.bl false) H5)) (Q (.bl false) H3)
theorem qH{op op' op'':CmpOp}{r1' r2' r3':R2'}{r1 r2 r3:R2}(ho:OpR X (compareOp op) r1)(v1:VR X.K B r1' r1)(ho':OpR X (compareOp op') r2)(v2:VR X.K B r2' r2)(ho'':OpR X (compareOp op'') r3)(v3:VR X.K B r3' r3)
  (ha:PE' X B a ta) (hb:PE' X B b tb) (hc:PE' X B c tc) (hd:PE' X B d td)
  (hm:lastMarks [op,op',op''] [b,c,d]=false:=by with_unfolding_all rfl):PE' X B (.Compare a [op,op',op''] [b,c,d] pos) (oR r1' r2' r3' ta tb tc td):=a8 (qc ho ho' ho'' ha hb hc hd hm) fun σ H Q y_=>by
 obtain⟨σ',H',Q',s,h,k⟩:=y_;refine⟨σ',H',_,s,h,fun x' H1' x H1 h1 rx s1 e1=>⟨σ',H1',_,s1,h1,fun y' H2' y H2 h2 ry s2 e2=>?_⟩⟩;refine v1 σ' σ H2' H2 x' y' x y _ _ s2 (RP.kp X.K (e2.kp s1.hp) rx) ry h2 fun z' H3' z H3 q rz s3 e3=>?_;obtain⟨b,rfl,q⟩:=q.ex;simp only[RP]at rz;refine⟨b,rz,?_⟩;cases b with
 | false=>exact kx (k _ _ _ _ q (by simp[RP]) s3 ((e1.trans e2).trans e3))
 | true =>
  refine ko ⟨σ',H3',_,s3,q,fun w' H4' w H4 h4 rw4 s4 e4=>?_⟩;refine v2 σ' σ H4' H4 y' w' y w _ _ s4 (RP.kp X.K ((e3.trans e4).kp s2.hp) ry) rw4 h4 fun z5' H5' z5 H5 q5 rz5 s5 e5=>?_;obtain⟨b5,rfl,q5⟩:=q5.ex;simp only[RP]at rz5;refine⟨b5,rz5,?_⟩;cases b5 with
  | false=>exact kx (k _ _ _ _ q5 (by simp[RP]) s5 ((((e1.trans e2).trans e3).trans e4).trans e5))
  | true =>
   refine ko ⟨σ',H5',_,s5,q5,fun v' H6' v H6 h6 rv s6 e6=>?_⟩;exact v3 σ' σ H6' H6 w' v' w v _ _ s6 (RP.kp X.K ((e5.trans e6).kp s4.hp) rw4) rv h6 fun z7' H7' z7 H7 q7 rz7 s7 e7=>k _ _ _ _ q7 rz7 s7 ((((((e1.trans e2).trans e3).trans e4).trans e5).trans e6).trans e7)
def xa(C:Addr)(f:Str)(x:PV)(H:PHp)(Q:VK'):Prop:=match x with
 | .ref a=>∃dx fs v,H a=some (.ins C dx fs)/\fs.lookup f=some v/\Q v H
 | _=>False
def Bj(C:Addr)(f:Str)(ta:TE'):TE':=fun σ H Q=>ta σ H fun x H1=>xa C f x H1 Q
theorem l9{K:PySem.W.Frag}{H:Hp}{f:Str}{v:PV}{fs:List (Str×PV)}{gs:List (Str×V)}(h:eF K H fs gs)(e:fs.lookup f=some v):∃u,gs.lookup f=some u/\RP K H v u:=by
 induction h with
 | nil=>simp at e
 | @cons a b _ _ h t ih =>
  obtain⟨n,y⟩:=a;obtain⟨m,z⟩:=b;obtain⟨rfl,hr⟩:=h;dsimp only at hr;cases hx:f==n with
  | true =>
   simp only[F0,hx]at e ⊢;cases e;exact⟨z,rfl,hr⟩
  | false =>
   simp only[F0,hx]at e ⊢;exact ih e
theorem qB{K:PySem.W.Frag}{H:Hp}{f:Str}{fs:List (Str×PV)}{gs:List (Str×V)}(h:eF K H fs gs)(e:fs.lookup f=none):gs.lookup f=none:=by
 induction h with
 | nil=>rfl
 | @cons a b _ _ h t ih =>
  obtain⟨n,y⟩:=a;obtain⟨m,z⟩:=b;obtain⟨rfl,hr⟩:=h;cases hx:f==n with
  | true=>simp only[F0,hx]at e;cases e
  | false =>
   simp only[F0,hx]at e ⊢;exact ih e
theorem rf{K:PySem.W.Frag}{H:Hp}{fs:List (Str×PV)}{gs:List (Str×V)}(h:eF K H fs gs):gs.length=fs.length:=by
 induction h with
 | nil=>rfl
 | cons _ _ ih=>simp[ih]
theorem cR(ha:PE' X B e ta)(cl:Cls X.K C)(n:c7 X.K C f)(hb:attributeBase e f X.env (eval e X.env)=eval e X.env):PE' X B (.Attribute e f pos) (Bj C f ta):=a8 (zi ha hb) fun σ H Q y_=>by
 obtain⟨σ',H',Q',s,h,k⟩:=y_;refine⟨σ',H',_,s,h,fun x' H1' x H1 h1 rx s1 e1=>?_⟩;cases x' with
 | ref a =>
  obtain⟨dx,fs,v,ea,l,q⟩:=h1;simp only[RP]at rx;subst rx;obtain⟨gs,eg,fr⟩:=s1.hp _ _ ea;obtain⟨u,lu,ru⟩:=l9 fr l;exact⟨a,C,dx,gs,u,rfl,eg,cl,n,lu,k _ _ _ _ q ru s1 e1⟩
 | _=>exact h1.elim
def jk(f:Str)(v:PV):List (Str×PV)->List (Str×PV)
 | []=>[(f,v)]
 |(g,x)::r=>if g=f then(g,v)::r else(g,x)::jk f v r
theorem rn{K:PySem.W.Frag}{H:Hp}{f:Str}{v:PV}{u:V}(rv:RP K H v u){fs:List (Str×PV)}{gs:List (Str×V)}(h:eF K H fs gs):eF K H (jk f v fs) (dF f u gs):=by
 induction h with
 | nil=>exact .cons ⟨rfl,rv⟩ .nil
 | @cons a b _ _ h t ih =>
  obtain⟨n,y⟩:=a;obtain⟨m,z⟩:=b;obtain⟨rfl,hr⟩:=h;unfold jk dF;by_cases hn:n=f
  ·rw[Fp hn,Fp hn];exact .cons ⟨rfl,rv⟩ t
  ·rw[Fh hn,Fh hn];exact .cons ⟨rfl,hr⟩ ih
def xy(C:Addr)(f:Str)(x y:PV)(H:PHp)(Q:PHp->Prop):Prop:=match x with
 | .ref a=>∃dx fs,H a=some (.ins C dx fs)/\fs.length<1000/\Q (put H a (.ins C dx (jk f y fs)))
 | _=>False
def ui(C:Addr)(f:Str)(ta tv:TE'):TS':=fun D σ H=>tv σ H fun y H1=>ta σ H1 fun x H2=>xy C f x y H2 fun H3=>D.nx σ H3
theorem nB(ha:PE' X B o ta)(hv:PE' X B value tv)(cl:Cls X.K C)(n:c7 X.K C f)(hs:swapsWith value (some (.Attribute o f pos')) pos.line X.env=pure false):PS' X B (.Assign [.Attribute o f pos'] value pos) (ui C f ta tv):=dt (z4 ha hv hs) fun D σ H y_=>by
 obtain⟨σ',H',D',s,h,dd⟩:=y_;refine⟨σ',H',_,s,h,fun y' H1' y H1 h1 ry s1 e1=>⟨σ',H1',_,s1,h1,fun x' H2' x H2 h2 rx s2 e2=>?_⟩⟩;cases x' with
 | ref a =>
  obtain⟨dx,fs,ea,l,q⟩:=h2;simp only[RP]at rx;subst rx;obtain⟨gs,eg,fr⟩:=s2.hp _ _ ea;have ry2:=RP.kp X.K (e2.kp s1.hp) ry;have new:OAt X.K (upd H2 a (.ins C dx (dF f y gs))) a (.ins C dx (jk f y' fs)):=⟨_,bt,eF.kp (s2.hp.kpw ea) (rn ry2 fr)⟩;exact⟨a,C,dx,gs,rfl,eg,cl,n,by rw[rf fr];exact l,dd.nx _ _ _ _ q (s2.wr ea new) ((e1.trans e2).trans (Ev.wr ea))⟩
 | _=>exact h2.elim
def isIn(C:Addr)(m:Str)(x:PV)(H:PHp):Prop:=match x with
 | .ref a=>∃dx fs,H a=some (.ins C dx fs)/\fs.lookup m=none
 | _=>False
def rS(C:Addr)(m:Str)(sp:Sp')(E':XK')(ta:TE')(t:TA'):TE':=fun σ H Q=>ta σ H fun x H1=>isIn C m x H1/\t σ H1 fun vs H2=>sp (x::vs) H2 Q E'
section
variable {k:Nat}{fd:FuncData}{ps:List Str}{sp:Sp'}{es:List Expr}{t:TA'}
theorem qi{K:PySem.W.Frag}{σ:L2.St}{H:Hp}{Q:VK}(h:low K B (rS C m sp X0 ta t) σ H Q):xt C m (gZ K sp) [] E0 (low K B ta) (uv K B t) σ H Q:=by
 obtain⟨σ',H',Q',s,h,k⟩:=h;refine⟨σ',H',_,s,h,fun x' H1' x H1 h1 rx s1 e1=>?_⟩;obtain⟨hi,h1⟩:=h1;cases x' with
 | ref a =>
  obtain⟨dx,fs,ea,l⟩:=hi;simp only[RP]at rx;subst rx;obtain⟨gs,eg,fr⟩:=s1.hp _ _ ea;refine⟨a,dx,gs,rfl,eg,qB fr l,σ',H1',_,s1,h1,fun vs' H2' vs H2 h2 r2 s2 e2=>?_⟩;show gZ K sp (V.ref a::(vs++[])) H2 Q E0;rw[F1];exact⟨.ref a::vs',H2',Q',X0,RPs.cons _ (by simp[RP]) r2,s2.hp,h2,fun v' H3' v H3 q r3 h3 e3=>k v' H3' v H3 q r3 (s2.kp e3 h3) ((e1.trans e2).trans e3),fun _ _ _ _ z=>z.elim⟩
 | _=>exact hi.elim
theorem br{pl:Sem Bool}(he:PE' X B o ta)(cl:Cls X.K C)(hm:Meth X.K C m g)(F:aT X.prog X.w X.K X.mg X.base CX0 k g fd ps sp)(hr:cB k X.A)(hb:Binds X.K fd ps [])(ha:PA' X B (e::es) t)
  (hst:starEach (e::es) X.env=(false,eval e X.env)::starEach es X.env:=by rfl) (hpl:(backTo pos (starEach es X.env)).any (·.1)=false:=by rfl)
  (ht:eval (.Call (.Attribute o m apos) (e::es) [] pos) X.env=(do
   let ov←eval o X.env
   standAt apos.atName
   let (f,first)←holding [ov] (getMethod ov m pl)
   callWith pos f first (backTo pos (starEach (e::es) X.env)) (backToKw pos (keywordEach [] X.env))):=by rfl) :
  PE' X B (.Call (.Attribute o m apos) (e::es) [] pos) (rS C m sp X0 ta t):=a8 (vz he cl hm F hr hb .nil rH ha hst hpl ht) fun _ _ _ h=>qi h
def xw(C:Addr)(sp:Sp')(E':XK')(t:TA'):TE':=fun σ H Q=>t σ H fun vs H1=>∀x dx,H1 x=none->H1 dx=none->dx≠x->sp (.ref x::vs) (put H1 x (.ins C dx [])) (fun v H2=>v=.non/\Q (.ref x) H2) E'
theorem oV(M:Mk X.K C g)(F:aT X.prog X.w X.K X.mg X.base CX0 k g fd ps sp)(hr:cB (k+1) X.A)(hg:Gl X x)(hm:X.mg x=some (.ref C))(hb:Binds X.K fd ps [])
  (ha:PA' X B (e::es) t) (hdb:(x==("__debug__":Str))=false:=by decide) (he:starEach (e::es) X.env=(false,eval e X.env)::starEach es X.env:=by rfl) (hpl:(backTo pos (starEach es X.env)).any (·.1)=false:=by rfl) :
  PE' X B (.Call (.Name x p) (e::es) [] pos) (xw C sp X0 t):=a8 (vZ M F hr hg hm hb .nil rH ha hdb he hpl) fun σ H Q y_=>by
 obtain⟨σ',H',Q',s,h,k⟩:=y_;refine⟨σ',H',_,s,h,fun vs' H1' vs H1 h1 r1 s1 e1=>?_⟩;intro x dx nx nd ne;have h2:=h1 x dx (s1.hp.free nx) (s1.hp.free nd) ne;have nx2:upd H1 dx (.own x) x=none:=by rw[aZ (Ne.symm ne)];exact nx
 have sd:=s1.hid (o:=.own x) nd;have new:OAt X.K (upd (upd H1 dx (.own x)) x (.ins C dx [])) x (.ins C dx []):=⟨[],bt,.nil⟩;have s2:=sd.new nx2 new;have e2:Ev H1' H1 (put H1' x (.ins C dx [])) (upd (upd H1 dx (.own x)) x (.ins C dx [])):=(Ev.hid nd).trans (Ev.new nx2);show gZ X.K sp (.ref x::(vs++[])) _ _ E0;rw[F1];refine⟨.ref x::vs',_,_,X0,RPs.cons _ (by simp[RP]) (RPs.kp X.K (e2.kp s1.hp) r1),s2.hp,h2,fun v' H3' v H3 q r3 h3 e3=>?_,fun _ _ _ _ z=>z.elim⟩;obtain⟨rfl,q⟩:=q;simp only[RP]at r3;exact⟨r3,k _ _ _ _ q (by simp[RP]) (s2.kp e3 h3) ((e1.trans e2).trans e3)⟩
end
end U
namespace L2
variable {X:Cx}
def BP(K:PySem.W.Frag):List V->Hp->VK->Prop:=fun xs H Q=>∃(p:Addr) (bs:List Bool),xs=[.ref p]/\SqL K H p (bs.map V.bl)/\Q (.bl (bs.all id)) H
theorem fy:∀{bs:List Bool} {us:List Value},Vals (bs.map V.bl) us->us=bs.map Value.bool
 | [],_,.nil=>rfl
 | b::bs,_,.cons r t=>by rw[fy t];cases r;rfl
theorem fU(hc:X.calm=true):cD X (.builtin "all") (BP X.K):=by
 intro pins s σ H xs us Q I r h;obtain⟨a,bs,rfl,hq,q⟩:=h;obtain⟨u,rfl,ru⟩:=Vals.one r;cases ru;obtain⟨its,rv,p,hz⟩:=I.list hq;have e:=fy rv;subst e;have hl:s.heap.IsList a (bs.map Value.bool).toArray:=p.isList;have llt:a<s.heap.objs.size:=by obtain⟨o,e,_⟩:=hl;exact Fb e
 have hne:a≠s.heap.objs.size:=Fl llt;refine call_all_walk (wpAny_pyIter_list hl ?_);refine⟨s.heap.objs.size,[s.heap.objs.size,a],[s.heap.objs.size],(bs.map Value.bool).toArray.size,_,_,fun i=>bs.getD i false,rfl,Walks.list (by simpa using I.ok.hd hc) _ a hne _,⟨⟨_,Fc _ rfl,rfl,rfl⟩,hl.at fun o e=>EZ _ e⟩,?_,?_⟩
 ·intro i v s' Q' E' hv hQ;have:v=Value.bool (bs.getD i false):=by
   have hv':(bs.map Value.bool)[i]?=some v:=by simpa using hv
   rw[FN]at hv';cases hb:bs[i]? with
   | none=>rw[hb]at hv';cases hv'
   | some b=>rw[hb]at hv';cases hv';rw[E4,hb];rfl
  subst this;exact Gy hQ
 ·intro h' tk kp;have e:(List.range (bs.map Value.bool).toArray.size).all (fun i=>bs.getD i false)=bs.all id:=by
   have hs:(bs.map Value.bool).toArray.size=bs.length:=by simp
   rw[hs];rw[Gq,FC,FC];constructor
   ·intro h b hb;obtain⟨i,hi,e⟩:=List.getElem_of_mem hb;have:=h i (FL.mpr hi);rw[E4,EY hi,e]at this;exact this
   ·intro h i hi;have hi:=FL.mp hi;rw[E4,EY hi];exact h _ (Ft hi)
  rw[e];refine⟨.bl (bs.all id),H,I.kept (t':=tk) fun b o e=>?_,rfl,q⟩;exact kp b o (by simpa using Fl (Fb e)) (EZ _ e)
theorem jw:∀{ns:List Int} {us:List Value},Vals (ns.map V.int) us->IntsAre us ns
 | [],_,.nil=>.nil
 | n::ns,_,.cons r t=>by obtain⟨k,rfl⟩:=r;exact .cons n k (jw t)
def ra(K:PySem.W.Frag):List V->Hp->VK->Prop:=fun xs H Q=>∃(p:Addr) (ns:List Int),xs=[.ref p]/\SqL K H p (ns.map V.int)/\ns.length<64/\∀(r:Addr) (ms:List Int),H r=none->ms.Perm ns->ms.Pairwise (·≤·)->Q (.ref r) (upd H r (.lst (ms.map V.int)))
theorem fA:cD X (.builtin "sorted") (ra X.K):=by
 intro pins s σ H xs us Q I r h;obtain⟨a,ns,rfl,hq,h64,q⟩:=h;obtain⟨u,rfl,ru⟩:=Vals.one r;cases ru;obtain⟨its,rv,p,hz⟩:=I.list hq;have hl:its.length<64:=by have:=rv.length;rw[EW]at this;omega
 refine sorted_ints p.isList (jw rv) hl fun out ms h1 h2 h3=>?_;have hn:H (s.heap.objs.size+1)=none:=I.hok.fresh (Nat.le_succ _);obtain⟨e,he⟩:=sortedAll_at s.heap its out;have hv:=dB h1;have hz2:(ms.map V.int).length≤sizeLine:=by rw[EW,h2.length_eq,FP];omega
 refine⟨.ref (s.heap.objs.size+1),_,I.laid (t':=s.toks) (o:=.lst (ms.map V.int)) (fun b o e=>sortedAll_old e) (Nat.le_succ _) ?_,rfl,q _ ms hn h2 h3⟩;exact⟨hz2,out.toList,e,hv,he⟩
end L2
namespace U
open L2
variable {B:Bs}{X:Cx}
theorem gN{K:PySem.W.Frag}{H:Hp}:∀{bs:List Bool} {us:List V},RPs K H (bs.map PV.bl) us->us=bs.map V.bl
 | [],us,h=>by simpa[RPs]using h
 | b::bs,us,h=>by
  simp only[E8,RPs,RP]at h;obtain⟨u,r,rfl,rfl,h2⟩:=h;rw[gN h2];rfl
theorem kZ{K:PySem.W.Frag}{H:Hp}:∀{bs:List Int} {us:List V},RPs K H (bs.map PV.int) us->us=bs.map V.int
 | [],us,h=>by simpa[RPs]using h
 | b::bs,us,h=>by
  simp only[E8,RPs,RP]at h;obtain⟨u,r,rfl,rfl,h2⟩:=h;rw[kZ h2];rfl
theorem gf{K:PySem.W.Frag}{H:Hp}:∀{bs:List Int},RPs K H (bs.map PV.int) (bs.map V.int)
 | []=>RPs.nil _
 | b::bs=>RPs.cons _ (by simp[RP]) gf
def Bl:List PV->PHp->VK'->Prop:=c9 fun x H Q=>match x with
 | .ref a=>∃bs:List Bool,H a=some (.lst (bs.map PV.bl))/\Q (.bl (bs.all id)) H
 | _=>False
theorem j5{K:PySem.W.Frag}:VC K B Bl (BP K):=by
 intro σ' σ H' H xs' xs Q' Q s r h k;obtain⟨x',x,rfl,rfl,rx,h⟩:=c9.ex h r;cases x' with
 | ref a =>
  obtain⟨bs,ea,q⟩:=h;simp only[RP]at rx;subst rx;obtain⟨us,e,r2⟩:=s.hp _ _ ea;rw[gN r2]at e;exact⟨a,bs,rfl,.inl (.inl e),k _ _ _ _ q (by simp[RP]) s (Ev.refl _ _)⟩
 | _=>exact h.elim
def qQ:List PV->PHp->VK'->Prop:=c9 fun x H Q=>match x with
 | .ref a=>∃ns:List Int,H a=some (.lst (ns.map PV.int))/\ns.length<64/\∀(r:Addr) (ms:List Int),H r=none->ms.Perm ns->ms.Pairwise (·≤·)->Q (.ref r) (put H r (.lst (ms.map PV.int)))
 | _=>False
theorem ja{K:PySem.W.Frag}:VC K B qQ (ra K):=by
 intro σ' σ H' H xs' xs Q' Q s r h k;obtain⟨x',x,rfl,rfl,rx,h⟩:=c9.ex h r;cases x' with
 | ref a =>
  obtain⟨ns,ea,h64,q⟩:=h;simp only[RP]at rx;subst rx;obtain⟨us,e,r2⟩:=s.hp _ _ ea;rw[kZ r2]at e;refine⟨a,ns,rfl,.inl (.inl e),h64,fun r ms hr h1 h2=>?_⟩;exact k _ _ _ _ (q r ms (s.hp.free hr) h1 h2) (by simp[RP]) (s.new hr (lT hr gf)) (Ev.new hr)
 | _=>exact h.elim
end U
namespace SP
def hs:List Int:=[-1950498447580522560,7204814214171964562,-3550055125485641917,-4734289103435588629,-1440771752368011620,
 8409376899596376432,1773351652666409796,-6333845781340707986,3516302870623680066,1079245023883434373,
 -3119722376306286570,173794974761290439,-8422800446983873125,7586885779985432798,-1009709641759730766]
def prs:List (Int×Int):=[(0,1),(0,2),(1,2),(0,3),(1,3),(2,3),(0,4),(1,4),(2,4),(3,4),(0,5),(1,5),(2,5),(3,5),(4,5)]
def hp(p:Int×Int):Int:=reduceHash (Builtin.Tuple.tupleHashOf [p.1,p.2])
theorem BY:prs.map hp=hs:=by decide +kernel
theorem mB{p:Int×Int}(h:p∈prs):hp p∈hs:=by rw[←BY];exact Fg.mpr ⟨p,h,rfl⟩
theorem zo:∀p∈prs,∀q∈prs,hp p=hp q->p=q:=by decide +kernel
theorem vM{u v:Int}(h0:0≤u)(h1:u<v)(h2:v<6):(u,v)∈prs:=by
 have hv:v=1∨v=2∨v=3∨v=4∨v=5:=by omega
 have hu:u=0∨u=1∨u=2∨u=3∨u=4:=by omega
 rcases hv with rfl | rfl | rfl | rfl | rfl<;>rcases hu with rfl | rfl | rfl | rfl | rfl<;>first |(exfalso;omega) | decide
def pY(mask:Nat)(p:SetTable.Probe):SetTable.Probe :=
 if p.more>0 then { p with j:=p.j+1,more:=p.more - 1 }else
 let (i,perturb):=SetTable.leap mask p.i p.perturb
 { p with j:=i,more:=SetTable.runEnd mask i - i,i,perturb }
theorem zH(t:SetTable)(p:SetTable.Probe):t.advance p=pY t.mask p:=rfl
theorem pW(mask:Nat)(p:SetTable.Probe):(pY mask p).dummy=p.dummy:=by unfold pY;split<;>rfl
def visit(mask:Nat):Nat->SetTable.Probe->List Nat
 | 0,_=>[]
 | f+1,p=>p.j::visit mask f (pY mask p)
def startM(mask:Nat)(h:Int):SetTable.Probe :=
 let i:=SetTable.bits h % (mask+1)
 { j:=i,more:=SetTable.runEnd mask i - i,i,perturb:=SetTable.bits h,dummy:=none }
theorem sx(t:SetTable)(h:Int):t.probeStart h=startM t.mask h:=rfl
theorem zw:∀h∈hs,∀j∈List.range 8,j∈visit 7 220 (startM 7 h):=by decide +kernel
theorem uO:∀h∈hs,∀j∈List.range 32,j∈visit 31 460 (startM 31 h):=by decide +kernel
theorem gB:∀(n:Nat) (l:List Nat),(∀j,j<n->j∈l)->n≤l.length
 | 0,_,_=>Gb _
 | n+1,l,h=>by
  have hm:=h n (Nat.lt_succ_self n);have:=gB n (l.erase n) fun j hj=>(List.mem_erase_of_ne (by omega)).mpr (h j (by omega));rw[List.length_erase_of_mem hm]at this;have:0<l.length:=List.length_pos_of_mem hm;omega
theorem sF{n:Nat}{l:List Nat}(h:l.length<n):∃j,j<n/\j∉l :=
 F5 fun c=>absurd (gB n l fun j hj=>F5 fun q=>c ⟨j,hj,q⟩) (by omega)
theorem slot_of{t:SetTable}(hd:t.dummies=#[])(j:Nat):t.slot j=.empty∨∃i,t.slot j=.live i/\i<t.place.size/\j∈t.place.toList:=by
 unfold SetTable.slot;dsimp only;split
 ·rename_i h;have h':=GY.mp h;obtain⟨hi,e⟩:=Array.getElem?_eq_some_iff.mp h';refine .inr ⟨_,rfl,hi,?_⟩;rw[←e];exact Array.getElem_mem_toList hi
 ·left;have:SetTable.has t.dummies j=false:=by
   rw[hd];rfl
  rw[this];rfl
theorem l8{t:SetTable}{hashAt:Nat->Int}{h:Int}(hd:t.dummies=#[])(hn:∀i,i<t.place.size->hashAt i≠h):∀(fuel:Nat) (p:SetTable.Probe),p.dummy=none ->
  (∃j∈visit t.mask fuel p,j∉t.place.toList)->∃j,SetTable.probe.go t hashAt h fuel p=some (.empty j none)
 | 0,_,_,⟨_,hj,_⟩=>by simp[visit]at hj
 | f+1,p,hp,⟨j,hj,hjn⟩=>by
  unfold SetTable.probe.go;rcases slot_of hd p.j with e |⟨i,e,hi,hm⟩
  ·rw[e];dsimp only;exact⟨p.j,by rw[hp]⟩
  ·rw[e];dsimp only;rw[Fh (by intro q;exact hn i hi (GY.mp q)),zH];refine l8 hd hn f (pY t.mask p) (by rw[pW];exact hp) ⟨j,?_,hjn⟩;have hj':j=p.j∨j∈visit t.mask f (pY t.mask p):=Fn.mp hj;rcases hj' with rfl | hj'
   ·exact absurd hm hjn
   ·exact hj'
theorem rF{t:SetTable}{hashAt:Nat->Int}{h:Int}(hh:h∈hs)(hd:t.dummies=#[])(hn:∀i,i<t.place.size->hashAt i≠h)(hm:t.mask=7∨t.mask=31)(hsz:t.place.size≤t.mask) :
  ∃j,t.probe hashAt h (t.probeStart h)=some (.empty j none):=by
 unfold SetTable.probe;refine l8 hd hn _ _ rfl ?_;obtain⟨j,hj,hjn⟩:=sF (n:=t.mask+1) (l:=t.place.toList) (by simpa using Nat.lt_succ_of_le hsz);refine⟨j,?_,hjn⟩;rw[sx];rcases hm with e | e
 ·rw[e]at hj ⊢;exact zw h hh j (FL.mpr hj)
 ·rw[e]at hj ⊢;exact uO h hh j (FL.mpr hj)
theorem tZ(t:SetTable)(j:Nat):(t.put j).1.place.size=t.place.size+1:=by
 unfold SetTable.put SetTable.insertAt;dsimp only;simp only[Array.size_append,Array.size_push,Array.size_extract];omega
theorem md{t:SetTable}(hd:t.dummies=#[])(j:Nat):(t.put j).1.dummies=#[]:=by
 unfold SetTable.put;dsimp only;rw[hd];rfl
theorem rZ(t:SetTable)(j:Nat):(t.put j).1.mask=t.mask/\(t.put j).1.plain=t.plain:=⟨rfl,rfl⟩
theorem insertAt_perm{α:Type}(xs:Array α)(p:Nat)(x:α):(SetTable.insertAt xs p x).toList.Perm (x::xs.toList):=by
 unfold SetTable.insertAt;rw[Array.toList_append,Array.toList_push,GG];have e:xs.toList=(xs.extract 0 p).toList++(xs.extract p xs.size).toList:=by
  rw[Array.toList_extract,Array.toList_extract];unfold List.extract;rw[List.drop_zero,Nat.sub_zero];have e2:(List.drop p xs.toList).take (xs.size - p)=List.drop p xs.toList:=List.take_of_length_le (by rw[FZ];simp);rw[e2,List.take_append_drop]
 rw[e];exact List.perm_middle
def runs(mask:Nat):Nat->Nat->Nat->List Nat
 | 0,_,_=>[]
 | f+1,i,pt=>((List.range (SetTable.runEnd mask i+1 - i)).map (i+·))++runs mask f (SetTable.leap mask i pt).1 (SetTable.leap mask i pt).2
theorem zg:∀h∈hs,∀j∈List.range 32,j∈runs 31 46 (SetTable.bits h % 32) (SetTable.bits h):=by decide +kernel
theorem jE{mask:Nat}{owner:Array (Option Nat)}:∀(f i pt:Nat),(∃j∈runs mask f i pt,(owner.getD j (some 0)).isNone=true)->∃j,SetTable.layClean.free mask owner f i pt=some j/\(owner.getD j (some 0)).isNone=true
 | 0,_,_,⟨_,hj,_⟩=>by simp[runs]at hj
 | f+1,i,pt,⟨j,hj,hn⟩=>by
  unfold SetTable.layClean.free;cases e:(List.range (SetTable.runEnd mask i+1 - i)).find? fun k=>(owner.getD (i+k) (some 0)).isNone with
  | some k =>
   dsimp only;exact⟨i+k,rfl,by have:=List.find?_some e;exact this⟩
  | none =>
   dsimp only;rcases E9.mp hj with hj | hj
   ·obtain⟨k,hk,rfl⟩:=Fg.mp hj;have:=List.find?_eq_none.mp e k hk;exact absurd hn this
   ·exact jE f _ _ ⟨j,hj,hn⟩
theorem iT{α:Type}:∀(l:List (Option α)) (j:Nat) (k:α),l[j]?=some none->((l.set j (some k)).filterMap id).Perm (k::l.filterMap id)
 | [],_,_,h=>by simp at h
 | none::l,0,k,_=>by simp
 | some x::l,0,k,h=>by simp at h
 | none::l,j+1,k,h=>by
  have:=iT l j k (by simpa using h);simpa using this
 | some x::l,j+1,k,h=>by
  have:=iT l j k (by simpa using h);simp only[List.set_cons_succ,List.filterMap_cons_some (f:=id) rfl];exact(this.cons x).trans (List.Perm.swap k x _)
theorem di{α:Type}:∀(l:List (Option α)),(l.filterMap id).length<l.length->∃j:Nat,l[j]?=some none
 | [],h=>by simp at h
 | none::l,_=>⟨0,rfl⟩
 | some x::l,h=>by
  have h':(l.filterMap id).length<l.length:=by simpa using h
  obtain⟨j,e⟩:=di l h';exact⟨j+1,by simpa using e⟩
def iB(mask:Nat)(acc:Option (Array (Option Nat)×Nat))(h:Int):Option (Array (Option Nat)×Nat):=do
 let (owner,k)←acc
 let j←SetTable.layClean.free mask owner (SetTable.turns mask) (SetTable.bits h % (mask+1)) (SetTable.bits h)
 pure (owner.setIfInBounds j (some k),k+1)
theorem mh:∀(l:List Int) (owner:Array (Option Nat)) (k:Nat),(∀h∈l,h∈hs)->owner.size=32->(owner.toList.filterMap id).Perm (List.range k)->k+l.length≤32 ->
  ∃ow',l.foldl (iB 31) (some (owner,k))=some (ow',k+l.length)/\ow'.size=32/\(ow'.toList.filterMap id).Perm (List.range (k+l.length))
 | [],owner,k,_,hs,hp,_=>⟨owner,rfl,hs,hp⟩
 | h::l,owner,k,hh,hsz,hp,hl=>by
  have hlen:(owner.toList.filterMap id).length=k:=by rw[hp.length_eq,Ga]
  obtain⟨j,hj⟩:=di owner.toList (by rw[hlen];simp only[Fs]at hl;rw[show owner.toList.length=32 by simpa using hsz];omega);have hjlt:j<32:=by
   have:=(E6.mp hj).1;simpa[hsz]using this
  have hnone:∀j,(owner.getD j (some 0)).isNone=true->owner.toList[j]?=some none:=fun j q=>by
   rw[FR];unfold Array.getD at q;split at q
   ·rename_i hlt;rw[Fm hlt];cases e:owner[j]with
    | none=>rfl
    | some x =>
     have q':(owner[j]).isNone=true:=q;rw[e]at q';cases q'
   ·cases q
  obtain⟨j',ej,hn⟩:=jE (mask:=31) (owner:=owner) 46 (SetTable.bits h % 32) (SetTable.bits h) ⟨j,zg h (hh h E7) j (FL.mpr hjlt),by
   unfold Array.getD;rw[dif_pos (by rw[hsz];exact hjlt)];rw[FR,Fm (by rw[hsz];exact hjlt)]at hj;have:=FH hj;show(owner[j]).isNone=true;rw[this];rfl⟩
  have est:iB 31 (some (owner,k)) h=some (owner.setIfInBounds j' (some k),k+1):=by
   unfold iB;show(SetTable.layClean.free 31 owner (SetTable.turns 31) (SetTable.bits h % 32) (SetTable.bits h) >>= fun j=>pure (owner.setIfInBounds j (some k),k+1))=_;rw[show SetTable.turns 31=46 from rfl,ej];rfl
  have hp':((owner.setIfInBounds j' (some k)).toList.filterMap id).Perm (List.range (k+1)):=by
   rw[Array.toList_setIfInBounds];refine(iT _ _ _ (hnone j' hn)).trans ?_;rw[List.range_succ];exact(hp.cons k).trans (List.perm_append_singleton k _).symm
  obtain⟨ow',e1,e2,e3⟩:=mh l (owner.setIfInBounds j' (some k)) (k+1) (fun x hx=>hh x (Ff _ hx)) (by simpa using hsz) hp' (by simp only[Fs]at hl;omega);refine⟨ow',?_,e2,?_⟩
  ·rw[List.foldl_cons,est,e1];simp only[Fs];congr 2;omega
  ·rw[Fs,show k+(l.length+1)=k+1+l.length by omega];exact e3
theorem o3{t:SetTable}{hashes:Array Int}{wanted:Nat}(hw:SetTable.sizeAbove wanted=32)(hh:∀h∈hashes.toList,h∈hs)(hl:hashes.size≤32) :
  ∃t' order,t.relaid hashes wanted=some (t',order)/\t'.mask=31/\t'.dummies=#[]/\t'.place.size=hashes.size/\order.toList.Perm (List.range hashes.size)/\t'.plain=t.plain:=by
 have e0:(Array.replicate 32 (none:Option Nat)).toList.filterMap id=[]:=by decide
 obtain⟨ow,e1,e2,e3⟩:=mh hashes.toList (Array.replicate 32 none) 0 hh (by simp) (by rw[e0];exact GO _) (by simpa using hl);rw[Nat.zero_add]at e1 e3;have hlc:SetTable.layClean 31 hashes=some ow:=by
  unfold SetTable.layClean;rw[←Array.foldl_toList];show Option.map (·.1) (hashes.toList.foldl (iB 31) (some (Array.replicate 32 none,0)))=_;rw[e1];rfl
 have live2:((List.range 32).filterMap fun j=>(ow.getD j none).map ((j,·):Nat->Nat×Nat)).map (·.2)=ow.toList.filterMap id:=by
  have gen:∀(l:List (Option Nat)) (n:Nat),((l.zipIdx n).filterMap (fun q=>q.1.map ((q.2,·):Nat->Nat×Nat))).map (·.2)=l.filterMap id:=by
   intro l
   induction l with
   | nil=>intro n;rfl
   | cons a l ih =>
    intro n;rw[List.zipIdx_cons];cases a with
    | none=>simpa using ih (n+1)
    | some x=>simpa using ih (n+1)
  rw[←gen ow.toList 0];congr 1;have ez:ow.toList.zipIdx 0=(List.range 32).map fun j=>(ow.getD j none,j):=by
   apply List.ext_getElem?;intro j;rw[List.getElem?_zipIdx,FN];by_cases hj:j<32
   ·rw[List.getElem?_range hj,FR,Fm (by rw[e2];exact hj)];simp[Array.getD,e2,hj]
   ·rw[Gu (show ow.toList.length≤j by simpa[e2]using Nat.le_of_not_lt hj),Gu (show(List.range 32).length≤j by simpa using Nat.le_of_not_lt hj)];rfl
  rw[ez,List.filterMap_map];rfl
 have hlen:(ow.toList.filterMap id).length=hashes.size:=by rw[e3.length_eq,Ga];simp
 refine⟨{ mask:=31,place:=(((List.range 32).filterMap fun j=>(ow.getD j none).map ((j,·):Nat->Nat×Nat)).map (·.1)).toArray,dummies:=#[],finger:=t.finger,led:=t.led,moves:=t.movedTo 31,plain:=t.plain },
  (((List.range 32).filterMap fun j=>(ow.getD j none).map ((j,·):Nat->Nat×Nat)).map (·.2)).toArray,by
  unfold SetTable.relaid SetTable.laid;rw[hw];show(SetTable.layClean 31 hashes >>= _)=_;rw[hlc];rfl,rfl,rfl,?_,?_,rfl⟩
 ·show(((List.range 32).filterMap fun j=>(ow.getD j none).map ((j,·):Nat->Nat×Nat)).map (·.1)).toArray.size=_;rw[Fe,EW,← hlen,← live2,EW]
 ·show((((List.range 32).filterMap fun j=>(ow.getD j none).map ((j,·):Nat->Nat×Nat)).map (·.2)).toArray).toList.Perm _;rw[live2];have:hashes.size=hashes.toList.length:=by simp
  rw[this];exact e3
theorem mO{α:Type}{es:Array α}{order:Array Nat}(h:order.toList.Perm (List.range es.size)):(order.filterMap (es[·]?)).toList.Perm es.toList:=by
 have e:(order.filterMap (es[·]?)).toList=order.toList.filterMap (es[·]?):=by simp
 rw[e];refine(h.filterMap _).trans ?_;have:(List.range es.size).filterMap (es[·]?)=es.toList:=by
  apply List.ext_getElem?;intro i;have gen:∀n,n≤es.size->(List.range n).filterMap (es[·]?)=es.toList.take n:=by
   intro n
   induction n with
   | zero=>intro _;simp
   | succ n ih =>
    intro hn;rw[List.range_succ,List.filterMap_append,ih (by omega),F6];simp[Fm (show n<es.size by omega)]
  rw[gen es.size (Fd _),List.take_of_length_le (by simp)]
 rw[this]
end SP
namespace SP
section
variable {prog:Program}{w:World}{A:Around}{E:Value->Shared->Prop}{s:Shared}
structure kO (h:Heap) (S:Addr) (done:List (Int × Int)):Prop where
 is:∃es ep t,h.get? S=some { cls:=.type "set",dict:=none,data:=.set es ep t }/\t.dummies=#[]/\t.place.size=es.size/\es.size=done.length/\((t.mask=7/\es.size≤4)∨(t.mask=31/\es.size≤18)) /\
  ∀e∈es.toList,∃p∈done,e.1=hp p
theorem fits_of{t:SetTable}{n:Nat}(hd:t.dummies=#[])(h1:t.place.size=n)(h2:n≤t.mask):t.fits n=true:=by
 unfold SetTable.fits SetTable.fill;rw[hd];simp[h1,h2]
theorem qk(u v:Int)(h:(u,v)∈prs):tupleKeyHash (intKind prog w) [u,v]=hp (u,v):=by
 have key:∀p∈prs,hashInt p.1=p.1/\hashInt p.2=p.2:=by decide +kernel
 obtain⟨h1,h2⟩:=key _ h;show reduceHash (Builtin.Tuple.tupleHashOf [hashInt u,hashInt v])=reduceHash (Builtin.Tuple.tupleHashOf [u,v]);have h1':hashInt u=u:=h1;have h2':hashInt v=v:=h2;rw[h1',h2']
theorem v8{ks:List Int}{vs:List Value}(h:ItemsAre (intKind prog w) ks vs):∀x∈vs,∃i t,x=.int i t:=by
 induction h with
 | nil=>intro x hx;simp at hx
 | cons h1 _ ih =>
  intro x hx;rcases Fn.mp hx with rfl | hx
  ·obtain⟨t,rfl⟩:=Value.isInt_shape h1;exact⟨_,t,rfl⟩
  ·exact ih x hx
theorem gO{a:Addr}{u v:Int}{Q:Bool->Shared->Prop}(hk:IsTupleKey (intKind prog w) s.heap [u,v] a)(h:Q true s):wpAny (model prog w) A (hashByValue 8 (.ref a)) Q E s:=by
 have hT:=hk.typeIs;obtain⟨o,items,n,ho,hc,hd,hi⟩:=hk;unfold hashByValue;refine EX (GV hT F.slot_tuple_hash.lookup ?_);show wpAny _ _ (seqItems? (.ref a) >>= _) _ _ s;refine EX (wpAny_seqItems ho hd ?_);refine EX ?_;show wpAny _ _ (forIn items _ _) _ _ s;rw[←Array.forIn_toList];have hall:=v8 hi;refine wpAny_forIn_list _ (fun rest r s'=>r.1=none/\s'=s/\∀v∈rest,∃i t,v=.int i t) _ ?_ ?_ _ _ ⟨rfl,rfl,hall⟩
 ·rintro v rest r s' ⟨hr,rfl,hall⟩;obtain⟨i,t,rfl⟩:=hall v E7;show wpAny _ _ (pure true >>= _) _ _ _;refine EX (E1 ?_);simp only[Bool.not_true,GP,if_false];exact E1 ⟨rfl,rfl,fun u hu'=>hall u (Ff _ hu')⟩
 ·rintro⟨r1,r2⟩ s' ⟨hr,rfl,_⟩;simp only at hr;subst hr;exact E1 h
theorem l7{S a:Addr}{done:List (Int×Int)}{u v:Int}{Q:Bool->Shared->Prop}(hu:A.units<cLine)(hk:IsTupleKey (intKind prog w) s.heap [u,v] a)(hP:kO s.heap S done)(hin:(u,v)∈prs)(hd:∀p∈done,p∈prs)
  (hn:(u,v)∉done) (hlen:done.length<15)
  (h:∀h' tk,Heap.SameBut S s.heap h'->kO h' S (done++[(u,v)])->Q true { s with heap:=h',toks:=tk }):wpAny (model prog w) A (setAdd S (.ref a)) Q E s:=by
 obtain⟨es,ep,t,ho,htd,hts,hes,hm,hh⟩:=hP.is;have hsa:S≠a:=by
  rintro rfl;obtain⟨o,items,n,ho',hc,_⟩:=hk;rw[ho]at ho';cases ho';exact absurd (show Value.type "set"=Value.type "tuple" from hc) (by decide)
 unfold setAdd;refine Gp (EX (wpAny_pyHash_tuple hu hk ?_));rw[qk u v hin];generalize hs':({ s with toks:=s.toks+([u,v].length+1) }:Shared)=s1;have e1:s1.heap=s.heap:=by rw[←hs']
 have ho1:s1.heap.get? S=some { cls:=.type "set",dict:=none,data:=.set es ep t }:=by rw[e1];exact ho
 have hk1:IsTupleKey (intKind prog w) s1.heap [u,v] a:=by rw[e1];exact hk
 have hmk:es.size≤t.mask:=by omega
 have hf:t.fits es.size=true:=fits_of htd hts hmk;unfold setAddHashed;refine Gp ?_;show wpAny _ _ (setAddHashedIn S (.ref a) (hp (u,v)) (99999+1)) _ _ _;unfold setAddHashedIn;refine EX (GC ho1 rfl hf ?_);dsimp only;have hbs:byScan (.ref a) es=false:=rfl;rw[hbs];simp only[GP,if_false];obtain⟨j,hj⟩:=rF (t:=t) (hashAt:=fun i=>(es[i]?.map (·.1)).getD 0) (h:=hp (u,v)) (mB hin) htd (fun i hi q=>by
  rw[hts]at hi;rw[Fm hi]at q;have q':(es[i]).1=hp (u,v):=q;obtain⟨p,hpd,e⟩:=hh es[i] (Array.getElem_mem_toList hi);rw[e]at q';exact hn (zo p (hd p hpd) _ hin q'▸hpd)) (by omega) (by omega)
 unfold setSearch;show wpAny _ _ (setSearchFrom S (.ref a) (hp (u,v)) true (99999+1) none >>= _) _ _ _;unfold setSearchFrom;refine EX (EX (GC ho1 rfl hf ?_));dsimp only;have hgw:t.gaveWay=false:=by
  unfold SetTable.gaveWay;rcases hm with hm | hm<;>rw[hm.1]<;>rfl
 rw[hgw,Fh (by decide)];generalize hX:t.probe _ (hp (u,v)) (none.getD (t.probeStart (hp (u,v))))=X0;have hX':X0=some (.empty j none):=by rw[←hX];exact hj
 subst hX';dsimp only;refine E1 ?_;dsimp only;refine EX (GC ho1 rfl hf ?_);dsimp only;have hps:=tZ t j;have hpd:=md htd j;obtain⟨hpm,hpp⟩:=rZ t j;have hip:=insertAt_perm es (t.put j).2 (hp (u,v),Value.ref a);have his:(SetTable.insertAt es (t.put j).2 (hp (u,v),Value.ref a)).size=es.size+1:=by
  have:=hip.length_eq;simpa using this
 have hash':∀e∈(SetTable.insertAt es (t.put j).2 (hp (u,v),Value.ref a)).toList,∃p∈done++[(u,v)],e.1=hp p:=fun e he=>by
  rcases Fn.mp (hip.mem_iff.mp he)with rfl | he
  ·exact⟨(u,v),by simp,rfl⟩
  ·obtain⟨p,h1,h2⟩:=hh e he;exact⟨p,FE _ h1,h2⟩
 have last:wpAny (model prog w) A (do
   storeSet S (SetTable.insertAt es (t.put j).2 (hp (u,v),Value.ref a)) (t.put j).1
   if (!false&&(t.put j).1.tooFull)=true then do
    setRelay S (SetTable.grown (es.size+1))
    pure true
   else pure true) Q E s1:=by
  refine EX (wpAny_storeSet_of ho1 rfl ?_ (by rw[his,FP];omega));have hg:(s1.heap.update S (Obj.putSet (SetTable.insertAt es (t.put j).2 (hp (u,v),Value.ref a)) (t.put j).1)).get? S=some { cls:=.type "set",dict:=none,data:=.set (SetTable.insertAt es (t.put j).2 (hp (u,v),Value.ref a)) (ep+1) (t.put j).1 } :=
   FX _ ho1 rfl
  have sb1:Heap.SameBut S s.heap (s1.heap.update S (Obj.putSet (SetTable.insertAt es (t.put j).2 (hp (u,v),Value.ref a)) (t.put j).1)):=by rw[e1];exact FY ..
  have hs1:∀hh':Heap,({ s1 with heap:=hh' }:Shared)={ s with heap:=hh',toks:=s1.toks }:=fun hh'=>by rw[←hs']
  by_cases hfull:(t.put j).1.tooFull=true
  ·rw[hfull,Fp (by rfl)];have hfu:((t.put j).1.place.size+(t.put j).1.dummies.size)*5≥(t.put j).1.mask*3:=by
    have q:=hfull;unfold SetTable.tooFull SetTable.fill at q;exact Gk q
   rw[hps,hpd,hpm,hts]at hfu;have hz:(#[]:Array Nat).size=0:=rfl;rw[hz]at hfu;have h5:t.mask=7/\es.size=4:=by omega
   have hw:SetTable.grown (es.size+1)=20:=by rw[h5.2];rfl
   rw[hw];have hf2:(t.put j).1.fits (SetTable.insertAt es (t.put j).2 (hp (u,v),Value.ref a)).size=true:=fits_of hpd (by rw[hps,his,hts]) (by rw[his,hpm];omega);obtain⟨t',order,r1,r2,r3,r4,r5,r6⟩:=o3 (t:=(t.put j).1) (hashes:=(SetTable.insertAt es (t.put j).2 (hp (u,v),Value.ref a)).map (·.1)) (wanted:=20) rfl (fun h0 hm0=>by
    rw[Array.toList_map]at hm0;obtain⟨e,he,rfl⟩:=Fg.mp hm0;obtain⟨p,hp1,hp2⟩:=hash' e he;rw[hp2];rcases E9.mp hp1 with q | q
    ·exact mB (hd p q)
    ·rw[E5.mp q];exact mB hin) (by rw[Array.size_map,his];omega)
   rw[Array.size_map]at r4 r5;have op:=mO r5;have osz:(order.filterMap ((SetTable.insertAt es (t.put j).2 (hp (u,v),Value.ref a))[·]?)).size=(SetTable.insertAt es (t.put j).2 (hp (u,v),Value.ref a)).size:=by
    rw[←Gh,← Gh];exact op.length_eq
   unfold setRelay;refine EX (EX (GC hg rfl hf2 ?_));dsimp only;rw[Fh (show ¬SetTable.sizeAbove 20>sizeLine by rw[FP];decide)];refine EX ?_;rw[r1];show wpAny _ _ (if (Array.size (order.filterMap ((SetTable.insertAt es (t.put j).2 (hp (u,v),Value.ref a))[·]?)) !=(SetTable.insertAt es (t.put j).2 (hp (u,v),Value.ref a)).size)=true then _ else _) _ _ _;rw[Fh (by rw[osz];simp)];refine E1 ?_;dsimp only;refine wpAny_storeSet_of hg rfl ?_ (by rw[osz,his,FP];omega);refine E1 ?_;have hg3:=FX (Obj.putSet (order.filterMap ((SetTable.insertAt es (t.put j).2 (hp (u,v),Value.ref a))[·]?)) t') hg rfl;rw[hs1];refine h _ _ (sb1.trans (FY ..)) ⟨_,_,_,hg3,r3,by rw[r4,osz],by rw[osz,his,hes];simp,.inr ⟨r2,by rw[osz,his];omega⟩,fun e he=>hash' e (op.mem_iff.mp he)⟩
  ·rw[Bool.not_eq_true]at hfull;rw[hfull,Fh (by decide)];refine E1 ?_;rw[hs1];refine h _ _ sb1 ⟨_,_,_,hg,hpd,by rw[hps,his,hts],by rw[his,hes];simp,?_,hash'⟩;have hfu:¬((t.put j).1.place.size+(t.put j).1.dummies.size)*5≥(t.put j).1.mask*3:=by
    have q:=hfull;unfold SetTable.tooFull SetTable.fill at q;exact of_decide_eq_false q
   rw[hps,hpd,hpm,hts]at hfu;have hz:(#[]:Array Nat).size=0:=rfl;rw[hz]at hfu;rw[his,hpm];omega
 by_cases hpl:(t.put j).1.plain=true
 ·rw[Fp hpl];refine EX (gO hk1 ?_);exact last
 ·rw[Fh hpl];refine EX (E1 ?_);exact last
def qL(h:Heap)(vs:List Value)(ps:List (Int×Int)):Prop:=∀(i:Nat) (v:Value),vs[i]?=some v->∃a p,v=.ref a/\ps[i]?=some p/\IsTupleKey (intKind prog w) h [p.1,p.2] a
theorem qO{h h':Heap}{S a:Addr}{u v:Int}{es:Array (Int×Value)}{ep:Nat}{t:SetTable}(x:IsTupleKey (intKind prog w) h [u,v] a)(ho:h.get? S=some { cls:=.type "set",dict:=none,data:=.set es ep t })
  (sb:∀b o,b≠S->h.get? b=some o->h'.get? b=some o):IsTupleKey (intKind prog w) h' [u,v] a:=by
 obtain⟨o,items,n,e,c,d,i⟩:=x;refine⟨o,items,n,sb a o ?_ e,c,d,i⟩;rintro rfl;rw[ho]at e;cases e;cases d
theorem pw{S I l:Addr}{vs:List Value}{ps:List (Int×Int)}{R:Result->Shared->Prop}(hu:A.units+1<cLine)(hh:A.in1.handled=none)(hlen:vs.length=ps.length)(hl15:ps.length≤15)(hnd:ps.Nodup)(hin:∀p∈ps,p∈prs)
  (hSI:S≠I) (hSl:S≠l) (hlI:l≠I):∀(k i:Nat) (s:Shared),ps.length - i=k->i≤ps.length->s.heap.IsListIter I l i->s.heap.IsList l vs.toArray->qL (prog:=prog) (w:=w) s.heap vs ps->kO s.heap S (ps.take i) ->
   (∀h' tk,(∀b o,b≠S->b≠I->s.heap.get? b=some o->h'.get? b=some o)->kO h' S ps->R (.ok (.ret .none)) { s with heap:=h',toks:=tk }) ->
   codeAny (model prog w) A (.builtin "set.update.loop" ⟨[.ref S,.ref I],[]⟩) R s:=by
 intro k
 induction k with
 | zero =>
  intro i s hk hi hit hl hT hP hR;have e:i=ps.length:=by omega
  subst e;rw[FW]at hP;refine F3 F.entry_set_update_loop ?_;rw[FQ Gx _];show wpAny _ A.in1 (pyNext (.ref I) >>= _) _ _ s;refine EX (wpAny_pyNext_list_end hh hit hl (by simp[hlen]) fun h' eb=>?_);show wpAny _ A.in1 (ret Value.none) _ _ _;refine E1 (hR h' s.toks (fun b o _ hb e=>eb b o hb e) ?_);obtain⟨es,ep,t,ho,r⟩:=hP.is;exact⟨es,ep,t,eb S _ hSI ho,r⟩
 | succ k ih =>
  intro i s hk hi hit hl hT hP hR;have hlt:i<ps.length:=by omega
  have hvi:vs[i]?=some vs[i]:=EY (by omega);obtain⟨a,p,ev,ep,key⟩:=hT i _ hvi;refine F3 F.entry_set_update_loop ?_;rw[FQ Gx _];show wpAny _ A.in1 (pyNext (.ref I) >>= _) _ _ s;refine EX (wpAny_pyNext_list_item hit hl (x:=.ref a) (by rw[←ev];simp) fun h1 hit1 sb1=>?_);have k1:∀b o,b≠I->s.heap.get? b=some o->h1.get? b=some o:=fun b o hb e=>sb1.extBut b o hb e;obtain⟨es,epo,t,ho,r⟩:=id hP.is;have hP1:kO h1 S (ps.take i):=⟨es,epo,t,k1 S _ hSI ho,r⟩;have key1:IsTupleKey (intKind prog w) h1 [p.1,p.2] a:=by
   obtain⟨o,items,n,e,c,d,ii⟩:=key;refine⟨o,items,n,k1 a o ?_ e,c,d,ii⟩;rintro rfl;obtain⟨oi,hoi,hci,_⟩:=hit;rw[hoi]at e;cases e;rw[hci]at c;exact absurd c (by decide)
  show wpAny _ A.in1 (holding [Value.ref a] (setAdd S (.ref a)) >>= _) _ _ _;have hmem:p∈ps:=Fy ep;have hnot:p∉ps.take i:=fun hm=>by
   obtain⟨j,hj,e⟩:=List.mem_iff_getElem.mp hm;rw[List.getElem_take]at e;rw[FA]at hj;obtain⟨hi',e'⟩:=E6.mp ep;have:=(List.getElem_inj hnd (h₀:=by omega) (h₁:=hi')).mp (e.trans e'.symm);omega
  refine EX (Gp (l7 (u:=p.1) (v:=p.2) (A:=A.in1) (by show A.units+1<cLine;exact hu) key1 hP1 (hin p hmem) (fun q hq=>hin q (List.mem_of_mem_take hq)) hnot (by rw[FA];omega) fun h2 tk sb2 hP2=>?_));have k2:∀b o,b≠S->h1.get? b=some o->h2.get? b=some o:=fun b o hb e=>sb2.extBut b o hb e;have et:ps.take i++[p]=ps.take (i+1):=by rw[F6,ep];rfl
  refine E1 ⟨GK Gx _,ih (i+1) { s with heap:=h2,toks:=tk } (by omega) (by omega) (hit1.extBut (fun b o hb e=>k2 b o hb e) (Ne.symm hSI)) ?_ ?_ (by rw[←et];exact hP2) ?_⟩
  ·exact(hl.extBut (fun b o hb e=>k1 b o hb e) hlI).extBut (fun b o hb e=>k2 b o hb e) (Ne.symm hSl)
  ·intro j v hv;obtain⟨a',p',e1',e2',key'⟩:=hT j v hv;refine⟨a',p',e1',e2',qO ?_ (k1 S _ hSI ho) k2⟩;obtain⟨o,items,n,e,c,d,ii⟩:=key';refine⟨o,items,n,k1 a' o ?_ e,c,d,ii⟩;rintro rfl;obtain⟨oi,hoi,hci,_⟩:=hit;rw[hoi]at e;cases e;rw[hci]at c;exact absurd c (by decide)
  ·intro h3 tk3 kp hP3;exact hR h3 tk3 (fun b o hb hb' e=>kp b o hb hb' (k2 b o hb (k1 b o hb' e))) hP3
set_option maxHeartbeats 4000000 in
theorem iV{l:Addr}{vs:List Value}{ps:List (Int×Int)}{Q:Value->Shared->Prop}(hu:A.units+8<cLine)(hh:A.handled=none)(hl:s.heap.IsList l vs.toArray)(hlen:vs.length=ps.length)(hl15:ps.length≤15)
  (hnd:ps.Nodup) (hin:∀p∈ps,p∈prs) (hT:qL (prog:=prog) (w:=w) s.heap vs ps)
  (h:∀h' tk,(∀b o,b<s.heap.objs.size->s.heap.get? b=some o->h'.get? b=some o)->kO h' s.heap.objs.size ps->Q (.ref s.heap.objs.size) { s with heap:=h',toks:=tk }) :
  wpAny (model prog w) A (call (.type "set") [.ref l]) Q E s:=by
 obtain⟨c0,tl0,mro0⟩:=F.called_set.mro;have made0:=F.called_set.made;have sub0:=F.called_set.sub;have nt0:=F.called_set.notType;have cc0:=F.called_set.canCreate;have tc0:=F.typeCall_set_1 (.ref l);refine wpAny_call (codeAny_of_tree ?_);show wpAny _ _ (callAny (.type "set") _) _ _ _;refine E1 ⟨Code.quiet_builtin _ (by decide +kernel),F3 F.entry_type_call ?_⟩;rw[Around.under_plain (weight_type_call_type "set" [.ref l] []) rfl]
 repeat (any_goals (first | assumption | wp_step))
 refine G0 (code_set_new_1 (.ref l) (E:=E) (Q₁:=fun obj s1=>∃led:Bool,obj=.ref s.heap.objs.size /\
  s1={ s with heap:=s.heap.push { cls:=.type "set",dict:=none,data:=.set #[] 0 (.fresh 0 0 led) } }) fun led=>⟨led,rfl,rfl⟩) fun r s1 hr=>?_
 cases r with
 | error e=>exact hr
 | ok fl =>
  cases fl with
  | ret obj =>
   obtain⟨led,rfl,rfl⟩:=hr;generalize hH:s.heap.push { cls:=.type "set",dict:=none,data:=.set #[] 0 (.fresh 0 0 led) }=H1;have hS:H1.get? s.heap.objs.size=some { cls:=.type "set",dict:=none,data:=.set #[] 0 (.fresh 0 0 led) }:=by rw[←hH];exact Fc _ rfl
   have old:∀b o,s.heap.get? b=some o->H1.get? b=some o:=fun b o e=>by rw[←hH];exact EZ _ e
   have hsz:H1.objs.size=s.heap.objs.size+1:=by rw[←hH,GA]
   have tyS:Shared.TypeIs { s with heap:=H1 } (.ref s.heap.objs.size) "set":=⟨_,hS,rfl⟩;have li0:=F.called_set.init.lookup;have bi0:=F.called_set.init.bind (.ref s.heap.objs.size)
   repeat (any_goals (first | assumption | wp_step))
   refine G0 (codeAny_call_builtin (R:=wants (fun r s2=>r=.none/\∃h' tk,s2={ s with heap:=h',toks:=tk }/\kO h' s.heap.objs.size ps /\
    (∀b o,b<s.heap.objs.size->s.heap.get? b=some o->h'.get? b=some o)) E) F.called_set.init.plain F.entry_set_init (check_set_init_1 tyS ?_)) fun r2 s2 hr2=>?_
   ·obtain⟨ol,hol,hcl,nl,hdl⟩:=hl;obtain⟨oc,od,oda,osl⟩:=ol;simp only at hcl hdl;subst hcl;subst hdl;have hol1:H1.get? l=some { cls:=.type "list",dict:=od,data:=.seq vs.toArray nl,slots:=osl }:=old _ _ hol;have sls:=F.sub_list_set;have slf:=F.sub_list_frozenset;have nld:(Value.type "list"==Value.type "dict")=false:=by decide
    have hl1:H1.IsList l vs.toArray:=⟨_,hol1,rfl,nl,rfl⟩;have llt:l<s.heap.objs.size:=Fb hol;unfold Builtin.«set.__init__» noKeywords Builtin.Frozenset.updateFrom;generalize hPI:pyIter=PI
    wp_walk
    subst hPI;refine wpAny_pyIter_list hl1 ?_;refine EX (wpAny_runValue ?_);generalize hH2:H1.push { cls:=.type "list_iterator",data:=.fields #[.ref l,.int 0 0] }=H2;have old2:∀b o,H1.get? b=some o->H2.get? b=some o:=fun b o e=>by rw[←hH2];exact EZ _ e
    refine pw (l:=l) (ps:=ps) (vs:=vs) (by show A.units+1+1+1<cLine;omega) (by simp[hh]) hlen hl15 hnd hin (by show s.heap.objs.size≠H1.objs.size;rw[hsz];exact Fl (Nat.lt_succ_self _)) (Gz llt) (by show l≠H1.objs.size;rw[hsz];exact Fl (GB llt)) ps.length 0 _ (by omega) (Gb _) ?_ ?_ ?_ ?_ ?_
    ·rw[←hH2];exact⟨_,Fc _ rfl,rfl,rfl⟩
    ·exact⟨_,old2 _ _ hol1,rfl,nl,rfl⟩
    ·intro i v hv;obtain⟨a,p,e1,e2,o,items,n,e,r⟩:=hT i v hv;exact⟨a,p,e1,e2,o,items,n,old2 _ _ (old _ _ e),r⟩
    ·exact⟨#[],0,.fresh 0 0 led,old2 _ _ hS,rfl,rfl,rfl,.inl ⟨rfl,by decide⟩,fun e he=>by simp at he⟩
    ·intro h' tk kp hP;show wpAny _ _ (pure ()) _ _ _;refine E1 ?_;show wpAny _ _ (ret Value.none) _ _ _;refine E1 ⟨rfl,h',tk,rfl,hP,fun b o hb e=>?_⟩;refine kp b o (Fl hb) ?_ (old2 _ _ (old _ _ e));show b≠H1.objs.size;rw[hsz];exact Fl (GB hb)
   ·cases r2 with
    | error e=>exact hr2
    | ok f2 =>
     cases f2 with
     | ret r =>
      obtain⟨rfl,h',tk,rfl,hP,hk⟩:=hr2
      repeat (any_goals (first | assumption | wp_step))
      exact h _ _ hk hP
     | _=>exact hr2.elim
  | _=>exact hr.elim
end
end SP
namespace L2
variable {X:Cx}
def wH(S:Addr)(n:Nat):Heap->Prop:=fun h=>∃es ep t,h.get? S=some { cls:=.type "set",dict:=none,data:=.set es ep t }/\es.size=n/\t.fits es.size=true
def Prs(K:PySem.W.Frag)(H:Hp)(us:List V)(ps:List (Int×Int)):Prop:=Paired (fun(u:V) (p:Int×Int)=>∃t,u=.ref t/\SqT K H t [.int p.1,.int p.2]) us ps
theorem kr{K:PySem.W.Frag}{H:Hp}:∀{us:List V} {ps:List (Int×Int)} {i:Nat} {u:V},Prs K H us ps->us[i]?=some u->∃p t,ps[i]?=some p/\u=.ref t/\SqT K H t [.int p.1,.int p.2]
 | [],_,i,u,_,e=>by simp at e
 | _::_,_::_,0,u,.cons h _,e=>by
  obtain⟨t,h1,h2⟩:=h;simp at e;subst e;exact⟨_,t,by simp,h1,h2⟩
 | _::_,_::_,i+1,u,.cons _ t,e=>by
  obtain⟨p,a,e1,e2⟩:=kr (i:=i) (u:=u) t (by simpa using e);exact⟨p,a,by simpa using e1,e2⟩
theorem kg{K:PySem.W.Frag}{H:Hp}{us:List V}{ps:List (Int×Int)}(h:Prs K H us ps):us.length=ps.length:=Paired.length h
theorem pX(hc:X.calm=true)(hu:X.A.units+64<cLine):cD X (.type "set") (fun xs H Q=>∃(a:Addr) (us:List V) (ps:List (Int×Int)),xs=[.ref a]/\SqL X.K H a us/\Prs X.K H us ps/\ps.Nodup/\(∀p∈ps,p∈SP.prs)/\ps.length≤15/\∀S,H S=none->Q (.ref S) (upd H S (.ext (wH S ps.length)))):=by
 intro pins s σ H xs us Q I r h;obtain⟨a,ws,ps,rfl,hq,hP,nd,hin,h15,q⟩:=h;obtain⟨u,rfl,ru⟩:=Vals.one r;cases ru;obtain⟨its,rv,p,hz⟩:=I.list hq;have hlen:its.length=ps.length:=rv.length.symm.trans (kg hP);refine SP.iV (by omega) (I.ok.hd hc) p.isList hlen h15 nd hin ?_ fun h' tk kp P=>?_
 ·intro i v hv;have hi:i<ws.length:=by rw[rv.length];exact(E6.mp hv).1
  obtain⟨pr,t,e1,e2,hs⟩:=kr (i:=i) hP (EY hi);obtain⟨u,eu,ru⟩:=rv.get (EY hi);rw[hv]at eu;cases eu;rw[e2]at ru;cases ru;obtain⟨is,r2,⟨o,ho,hcl,n,hd⟩,_⟩:=I.tuple hs;obtain⟨x,y,rfl,rx,ry⟩:=vals2 r2;obtain⟨t1,rfl⟩:=rx;obtain⟨t2,rfl⟩:=ry;exact⟨t,pr,rfl,e1,o,_,n,ho,hcl,hd,.cons (by simp[intKind,Value.isInt]) (.cons (by simp[intKind,Value.isInt]) .nil)⟩
 ·have hn:H s.heap.objs.size=none:=I.hok.fresh (Fd _);obtain⟨es,ep,t,ho,hd,hp,hl,hm,_⟩:=P.is;have hf:t.fits es.size=true:=SP.fits_of hd hp (by rcases hm with⟨e,k⟩ |⟨e,k⟩<;>omega);refine⟨.ref s.heap.objs.size,_,I.laid (t':=tk) (o:=.ext (wH s.heap.objs.size ps.length)) (fun b o e=>kp b o (Fb e) e) (Fd _) ?_,rfl,q _ hn⟩;exact⟨⟨es,ep,t,ho,hl,hf⟩,⟨_,ho⟩,fun h1 h2 y_ k=>by obtain⟨es,ep,t,e,l,f⟩:=y_;exact ⟨es,ep,t,k _ e,l,f⟩⟩
theorem qm:cD X (.builtin "len") (fun xs H Q=>∃(S:Addr) (n:Nat),xs=[.ref S]/\H S=some (.ext (wH S n))/\n<1000/\Q (.int n) H):=by
 intro pins s σ H xs us Q I r h;obtain⟨S,n,rfl,hS,hn,q⟩:=h;obtain⟨u,rfl,ru⟩:=Vals.one r;cases ru;obtain⟨⟨es,ep,t,ho,hl,hf⟩,_,_⟩:=(show bQ X.prog X.w H s.heap S (.ext (wH S n))from I.hok S _ hS);subst hl;exact call_len_set ho ⟨rfl,rfl,rfl⟩ rfl hf (by omega) ⟨.int es.size,H,I.tok _,⟨_,rfl⟩,q⟩
end L2
namespace U
open L2
section
variable {B:Bs}{X:Cx}{e:Expr}{ta:TE'}{p p2 pos pos2:Pos}
def prV(p:Int×Int):PV:=.tup [.int p.1,.int p.2]
theorem mJ{K:PySem.W.Frag}{H:Hp}:∀{ps:List (Int×Int)} {us:List V},RPs K H (ps.map prV) us->Prs K H us ps
 | [],us,h=>by
  have:us=[]:=by simpa[RPs]using h
  subst this;exact .nil
 | q::ps,us,h=>by
  simp only[E8,RPs,RP,prV]at h;obtain⟨u,r,rfl,⟨t,ws,rfl,hs,w1,r1,rfl,rfl,w2,r2,rfl,rfl,rfl⟩,h2⟩:=h;exact .cons ⟨t,rfl,hs⟩ (mJ h2)
def rK(x:PV)(H:PHp)(Q:VK'):Prop:=match x with
 | .ref a=>∃ps:List (Int×Int),H a=some (.lst (ps.map prV))/\ps.Nodup/\(∀p∈ps,p∈SP.prs)/\ps.length≤15/\Q (.int ps.length) H
 | _=>False
def oT(ta:TE'):TE':=fun σ H Q=>ta σ H fun x H1=>rK x H1 Q
theorem nk(hc:X.calm=true)(hu:X.A.units+64<cLine)(hgl:Gl X "len")(hml:X.mg "len"=none)(hgs:Gl X "set")(hms:X.mg "set"=none)(bs:bootBuiltins "set"=some (.type "set"))(ha:PE' X B e ta)
  (he:starEach [.Call (.Name "set" p2) [e] [] pos2] X.env=[(false,eval (.Call (.Name "set" p2) [e] [] pos2) X.env)]:=by rfl) (he2:starEach [e] X.env=[(false,eval e X.env)]:=by rfl) :
  PE' X B (.Call (.Name "len" p) [.Call (.Name "set" p2) [e] [] pos2] [] pos) (oT ta) :=
 a8 (fI qm hgl hml Fo (cJ (eY (pX hc hu) hgs hms bs (cJ ha dw he2) (by decide) (by decide) he2 rfl) dw he) (by decide) (by decide) he rfl) fun σ H Q h=>by
  obtain⟨σ',H',Q',s,h,k⟩:=h;refine⟨σ',H',_,s,h,fun x' H1' x H1 h1 rx s1 e1=>?_⟩;cases x' with
  | ref a =>
   obtain⟨ps,ea,nd,hin,h15,q⟩:=h1;simp only[RP]at rx;subst rx;obtain⟨us,eg,r2⟩:=s1.hp _ _ ea;refine⟨a,us,ps,rfl,.inl (.inl eg),mJ r2,nd,hin,h15,fun S hS=>?_⟩;exact⟨S,ps.length,rfl,bt,by omega,k _ _ _ _ q (by simp[RP]) (s1.hid hS) (e1.trans (Ev.hid hS))⟩
  | _=>exact h1.elim
end
section
variable {B:Bs}{X:Cx}{a b:Expr}{ta tb:TE'}{pos:Pos}
def BD:R2':=uI (fun _ j=>0≤j) fun i j=>.int (i / 2 ^ j.toNat)
def A3:R2':=uI0 fun i j=>.int (Builtin.bitAnd i j)
theorem fE(ha:PE' X B a ta)(hb:PE' X B b tb):PE' X B (.BinOp a .RShift b pos) (uOp BD ta tb):=fv Ap (qr fun _ _ _=>by simp[RP]) ha hb
end
end U
namespace ST
open PySem.W
def key(K:Nat->Int)(p:Array Nat)(i:Nat):Int:=K ((p[i]?).getD 0)
structure Ok (n:Nat) (p:Array Nat):Prop where
 perm:p.toList.Perm (List.range n)
def S(K:Nat->Int)(p:Array Nat)(m:Nat):Prop:=∀i j,i<j->j<m->key K p i<key K p j
theorem Ok.size{n:Nat}{p:Array Nat}(h:Ok n p):p.size=n:=by
 have:=h.perm.length_eq;simpa using this
theorem Ok.lt{n:Nat}{p:Array Nat}(h:Ok n p)(h0:0<n)(i:Nat):p.getD i 0<n:=by
 rw[Array.getD_eq_getD_getElem?];cases e:p[i]? with
 | none=>exact h0
 | some x =>
  have:x∈p.toList:=by
   obtain⟨hi,rfl⟩:=Array.getElem?_eq_some_iff.mp e;simp
  exact FL.mp (h.perm.mem_iff.mp this)
theorem Ok.of{n:Nat}{p q:Array Nat}(h:Ok n p)(r:q.Perm p):Ok n q:=⟨(Array.perm_iff_toList_perm.mp r).trans h.perm⟩
section
variable {cmp:Nat->Nat->(Bool->Shared->Prop)->Shared->Prop}{s:Shared}{n:Nat}{K:Nat->Int}{p:Array Nat}
theorem Ok.ne(hK:∀i j,i<n->j<n->K i=K j->i=j)(h:Ok n p){i j:Nat}(hi:i<n)(hj:j<n)(hne:i≠j):key K p i≠key K p j:=by
 intro e;have hs:=h.size;have h0:0<n:=by omega
 unfold key at e;rw[Fm (by omega),Fm (by omega)]at e;simp only[Option.getD_some]at e;have nd:p.toList.Nodup:=(h.perm.nodup_iff).mpr List.nodup_range;have l1:p[i]<n:=by have:=h.lt h0 i;rwa [Array.getD_eq_getD_getElem?,Fm (by omega)]at this
 have l2:p[j]<n:=by have:=h.lt h0 j;rwa [Array.getD_eq_getD_getElem?,Fm (by omega)]at this
 have q:=hK _ _ l1 l2 e;have:i=j:=by
  exact(List.getElem_inj nd (h₀:=by simpa[hs]using hi) (h₁:=by simpa[hs]using hj)).mp (by simpa using q)
 exact hne this
theorem kB(K:Nat->Int)(p:Array Nat)(i:Nat):K (p.getD i 0)=key K p i:=by
 unfold key;rw[Array.getD_eq_getD_getElem?]
variable (hc:∀i j C,i<n->j<n->C (decide (K i<K j)) s->cmp i j C s)(hK:∀i j,i<n->j<n->K i=K j->i=j)
include hc
theorem iP{G:Bool->Shared->Prop}(h0:0<n)(ok:Ok n p){i j:Nat}(h:G (decide (key K p i<key K p j)) s):cmp (p.getD i 0) (p.getD j 0) G s:=by
 refine hc _ _ _ (ok.lt h0 i) (ok.lt h0 j) ?_;rw[kB K p i,kB K p j];exact h
include hK
theorem gJ{i j:Nat}(ok:Ok n p)(hi:i<n)(hj:j<n)(hne:i≠j)(h:¬key K p i<key K p j):key K p j<key K p i:=by
 have:=ok.ne hK hi hj hne;omega
theorem asc(ok:Ok n p):∀(f m:Nat) {G:Nat->Shared->Prop},1≤m->m+f≤n->S K p m ->
  (∀m',m≤m'->m'≤m+f->S K p m'->(m'<m+f->key K p m'<key K p (m' - 1))->G m' s)->(kas_asc p f m).kasWp cmp G s
 | 0,m,G,_,_,hS,h=>h m (Fd _) (Fd _) hS fun q=>absurd q (GI _)
 | f+1,m,G,h1,hm,hS,h=>by
  refine iP hc (by omega) ok (G:=fun c s'=>(if c=true then KasT.ret m else kas_asc p f (m+1)).kasWp cmp G s') ?_;by_cases q:key K p m<key K p (m - 1)
  ·rw[FO q];show G m s;exact h m (Fd _) (by omega) hS fun _=>q
  ·rw[F7 q];show(kas_asc p f (m+1)).kasWp cmp G s;have q':=gJ hc hK ok (by omega) (by omega) (by omega) q;refine asc ok f (m+1) (by omega) (by omega) ?_ fun m' a b c d=>h m' (by omega) (by omega) c fun e=>d (by omega);intro i j hij hj;by_cases hjm:j<m
   ·exact hS i j hij hjm
   ·have:j=m:=by omega
    subst this;by_cases him:i=j - 1
    ·subst him;exact q'
    ·have:=hS i (j - 1) (by omega) (by omega);omega
theorem desc(ok:Ok n p):∀(f m:Nat) {G:Array Nat×Nat×Nat->Shared->Prop},1≤m->m+f≤n->(∀i j,i<j->j<m->key K p j<key K p i) ->
  (∀m',m≤m'->m'≤m+f->(∀i j,i<j->j<m'->key K p j<key K p i)->G (p,m',0) s)->(kas_desc f p m 0).kasWp cmp G s
 | 0,m,G,_,_,hS,h=>h m (Fd _) (Fd _) hS
 | f+1,m,G,h1,hm,hS,h=>by
  refine iP hc (by omega) ok (G:=fun c s'=>(if c=true then(if 0>0 then kas_desc f (kas_rev p (m - (0+1)) m) (m+1) 0 else kas_desc f p (m+1) 0)
   else KasT.ask (p.getD (m - 1) 0) (p.getD m 0) fun d=>if d=true then KasT.ret (p,m,0)else kas_desc f p (m+1) (0+1)).kasWp cmp G s') ?_
  by_cases q:key K p m<key K p (m - 1)
  ·rw[FO q,Fp rfl,Fh (by omega)];refine desc ok f (m+1) (by omega) (by omega) ?_ fun m' a b c=>h m' (by omega) (by omega) c;intro i j hij hj;by_cases hjm:j<m
   ·exact hS i j hij hjm
   ·have:j=m:=by omega
    subst this;by_cases him:i=j - 1
    ·subst him;exact q
    ·have:=hS i (j - 1) (by omega) (by omega);omega
  ·rw[F7 q];have q':=gJ hc hK ok (by omega) (by omega) (by omega) q;refine iP hc (by omega) ok (G:=fun d s'=>(if d=true then KasT.ret (p,m,0)else kas_desc f p (m+1) (0+1)).kasWp cmp G s') ?_;rw[FO q',Fp rfl];exact h m (Fd _) (by omega) hS
theorem oH{m:Nat}(ok:Ok n p)(hm:m≤n)(i:Nat):key K (kas_rev p 0 m) i=if i<m then key K p (m - 1 - i)else key K p i:=by
 unfold key kas_rev;rw[getElem?_mirror_all (by rw[ok.size];exact hm)];by_cases h:i<m
 ·rw[Fp ⟨Gb _,h⟩,Fp h];congr 3;omega
 ·rw[Fh (by omega),Fh h]
theorem count{G:Nat×Array Nat->Shared->Prop}(ok:Ok n p)(h1:1≤n)(h:∀m p',Ok n p'->1≤m->m≤n->S K p' m->G (m,p') s):(kas_count n p).kasWp cmp G s:=by
 unfold kas_count;rw[KasT.kasWp_bind];refine asc hc hK ok (n - 1) 1 (Fd _) (by omega) (fun i j a b=>by omega) fun m' a b hS st=>?_;by_cases e:m'=n
 ·subst e;rw[Fp (by simp)];exact h _ _ ok (by omega) (Fd _) hS
 ·rw[Fh (by simpa using e)];by_cases e1:m'>1
  ·rw[Fp e1];refine iP hc (by omega) ok (G:=fun c s'=>(if c=true then KasT.ret (m',p)else kas_descPart m' n (kas_rev p 0 m')).kasWp cmp G s') ?_;rw[FO (hS 0 (m' - 1) (by omega) (by omega)),Fp rfl];exact h _ _ ok (by omega) (by omega) hS
  ·rw[Fh e1];have:m'=1:=by omega
   subst this;unfold kas_descPart;rw[KasT.kasWp_bind];have st1:=st (by omega);refine desc hc hK ok (n - (1+1)) (1+1) (by omega) (by omega) (fun i j hij hj=>?_) fun m' a b hD=>?_
   ·have h1:j=1:=by omega
    have h2:i=0:=by omega
    subst h1;subst h2;exact st1
   ·rw[Fh (by simp)];unfold kas_tail3;rw[KasT.kasWp_bind];have ok2:Ok n (kas_rev p 0 m'):=ok.of (mirror_perm _ _ _ _);refine asc hc hK ok2 (n - m') m' (by omega) (by omega) (fun i j hij hj=>?_) fun m2 a2 b2 hS2 _=>?_
    ·rw[oH hc hK ok (by omega),oH hc hK ok (by omega),Fp (by omega),Fp hj];exact hD _ _ (by omega) (by omega)
    ·exact h m2 _ ok2 (by omega) (by omega) hS2
theorem place(ok:Ok n p){k:Nat}(hk:k<n)(hS:S K p k):∀(f l r:Nat) {G:Nat->Shared->Prop},l≤r->r≤k->r - l≤f->(∀i,i<l->key K p i<key K p k)->(∀i,r≤i->i<k->key K p k<key K p i) ->
  (∀l',l'≤k->(∀i,i<l'->key K p i<key K p k)->(∀i,l'≤i->i<k->key K p k<key K p i)->G l' s)->(kas_place p k f l r).kasWp cmp G s
 | 0,l,r,G,h1,h2,h3,ha,hb,h=>h l (by omega) ha fun i x y=>hb i (by omega) y
 | f+1,l,r,G,h1,h2,h3,ha,hb,h=>by
  unfold kas_place;by_cases e:l≥r
  ·rw[Fp e];exact h l (by omega) ha fun i x y=>hb i (by omega) y
  ·rw[Fh e];refine iP hc (by omega) ok (G:=fun c s'=>(if c=true then kas_place p k f l ((l+r) / 2)else kas_place p k f ((l+r) / 2+1) r).kasWp cmp G s') ?_;have hmid:(l+r) / 2<k:=by omega
   generalize hm:(l+r) / 2=mid at *;by_cases q:key K p k<key K p mid
   ·rw[FO q,Fp rfl];refine place ok hk hS f l mid (by omega) (by omega) (by omega) ha (fun i x y=>?_) h;by_cases z:i=mid
    ·subst z;exact q
    ·have:=hS mid i (by omega) y;omega
   ·rw[F7 q,Fh (by simp)];have q':=gJ hc hK ok hk (by omega) (by omega) q;refine place ok hk hS f (mid+1) r (by omega) h2 (by omega) (fun i x=>?_) hb h;by_cases z:i=mid
    ·subst z;exact q'
    ·have:=hS i mid (by omega) hmid;omega
theorem oX{k l:Nat}(ok:Ok n p)(hk:k<n)(hl:l≤k)(i:Nat):key K (bubble p k (k - l)) i=if i=l then key K p k else if l<i/\i≤k then key K p (i - 1)else key K p i:=by
 unfold key;rw[getElem?_bubble (by rw[ok.size];exact hk) _ (Nat.sub_le _ _)];rw[show k - (k - l)=l by omega];split
 ·rfl
 ·split<;>rfl
theorem bin:∀(f k:Nat) (p:Array Nat) {G:Array Nat->Shared->Prop},Ok n p->1≤k->k+f=n->S K p k->(∀p',Ok n p'->S K p' n->G p' s)->(kas_bin f p k).kasWp cmp G s
 | 0, k, p, G, ok, h1, h2, hS, h => h p ok (by have : k = n := by omega
                                               subst this; exact hS)
 | f+1,k,p,G,ok,h1,h2,hS,h=>by
  unfold kas_bin;rw[KasT.kasWp_bind];refine place hc hK ok (by omega) hS k 0 k (by omega) (Fd _) (by omega) (fun i x=>by omega) (fun i x y=>by omega) fun l hl ha hb=>?_;refine bin f (k+1) _ (ok.of (bubble_perm _ _ _)) (by omega) (by omega) (fun i j hij hj=>?_) h;rw[oX hc hK ok (by omega) hl,oX hc hK ok (by omega) hl];by_cases c1:i=l
  ·rw[Fp c1];rw[Fh (by omega),Fp (by omega)];exact hb _ (by omega) (by omega)
  ·rw[Fh c1];by_cases c2:j=l
   ·rw[Fp c2,Fh (by omega)];exact ha _ (by omega)
   ·rw[Fh c2];by_cases c3:l<i/\i≤k
    ·rw[Fp c3,Fp (by omega)];exact hS _ _ (by omega) (by omega)
    ·rw[Fh c3];by_cases c4:l<j/\j≤k
     ·rw[Fp c4];by_cases c5:i=j - 1
      ·omega
      ·exact hS _ _ (by omega) (by omega)
     ·rw[Fh c4];exact hS _ _ hij (by omega)
theorem sorts{G:Array Nat->Shared->Prop}(h1:1≤n)(h:∀p,Ok n p->S K p n->G p s):(kas_sort n).kasWp cmp G s:=by
 unfold kas_sort;rw[KasT.kasWp_bind];refine count hc hK (p:=(List.range n).toArray) ⟨by simp⟩ h1 fun m p' ok a b hS=>?_;show(if m<n then kas_bin (n - max m 1) p' (max m 1)else KasT.ret p').kasWp cmp G s;by_cases e:m<n
 ·rw[Fp e,show max m 1=m by omega];exact bin hc hK (n - m) m p' ok a (by omega) hS h
 ·rw[Fh e];have:m=n:=by omega
  subst this;exact h p' ok hS
end
end ST
namespace ST
open PySem.W
def pk(p:Int×Int):Int:=6*p.1+p.2
def Tp(h:Heap)(v:Value)(p:Int×Int):Prop:=∃t o k u1 u2,v=.ref t/\h.get? t=some o/\o.cls=.type "tuple"/\o.data=.seq #[.int p.1 u1,.int p.2 u2] k
def Tps(h:Heap)(vs:List Value)(ps:List (Int×Int)):Prop:=vs.length=ps.length/\∀i v,vs[i]?=some v->Tp h v (ps.getD i (0,0))
theorem Tp.kp{h h':Heap}{v:Value}{p:Int×Int}(x:Tp h v p)(k:∀b o,o.cls=.type "tuple"->h.get? b=some o->h'.get? b=some o):Tp h' v p:=by
 obtain⟨t,o,n,u1,u2,e,ho,hc,hd⟩:=x;exact⟨t,o,n,u1,u2,e,k _ _ hc ho,hc,hd⟩
section
variable {prog:Program}{w:World}{A:Around}{E:Value->Shared->Prop}{s:Shared}
theorem vi{x y:Value}{p q:Int×Int}{C:Bool->Shared->Prop}(hx:Tp s.heap x p)(hy:Tp s.heap y q)(bp:0≤p.2/\p.2<6)(bq:0≤q.2/\q.2<6)(h:C (decide (pk p<pk q)) s) :
  wpAny (model prog w) A (keyLt' (tuples' true) x y) C E s:=by
 obtain⟨t,o,n,u1,u2,rfl,ho,hc,hd⟩:=hx;obtain⟨t',o',n',w1,w2,rfl,ho',hc',hd'⟩:=hy;refine kat_lt ho hd ho' hd' ?_;show KatLex prog w A true (decide (2<2)) C [(.int p.1 u1,.int q.1 w1),(.int p.2 u2,.int q.2 w2)] 0 s;refine kat_cons (wpAny_eqBool_int ?_);refine kat_go (fun e1=>kat_yes (kat_cons (wpAny_eqBool_int ?_))) (fun e1=>kat_no ?_)
 ·have e1:p.1=q.1:=by simpa using e1
  refine kat_go (fun e2=>kat_yes (kat_nil ?_)) (fun e2=>kat_no ?_)
  ·have e2:p.2=q.2:=by simpa using e2
   have:decide (pk p<pk q)=decide (2<2):=by unfold pk;rw[e1,e2];simp
   rw[←this];exact h
  ·refine kat_one _ _ (PyProof.Rows.lt_int ?_);have:decide (pk p<pk q)=decide (p.2<q.2):=by
    rw[decide_eq_decide];unfold pk;omega
   show C (decide (p.2<q.2)) s;rw[←this];exact h
 ·have e1:¬p.1=q.1:=by simpa using e1
  refine oneLt_int ?_;have:decide (pk p<pk q)=decide (p.1<q.1):=by
   rw[decide_eq_decide];unfold pk;omega
  rw[←this];exact h
theorem nP{h:Heap}:∀{vs:List Value} {ps:List (Int×Int)},Tps h vs ps->∃fs,KatTups h vs fs/\fs.length=vs.length/\∀v∈fs,∃i t,v=.int i t
 | [],ps,_=>⟨[],KatTups.nil,rfl,by simp⟩
 | v::vs,[],x=>by have:=x.1;simp at this
 | v::vs,p::ps,x=>by
  obtain⟨fs,t,l,q⟩:=nP (h:=h) (vs:=vs) (ps:=ps) ⟨by have:=x.1;simpa using this,fun i v e=>by simpa using x.2 (i+1) v (by simpa using e)⟩;obtain⟨t0,o,n,u1,u2,rfl,ho,hc,hd⟩:=x.2 0 v (by simp);refine⟨.int _ u1::fs,KatTups.cons ho hc hd rfl t,by simp[l],?_⟩;intro z hz;rcases Fn.mp hz with rfl | hz
  ·exact⟨_,_,rfl⟩
  ·exact q z hz
theorem h7{a:Addr}{vs:List Value}{ps:List (Int×Int)}{n:Nat}{P:PySem.Fin->Shared->Prop}(ho:s.heap.get? a=some (seqObj "list" vs.toArray n))(hT:Tps s.heap vs ps)(nd:ps.Nodup)
  (hb:∀p∈ps,0≤p.2/\p.2<6) (h64:vs.length<64)
  (h:∀q:List Nat,q.Perm (List.range vs.length)->(q.map fun i=>ps.getD i (0,0)).Pairwise (fun x y=>pk x<pk y)->P (.done (.ret .none)) { s with heap:=sortedHeap s.heap a vs (q.map fun i=>vs.getD i Value.none).toArray }) :
  wpAny (model prog w) A (Builtin.«list.sort» ⟨[.ref a],[]⟩) P E s:=by
 rw[list_sort_plain];have hls:vs.length≤sizeLine:=by rw[FP];omega
 refine EX (listItems_at ho rfl (EX ?_));refine(listUpdate_at ho rfl ?_ (by rw[Fe];omega) (Gb _));obtain⟨ea0,oa0⟩:∃ea0,(s.heap.update a (Obj.mapSeq fun _=>#[])).get? a=some (seqObj "list" #[] ea0):=⟨_,get?_update_seq ho (fun _=>#[])⟩;refine EX (seqEpoch_at oa0 rfl ?_);refine EX (wpAny_newTuple ?_ (by show vs.length≤_;omega));refine EX (wpAny_newList ?_ (Gb _));refine Gp ?_;have kq0:∀b o,b≠a->s.heap.get? b=some o->(((s.heap.update a (Obj.mapSeq fun _=>#[])).push (seqObj "tuple" vs.toArray 0)).push (seqObj "list" #[] 0)).get? b=some o:=fun b o hne q =>
  EZ _ (EZ _ (by rw[Heap.get?_update_ne _ _ _ _ hne];exact q))
 have og0:(((s.heap.update a (Obj.mapSeq fun _=>#[])).push (seqObj "tuple" vs.toArray 0)).push (seqObj "list" #[] 0)).get? a=some (seqObj "list" #[] ea0) :=
  EZ _ (EZ _ oa0)
 have hT6:Tps (((s.heap.update a (Obj.mapSeq fun _=>#[])).push (seqObj "tuple" vs.toArray 0)).push (seqObj "list" #[] 0)) vs ps:=⟨hT.1,fun i v e=>(hT.2 i v e).kp fun b o hcl q=>kq0 b o (fun z=>by
  subst z;rw[ho]at q;cases q;exact absurd hcl (by simp[seqObj])) q⟩
 show wpAny (model prog w) _ _ P _ { s with heap:=((s.heap.update a (Obj.mapSeq fun _=>#[])).push (seqObj "tuple" vs.toArray 0)).push (seqObj "list" #[] 0) };dsimp only;have zq0:vs.toArray.size=vs.length:=by simp
 by_cases hq2:vs.toArray.size<2
 ·rw[Fp hq2,Fp hq2];refine EX (E1 ?_);rw[StateT.run_pure];refine EX (E1 ?_);dsimp only;refine EX (seqEpoch_at og0 rfl ?_);refine EX (listUpdate_at og0 rfl ?_ (Gb _) (by rw[Array.size_map];show(pairsOf vs).size≤_;rw[pairsOf_size];omega));simp only[bne_self_eq_false,GP,if_false];have hq:=h (List.range vs.length) (GO _) ?_
  ·have e:(arrOf (SortSt.mk' general' (vs.toArray.zip vs.toArray) #[] 7 none)).map (·.2)=((List.range vs.length).map fun i=>vs.getD i Value.none).toArray:=by
    show(vs.toArray.zip vs.toArray).map (·.2)=_
    match vs,hq2 with
    | [],_=>apply Array.toList_inj.mp;simp
    | [v],_=>apply Array.toList_inj.mp;simp[List.range_succ]
    | _::_::_,hq2=>exact absurd hq2 (by simp)
   refine E1 ?_;rw[e];exact hq
  ·match vs,hq2 with
   | [],_=>exact List.Pairwise.nil
   | [v],_=>exact List.pairwise_singleton _ _
   | _::_::_,hq2=>exact absurd hq2 (by simp)
 ·rw[Fh hq2,Fh hq2];obtain⟨fs,hfs,hfl,hfi⟩:=nP hT6;rw[zq0]at hq2;refine EX (kat_kind hfs (by omega) (T:=.type "int") (fun v hv=>?_) rfl ?_)
  ·obtain⟨i,t,rfl⟩:=hfi v hv;exact Looks.of_pure rfl
  ·show wpAny (model prog w) A _ P E _;have hinj:∀i j,i<vs.length->j<vs.length->pk (ps.getD i (0,0))=pk (ps.getD j (0,0))->i=j:=by
    intro i j hi hj e;have hi':i<ps.length:=by rw[←hT.1];exact hi
    have hj':j<ps.length:=by rw[←hT.1];exact hj
    have g1:ps.getD i (0,0)=ps[i]:=by rw[E4,EY hi'];rfl
    have g2:ps.getD j (0,0)=ps[j]:=by rw[E4,EY hj'];rfl
    rw[g1,g2]at e;have b1:=hb _ (Ft hi');have b2:=hb _ (Ft hj');unfold pk at e;have e2:ps[i]=ps[j]:=Prod.ext (by omega) (by omega);exact(List.getElem_inj nd).mp e2
   refine EX (GX (kat_run (ks:=vs) (vs:=vs) (κ:=tuples' true)
    (Q:=fun st' s'=>s'={ s with heap:=((s.heap.update a (Obj.mapSeq fun _=>#[])).push (seqObj "tuple" vs.toArray 0)).push (seqObj "list" #[] 0) }/\∃p:Array Nat,Ok vs.length p/\S (fun i=>pk (ps.getD i (0,0))) p vs.length/\arrOf st'=p.map (kas_item (vs.toArray.zip vs.toArray))/\failedOf st'=none)
    (G:=fun p s'=>s'={ s with heap:=((s.heap.update a (Obj.mapSeq fun _=>#[])).push (seqObj "tuple" vs.toArray 0)).push (seqObj "list" #[] 0) }/\Ok vs.length p/\S (fun i=>pk (ps.getD i (0,0))) p vs.length)
    rfl (by omega) h64 (fun p st' s' a1 a2 a3 a4=>⟨a4.1,p,a4.2.1,a4.2.2,a2,a3⟩) ?run) ?post fun _ _ e=>e)
   case run =>
    refine sorts (n:=vs.length) (K:=fun i=>pk (ps.getD i (0,0))) (fun i j C hi hj hC=>?_) hinj (by omega) fun p ok sS=>⟨rfl,ok,sS⟩;unfold kas_ask;have hi':i<ps.length:=by rw[←hT.1];exact hi
    have hj':j<ps.length:=by rw[←hT.1];exact hj
    refine vi (hT6.2 i _ ?_) (hT6.2 j _ ?_) (hb _ ?_) (hb _ ?_) hC
    ·rw[E4,EY hi];rfl
    ·rw[E4,EY hj];rfl
    ·rw[E4,EY hi'];exact Ft hi'
    ·rw[E4,EY hj'];exact Ft hj'
   case post =>
    rintro⟨⟨⟩,st'⟩ s' ⟨rfl,p,ok,sS,har,hf⟩;dsimp only;have hout:=kat_snds (ks:=vs) (vs:=vs) rfl har;have hpz:(List.toArray (p.toList.map fun i=>vs.getD i Value.none)).size=vs.length:=by rw[Fe,EW,Gh,ok.size]
    rw[hout];refine EX (seqEpoch_at og0 rfl ?_);refine EX (listUpdate_at og0 rfl ?_ (Gb _) (by omega));rw[hf];simp only[bne_self_eq_false,GP,if_false];refine E1 (h p.toList ok.perm ?_);rw[GW,List.pairwise_iff_getElem];intro i j hi hj hij;have:=sS i j hij (by rw[←ok.size];simpa using hj);unfold key at this;have hi2:i<p.size:=by simpa using hi
    have hj2:j<p.size:=by simpa using hj
    rw[Fm hi2,Fm hj2]at this;simpa using this
theorem kh{l:Addr}{vs:List Value}{ps:List (Int×Int)}{Q:Value->Shared->Prop}(hl:s.heap.IsList l vs.toArray)(hT:Tps s.heap vs ps)(nd:ps.Nodup)(hb:∀p∈ps,0≤p.2/\p.2<6)(h64:vs.length<64)
  (h:∀q:List Nat,q.Perm (List.range vs.length)->(q.map fun i=>ps.getD i (0,0)).Pairwise (fun x y=>pk x<pk y)->Q (.ref (s.heap.objs.size+1)) { s with heap:=sortedAll s.heap vs (q.map fun i=>vs.getD i Value.none).toArray }) :
  wpAny (model prog w) A (call (.builtin "sorted") [.ref l]) Q E s:=by
 refine Calls.call_function_entry kind_sorted plain_sorted entry_sorted (args_sorted1 _) ?_;unfold Builtin.«sorted»;refine EX (m:=checkCount "sorted" 1 1 _) (E1 (EX (collect_list hl (EX (wpAny_newList ?_ (by rw[FP];omega))) (by rw[FP];omega))));have zq0:((s.heap.push (seqObj "list" #[] 0)).update s.heap.objs.size (Obj.mapSeq (·++vs.toArray))).objs.size=s.heap.objs.size+1:=by
  rw[Heap.size_update,size_push']
 have oq0:(((s.heap.push (seqObj "list" #[] 0)).update s.heap.objs.size (Obj.mapSeq (·++vs.toArray))).push (seqObj "list" vs.toArray 0)).get? (s.heap.objs.size+1)=some (seqObj "list" vs.toArray 0):=by
  rw[←zq0];exact Fc _ rfl
 have kq0:∀b o,s.heap.get? b=some o->(((s.heap.push (seqObj "list" #[] 0)).update s.heap.objs.size (Obj.mapSeq (·++vs.toArray))).push (seqObj "list" vs.toArray 0)).get? b=some o:=fun b o q=>by
  have lq0:b<s.heap.objs.size:=Fb q;rw[Heap.get?_push_ne _ _ _ (by rw[zq0];exact Fl (GB lq0)),Heap.get?_update_ne _ _ _ _ (Fl lq0),Heap.get?_push_ne _ _ _ (Fl lq0)];exact q
 show wpAny (model prog w) _ _ _ _ { s with heap:=((s.heap.push (seqObj "list" #[] 0)).update s.heap.objs.size (Obj.mapSeq (·++vs.toArray))).push (seqObj "list" vs.toArray 0) };rw[zq0];refine EX (Gp (FU slot_list_sort ⟨_,oq0,rfl⟩ entry_list_sort (h7 (ps:=ps) oq0 ⟨hT.1,fun i v e=>(hT.2 i v e).kp fun b o _ q=>kq0 b o q⟩ nd hb h64 fun q a1 a2=>⟨_,rfl,?_⟩) (args_list_sort _)));exact E1 ⟨_,rfl,h q a1 a2⟩
end
end ST
namespace L2
variable {X:Cx}
def sW(K:PySem.W.Frag):List V->Hp->VK->Prop:=fun xs H Q=>∃(a:Addr) (us:List V) (ps:List (Int×Int)),xs=[.ref a]/\SqL K H a us/\Prs K H us ps/\ps.Nodup/\(∀p∈ps,0≤p.2/\p.2<6)/\ps.length<64 /\
 ∀(r:Addr) (q:List Nat),H r=none->q.Perm (List.range ps.length)->(q.map fun i=>ps.getD i (0,0)).Pairwise (fun x y=>ST.pk x<ST.pk y)->Q (.ref r) (upd H r (.lst (q.map fun i=>us.getD i .non)))
theorem ju{us:List V}{vs:List Value}(r:Vals us vs):∀(q:List Nat),(∀i∈q,i<us.length)->Vals (q.map fun i=>us.getD i .non) (q.map fun i=>vs.getD i Value.none)
 | [],_=>.nil
 | i::q,h=>by
  have hi:=h i E7;obtain⟨u,eu,ru⟩:=r.get (EY hi);refine .cons ?_ (ju r q fun j hj=>h j (Ff _ hj));dsimp only;rw[E4,EY hi,E4,eu];exact ru
theorem dE:cD X (.builtin "sorted") (sW X.K):=by
 intro pins s σ H xs us Q I r h;obtain⟨a,ws,ps,rfl,hq,hP,nd,hb,h64,q⟩:=h;obtain⟨u,rfl,ru⟩:=Vals.one r;cases ru;obtain⟨its,rv,p,hz⟩:=I.list hq;have hlen:its.length=ps.length:=rv.length.symm.trans (kg hP);refine ST.kh (ps:=ps) p.isList ⟨hlen,fun i v hv=>?_⟩ nd hb (by omega) fun qs h1 h2=>?_
 ·have hi:i<ws.length:=by rw[rv.length];exact(E6.mp hv).1
  obtain⟨pr,t,e1,e2,hs⟩:=kr (i:=i) hP (EY hi);obtain⟨u,eu,ru⟩:=rv.get (EY hi);rw[hv]at eu;cases eu;rw[e2]at ru;cases ru;obtain⟨is,r2,⟨o,ho,hcl,n,hd⟩,_⟩:=I.tuple hs;obtain⟨x,y,rfl,rx,ry⟩:=vals2 r2;obtain⟨t1,rfl⟩:=rx;obtain⟨t2,rfl⟩:=ry;refine⟨t,o,n,t1,t2,rfl,ho,hcl,?_⟩;rw[E4,e1];exact hd
 ·have hn:H (s.heap.objs.size+1)=none:=I.hok.fresh (Nat.le_succ _);obtain⟨e,he⟩:=sortedAll_at s.heap its (qs.map fun i=>its.getD i Value.none).toArray;rw[hlen]at h1;have hin:∀i∈qs,i<ws.length:=fun i hi=>by
   have:=FL.mp (h1.mem_iff.mp hi);rw[kg hP];exact this
  have hv:=ju rv qs hin;have hz2:(qs.map fun i=>ws.getD i V.non).length≤sizeLine:=by rw[EW,h1.length_eq,Ga,FP];omega
  refine⟨.ref (s.heap.objs.size+1),_,I.laid (t':=s.toks) (o:=.lst (qs.map fun i=>ws.getD i V.non)) (fun b o e=>sortedAll_old e) (Nat.le_succ _) ?_,rfl,q _ qs hn h1 h2⟩;exact⟨hz2,_,e,hv,he⟩
end L2
namespace U
open L2
section
variable {B:Bs}{X:Cx}{a b:Expr}{ta tb:TE'}{pos:Pos}
def uj:List PV->PHp->VK'->Prop:=c9 fun x H Q=>match x with
 | .ref a=>∃ps:List (Int×Int),H a=some (.lst (ps.map prV))/\ps.Nodup/\(∀p∈ps,0≤p.2/\p.2<6)/\ps.length<64/\∀(r:Addr) (qs:List (Int×Int)),H r=none->qs.Perm ps->qs.Pairwise (fun x y=>ST.pk x<ST.pk y)->Q (.ref r) (put H r (.lst (qs.map prV)))
 | _=>False
theorem kY{K:PySem.W.Frag}{H:Hp}{ps:List (Int×Int)}{us:List V}(r:RPs K H (ps.map prV) us):∀(q:List Nat),(∀i∈q,i<ps.length)->RPs K H ((q.map fun i=>ps.getD i (0,0)).map prV) (q.map fun i=>us.getD i V.non)
 | [],_=>RPs.nil _
 | i::q,h=>by
  have hi:=h i E7;obtain⟨u,eu,ru⟩:=RPs.get _ (i:=i) (x:=prV ps[i]) r (by rw[FN,EY hi];rfl);refine RPs.cons _ ?_ (kY r q fun j hj=>h j (Ff _ hj));dsimp only;rw[E4,EY hi,E4,eu];exact ru
theorem eR{α:Type}(l:List α)(d:α){q:List Nat}(h:q.Perm (List.range l.length)):(q.map fun i=>l.getD i d).Perm l:=by
 refine(h.map _).trans ?_;have:(List.range l.length).map (fun i=>l.getD i d)=l:=by
  apply List.ext_getElem
  ·simp
  ·intro i h1 h2;simp[E4,EY h2]
 rw[this]
theorem fX{K:PySem.W.Frag}:VC K B uj (sW K):=by
 intro σ' σ H' H xs' xs Q' Q s r h k;obtain⟨x',x,rfl,rfl,rx,h⟩:=c9.ex h r;cases x' with
 | ref a =>
  obtain⟨ps,ea,nd,hb,h64,q⟩:=h;simp only[RP]at rx;subst rx;obtain⟨us,e,r2⟩:=s.hp _ _ ea;refine⟨a,us,ps,rfl,.inl (.inl e),mJ r2,nd,hb,h64,fun r qs hr h1 h2=>?_⟩;have hin:∀i∈qs,i<ps.length:=fun i hi=>FL.mp (h1.mem_iff.mp hi);exact k _ _ _ _ (q r _ (s.hp.free hr) (eR ps (0,0) h1) h2) (by simp[RP]) (s.new hr (lT hr (kY r2 qs hin))) (Ev.new hr)
 | _=>exact h.elim
def ud:PV->List PV->PHp->VK'->Prop:=fun x vs H Q=>match x,vs with
 | .ref a,[]=>∃l,H a=some (.lst l)/\Q .non (put H a (.lst l.reverse))
 | _,_=>False
def Ag:PV->List PV->PHp->VK'->Prop:=fun x vs H Q=>match x,vs with
 | .ref a,[]=>∃l,H a=some (.lst l)/\Q .non (put H a (.lst []))
 | _,_=>False
def vy:PV->List PV->PHp->VK'->Prop:=fun x vs H Q=>match x,vs with
 | .ref a,[.int i,y]=>∃l,H a=some (.lst l)/\0≤i/\i.toNat≤l.length/\l.length<1000/\Q .non (put H a (.lst (l.take i.toNat++y::l.drop i.toNat)))
 | _,_=>False
theorem CM{a:Addr}{H:PHp}{Q:VK'}:ud (.ref a) [] H Q=∃l,H a=some (.lst l)/\Q .non (put H a (.lst l.reverse)):=rfl
theorem Es{a:Addr}{H:PHp}{Q:VK'}:Ag (.ref a) [] H Q=∃l,H a=some (.lst l)/\Q .non (put H a (.lst [])):=rfl
theorem Ec{a:Addr}{i:Int}{y:PV}{H:PHp}{Q:VK'}:vy (.ref a) [.int i,y] H Q=∃l,H a=some (.lst l)/\0≤i/\i.toNat≤l.length/\l.length<1000/\Q .non (put H a (.lst (l.take i.toNat++y::l.drop i.toNat))):=rfl
end
section
theorem l5{B:Bs}{X:Cx}{x:Str}{v':PV}{v:V}{pos:Pos}(hg:Gl X x)(h:∃u,X.mg x=some u/\RelV v u)(r':∀H,RP X.K H v' v)(hd:(x==("__debug__":Str))=false:=by decide):PE' X B (.Name x pos) (uC v'):=by
 obtain⟨u,hm,r⟩:=h;exact vC hg hm r r' hd
theorem aK{ok:PHp->Prop}{g:TG'}{tt:TT'}{te:TE'}{acc:Addr}{Q:VK'}{H1:PHp}{xs:List PV}(f:PV->PV)(pz:PV->Bool)(Iv:St'->Prop)(hlen:xs.length≤1000)(hok:∀l,ok (put H1 acc (.lst l)))
  (hs:∀x∈xs,∀(l:List PV) (σ:St') (R:St'->PHp->Prop),Iv σ->l.length<sizeLine->(pz x=true->∀σ3,Iv σ3->R σ3 (put H1 acc (.lst (l++[f x]))))->(pz x=false->∀σ3,Iv σ3->R σ3 (put H1 acc (.lst l))) ->
   g x σ (put H1 acc (.lst l)) fun σ3 H2=>tt σ3 H2 fun b H3=>cif b (te σ3 H3 fun y H4=>∃l',H4 acc=some (.lst l')/\l'.length<sizeLine/\R σ3 (put H4 acc (.lst (l'++[y])))) (R σ3 H3))
  (hq:Q (.ref acc) (put H1 acc (.lst ((xs.filter pz).map f)))) {σ:St'} (h0:Iv σ):dX ok g tt te acc Q xs σ (put H1 acc (.lst [])):=by
 have key:∀(r d:List PV) (σ:St'),xs=d++r->Iv σ->dX ok g tt te acc Q r σ (put H1 acc (.lst ((d.filter pz).map f))):=by
  intro r
  induction r with
  | nil =>
   intro d σ e hv;have:d=xs:=by rw[e,F1]
   subst this;exact⟨hok _,hq⟩
  | cons x r ih =>
   intro d σ e hv;have hd:((d.filter pz).map f).length<sizeLine:=by
    have h1:d.length+(r.length+1)=xs.length:=by rw[e,E3,Fs]
    have h2:=Gi pz d;have:=a5 (n:=1000) (by decide);rw[EW];omega
   refine⟨hok _,hs x (by rw[e];simp) _ σ _ hv hd (fun hp σ3 h3=>?_) (fun hp σ3 h3=>?_)⟩
   ·have:=ih (d++[x]) σ3 (by rw[e];simp) h3;rw[List.filter_append,Fi]at this;simpa[hp]using this
   ·have:=ih (d++[x]) σ3 (by rw[e];simp) h3;rw[List.filter_append,Fi]at this;simpa[hp]using this
 exact key xs [] σ rfl h0
end
section
theorem Dj{C:Addr}{f:Str}{a:Addr}{H:PHp}{Q:VK'}:xa C f (.ref a) H Q=∃dx fs v,H a=some (.ins C dx fs)/\fs.lookup f=some v/\Q v H:=rfl
theorem CO{C:Addr}{f:Str}{a:Addr}{y:PV}{H:PHp}{Q:PHp->Prop}:xy C f (.ref a) y H Q=∃dx fs,H a=some (.ins C dx fs)/\fs.length<1000/\Q (put H a (.ins C dx (jk f y fs))):=rfl
theorem CV{C:Addr}{m:Str}{a:Addr}{H:PHp}:isIn C m (.ref a) H=∃dx fs,H a=some (.ins C dx fs)/\fs.lookup m=none:=rfl
theorem DV{a:Addr}{H:PHp}{Q:VK'}:Bl [.ref a] H Q=∃bs:List Bool,H a=some (.lst (bs.map PV.bl))/\Q (.bl (bs.all id)) H:=rfl
theorem Eb{a:Addr}{H:PHp}{Q:VK'}:rK (.ref a) H Q=∃ps:List (Int×Int),H a=some (.lst (ps.map prV))/\ps.Nodup/\(∀p∈ps,p∈SP.prs)/\ps.length≤15/\Q (.int ps.length) H:=rfl
theorem Du{a:Addr}{H:PHp}{Q:VK'}:uj [.ref a] H Q=∃ps:List (Int×Int),H a=some (.lst (ps.map prV))/\ps.Nodup/\(∀p∈ps,0≤p.2/\p.2<6)/\ps.length<64/\∀(r:Addr) (qs:List (Int×Int)),H r=none->qs.Perm ps->qs.Pairwise (fun x y=>ST.pk x<ST.pk y)->Q (.ref r) (put H r (.lst (qs.map prV))):=rfl
end
end U
namespace SI
def subs:List (List Nat):=(List.range 64).map fun b=>(List.range 6).filter fun i=>b / 2 ^ i % 2==1
def tb(led:Bool)(L:List Nat):SetTable:={ mask:=if L.length≤4 then 7 else 31,place:=L.toArray,dummies:=#[],finger:=0,led:=led,moves:=if L.length≤4 then 0 else 1,plain:=true }
def pos(L:List Nat)(x:Nat):Nat:=(L.filter (·<x)).length
def ins(L:List Nat)(x:Nat):List Nat:=L.take (pos L x)++x::L.drop (pos L x)
def tp(led:Bool)(L:List Nat)(x:Nat):SetTable:={ tb led L with place:=(ins L x).toArray }
theorem Ee:∀led∈[true,false],∀L∈subs,∀x∈List.range 6,x∉L->(tb led L).freeSlot x=some (x,false)/\(tb led L).put x=(tp led L x,pos L x):=by decide +kernel
theorem Et:∀led∈[true,false],∀L∈subs,∀x∈List.range 6,x∉L->(tp led L x).fits (ins L x).length=true/\(if L.length=4 then(tp led L x).tooFull=true/\(tp led L x).relaid ((ins L x).map Int.ofNat).toArray 20=some (tb led (ins L x),#[0,1,2,3,4])else(tp led L x).tooFull=false/\tp led L x=tb led (ins L x)):=by decide +kernel
theorem jf:∀L∈subs,(∀x∈L,x<6)/\L.length≤6/\L.Nodup/\(∀x∈List.range 6,x∉L->ins L x∈subs):=by decide +kernel
theorem mi:∀L∈subs,∀led∈[true,false],(tb led L).fits L.length=true/\SetTable.below L.toArray 0=0/\∀i∈List.range L.length,SetTable.below L.toArray (L.getD i 0+1)=i+1:=by decide +kernel
def ent(i:Nat)(tk:Tok):Int×Value:=((i:Int),.int (i:Int) tk)
def dg(es:Array (Int×Value))(L:List Nat):Prop:=∃tks:List Tok,tks.length=L.length/\es.toList=List.zipWith ent L tks
theorem dg.size{es:Array (Int×Value)}{L:List Nat}(h:dg es L):es.size=L.length:=by
 obtain⟨tks,hl,e⟩:=h;rw[←Gh,e,List.length_zipWith,hl,Nat.min_self]
theorem dg.get{es:Array (Int×Value)}{L:List Nat}(h:dg es L){i:Nat}(hi:i<L.length):∃tk,es[i]?=some (ent (L.getD i 0) tk):=by
 obtain⟨tks,hl,e⟩:=h;refine⟨tks[i],?_⟩;rw[←FR,e,List.getElem?_zipWith,EY hi,EY (by omega),E4,EY hi];rfl
theorem dg.mem{es:Array (Int×Value)}{L:List Nat}(h:dg es L){e:Int×Value}(he:e∈es.toList):∃x∈L,∃tk,e=ent x tk:=by
 obtain⟨i,hi,rfl⟩:=List.mem_iff_getElem.mp he;have hi':i<L.length:=by rw[←h.size];simpa using hi
 obtain⟨tk,e⟩:=h.get hi';refine⟨L.getD i 0,by rw[E4,EY hi'];exact Ft hi',tk,?_⟩;rw[Fm (by simpa using hi)]at e;simpa using FH e
theorem dg.of{es:Array (Int×Value)}{L:List Nat}(h:dg es L){x:Nat}(hx:x∈L):∃tk,ent x tk∈es.toList:=by
 obtain⟨i,hi,rfl⟩:=List.mem_iff_getElem.mp hx;obtain⟨tk,e⟩:=h.get hi;refine⟨tk,?_⟩;rw[E4,EY hi]at e;rw[←FR]at e;exact Fy e
theorem dg.ins{es:Array (Int×Value)}{L:List Nat}(h:dg es L)(x:Nat)(tk:Tok):dg (SetTable.insertAt es (pos L x) (ent x tk)) (SI.ins L x):=by
 obtain⟨tks,hl,e⟩:=h;refine⟨tks.take (pos L x)++tk::tks.drop (pos L x),?_,?_⟩
 ·unfold SI.ins;simp only[E3,Fs,FA,FZ];omega
 ·rw[SetTable.toList_insertAt,e];unfold SI.ins;rw[List.zipWith_append (by simp only[FA];omega),List.zipWith_cons_cons,List.take_zipWith,List.drop_zipWith]
structure ji (h:Heap) (S:Addr) (led:Bool) (L:List Nat):Prop where
 is:L∈subs/\∃es ep,h.get? S=some { cls:=.type "set",dict:=none,data:=.set es ep (tb led L) }/\dg es L
theorem dH(led:Bool):led∈[true,false]:=by cases led<;>simp
theorem mn{α:Type}(es:Array α)(h:es.size=5):(#[0,1,2,3,4]:Array Nat).filterMap (es[·]?)=es:=by
 have e:=PySem.filterMap_getElem?_range es;rw[h]at e;apply Array.toList_inj.mp;rw[Array.toList_filterMap];exact e
section
variable {prog:Program}{w:World}{A:Around}{E:Value->Shared->Prop}{s:Shared}
theorem dg.elems{es:Array (Int×Value)}{L:List Nat}(h:dg es L)(hL:L∈subs):ElemsOf (intKind prog w) es.toList:=fun e he=>by
 obtain⟨x,hx,tk,rfl⟩:=h.mem he;refine⟨⟨(x:Int),intKind_is _ _ _ _,?_⟩,rfl⟩;have:x<6:=(jf L hL).1 x hx;have hh:∀y∈List.range 6,((y:Nat):Int)=(intKind prog w).hash ((y:Nat):Int):=by
  intro y hy;have:y=0∨y=1∨y=2∨y=3∨y=4∨y=5:=by have:=FL.mp hy;omega
  rcases this with rfl | rfl | rfl | rfl | rfl | rfl<;>rfl
 exact hh x (FL.mpr this)
theorem k6{x:Nat}(hx:x<6):(intKind prog w).hash ((x:Nat):Int)=((x:Nat):Int):=by
 have:x=0∨x=1∨x=2∨x=3∨x=4∨x=5:=by omega
 rcases this with rfl | rfl | rfl | rfl | rfl | rfl<;>rfl
theorem mR{S:Addr}{led:Bool}{L:List Nat}{x:Nat}{tk:Tok}{Q:Bool->Shared->Prop}(hP:ji s.heap S led L)(hx:x<6)
  (h:∀b h' tks,Heap.SameBut S s.heap h'->ji h' S led (if x∈L then L else ins L x)->Q b { s with heap:=h',toks:=tks }):wpAny (model prog w) A (setAdd S (.int (x:Int) tk)) Q E s:=by
 obtain⟨hL,es,ep,ho,he⟩:=hP.is;unfold setAdd;refine Gp ?_;refine EX ((intKind prog w).pyHash (k:=(x:Int)) (intKind_is _ _ _ _) ?_);rw[k6 hx];generalize hs':({ s with toks:=s.toks+1 }:Shared)=s1;have e1:s1.heap=s.heap:=by rw[←hs']
 have hs1:∀hh':Heap,({ s1 with heap:=hh' }:Shared)={ s with heap:=hh',toks:=s1.toks }:=fun hh'=>by rw[←hs']
 have ho1:s1.heap.get? S=some { cls:=.type "set",dict:=none,data:=.set es ep (tb led L) }:=by rw[e1];exact ho
 have hf:(tb led L).fits es.size=true:=by rw[he.size];exact(mi L hL led (dH led)).1
 have hel:=he.elems (prog:=prog) (w:=w) hL;have h6:=(jf L hL).2.1;have hbd:es.size<scanBound:=by rw[he.size];unfold scanBound;omega
 have scan:∀{Q':ScanMet->Shared->Prop},Q' (match es.toList.findIdx? (fun e=>(intKind prog w).is ((x:Nat):Int) e.2)with | some j=>.found (0+j) | none=>.absent) s1->wpAny (model prog w) A (setScan S (.int ((x:Nat):Int) tk) ((x:Nat):Int) true es) Q' E s1:=by
  intro Q' hq;have:=wpAny_setScan_of (knd:=intKind prog w) (adding:=true) (x:=.int ((x:Nat):Int) tk) (k:=((x:Nat):Int)) (A:=A) (E:=E) (Q:=Q') (intKind_is _ _ _ _) ho1 rfl hf hel hq
  rwa [k6 hx]at this
 unfold setAddHashed setAddHashedIn;refine Gp (EX (GC ho1 rfl hf ?_));dsimp only;rw[byScan_of (knd:=intKind prog w) rfl hbd hel];simp only[↓reduceIte];unfold setAddByScan;refine EX ?_;refine EX (wpAny_rule ?_);refine EX (scan ?_);cases hr:List.findIdx? (fun e=>(intKind prog w).is ((x:Nat):Int) e.2) es.toList with
 | some j =>
  dsimp only;obtain⟨hj,hpj,_⟩:=List.findIdx?_eq_some_iff_getElem.mp hr;obtain⟨y,hy,tk',ee⟩:=he.mem (Ft hj);have hxy:x=y:=by
   rw[ee]at hpj;have q:(intKind prog w).is ((x:Nat):Int) (.int ((y:Nat):Int) tk')=true:=hpj;have:=(intKind prog w).inj _ _ _ q (intKind_is _ _ _ _);omega
  subst hxy;refine E1 (E1 ?_);have:=h false s.heap s1.toks (Heap.SameBut.refl S s.heap) (by rw[Fp hy];exact hP);have e:s1={ s with heap:=s.heap,toks:=s1.toks }:=by rw[←hs1];cases s1;simp only at e1;rw[e1]
  rw[e];exact this
 | none =>
  dsimp only;have hn:x∉L:=fun hm=>by
   obtain⟨tk',hm'⟩:=he.of hm;have:=List.findIdx?_eq_none_iff.mp hr _ hm';have q:(intKind prog w).is ((x:Nat):Int) (.int ((x:Nat):Int) tk')=true:=intKind_is _ _ _ _;have this':(intKind prog w).is ((x:Nat):Int) (.int ((x:Nat):Int) tk')=false:=this;rw[q]at this';cases this'
  obtain⟨f1,f2⟩:=Ee led (dH led) L hL x (FL.mpr hx) hn;obtain⟨f3,f4⟩:=Et led (dH led) L hL x (FL.mpr hx) hn;have hins:=(jf L hL).2.2.2 x (FL.mpr hx) hn;have hin2:=he.ins x tk;have hsz2:=hin2.size;have hln:(ins L x).length=L.length+1:=by unfold ins;simp only[E3,Fs,FA,FZ];omega
  have hlay:layNew (tb led L) es ((x:Nat):Int) (.int ((x:Nat):Int) tk)=(SetTable.insertAt es (pos L x) (ent x tk),tp led L x,false,false):=by
   unfold layNew;rw[f1];dsimp only;rw[f2];dsimp only;have e2:(tp led L x).fits (SetTable.insertAt es (pos L x) (ent x tk)).size=true:=by rw[hsz2];exact f3
   show(SetTable.insertAt es (pos L x) (ent x tk),(tp led L x).orStandIn (SetTable.insertAt es (pos L x) (ent x tk)).size,false,!(tp led L x).fits (SetTable.insertAt es (pos L x) (ent x tk)).size)=_;unfold SetTable.orStandIn;rw[Fp e2,e2];rfl
  rw[hlay];dsimp only;refine EX (E1 ?_);have hpl:(tp led L x).plain=true:=rfl;rw[hpl];simp only[↓reduceIte];refine EX ?_;rw[hashByValue_scannable 8 (x:=.int ((x:Nat):Int) tk) rfl];refine E1 ?_;have hpk:plainKind (.int ((x:Nat):Int) tk)=true:=rfl;rw[hpk];simp only[↓reduceIte];have hz:(SetTable.insertAt es (pos L x) (ent x tk)).size≤sizeLine:=by rw[hsz2,hln,FP];omega
  refine EX (wpAny_storeSet_of ho1 rfl ?_ hz);have hg:(s1.heap.update S (Obj.putSet (SetTable.insertAt es (pos L x) (ent x tk)) (tp led L x))).get? S=some { cls:=.type "set",dict:=none,data:=.set (SetTable.insertAt es (pos L x) (ent x tk)) (ep+1) (tp led L x) } :=
   FX _ ho1 rfl
  have sb1:Heap.SameBut S s.heap (s1.heap.update S (Obj.putSet (SetTable.insertAt es (pos L x) (ent x tk)) (tp led L x))):=by rw[e1];exact FY ..
  by_cases h4:L.length=4
  ·rw[Fp h4]at f4;rw[f4.1];simp only[Bool.not_false,Bool.and_self,↓reduceIte];have hw:SetTable.grown (SetTable.insertAt es (pos L x) (ent x tk)).size=20:=by rw[hsz2,hln,h4];rfl
   have hmp:(SetTable.insertAt es (pos L x) (ent x tk)).map (·.1)=((ins L x).map Int.ofNat).toArray:=by
    obtain⟨tks,q1,q2⟩:=hin2;apply Array.toList_inj.mp;rw[Array.toList_map,q2];have gen:∀(L:List Nat) (tks:List Tok),tks.length=L.length->(List.zipWith ent L tks).map (·.1)=L.map Int.ofNat:=by
     intro L
     induction L with
     | nil=>intro tks _;rfl
     | cons a L ih =>
      intro tks hl;cases tks with
      | nil=>simp at hl
      | cons b tks=>simp only[List.zipWith_cons_cons,E8,ih tks (by simpa using hl)];rfl
    exact gen _ _ q1
   have h5:(SetTable.insertAt es (pos L x) (ent x tk)).size=5:=by rw[hsz2,hln,h4]
   have hrl:relayAll (tp led L x) (SetTable.insertAt es (pos L x) (ent x tk)) (SetTable.grown (SetTable.insertAt es (pos L x) (ent x tk)).size)=(SetTable.insertAt es (pos L x) (ent x tk),tb led (ins L x),false):=by
    unfold relayAll;rw[hw,hmp,f4.2];dsimp only;rw[mn _ h5];have c1:coversAll #[0,1,2,3,4] (SetTable.insertAt es (pos L x) (ent x tk)).size=true:=by rw[h5];decide +kernel
    have c2:(tb led (ins L x)).fits (SetTable.insertAt es (pos L x) (ent x tk)).size=true:=by rw[hsz2];exact(mi _ hins led (dH led)).1
    rw[c1,c2];rfl
   rw[hrl];dsimp only;refine EX (E1 ?_);refine EX (wpAny_storeSet_of hg rfl ?_ hz);have hg3:=FX (Obj.putSet (SetTable.insertAt es (pos L x) (ent x tk)) (tb led (ins L x))) hg rfl;refine E1 (E1 ?_);rw[hs1];refine h true _ _ (sb1.trans (FY ..)) ?_;rw[Fh hn];exact⟨hins,_,_,hg3,hin2⟩
  ·rw[Fh h4]at f4;rw[f4.1];simp only[Bool.not_false,Bool.and_false,GP,↓reduceIte];refine E1 (E1 ?_);rw[hs1];refine h true _ _ sb1 ?_;rw[Fh hn];rw[f4.2]at hg;rw[f4.2];exact⟨hins,_,_,hg,hin2⟩
end
end SI
namespace SI
theorem slot_next:Slot "set_iterator" "__next__" "set_iterator.__next__":=.of (owner:="set_iterator") (n:="__next__") (by rw[GH,Gj];kernel_rfl) (by decide +kernel) (by decide +kernel) (by decide +kernel) (by first | exact .inl (by decide +kernel) | exact .inr (by decide +kernel)) (by rw[GF];kernel_rfl)
theorem oB:Slot "set_iterator" "__iter__" "set_iterator.__iter__":=.of (owner:="set_iterator") (n:="__iter__") (by rw[GH,Gj];kernel_rfl) (by decide +kernel) (by decide +kernel) (by decide +kernel) (by first | exact .inl (by decide +kernel) | exact .inr (by decide +kernel)) (by rw[GF];kernel_rfl)
theorem entry_next:entryFor table "set_iterator.__next__"=some Builtin.«set_iterator.__next__»:=entryFor_of_tree (by kernel_rfl)
theorem t6:entryFor table "set_iterator.__iter__"=some Builtin.«dict_keyiterator.__iter__»:=entryFor_alias (id':="dict_keyiterator.__iter__") (by kernel_rfl) rfl (by decide +kernel) (by kernel_rfl)
theorem mT:entryFor table "set.__iter__"=some Builtin.«frozenset.__iter__»:=entryFor_alias (id':="frozenset.__iter__") (by kernel_rfl) rfl (by decide +kernel) (by kernel_rfl)
theorem iM{α:Type}:∀(l:List α) (i:Nat) (h:i<l.length),(l[i]::l.eraseIdx i).Perm l
 | x::l,0,_=>GO _
 | x::l,i+1,h=>by
  have ih:=iM l i (by simpa using h);have h':i<l.length:=by simpa using h
  show(l[i]::x::l.eraseIdx i).Perm (x::l);exact(List.Perm.swap _ _ _).trans (ih.cons x)
theorem args_next(a:Value):argsOk "set_iterator.__next__" ⟨[a],[]⟩:=by unfold argsOk;kernel_rfl
theorem vj(a:Value):argsOk "set_iterator.__iter__" ⟨[a],[]⟩:=by unfold argsOk;kernel_rfl
def nF(h:Heap)(it S:Addr)(k i n ep:Nat):Prop:=h.get? it=some { cls:=.type "set_iterator",data:=.fields #[.int k 0,.int i 0,.ref S,.int n 0,.int ep 0] }
theorem nF.ty{s:Shared}{it S:Addr}{k i n ep:Nat}(h:nF s.heap it S k i n ep):s.TypeIs (.ref it) "set_iterator":=⟨_,h,rfl⟩
theorem eR{α:Type}(next:Nat->Nat):∀(f k:Nat) (l:List α) (out:Array α),f=l.length->(pickOrder.go next f k l out).toList.Perm (out.toList++l)
 | 0,k,l,out,h=>by
  have:l=[]:=Gm.mp h.symm;subst this;show out.toList.Perm _;rw[F1]
 | f+1,k,l,out,h=>by
  have hlt:next k % l.length<l.length:=Nat.mod_lt _ (by omega)
  unfold pickOrder.go;rw[EY hlt];dsimp only;refine(eR next f (k+1) _ _ (by rw[List.length_eraseIdx_of_lt hlt];omega)).trans ?_;rw[Array.toList_push,GG];refine List.Perm.append_left _ ?_;exact iM l _ hlt
def walk(w:World)(S:Addr)(es:Array (Int×Value))(ep:Nat):Array (Int×Value):=if w.params.followText "set-order"=true then pickOrder (w.params.setOrder S ep) es else es
theorem jt(w:World)(S:Addr)(es:Array (Int×Value))(ep:Nat):(walk w S es ep).toList.Perm es.toList:=by
 unfold walk;split
 ·have:=eR (w.params.setOrder S ep) es.size 0 es.toList #[] (by simp);simpa[pickOrder]using this
 ·exact GO _
theorem e9(w:World)(S:Addr)(es:Array (Int×Value))(ep:Nat):(walk w S es ep).size=es.size:=by
 have:=(jt w S es ep).length_eq;simpa using this
def slotAt(w:World)(L:List Nat)(i:Nat):Nat:=if w.params.followText "set-order"=true then 0 else if i=0 then 0 else L.getD (i - 1) 0+1
section
variable {prog:Program}{w:World}{A:Around}{E:Value->Shared->Prop}{s:Shared}
def bJ(w:World):Bool:=!w.params.followText "set-order"
theorem below_at{w:World}{L:List Nat}(hL:L∈subs)(hb:¬w.params.followText "set-order"=true){i:Nat}(hi:i≤L.length):SetTable.below L.toArray (slotAt w L i)=i:=by
 unfold slotAt;rw[Fh hb];obtain⟨_,a,b⟩:=mi L hL true (by simp);cases i with
 | zero=>exact a
 | succ i =>
  rw[Fh (by omega)];exact b i (FL.mpr (by omega))
theorem sj{S:Addr}{L:List Nat}{es:Array (Int×Value)}{ep:Nat}{Q:Value->Shared->Prop}(hL:L∈subs)(ho:s.heap.get? S=some { cls:=.type "set",dict:=none,data:=.set es ep (tb (bJ w) L) })(he:dg es L)
  (hQ:Q (.ref s.heap.objs.size) { s with heap:=s.heap.push { cls:=.type "set_iterator",data:=.fields #[.int 0 0,.int 0 0,.ref S,.int es.size 0,.int ep 0] } }):wpAny (model prog w) A (pyIter (.ref S)) Q E s:=by
 have ty:s.TypeIs (.ref S) "set":=⟨_,ho,rfl⟩;have hf:(tb (bJ w) L).fits es.size=true:=by rw[he.size];exact(mi L hL _ (dH _)).1
 refine wpAny_pyIter_slot ty F.slot_set_iter (FU F.slot_set_iter ty mT ?_ (F.args_set_iter_1 _));unfold Builtin.«frozenset.__iter__» Builtin.Frozenset.slot0;refine EX (EX (E1 (E1 ?_)));unfold Builtin.Frozenset.sizeOf;refine EX (EX (wpAny_setEntries_of ho rfl hf (E1 ?_)));unfold setDrawn setsByText;refine EX (EX (GC ho rfl hf ?_));dsimp only;refine EX (EX (wpAny_askSetting (E1 (E1 ?_))));refine F8 (fun hx=>?_) (fun _=>EX (E1 ?_))
 ·exfalso;have hx':(!(w.params.followText "set-order")&&(!(tb (bJ w) L).plain&&decide (es.size>1)))=true:=hx;have hp:(tb (bJ w) L).plain=true:=rfl;rw[hp]at hx';simp at hx'
 ·refine EX (wpAny_setEpoch_of ho rfl hf ?_);simp only[newFields];refine EX (FF (E1 ⟨_,rfl,"set_iterator",_,⟨_,Fc _ rfl,rfl⟩,slot_next.lookup,?_⟩));exact hQ
theorem kX{S:Addr}{L:List Nat}{es:Array (Int×Value)}{ep i:Nat}{Q':Option (Value×Nat)->Shared->Prop}(hL:L∈subs)(ho:s.heap.get? S=some { cls:=.type "set",dict:=none,data:=.set es ep (tb (bJ w) L) })(he:dg es L)(hi:i≤es.size)
  (hq:Q' (((walk w S es ep)[i]?).map fun e=>(e.2,slotAt w L (i+1))) s):wpAny (model prog w) A (setNext S (slotAt w L i) i ep) Q' E s:=by
 have hf:(tb (bJ w) L).fits es.size=true:=by rw[he.size];exact(mi L hL _ (dH _)).1
 unfold setNext;refine EX (GC ho rfl hf ?_);dsimp only;unfold setsByText;refine EX (EX (wpAny_askSetting (E1 ?_)));refine F8 (fun hb=>?_) (fun hb=>?_)
 ·have hb':w.params.followText "set-order"=true:=hb;refine F8 (fun hx=>absurd hx (by simp)) (fun _=>?_);unfold setWalk setsByText;refine EX (EX (GC ho rfl hf ?_));dsimp only;refine EX (EX (wpAny_askSetting (E1 ?_)));refine F8 (fun _=>?_) (fun hc=>absurd hb hc);refine EX (wpAny_askSetting (E1 (E1 ?_)));unfold walk slotAt at hq;rw[Fp hb',Fp hb']at hq;unfold slotAt;rw[Fp hb'];exact hq
 ·have hb':¬w.params.followText "set-order"=true:=hb;refine F8 (fun hx=>?_) (fun _=>?_)
  ·exfalso;have hx':(!(tb (bJ w) L).plain&&decide (es.size>1))=true:=hx;have hp:(tb (bJ w) L).plain=true:=rfl;rw[hp]at hx';simp at hx'
  ·have hled:bJ w=true:=by unfold bJ;simpa using hb'
   refine EX ?_;refine(show wpAny (model prog w) A (if (!(tb (bJ w) L).led&&!es.isEmpty)=true then unsupported "set:maker-not-led" else pure ()) _ E s from ?_);refine F8 (fun hx=>?_) (fun _=>E1 (E1 ?_))
   ·exfalso;have hl2:(tb (bJ w) L).led=true:=hled;rw[hl2]at hx;simp at hx
   ·have hbl:=below_at (w:=w) hL hb' (i:=i) (by rw[←he.size];exact hi);have hpl:(tb (bJ w) L).place=L.toArray:=rfl;rw[hpl,hbl];unfold walk at hq;rw[Fh hb']at hq;by_cases hlt:i<es.size
    ·have hlt2:i<L.length:=by rw[←he.size];exact hlt
     rw[Fm hlt]at hq ⊢;have e2:L.toArray[i]?=some L[i]:=by simp[hlt2]
     rw[e2];unfold slotAt at hq;rw[Fh hb',Fh (by omega),Nat.add_sub_cancel,E4,EY hlt2]at hq;exact hq
    ·rw[GD (by omega)]at hq ⊢;exact hq
theorem next_item{it S:Addr}{L:List Nat}{es:Array (Int×Value)}{ep i:Nat}{e:Int×Value}{Q:Option Value->Shared->Prop}(hL:L∈subs)(ho:s.heap.get? S=some { cls:=.type "set",dict:=none,data:=.set es ep (tb (bJ w) L) })(he:dg es L)
  (hit:nF s.heap it S (slotAt w L i) i es.size ep) (hx:(walk w S es ep)[i]?=some e)
  (hQ:∀h',nF h' it S (slotAt w L (i+1)) (i+1) es.size ep->Heap.SameBut it s.heap h'->Q (some e.2) { s with heap:=h' }):wpAny (model prog w) A (pyNext (.ref it)) Q E s:=by
 have hf:(tb (bJ w) L).fits es.size=true:=by rw[he.size];exact(mi L hL _ (dH _)).1
 have hi:i<es.size:=by
  rw[←e9 w S es ep];exact(Array.getElem?_eq_some_iff.mp hx).1
 unfold pyNext;refine EX (wpAny_attempt (F9 (name:=Str.ofString "__next__") hit.ty slot_next (FU slot_next hit.ty entry_next ?_ (args_next _))));unfold Builtin.«set_iterator.__next__»;refine EX (E1 ?_);refine EX (wpAny_fieldsOf hit rfl ?_);dsimp only;refine EX (wpAny_setEntries_of ho rfl hf ?_);rw[Fh (by simp)];simp only[F2];refine EX (kX hL ho he (by omega) ?_);rw[hx];dsimp only[Option.map_some];refine EX (GQ hit rfl (by simp) ?_);have h1:=FX (Obj.mapFields (·.setIfInBounds 0 (rawInt ((slotAt w L (i+1):Nat):Int)))) hit rfl;refine EX (GQ h1 rfl (by simp[Obj.mapFields]) ?_);have h2:=FX (Obj.mapFields (·.setIfInBounds 1 (rawInt ((i:Nat)+1:Int)))) h1 rfl;refine E1 ⟨_,rfl,E1 (hQ _ ?_ ((FY ..).trans (FY ..)))⟩;exact h2
theorem next_end{it S:Addr}{L:List Nat}{es:Array (Int×Value)}{ep:Nat}{Q:Option Value->Shared->Prop}(hh:A.handled=none)(hL:L∈subs)(ho:s.heap.get? S=some { cls:=.type "set",dict:=none,data:=.set es ep (tb (bJ w) L) })(he:dg es L)
  (hit:nF s.heap it S (slotAt w L es.size) es.size es.size ep) (hQ:∀h',Heap.ExtBut it s.heap h'->Q none { s with heap:=h' }):wpAny (model prog w) A (pyNext (.ref it)) Q E s:=by
 have hf:(tb (bJ w) L).fits es.size=true:=by rw[he.size];exact(mi L hL _ (dH _)).1
 unfold pyNext;refine EX (wpAny_attempt (F9 (name:=Str.ofString "__next__") hit.ty slot_next (FU slot_next hit.ty entry_next ?_ (args_next _))));unfold Builtin.«set_iterator.__next__»;refine EX (E1 ?_);refine EX (wpAny_fieldsOf hit rfl ?_);dsimp only;refine EX (wpAny_setEntries_of ho rfl hf ?_);rw[Fh (by simp)];simp only[F2];refine EX (kX hL ho he (Fd _) ?_);rw[GD (by rw[e9];exact Fd _)];dsimp only[Option.map_none];refine EX (GQ hit rfl (by simp) ?_);refine EX ?_;simp only[newExc,newTuple];refine EX (FF (EX (m:=firstArgMember _ _) (GL (a:=Value.none) (by first | rfl |(simp only[firstArgMember];rfl)) (FF ?_ (by size_fits)))) (by size_fits));simp only[raiseNew];refine EX (wpAny_handled ?_);have hh1:A.in1.handled=none:=hh;rw[hh1];refine EX (E1 (wpAny_throw ?_));refine EX (wpAny_isInstance (T:="StopIteration") (b:=true) ⟨_,Fc _ rfl,rfl⟩ isSubtype_stop (E1 (hQ _ (((FY ..).extBut.push _).push _))))
theorem pO(hh:A.handled=none){I S:Addr}{L:List Nat}{es:Array (Int×Value)}{ep:Nat}(hne:S≠I)(hL:L∈subs)(he:dg es L) :
  Walks prog w A I [I,S] [I] es.size (fun i v=>∃e,(walk w S es ep)[i]?=some e/\v=e.2) (fun i h=>nF h I S (slotAt w L i) i es.size ep/\h.get? S=some { cls:=.type "set",dict:=none,data:=.set es ep (tb (bJ w) L) }) where
 sub:=fun b hb=>by simp at hb;simp[hb]
 frame:=fun _ _ _ st hk=>⟨hk I (by simp) _ st.1,hk S (by simp) _ st.2⟩
 item:=fun i s Q E hi st hQ=>by
  have hw:i<(walk w S es ep).size:=by rw[e9];exact hi
  have hx:(walk w S es ep)[i]?=some (walk w S es ep)[i]:=Fm hw;refine next_item hL st.2 he st.1 hx fun h' it' sb=>?_;exact hQ _ h' s.toks ⟨_,hx,rfl⟩ ⟨it',sb.extBut S _ hne st.2⟩ fun b o hb e=>sb.extBut b o (fun h=>hb (by simp[h])) e
 done:=fun s Q E st hQ=>next_end hh hL st.2 he st.1 fun h' eb=>hQ h' s.toks fun b o hb e=>eb b o (fun h=>hb (by simp[h])) e
 self:=fun i s Q E st hQ=>by
  refine wpAny_pyIter_slot st.1.ty oB (FU oB st.1.ty t6 ?_ (vj _));show wpAny _ _ (ret (.ref I)) _ _ s;exact E1 ⟨_,rfl,"set_iterator",_,st.1.ty,slot_next.lookup,hQ⟩
def add(L:List Nat)(x:Nat):List Nat:=if x∈L then L else ins L x
def lof(ns:List Nat):List Nat:=ns.foldl add []
theorem wI{L:List Nat}{x y:Nat}:y∈ins L x↔y=x∨y∈L:=by
 unfold ins;rw[E9,Fn];have:y∈L↔y∈L.take (pos L x)∨y∈L.drop (pos L x):=by
  rw[←E9,List.take_append_drop]
 rw[this];constructor
 ·rintro(h | h | h)
  ·exact .inr (.inl h)
  ·exact .inl h
  ·exact .inr (.inr h)
 ·rintro(h | h | h)
  ·exact .inr (.inl h)
  ·exact .inl h
  ·exact .inr (.inr h)
theorem wN{L:List Nat}{x y:Nat}:y∈add L x↔y=x∨y∈L:=by
 unfold add;split
 ·rename_i h;exact⟨.inr,fun q=>q.elim (fun e=>e▸h) id⟩
 ·exact wI
theorem tP{L:List Nat}{x:Nat}(hL:L∈subs)(hx:x<6):add L x∈subs:=by
 unfold add;split
 ·exact hL
 ·rename_i h;exact(jf L hL).2.2.2 x (FL.mpr hx) h
theorem lU{y:Nat}:∀(ns L:List Nat),y∈ns.foldl add L↔y∈ns∨y∈L
 | [],L=>by simp
 | n::ns,L=>by
  rw[List.foldl_cons,lU ns,wN,Fn];constructor
  ·rintro(h | h | h)
   ·exact .inl (.inr h)
   ·exact .inl (.inl h)
   ·exact .inr h
  ·rintro((h | h) | h)
   ·exact .inr (.inl h)
   ·exact .inl h
   ·exact .inr (.inr h)
theorem jv:∀(ns L:List Nat),L∈subs->(∀n∈ns,n<6)->ns.foldl add L∈subs
 | [],L,h,_=>h
 | n::ns,L,h,hn=>jv ns _ (tP h (hn n E7)) fun m hm=>hn m (Ff _ hm)
theorem lZ:[]∈subs:=by decide +kernel
theorem lE{ns:List Nat}(h:∀n∈ns,n<6):lof ns∈subs:=jv ns [] lZ h
theorem nJ{ns:List Nat}{y:Nat}:y∈lof ns↔y∈ns:=by
 unfold lof;rw[lU];simp
theorem uz{ns:List Nat}{i:Nat}(h:i<ns.length):lof (ns.take (i+1))=add (lof (ns.take i)) ns[i]:=by
 unfold lof;rw[F6,EY h,List.foldl_append];rfl
end
end SI
namespace SI
section
variable {prog:Program}{w:World}{A:Around}{E:Value->Shared->Prop}{s:Shared}
def tu(vs:List Value)(ns:List Nat):Prop:=vs.length=ns.length/\∀(i:Nat) (v:Value),vs[i]?=some v->∃tk,v=Value.int ((ns.getD i 0:Nat):Int) tk
theorem BG{S I l:Addr}{vs:List Value}{ns:List Nat}{led:Bool}{R:Result->Shared->Prop}(hh:A.in1.handled=none)(hT:tu vs ns)(hin:∀n∈ns,n<6)(hSI:S≠I)(hSl:S≠l)(hlI:l≠I) :
  ∀(k i:Nat) (s:Shared),ns.length - i=k->i≤ns.length->s.heap.IsListIter I l i->s.heap.IsList l vs.toArray->ji s.heap S led (lof (ns.take i)) ->
   (∀h' tk,(∀b o,b≠S->b≠I->s.heap.get? b=some o->h'.get? b=some o)->ji h' S led (lof ns)->R (.ok (.ret .none)) { s with heap:=h',toks:=tk }) ->
   codeAny (model prog w) A (.builtin "set.update.loop" ⟨[.ref S,.ref I],[]⟩) R s:=by
 intro k
 induction k with
 | zero =>
  intro i s hk hi hit hl hP hR;have e:i=ns.length:=by omega
  subst e;rw[FW]at hP;refine F3 F.entry_set_update_loop ?_;rw[FQ Gx _];show wpAny _ A.in1 (pyNext (.ref I) >>= _) _ _ s;refine EX (wpAny_pyNext_list_end hh hit hl (by simp[hT.1]) fun h' eb=>?_);show wpAny _ A.in1 (ret Value.none) _ _ _;refine E1 (hR h' s.toks (fun b o _ hb e=>eb b o hb e) ?_);obtain⟨hL,es,ep,ho,r⟩:=hP.is;exact⟨hL,es,ep,eb S _ hSI ho,r⟩
 | succ k ih =>
  intro i s hk hi hit hl hP hR;have hlt:i<ns.length:=by omega
  have hvl:i<vs.length:=by rw[hT.1];exact hlt
  have hvi:vs[i]?=some vs[i]:=EY hvl;obtain⟨tk,ev⟩:=hT.2 i _ hvi;have en:ns.getD i 0=ns[i]:=by rw[E4,EY hlt];rfl
  rw[en]at ev;refine F3 F.entry_set_update_loop ?_;rw[FQ Gx _];show wpAny _ A.in1 (pyNext (.ref I) >>= _) _ _ s;refine EX (wpAny_pyNext_list_item hit hl (x:=Value.int ((ns[i]:Nat):Int) tk) (by rw[←ev];simp) fun h1 hit1 sb1=>?_);have k1:∀b o,b≠I->s.heap.get? b=some o->h1.get? b=some o:=fun b o hb e=>sb1.extBut b o hb e;have hP1:ji h1 S led (lof (ns.take i)):=by
   obtain⟨hL,es,epo,ho,r⟩:=hP.is;exact⟨hL,es,epo,k1 S _ hSI ho,r⟩
  show wpAny _ A.in1 (holding [Value.int ((ns[i]:Nat):Int) tk] (setAdd S (Value.int ((ns[i]:Nat):Int) tk)) >>= _) _ _ _;refine EX (Gp (mR (A:=A.in1) hP1 (hin _ (Ft hlt)) fun b h2 tk2 sb2 hP2=>?_));have k2:∀b o,b≠S->h1.get? b=some o->h2.get? b=some o:=fun b o hb e=>sb2.extBut b o hb e;have hP3:ji h2 S led (lof (ns.take (i+1))):=by rw[uz hlt];exact hP2
  refine E1 ⟨GK Gx _,ih (i+1) { s with heap:=h2,toks:=tk2 } (by omega) (by omega) (hit1.extBut (fun b o hb e=>k2 b o hb e) (Ne.symm hSI)) ?_ hP3 ?_⟩
  ·exact(hl.extBut (fun b o hb e=>k1 b o hb e) hlI).extBut (fun b o hb e=>k2 b o hb e) (Ne.symm hSl)
  ·intro h3 tk3 kp hP4;exact hR h3 tk3 (fun b o hb hb' e=>kp b o hb hb' (k2 b o hb (k1 b o hb' e))) hP4
theorem u5(a:Value){Q₁:Value->Shared->Prop}(h:Q₁ (.ref s.heap.objs.size) { s with heap:=s.heap.push { cls:=.type "set",dict:=none,data:=.set #[] 0 (.fresh 0 0 (bJ w)) } }) :
  codeAny (model prog w) A (.call (.builtin "set.__new__") ⟨[.type "set",a],[]⟩) (wants Q₁ E) s:=by
 refine codeAny_of_tree ?_;show wpAny (model prog w) A.in1 (do checkBuiltinCall "set.__new__" ⟨[.type "set",a],[]⟩;again (.builtin "set.__new__" ⟨[.type "set",a],[]⟩)) _ _ _;refine EX (GL (F.newCall_set_1 a) (E1 ⟨GK F.plain_set_new _,?_⟩));refine F3 F.entry_set_new ?_;rw[FQ F.plain_set_new _];unfold Builtin.«set.__new__»;unfold Builtin.Frozenset.newClass;have sub1:=sub_set_self;obtain⟨hp,g,d,tk,os⟩:=s;dsimp only
 wp_walk
 refine wpAny_askSetting (E1 ?_);dsimp only;simp only[newObj];refine EX (wpAny_alloc (E1 (E1 ?_)));exact h
set_option maxHeartbeats 4000000 in
theorem je{l:Addr}{vs:List Value}{ns:List Nat}{Q:Value->Shared->Prop}(hh:A.handled=none)(hl:s.heap.IsList l vs.toArray)(hT:tu vs ns)(hin:∀n∈ns,n<6)
  (h:∀h' tk,(∀b o,b<s.heap.objs.size->s.heap.get? b=some o->h'.get? b=some o)->ji h' s.heap.objs.size (bJ w) (lof ns)->Q (.ref s.heap.objs.size) { s with heap:=h',toks:=tk }) :
  wpAny (model prog w) A (call (.type "set") [.ref l]) Q E s:=by
 obtain⟨c0,tl0,mro0⟩:=F.called_set.mro;have made0:=F.called_set.made;have sub0:=F.called_set.sub;have nt0:=F.called_set.notType;have cc0:=F.called_set.canCreate;have tc0:=F.typeCall_set_1 (.ref l);refine wpAny_call (codeAny_of_tree ?_);show wpAny (model prog w) _ (callAny (.type "set") _) _ _ _;refine E1 ⟨Code.quiet_builtin _ (by decide +kernel),F3 F.entry_type_call ?_⟩;rw[Around.under_plain (weight_type_call_type "set" [.ref l] []) rfl]
 repeat (any_goals (first | assumption | wp_step))
 refine G0 (u5 (.ref l) (E:=E) (Q₁:=fun obj s1=>obj=.ref s.heap.objs.size /\
  s1={ s with heap:=s.heap.push { cls:=.type "set",dict:=none,data:=.set #[] 0 (.fresh 0 0 (bJ w)) } }) ⟨rfl,rfl⟩) fun r s1 hr=>?_
 cases r with
 | error e=>exact hr
 | ok fl =>
  cases fl with
  | ret obj =>
   obtain⟨rfl,rfl⟩:=hr;generalize hH:s.heap.push { cls:=.type "set",dict:=none,data:=.set #[] 0 (.fresh 0 0 (bJ w)) }=H1;have hS:H1.get? s.heap.objs.size=some { cls:=.type "set",dict:=none,data:=.set #[] 0 (.fresh 0 0 (bJ w)) }:=by rw[←hH];exact Fc _ rfl
   have old:∀b o,s.heap.get? b=some o->H1.get? b=some o:=fun b o e=>by rw[←hH];exact EZ _ e
   have hsz:H1.objs.size=s.heap.objs.size+1:=by rw[←hH,GA]
   have tyS:Shared.TypeIs { s with heap:=H1 } (.ref s.heap.objs.size) "set":=⟨_,hS,rfl⟩;have li0:=F.called_set.init.lookup;have bi0:=F.called_set.init.bind (.ref s.heap.objs.size)
   repeat (any_goals (first | assumption | wp_step))
   refine G0 (codeAny_call_builtin (R:=wants (fun r s2=>r=.none/\∃h' tk,s2={ s with heap:=h',toks:=tk }/\ji h' s.heap.objs.size (bJ w) (lof ns) /\
    (∀b o,b<s.heap.objs.size->s.heap.get? b=some o->h'.get? b=some o)) E) F.called_set.init.plain F.entry_set_init (check_set_init_1 tyS ?_)) fun r2 s2 hr2=>?_
   ·obtain⟨ol,hol,hcl,nl,hdl⟩:=hl;obtain⟨oc,od,oda,osl⟩:=ol;simp only at hcl hdl;subst hcl;subst hdl;have hol1:H1.get? l=some { cls:=.type "list",dict:=od,data:=.seq vs.toArray nl,slots:=osl }:=old _ _ hol;have sls:=F.sub_list_set;have slf:=F.sub_list_frozenset;have nld:(Value.type "list"==Value.type "dict")=false:=by decide
    have hl1:H1.IsList l vs.toArray:=⟨_,hol1,rfl,nl,rfl⟩;have llt:l<s.heap.objs.size:=Fb hol;unfold Builtin.«set.__init__» noKeywords Builtin.Frozenset.updateFrom;generalize hPI:pyIter=PI
    wp_walk
    subst hPI;refine wpAny_pyIter_list hl1 ?_;refine EX (wpAny_runValue ?_);generalize hH2:H1.push { cls:=.type "list_iterator",data:=.fields #[.ref l,.int 0 0] }=H2;have old2:∀b o,H1.get? b=some o->H2.get? b=some o:=fun b o e=>by rw[←hH2];exact EZ _ e
    refine BG (l:=l) (ns:=ns) (vs:=vs) (led:=bJ w) (by simp[hh]) hT hin (by show s.heap.objs.size≠H1.objs.size;rw[hsz];exact Fl (Nat.lt_succ_self _)) (Gz llt) (by show l≠H1.objs.size;rw[hsz];exact Fl (GB llt)) ns.length 0 _ (by omega) (Gb _) ?_ ?_ ?_ ?_
    ·rw[←hH2];exact⟨_,Fc _ rfl,rfl,rfl⟩
    ·exact⟨_,old2 _ _ hol1,rfl,nl,rfl⟩
    ·refine⟨lZ,#[],0,old2 _ _ hS,[],rfl,rfl⟩
    ·intro h' tk kp hP;show wpAny _ _ (pure ()) _ _ _;refine E1 ?_;show wpAny _ _ (ret Value.none) _ _ _;refine E1 ⟨rfl,h',tk,rfl,hP,fun b o hb e=>?_⟩;refine kp b o (Fl hb) ?_ (old2 _ _ (old _ _ e));show b≠H1.objs.size;rw[hsz];exact Fl (GB hb)
   ·cases r2 with
    | error e=>exact hr2
    | ok f2 =>
     cases f2 with
     | ret r =>
      obtain⟨rfl,h',tk,rfl,hP,hk⟩:=hr2
      repeat (any_goals (first | assumption | wp_step))
      exact h _ _ hk hP
     | _=>exact hr2.elim
  | _=>exact hr.elim
theorem tQ{r:Addr}{Q:Bool->Shared->Prop}(hT:s.TypeIs (.ref r) "set")(h:Q false s):wpAny (model prog w) A (Builtin.List.listLengthHint (.ref r)) Q E s:=by
 unfold Builtin.List.listLengthHint;refine EX (GV hT PySem.F.slot_set_len.lookup ?_);generalize hid:("set.__len__":String)=id0
 wp_delta
 rw[show splitId id0=some ("set","__len__")from by subst hid;decide +kernel];subst hid;refine EX (wpAny_isInstance (T:="set") (b:=true) hT (by rw[GF];kernel_rfl) (F8 (fun hab=>absurd hab (by decide)) (fun _=>F8 (fun _=>?_) (fun hab=>absurd (by decide +kernel) hab))));exact EX (wpAny_typeOf hT (E1 h))
theorem uZ{S:Addr}{L:List Nat}{es:Array (Int×Value)}{ep:Nat}(hL:L∈subs)(he:dg es L) :
  PySem.W.KdlSrc prog w "set" S S es.size (fun i v=>∃e,(walk w S es ep)[i]?=some e/\v=e.2) (fun h=>h.get? S=some { cls:=.type "set",dict:=none,data:=.set es ep (tb (bJ w) L) }) where
 type:=fun s ho=>⟨_,ho,rfl⟩
 there:=fun h ho=>⟨Fb ho,Fb ho⟩
 keep:=fun h h' ho k=>k S (.inl rfl) _ ho
 notList:=by decide
 notTuple:=by decide
 hint:=fun A E s Q ho q=>tQ ⟨_,ho,rfl⟩ q
 iter:=fun A s hh ho=>⟨_,_,fun E Q q=>sj hL ho he q,pO hh (Fl (Fb ho)) hL he,⟨by
  show nF _ _ _ (slotAt w L 0) 0 _ _;have:slotAt w L 0=0:=by unfold slotAt;split<;>rfl
  rw[this];exact Fc _ rfl,EZ _ ho⟩⟩
theorem kQ{S:Addr}{L:List Nat}{es:Array (Int×Value)}{ep:Nat}{Q:List Value->Shared->Prop}(hh:A.handled=none)(hL:L∈subs)(he:dg es L)(ho:s.heap.get? S=some { cls:=.type "set",dict:=none,data:=.set es ep (tb (bJ w) L) })
  (h:∀h' tk,s.heap.objs.size<h'.objs.size->(∀b o,s.heap.get? b=some o->h'.get? b=some o)->Q ((walk w S es ep).toList.map (·.2)) { s with heap:=h',toks:=tk }):wpAny (model prog w) A (collect (.ref S)) Q E s:=by
 have hlt:S<s.heap.objs.size:=Fb ho;have h6:=(jf L hL).2.1;generalize hN:s.heap.objs.size=N;have hNS:N≠S:=by rw[←hN];exact Gz hlt
 have key:∀R:Result->Shared->Prop,(∀h' tk acc c,(∀b o,s.heap.get? b=some o->h'.get? b=some o)->h'.get? N=some { cls:=.type "list",dict:=none,data:=.seq acc c,slots:=#[] } ->
   ItemsOf (fun i v=>∃e,(walk w S es ep)[i]?=some e/\v=e.2) acc es.size->R (.ok (.ret (.ref N))) { s with heap:=h',toks:=tk })->codeAny (model prog w) A (.builtin "proto.collect" ⟨[.ref S],[]⟩) R s:=by
  intro R hR;refine F3 PyProof.Rows.entry_proto_collect' ?_;rw[FQ PySem.F.plain_proto_collect _];show wpAny (model prog w) A.in1 (newList [] >>= fun l=>again (.builtin "list.__iadd__" ⟨[l,.ref S],[]⟩)) _ _ s;refine EX (FF ?_);refine E1 ⟨GK PySem.F.plain_list_iadd _,F3 PySem.F.entry_list_iadd ?_⟩;rw[FQ PySem.F.plain_list_iadd _];rw[hN];show wpAny (model prog w) A.in1 (Builtin.List.listExtendWith (.ref N) (.ref S) (.ref N)) _ _ _;have hS:(s.heap.push { cls:=.type "list",data:=.seq ([]:List Value).toArray }).get? N=some { cls:=.type "list",data:=.seq #[] 0 }:=by rw[←hN];exact Fc _ rfl
  refine PySem.W.kdl_extend (s:={ s with heap:=s.heap.push { cls:=.type "list",data:=.seq ([]:List Value).toArray } }) (uZ (ep:=ep) hL he) (by simpa using hh) (EZ _ ho) N hNS hNS (.ref N) 0 hS (fun h' tk acc c kp hS' hacc=>?_) (by rw[he.size,FP];omega);exact hR h' tk acc c (fun b o q=>kp b o (by rw[←hN];exact Fl (Fb q)) (EZ _ q)) hS' hacc
 unfold collect;refine EX (wpAny_runValue (key _ fun h' tk acc c kp hS' hacc=>?_));show wpAny (model prog w) A (load N >>= _) _ _ _;refine EX (wpAny_load hS' ?_);refine E1 ?_;have e:acc.toList=(walk w S es ep).toList.map (·.2):=by
  apply List.ext_getElem?;intro j;by_cases hj:j<acc.size
  ·obtain⟨e,e1,e2⟩:=hacc.2 j _ (Fm hj);rw[FR,Fm hj,FN,FR,e1,e2];rfl
  ·have hz:(walk w S es ep).size≤j:=by rw[e9];have:=hacc.1;omega
   rw[FR,GD (by omega),FN,FR,GD hz];rfl
 show Q acc.toList _;rw[e];exact h h' tk (by rw[hN];exact Fb hS') kp
theorem nH{S:Addr}{L:List Nat}{Q:Value->Shared->Prop}(hh:A.handled=none)(hP:ji s.heap S (bJ w) L)
  (h:∀(r:Addr) (h':Heap) (tk n:Nat) (out:List Value) (ms:List Int),s.heap.objs.size≤r->(∀b o,s.heap.get? b=some o->h'.get? b=some o)->h'.get? r=some (seqObj "list" out.toArray n)->IntsAre out ms->ms.Pairwise (·≤·)->ms.Perm (L.map fun(i:Nat)=>(i:Int))->Q (.ref r) { s with heap:=h',toks:=tk }) :
  wpAny (model prog w) A (call (.builtin "sorted") [.ref S]) Q E s:=by
 obtain⟨hL,es,ep,ho,he⟩:=hP.is;have h6:=(jf L hL).2.1;refine Calls.call_function_entry kind_sorted plain_sorted entry_sorted (args_sorted1 _) ?_;unfold Builtin.«sorted»;refine EX (m:=checkCount "sorted" 1 1 _) (E1 ?_);refine EX (kQ (by simpa using hh) hL he ho fun h1 tk1 hgt k1=>?_);have hil:∃ns:List Int,IntsAre ((walk w S es ep).toList.map (·.2)) ns/\ns.Perm (L.map fun(i:Nat)=>(i:Int)):=by
  have hp:=jt w S es ep;obtain⟨tks,q1,q2⟩:=he;have gen:∀(l:List (Int×Value)),(∀e∈l,∃x tk,e=ent x tk)->IntsAre (l.map (·.2)) (l.map (·.1)):=by
   intro l
   induction l with
   | nil=>intro _;exact .nil
   | cons e l ih =>
    intro hm;obtain⟨x,tk,rfl⟩:=hm e E7;exact .cons _ _ (ih fun e he=>hm e (Ff _ he))
  refine⟨(walk w S es ep).toList.map (·.1),gen _ fun e hm=>?_,?_⟩
  ·obtain⟨x,_,tk,e⟩:=dg.mem ⟨tks,q1,q2⟩ (hp.mem_iff.mp hm);exact⟨x,tk,e⟩
  ·refine(hp.map _).trans ?_;rw[q2];have gen2:∀(L:List Nat) (tks:List Tok),tks.length=L.length->(List.zipWith ent L tks).map (·.1)=L.map fun(i:Nat)=>(i:Int):=by
    intro L
    induction L with
    | nil=>intro tks _;rfl
    | cons a L ih =>
     intro tks hl;cases tks with
     | nil=>simp at hl
     | cons b tks=>simp only[List.zipWith_cons_cons,E8,ih tks (by simpa using hl)];rfl
   rw[gen2 L tks q1]
 obtain⟨ns,hi,hpm⟩:=hil;generalize (walk w S es ep).toList.map (·.2)=vs at hi ⊢;have hlen:vs.length=L.length:=by
  have a:=hpm.length_eq;have b:=IntsAre.length hi;rw[EW]at a;omega
 refine EX (wpAny_newList ?_ (by rw[hlen,FP];omega));have hoL:(h1.push (seqObj "list" vs.toArray 0)).get? h1.objs.size=some (seqObj "list" vs.toArray 0):=Fc _ rfl;show wpAny (model prog w) _ _ _ _ { s with heap:=h1.push (seqObj "list" vs.toArray 0),toks:=tk1 };refine EX (Gp (FU slot_list_sort ⟨_,hoL,rfl⟩ entry_list_sort (list_sort_tree hoL hi (by omega) fun out ms a1 a2 a3=>⟨_,rfl,?_⟩) (args_list_sort _)));refine E1 ⟨_,rfl,?_⟩;obtain⟨e,he2⟩:=sortedHeap_at (out:=out) hoL;have hge:s.heap.objs.size≤h1.objs.size:=GZ hgt;refine h h1.objs.size (sortedHeap (h1.push (seqObj "list" vs.toArray 0)) h1.objs.size vs out) tk1 e out.toList ms hge (fun b o q=>?_) (by simpa using he2) a1 a3 (a2.trans hpm);rw[sortedHeap_old (Fl (Fb (k1 b o q))) (by rw[GA];exact GB (Fb (k1 b o q)))];exact EZ _ (k1 b o q)
end
end SI
namespace L2
variable {X:Cx}
def ke(w:World)(S:Addr)(L:List Nat):Heap->Prop:=fun h=>SI.ji h S (SI.bJ w) L
def yp(n:Nat):V:=.int (n:Int)
theorem jy:∀{ns:List Nat} {us:List Value},Vals (ns.map yp) us->SI.tu us ns
 | [],_,.nil=>⟨rfl,fun i v h=>by simp at h⟩
 | n::ns,_,.cons r t=>by
  obtain⟨tk,rfl⟩:=r;obtain⟨a,b⟩:=jy t;refine⟨by simp[a],fun i v h=>?_⟩;cases i with
  | zero=>simp at h;exact⟨tk,h.symm⟩
  | succ i=>simpa using b i v (by simpa using h)
theorem jz(hc:X.calm=true):cD X (.type "set") (fun xs H Q=>∃(a:Addr) (ns:List Nat),xs=[.ref a]/\SqL X.K H a (ns.map yp)/\(∀n∈ns,n<6)/\∀S,H S=none->Q (.ref S) (upd H S (.ext (ke X.w S (SI.lof ns))))):=by
 intro pins s σ H xs us Q I r h;obtain⟨a,ns,rfl,hq,hin,q⟩:=h;obtain⟨u,rfl,ru⟩:=Vals.one r;cases ru;obtain⟨its,rv,p,hz⟩:=I.list hq;refine SI.je (ns:=ns) (I.ok.hd hc) p.isList (jy rv) hin fun h' tk kp P=>?_;have hn:H s.heap.objs.size=none:=I.hok.fresh (Fd _);refine⟨.ref s.heap.objs.size,_,I.laid (t':=tk) (o:=.ext (ke X.w s.heap.objs.size (SI.lof ns))) (fun b o e=>kp b o (Fb e) e) (Fd _) ?_,rfl,q _ hn⟩;obtain⟨hL,es,ep,ho,he⟩:=P.is;exact⟨P,⟨_,ho⟩,fun h1 h2 x k=>by obtain⟨a,es,ep,e,l⟩:=x.is;exact⟨a,es,ep,k _ e,l⟩⟩
theorem m8(hc:X.calm=true):cD X (.builtin "sorted") (fun xs H Q=>∃(S:Addr) (L:List Nat),xs=[.ref S]/\H S=some (.ext (ke X.w S L))/\∀(r:Addr) (ms:List Int),H r=none->ms.Pairwise (·≤·)->ms.Perm (L.map fun(i:Nat)=>(i:Int))->Q (.ref r) (upd H r (.lst (ms.map V.int)))):=by
 intro pins s σ H xs us Q I r h;obtain⟨S,L,rfl,hS,q⟩:=h;obtain⟨u,rfl,ru⟩:=Vals.one r;cases ru;obtain⟨P,_,_⟩:=(show bQ X.prog X.w H s.heap S (.ext (ke X.w S L))from I.hok S _ hS);have h6:=(SI.jf L P.is.1).2.1;refine SI.nH (I.ok.hd hc) P fun r h' tk n out ms hge kp ho hi hs hp=>?_;have hn:H r=none:=I.hok.fresh hge;have hl:ms.length≤6:=by have:=hp.length_eq;rw[EW]at this;omega
 refine⟨.ref r,_,I.laid (t':=tk) (o:=.lst (ms.map V.int)) (fun b o e=>kp b o e) hge ?_,rfl,q r ms hn hs hp⟩;exact⟨by rw[EW,FP];omega,out,n,dB hi,ho⟩
def kH(K:PySem.W.Frag):V->List V->Hp->VK->Prop:=fun x vs H Q=>∃l b xs zs,x=.ref l/\vs=[.ref b]/\H l=some (.lst xs)/\SqT K H b zs/\xs.length+zs.length≤sizeLine/\Q .non (upd H l (.lst (xs++zs)))
end L2
namespace U
open L2
variable {B:Bs}{X:Cx}{e:Expr}{ta:TE'}{p p2 pos pos2:Pos}
def iL(n:Nat):PV:=.int (n:Int)
theorem iZ{K:PySem.W.Frag}{H:Hp}:∀{ns:List Nat} {us:List V},RPs K H (ns.map iL) us->us=ns.map yp
 | [],us,h=>by simpa[RPs]using h
 | b::bs,us,h=>by
  simp only[E8,RPs,RP,iL]at h;obtain⟨u,r,rfl,rfl,h2⟩:=h;rw[iZ h2];rfl
def nY(x:PV)(H:PHp)(Q:VK'):Prop:=match x with
 | .ref a=>∃ns:List Nat,H a=some (.lst (ns.map iL))/\(∀n∈ns,n<6)/\∀(r:Addr) (ms:List Nat),H r=none->ms.Pairwise (·<·)->(∀x,x∈ms↔x∈ns)->Q (.ref r) (put H r (.lst (ms.map iL)))
 | _=>False
theorem D8{a:Addr}{H:PHp}{Q:VK'}:nY (.ref a) H Q=∃ns:List Nat,H a=some (.lst (ns.map iL))/\(∀n∈ns,n<6)/\∀(r:Addr) (ms:List Nat),H r=none->ms.Pairwise (·<·)->(∀x,x∈ms↔x∈ns)->Q (.ref r) (put H r (.lst (ms.map iL))):=rfl
def k7(ta:TE'):TE':=fun σ H Q=>ta σ H fun x H1=>nY x H1 Q
theorem lW{L:List Nat}:∀{ms:List Int},(∀x∈ms,∃n∈L,x=((n:Nat):Int))->ms=(ms.map Int.toNat).map fun(n:Nat)=>(n:Int)
 | [],_=>rfl
 | x::ms,h=>by
  obtain⟨n,_,rfl⟩:=h x E7;rw[E8,E8,← lW (ms:=ms) fun y hy=>h y (Ff _ hy)];rfl
theorem jj(hc:X.calm=true)(hu:X.A.units+64<cLine)(hgl:Gl X "sorted")(hml:X.mg "sorted"=none)(hgs:Gl X "set")(hms:X.mg "set"=none)(bs:bootBuiltins "set"=some (.type "set"))(ha:PE' X B e ta)(bo:bootBuiltins "sorted"=some (.builtin "sorted"):=by decide +kernel)
  (he:starEach [.Call (.Name "set" p2) [e] [] pos2] X.env=[(false,eval (.Call (.Name "set" p2) [e] [] pos2) X.env)]:=by rfl) (he2:starEach [e] X.env=[(false,eval e X.env)]:=by rfl) :
  PE' X B (.Call (.Name "sorted" p) [.Call (.Name "set" p2) [e] [] pos2] [] pos) (k7 ta) :=
 a8 (fI (m8 hc) hgl hml bo (cJ (eY (jz hc) hgs hms bs (cJ ha dw he2) (by decide) (by decide) he2 rfl) dw he) (by decide) (by decide) he rfl) fun σ H Q h=>by
  obtain⟨σ',H',Q',s,h,k⟩:=h;refine⟨σ',H',_,s,h,fun x' H1' x H1 h1 rx s1 e1=>?_⟩;cases x' with
  | ref a =>
   obtain⟨ns,ea,hin,q⟩:=h1;simp only[RP]at rx;subst rx;obtain⟨us,eg,r2⟩:=s1.hp _ _ ea;rw[iZ r2]at eg;refine⟨a,ns,rfl,.inl (.inl eg),hin,fun S hS=>⟨S,SI.lof ns,rfl,bt,fun r ms hr hs hp=>?_⟩⟩;have s2:=s1.hid (o:=.ext (ke X.w S (SI.lof ns))) hS;have e2:Ev H1' H1 H1' (upd H1 S (.ext (ke X.w S (SI.lof ns)))):=Ev.hid hS;have nd:=(SI.jf _ (SI.lE hin)).2.2.1;have hm:∀x∈ms,∃n∈SI.lof ns,x=((n:Nat):Int):=fun x hx=>by
    obtain⟨n,h1,h2⟩:=Fg.mp (hp.mem_iff.mp hx);exact⟨n,h1,h2.symm⟩
   have em:=lW hm;generalize ms.map Int.toNat=ks at em;subst em;have pk:ks.Perm (SI.lof ns):=by
    have:=hp.map Int.toNat
    simpa[F4,Function.comp_def]using this
   have ndk:ks.Nodup:=pk.nodup_iff.mpr nd;have hsk:ks.Pairwise (·<·):=by
    rw[GW]at hs;refine List.Pairwise.imp₂ (fun a b h1 h2=>?_) hs ndk;have:a≠b:=h2;omega
   have hq:=q r ks (s2.hp.free hr) hsk fun x=>pk.mem_iff.trans SI.nJ;have rr:RPs X.K (upd H1 S (.ext (ke X.w S (SI.lof ns)))) (ks.map iL) ((ks.map fun(n:Nat)=>(n:Int)).map V.int):=by
    have e3:ks.map iL=(ks.map fun(n:Nat)=>(n:Int)).map PV.int:=by rw[F4];rfl
    rw[e3];exact gf
   exact k _ _ _ _ hq (by simp[RP]) (s2.new hr (lT hr rr)) ((e1.trans e2).trans (Ev.new hr))
  | _=>exact h1.elim
end U
namespace L2
variable {X:Cx}{tg:Expr}
theorem fx:MtM X "list.extend" (kH X.K):=by
 intro pins s σ H x vs v us Q I rx rv h;obtain⟨l,b,xs,zs,rfl,rfl,hH,hB,hz,q⟩:=h;cases rx;obtain⟨u,rfl,ru⟩:=rv.one;cases ru;obtain⟨z,its,n,r,hl,e⟩:=I.lstM hH;obtain⟨is2,r2,⟨o2,ho2,hc2,n2,hd2⟩,hz2⟩:=I.tuple hB;have hne:l≠b:=by
  rintro rfl;rw[e]at ho2;cases ho2;exact absurd (show Value.type "list"=Value.type "tuple" from hc2) (by decide)
 have hlen2:=r2.length;refine FU F.slot_list_extend ⟨_,e,rfl⟩ F.entry_list_extend ?_ (F.args_list_extend_2 _ _);show wpAny _ _ (Builtin.List.listExtendWith (.ref l) (.ref b) .none) _ _ _;unfold Builtin.List.listExtendWith;refine EX (wpAny_typeOf (T:="tuple") ⟨o2,ho2,hc2⟩ ?_);rw[Fp (by rw[show(Value.type "tuple"==Value.type "tuple")=true from rfl];simp)];refine EX (listItems_at ho2 hd2 ?_);refine EX (listItems_at (xs:=its.toArray) (n:=n) e rfl ?_);have hsz:its.toArray.size+is2.toArray.size≤sizeLine:=by rw[Fe,Fe];omega
 rw[Fh (by rw[kW hsz,Bool.and_false];exact Gv)];refine EX (listUpdate_at (xs:=its.toArray) (n:=n) e rfl ?_ (by rw[Fe];omega) (by show(its.toArray++is2.toArray).size≤_;rw[Array.size_append];omega));refine E1 ⟨_,rfl,?_⟩;refine⟨.non,_,I.lset (its':=its++is2) hH e (by simp) (r.append r2) ?_,rfl,q⟩;rw[E3];omega
def Itd(lo:Int)(n:Nat):It:=⟨fun i _=>i<n,fun i H x H'=>H'=H/\x=.int (lo - i),fun i _=>n≤i⟩
theorem qC{P:Program}{w:World}{K:PySem.W.Frag}(it:Addr)(lo:Int)(n:Nat):Turn P w K tg (Itd lo n) [it] it (fun i h=>IsRangeIter h it (lo+(i:Nat)*(-1)) ((n:Int) - (i:Nat)) (-1)) where
 mem:=by simp
 obj:=fun i h st b hb=>by
  have q:b=it:=by simpa using hb
  subst q;exact⟨_,st,fun v z=>by
   have z':Data.fields _=Data.cell v:=z;cases z'⟩
 keep:=fun i h h' st k=>k it (by simp) _ st
 item:=by
  intro X hP hw hK hc i pins s σ H E I hf st hg;subst hP hw hK;obtain⟨f0,f1,f2,f3,f4,f5⟩:=hf it (by simp);have W:=Walks.range (prog:=X.prog) (w:=X.w) (I.ok.hd hc) it lo (-1) n;refine W.item i s _ _ hg st fun v h' tk hv st' kk=>?_;obtain⟨t,rfl⟩:=hv;have J:Inv X pins σ H { s with heap:=h',toks:=tk }:=I.turned (fun b o hb e=>kk b o (by simpa using hb) e) f0 f1 f3 f4 f5;refine⟨_,rfl,oC (s:={ s with heap:=h',toks:=tk }) (n:="range_iterator") st' rfl rfl (by decide) ⟨.int (lo - i),H,J,⟨t,?_⟩,⟨rfl,rfl⟩,st',fun b hb=>(hf b hb).1⟩⟩;congr 1;omega
 done:=by
  intro X hP hw hK hc i pins s σ H E I hf st hg;subst hP hw hK;obtain⟨f0,f1,f2,f3,f4,f5⟩:=hf it (by simp);exact wpAny_pyNext_range_end (I.ok.hd hc) st (by have q:n≤i:=hg;omega) fun h' eb=>⟨rfl,I.turned (t':=s.toks) (fun b o hb e=>eb b o hb e) f0 f1 f3 f4 f5⟩
 self:=fun _ _ _ _ _ st h=>wpAny_pyIter_rangeiter st h
def Ba(ta:TA):TI:=fun σ H R=>ta σ H fun vs H1=>∃j:Int,vs=[.int j,.int (-1),.int (-1)]/\-1≤j/\j<1000/\R (Itd j (j+1).toNat) H1
theorem jQ{j:Int}(h:-1≤j):Builtin.Range.rangeSize j (-1) (-1)=j+1:=by
 unfold Builtin.Range.rangeSize;rw[Fh (by decide)];have e:-(-1:Int)=1:=rfl;rw[e,Int.ediv_one];split<;>omega
theorem mQ{j:Int}(h:-1≤j)(h2:j<1000):Builtin.Range.small j (-1) (-1)=true:=by
 unfold Builtin.Range.small;rw[jQ h];simp only[Builtin.Range.rangeFitsLong,Gg,Bool.or_eq_true,FJ,GY];refine⟨⟨⟨⟨by omega,by decide⟩,by decide⟩,by omega⟩,.inr (by decide)⟩
theorem uL{a b c:Expr}{ta:TA}{p pos:Pos}(hg:Gl X "range")(hm:X.mg "range"=none)(ha:PA X [a,b,c] ta)(hs:starEach [a,b,c] X.env=[(false,eval a X.env),(false,eval b X.env),(false,eval c X.env)]:=by rfl)
  (hs2:starEach [b,c] X.env=[(false,eval b X.env),(false,eval c X.env)]:=by rfl):PI X tg (.Call (.Name "range" p) [a,b,c] [] pos) (Ba ta):=by
 intro pins s σ H R I h;refine Call_ (cQ I hg hm boot_range (FG (thn (ha pos pins s σ H _ I h) fun us s1 ⟨vs,H1,I1,r1,q1⟩=>?_) (by rw[hs,hs2]) (by rw[hs2];rfl)));obtain⟨j,e,q1,q2,q⟩:=q1;subst e;cases r1 with
 | cons r rr =>
  cases rr with
  | cons r' rr =>
   cases rr with
   | cons r'' rr =>
    cases rr;obtain⟨t,rfl⟩:=r;obtain⟨t',rfl⟩:=r';obtain⟨t'',rfl⟩:=r'';refine call_range_3 (by decide) ?_ (Or.inl (PyProof.noPylong_of_log2 (by decide +kernel)));generalize hh:s1.heap.push { cls:=.type "range",data:=.fields #[.int j t,.int (-1) t',.int (-1) t''] }=h2;have I2:Inv X pins σ H1 { s1 with heap:=h2 }:=by rw[←hh];exact I1.kept (t':=s1.toks) fun b o e=>EZ _ e
    refine wpAny_pyIter_range (s:={ s1 with heap:=h2,toks:=s1.toks }) (by rw[←hh];exact IsRange.new ..) (mQ q1 q2) ?_;refine⟨h2.objs.size,[h2.objs.size],_,_,H1,rfl,I2.kept (t':=s1.toks) fun b o e=>EZ _ e,qC _ j (j+1).toNat,?_,fun b hb=>?_,q⟩
    ·show IsRangeIter _ _ (j+((0:Nat):Int)*(-1)) ((((j+1).toNat:Nat):Int) - ((0:Nat):Int)) (-1);have e1:j+((0:Nat):Int)*(-1)=j:=by simp
     have e2:(((j+1).toNat:Nat):Int) - ((0:Nat):Int)=Builtin.Range.rangeSize j (-1) (-1):=by rw[jQ q1];omega
     rw[e1,e2];exact Fc _ rfl
    ·have e:b=h2.objs.size:=by simpa using hb
     subst e;exact I2.fpOk (Fd _) (I2.hok.fresh (Fd _))
end L2
namespace U
open L2
section
variable {B:Bs}{X:Cx}{a b c:Expr}{pos:Pos}
def rG:PV->List PV->PHp->VK'->Prop:=fun x vs H Q=>match x,vs with
 | .ref a,[.tup m]=>∃l,H a=some (.lst l)/\l.length+m.length≤sizeLine/\Q .non (put H a (.lst (l++m)))
 | _,_=>False
theorem CU{a:Addr}{m:List PV}{H:PHp}{Q:VK'}:rG (.ref a) [.tup m] H Q=∃l,H a=some (.lst l)/\l.length+m.length≤sizeLine/\Q .non (put H a (.lst (l++m))):=rfl
theorem j2{K:PySem.W.Frag}:VM K B rG (kH K):=by
 intro σ' σ H' H x' xs' x xs Q' Q s rx r h k;unfold rG at h;split at h
 ·rename_i a m;obtain⟨l,e,hl,h⟩:=h;obtain⟨us,q,r2⟩:=s.hp _ _ e;simp only[RP,RPs]at rx r;obtain⟨u,r1,rfl,⟨b,ws,rfl,hb,r3⟩,rfl⟩:=r;subst rx;exact⟨a,b,us,ws,rfl,rfl,q,hb,by rw[RPs.length _ r2,RPs.length _ r3];exact hl,k _ _ _ _ h (by simp[RP]) (s.wr e (wrL s.hp e (RPs.append _ r2 r3))) (Ev.wr e)⟩
 ·exact h.elim
def kK(lo:Int)(n:Nat):List PV:=(List.range n).map fun k=>PV.int (lo - (k:Nat))
theorem qI{K:PySem.W.Frag}{H1:Hp}{lo:Int}{n:Nat}:Walks K H1 (Itd lo n) ⟨kK lo n,fun _=>True⟩ where
 go:=fun H' H i _ _ _ hi=>by
  have q:i<n:=by simpa[kK]using hi
  exact q
 yld:=fun H' H i x H2 _ _ _ y=>by
  obtain⟨rfl,rfl⟩:=y;refine⟨rfl,fun x' hx=>?_⟩;unfold kK at hx;rw[FN]at hx;cases q:(List.range n)[i]? with
  | none=>rw[q]at hx;cases hx
  | some j =>
   rw[q]at hx;have:j=i:=by
    have:=(E6.mp q).2;simpa using this.symm
   subst this;cases hx;simp[RP]
 stop:=fun H' H i _ _ _ hi=>by
  have q:n≤i:=by simpa[kK]using hi
  exact q
def r9(vs:List PV)(H1:PHp)(R:It'->PHp->Prop):Prop:=match vs with
 | [.int j,.int e,.int f]=>e=-1/\f=-1/\-1≤j/\j<1000/\R ⟨kK j (j+1).toNat,fun _=>True⟩ H1
 | _=>False
theorem DN{j e f:Int}{H1:PHp}{R:It'->PHp->Prop}:r9 [.int j,.int e,.int f] H1 R=(e=-1/\f=-1/\-1≤j/\j<1000/\R ⟨kK j (j+1).toNat,fun _=>True⟩ H1):=rfl
def xP(t:TA'):TI':=fun σ H R=>t σ H fun vs H1=>r9 vs H1 R
theorem qf{tg:Expr}{t:TA'}{p:Pos}(hg:Gl X "range")(hm:X.mg "range"=none)(ha:PA' X B [a,b,c] t)(hs:starEach [a,b,c] X.env=[(false,eval a X.env),(false,eval b X.env),(false,eval c X.env)]:=by rfl)
  (hs2:starEach [b,c] X.env=[(false,eval b X.env),(false,eval c X.env)]:=by rfl):PI' X B tg (.Call (.Name "range" p) [a,b,c] [] pos) (xP t) :=
 iR (uL hg hm ha hs hs2) fun σ H R y_=>by
  obtain⟨σ',H',R',s,h,k⟩:=y_;refine⟨σ',H',_,s,h,fun vs' H1' vs H1 h1 r1 s1 e1=>?_⟩;unfold r9 at h1;split at h1
  ·rename_i j e f;obtain⟨rfl,rfl,h2,h3,q⟩:=h1;simp only[RPs,RP]at r1;obtain⟨u,r,rfl,rfl,u2,r2,rfl,rfl,u3,r3,rfl,rfl,rfl⟩:=r1;exact⟨j,rfl,h2,h3,k _ _ _ _ q qI s1 e1⟩
  ·exact h1.elim
end
section
variable {B:Bs}{X:Cx}{a b:Expr}{ta tb:TE'}{pos:Pos}
def tE:R2':=fun x y H Q=>match x,y with
 | .ref a,.ref b=>∃l m,H a=some (.lst l)/\H b=some (.lst m)/\l.length+m.length≤sizeLine/\∀p,H p=none->Q (.ref p) (put H p (.lst (l++m)))
 | _,_=>False
theorem Dd{a b:Addr}{H:PHp}{Q:VK'}:tE (.ref a) (.ref b) H Q=∃l m,H a=some (.lst l)/\H b=some (.lst m)/\l.length+m.length≤sizeLine/\∀p,H p=none->Q (.ref p) (put H p (.lst (l++m))):=rfl
theorem yi{K:PySem.W.Frag}:VR K B tE Bb:=by
 intro σ' σ H' H x' y' x y Q' Q s rx ry h k;unfold tE at h;split at h
 ·rename_i a b;obtain⟨l,m,e1,e2,hl,h⟩:=h;simp only[RP]at rx ry;subst rx;subst ry;obtain⟨us,q1,r1⟩:=s.hp _ _ e1;obtain⟨ws,q2,r2⟩:=s.hp _ _ e2;refine⟨a,b,us,ws,rfl,rfl,q1,q2,by rw[RPs.length _ r1,RPs.length _ r2];exact hl,fun p hp=>?_⟩;exact k _ _ _ _ (h p (s.hp.free hp)) (by simp[RP]) (s.new hp (lT hp (RPs.append _ r1 r2))) (Ev.new hp)
 ·exact h.elim
theorem mH(ha:PE' X B a ta)(hb:PE' X B b tb):PE' X B (.BinOp a .Add b pos) (uOp tE ta tb):=fv yd yi ha hb
theorem C9{a:Addr}{H:PHp}{Q:VK'}:qQ [.ref a] H Q=∃ns:List Int,H a=some (.lst (ns.map PV.int))/\ns.length<64/\∀(r:Addr) (ms:List Int),H r=none->ms.Perm ns->ms.Pairwise (·≤·)->Q (.ref r) (put H r (.lst (ms.map PV.int))):=rfl
theorem iH(xs:List PV)(k:Nat):cC xs (some (k:Int)) none=xs.drop k:=by
 unfold cC;rw[HT.h9,HT.d5];rw[List.take_of_length_le (by rw[FZ];omega)];by_cases h:k≤xs.length
 ·rw[Nat.min_eq_left h]
 ·rw[Nat.min_eq_right (by omega),List.drop_length,List.drop_eq_nil_of_le (by omega)]
theorem nK{F:List Int}(h:∀x∈F,0≤x/\x<6):F.map PV.int=(F.map Int.toNat).map iL:=by
 rw[F4];refine List.map_congr_left fun x hx=>?_;have:=h x hx;show PV.int x=PV.int ((x.toNat:Nat):Int);congr 1;omega
end
end U
set_option Elab.async false
namespace L2
section
variable {κ:Type}[DecidableEq κ]
def fB(kvs:List (κ×V))(k:κ):Option V:=(kvs.find? fun kv=>decide (kv.1=k)).map (·.2)
def putK(kvs:List (κ×V))(k:κ)(v:V):List (κ×V) :=
 if (kvs.any fun kv=>decide (kv.1=k))=true then kvs.map (fun kv=>if kv.1=k then(kv.1,v)else kv)else kvs++[(k,v)]
theorem fK{p:κ×V}{r:List (κ×V)}{k:κ}(e:p.1=k):fB (p::r) k=some p.2:=by simp[fB,List.find?_cons,e]
theorem fV{p:κ×V}{r:List (κ×V)}{k:κ}(e:¬p.1=k):fB (p::r) k=fB r k:=by simp[fB,List.find?_cons,e]
theorem iQ(k:κ):∀kvs:List (κ×V),(kvs.any fun kv=>decide (kv.1=k))=(fB kvs k).isSome
 | []=>rfl
 | p::r=>by
  rw[List.any_cons];by_cases e:p.1=k
  ·simp only[fK e,FO e,Bool.true_or,Option.isSome_some]
  ·rw[fV e,F7 e,Bool.false_or];exact iQ k r
theorem eD(kvs:List (κ×V))(k:κ)(v:V):(putK kvs k v).length≤kvs.length+1:=by
 unfold putK;split
 ·rw[EW];omega
 ·rw[E3,Fs,List.length_nil];omega
theorem rC{kvs:List (κ×V)}{k:κ}(v:V)(h:fB kvs k=none):putK kvs k v=kvs++[(k,v)]:=by
 unfold putK;rw[iQ,h];exact Fh (by decide)
theorem f7.isSome_eq{o:Option V}{u:Option Value}(r:f7 o u):o.isSome=u.isSome:=by
 cases o with
 | none=>cases u with
  | none=>rfl
  | some _=>exact(show False from r).elim
 | some _=>cases u with
  | none=>exact(show False from r).elim
  | some _=>rfl
theorem KV.val{kvs:List (κ×V)}{vs:List (κ×Value)}(r:KV kvs vs)(k:κ):f7 (fB kvs k) (valueAt vs k):=by
 unfold KV at r
 induction r with
 | nil=>exact True.intro
 | @cons p q ps qs h t ih =>
  obtain⟨h1,h2⟩:=h;by_cases e:p.1=k
  ·have e':q.1=k:=h1.symm.trans e;have b:valueAt (q::qs) k=some q.2:=by simp[valueAt,List.find?_cons,e']
   rw[fK e,b];exact h2
  ·have e':¬q.1=k:=fun z=>e (h1.trans z);have b:valueAt (q::qs) k=valueAt qs k:=by simp[valueAt,List.find?_cons,e']
   rw[fV e,b];exact ih
theorem KV.any{kvs:List (κ×V)}{vs:List (κ×Value)}(r:KV kvs vs)(k:κ):(kvs.any fun kv=>decide (kv.1=k))=vs.any fun kv=>decide (kv.1=k):=by
 unfold KV at r
 induction r with
 | nil=>rfl
 | cons h t ih=>rw[List.any_cons,List.any_cons,ih,h.1]
theorem KV.repl{kvs:List (κ×V)}{vs:List (κ×Value)}(r:KV kvs vs)(k:κ){y:V}{u:Value}(ry:RelV y u) :
  KV (kvs.map fun kv=>if kv.1=k then(kv.1,y)else kv) (vs.map fun kv=>if kv.1=k then(kv.1,u)else kv):=by
 unfold KV at r ⊢
 induction r with
 | nil=>exact .nil
 | @cons p q ps qs h t ih =>
  rw[E8,E8];refine .cons ?_ ih;obtain⟨h1,h2⟩:=h;by_cases e:p.1=k
  ·rw[Fp e,Fp (h1.symm.trans e)];exact⟨h1,ry⟩
  ·rw[Fh e,Fh (fun z=>e (h1.trans z))];exact⟨h1,h2⟩
theorem KV.put{kvs:List (κ×V)}{vs:List (κ×Value)}(r:KV kvs vs)(k:κ){y:V}{u:Value}(ry:RelV y u):KV (putK kvs k y) (stored vs k u):=by
 unfold putK stored;rw[r.any k];by_cases e:(vs.any fun kv=>decide (kv.1=k))=true
 ·rw[Fp e,Fp e];exact r.repl k ry
 ·rw[Fh e,Fh e];exact Paired.snoc r ⟨rfl,ry⟩
theorem KV.length{kvs:List (κ×V)}{vs:List (κ×Value)}(r:KV kvs vs):kvs.length=vs.length:=Paired.length r
end
theorem om{P:Program}{w:World}{k:Key}{u:Value}(r:RelV (kV k) u):(bV P w).is k u=true:=by
 cases k with
 | inl i=>obtain⟨t,e⟩:=(show ∃t,u=Value.int i t from r);subst e;exact lC P w i t
 | inr x=>obtain⟨t,e⟩:=(show ∃t,u=Value.str x t from r);subst e;exact kC P w x t
theorem jG{P:Program}{w:World}:∀{ks:List Key} {us:List Value},Vals (ks.map kV) us->ItemsAre (bV P w) ks us
 | [],_,r=>by rw[List.map_nil]at r;cases r;exact .nil
 | k::ks,_,r=>by
  rw[E8]at r;cases r with
  | cons h t=>exact .cons (om h) (jG t)
abbrev KT(H:Hp):List (List Key×V)->List (List Key×Addr×Value)->Prop:=Paired fun p q=>p.1=q.1/\H q.2.1=some (.tup (p.1.map kV))/\RelV p.2 q.2.2
theorem KT.val{H:Hp}{kvs:List (List Key×V)}{xs:List (List Key×Addr×Value)}(r:KT H kvs xs)(k:List Key):f7 (fB kvs k) ((atKey xs k).map (·.2)):=by
 induction r with
 | nil=>exact True.intro
 | @cons p q ps qs h t ih =>
  obtain⟨h1,_,h2⟩:=h;by_cases e:p.1=k
  ·have e':q.1=k:=h1.symm.trans e;have b:atKey (q::qs) k=some q.2:=by simp[atKey,List.find?_cons,e']
   rw[fK e,b];exact h2
  ·have e':¬q.1=k:=fun z=>e (h1.trans z);have b:atKey (q::qs) k=atKey qs k:=by simp[atKey,List.find?_cons,e']
   rw[fV e,b];exact ih
theorem KT.repl{H:Hp}{kvs:List (List Key×V)}{xs:List (List Key×Addr×Value)}(r:KT H kvs xs)(k:List Key){y:V}{u:Value}(ry:RelV y u) :
  KT H (kvs.map fun kv=>if kv.1=k then(kv.1,y)else kv) (xs.map (putAt k u)):=by
 induction r with
 | nil=>exact .nil
 | @cons p q ps qs h t ih =>
  rw[E8,E8];refine .cons ?_ ih;obtain⟨h1,h2,h3⟩:=h;unfold putAt;by_cases e:p.1=k
  ·rw[Fp e,Fp (h1.symm.trans e)];exact⟨h1,h2,ry⟩
  ·rw[Fh e,Fh (fun z=>e (h1.trans z))];exact⟨h1,h2,h3⟩
theorem KT.put{H:Hp}{kvs:List (List Key×V)}{xs:List (List Key×Addr×Value)}(r:KT H kvs xs)(k:List Key){b:Addr}{y:V}{u:Value}(hb:H b=some (.tup (k.map kV)))(ry:RelV y u) :
  KT H (putK kvs k y) (storedH xs k b u):=by
 have e:(kvs.any fun kv=>decide (kv.1=k))=(atKey xs k).isSome:=by
  rw[iQ,(r.val k).isSome_eq,Option.isSome_map]
 unfold putK storedH;rw[e];by_cases q:(atKey xs k).isSome=true
 ·rw[Fp q,Fp q];exact r.repl k ry
 ·rw[Fh q,Fh q];exact Paired.snoc r ⟨rfl,hb,ry⟩
theorem KT.keeps{H H':Hp}{kvs:List (List Key×V)}{xs:List (List Key×Addr×Value)}(r:KT H kvs xs)(ht:∀b ys,H b=some (.tup ys)->H' b=some (.tup ys)):KT H' kvs xs :=
 Paired.mapP r fun _ _ z=>⟨z.1,ht _ _ z.2.1,z.2.2⟩
section
variable {P:Program}{w:World}{H:Hp}{h:Heap}{a:Addr}
theorem xg{u:HO}(ok:HOk P w H h)(e:Rd H a u):bQ P w H h a u:=e.ok ok
theorem xR{kvs:List (Key×V)}(ok:HOk P w H h)(e:Rd H a (.dK kvs)):kvs.length≤sizeLine/\(a==sysModules)=false/\∃vs,KV kvs vs/\h.DictOf (bV P w) a vs :=
 show bQ P w H h a (.dK kvs)from xg ok e
theorem xi{kvs:List (Key×V)}(ok:HOk P w H h)(e:H a=some (.dK kvs)):kvs.length≤sizeLine/\(a==sysModules)=false/\∃vs,KV kvs vs/\h.DictOf (bV P w) a vs:=xR ok (.inl e)
theorem m9{ks:List Key}(ok:HOk P w H h)(e:H a=some (.tup (ks.map kV))):(tupleKind (bV P w)).is h ks a:=by
 obtain⟨_,its,r,o,h1,h2,n,h3⟩:=(show bQ P w H h a (.tup (ks.map kV))from ok a _ e);exact⟨o,its.toArray,n,h1,h2,h3,by simpa using jG r⟩
theorem xr{kvs:List (List Key×V)}(ok:HOk P w H h)(e:Rd H a (.dT kvs)):kvs.length≤sizeLine/\(a==sysModules)=false /\
  ∃xs,KT H kvs xs/\h.DictOfH (tupleKind (bV P w)) a xs:=by
 obtain⟨z,y,xs,r,o,es,ep,h1,h2,h3,h4,h5⟩:=(show bQ P w H h a (.dT kvs)from xg ok e);refine⟨z,y,xs,r,o,es,ep,h1,h2,h3,h4,fun x hx=>?_,h5⟩;have all:∀{l:List (List Key×V)} {m:List (List Key×Addr×Value)},KT H l m->∀x∈m,(tupleKind (bV P w)).is h x.1 x.2.1:=by
  intro l m q
  induction q with
  | nil=>intro x hx;exact nomatch hx
  | @cons p q ps qs hq t ih =>
   intro x hx;rcases Fn.mp hx with e | hx
   ·subst e;exact m9 ok (by rw[←hq.1];exact hq.2.1)
   ·exact ih x hx
 exact all r x hx
theorem B0{kvs:List (List Key×V)}(ok:HOk P w H h)(e:H a=some (.dT kvs)):kvs.length≤sizeLine/\(a==sysModules)=false /\
  ∃xs,KT H kvs xs/\h.DictOfH (tupleKind (bV P w)) a xs:=xr ok (.inl e)
end
def sU(H:Hp)(a:Addr)(y:V)(r:Option V):Prop :=
 (∃kvs k,Rd H a (.dK kvs)/\y=kV k/\r=fB kvs k)∨∃kvs k b,Rd H a (.dT kvs)/\y=.ref b/\H b=some (.tup (k.map kV))/\r=fB kvs k
def tM(H:Hp)(a:Addr)(y v:V)(H':Hp):Prop :=
 (∃kvs k,H a=some (.dK kvs)/\y=kV k/\kvs.length<sizeLine/\H'=upd H a (.dK (putK kvs k v))) ∨
 ∃kvs k b,H a=some (.dT kvs)/\y=.ref b/\H b=some (.tup (k.map kV))/\kvs.length<sizeLine/\H'=upd H a (.dT (putK kvs k v))
theorem sU.k{H:Hp}{a:Addr}{kvs:List (Key×V)}{k:Key}(e:H a=some (.dK kvs)):sU H a (kV k) (fB kvs k):=.inl ⟨kvs,k,.inl e,rfl,rfl⟩
theorem tM.k{H:Hp}{a:Addr}{kvs:List (Key×V)}{k:Key}{v:V}(e:H a=some (.dK kvs))(hl:kvs.length<sizeLine):tM H a (kV k) v (upd H a (.dK (putK kvs k v))):=.inl ⟨kvs,k,e,rfl,hl,rfl⟩
section
variable {X:Cx}{pins:List (Addr×Obj)}{σ:St}{H:Hp}{s:Shared}{a:Addr}{y v:V}{u r:Value}{o:Option V}{A:Around}{E:Value->Shared->Prop}
theorem Inv.big(I:Inv X pins σ H s):sysModules<s.heap.objs.size:=by
 have h:mainGlobals<s.heap.objs.size:=(I.mod.glob.keeps I.bk).lt;exact Nat.lt_trans (by decide) h
theorem wq{Q:Value->Shared->Prop}(hu:A.units+1<cLine)(I:Inv X pins σ H s)(g:sU H a y o)(ry:RelV y u)(h:∀s',Inv X pins σ H s'->Q (.bool (!o.isSome)) s') :
  wpAny (model X.prog X.w) A (compareOp .NotIn u (.ref a)) Q E s:=by
 rcases g with⟨kvs,k,e,ey,l⟩ |⟨kvs,k,b,e,ey,eb,l⟩
 ·subst ey;obtain⟨z,hd,vs,rel,dd⟩:=xR I.hok e;refine wpAny_notIn_of (om ry) hd dd.mapOf ?_;rw[←(rel.val k).isSome_eq,← l];exact h _ (I.tok _)
 ·subst ey;cases (show u=Value.ref b from ry);obtain⟨z,hd,xs,rel,dd⟩:=xr I.hok e;refine wpAny_notIn_heap (tupleKind_room_in1 hu) (m9 I.hok eb) hd dd ?_;have q:=(rel.val k).isSome_eq;rw[Option.isSome_map]at q;rw[←q,← l];exact h _ (I.tok _)
theorem km{h':Heap}{t':Nat}{ob:HO}(I:Inv X pins σ H s)(mu:Mut (H a))(hs:Heap.SameBut a s.heap h')(he:∃q,h'.get? a=some q)(new:bQ X.prog X.w (upd H a ob) h' a ob) :
  Inv X pins σ (upd H a ob) { s with heap:=h',toks:=t' } :=
 I.write (x:=a) (e:=a) mu (.inl rfl) (fun b q hb z=>(hs.2 b hb).trans z) he new
theorem sD{P:Program}{w:World}{H':Hp}{h':Heap}{kvs:List (Key×V)}{vs:List (Key×Value)}(z:kvs.length≤sizeLine)(hd:(a==sysModules)=false)(rel:KV kvs vs)(dd:h'.DictOf (bV P w) a vs) :
  bQ P w H' h' a (.dK kvs):=⟨z,hd,vs,rel,dd⟩
theorem qq{H':Hp}{Q:Unit->Shared->Prop}(hu:A.units+1<cLine)(I:Inv X pins σ H s)(g:tM H a y v H')(ry:RelV y u)(rv:RelV v r)(h:∀s',Inv X pins σ H' s'->Q () s') :
  wpAny (model X.prog X.w) A (setItem (.ref a) u r) Q E s:=by
 rcases g with⟨kvs,k,e,ey,l,eH⟩ |⟨kvs,k,b,e,ey,eb,l,eH⟩
 ·subst ey eH;obtain⟨z,hd,vs,rel,dd⟩:=xi I.hok e;have hz:vs.length≤sizeLine:=by rw[←rel.length];exact z
  have hl:(putK kvs k v).length≤sizeLine:=by have:=eD kvs k v;omega
  refine wpAny_setItem_pairs (hsz:=hz) (om ry) dd fun h' dd' hs=>h _ ?_;have he:∃q,h'.get? a=some q:=let ⟨q,_,_,hq,_⟩:=dd';⟨q,hq⟩
  exact km I (by rw[e];exact True.intro) hs he (sD hl hd (rel.put k rv) dd')
 ·subst ey eH;cases (show u=Value.ref b from ry);obtain⟨z,hd,xs,rel,dd⟩:=B0 I.hok e;have hz:xs.length≤sizeLine:=by rw[←Paired.length rel];exact z
  have hl:(putK kvs k v).length≤sizeLine:=by have:=eD kvs k v;omega
  refine wpAny_setItem_heap (hsz:=hz) (tupleKind_room_in1 hu) (m9 I.hok eb) dd fun h' dd' hs=>h _ ?_;obtain⟨q,es,ep,hq,h2,h3,h4,_,h5⟩:=dd';refine km I (by rw[e];exact True.intro) hs ⟨q,hq⟩ ⟨hl,hd,_,(rel.put k eb rv).keeps fun c ys ec=>?_,q,es,ep,hq,h2,h3,h4,h5⟩;rw[aZ (t7 ec e (fun z=>nomatch z))];exact ec
end
section
variable {X:Cx}{pins:List (Addr×Obj)}{σ:St}{H:Hp}{s:Shared}{a:Addr}{kvs:List (Key×V)}{k:Key}{u:Value}{A:Around}{E:Value->Shared->Prop}
end
def vO(ty td:TE):TE:=fun σ H Q=>ty σ H fun y H1=>td σ H1 fun x H2=>∃a o,x=.ref a/\sU H2 a y o/\Q (.bl (!o.isSome)) H2
def Cp(td ty tv:TE):TS:=fun D σ H=>tv σ H fun v H1=>td σ H1 fun x H2=>ty σ H2 fun y H3=>∃a H4,x=.ref a/\tM H3 a y v H4/\D.nx σ H4
section
variable {X:Cx}{o i e value:Expr}{pos pos' tpos:Pos}{td ty tv:TE}
theorem qD(hu:X.A.units+1<cLine)(hi:PE X i ty)(ho:PE X o td):PC X .NotIn i o (vO ty td):=by
 intro pins s σ H Q I h;refine thn (hi pins s σ H _ I h) fun iv s1 ⟨y,H1,I1,ry,q1⟩=>thn (ho pins s1 σ H1 _ I1 q1) fun u s2 y_=>?_;obtain⟨x,H2,I2,rx,a,ov,ex,g,q2⟩:=y_;subst ex;obtain rfl:u=Value.ref a:=rx;exact wq hu I2 g ry fun s3 I3=>⟨.bl (!ov.isSome),H2,I3,rfl,q2⟩
theorem vn(hu:X.A.units+1<cLine)(ho:PE X o td)(hi:PE X i ty)(hv:PE X value tv)(hs:swapsWith value (some (.Subscript o i pos')) pos.line X.env=pure false) :
  PS X (.Assign [.Subscript o i pos'] value pos) (Cp td ty tv):=by
 intro pins s σ H D I h;refine wpAny_Assign_Subscript (thn (hv pins s σ H _ I h) fun r s1 ⟨v,H1,I1,rv,q1⟩=>thn (ho pins s1 σ H1 _ I1 q1) fun u s2 ⟨x,H2,I2,rx,q2⟩=>thn (hi pins s2 σ H2 _ I2 q2) fun iv s3 ⟨y,H3,I3,ry,a,H4,ex,g,q3⟩=>?_) hs;subst ex;obtain rfl:u=Value.ref a:=rx;exact qq hu I3 g ry rv fun s4 I4=>⟨σ,H4,I4,q3⟩
end
theorem sG{P:Program}{w:World}{H:Hp}(h:Heap)(hb:sysModules<h.objs.size):bQ P w H (h.push { cls:=.type "dict",data:=.dict #[] }) h.objs.size (.dK []) :=
 ⟨Gb _,beq_eq_false_iff_ne.mpr (Ne.symm (Fl hb)),[],.nil,Heap.DictOf.new h⟩
section
variable {X:Cx}{pos:Pos}
end
def mC:List (TE×TE)->St->Hp->(List (V×V)->Hp->Prop)->Prop
 | [],_,H,Q=>Q [] H
 |(tk,tv)::r,σ,H,Q=>tk σ H fun x H1=>tv σ H1 fun y H2=>mC r σ H2 fun ps H3=>Q ((x,y)::ps) H3
abbrev VV:List (V×V)->List (Value×Value)->Prop:=Paired fun p q=>RelV p.1 q.1/\RelV p.2 q.2
def PPs(X:Cx)(pos:Pos)(keys:List (Option Expr))(values:List Expr)(trs:List (TE×TE)):Prop :=
 ∀(pins:List (Addr×Obj)) (s:Shared) (σ:St) (H:Hp) (Q:List (V×V)->Hp->Prop),Inv X pins σ H s->mC trs σ H Q ->
  wpAny (model X.prog X.w) X.A (evalPairs (pairTrees keys values X.env pos)) (fun vs s'=>∃ps H',Inv X pins σ H' s'/\VV ps vs/\Q ps H') X.xe s
theorem v9{X:Cx}{pos:Pos}:PPs X pos [] [] []:=fun pins s σ H Q I h=>pairTrees_nil_walk ⟨[],H,I,.nil,h⟩
theorem qS{X:Cx}{pos:Pos}{k v:Expr}{ks:List (Option Expr)}{vs:List Expr}{tk tv:TE}{trs:List (TE×TE)}(hk:PE X k tk)(hv:PE X v tv)(hr:PPs X pos ks vs trs) :
  PPs X pos (some k::ks) (v::vs) ((tk,tv)::trs):=fun pins s σ H Q I h =>
 pairTrees_cons_walk (thn (hk pins s σ H _ I h) fun u s1 ⟨x,H1,I1,rx,q1⟩=>thn (hv pins s1 σ H1 _ I1 q1) fun w2 s2 ⟨y,H2,I2,ry,q2⟩ =>
  thn (hr pins s2 σ H2 _ I2 q2) fun ws s3 y_=>by obtain⟨ps,H3,I3,rel,q3⟩:=y_;exact ⟨(x,y)::ps,H3,I3,.cons ⟨rx,ry⟩ rel,q3⟩)
def iS(kvs more:List (Key×V)):List (Key×V):=more.foldl (fun acc kv=>putK acc kv.1 kv.2) kvs
theorem KV.merge:∀{more:List (Key×V)} {rs:List (Key×Value)} {kvs:List (Key×V)} {vs:List (Key×Value)},KV more rs->KV kvs vs->KV (iS kvs more) (merged vs rs):=by
 intro more rs kvs vs r;unfold KV at r
 induction r generalizing kvs vs with
 | nil=>intro q;exact q
 | @cons p q ps qs h t ih =>
  intro r0;have e:KV (putK kvs p.1 p.2) (stored vs q.1 q.2):=by
   have:=r0.put p.1 h.2;rw[←h.1];exact this
  exact ih e
theorem fu:∀(more kvs:List (Key×V)),(iS kvs more).length≤kvs.length+more.length
 | [],kvs=>by show kvs.length≤kvs.length+0;omega
 | p::r,kvs=>by
  have h1:=fu r (putK kvs p.1 p.2);have h2:=eD kvs p.1 p.2;show(iS (putK kvs p.1 p.2) r).length≤_;rw[Fs];omega
theorem i9{P:Program}{w:World}:∀{kvs:List (Key×V)} {ws:List (Value×Value)},VV (kvs.map fun kv=>(kV kv.1,kv.2)) ws->∃rs,Carries (bV P w) ws rs/\KV kvs rs
 | [],_,r=>by rw[List.map_nil]at r;cases r;exact⟨[],True.intro,.nil⟩
 | p::kvs,_,r=>by
  rw[E8]at r;cases r with
  | @cons a b as bs h t =>
   obtain⟨rs,c,q⟩:=i9 (P:=P) (w:=w) t;obtain⟨b1,b2⟩:=b;exact⟨(p.1,b2)::rs,⟨om h.1,rfl,c⟩,.cons ⟨rfl,h.2⟩ q⟩
def BS(trs:List (TE×TE)):TE:=fun σ H Q=>∀p,H p=none->mC trs σ (upd H p (.dK [])) fun ps H2=>H2 p=some (.dK [])/\∃kvs:List (Key×V),ps=kvs.map (fun kv=>(kV kv.1,kv.2))/\kvs.length≤15/\Q (.ref p) (upd H2 p (.dK (iS [] kvs)))
theorem uE{X:Cx}{pos:Pos}{keys:List (Option Expr)}{values:List Expr}{trs:List (TE×TE)}(h:PPs X pos keys values trs)(hall:keys.all (·.isSome)=true)(hl:keys.length=values.length)(h0:keys≠[])
  (h15:keys.length≤15):PE X (.Dict keys values pos) (BS trs):=by
 intro pins s σ H Q I q;have hn:=I.hok.fresh (Fd s.heap.objs.size);have I1:=I.laid (a:=s.heap.objs.size) (o:=.dK []) (h':=s.heap.push { cls:=.type "dict",data:=.dict #[] }) (t':=s.toks) (fun _ _ q=>EZ _ q) (Fd _) (sG s.heap I.big);refine wpAny_Dict_walk (knd:=bV X.prog X.w) hall hl h0 h15 (thn (h pins _ σ _ _ I1 (q _ hn)) fun ws s2 y_=>?_);obtain⟨ps,H2,I2,rel,e,kvs,ep,lk,q2⟩:=y_;subst ep;obtain⟨rs,c,rk⟩:=i9 (P:=X.prog) (w:=X.w) rel;obtain⟨z,hd,vs0,r0,dd⟩:=xi I2.hok e;cases r0;refine⟨rs,c,dd,fun h' dd' hs=>⟨.ref s.heap.objs.size,_,?_,rfl,q2⟩⟩;have hz:(iS [] kvs).length≤sizeLine:=by
  have h1:=fu kvs [];rw[List.length_nil]at h1;rw[FP];omega
 have he:∃q,h'.get? s.heap.objs.size=some q:=let ⟨q,_,_,hq,_⟩:=dd';⟨q,hq⟩
 exact km I2 (by rw[e];exact True.intro) hs he (sD hz hd (rk.merge .nil) dd')
end L2
namespace SI
section
variable {prog:Program}{w:World}{A:Around}{E:Value->Shared->Prop}{s:Shared}{T:String}{r d:Addr}{n:Nat}{P:Nat->Value->Prop}{OK:Heap->Prop}
theorem lp{Q:List Value->Shared->Prop}(K:PySem.W.KdlSrc prog w T r d n P OK)(hh:A.handled=none)(ho:OK s.heap)(hn:n≤sizeLine)
  (h:∀h' tk vs,s.heap.objs.size<h'.objs.size->(∀b o,s.heap.get? b=some o->h'.get? b=some o)->vs.length=n->(∀(j:Nat) (v:Value),vs[j]?=some v->P j v)->Q vs { s with heap:=h',toks:=tk }):wpAny (model prog w) A (collect (.ref r)) Q E s:=by
 obtain⟨hr,hd⟩:=K.there _ ho;generalize hN:s.heap.objs.size=N;have n1:N≠r:=by rw[←hN];exact Gz hr
 have n2:N≠d:=by rw[←hN];exact Gz hd
 have key:∀R:Result->Shared->Prop,(∀h' tk acc c,(∀b o,s.heap.get? b=some o->h'.get? b=some o)->h'.get? N=some { cls:=.type "list",dict:=none,data:=.seq acc c,slots:=#[] } ->
   ItemsOf P acc n->R (.ok (.ret (.ref N))) { s with heap:=h',toks:=tk })->codeAny (model prog w) A (.builtin "proto.collect" ⟨[.ref r],[]⟩) R s:=by
  intro R hR;refine F3 PyProof.Rows.entry_proto_collect' ?_;rw[FQ PySem.F.plain_proto_collect _];show wpAny (model prog w) A.in1 (newList [] >>= fun l=>again (.builtin "list.__iadd__" ⟨[l,.ref r],[]⟩)) _ _ s;refine EX (FF (E1 ⟨GK PySem.F.plain_list_iadd _,F3 PySem.F.entry_list_iadd ?_⟩));rw[FQ PySem.F.plain_list_iadd _,hN];show wpAny (model prog w) A.in1 (Builtin.List.listExtendWith (.ref N) (.ref r) (.ref N)) _ _ _;have hS:(s.heap.push { cls:=.type "list",data:=.seq ([]:List Value).toArray }).get? N=some { cls:=.type "list",data:=.seq #[] 0 }:=by rw[←hN];exact Fc _ rfl
  refine PySem.W.kdl_extend (s:={ s with heap:=s.heap.push { cls:=.type "list",data:=.seq ([]:List Value).toArray } }) K (by simpa using hh) (K.keep _ _ ho fun b _ o e=>EZ _ e) N n1 n2 (.ref N) 0 hS (fun h' tk acc c kp hS' hacc=>?_) hn;exact hR h' tk acc c (fun b o q=>kp b o (by rw[←hN];exact Fl (Fb q)) (EZ _ q)) hS' hacc
 unfold collect;refine EX (wpAny_runValue (key _ fun h' tk acc c kp hS' hacc=>?_));show wpAny (model prog w) A (load N >>= _) _ _ _;refine EX (wpAny_load hS' (E1 ?_));exact h h' tk acc.toList (by rw[hN];exact Fb hS') kp (by rw[Gh];exact hacc.1) fun j v e=>hacc.2 j v (by rw[←FR];exact e)
theorem mM{ks:List Int}{Q:Value->Shared->Prop}(K:PySem.W.KdlSrc prog w T r d n P OK)(hh:A.handled=none)(ho:OK s.heap)(hn:n<64)(hk:∀vs:List Value,vs.length=n->(∀(j:Nat) (v:Value),vs[j]?=some v->P j v)->IntsAre vs ks)
  (h:∀(q:Addr) (h':Heap) (tk m:Nat) (out:List Value) (ms:List Int),s.heap.objs.size≤q->(∀b o,s.heap.get? b=some o->h'.get? b=some o)->h'.get? q=some (seqObj "list" out.toArray m)->IntsAre out ms->ms.Pairwise (·≤·)->ms.Perm ks->Q (.ref q) { s with heap:=h',toks:=tk }) :
  wpAny (model prog w) A (call (.builtin "sorted") [.ref r]) Q E s:=by
 refine Calls.call_function_entry kind_sorted plain_sorted entry_sorted (args_sorted1 _) ?_;unfold Builtin.«sorted»;refine EX (m:=checkCount "sorted" 1 1 _) (E1 (EX (lp K (by simpa using hh) ho (by rw[FP];omega) fun h1 tk1 vs hgt k1 hlen hP=>?_)));have hi:=hk vs hlen hP;refine EX (wpAny_newList ?_ (by rw[hlen,FP];omega));have hoL:(h1.push (seqObj "list" vs.toArray 0)).get? h1.objs.size=some (seqObj "list" vs.toArray 0):=Fc _ rfl;show wpAny (model prog w) _ _ _ _ { s with heap:=h1.push (seqObj "list" vs.toArray 0),toks:=tk1 };refine EX (Gp (FU slot_list_sort ⟨_,hoL,rfl⟩ entry_list_sort (list_sort_tree hoL hi (by omega) fun out ms a1 a2 a3=>⟨_,rfl,?_⟩) (args_list_sort _)));obtain⟨e,he2⟩:=sortedHeap_at (out:=out) hoL;refine E1 ⟨_,rfl,h h1.objs.size (sortedHeap (h1.push (seqObj "list" vs.toArray 0)) h1.objs.size vs out) tk1 e out.toList ms (GZ hgt) (fun b o q=>?_) (by simpa using he2) a1 a3 a2⟩;rw[sortedHeap_old (Fl (Fb (k1 b o q))) (by rw[GA];exact GB (Fb (k1 b o q)))];exact EZ _ (k1 b o q)
end
end SI
namespace L2
variable {X:Cx}
def dkV(ks:List Int):List (Key×V):=ks.map fun n=>(Sum.inl n,V.bl true)
theorem kf{n:Int}:∀{ks:List Int},(fB (dkV ks) (Sum.inl n)).isSome=decide (n∈ks)
 | []=>rfl
 | k::ks=>by
  have ih:=kf (n:=n) (ks:=ks);by_cases h:k=n
  ·subst h;rw[show dkV (k::ks)=(Sum.inl k,V.bl true)::dkV ks from rfl,fK rfl];simp
  ·rw[show dkV (k::ks)=(Sum.inl k,V.bl true)::dkV ks from rfl,fV (by simpa using h),ih];have:n≠k:=fun e=>h e.symm;simp[this]
theorem wa{n:Int}{ks:List Int}(h:n∉ks):putK (dkV ks) (Sum.inl n) (V.bl true)=dkV (ks++[n]):=by
 have hn:fB (dkV ks) (Sum.inl n)=none:=by
  have:=kf (n:=n) (ks:=ks);cases q:fB (dkV ks) (Sum.inl n)with
  | none=>rfl
  | some v=>rw[q]at this;simp[h]at this
 rw[rC _ hn];unfold dkV;rw[Fi];rfl
theorem mZ(hc:X.calm=true):cD X (.builtin "sorted") (fun xs H Q=>∃(a:Addr) (ks:List Int),xs=[.ref a]/\H a=some (.dK (dkV ks))/\ks.length<64/\∀(r:Addr) (ms:List Int),H r=none->ms.Pairwise (·≤·)->ms.Perm ks->Q (.ref r) (upd H r (.lst (ms.map V.int)))):=by
 intro pins s σ H xs us Q I r h;obtain⟨a,ks,rfl,ha,hl,q⟩:=h;obtain⟨u,rfl,ru⟩:=Vals.one r;cases ru;obtain⟨hz,hd,vs,rk,dd⟩:=(show bQ X.prog X.w H s.heap a (.dK (dkV ks))from I.hok a _ ha);obtain⟨ep,da⟩:=dd.dictAt;have hlen:vs.length=ks.length:=by
  have:=Paired.length rk;unfold dkV at this;rw[EW]at this;exact this.symm
 have hkey:∀(j:Nat) (k:Key) (x:Value),vs[j]?=some (k,x)->k=Sum.inl (ks.getD j 0):=by
  have gen:∀(ks:List Int) (vs:List (Key×Value)),KV (dkV ks) vs->∀(j:Nat) (k:Key) (x:Value),vs[j]?=some (k,x)->k=Sum.inl (ks.getD j 0):=by
   intro ks
   induction ks with
   | nil=>intro vs h j k x e;cases h;simp at e
   | cons n ks ih =>
    intro vs h j k x e;cases h with
    | cons h t =>
     cases j with
     | zero=>simp at e;subst e;exact h.1.symm
     | succ j=>simpa using ih _ t j k x (by simpa using e)
  exact gen ks vs rk
 refine SI.mM (ks:=ks) (PySem.W.kdl_dict hd) (I.ok.hd hc) da (by omega) (fun ws hw hP=>?_) fun r h' tk m out ms hge kp ho hi hs hp=>?_
 ·have gen:∀(ks:List Int) (ws:List Value),ws.length=ks.length->(∀(j:Nat) (v:Value),ws[j]?=some v->∃t,v=Value.int (ks.getD j 0) t)->IntsAre ws ks:=by
   intro ks
   induction ks with
   | nil=>intro ws h _;have:ws=[]:=Gm.mp h;subst this;exact .nil
   | cons n ks ih =>
    intro ws h hv;cases ws with
    | nil=>simp at h
    | cons v ws =>
     obtain⟨t,e⟩:=hv 0 v rfl;have e':v=Value.int n t:=by simpa using e
     subst e';exact .cons _ _ (ih ws (by simpa using h) fun j u hu=>by simpa using hv (j+1) u (by simpa using hu))
  refine gen ks ws (by omega) fun j v e=>?_;obtain⟨k,x,e1,e2⟩:=hP j v e;rw[hkey j k x e1]at e2;have e3:Value.isInt (ks.getD j 0) v=true:=e2;cases v with
  | int i t =>
   have:i=ks.getD j 0:=by simpa[Value.isInt]using e3
   exact⟨t,by rw[this]⟩
  | _=>simp[Value.isInt]at e3
 ·have hn:H r=none:=I.hok.fresh hge;have hlm:ms.length=ks.length:=hp.length_eq;refine⟨.ref r,_,I.laid (t':=tk) (o:=.lst (ms.map V.int)) (fun b o e=>kp b o e) hge ?_,rfl,q r ms hn hs hp⟩;exact⟨by rw[EW,FP];omega,out,m,dB hi,ho⟩
end L2
namespace U
open L2
section
variable {B:Bs}{X:Cx}{a b o i value:Expr}{ta tb td ty:TE'}{pos pos':Pos}
def dkP(ks:List Int):PO:=.dK (ks.map fun n=>(Sum.inl n,PV.bl true))
theorem iC{K:PySem.W.Frag}{H:Hp}:∀{ks:List Int} {ws:List (Key×V)},eF K H (ks.map fun n=>((Sum.inl n:Key),PV.bl true)) ws->ws=dkV ks
 | [],_,.nil=>rfl
 | n::ks,(k,v)::ws,.cons h t=>by
  obtain⟨h1,h2⟩:=h;simp only[RP]at h2;dsimp only at h1 h2;subst h1;subst h2;rw[iC t];rfl
theorem jT{K:PySem.W.Frag}{H:Hp}:∀{ks:List Int},eF K H (ks.map fun n=>((Sum.inl n:Key),PV.bl true)) (dkV ks)
 | []=>.nil
 | n::ks=>.cons ⟨rfl,by simp[RP]⟩ jT
def sk(p:Addr)(x:PV)(H:PHp)(Q:VK'):Prop:=match x with
 | .int n=>H p=some (.dK [])/\Q (.ref p) (put H p (dkP [n]))
 | _=>False
def ur(ta:TE'):TE':=fun σ H Q=>∀p,H p=none->ta σ (put H p (.dK [])) fun x H1=>sk p x H1 Q
theorem DA{p:Addr}{n:Int}{H:PHp}{Q:VK'}:sk p (.int n) H Q=(H p=some (.dK [])/\Q (.ref p) (put H p (dkP [n]))):=rfl
theorem t5{j:Nat}{bpos:Pos}(ha:PE' X B a ta):PE' X B (.Dict [some a] [.Constant (.bool true) j bpos] pos) (ur ta) :=
 a8 (uE (qS ha tD v9) rfl rfl (by simp) (by simp)) fun σ H Q y_=>by
  obtain⟨σ',H',Q',s,h,k⟩:=y_;intro p hp;have h1:=h p (s.hp.free hp);have new:OAt X.K (upd H p (.dK [])) p (.dK []):=⟨[],bt,.nil⟩;have s1:=s.new hp new;refine⟨σ',_,_,s1,h1,fun x' H1' x H1 h2 rx s2 e2=>?_⟩;show _/\_;unfold sk at h2;split at h2
  ·rename_i n;obtain⟨e,q⟩:=h2;simp only[RP]at rx;subst rx;obtain⟨ws,e3,fr⟩:=s2.hp _ _ e;cases fr;refine⟨e3,[(Sum.inl n,V.bl true)],rfl,by simp,?_⟩;have new2:OAt X.K (upd H1 p (.dK (dkV [n]))) p (dkP [n]):=⟨_,bt,jT⟩;exact k _ _ _ _ q (by simp[RP]) (s2.wr e new2) ((Ev.new hp).trans (e2.trans (Ev.wr e)))
  ·exact h2.elim
def mm(y x:PV)(H:PHp)(Q:VK'):Prop:=match y,x with
 | .int n,.ref a=>∃ks,H a=some (dkP ks)/\Q (.bl (!decide (n∈ks))) H
 | _,_=>False
def oh(ty td:TE'):TE':=fun σ H Q=>ty σ H fun y H1=>td σ H1 fun x H2=>mm y x H2 Q
theorem El{n:Int}{a:Addr}{H:PHp}{Q:VK'}:mm (.int n) (.ref a) H Q=∃ks,H a=some (dkP ks)/\Q (.bl (!decide (n∈ks))) H:=rfl
theorem pD(hu:X.A.units+64<cLine)(hi:PE' X B i ty)(ho:PE' X B o td)(hm:behindInMarks .NotIn o=false:=by with_unfolding_all rfl):PT' X B (.Compare i [.NotIn] [o] pos) (lK (oh ty td)) :=
 kq (yq (qD (by omega) hi ho) hm) fun σ H Q h=>by
  obtain⟨σ',H',Q',s,h,k⟩:=iI h;refine⟨σ',H',_,s,h,fun y' H1' y H1 h1 ry s1 e1=>⟨σ',H1',_,s1,h1,fun x' H2' x H2 h2 rx s2 e2=>?_⟩⟩;unfold mm at h2;split at h2
  ·rename_i n a;obtain⟨ks,ea,q⟩:=h2;have ry2:=RP.kp X.K (e2.kp s1.hp) ry;simp only[RP]at rx ry2;subst rx;subst ry2;obtain⟨ws,ew,fr⟩:=s2.hp _ _ ea;rw[iC fr]at ew;have:=sU.k (k:=Sum.inl n) ew;refine⟨a,_,rfl,this,?_⟩;rw[kf];exact k _ _ _ _ q (by simp[RP]) s2 (e1.trans e2)
  ·exact h2.elim
def putD(y x:PV)(H:PHp)(Q:PHp->Prop):Prop:=match y,x with
 | .int n,.ref a=>∃ks,H a=some (dkP ks)/\n∉ks/\ks.length<1000/\Q (put H a (dkP (ks++[n])))
 | _,_=>False
def wY(td ty:TE'):TS':=fun D σ H=>td σ H fun x H1=>ty σ H1 fun y H2=>putD y x H2 fun H3=>D.nx σ H3
theorem DH{n:Int}{a:Addr}{H:PHp}{Q:PHp->Prop}:putD (.int n) (.ref a) H Q=∃ks,H a=some (dkP ks)/\n∉ks/\ks.length<1000/\Q (put H a (dkP (ks++[n]))):=rfl
theorem wL{j:Nat}{bpos:Pos}(hu:X.A.units+64<cLine)(ho:PE' X B o td)(hi:PE' X B i ty)(hs:swapsWith (.Constant (.bool true) j bpos) (some (.Subscript o i pos')) pos.line X.env=pure false:=by rfl) :
  PS' X B (.Assign [.Subscript o i pos'] (.Constant (.bool true) j bpos) pos) (wY td ty) :=
 dt (vn (by omega) ho hi tD hs) fun D σ H y_=>by
  obtain⟨σ',H',D',s,h,dd⟩:=y_;show(fun _=>_) _;refine⟨σ',H',_,s,h,fun x' H1' x H1 h1 rx s1 e1=>⟨σ',H1',_,s1,h1,fun y' H2' y H2 h2 ry s2 e2=>?_⟩⟩;unfold putD at h2;split at h2
  ·rename_i n a;obtain⟨ks,ea,hn,hl,q⟩:=h2;have rx2:=RP.kp X.K (e2.kp s1.hp) rx;simp only[RP]at rx2 ry;subst rx2;subst ry;obtain⟨ws,ew,fr⟩:=s2.hp _ _ ea;rw[iC fr]at ew;have hlw:(dkV ks).length<sizeLine:=by unfold dkV;rw[EW];exact a5 (by omega)
   refine⟨a,_,rfl,tM.k (k:=Sum.inl n) ew hlw,?_⟩;rw[wa hn];have new:OAt X.K (upd H2 a (.dK (dkV (ks++[n])))) a (dkP (ks++[n])):=⟨_,bt,jT⟩;exact dd.nx _ _ _ _ q (s2.wr ea new) ((e1.trans e2).trans (Ev.wr ea))
  ·exact h2.elim
def rM:List PV->PHp->VK'->Prop:=c9 fun x H Q=>match x with
 | .ref a=>∃ks:List Int,H a=some (dkP ks)/\ks.length<64/\∀(r:Addr) (ms:List Int),H r=none->ms.Pairwise (·≤·)->ms.Perm ks->Q (.ref r) (put H r (.lst (ms.map PV.int)))
 | _=>False
theorem CJ{a:Addr}{H:PHp}{Q:VK'}:rM [.ref a] H Q=∃ks:List Int,H a=some (dkP ks)/\ks.length<64/\∀(r:Addr) (ms:List Int),H r=none->ms.Pairwise (·≤·)->ms.Perm ks->Q (.ref r) (put H r (.lst (ms.map PV.int))):=rfl
theorem rY{K:PySem.W.Frag}:VC K B rM (fun xs H Q=>∃(a:Addr) (ks:List Int),xs=[.ref a]/\H a=some (.dK (dkV ks))/\ks.length<64/\∀(r:Addr) (ms:List Int),H r=none->ms.Pairwise (·≤·)->ms.Perm ks->Q (.ref r) (upd H r (.lst (ms.map V.int)))):=by
 intro σ' σ H' H xs' xs Q' Q s r h k;obtain⟨x',x,rfl,rfl,rx,h⟩:=c9.ex h r;cases x' with
 | ref a =>
  obtain⟨ks,ea,hl,q⟩:=h;simp only[RP]at rx;subst rx;obtain⟨ws,ew,fr⟩:=s.hp _ _ ea;rw[iC fr]at ew;refine⟨a,ks,rfl,ew,hl,fun r ms hr h1 h2=>?_⟩;exact k _ _ _ _ (q r ms (s.hp.free hr) h1 h2) (by simp[RP]) (s.new hr (lT hr gf)) (Ev.new hr)
 | _=>exact h.elim
end
section
theorem zm:∀x H Q,wb x [] H Q->match x with | .ref a=>∃l,H a=some (.lst l) | _=>False:=by
 intro x H Q h;cases x with
 | ref a=>obtain⟨l,y,e,_⟩:=h;exact⟨l,e⟩
 | _=>exact h
end
end U
namespace L2
variable {X:Cx}
def A6(K:PySem.W.Frag):List V->Hp->VK->Prop:=fun xs H Q=>∃(p:Addr) (bs:List Bool),xs=[.ref p]/\SqL K H p (bs.map V.bl)/\Q (.bl (bs.any id)) H
theorem lJ(hc:X.calm=true):cD X (.builtin "any") (A6 X.K):=by
 intro pins s σ H xs us Q I r h;obtain⟨a,bs,rfl,hq,q⟩:=h;obtain⟨u,rfl,ru⟩:=Vals.one r;cases ru;obtain⟨its,rv,p,hz⟩:=I.list hq;have e:=fy rv;subst e;have hl:s.heap.IsList a (bs.map Value.bool).toArray:=p.isList;have llt:a<s.heap.objs.size:=by obtain⟨o,e,_⟩:=hl;exact Fb e
 have hne:a≠s.heap.objs.size:=Fl llt;refine call_any_walk (wpAny_pyIter_list hl ?_);refine⟨s.heap.objs.size,[s.heap.objs.size,a],[s.heap.objs.size],(bs.map Value.bool).toArray.size,_,_,fun i=>bs.getD i false,rfl,Walks.list (by simpa using I.ok.hd hc) _ a hne _,⟨⟨_,Fc _ rfl,rfl,rfl⟩,hl.at fun o e=>EZ _ e⟩,?_,?_⟩
 ·intro i v s' Q' E' hv hQ;have:v=Value.bool (bs.getD i false):=by
   have hv':(bs.map Value.bool)[i]?=some v:=by simpa using hv
   rw[FN]at hv';cases hb:bs[i]? with
   | none=>rw[hb]at hv';cases hv'
   | some b=>rw[hb]at hv';cases hv';rw[E4,hb];rfl
  subst this;exact Gy hQ
 ·intro h' tk kp;have e:(List.range (bs.map Value.bool).toArray.size).any (fun i=>bs.getD i false)=bs.any id:=by
   have hs:(bs.map Value.bool).toArray.size=bs.length:=by simp
   rw[hs];rw[Gq,GN,GN];constructor
   ·rintro⟨i,hi,h⟩;have hi:=FL.mp hi;rw[E4,EY hi]at h;exact⟨_,Ft hi,h⟩
   ·rintro⟨b,hb,h⟩;obtain⟨i,hi,e⟩:=List.getElem_of_mem hb;refine⟨i,FL.mpr hi,?_⟩;rw[E4,EY hi,e];exact h
  rw[e];refine⟨.bl (bs.any id),H,I.kept (t':=tk) fun b o e=>?_,rfl,q⟩;exact kp b o (by simpa using Fl (Fb e)) (EZ _ e)
theorem wO{ns:List Nat}(hin:∀n∈ns,n<6)(nd:ns.Nodup):(SI.lof ns).length=ns.length:=by
 have h1:=(SI.jf _ (SI.lE hin)).2.2.1;exact((List.perm_ext_iff_of_nodup h1 nd).mpr fun x=>SI.nJ).length_eq
theorem qe:cD X (.builtin "len") (fun xs H Q=>∃(S:Addr) (L:List Nat),xs=[.ref S]/\H S=some (.ext (ke X.w S L))/\Q (.int L.length) H):=by
 intro pins s σ H xs us Q I r h;obtain⟨S,L,rfl,hS,q⟩:=h;obtain⟨u,rfl,ru⟩:=Vals.one r;cases ru;obtain⟨P,_,_⟩:=(show bQ X.prog X.w H s.heap S (.ext (ke X.w S L))from I.hok S _ hS);obtain⟨hL,es,ep,ho,he⟩:=P.is;have h6:=(SI.jf L hL).2.1;have hz:=he.size;have hf:=(SI.mi L hL _ (SI.dH (SI.bJ X.w))).1;rw[←hz]at hf q h6;exact call_len_set ho ⟨rfl,rfl,rfl⟩ rfl hf (by omega) ⟨.int es.size,H,I.tok _,⟨_,rfl⟩,q⟩
end L2
namespace U
open L2
variable {B:Bs}{X:Cx}{a b e:Expr}{ta tb:TE'}{p p2 pos pos2:Pos}
def Bd:R2':=uI qx fun i j=>.int (i*2 ^ j.toNat)
theorem mF(ha:PE' X B a ta)(hb:PE' X B b tb):PE' X B (.BinOp a .LShift b pos) (uOp Bd ta tb):=fv zF (qr fun _ _ _=>by simp[RP]) ha hb
def Cg:List PV->PHp->VK'->Prop:=c9 fun x H Q=>match x with
 | .ref a=>∃bs:List Bool,H a=some (.lst (bs.map PV.bl))/\Q (.bl (bs.any id)) H
 | _=>False
theorem Eg{a:Addr}{H:PHp}{Q:VK'}:Cg [.ref a] H Q=∃bs:List Bool,H a=some (.lst (bs.map PV.bl))/\Q (.bl (bs.any id)) H:=rfl
theorem uf{K:PySem.W.Frag}:VC K B Cg (A6 K):=by
 intro σ' σ H' H xs' xs Q' Q s r h k;obtain⟨x',x,rfl,rfl,rx,h⟩:=c9.ex h r;cases x' with
 | ref a =>
  obtain⟨bs,ea,q⟩:=h;simp only[RP]at rx;subst rx;obtain⟨us,e,r2⟩:=s.hp _ _ ea;rw[gN r2]at e;exact⟨a,bs,rfl,.inl (.inl e),k _ _ _ _ q (by simp[RP]) s (Ev.refl _ _)⟩
 | _=>exact h.elim
def nZ(x:PV)(H:PHp)(Q:VK'):Prop:=match x with
 | .ref a=>∃ns:List Nat,H a=some (.lst (ns.map iL))/\(∀n∈ns,n<6)/\ns.Nodup/\Q (.int ns.length) H
 | _=>False
theorem C8{a:Addr}{H:PHp}{Q:VK'}:nZ (.ref a) H Q=∃ns:List Nat,H a=some (.lst (ns.map iL))/\(∀n∈ns,n<6)/\ns.Nodup/\Q (.int ns.length) H:=rfl
def ky(ta:TE'):TE':=fun σ H Q=>ta σ H fun x H1=>nZ x H1 Q
theorem kz(hc:X.calm=true)(hgl:Gl X "len")(hml:X.mg "len"=none)(hgs:Gl X "set")(hms:X.mg "set"=none)(bs:bootBuiltins "set"=some (.type "set"))(ha:PE' X B e ta)
  (he:starEach [.Call (.Name "set" p2) [e] [] pos2] X.env=[(false,eval (.Call (.Name "set" p2) [e] [] pos2) X.env)]:=by rfl) (he2:starEach [e] X.env=[(false,eval e X.env)]:=by rfl) :
  PE' X B (.Call (.Name "len" p) [.Call (.Name "set" p2) [e] [] pos2] [] pos) (ky ta) :=
 a8 (fI qe hgl hml Fo (cJ (eY (jz hc) hgs hms bs (cJ ha dw he2) (by decide) (by decide) he2 rfl) dw he) (by decide) (by decide) he rfl) fun σ H Q h=>by
  obtain⟨σ',H',Q',s,h,k⟩:=h;refine⟨σ',H',_,s,h,fun x' H1' x H1 h1 rx s1 e1=>?_⟩;cases x' with
  | ref a =>
   obtain⟨ns,ea,hin,nd,q⟩:=h1;simp only[RP]at rx;subst rx;obtain⟨us,eg,r2⟩:=s1.hp _ _ ea;rw[iZ r2]at eg;refine⟨a,ns,rfl,.inl (.inl eg),hin,fun S hS=>⟨S,SI.lof ns,rfl,bt,?_⟩⟩;rw[←wO hin nd]at q;exact k _ _ _ _ q (by simp[RP]) (s1.hid hS) (e1.trans (Ev.hid hS))
  | _=>exact h1.elim
end U
namespace TR
section
variable {prog:Program}{w:World}{A:Around}{E:Value->Shared->Prop}{s:Shared}
theorem jm{Q:List Value->Shared->Prop}{r:Addr}{a b c:Int}{t u v:Tok}{n:Nat}(hh:A.handled=none)(hr:IsRange s.heap r a b c t u v)(hs:Builtin.Range.small a b c=true)(hn:Builtin.Range.rangeSize a b c=n)(hl:n≤2 ^ 24)
  (q:∀(h':Heap) tk acc,(∀b o,s.heap.get? b=some o->h'.get? b=some o)->ItemsOf (fun i v=>∃t,v=.int (a+i*c) t) acc n->Q acc.toList { s with heap:=h',toks:=tk }):wpAny (model prog w) A (collect (.ref r)) Q E s:=by
 unfold collect;refine EX (wpAny_runValue (F3 F.entry_proto_collect ?go))
 case go =>
  rw[FQ F.plain_proto_collect _];show wpAny _ A.in1 (newList [] >>= fun l=>again (.builtin "list.__iadd__" ⟨[l,.ref r],[]⟩)) _ _ s;refine EX (FF (E1 ⟨GK F.plain_list_iadd _,F3 F.entry_list_iadd ?_⟩));rw[FQ F.plain_list_iadd _];show wpAny _ A.in1 (Builtin.List.listExtendWith (.ref s.heap.objs.size) (.ref r) (.ref s.heap.objs.size)) _ _ _;have hS0:(s.heap.push { cls:=.type "list",data:=.seq ([]:List Value).toArray }).get? s.heap.objs.size=some { cls:=.type "list",data:=.seq #[] }:=Fc _ rfl;refine wpAny_extend_range (R:=fun r s'=>match r with | .ok (.ret v)=>wpAny (model prog w) A (match v with | .ref a=>(do match (← load a).data with | .seq xs _=>pure xs.toList | _=>unsupported "internal:collect") | _=>unsupported "internal:collect") Q E s' | .ok _=>False | .error e=>E e s') (s:={ s with heap:=s.heap.push { cls:=.type "list",data:=.seq ([]:List Value).toArray } }) hh (EZ _ hr) hs hn hl _ _ 0 hS0 fun h' tk acc c' hk hS hacc=>?_;show wpAny _ A (load s.heap.objs.size >>= _) _ _ _;exact EX (wpAny_load hS (E1 (q h' tk acc (fun b o e=>hk b o (Fl (Fb e)) (EZ _ e)) hacc)))
end
open AutoSeq1 (wpAny_loadPart')
theorem gF{r:Addr}{a b c:Int}{t u v:Tok}{n:Nat}(hs:Builtin.Range.small a b c=true)(hn:Builtin.Range.rangeSize a b c=n)(hl:n≤2 ^ 24) :
  Meets (Builtin.«tuple.__new__» ⟨[.type "tuple",.ref r],[]⟩)
   (fun A R s=>A.handled=none/\IsRange s.heap r a b c t u v/\∀(h':Heap) tk acc,(∀b o,s.heap.get? b=some o->h'.get? b=some o)->ItemsOf (fun i v=>∃t,v=.int (a+i*c) t) acc n ->
    R (.ok (.ret (.ref h'.objs.size))) { s with heap:=h'.push { cls:=.type "tuple",data:=.seq acc },toks:=tk }) :=
 .of_wp fun prog w A R s h=>by
  obtain⟨hh,hr,h⟩:=h;have hsub:=sub_tuple_self;have hinit:=init_tuple_lookup;have hmh:=madeHere_tuple;have hT:s.TypeIs (.ref r) "range":=⟨_,hr,rfl⟩;have hh1:A.in1.handled=none:=hh
  wp_walk using wpAny_typeOf hT,jm hh1 hr hs hn hl
  intro h' tk acc hk hacc;show wpAny _ _ (Builtin.Tuple.tupleExact acc.toList.toArray >>= fun v=>ret v) _ _ _;unfold Builtin.Tuple.tupleExact;have e:acc.toList.toArray=acc:=by simp
  rw[e];refine EX (FF (E1 ⟨_,rfl,h h' tk acc hk hacc⟩) (show acc.size≤sizeLine by rw[hacc.1,FP];omega))
section
variable {prog:Program}{w:World}{A:Around}{E:Value->Shared->Prop}{s:Shared}
theorem gC{Q:Value->Shared->Prop}{r:Addr}{a b c:Int}{t u v:Tok}{n:Nat}(hh:A.handled=none)(hr:IsRange s.heap r a b c t u v)(hs:Builtin.Range.small a b c=true)(hn:Builtin.Range.rangeSize a b c=n)(hl:n≤2 ^ 24)
  (q:∀(h':Heap) tk acc,(∀b o,s.heap.get? b=some o->h'.get? b=some o)->ItemsOf (fun i v=>∃t,v=.int (a+i*c) t) acc n->Q (.ref h'.objs.size) { s with heap:=h'.push { cls:=.type "tuple",data:=.seq acc },toks:=tk }) :
  wpAny (model prog w) A (call (.type "tuple") [.ref r]) Q E s :=
 callType_new F.called_tuple (by decide) (F.typeCall_tuple_1 _) (F.newCall_tuple_1 _) (fun obj=>F.args_object_init_2 obj _) F.entry_tuple_new
  (gF (r:=r) (t:=t) (u:=u) (v:=v) hs hn hl) ⟨hh,hr,fun h' tk acc hk hacc=>⟨⟨_,Fc _ rfl,rfl⟩,q h' tk acc hk hacc⟩⟩
end
end TR
namespace L2
variable {X:Cx}{a:Expr}{ta:TE}{p p2 pos pos2:Pos}
def gM(n:Nat):List V:=(List.range n).map fun k=>V.int ((k:Nat):Int)
theorem ll{n:Nat}(h:n<1000):Builtin.Range.rangeSize 0 (n:Int) 1=(n:Nat)/\Builtin.Range.small 0 (n:Int) 1=true:=by
 have e:Builtin.Range.rangeSize 0 (n:Int) 1=(n:Nat):=by
  unfold Builtin.Range.rangeSize;rw[Fp (by decide)];split<;>omega
 refine⟨e,?_⟩;unfold Builtin.Range.small;rw[e];have hn:((n:Nat):Int)≤1000:=by omega
 have h0:(0:Int)≤((n:Nat):Int):=by omega
 generalize ((n:Nat):Int)=m at *;simp only[Builtin.Range.rangeFitsLong,Gg,Bool.or_eq_true,FJ,GY];refine⟨⟨⟨⟨by omega,by omega⟩,by decide⟩,by omega⟩,?_⟩;refine .inr ?_;rw[Fp (by decide),Gg,FJ,FJ];exact⟨by omega,by omega⟩
theorem kU{n:Nat}{acc:Array Value}(h:ItemsOf (fun i v=>∃t,v=Value.int (0+i*1) t) acc n):Vals (gM n) acc.toList:=by
 obtain⟨h1,h2⟩:=h;have key:∀(l:List Value) (k:Nat),(∀j v,l[j]?=some v->∃t,v=Value.int ((k+j:Nat):Int) t)->Vals ((List.range l.length).map fun j=>V.int ((k+j:Nat):Int)) l:=by
  intro l
  induction l with
  | nil=>intro k _;exact .nil
  | cons v l ih =>
   intro k hh;rw[Fs,List.range_succ_eq_map,E8,F4];obtain⟨t,e⟩:=hh 0 v rfl;have:=ih (k+1) fun j v hj=>by
    have:=hh (j+1) v (by simpa using hj);rw[show k+1+j=k+(j+1) by omega];exact this
   refine .cons ⟨t,e⟩ ?_;have ee:((fun j=>V.int ((k+j:Nat):Int)) ∘ Nat.succ)=fun j=>V.int ((k+1+j:Nat):Int):=by
    funext j;show V.int ((k+(j+1):Nat):Int)=_;rw[show k+(j+1)=k+1+j by omega]
   rw[ee];exact this
 have:=key acc.toList 0 fun j v hj=>by
  obtain⟨t,e⟩:=h2 j v (by simpa using hj);exact⟨t,by rw[e];congr 1;omega⟩
 rw[Gh,h1]at this;unfold gM;simpa using this
def Bx(ta:TE):TE:=fun σ H Q=>ta σ H fun x H1=>∃n:Nat,[x]=[V.int (n:Nat)]/\n<1000/\∀q,H1 q=none->Q (.ref q) (upd H1 q (.tup (gM n)))
theorem wC(hc:X.calm=true)(hg:Gl X "tuple")(hm:X.mg "tuple"=none)(hg2:Gl X "range")(hm2:X.mg "range"=none)(b1:bootBuiltins "tuple"=some (.type "tuple"))(ha:PE X a ta)
  (he:starEach [.Call (.Name "range" p2) [a] [] pos2] X.env=[(false,eval (.Call (.Name "range" p2) [a] [] pos2) X.env)]:=by rfl) (he2:starEach [a] X.env=[(false,eval a X.env)]:=by rfl) (hpl:(backTo pos (starEach [] X.env)).any (·.1)=false:=by rfl) (hpl2:(backTo pos2 (starEach [] X.env)).any (·.1)=false:=by rfl) :
  PE X (.Call (.Name "tuple" p) [.Call (.Name "range" p2) [a] [] pos2] [] pos) (Bx ta):=by
 intro pins s σ H Q I h;refine Gf (cQ I hg hm b1 ?_ (by decide) (by decide));refine FG ?_ he hpl;rw[he];show wpAny _ _ (spliced ((false,eval (.Call (.Name "range" p2) [a] [] pos2) X.env)::[])) _ _ s;refine Calls.spliced_cons ?_;refine Gf (cQ I hg2 hm2 boot_range ?_ (by decide) (by decide));refine FG ?_ he2 hpl2;refine thn (cJ ha dw he2 pos2 pins s σ H (fun xs H1=>∃n:Nat,xs=[.int (n:Nat)]/\n<1000/\∀q,H1 q=none->Q (.ref q) (upd H1 q (.tup (gM n)))) I h) fun us s1 y_=>?_;obtain⟨vs,H1,I1,r1,q1⟩:=y_;obtain⟨n,rfl,hn,q⟩:=q1;obtain⟨u,rfl,t,rfl⟩:=vals1 r1;obtain⟨e1,e2⟩:=ll hn;refine call_range_1 ?_;refine Calls.spliced_nil ?_;refine TR.gC (I.ok.hd hc) (IsRange.new ..) e2 e1 (by omega) fun h' tk acc kp hacc=>?_;have k2:∀b o,s1.heap.get? b=some o->h'.get? b=some o:=fun b o e=>kp b o (EZ _ e);have I2:Inv X pins σ H1 { s1 with heap:=h',toks:=tk }:=I1.kept (t':=tk) k2;refine⟨.ref _,_,I2.laid (t':=tk) (o:=.tup (gM n)) (fun b o e=>EZ _ e) (Fd _) ?_,rfl,q _ (I2.hok.fresh (Fd _))⟩;refine⟨by unfold gM;rw[EW,Ga,FP];omega,acc.toList,kU hacc,?_⟩;have e:acc.toList.toArray=acc:=by simp
 rw[e];exact IsTup.new _ _
end L2
namespace U
open L2
variable {B:Bs}{X:Cx}{a:Expr}{ta:TE'}{p p2 pos pos2:Pos}
def AX(x:PV)(H:PHp)(Q:VK'):Prop:=match x with
 | .int i=>0≤i/\i<1000/\Q (.tup (b7 0 i.toNat)) H
 | _=>False
theorem CY{i:Int}{H:PHp}{Q:VK'}:AX (.int i) H Q=(0≤i/\i<1000/\Q (.tup (b7 0 i.toNat)) H):=rfl
def xh(ta:TE'):TE':=fun σ H Q=>ta σ H fun x H1=>AX x H1 Q
theorem oI{K:PySem.W.Frag}{H:Hp}{n:Nat}:RPs K H (b7 0 n) (gM n):=by
 have e1:b7 0 n=((List.range n).map fun k=>((k:Nat):Int)).map PV.int:=by
  unfold b7;rw[F4];refine List.map_congr_left fun k _=>?_;show PV.int (0+((k:Nat):Int))=PV.int ((k:Nat):Int);rw[Int.zero_add]
 have e2:gM n=((List.range n).map fun k=>((k:Nat):Int)).map V.int:=by unfold gM;rw[F4];rfl
 rw[e1,e2];exact RPs.ints K _
theorem wg(hc:X.calm=true)(hg:Gl X "tuple")(hm:X.mg "tuple"=none)(hg2:Gl X "range")(hm2:X.mg "range"=none)(b1:bootBuiltins "tuple"=some (.type "tuple"))(ha:PE' X B a ta)
  (he:starEach [.Call (.Name "range" p2) [a] [] pos2] X.env=[(false,eval (.Call (.Name "range" p2) [a] [] pos2) X.env)]:=by rfl) (he2:starEach [a] X.env=[(false,eval a X.env)]:=by rfl) (hpl:(backTo pos (starEach [] X.env)).any (·.1)=false:=by rfl) (hpl2:(backTo pos2 (starEach [] X.env)).any (·.1)=false:=by rfl) :
  PE' X B (.Call (.Name "tuple" p) [.Call (.Name "range" p2) [a] [] pos2] [] pos) (xh ta) :=
 a8 (wC hc hg hm hg2 hm2 b1 ha he he2 hpl hpl2) fun σ H Q h=>by
  obtain⟨σ',H',Q',s,h,k⟩:=h;refine⟨σ',H',_,s,h,fun x' H1' x H1 h1 rx s1 e1=>?_⟩;cases x' with
  | int i =>
   obtain⟨h0,h3,q⟩:=h1;simp only[RP]at rx;refine⟨i.toNat,by rw[rx,Int.toNat_of_nonneg h0],by omega,fun q' hq=>?_⟩;exact k _ _ _ _ q (mx hq oI) (s1.hid hq) (e1.trans (Ev.hid hq))
  | _=>exact h1.elim
end U
namespace L2
variable {X:Cx}{a:Expr}{ta:TE}{p p2 pos pos2:Pos}
def DG(ta:TE):TE:=fun σ H Q=>ta σ H fun x H1=>∃n:Nat,[x]=[V.int (n:Nat)]/\n<1000/\∀q,H1 q=none->Q (.ref q) (upd H1 q (.lst (gM n)))
theorem Af(hc:X.calm=true)(hg:Gl X "list")(hm:X.mg "list"=none)(hg2:Gl X "range")(hm2:X.mg "range"=none)(b1:bootBuiltins "list"=some (.type "list"))(ha:PE X a ta)
  (he:starEach [.Call (.Name "range" p2) [a] [] pos2] X.env=[(false,eval (.Call (.Name "range" p2) [a] [] pos2) X.env)]:=by rfl) (he2:starEach [a] X.env=[(false,eval a X.env)]:=by rfl) (hpl:(backTo pos (starEach [] X.env)).any (·.1)=false:=by rfl) (hpl2:(backTo pos2 (starEach [] X.env)).any (·.1)=false:=by rfl) :
  PE X (.Call (.Name "list" p) [.Call (.Name "range" p2) [a] [] pos2] [] pos) (DG ta):=by
 intro pins s σ H Q I h;refine Gf (cQ I hg hm b1 ?_ (by decide) (by decide));refine FG ?_ he hpl;rw[he];show wpAny _ _ (spliced ((false,eval (.Call (.Name "range" p2) [a] [] pos2) X.env)::[])) _ _ s;refine Calls.spliced_cons ?_;refine Gf (cQ I hg2 hm2 boot_range ?_ (by decide) (by decide));refine FG ?_ he2 hpl2;refine thn (cJ ha dw he2 pos2 pins s σ H (fun xs H1=>∃n:Nat,xs=[.int (n:Nat)]/\n<1000/\∀q,H1 q=none->Q (.ref q) (upd H1 q (.lst (gM n)))) I h) fun us s1 y_=>?_;obtain⟨vs,H1,I1,r1,q1⟩:=y_;obtain⟨n,rfl,hn,q⟩:=q1;obtain⟨u,rfl,t,rfl⟩:=vals1 r1;obtain⟨e1,e2⟩:=ll hn;refine call_range_1 ?_;refine Calls.spliced_nil ?_;refine call_list_range (I.ok.hd hc) (IsRange.new ..) e2 e1 (by omega) fun h' tk acc c' kp hS hacc=>?_;have k2:∀b o,s1.heap.get? b=some o->h'.get? b=some o:=fun b o e=>kp b o (EZ _ e);have hp:s1.heap.objs.size≤(s1.heap.push { cls:=.type "range",data:=.fields #[.int 0 s1.toks,.int (n:Nat) t,.int 1 (s1.toks+1)] }).objs.size:=by rw[GA];exact Nat.le_succ _
 refine⟨.ref _,_,I1.laid (t':=tk) (o:=.lst (gM n)) k2 hp ?_,rfl,q _ (I1.hok.fresh hp)⟩;refine⟨by unfold gM;rw[EW,Ga,FP];omega,acc.toList,c',kU hacc,?_⟩;have e:acc.toList.toArray=acc:=by simp
 rw[e];exact hS
end L2
namespace U
open L2
variable {B:Bs}{X:Cx}{a:Expr}{ta:TE'}{p p2 pos pos2:Pos}
def lsR(x:PV)(H:PHp)(Q:VK'):Prop:=match x with
 | .int i=>0≤i/\i<1000/\∀r,H r=none->Q (.ref r) (put H r (.lst (b7 0 i.toNat)))
 | _=>False
theorem D2{i:Int}{H:PHp}{Q:VK'}:lsR (.int i) H Q=(0≤i/\i<1000/\∀r,H r=none->Q (.ref r) (put H r (.lst (b7 0 i.toNat)))):=rfl
def AE(ta:TE'):TE':=fun σ H Q=>ta σ H fun x H1=>lsR x H1 Q
theorem yE(hc:X.calm=true)(hg:Gl X "list")(hm:X.mg "list"=none)(hg2:Gl X "range")(hm2:X.mg "range"=none)(b1:bootBuiltins "list"=some (.type "list"))(ha:PE' X B a ta)
  (he:starEach [.Call (.Name "range" p2) [a] [] pos2] X.env=[(false,eval (.Call (.Name "range" p2) [a] [] pos2) X.env)]:=by rfl) (he2:starEach [a] X.env=[(false,eval a X.env)]:=by rfl) (hpl:(backTo pos (starEach [] X.env)).any (·.1)=false:=by rfl) (hpl2:(backTo pos2 (starEach [] X.env)).any (·.1)=false:=by rfl) :
  PE' X B (.Call (.Name "list" p) [.Call (.Name "range" p2) [a] [] pos2] [] pos) (AE ta) :=
 a8 (Af hc hg hm hg2 hm2 b1 ha he he2 hpl hpl2) fun σ H Q h=>by
  obtain⟨σ',H',Q',s,h,k⟩:=h;refine⟨σ',H',_,s,h,fun x' H1' x H1 h1 rx s1 e1=>?_⟩;cases x' with
  | int i =>
   obtain⟨h0,h3,q⟩:=h1;simp only[RP]at rx;refine⟨i.toNat,by rw[rx,Int.toNat_of_nonneg h0],by omega,fun r hr=>?_⟩;exact k _ _ _ _ (q r (s1.hp.free hr)) (by simp[RP]) (s1.new hr (lT hr oI)) (e1.trans (Ev.new hr))
  | _=>exact h1.elim
end U
namespace L2
variable {X:Cx}{pos:Pos}
end L2
namespace U
open L2
variable {B:Bs}{X:Cx}{es:List Expr}{pos:Pos}
def Dp(n:Nat)(t:hV):TG':=fun v σ H Q=>match v with
 | .ref a=>∃l,H a=some (.lst l)/\l.length=n/\t l σ H Q
 | _=>False
theorem DW{n:Nat}{t:hV}{a:Addr}{σ:St'}{H:PHp}{Q:St'->PHp->Prop}:Dp n t (.ref a) σ H Q=∃l,H a=some (.lst l)/\l.length=n/\t l σ H Q:=rfl
end U
namespace EN
section
variable {prog:Program}{w:World}{A:Around}{E:Value->Shared->Prop}{s:Shared}
theorem yb{it a:Addr}{j:Nat}{its:Array Value}{x:Value}{Q:Value->Shared->Prop}(hi:s.heap.IsTupleIter it a j)(ht:s.heap.IsTuple a its)(hx:its[j]?=some x)
  (q:∀h1,h1.IsTupleIter it a (j+1)->Heap.SameBut it s.heap h1->Q x { s with heap:=h1 }):wpAny (model prog w) A (Builtin.SmallTypes.nextOf (.ref it)) Q E s:=by
 obtain⟨u,hu,k1,k2⟩:=id hi;obtain⟨v,hv,_,m,k3⟩:=ht;unfold Builtin.SmallTypes.nextOf;refine EX (F9 (name:=Str.ofString "__next__") hi.typeIs F.slot_tuple_iterator_next (FU F.slot_tuple_iterator_next hi.typeIs F.entry_tuple_iterator_next ?_ (F.args_tuple_iterator_next_1 _)));show wpAny _ _ (field (Value.ref it) 0 >>= _) _ _ s;refine EX (Gw hu k2 (x:=.ref a) rfl ?_);show wpAny _ _ (if (Value.ref a==Value.none)=true then _ else _) _ _ s;rw[Fh (show ¬(Value.ref a==Value.none)=true from Gv)];show wpAny _ _ (field (Value.ref it) 1 >>= _) _ _ s;refine EX (Gw hu k2 (x:=.int j 0) rfl ?_);show wpAny _ _ (seqItems? (Value.ref a) >>= _) _ _ s;refine EX (wpAny_seqItems hv k3 ?_);simp only[F2,hx];refine EX (GQ hu k2 (by simp) (E1 ⟨x,rfl,E1 (q _ ?_ (FY ..))⟩));refine⟨_,FX _ hu (Obj.isFreed_of_fields (Obj.data_mapFields k2 _)),(Obj.cls_mapFields ..).trans k1,?_⟩;rw[Obj.data_mapFields k2];simp[rawInt]
theorem B5{it a:Addr}{j:Nat}{its:Array Value}{Q:Value->Shared->Prop}(hA:A.handled=none)(hi:s.heap.IsTupleIter it a j)(ht:s.heap.IsTuple a its)(hx:its[j]?=none)
  (q:∀h1 e,Heap.ExtBut it s.heap h1->(∃o,h1.get? e=some o/\o.cls=.type "StopIteration")->E (.ref e) { s with heap:=h1 }):wpAny (model prog w) A (Builtin.SmallTypes.nextOf (.ref it)) Q E s:=by
 obtain⟨u,hu,k1,k2⟩:=id hi;obtain⟨v,hv,_,m,k3⟩:=ht;unfold Builtin.SmallTypes.nextOf;refine EX (F9 (name:=Str.ofString "__next__") hi.typeIs F.slot_tuple_iterator_next (FU F.slot_tuple_iterator_next hi.typeIs F.entry_tuple_iterator_next ?_ (F.args_tuple_iterator_next_1 _)));show wpAny _ _ (field (Value.ref it) 0 >>= _) _ _ s;refine EX (Gw hu k2 (x:=.ref a) rfl ?_);show wpAny _ _ (if (Value.ref a==Value.none)=true then _ else _) _ _ s;rw[Fh (show ¬(Value.ref a==Value.none)=true from Gv)];show wpAny _ _ (field (Value.ref it) 1 >>= _) _ _ s;refine EX (Gw hu k2 (x:=.int j 0) rfl ?_);show wpAny _ _ (seqItems? (Value.ref a) >>= _) _ _ s;refine EX (wpAny_seqItems hv k3 ?_);simp only[F2,hx];refine EX (wpAny_rule (EX (GQ hu k2 (by simp) ?_)));show wpAny _ _ (newExc (Value.type "StopIteration") [] >>= _) _ _ _;refine EX (?_);simp only[newTuple,newExc];refine EX (FF (?_) (by size_fits));refine EX (m:=firstArgMember _ _) (GL (a:=Value.none) (by first | rfl |(simp only[firstArgMember];rfl)) (?_));refine FF (?_) (by size_fits);simp only[raiseNew,bind_assoc];refine EX (wpAny_handled (?_))
 first | rw[show A.in1.handled=none from hA] | rw[hA]
 refine EX (E1 (wpAny_throw (?_)));exact q _ _ (((FY ..).extBut.push _).push _) ⟨_,Fc _ rfl,rfl⟩
end
theorem nR{prog:Program}{w:World}{A:Around}(hA:A.handled=none)(it a:Addr)(ne:a≠it)(its:Array Value) :
  Draws prog w A it [it,a] its.size (fun i v=>its[i]?=some v) (fun i h=>h.IsTupleIter it a i/\h.IsTuple a its) where
 live:=fun _ _ st=>let ⟨o,ho,_⟩:=st.1;⟨o,ho⟩
 frame:=fun _ _ _ st hk=>⟨st.1.at fun o e=>hk it (by simp) o e,st.2.at fun o e=>hk a (by simp) o e⟩
 item:=fun i s Q E hi st q=>yb st.1 st.2 (x:=its[i]) (by simp[hi]) fun h1 t1 b1=>q _ h1 s.toks (by simp[hi]) ⟨t1,st.2.extBut b1.extBut ne⟩ b1
 done:=fun s Q E st q=>B5 hA st.1 st.2 (by simp) q
theorem uY(a:Addr)(its:Array Value) :
  Meets (Builtin.«enumerate.__new__» ⟨[.type "enumerate",.ref a],[]⟩) (fun _ R s=>s.heap.IsTuple a its /\
   R (.ok (.ret (.ref (s.heap.push { cls:=.type "tuple_iterator",data:=.fields #[.ref a,.int 0 0] }).objs.size)))
    { s with heap:=(s.heap.push { cls:=.type "tuple_iterator",data:=.fields #[.ref a,.int 0 0] }).push { cls:=.type "enumerate",data:=.fields #[.none,.bool false,.ref s.heap.objs.size,rawInt 0,.none,.none] } }) :=
 .of_wp fun prog w A R s h=>by
  obtain⟨hp,g,d,tk,os⟩:=s;obtain⟨ht,h⟩:=h;have hsub:=sub_enumerate;obtain⟨o,ho,hc,n,hd⟩:=id ht
  wp_walk using AutoSeq1.wpAny_loadPart' ho
  refine wpAny_stack_any fun st=>E1 ?_;split
  ·rename_i c _ _ _ _ _;cases (c==Value.type "enumerate") <;>
    (wp_walk using AutoSeq1.wpAny_loadPart' ho,wpAny_pyIter_tuple ht
     exact ⟨_,rfl,h⟩)
  ·wp_walk using AutoSeq1.wpAny_loadPart' ho,wpAny_pyIter_tuple ht
   exact⟨_,rfl,h⟩
theorem y9{prog:Program}{w:World}{A:Around}{E:Value->Shared->Prop}{s:Shared}{a:Addr}{its:Array Value}{Q:Value->Shared->Prop}(ht:s.heap.IsTuple a its)
  (h:∀h1,IsEnum h1 (s.heap.objs.size+1) s.heap.objs.size 0 .none->h1.IsTupleIter s.heap.objs.size a 0->(∀b o,s.heap.get? b=some o->h1.get? b=some o)->Q (.ref (s.heap.objs.size+1)) { s with heap:=h1 }) :
  wpAny (model prog w) A (call (.type "enumerate") [.ref a]) Q E s:=by
 refine callType_new F.called_enumerate (by decide) (F.typeCall_enumerate_1 _) (F.newCall_enumerate_1 _) (fun obj=>F.args_object_init_2 obj _) F.entry_enumerate_new (uY a its) ⟨ht,?_⟩;have hz:(s.heap.push { cls:=.type "tuple_iterator",data:=.fields #[.ref a,.int 0 0] }).objs.size=s.heap.objs.size+1:=GA ..;show _/\_;rw[hz];have he:IsEnum ((s.heap.push { cls:=.type "tuple_iterator",data:=.fields #[.ref a,.int 0 0] }).push { cls:=.type "enumerate",data:=.fields #[.none,.bool false,.ref s.heap.objs.size,rawInt 0,.none,.none] }) (s.heap.objs.size+1) s.heap.objs.size 0 .none:=by
  have q:=Fc (s.heap.push { cls:=.type "tuple_iterator",data:=.fields #[.ref a,.int 0 0] }) (o:={ cls:=.type "enumerate",data:=.fields #[.none,.bool false,.ref s.heap.objs.size,rawInt 0,.none,.none] }) rfl;rw[hz]at q;exact q
 exact⟨⟨_,he,rfl⟩,h _ he ⟨_,EZ _ (Fc _ rfl),rfl,rfl⟩ fun b o x=>EZ _ (EZ _ x)⟩
end EN
namespace RT
theorem jV:Manifest.owners.lookup (String.ofList ['d','e','s','r','e','v','e','r'].reverse)=some Manifest.sig_reversed:=by kernel_rfl
theorem iO:Slot "reversed" "__next__" "reversed.__next__" :=
 .of (owner:="reversed") (n:="__next__") (by rw[GH,Gj];kernel_rfl) (by decide +kernel) (by decide +kernel) (by decide +kernel) (by first | exact .inl (by decide +kernel) | exact .inr (by decide +kernel)) (by rw[GF];kernel_rfl)
theorem oF:entryFor table "reversed.__next__"=some Builtin.«reversed.__next__»:=entryFor_of_tree (by kernel_rfl)
theorem qU(a:Value):argsOk "reversed.__next__" ⟨[a],[]⟩:=by
 unfold argsOk;rw[signature?_of (id:="reversed.__next__") (n:=['_','_','t','x','e','n','_','_']) (o:=['d','e','s','r','e','v','e','r']) (by kernel_rfl) jV]
 kernel_rfl
theorem uc:Slot "reversed" "__iter__" "reversed.__iter__" :=
 .of (owner:="reversed") (n:="__iter__") (by rw[GH,Gj];kernel_rfl) (by decide +kernel) (by decide +kernel) (by decide +kernel) (by first | exact .inl (by decide +kernel) | exact .inr (by decide +kernel)) (by rw[GF];kernel_rfl)
theorem Ah(a:Value):argsOk "reversed.__iter__" ⟨[a],[]⟩:=by
 unfold argsOk;rw[signature?_of (id:="reversed.__iter__") (n:=['_','_','r','e','t','i','_','_']) (o:=['d','e','s','r','e','v','e','r']) (by kernel_rfl) jV]
 kernel_rfl
theorem mL:Slot "reversed" "__length_hint__" "reversed.__length_hint__" :=
 .of (owner:="reversed") (n:="__length_hint__") (by rw[GH,Gj];kernel_rfl) (by decide +kernel) (by decide +kernel) (by decide +kernel) (by first | exact .inl (by decide +kernel) | exact .inr (by decide +kernel)) (by rw[GF];kernel_rfl)
theorem uN:entryFor table "reversed.__length_hint__"=some Builtin.«reversed.__length_hint__»:=entryFor_of_tree (by kernel_rfl)
theorem zJ(a:Value):argsOk "reversed.__length_hint__" ⟨[a],[]⟩:=by
 unfold argsOk;rw[signature?_of (id:="reversed.__length_hint__") (n:=['_','_','t','n','i','h','_','h','t','g','n','e','l','_','_']) (o:=['d','e','s','r','e','v','e','r']) (by kernel_rfl) jV]
 kernel_rfl
theorem zV:typeLookup (.type "reversed") "__len__"=pure none:=by rw[GH,Gj];kernel_rfl
theorem ya:typeLookup (.type "tuple") "__reversed__"=pure none:=by rw[GH,Gj];kernel_rfl
theorem wF:entryFor table "reversed.__iter__"=some Builtin.«dict_keyiterator.__iter__» :=
 entryFor_alias (id':="dict_keyiterator.__iter__") (by kernel_rfl) (by first | rfl | decide +kernel |(unfold String.splitOn;simp +decide [String.splitOnAux])) (by decide +kernel) (by kernel_rfl)
theorem qo:Slot "reversed" "__init__" "object.__init__" :=
 .of (owner:="object") (n:="__init__") (by rw[GH,Gj];kernel_rfl) (by decide +kernel) (by decide +kernel) (by decide +kernel) (by first | exact .inl (by decide +kernel) | exact .inr (by decide +kernel)) (by rw[GF];kernel_rfl)
theorem called:TypeCalled "reversed" "reversed.__new__" "object.__init__" :=
 ⟨by decide +kernel,by decide +kernel,⟨_,_,F.mro_reversed⟩,F.made_reversed,by decide +kernel,by rw[GF];kernel_rfl,qo⟩
def rv(t:Addr)(i:Int):Obj:={ cls:=.type "reversed",data:=.fields #[.ref t,rawInt i] }
theorem uH:isSubtype (.type "tuple") (.type "dict")=pure false:=by rw[GF];kernel_rfl
theorem gF(t:Addr)(its:Array Value):Meets (Builtin.«reversed.__new__» ⟨[.type "reversed",.ref t],[]⟩) (fun A R s=>IsTup s.heap t its/\(its.size:Int)<2 ^ 63/\R (.ok (.ret (.ref s.heap.objs.size))) { s with heap:=s.heap.push (rv t ((its.size:Int) - 1)),toks:=s.toks+1+1 }) :=
 .of_wp fun prog w A R s h=>by
  obtain⟨ht,hz,h⟩:=h;unfold Builtin.«reversed.__new__»;refine EX (GL (newClass_reversed _) ?_)
  try dsimp only
  refine EX (GL (a:=()) (by first | rfl | kernel_rfl) ?_);refine EX (GL (a:=()) (by first | rfl | kernel_rfl) ?_)
  try dsimp only
  refine EX (GV ht.typeIs ya ?_)
  try dsimp only
  refine EX ?_
  wp_delta
  refine EX (wpAny_isInstance (T:="tuple") (b:=false) ht.typeIs uH ?_);rw[Fh (by decide)];refine EX (GV ht.typeIs slot_tuple_getitem.lookup ?_);dsimp only;rw[Fp (by decide +kernel)];refine E1 ?_;rw[Fh (by decide)];refine EX (len_tuple ht hz ?_);refine EX (m:=asInt? _) (E1 ?_);dsimp only;refine EX ?_;unfold Builtin.SmallTypes.newRecord;exact FF (E1 ⟨_,rfl,h⟩)
def dZ(h:Heap)(a t:Addr)(i:Int):Prop:=∃o,h.get? a=some o/\o.cls=.type "reversed"/\o.data=.fields #[.ref t,rawInt i]
theorem dZ.at{h h':Heap}{a t:Addr}{i:Int}(x:dZ h a t i)(e:∀o,h.get? a=some o->h'.get? a=some o):dZ h' a t i:=let ⟨o,ho,r⟩:=x;⟨o,e _ ho,r⟩
section
variable {prog:Program}{w:World}{A:Around}{E:Value->Shared->Prop}{s:Shared}{it t:Addr}{its:Array Value}
theorem dZ.ty{i:Int}(x:dZ s.heap it t i):s.TypeIs (.ref it) "reversed":=let ⟨o,ho,hc,_⟩:=x;⟨o,ho,hc⟩
theorem sJ{Q:Value->Shared->Prop}(ht:IsTup s.heap t its)(hz:(its.size:Int)<2 ^ 63)(h:Q (.ref s.heap.objs.size) { s with heap:=s.heap.push (rv t ((its.size:Int) - 1)),toks:=s.toks+1+1 }) :
  wpAny (model prog w) A (call (.type "reversed") [.ref t]) Q E s :=
 callType_new called (by decide) (F.typeCall_reversed_1 _) (F.newCall_reversed_1 _) (fun obj=>F.args_object_init_2 obj _) F.entry_reversed_new (gF t its) ⟨ht,hz,⟨⟨_,Fc _ rfl,rfl⟩,h⟩⟩
theorem zy{i n:Nat}(h:i<n):seqIndex? ((i:Nat):Int) n=some i:=by
 unfold seqIndex?;simp only[show ¬(((i:Nat):Int)<0) by omega,if_false];rw[Fp (by simp;omega),F2]
theorem next_item{i:Nat}{x:Value}{Q:Option Value->Shared->Prop}(hit:dZ s.heap it t ((i:Nat):Int))(ht:IsTup s.heap t its)(hx:its[i]?=some x)(hz:its.size<2 ^ 62)
  (hQ:∀h' tk,dZ h' it t (((i:Nat):Int) - 1)->Heap.SameBut it s.heap h'->Q (some x) { s with heap:=h',toks:=tk }):wpAny (model prog w) A (pyNext (.ref it)) Q E s:=by
 obtain⟨o,ho,hc,hd⟩:=id hit;have hi:i<its.size:=by
  rcases Nat.lt_or_ge i its.size with q | q
  ·exact q
  ·rw[GD q]at hx;cases hx
 unfold pyNext;refine EX (wpAny_attempt (F9 (name:=Str.ofString "__next__") hit.ty iO (FU iO hit.ty oF ?_ (qU _))));unfold Builtin.«reversed.__next__»;refine EX (GL (a:=(Value.ref it,[])) rfl ?_);dsimp only;refine EX (Gw ho hd (x:=.ref t) rfl ?_);refine EX (Gw ho hd (x:=rawInt ((i:Nat):Int)) rfl ?_);show wpAny _ _ (if ((i:Nat):Int)<0 then _ else _) _ _ s;rw[Fh (by omega)];refine EX (GV ht.typeIs slot_tuple_getitem.lookup ?_);rw[Fh (by decide)];refine EX (wpAny_mkInt ?_);refine EX (wpAny_attempt (getItem_tuple (j:=i) (x:=x) (s:={ s with toks:=s.toks+1 }) ht (by omega) (by omega) (zy hi) hx ?_));dsimp only;refine EX (Gw ho hd (x:=rawInt ((i:Nat):Int)) rfl ?_);refine EX (GQ (s:={ s with toks:=s.toks+1 }) ho hd (by simp) ?_);refine E1 ⟨x,rfl,E1 (hQ _ _ ?_ (FY ..))⟩;refine⟨_,FX _ ho (Obj.isFreed_of_fields (Obj.data_mapFields hd _)),(Obj.cls_mapFields ..).trans hc,?_⟩;rw[Obj.data_mapFields hd];simp
theorem next_end{Q:Option Value->Shared->Prop}(hA:A.handled=none)(hit:dZ s.heap it t (-1))(hQ:∀h',Heap.ExtBut it s.heap h'->Q none { s with heap:=h' }):wpAny (model prog w) A (pyNext (.ref it)) Q E s:=by
 obtain⟨o,ho,hc,hd⟩:=id hit;unfold pyNext;refine EX (wpAny_attempt (F9 (name:=Str.ofString "__next__") hit.ty iO (FU iO hit.ty oF ?_ (qU _))));unfold Builtin.«reversed.__next__»;refine EX (GL (a:=(Value.ref it,[])) rfl ?_);dsimp only;refine EX (Gw ho hd (x:=.ref t) rfl ?_);refine EX (Gw ho hd (x:=rawInt (-1)) rfl ?_);show wpAny _ _ (if (-1:Int)<0 then _ else _) _ _ s;rw[Fp (by decide)];refine EX (wpAny_rule ?_);refine EX ?_
 wp_delta
 refine EX (GQ ho hd (by simp) ?_);have d2:=Obj.data_mapFields hd fun vs=>vs.set! 1 (rawInt (-1));have o2:=FX _ ho (Obj.isFreed_of_fields d2);refine GQ (s:={ s with heap:=s.heap.update it _ }) o2 d2 (by simp) ?_;show wpAny _ _ (Builtin.SmallTypes.stopIteration >>= _) _ _ _;refine EX ?_;show wpAny _ _ (newExc (Value.type "StopIteration") [] >>= _) _ _ _;refine EX (?_);simp only[newTuple,newExc];refine EX (FF (?_) (by size_fits));refine EX (m:=firstArgMember _ _) (GL (a:=Value.none) (by first | rfl |(simp only[firstArgMember];rfl)) (?_));refine FF (?_) (by size_fits);simp only[raiseNew,bind_assoc];refine EX (wpAny_handled (?_))
 first | rw[show A.in1.handled=none from hA] | rw[hA]
 refine EX (E1 (wpAny_throw (?_)));refine EX (wpAny_isInstance (T:="StopIteration") (b:=true) ⟨_,Fc _ rfl,rfl⟩ isSubtype_stop ?_);exact E1 (hQ _ ((((FY ..).trans (FY ..)).extBut.push _).push _))
theorem jC{i:Int}{Q:Value->Shared->Prop}(hit:dZ s.heap it t i)(h:Q (.ref it) s):wpAny (model prog w) A (pyIter (.ref it)) Q E s:=by
 refine wpAny_pyIter_slot hit.ty uc (FU uc hit.ty wF ?_ (Ah _));show wpAny _ _ (ret (Value.ref it)) _ _ s;exact E1 ⟨_,rfl,"reversed",_,hit.ty,iO.lookup,h⟩
theorem qy{Q:Value->Shared->Prop}(hit:dZ s.heap it t ((its.size:Int) - 1))(ht:IsTup s.heap t its)(hz:its.size<2 ^ 62)(h:∀u tk,s.toks≤tk->Q (.int (its.size:Int) u) { s with toks:=tk }):wpAny (model prog w) A (call (.builtin "reversed.__length_hint__") [.ref it]) Q E s:=by
 obtain⟨o,ho,hc,hd⟩:=id hit;refine FU mL hit.ty uN ?_ (zJ _);unfold Builtin.«reversed.__length_hint__»;refine EX (GL (a:=Value.ref it) rfl ?_);refine EX (Gw ho hd (x:=.ref t) rfl ?_);show wpAny _ _ (if (Value.ref t==Value.none)=true then _ else _) _ _ s;rw[Fh (show ¬(Value.ref t==Value.none)=true from Gv)];refine EX (len_tuple ht (by omega) ?_);refine EX (m:=asInt? _) (E1 ?_);dsimp only;refine EX (Gw (s:={ s with toks:=s.toks+1+1 }) ho hd (x:=rawInt ((its.size:Int) - 1)) rfl ?_);show wpAny _ _ (if ((its.size:Nat):Int)<((its.size:Int) - 1)+1 then _ else _) _ _ _;rw[Fh (by omega),show((its.size:Int) - 1)+1=(its.size:Int) by omega];exact EX (wpAny_mkInt (E1 ⟨_,rfl,h _ _ (by show s.toks≤s.toks+1+1+1;omega)⟩))
end
theorem walks{prog:Program}{w:World}{A:Around}(hA:A.handled=none)(it t:Addr)(ne:t≠it)(its:Array Value)(hz:its.size<2 ^ 62) :
  Walks prog w A it [it,t] [it] its.size (fun i v=>its[its.size - 1 - i]?=some v) (fun i h=>i≤its.size/\dZ h it t ((its.size:Int) - 1 - (i:Int))/\h.IsTuple t its) where
 sub:=fun b hb=>by simp at hb;simp[hb]
 frame:=fun _ _ _ x hk=>⟨x.1,x.2.1.at fun o e=>hk it (by simp) o e,x.2.2.at fun o e=>hk t (by simp) o e⟩
 item:=fun i s Q E hi x hQ=>by
  have e:(its.size:Int) - 1 - (i:Int)=((its.size - 1 - i:Nat):Int):=by omega
  have hit:=x.2.1;rw[e]at hit;have hx:its[its.size - 1 - i]?=some (its[its.size - 1 - i]'(by omega)):=Fm (by omega);refine next_item hit x.2.2 hx hz fun h1 tk hit1 sb=>?_;have e2:((its.size - 1 - i:Nat):Int) - 1=(its.size:Int) - 1 - ((i+1:Nat):Int):=by omega
  rw[e2]at hit1;exact hQ _ h1 tk hx ⟨hi,hit1,x.2.2.at fun o q=>(sb.2 t ne).trans q⟩ fun b o hb q=>sb.extBut b o (fun z=>hb (by simp[z])) q
 done:=fun s Q E x hQ=>by
  have hit:=x.2.1;rw[show(its.size:Int) - 1 - (its.size:Int)=-1 by omega]at hit;exact next_end hA hit fun h1 eb=>hQ h1 s.toks fun b o hb q=>eb b o (fun z=>hb (by simp[z])) q
 self:=fun _ _ _ _ x hQ=>jC x.2.1 hQ
section
variable {prog:Program}{w:World}{A:Around}{E:Value->Shared->Prop}{s:Shared}{it t:Addr}{its:Array Value}
theorem as_int(n:Int)(u:Tok):asInt? (.int n u)=pure (some n):=rfl
theorem yI{Q:Bool->Shared->Prop}(hit:dZ s.heap it t ((its.size:Int) - 1))(ht:IsTup s.heap t its)(hz:its.size<2 ^ 20)(h:∀tk,s.toks≤tk->Q ((its.size:Int) !=0) { s with toks:=tk }):wpAny (model prog w) A (Builtin.List.listLengthHint (.ref it)) Q E s:=by
 unfold Builtin.List.listLengthHint;refine EX (GV hit.ty zV ?_);dsimp only;refine F8 (fun hab=>absurd hab (by decide +kernel)) (fun _=>?_);refine F8 (fun hab=>absurd hab (by decide +kernel)) (fun _=>?_);refine EX (GV hit.ty mL.lookup ?_);generalize hid:("reversed.__length_hint__":String)=id0
 wp_delta
 rw[show splitId id0=some ("reversed","__length_hint__")from by subst hid;decide +kernel];subst hid;refine EX (wpAny_isInstance (T:="reversed") (b:=true) hit.ty F.sub_reversed_self ?_);refine F8 (fun hab=>absurd hab (by decide)) (fun _=>?_);refine F8 (fun hab=>absurd hab (by decide +kernel)) (fun _=>?_);refine EX (wpAny_rule ?_);refine EX (GL (mL.bind _) ?_);dsimp only;refine EX (wpAny_attempt (qy hit ht (by omega) fun u tk htk=>?_));have f1:Builtin.List.listFitsIndex ((its.size:Nat):Int)=true:=by
  have a:-(2 ^ 63:Int)≤((its.size:Nat):Int):=Int.le_trans (by decide) (Int.natCast_nonneg _);have b:((its.size:Nat):Int)<2 ^ 63:=Int.lt_trans (Int.ofNat_lt.mpr hz) (by decide);unfold Builtin.List.listFitsIndex;rw[FO a,FO b];rfl
 have f2:Builtin.List.listTooLong ((its.size:Nat):Int).toNat=false:=by
  have hs:its.size≤sizeLine:=by rw[FP];omega
  unfold Builtin.List.listTooLong;rw[F2];exact F7 (Nat.not_lt.mpr hs)
 have f3:¬((its.size:Nat):Int)<0:=Int.not_lt.mpr (Int.natCast_nonneg _);have hq:=h tk htk;clear h;generalize ((its.size:Nat):Int)=n at *;show wpAny _ A (asInt? (.int n u) >>= _) _ _ _;rw[as_int,pure_bind];dsimp only;rw[Fh (by rw[f1];decide),Fh f3,Fh (by rw[f2];decide)];exact E1 hq
theorem lF{Q:List Value->Shared->Prop}(hA:A.handled=none)(hit:dZ s.heap it t ((its.size:Int) - 1))(ht:s.heap.IsTuple t its)(ne:t≠it)(hz:its.size<2 ^ 20)
  (hQ:∀(h1:Heap) tk acc,(∀b o,b≠it->s.heap.get? b=some o->h1.get? b=some o)->ItemsOf (fun i v=>its[its.size - 1 - i]?=some v) acc its.size->Q acc.toList { s with heap:=h1,toks:=tk }):wpAny (model prog w) A (collect (.ref it)) Q E s:=by
 have W:=walks (prog:=prog) (w:=w) (A:=A.in1) hA it t ne its (by omega);obtain⟨o,ho,_⟩:=id hit;obtain⟨ot,hot,_⟩:=id ht;have l1:it<s.heap.objs.size:=Fb ho;have l2:t<s.heap.objs.size:=Fb hot;have hSf:s.heap.objs.size∉[it,t]:=by simp only[Fn,List.not_mem_nil,or_false,not_or];exact⟨Gz l1,Gz l2⟩
 have hSI:s.heap.objs.size≠it:=Gz l1;unfold collect;refine EX (wpAny_runValue (F3 F.entry_proto_collect ?_));rw[FQ F.plain_proto_collect _];show wpAny _ A.in1 (newList [] >>= fun l=>again (.builtin "list.__iadd__" ⟨[l,Value.ref it],[]⟩)) _ _ s;refine EX (FF (E1 ⟨GK F.plain_list_iadd _,F3 F.entry_list_iadd ?_⟩));rw[FQ F.plain_list_iadd _];have S1:(s.heap.push { cls:=.type "list",data:=.seq ([]:List Value).toArray }).get? s.heap.objs.size=some { cls:=.type "list",data:=.seq ([]:List Value).toArray }:=Fc _ rfl;have it1:dZ (s.heap.push { cls:=.type "list",data:=.seq ([]:List Value).toArray }) it t ((its.size:Int) - 1):=hit.at fun o e=>EZ _ e;have t1:(s.heap.push { cls:=.type "list",data:=.seq ([]:List Value).toArray }).IsTuple t its:=ht.at fun o e=>EZ _ e;have k1:∀b o,s.heap.get? b=some o->(s.heap.push { cls:=.type "list",data:=.seq ([]:List Value).toArray }).get? b=some o:=fun b o e=>EZ _ e;generalize s.heap.push { cls:=.type "list",data:=.seq ([]:List Value).toArray }=g at *;show wpAny _ A.in1 (Builtin.List.listExtendWith (Value.ref s.heap.objs.size) (.ref it) (.ref s.heap.objs.size)) _ _ _;have h1:Builtin.List.listSameRef (.ref s.heap.objs.size) (.ref it)=false:=by simp[Builtin.List.listSameRef,hSI]
 have key:∀(h:Heap) (c₁ tk:Nat),(∀b o,b≠s.heap.objs.size->g.get? b=some o->h.get? b=some o)->h.get? s.heap.objs.size=some { cls:=.type "list",data:=.seq #[] c₁ } ->
   codeAny (model prog w) A (.builtin "list.extend.loop" ⟨[.ref s.heap.objs.size,.ref it,.ref s.heap.objs.size],[]⟩) (fun r s'=>match r with | .ok (.ret v)=>wpAny (model prog w) A (match v with | .ref a=>(do match (← load a).data with | .seq xs _=>pure xs.toList | _=>unsupported "internal:collect") | _=>unsupported "internal:collect") Q E s' | .ok _=>False | .error e=>E e s') { s with heap:=h,toks:=tk }:=by
  intro h c₁ tk hk hS₁;have st:(0:Nat)≤its.size/\dZ h it t ((its.size:Int) - 1 - ((0:Nat):Int))/\h.IsTuple t its:=⟨Gb _,by simpa using it1.at fun o e=>hk it o hSI.symm e,t1.at fun o e=>hk t o (Fl l2) e⟩;refine codeAny_extend_loopS W.toS (by rw[FP];omega) _ hSf _ its.size 0 { s with heap:=h,toks:=tk } #[] c₁ rfl (Gb _) st hS₁ (ItemsOf.nil _) fun s' acc' c' hm hS' hacc=>?_;rw[Moved.eq_with hm]at hS' ⊢;show wpAny _ A (load s.heap.objs.size >>= _) _ _ _;refine EX (wpAny_load hS' (E1 (hQ s'.heap s'.toks acc' (fun b o hb e=>hm.heap b o (fun hmem=>?_) (hk b o (Fl (Fb e)) (k1 b o e))) hacc)));rcases Fn.mp hmem with q | q
  ·exact Fl (Fb e) q
  ·exact hb (E5.mp q)
 unfold Builtin.List.listExtendWith;have it2:dZ ({ s with heap:=g }:Shared).heap it t ((its.size:Int) - 1):=it1;refine EX (wpAny_typeOf (T:="reversed") it2.ty ?_);simp only[h1,show(Value.type "reversed"==Value.type "list")=false by decide,show(Value.type "reversed"==Value.type "tuple")=false by decide,Bool.or_false,GP,if_false];refine EX (jC it2 ?_);refine EX (Gp (yI it2 t1 hz fun tk htk=>?_));refine F8 (fun _=>?_) (fun _=>E1 ⟨GK PySem.F.plain_extend_loop _,key g 0 tk (fun b o _ e=>e) S1⟩);refine EX (wpAny_rule ?_);refine EX ?_;show wpAny _ A.in1 (updateSeq s.heap.objs.size (·.push .none) >>= fun _=>updateSeq s.heap.objs.size (·.pop)) _ _ _;refine EX (wpAny_updateSeq S1 rfl ?_);have S2:=FX (Obj.mapSeq (·.push Value.none)) S1 rfl;refine wpAny_updateSeq S2 rfl ?_;have S3:=FX (Obj.mapSeq (·.pop)) S2 rfl;refine E1 ⟨GK PySem.F.plain_extend_loop _,key _ _ tk (fun b o hb e=>(Heap.get?_update_other _ _ (Ne.symm hb)).trans ((Heap.get?_update_other _ _ (Ne.symm hb)).trans e)) S3⟩
end
end RT
namespace RT
theorem rg{r t:Addr}{its:Array Value}(ne:t≠r)(hz:its.size<2 ^ 20) :
  Meets (Builtin.«tuple.__new__» ⟨[.type "tuple",.ref r],[]⟩)
   (fun A R s=>A.handled=none/\dZ s.heap r t ((its.size:Int) - 1)/\s.heap.IsTuple t its/\∀(h1:Heap) tk acc,(∀b o,b≠r->s.heap.get? b=some o->h1.get? b=some o)->ItemsOf (fun i v=>its[its.size - 1 - i]?=some v) acc its.size ->
    R (.ok (.ret (.ref h1.objs.size))) { s with heap:=h1.push { cls:=.type "tuple",data:=.seq acc },toks:=tk }) :=
 .of_wp fun prog w A R s h=>by
  obtain⟨hA,hr,ht,h⟩:=h;have hsub:=sub_tuple_self;have hinit:=init_tuple_lookup;have hmh:=madeHere_tuple;have hT:s.TypeIs (.ref r) "reversed":=hr.ty;have hA1:A.in1.handled=none:=hA
  wp_walk using wpAny_typeOf hT,lF hA1 hr ht ne hz
  intro h1 tk acc hk hacc;show wpAny _ _ (Builtin.Tuple.tupleExact acc.toList.toArray >>= fun v=>ret v) _ _ _;unfold Builtin.Tuple.tupleExact;rw[show acc.toList.toArray=acc by simp];refine EX (FF (E1 ⟨_,rfl,h h1 tk acc hk hacc⟩) (show acc.size≤sizeLine by rw[hacc.1,FP];omega))
theorem iX{prog:Program}{w:World}{A:Around}{E:Value->Shared->Prop}{s:Shared}{Q:Value->Shared->Prop}{r t:Addr}{its:Array Value}(ne:t≠r)(hz:its.size<2 ^ 20)(hA:A.handled=none)(hr:dZ s.heap r t ((its.size:Int) - 1))(ht:s.heap.IsTuple t its)
  (q:∀(h1:Heap) tk acc,(∀b o,b≠r->s.heap.get? b=some o->h1.get? b=some o)->ItemsOf (fun i v=>its[its.size - 1 - i]?=some v) acc its.size->Q (.ref h1.objs.size) { s with heap:=h1.push { cls:=.type "tuple",data:=.seq acc },toks:=tk }) :
  wpAny (model prog w) A (call (.type "tuple") [.ref r]) Q E s :=
 callType_new F.called_tuple (by decide) (F.typeCall_tuple_1 _) (F.newCall_tuple_1 _) (fun obj=>F.args_object_init_2 obj _) F.entry_tuple_new
  (rg (t:=t) (its:=its) ne hz) ⟨hA,hr,ht,fun h1 tk acc hk hacc=>⟨⟨_,Fc _ rfl,rfl⟩,q h1 tk acc hk hacc⟩⟩
end RT
namespace L2
variable {X:Cx}{a:Expr}{ta:TE}{p p2 pos pos2:Pos}
theorem z8{α β:Type}{R:α->β->Prop}{l l2:List α}{m m2:List β}(h:Paired R l m)(h2:Paired R l2 m2):Paired R (l++l2) (m++m2):=by
 induction h with
 | nil=>exact h2
 | cons a _ ih=>exact .cons a ih
theorem sR{us:List V}{its:List Value}(h:Vals us its):Vals us.reverse its.reverse:=by
 induction h with
 | nil=>exact .nil
 | cons h t ih =>
  rw[List.reverse_cons,List.reverse_cons];exact z8 ih (.cons h .nil)
theorem qu{its:List Value}{acc:Array Value}(h:ItemsOf (fun i v=>its.toArray[its.toArray.size - 1 - i]?=some v) acc its.toArray.size):acc.toList=its.reverse:=by
 have h2:=h.2;have h1:acc.size=its.length:=by have:=h.1;simpa using this
 apply List.ext_getElem?;intro j;rw[FR];by_cases hj:j<acc.size
 ·have e:=h2 j _ (Fm hj);rw[Fm hj,List.getElem?_reverse (by omega),← e,Fe];simp
 ·rw[GD (by omega),Gu (by rw[List.length_reverse];omega)]
def ED(K:PySem.W.Frag)(ta:TE):TE:=fun σ H Q=>ta σ H fun x H1=>∃b us,[x]=[V.ref b]/\SqT K H1 b us/\us.length≤1000/\∀r,H1 r=none->Q (.ref r) (upd H1 r (.tup us.reverse))
theorem z0(hc:X.calm=true)(hg:Gl X "tuple")(hm:X.mg "tuple"=none)(hg2:Gl X "reversed")(hm2:X.mg "reversed"=none)(b1:bootBuiltins "tuple"=some (.type "tuple"))(b2:bootBuiltins "reversed"=some (.type "reversed"))(ha:PE X a ta)
  (he:starEach [.Call (.Name "reversed" p2) [a] [] pos2] X.env=[(false,eval (.Call (.Name "reversed" p2) [a] [] pos2) X.env)]:=by rfl) (he2:starEach [a] X.env=[(false,eval a X.env)]:=by rfl) (hpl:(backTo pos (starEach [] X.env)).any (·.1)=false:=by rfl) (hpl2:(backTo pos2 (starEach [] X.env)).any (·.1)=false:=by rfl) :
  PE X (.Call (.Name "tuple" p) [.Call (.Name "reversed" p2) [a] [] pos2] [] pos) (ED X.K ta):=by
 intro pins s σ H Q I h;refine Gf (cQ I hg hm b1 ?_ (by decide) (by decide));refine FG ?_ he hpl;rw[he];show wpAny _ _ (spliced ((false,eval (.Call (.Name "reversed" p2) [a] [] pos2) X.env)::[])) _ _ s;refine Calls.spliced_cons ?_;refine Gf (cQ I hg2 hm2 b2 ?_ (by decide) (by decide));refine FG ?_ he2 hpl2;refine thn (cJ ha dw he2 pos2 pins s σ H (fun xs H1=>∃b us,xs=[.ref b]/\SqT X.K H1 b us/\us.length≤1000/\∀r,H1 r=none->Q (.ref r) (upd H1 r (.tup us.reverse))) I ?_) fun us s1 ⟨vs,H1,I1,r1,q1⟩=>?_
 ·exact h
 obtain⟨b,ws,rfl,hq,hl,q⟩:=q1;obtain⟨u,rfl,ru⟩:=vals1 r1;cases ru;obtain⟨its,rv,pl,hz⟩:=I1.tuple hq;have ht:s1.heap.IsTuple b its.toArray:=pl;have hb:b<s1.heap.objs.size:=by obtain⟨o,e,_⟩:=ht;exact Fb e
 have hlen:=rv.length;have hs:its.toArray.size=ws.length:=by simp;omega
 refine RT.sJ pl (by rw[hs];omega) ?_;refine Calls.spliced_nil ?_;have lt:s1.heap.objs.size<(s1.heap.push (RT.rv b ((its.toArray.size:Int) - 1))).objs.size:=by rw[GA];exact Nat.lt_succ_self _
 refine RT.iX (s:={ s1 with heap:=s1.heap.push (RT.rv b ((its.toArray.size:Int) - 1)),toks:=s1.toks+1+1 }) (r:=s1.heap.objs.size) (t:=b) (its:=its.toArray) (Fl hb) (by rw[hs];omega) (I.ok.hd hc) ⟨_,Fc _ rfl,rfl,rfl⟩ (ht.at fun o e=>EZ _ e) fun h1 tk acc kp hacc=>?_;have k2:∀b o,s1.heap.get? b=some o->h1.get? b=some o:=fun b o e=>kp b o (Fl (Fb e)) (EZ _ e);have I2:Inv X pins σ H1 { s1 with heap:=h1,toks:=tk }:=I1.kept (t':=tk) k2;refine⟨.ref _,_,I2.laid (t':=tk) (o:=.tup ws.reverse) (fun b o e=>EZ _ e) (Fd _) ?_,rfl,q _ (I2.hok.fresh (Fd _))⟩;refine⟨by rw[List.length_reverse];exact hz,its.reverse,sR rv,?_⟩;have e:its.reverse.toArray=acc:=by rw[←qu hacc]
 rw[e];exact IsTup.new _ _
end L2
namespace U
open L2
variable {B:Bs}{X:Cx}{a:Expr}{ta:TE'}{p p2 pos pos2:Pos}
def rvT(x:PV)(H:PHp)(Q:VK'):Prop:=match x with
 | .tup l=>l.length≤1000/\Q (.tup l.reverse) H
 | _=>False
theorem D9{l:List PV}{H:PHp}{Q:VK'}:rvT (.tup l) H Q=(l.length≤1000/\Q (.tup l.reverse) H):=rfl
def Br(ta:TE'):TE':=fun σ H Q=>ta σ H fun x H1=>rvT x H1 Q
theorem oy{K:PySem.W.Frag}{H:Hp}:∀{l:List PV} {us:List V},RPs K H l us->RPs K H l.reverse us.reverse
 | [],_,h=>by simp only[RPs]at h;subst h;simp[RPs]
 | x::l,_,h=>by
  simp only[RPs]at h;obtain⟨u,r,rfl,a,b⟩:=h;rw[List.reverse_cons,List.reverse_cons];exact RPs.append K (oy b) (RPs.cons K a (RPs.nil K))
theorem rO:bootBuiltins "reversed"=some (.type "reversed"):=by decide +kernel
theorem ze(hc:X.calm=true)(hg:Gl X "tuple")(hm:X.mg "tuple"=none)(hg2:Gl X "reversed")(hm2:X.mg "reversed"=none)(b1:bootBuiltins "tuple"=some (.type "tuple"))(ha:PE' X B a ta)
  (he:starEach [.Call (.Name "reversed" p2) [a] [] pos2] X.env=[(false,eval (.Call (.Name "reversed" p2) [a] [] pos2) X.env)]:=by rfl) (he2:starEach [a] X.env=[(false,eval a X.env)]:=by rfl) (hpl:(backTo pos (starEach [] X.env)).any (·.1)=false:=by rfl) (hpl2:(backTo pos2 (starEach [] X.env)).any (·.1)=false:=by rfl) :
  PE' X B (.Call (.Name "tuple" p) [.Call (.Name "reversed" p2) [a] [] pos2] [] pos) (Br ta) :=
 a8 (z0 hc hg hm hg2 hm2 b1 rO ha he he2 hpl hpl2) fun σ H Q h=>by
  obtain⟨σ',H',Q',s,h,k⟩:=h;refine⟨σ',H',_,s,h,fun x' H1' x H1 h1 rx s1 e1=>?_⟩;cases x' with
  | tup l =>
   obtain⟨h0,q⟩:=h1;simp only[RP]at rx;obtain⟨b,us,rfl,hq,r⟩:=rx;refine⟨b,us,rfl,hq,by rw[RPs.length _ r];exact h0,fun r' hr=>?_⟩;exact k _ H1' _ _ q (mx hr (oy r)) (s1.hid hr) (e1.trans (Ev.hid hr))
  | _=>exact h1.elim
end U
namespace L2
section
variable {prog:Program}{w:World}{A:Around}{E:Value->Shared->Prop}{s:Shared}
theorem fq{t sl:Addr}{items:Array Value}{vl vu:Value}{lo hi:Option Int}{Q:Value->Shared->Prop}(tA:IsTup s.heap t items)(sA:s.heap.IsSliceOf sl vl vu .none)(pA:IsPart vl lo)(pB:IsPart vu hi)
  (hw:HT.sIx items.size 0 lo=0/\HT.sIx items.size items.size hi=items.size) (h:Q (.ref t) s):wpAny (model prog w) A (getItem (.ref t) (.ref sl)) Q E s:=by
 obtain⟨os,hos,hcs,hds⟩:=id sA;have tB:s.TypeIs (.ref sl) "slice":=⟨os,hos,hcs⟩;unfold getItem
 try with_reducible refine Gp ?_
 first | refine EX (E1 ?_) | skip
 refine EX (wpAny_sequenceKey tA.typeIs (by decide) ?_);refine EX (F9 (name:=Str.ofString "__getitem__") tA.typeIs PyProof.Rows.slot_tuple_getitem
  (FU PyProof.Rows.slot_tuple_getitem tA.typeIs entry_tuple_getitem ?_ (args_tuple_getitem _ _)))
 show wpAny _ _ (Builtin.Tuple.tupleItemsOf (.ref t) >>= _) _ _ s;refine EX (tupleItemsOf_ tA ?_);refine EX (wpAny_typeOf tB ?_);rw[Fp (by decide)];refine EX (HT.dA sA pA pB ?_);have hyes:(((HT.sIx items.size 0 lo:Nat):Int)==0&&(1:Int)==1&&(HT.sIx items.size items.size hi - HT.sIx items.size 0 lo)==items.size)=true:=by
  rw[hw.1,hw.2];simp
 show wpAny _ _ (if (((HT.sIx items.size 0 lo:Nat):Int)==0&&(1:Int)==1&&(HT.sIx items.size items.size hi - HT.sIx items.size 0 lo)==items.size)=true then _ else _) _ _ s;rw[Fp hyes];unfold Builtin.Tuple.tupleIsExact;have hT:=tA.typeIs
 wp_walk
 exact⟨_,rfl,E1 h⟩
end
variable {X:Cx}
def Ey(K:PySem.W.Frag):V->Option Int->Option Int->Hp->VK->Prop:=fun x lo hi H Q=>∃a xs,x=.ref a/\SqT K H a xs /\
 ((HT.sIx xs.length 0 lo=0/\HT.sIx xs.length xs.length hi=xs.length)->Q (.ref a) H)/\(¬(HT.sIx xs.length 0 lo=0/\HT.sIx xs.length xs.length hi=xs.length)->∀p,H p=none->Q (.ref p) (upd H p (.tup (aQ xs lo hi))))
theorem vf:SlR X (Ey X.K):=by
 intro pins s σ H x v vl vu lo hi sl Q I rx hs pl pu h;obtain⟨a,xs,rfl,hx,q1,q2⟩:=h;by_cases hw:HT.sIx xs.length 0 lo=0/\HT.sIx xs.length xs.length hi=xs.length
 ·cases rx;obtain⟨its,r,ht,hz⟩:=I.tuple hx;have hlen:its.toArray.size=xs.length:=by rw[Fe];exact r.length.symm
  refine⟨"tuple",_,PyProof.Rows.slot_tuple_getitem.lookup,ht.typeIs,?_⟩;exact fq ht hs pl pu (by rw[hlen];exact hw) ⟨.ref a,H,I,rfl,q1 hw⟩
 ·exact zU pins s σ H _ v vl vu lo hi sl Q I rx hs pl pu ⟨a,xs,rfl,hx,hw,q2 hw⟩
end L2
namespace U
open L2
variable {B:Bs}{X:Cx}{e:Expr}{ta:TE'}{pos:Pos}
def ue(x:PV)(lo hi:Option Int)(H3:PHp)(Q:VK'):Prop:=match x with
 | .tup l=>Q (.tup (cC l lo hi)) H3
 | _=>False
theorem CQ{l:List PV}{lo hi:Option Int}{H:PHp}{Q:VK'}:ue (.tup l) lo hi H Q=Q (.tup (cC l lo hi)) H:=rfl
def n9(ta:TE')(tl th:TO'):TE':=fun σ H Q=>ta σ H fun x H1=>tl σ H1 fun lo H2=>th σ H2 fun hi H3=>ue x lo hi H3 Q
theorem a7{lo hi:Option Expr}{tl th:TO'}{p2:Pos}(he:PE' X B e ta)(hl:PO' X B lo tl)(hu:PO' X B hi th):PE' X B (.Subscript e (.Slice lo hi none p2) pos) (n9 ta tl th) :=
 a8 (qZ vf he hl hu) fun σ H Q y_=>by
 obtain⟨σ',H',Q',s,h,k⟩:=y_;refine⟨σ',H',_,s,h,fun x H1' v H1 h1 r1 s1 e1=>⟨σ',H1',_,s1,h1,fun l H2' H2 h2 s2 e2=>⟨σ',H2',_,s2,h2,fun u H3' H3 h3 s3 e3=>?_⟩⟩⟩;have r3:=RP.kp _ (e3.kp s2.hp) (RP.kp _ (e2.kp s1.hp) r1);have e123:=e1.trans (e2.trans e3);cases x with
 | tup xs =>
  have r3':=r3;simp only[RP]at r3;obtain⟨a,us,e,q,r⟩:=r3;refine⟨a,us,e,q,fun hw=>?_,fun _ p n=>?_⟩
  ·have ex:cC xs l u=xs:=by
    unfold cC;rw[RPs.length _ r]at hw;rw[hw.1,hw.2,List.drop_zero,Nat.sub_zero,FW]
   have h4:Q' (.tup (cC xs l u)) H3':=h3;rw[ex]at h4;rw[←e];exact k _ _ _ _ h4 r3' s3 e123
  ·exact k _ _ _ _ h3 (mx n (zM r)) (s3.hid n) (e123.trans (Ev.hid n))
 | _=>exact h3.elim
end U
namespace L2
variable {X:Cx}
end L2
namespace U
open L2
variable {B:Bs}{X:Cx}{a b:Expr}{ta tb:TE'}{pos:Pos}
end U
namespace L2
variable {X:Cx}
theorem qW{prog:Program}{w:World}{A:Around}{E:Value->Shared->Prop}{s:Shared}{t b:Addr}{ws:List Value}{Q:Value->Shared->Prop}(ht:IsTup s.heap t ([]:List Value).toArray)(hb:IsTup s.heap b ws.toArray)(h:Q (.ref b) s):wpAny (model prog w) A (binaryOp .Add (.ref t) (.ref b)) Q E s:=by
 obtain⟨⟨cls,dd,data,sl⟩,g,hc,n,g2⟩:=id ht;obtain⟨⟨cls2,dd2,data2,sl2⟩,k,hc2,n2,k2⟩:=id hb;simp only at hc g2 hc2 k2;subst hc g2 hc2 k2;exact concat_meets ⟨_,g,rfl⟩ ⟨_,k,rfl⟩ noFill_tuple_add seq_tuple_add PySem.F.slot_tuple_add PySem.F.entry_tuple_add (PySem.F.args_tuple_add_2 _ _) (tuple_addW0 t b _ ws.toArray n n2 dd dd2 sl sl2 rfl) ⟨g,k,h⟩
def xc(K:PySem.W.Frag):R2:=fun x y H Q=>∃a b xs ys,x=.ref a/\y=.ref b/\SqT K H a xs/\SqT K H b ys/\xs.length+ys.length≤sizeLine/\(xs=[]->Q (.ref b) H)/\(ys=[]->Q (.ref a) H)/\(ys≠[]->∀p,H p=none->Q (.ref p) (upd H p (.tup (xs++ys))))
theorem vc:OpR X (binaryOp .Add) (xc X.K):=by
 intro pins s σ H x y v u Q I rx ry h;obtain⟨a,b,xs,ys,rfl,rfl,ha,hb,hz,q0,q1,q2⟩:=h;by_cases e:xs=[]
 ·cases rx;cases ry;subst e;obtain⟨its,r1,p1,_⟩:=I.tuple ha;obtain⟨its2,r2,p2,_⟩:=I.tuple hb;cases r1;exact qW p1 p2 ⟨.ref b,H,I,rfl,q0 rfl⟩
 ·exact vp pins s σ H _ _ v u Q I rx ry ⟨a,b,xs,ys,rfl,rfl,ha,hb,e,hz,q1,q2⟩
end L2
namespace U
open L2
variable {B:Bs}{X:Cx}{a b:Expr}{ta tb:TE'}{pos:Pos}
def kE:R2':=fun x y H Q=>match x,y with
 | .tup l,.tup m=>l.length+m.length≤sizeLine/\Q (.tup (l++m)) H
 | _,_=>False
theorem Dx{l m:List PV}{H:PHp}{Q:VK'}:kE (.tup l) (.tup m) H Q=(l.length+m.length≤sizeLine/\Q (.tup (l++m)) H):=rfl
theorem vk{K:PySem.W.Frag}:VR K B kE (xc K):=by
 intro σ' σ H' H x' y' x y Q' Q s rx ry h k;unfold kE at h;split at h
 ·rename_i l m;obtain⟨hl,q⟩:=h;have rx':=rx;have ry':=ry;simp only[RP]at rx ry;obtain⟨a,us,rfl,ha,r1⟩:=rx;obtain⟨b,ws,rfl,hb,r2⟩:=ry;have l1:=RPs.length _ r1;have l2:=RPs.length _ r2;refine⟨a,b,us,ws,rfl,rfl,ha,hb,by rw[l1,l2];exact hl,fun e=>?_,fun e=>?_,fun e p hp=>?_⟩
  ·have:l=[]:=Gm.mp (by rw[←l1,e];rfl);rw[this,List.nil_append]at q;exact k _ _ _ _ q ry' s (Ev.refl _ _)
  ·have:m=[]:=Gm.mp (by rw[←l2,e];rfl);rw[this,F1]at q;exact k _ _ _ _ q rx' s (Ev.refl _ _)
  ·exact k _ _ _ _ q (mx hp (RPs.append _ r1 r2)) (s.hid hp) (Ev.hid hp)
 ·exact h.elim
theorem bT(ha:PE' X B a ta)(hb:PE' X B b tb):PE' X B (.BinOp a .Add b pos) (uOp kE ta tb):=fv vc vk ha hb
end U
namespace L2
def Ite(K:PySem.W.Frag)(a:Addr):It :=
 ⟨fun i H=>∃xs x,SqT K H a xs/\xs[i]?=some x,fun i H x H'=>∃T y,H T=none/\x=.ref T/\H'=upd H T (.tup [.int (i:Nat),y])/\∀xs,SqT K H a xs->xs[i]?=some y,fun i H=>∃xs,SqT K H a xs/\xs.length=i⟩
theorem j7{h:Heap}{a b:Addr}{n m:String}{o u:Obj}(ha:h.get? a=some o)(hb:h.get? b=some u)(ca:o.cls=.type n)(cb:u.cls=.type m)(ne:(Value.type n:Value)≠.type m):a≠b:=by
 rintro rfl;rw[ha]at hb;cases hb;exact ne (ca.symm.trans cb)
theorem vI{P:Program}{w:World}{K:PySem.W.Frag}{elts:List Expr}{k1}{tpos:Pos}(a it e:Addr):Turn P w K (.Tuple elts k1 tpos) (Ite K a) [e,it] e (fun i h=>(∃old,IsEnum h e it (i:Nat) old)/\h.IsTupleIter it a i) where
 mem:=by simp
 obj:=fun i h st b hb=>by
  obtain⟨⟨old,he⟩,o,ho,hc,hd⟩:=st;rcases Fn.mp hb with rfl | hb
  ·exact⟨_,he,fun v z=>by
    have z':Data.fields _=Data.cell v:=z;cases z'⟩
  ·rw[E5.mp hb];exact⟨o,ho,fun v z=>by rw[hd]at z;cases z⟩
 keep:=fun i h h' st k=>by
  obtain⟨⟨old,he⟩,hi⟩:=st;exact⟨⟨old,k e (by simp) _ he⟩,hi.at fun o x=>k it (by simp) o x⟩
 item:=by
  intro X hP hw hK hc i pins s σ H E I hf st hg;subst hP hw hK;obtain⟨xs,x,hq,hx⟩:=hg;obtain⟨its,rv,p,hz⟩:=I.tuple hq;obtain⟨u,hu,ru⟩:=rv.get hx;obtain⟨⟨old,he⟩,hi⟩:=st;have p':s.heap.IsTuple a its.toArray:=p;obtain⟨oa,ha,ca,_⟩:=id p';obtain⟨oi,hoi,ci,_⟩:=id hi;have nai:a≠it:=j7 ha hoi ca ci (by decide);have nei:e≠it:=j7 he hoi rfl ci (by decide);have nea:e≠a:=j7 he ha rfl ca (by decide);have hlt:i<its.toArray.size:=by
   have:=(E6.mp hu).1;simpa using this
  refine wpAny_pyNext_enum_itemD (EN.nR (A:=X.A.in1) (I.ok.hd hc) it a nai its.toArray) he ⟨hi,p'⟩ hlt nei (by simp[nei,nea]) fun y h1 tk hy ho hs1 hT hsz hk=>?_;have ey:y=u:=by
   have:its.toArray[i]?=some u:=by simpa using hu
   rw[this]at hy;exact(FH hy).symm
  subst ey;refine⟨_,rfl,wpAny_letOwnedTupleGo_enum (s:={ s with heap:=h1,toks:=tk+1 }) ho fun h2 he2 sb=>?_⟩;have sb2:Heap.SameBut e h1 h2:=sb;have hlte:e<s.heap.objs.size:=Fb he;have hT2:h2.get? s.heap.objs.size=some { cls:=.type "tuple",data:=.seq #[.int i tk,y] }:=(sb2.2 _ (Gz hlte)).trans hT;have kk:∀b o,b≠e->b≠it->s.heap.get? b=some o->h2.get? b=some o:=fun b o n1 n2 q=>(sb2.2 b n1).trans (hk b o n1 n2 q);have hn:H s.heap.objs.size=none:=I.hok.fresh (Fd _);have fe:=hf e (by simp);have fi:=hf it (by simp);have nit:∀b v,H b=some v->b≠e/\b≠it:=fun b v q=>⟨fun z=>(by rw[z,fe.1]at q;cases q),fun z=>(by rw[z,fi.1]at q;cases q)⟩;refine⟨.ref s.heap.objs.size,upd H s.heap.objs.size (.tup [.int (i:Nat),x]),?_,rfl,⟨_,x,hn,rfl,rfl,fun ys hy'=>by rw[I.tuple_inj hy' hq];exact hx⟩,⟨⟨y,by simpa using he2⟩,?_⟩,fun b hb=>?_⟩
  ·show Inv X pins σ _ { s with heap:=h2,toks:=tk+1 };refine I.step (h':=h2) (g':=s.gens) (d':=s.drawn) (t':=tk+1) (ch:=[e,it]) (fun b hb=>?_) (fun b o _ _ hc q _=>kk b o (fun z=>hc (by simp[z])) (fun z=>hc (by simp[z])) q) (fun b o _ _ hc q _=>⟨o.slots,kk b o (fun z=>hc (by simp[z])) (fun z=>hc (by simp[z])) q⟩)
    (fun b o _ q n=>by rw[aZ (Fl (Fb q))];exact n) (fun b o hc q=>⟨o,kk b o (fun z=>hc (by simp[z])) (fun z=>hc (by simp[z])) q⟩) (fun b ys q=>by rw[aZ (bf q hn)];exact q) (fun b o v q=>by rw[aZ (bf q hn)];exact q)
    (fun b ps q=>⟨#[],by rw[aZ (bf q hn),q];simp⟩) (fun m hm=>?_) (fun b v q=>?_) I.bare
   ·rcases Fn.mp hb with rfl | hb
    ·exact⟨fe.2.2.2.1,fe.2.1,fe.2.2.2.2.1,fe.2.2.2.2.2⟩
    ·rw[E5.mp hb];exact⟨fi.2.2.2.1,fi.2.1,fi.2.2.2.2.1,fi.2.2.2.2.2⟩
   ·obtain⟨o,es,ep,q,r⟩:=hm;exact⟨o,es,ep,kk _ o (Ne.symm fe.2.1) (Ne.symm fi.2.1) q,r⟩
   ·by_cases hb:b=s.heap.objs.size
    ·subst hb;rw[bt]at q;cases q;exact⟨by show 2≤sizeLine;rw[FP];omega,[.int i tk,y],.cons ⟨tk,rfl⟩ (.cons ru .nil),⟨_,hT2,rfl,_,rfl⟩⟩
    ·rw[aZ hb]at q;refine(I.hok b v q).stay (fun c z hc q2=>?_) (fun c q2=>by rw[aZ (bf q2 hn)];exact q2) fun c ys q2=>by rw[aZ (bf q2 hn)];exact q2
     have nn:c≠e/\c≠it:=by
      rcases hc with z | z
      ·rw[z];exact nit b v q
      ·exact nit c _ z
     exact kk c z nn.1 nn.2 q2
  ·obtain⟨o,q,r⟩:=hs1.1;exact⟨o,(sb2.2 _ (Ne.symm nei)).trans q,r⟩
  ·have hb2:b<s.heap.objs.size:=by
    rcases Fn.mp hb with rfl | hb
    ·exact hlte
    ·rw[E5.mp hb];exact Fb hoi
   rw[aZ (Fl hb2)];exact(hf b hb).1
 done:=by
  intro X hP hw hK hc i pins s σ H E I hf st hg;subst hP hw hK;obtain⟨xs,hq,rfl⟩:=hg;obtain⟨its,rv,p,hz⟩:=I.tuple hq;obtain⟨⟨old,he⟩,hi⟩:=st;have p':s.heap.IsTuple a its.toArray:=p;obtain⟨oa,ha,ca,_⟩:=id p';obtain⟨oi,hoi,ci,_⟩:=id hi;have nai:a≠it:=j7 ha hoi ca ci (by decide);have hl:=rv.length;have es:xs.length=its.toArray.size:=by simp;omega
  obtain⟨f0,f1,f2,f3,f4,f5⟩:=hf it (by simp);refine wpAny_pyNext_enum_endD (EN.nR (A:=X.A.in1) (I.ok.hd hc) it a nai its.toArray) he ⟨by rw[←es];exact hi,p'⟩ fun h1 eb=>⟨rfl,I.turned (t':=s.toks) (fun b o hb q=>eb b o hb q) f0 f1 f3 f4 f5⟩
 self:=fun _ _ _ _ _ st h=>let ⟨⟨_,he⟩,_⟩:=st;wpAny_pyIter_enum he h
section
variable {X:Cx}
theorem v5:bootBuiltins "enumerate"=some (.type "enumerate"):=by decide +kernel
def iEn(K:PySem.W.Frag)(ta:TA):TI:=fun σ H R=>ta σ H fun vs H1=>∃a,vs=[.ref a]/\(∃xs,SqT K H1 a xs)/\R (Ite K a) H1
theorem Bc{elts:List Expr}{k1}{tpos:Pos}{c:Expr}{ta:TA}{p pos:Pos}(hg:Gl X "enumerate")(hm:X.mg "enumerate"=none)(ha:PA X [c] ta)(hs:starEach [c] X.env=[(false,eval c X.env)]:=by rfl) :
  PI X (.Tuple elts k1 tpos) (.Call (.Name "enumerate" p) [c] [] pos) (iEn X.K ta):=by
 intro pins s σ H R I h;refine Call_ (cQ I hg hm v5 (FG (thn (ha pos pins s σ H _ I h) fun us s1 ⟨vs,H1,I1,r1,q1⟩=>?_) hs rfl));obtain⟨a,e,⟨xs,hq⟩,q⟩:=q1;subst e;cases r1 with
 | cons r rr =>
  cases rr;cases r;obtain⟨its,rv,p,hz⟩:=I1.tuple hq;refine EN.y9 (show s1.heap.IsTuple a its.toArray from p) fun h1 he hi kk=>wpAny_pyIter_enum he ?_;refine⟨s1.heap.objs.size+1,[s1.heap.objs.size+1,s1.heap.objs.size],_,_,H1,rfl,I1.kept (t':=s1.toks) kk,vI a _ _,⟨⟨_,he⟩,hi⟩,fun b hb=>?_,q⟩;have hb2:s1.heap.objs.size≤b:=by
   rcases Fn.mp hb with rfl | hb
   ·exact Nat.le_succ _
   ·rw[E5.mp hb];exact Fd _
  exact I1.fpOk hb2 (I1.hok.fresh hb2)
end
end L2
namespace U
open L2
variable {B:Bs}{X:Cx}{pos:Pos}
structure zq (K:PySem.W.Frag) (H1:Hp) (J:It) (J':It'):Prop where
 go:∀H' H i,Kp H1 H->HR K H' H->J'.ok H'->i<J'.items.length->J.go i H
 yld:∀H' H i x H2,Kp H1 H->HR K H' H->J'.ok H'->J.yld i H x H2->HR K H' H2/\Ev H' H H' H2/\∀x',J'.items[i]?=some x'->RP K H2 x' x
 stop:∀H' H,Kp H1 H->HR K H' H->J'.ok H'->J.stop J'.items.length H
def wV(K:PySem.W.Frag)(B:Bs)(t:TI'):TI:=fun σ H R=>∃σ' H' R',SR K B σ' H' σ H/\t σ' H' R'/\∀J' H1' J H1,R' J' H1'->zq K H1 J J'->SR K B σ' H1' σ H1->Ev H' H H1' H1->R J H1
abbrev PIH(X:Cx)(B:Bs)(tg e:Expr)(t:TI'):Prop:=PI X tg e (wV X.K B t)
theorem pf{K:PySem.W.Frag}{nt:Nat}{js:List Nat}{wi:TI'}{g:TG'}{tt:TT'}{te:TE'}{σ:L2.St}{H:Hp}{Q:VK}(h:low K B (jD nt js wi g tt te) σ H Q) :
  oe nt js (wV K B wi) (lowG K B g) (jY K B tt) (low K B te) σ H Q:=by
 obtain⟨σ',H',Q',s,h,k⟩:=h;refine⟨σ',H',_,s,h,fun J' H1' J H1 h1 wk s1 e1 acc ha=>?_⟩;have h1:=h1 acc (s1.hp.free ha);have sn:SR K B σ' (put H1' acc (.lst [])) σ (upd H1 acc (.lst [])):=s1.new ha ⟨[],bt,RPs.nil _⟩;have en:Ev H1' H1 (put H1' acc (.lst [])) (upd H1 acc (.lst [])):=Ev.new ha;refine⟨fun i m σ2 H2=>i≤J'.items.length/\m=J'.items.length - i/\∃σ2' H2',SR K B σ2' H2' σ2 H2/\SR K B σ' H2' σ H2/\Ev H1' H1 H2' H2/\dX J'.ok g tt te acc Q' (J'.items.drop i) σ2' H2',
  ⟨J'.items.length,Gb _,by simp,_,_,sn.sig nt js,sn,en,h1⟩,?_⟩
 rintro i m σ2 H2 ⟨hi,rfl,σ2',H2',s2,so,e2,h2⟩;have k2:=e2.kp s1.hp;by_cases hlt:i<J'.items.length
 ·obtain⟨x',hx⟩:∃x',J'.items[i]?=some x':=⟨_,EY hlt⟩;have hd:J'.items.drop i=x'::J'.items.drop (i+1):=by
   rw[Ge hlt];rw[EY hlt]at hx;cases hx;rfl
  rw[hd]at h2;obtain⟨ok2,h2⟩:=(show J'.ok H2'/\_ from h2);refine .inr ⟨wk.go H2' H2 i k2 s2.hp ok2 hlt,fun x H3 y=>?_⟩;obtain⟨hr3,ev3,rx⟩:=wk.yld H2' H2 i x H3 k2 s2.hp ok2 y;have s2b:=s2.kp ev3 hr3;have sob:=so.kp ev3 hr3;have e2b:=e2.trans ev3;refine⟨x',σ2',H2',_,rx x' hx,s2b,h2,fun σ3' H3' σ3 H3 h3 s3 e3=>⟨σ3',H3',_,s3,h3,fun b H4' H4 h4 s4 e4=>?_⟩⟩;cases b with
  | false =>
   have e24:=e3.trans e4;exact kx ⟨J'.items.length - (i+1),by omega,hlt,rfl,σ3',H4',s4,sob.kp e24 s4.hp,e2b.trans e24,h4⟩
  | true =>
   refine ko ⟨σ3',H4',_,s4,h4,fun y' H5' y H5 h5 ry5 s5 e5=>?_⟩;obtain⟨l,a1,a2,h5⟩:=h5;have e25:=(e3.trans e4).trans e5;obtain⟨us,q1,q2⟩:=s5.hp _ _ a1;have wr:=wrL s5.hp a1 (RPs.append _ q2 (RPs.cons _ ry5 (RPs.nil _)));refine⟨us,q1,by rw[RPs.length _ q2];exact a2,J'.items.length - (i+1),by omega,hlt,rfl,σ3',_,s5.wr a1 wr,(sob.kp e25 s5.hp).wr a1 wr,(e2b.trans e25).trans (Ev.wr a1),h5⟩
 ·have hi':i=J'.items.length:=by omega
  subst hi';rw[List.drop_length]at h2;obtain⟨ok2,h2⟩:=(show J'.ok H2'/\_ from h2);exact .inl ⟨wk.stop H2' H2 k2 s2.hp ok2,k _ _ _ _ h2 (by simp[RP]) so (e1.trans e2)⟩
section
variable {N2:List Str}{nt:Nat}{js:List Nat}{scope sc:Scope}{cl:List (Str×Addr)}{elt iter tg:Expr}{ifs:List Expr}{wi:TI'}{g:TG'}{tt:TT'}{te:TE'}
theorem kJ(O:cT X N2 nt js scope cl sc)(hc:X.calm=true)(hi:PIH X B tg iter wi)(b:∀(s0:Shared) (H0:Hp) (fp:List Addr) (ps:List (Addr×Obj)),mS (du X N2 scope cl s0 H0 fp ps) B tg ifs elt g tt te)
  (hs:∀x,foldedSetIterable iter X.env x=pure x:=by intro _;rfl):PE' X B (.ListComp elt [⟨tg,iter,ifs,0⟩] scope pos) (jD nt js wi g tt te) :=
 a8 (lH (g:=lowG X.K B g) (tt:=jY X.K B tt) (te:=low X.K B te) O hc hi (fun s0 H0 fp ps=>⟨(b s0 H0 fp ps).tgt,(b s0 H0 fp ps).tst,(b s0 H0 fp ps).elt⟩) hs) fun _ _ _ h=>pf h
end
def hJ(l:List PV):List PV:=l.mapIdx fun i x=>.tup [.int (i:Nat),x]
def en1(vs:List PV)(H1:PHp)(R:It'->PHp->Prop):Prop:=match vs with
 | [.tup l]=>R ⟨hJ l,fun _=>True⟩ H1
 | _=>False
theorem CL{l:List PV}{H:PHp}{R:It'->PHp->Prop}:en1 [.tup l] H R=R ⟨hJ l,fun _=>True⟩ H:=rfl
def uEn(t:TA'):TI':=fun σ H R=>t σ H fun vs H1=>en1 vs H1 R
theorem xI{elts:List Expr}{k1}{tpos:Pos}{c:Expr}{t:TA'}{p:Pos}(hg:Gl X "enumerate")(hm:X.mg "enumerate"=none)(ha:PA' X B [c] t)(hs:starEach [c] X.env=[(false,eval c X.env)]:=by rfl) :
  PIH X B (.Tuple elts k1 tpos) (.Call (.Name "enumerate" p) [c] [] pos) (uEn t):=iR (Bc hg hm ha hs) fun σ H R y_=>by
 obtain⟨σ',H',R',s,h,k⟩:=y_;refine⟨σ',H',_,s,h,fun vs' H1' vs H1 h1 r1 s1 e1=>?_⟩;unfold en1 at h1;split at h1
 ·rename_i l;simp only[RPs,RP]at r1;obtain⟨u,r,rfl,⟨a,us,rfl,q,rl⟩,rfl⟩:=r1;refine⟨a,rfl,⟨us,q⟩,k _ H1' _ H1 h1 ⟨fun H2' H2 i k2 hr _ hi=>?_,fun H2' H2 i x H3 k2 hr _ y=>?_,fun H2' H2 k2 hr _=>?_⟩ s1 e1⟩
  ·have hi':i<l.length:=by simpa[hJ]using hi
   obtain⟨u,e,_⟩:=RPs.get _ rl (EY hi');exact⟨us,u,k2.sqT q,e⟩
  ·obtain⟨T,y1,hT,rfl,rfl,hy⟩:=y;refine⟨hr.hid hT,Ev.hid hT,fun x' hx=>?_⟩;obtain⟨z,hz,rfl⟩:∃z,l[i]?=some z/\x'=.tup [.int (i:Nat),z]:=by
    unfold hJ at hx;rw[List.getElem?_mapIdx]at hx;cases e:l[i]? with
    | none=>rw[e]at hx;cases hx
    | some z=>rw[e]at hx;exact⟨z,rfl,(FH hx).symm⟩
   obtain⟨u,e,ru⟩:=RPs.get _ (RPs.kp _ k2 rl) hz;have ey:=hy us (k2.sqT q);rw[e]at ey;cases ey;exact mx hT (RPs.cons _ (by simp[RP]) (RPs.cons _ ru (RPs.nil _)))
  ·refine⟨us,k2.sqT q,?_⟩;rw[RPs.length _ rl];simp[hJ]
 ·exact h1.elim
end U
namespace DM
abbrev P2:=Int×Int
def pk(p:P2):Int:=6*p.1+p.2
structure Good (c:Int) (l:List P2):Prop where
 nd:l.Nodup
 lo:∀p∈l,0≤p.1/\p.1<p.2/\p.2<c
theorem jo{α:Type}(k:α->Int):∀{a b:List α},a.Pairwise (fun x y=>k x<k y)->b.Pairwise (fun x y=>k x<k y)->(∀x,x∈a↔x∈b)->a=b
 | [],[],_,_,_=>rfl
 | [],y::b,_,_,h=>by have:=(h y).mpr E7;simp at this
 | x::a,[],_,_,h=>by have:=(h x).mp E7;simp at this
 | x::a,y::b,ha,hb,h=>by
  obtain⟨h1,h2⟩:=GR.mp ha;obtain⟨g1,g2⟩:=GR.mp hb;have e:x=y:=by
   rcases Fn.mp ((h x).mp E7)with e | m
   ·exact e
   ·rcases Fn.mp ((h y).mpr E7)with e | m'
    ·exact e.symm
    ·have a1:=g1 x m;have a2:=h1 y m';omega
  subst e;congr 1;refine jo k h2 g2 fun z=>⟨fun m=>?_,fun m=>?_⟩
  ·rcases Fn.mp ((h z).mp (Ff _ m))with e | m'
   ·subst e;have:=h1 z m;omega
   ·exact m'
  ·rcases Fn.mp ((h z).mpr (Ff _ m))with e | m'
   ·subst e;have:=g1 z m;omega
   ·exact m'
theorem ir{a b l:List P2}(ha:a.Perm l)(sa:a.Pairwise (fun x y=>pk x<pk y))(hb:b.Perm l)(sb:b.Pairwise (fun x y=>pk x<pk y)):a=b :=
 jo pk sa sb fun x=>ha.mem_iff.trans hb.mem_iff.symm
theorem Good.prs{c:Int}{l:List P2}(g:Good c l)(hc:c≤6):∀p∈l,p∈SP.prs:=fun p hp=>by
 have:=g.lo p hp;exact SP.vM (u:=p.1) (v:=p.2) this.1 this.2.1 (by omega)
theorem dz{α:Type}[BEq α][LawfulBEq α]{l m:List α}(nd:l.Nodup)(h:∀x∈l,x∈m):l.length≤m.length:=by
 induction l generalizing m with
 | nil=>simp
 | cons x l ih =>
  obtain⟨h1,h2⟩:=GU.mp nd;have hx:=h x E7;have:=ih (m:=m.erase x) h2 fun y hy=>(List.mem_erase_of_ne (by rintro rfl;exact h1 hy)).mpr (h y (Ff _ hy));have e:=List.length_erase_of_mem hx;have:0<m.length:=List.length_pos_of_mem hx;simp only[Fs];omega
theorem Good.len{c:Int}{l:List P2}(g:Good c l)(hc:c≤6):l.length≤15:=dz g.nd (g.prs hc)
end DM
namespace My
def gd(a b:Int):Int:=(Int.gcd a b:Nat)
end My
namespace My
open U
def BN(n:Nat)(i:Int):Prop:=i.natAbs<2 ^ n
theorem BN.fit{n:Nat}{i:Int}(h:BN n i)(hn:n≤9000):Fit i:=by
 unfold Fit;unfold BN at h;rcases Nat.eq_zero_or_pos i.natAbs with h0 | hp
 ·rw[h0,Nat.log2_zero];omega
 ·have:=(Nat.log2_lt (Gz hp)).mpr h;omega
theorem BN.mul{n m:Nat}{i j:Int}(h:BN n i)(g:BN m j):BN (n+m) (i*j):=by
 unfold BN at *;rw[Int.natAbs_mul,Nat.pow_add];exact Nat.mul_lt_mul'' h g
theorem BN.add{n:Nat}{i j:Int}(h:BN n i)(g:BN n j):BN (n+1) (i+j):=by
 unfold BN at *;rw[Nat.pow_succ];omega
theorem BN.of_le{n:Nat}{i j:Int}(h:BN n i)(g:j.natAbs≤i.natAbs):BN n j:=Nat.lt_of_le_of_lt g h
def num(c:Int):Int:=if c.fmod 4=0 then(c.fdiv 4*982451653).fmod (2*10 ^ 60 - 1) - 10 ^ 60+1 else if c.fmod 4=1 then(c.fdiv 4).fmod 2001 - 1000 else(c.fdiv 4).fmod 25 - 12
end My
namespace My
abbrev P2:=Int×Int
inductive Reach (E:List P2) (S:List Int):Int→Prop where
 | base {x:Int} (h:x∈S):Reach E S x
 | step {a b:Int} (h:Reach E S a) (e:(a,b)∈E):Reach E S b
def outs(E:List P2)(a:Int):List Int:=(E.filter fun p=>decide (p.1=a)).map (·.2)
theorem gr{E:List P2}{a b:Int}:b∈outs E a↔(a,b)∈E:=by
 unfold outs;rw[Fg];constructor
 ·rintro⟨⟨x,y⟩,h,rfl⟩;rw[Fq]at h;have:x=a:=Gk h.2;subst this;exact h.1
 ·intro h;exact⟨(a,b),Fq.mpr ⟨h,FO rfl⟩,rfl⟩
def b4(E:List P2)(f:List Int)(n:Int):List Int:=if n∈f then f++outs E n else f
theorem pE{E:List P2}{f:List Int}{n x:Int}(h:x∈f):x∈b4 E f n:=by
 unfold b4;split
 ·exact FE _ h
 ·exact h
theorem jI{E:List P2}:∀(L:List Int) {f:List Int} {x:Int},x∈f->x∈L.foldl (b4 E) f
 | [],_,_,h=>h
 | _::L,_,_,h=>jI L (pE h)
theorem gW{E:List P2}{S:List Int}:∀(L:List Int) {f:List Int},(∀x∈f,Reach E S x)->∀x∈L.foldl (b4 E) f,Reach E S x
 | [],_,h,x,hx=>h x hx
 | n::L,f,h,x,hx=>by
  refine gW L (f:=b4 E f n) (fun y hy=>?_) x hx;unfold b4 at hy;split at hy
  ·rename_i hn;rcases E9.mp hy with hy | hy
   ·exact h y hy
   ·exact .step (h n hn) (gr.mp hy)
  ·exact h y hy
def Fwd(E:List P2)(L:List Int):Prop:=∀a b,(a,b)∈E->∀L1 L2,L=L1++L2->b∈L1->a∈L1
theorem gg{E:List P2}:∀(L1 L2:List Int) {f:List Int},(∀a b,(a,b)∈E->a∈L1++L2)->(∀a b,(a,b)∈E->∀M1 M2,L1++L2=M1++M2->b∈M1->a∈M1)->(L1++L2).Nodup ->
  (∀a b,(a,b)∈E->a∈L1->a∈f->b∈f)->∀a b,(a,b)∈E->a∈L2.foldl (b4 E) f->b∈L2.foldl (b4 E) f
 | L1,[],f,hA,hF,hN,hc,a,b,e,ha=>by
  have:=hA a b e;rw[F1]at this;exact hc a b e this ha
 | L1,n::L2,f,hA,hF,hN,hc,a,b,e,ha=>by
  have eq:L1++n::L2=(L1++[n])++L2:=by simp
  refine gg (L1++[n]) L2 (f:=b4 E f n) (by rw[←eq];exact hA) (by rw[←eq];exact hF) (by rw[←eq];exact hN) (fun a b e ha1 ha2=>?_) a b e ha;unfold b4 at ha2 ⊢;split
  ·rename_i hn;rw[Fp hn]at ha2;rcases E9.mp ha2 with hf | ho
   ·rcases E9.mp ha1 with h1 | h1
    ·exact FE _ (hc a b e h1 hf)
    ·have:a=n:=by simpa using h1
     subst this;exact Fw _ (gr.mpr e)
   ·-- a is an out of n,so it stands behind n
    have en:=gr.mp ho;rcases E9.mp ha1 with h1 | h1
    ·have q:=hF n a en L1 (n::L2) rfl h1;rw[List.nodup_append]at hN;exact absurd rfl (hN.2.2 n q n (E7))
    ·have:a=n:=by simpa using h1
     subst this;exact Fw _ (gr.mpr e)
  ·rename_i hn;rw[Fh hn]at ha2;rcases E9.mp ha1 with h1 | h1
   ·exact hc a b e h1 ha2
   ·have:a=n:=by simpa using h1
    subst this;exact absurd ha2 hn
theorem pI{E:List P2}{L S:List Int}(hA:∀a b,(a,b)∈E->a∈L)(hF:Fwd E L)(hN:L.Nodup)(x:Int):x∈L.foldl (b4 E) S↔Reach E S x:=by
 constructor
 ·exact gW L (fun y hy=>.base hy) x
 ·intro h
  induction h with
  | base h=>exact jI L h
  | step h e ih=>exact gg [] L hA hF hN (fun a b e h=>absurd h (by simp)) _ _ e ih
def cy(f:List Int)(p:P2):List Int:=if p.1∈f/\p.2∉f then f++[p.2]else f
def cu(E:List P2)(f:List Int):List Int:=E.foldl cy f
theorem kL{f:List Int}{p:P2}(h:f.Nodup):(cy f p).Nodup:=by
 unfold cy;split
 ·rename_i c;rw[List.nodup_append];refine⟨h,by simp,fun a ha b hb e=>?_⟩;have:b=p.2:=by simpa using hb
  subst this;subst e;exact c.2 ha
 ·exact h
theorem dn:∀(E:List P2) {f:List Int},f.Nodup->(cu E f).Nodup
 | [],_,h=>h
 | p::E,f,h=>dn E (f:=cy f p) (kL h)
theorem jL(f:List Int)(p:P2):∃g,cy f p=f++g:=by
 unfold cy;split
 ·exact⟨_,rfl⟩
 ·exact⟨[],by simp⟩
theorem fc:∀(E:List P2) (f:List Int),∃g,cu E f=f++g
 | [],f=>⟨[],by simp[cu]⟩
 | p::E,f=>by
  obtain⟨g,hg⟩:=jL f p;obtain⟨k,hk⟩:=fc E (cy f p);refine⟨g++k,?_⟩;show cu E (cy f p)=_;rw[hk,hg,GG]
theorem eK{E0:List P2}{S:List Int}:∀(E:List P2) {f:List Int},(∀p∈E,p∈E0)->(∀x∈f,Reach E0 S x)->∀x∈cu E f,Reach E0 S x
 | [],_,_,h,x,hx=>h x hx
 | p::E,f,hE,h,x,hx=>by
  refine eK E (f:=cy f p) (fun q hq=>hE q (Ff _ hq)) (fun y hy=>?_) x hx;unfold cy at hy;split at hy
  ·rename_i c;rcases E9.mp hy with hy | hy
   ·exact h y hy
   ·have:y=p.2:=by simpa using hy
    subst this;exact .step (h p.1 c.1) (hE p E7)
  ·exact h y hy
theorem i5:∀(E:List P2) {f:List Int},cu E f=f->∀a b,(a,b)∈E->a∈f->b∈f
 | [],_,_,_,_,h,_=>absurd h (by simp)
 | p::E,f,hs,a,b,e,ha=>by
  have hs':cu E (cy f p)=f:=hs;obtain⟨g,hg⟩:=jL f p;obtain⟨k,hk⟩:=fc E (cy f p);have gn:g=[]:=by
   rw[hk,hg,GG]at hs';have:=congrArg List.length hs';rw[E3,E3]at this;exact Gm.mp (by omega)
  have es:cy f p=f:=by rw[hg,gn,F1]
  rw[es]at hs';rcases Fn.mp e with e | e
  ·subst e;unfold cy at es;split at es
   ·have:=congrArg List.length es;rw[E3]at this;simp at this
   ·rename_i c;exact F5 fun hb=>c ⟨ha,hb⟩
  ·exact i5 E hs' a b e ha
theorem jJ{E:List P2}{f:List Int}(h:cu E f≠f):f.length<(cu E f).length:=by
 obtain⟨g,hg⟩:=fc E f;rw[hg]at h ⊢;cases g with
 | nil=>simp at h
 | cons x g=>simp
def bY(E:List P2):Nat->List Int->List Int
 | 0,f=>f
 | n+1,f=>bY E n (cu E f)
theorem gR{E:List P2}:∀(n:Nat) {f:List Int},cu E f=f->bY E n f=f
 | 0,_,_=>rfl
 | n+1,f,h=>by rw[bY,h];exact gR n h
theorem dD{E:List P2}:∀(n:Nat) {f:List Int},f.Nodup->(bY E n f).Nodup
 | 0,_,h=>h
 | n+1,_,h=>dD n (dn E h)
theorem fN{E:List P2}{S:List Int}:∀(n:Nat) {f:List Int},(∀x∈f,Reach E S x)->∀x∈bY E n f,Reach E S x
 | 0,_,h=>h
 | n+1,_,h=>fN n (eK E (fun _ hp=>hp) h)
theorem iK{E:List P2}:∀(n:Nat) (f:List Int),∃g,bY E n f=f++g
 | 0,f=>⟨[],by simp[bY]⟩
 | n+1,f=>by
  obtain⟨g,hg⟩:=fc E f;obtain⟨k,hk⟩:=iK (E:=E) n (cu E f);exact⟨g++k,by rw[bY,hk,hg,GG]⟩
theorem dz:∀(m:Nat) (f:List Int),f.Nodup->(∀x∈f,0≤x/\x<(m:Int))->f.length≤m
 | 0,f,_,h=>by
  cases f with
  | nil=>exact Fd _
  | cons x f=>have:=h x E7;omega
 | m+1,f,hn,h=>by
  have q:=dz m (f.erase (m:Int)) (hn.erase _) (fun x hx=>by
   have hx':=List.mem_of_mem_erase hx;have:=h x hx';have ne:x≠(m:Int):=(List.Nodup.mem_erase_iff hn).mp hx |>.1
   omega)
  by_cases hm:(m:Int)∈f
  ·rw[List.length_erase_of_mem hm]at q;omega
  ·rw[List.erase_of_not_mem hm]at q;omega
theorem bS:∀{xs ys:List Int},xs.Pairwise (·<·)->ys.Pairwise (·<·)->(∀x,x∈xs↔x∈ys)->xs=ys
 | [],[],_,_,_=>rfl
 | [],y::ys,_,_,h=>absurd ((h y).mpr E7) (by simp)
 | x::xs,[],_,_,h=>absurd ((h x).mp E7) (by simp)
 | x::xs,y::ys,hx,hy,h=>by
  rw[GR]at hx hy;have e:x=y:=by
   have h1:=(h x).mp E7;have h2:=(h y).mpr E7;rcases Fn.mp h1 with h1 | h1
   ·exact h1
   ·rcases Fn.mp h2 with h2 | h2
    ·exact h2.symm
    ·have:=hx.1 y h2;have:=hy.1 x h1;omega
  subst e;rw[bS hx.2 hy.2 fun z=>?_];constructor
  ·intro hz;rcases Fn.mp ((h z).mp (Ff _ hz))with q | q
   ·have:=hx.1 z hz;omega
   ·exact q
  ·intro hz;rcases Fn.mp ((h z).mpr (Ff _ hz))with q | q
   ·have:=hy.1 z hz;omega
   ·exact q
theorem gz{xs:List Int}(h:xs.Pairwise (·≤·))(n:xs.Nodup):xs.Pairwise (·<·):=by
 have:xs.Pairwise (fun a b=>a≤b/\a≠b):=List.Pairwise.and h n;exact this.imp fun y_=>by obtain⟨a,b⟩:=y_;omega
end My
namespace Lw
open L2 U
theorem boot_all:bootBuiltins "all"=some (.builtin "all"):=by decide +kernel
theorem boot_sorted:bootBuiltins "sorted"=some (.builtin "sorted"):=by decide +kernel
theorem boot_set:bootBuiltins "set"=some (.type "set"):=by decide +kernel
theorem mq{x y:PV}:atI [x,y] 0=some x:=rfl
theorem qY{x y:PV}:atI [x,y] 1=some y:=rfl
theorem ck{X:Cx}{N2:List Str}{nt:Nat}{js:List Nat}{scope sc:Scope}{cl:List (Str×Addr)}(clos:closureFor scope X.env=pure cl:=by exact rfl)(sub:pZ X.env.cells cl:=by repeat (first | exact trivial | refine⟨rfl,?_⟩))(xsc:X.env.scope=sc:=by rfl)(kind:scope.kind=.function:=by rfl)
  (nocell:∀y∈scope.names,y.2≠.cell:=by decide +kernel) (loc:∀y∈scope.names,y.2=.local->scope.names.lookup y.1=some .local:=by decide +kernel) (names:cl.map (·.1)=((scope.names.filter (·.2==.free)).map (·.1)).reverse:=by rfl)
  (frs:∀x∈N2.drop nt,scope.names.lookup x=some .free/\sc.names.lookup x=some .cell:=by decide +kernel) (len:N2.length=nt+js.length:=by rfl) (pl:js.map (fun j=>X.N[j]?)=(N2.drop nt).map some:=by rfl):cT X N2 nt js scope cl sc:=cok clos sub xsc kind nocell loc names frs len pl
def top(i:Nat):Stmt:=PySem.Challenge.pw_doingbook_k53_whole_never_both.main.body.getD i (.Pass ⟨0,0,0,0⟩)
abbrev yr:Stmt:=top 11
local macro_rules | `(tactic| walk_at "q") => `(tactic| exact ⟨rfl, rfl, rfl, by decide +kernel, rfl, by decide +kernel, by decide +kernel⟩)
theorem BV:aH ["count","pair"] ["count","pair"] (aj yr):=by walk_at "q"
abbrev vw:Stmt:=top 12
theorem AU:aH ["count","pairs"] ["count","pairs"] (aj vw):=by walk_at "q"
abbrev zd:Stmt:=top 13
theorem oO:aH ["count","names","ahead","name"] ["count","names"] (aj zd):=by walk_at "q"
abbrev zj:Stmt:=top 14
theorem Aw:aH ["count"] ["count"] (aj zj):=by walk_at "q"
abbrev vA:Stmt:=top 15
theorem BH:aH ["names","others"] ["names","others"] (aj vA):=by walk_at "q"
abbrev rP:Stmt:=inClass (top 16) 0
theorem rJ:aH ["self","count","ties","bows","own_ties","own_bows"] ["self","count","ties","bows"] (aj rP):=by walk_at "q"
abbrev zh:Stmt:=inClass (top 16) 2
theorem AF:aH ["self","name"] ["self","name"] (aj zh):=by walk_at "q"
abbrev zl:Stmt:=inClass (top 16) 3
theorem Bz:aH ["self","names"] ["self","names"] (aj zl):=by walk_at "q"
abbrev uU:Stmt:=inClass (top 16) 4
theorem AM:aH ["self","name"] ["self","name"] (aj uU):=by walk_at "q"
abbrev zD:Stmt:=inClass (top 16) 6
theorem sy:aH ["self","names","found","name"] ["self","names"] (aj zD):=by walk_at "q"
abbrev sE:Stmt:=inClass (top 16) 8
theorem rX:aH ["self","name","ahead","behind"] ["self","name"] (aj sE):=by walk_at "q"
abbrev yu:Stmt:=inClass (top 16) 9
theorem me:aH ["self","start","names","reached","waiting","name","other"] ["self","start","names"] (aj yu):=by walk_at "q"
abbrev zf:Stmt:=inClass (top 16) 10
theorem ma:aH ["self","names","told","placed","name","lump"] ["self","names"] (aj zf):=by walk_at "q"
abbrev ux:Stmt:=inClass (top 16) 11
theorem sv:aH ["self","names","ties","bows"] ["self","names"] (aj ux):=by walk_at "q"
abbrev xV:Stmt:=top 17
theorem xx:aH ["drawing","sets","names"] ["drawing","sets"] (aj xV):=by walk_at "q"
abbrev x6:Stmt:=top 18
theorem rj:aH ["sets","named","names"] ["sets"] (aj x6):=by walk_at "q"
abbrev yC:Stmt:=top 20
theorem BM:aH ["drawing","question"] ["drawing","question"] (aj yC):=by walk_at "q"
abbrev Ac:Stmt:=top 21
theorem xb:aH ["drawing","question","left"] ["drawing","question"] (aj Ac):=by walk_at "q"
abbrev yU:Stmt:=top 22
theorem w8:aH ["drawing","question","names"] ["drawing","question"] (aj yU):=by walk_at "q"
abbrev uD:Stmt:=top 23
theorem Bp:aH ["names","stands"] ["names","stands"] (aj uD):=by walk_at "q"
abbrev wG:Stmt:=top 24
theorem xK:aH ["drawing","names","stands","name"] ["drawing","names","stands"] (aj wG):=by walk_at "q"
abbrev zC:Stmt:=top 25
theorem Bu:aH ["drawing","stands","names"] ["drawing","stands","names"] (aj zC):=by walk_at "q"
abbrev yG:Stmt:=top 26
theorem B6:aH ["drawing","stands","names"] ["drawing","stands","names"] (aj yG):=by walk_at "q"
abbrev zE:Stmt:=top 27
theorem AR:aH ["drawing","stands","cut"] ["drawing","stands","cut"] (aj zE):=by walk_at "q"
abbrev vE:Stmt:=top 28
theorem Au:aH ["drawing","names","lump"] ["drawing","names","lump"] (aj vE):=by walk_at "q"
abbrev Aq:Stmt:=top 29
theorem Bh:aH ["drawing","lump"] ["drawing","lump"] (aj Aq):=by walk_at "q"
abbrev yL:Stmt:=top 30
theorem oK:aH ["drawing","lump","cuts","stands","cut"] ["drawing","lump","cuts"] (aj yL):=by walk_at "q"
abbrev ri:Stmt:=top 31
theorem xH:aH ["drawing","question","paper","lumps"] ["drawing","question","paper"] (aj ri):=by walk_at "q"
abbrev xX:Stmt:=top 33
theorem jx:aH ["drawing","lump","stands","above","cuts"] ["drawing","lump"] (aj xX):=by walk_at "q"
abbrev zW:Stmt:=top 34
theorem oM:aH ["drawing","question","rows","lump","led"] ["drawing","question"] (aj zW):=by walk_at "q"
abbrev xS:Stmt:=top 36
theorem BJ:aH ["drawing","names"] ["drawing","names"] (aj xS):=by walk_at "q"
abbrev sZ:Stmt:=top 37
theorem xQ:aH ["drawing","question","inner","outer","wished"] ["drawing","question","inner","outer"] (aj sZ):=by walk_at "q"
abbrev Am:Stmt:=top 39
theorem BR:aH ["_law_script","_law_k"] ["_law_script","_law_k"] (aj Am):=by walk_at "q"
abbrev xY:Stmt:=top 40
theorem rT:aH ["_law_unit","_law_k","_law_number"] ["_law_unit","_law_k"] (aj xY):=by walk_at "q"
abbrev Aa:Stmt:=top 41
theorem g8:aH ["_law_number","_law_least","_law_most","_law_count","_law_ties","_law_bows","_law_v","_law_u"] ["_law_number","_law_least","_law_most"] (aj Aa):=by walk_at "q"
abbrev uG:Stmt:=top 42
theorem gS:aH ["_law_number","_law_count","_law_ones","_law_asked","_law_name","_law_way"] ["_law_number","_law_count"] (aj uG):=by walk_at "q"
abbrev wz:Stmt:=top 43
theorem lR:aH ["_law_shape","_law_names","_law_ends","_law_got","_law_turn","_law_u","_law_v"] ["_law_shape","_law_names","_law_ends"] (aj wz):=by walk_at "q"
abbrev vb:Stmt:=top 44
theorem g9:aH ["_law_shape","_law_names","_law_lumps_here","_law_left","_law_lump","_law_turn","_law_u","_law_v"] ["_law_shape","_law_names"] (aj vb):=by walk_at "q"
abbrev uP:Stmt:=top 45
theorem xB:aH ["_law_shape","_law_question_here","_law_names"] ["_law_shape","_law_question_here"] (aj uP):=by walk_at "q"
abbrev yY:Stmt:=top 46
theorem xm:aH ["_law_shape","_law_names","_law_inner","_law_lump"] ["_law_shape","_law_names","_law_inner"] (aj yY):=by walk_at "q"
abbrev y4:Stmt:=top 47
theorem xC:aH ["_law_shape","_law_names","_law_k"] ["_law_shape","_law_names"] (aj y4):=by walk_at "q"
abbrev uq:Stmt:=top 48
theorem oq:aH ["_law_shape","_law_stands","_law_cut_here","_law_word","_law_names","_law_lacks"] ["_law_shape","_law_stands","_law_cut_here"] (aj uq):=by walk_at "q"
abbrev su:Stmt:=top 50
theorem oj:aH ["_law_shape","_law_stands","_law_lump","_law_got","_law_bits","_law_names"] ["_law_shape","_law_stands","_law_lump"] (aj su):=by walk_at "q"
abbrev zp:Stmt:=top 51
theorem gY:aH ["_law_shape","_law_lump","_law_number","_law_stands","_law_cuts_here","_law_ways","_law_held"] ["_law_shape","_law_lump","_law_number"] (aj zp):=by walk_at "q"
abbrev vS:Stmt:=top 53
theorem sP:aH ["_law_names","_law_number","_law_count","_law_way"] ["_law_names","_law_number","_law_count"] (aj vS):=by walk_at "q"
abbrev wm:Stmt:=top 54
theorem cE:aH ["_law_paper_here","_law_number","_law_count","_law_more","_law_at","_law_lump","_law_cuts_here","_law_way","_law_spot","_law_names","_law_cut_here"] ["_law_paper_here","_law_number","_law_count"] (aj wm):=by walk_at "q"
abbrev uk:Stmt:=top 55
theorem tL:aH ["_law_shape","_law_question_here","_law_inner","_law_outer","_law_names","_law_inside"] ["_law_shape","_law_question_here","_law_inner","_law_outer"] (aj uk):=by walk_at "q"
abbrev ug:Stmt:=top 56
theorem jF:aH ["_law_shape","_law_question_here","_law_got","_law_bits","_law_outer","_law_less","_law_inner"] ["_law_shape","_law_question_here"] (aj ug):=by walk_at "q"
abbrev rh:Stmt:=top 57
theorem cV:aH ["_law_script","_law_head","_law_shape","_law_question_here","_law_number","_law_rows","_law_lump","_law_paper_here","_law_nests_here","_law_drawing_here","_law_inner","_law_outer"] ["_law_script"] (aj rh):=by walk_at "q"
set_option genInjectivity false
structure Ad where
 a_zP:Addr
 d_zP:FuncData
 a_zD:Addr
 d_zD:FuncData
 a_zR:Addr
 d_zR:FuncData
 a_zx:Addr
 d_zx:FuncData
 a_zL:Addr
 d_zL:FuncData
 a_zo:Addr
 d_zo:FuncData
 a_za:Addr
 d_za:FuncData
 a_zd:Addr
 d_zd:FuncData
 a_zf:Addr
 d_zf:FuncData
 a_zc:Addr
 d_zc:FuncData
 a_zl:Addr
 d_zl:FuncData
 a_zh:Addr
 d_zh:FuncData
 a_zj:Addr
 d_zj:FuncData
 a_zr:Addr
 d_zr:FuncData
 a_zF:Addr
 d_zF:FuncData
 a_zy:Addr
 d_zy:FuncData
 a_zk:Addr
 d_zk:FuncData
 a_zn:Addr
 d_zn:FuncData
 a_zS:Addr
 d_zS:FuncData
 a_zE:Addr
 d_zE:FuncData
 a_zg:Addr
 d_zg:FuncData
 a_zH:Addr
 d_zH:FuncData
 a_zv:Addr
 d_zv:FuncData
 a_zQ:Addr
 d_zQ:FuncData
 a_zu:Addr
 d_zu:FuncData
 a_zA:Addr
 d_zA:FuncData
 a_zM:Addr
 d_zM:FuncData
 a_zU:Addr
 d_zU:FuncData
 a_zq:Addr
 d_zq:FuncData
 a_zT:Addr
 d_zT:FuncData
 a_zb:Addr
 d_zb:FuncData
 a_zV:Addr
 d_zV:FuncData
 a_zt:Addr
 d_zt:FuncData
 a_zN:Addr
 d_zN:FuncData
 a_zw:Addr
 d_zw:FuncData
 a_zp:Addr
 d_zp:FuncData
 a_zI:Addr
 d_zI:FuncData
 a_zC:Addr
 d_zC:FuncData
 a_zB:Addr
 d_zB:FuncData
 a_zm:Addr
 d_zm:FuncData
 a_zz:Addr
 d_zz:FuncData
 a_zO:Addr
 d_zO:FuncData
 a_ze:Addr
 d_ze:FuncData
 a_zK:Addr
 d_zK:FuncData
 a_zs:Addr
 d_zs:FuncData
 a_zi:Addr
 d_zi:FuncData
 a_zJ:Addr
 d_zJ:FuncData
 a_zG:Addr
 d_zG:FuncData
 a_zW:Addr
 d_zW:FuncData
 a_A:Addr
abbrev kX1(K:PySem.W.Frag)(a b:Addr):=PySem.W.kitOne K (.ref a) (.ref b)=some false
abbrev nX1(K:PySem.W.Frag)(x:Str)(a:Addr):=PySem.W.nsIn K mainGlobals x=some (some (.ref a))
abbrev nX2(K:PySem.W.Frag)(x:Str):=PySem.W.nsIn K mainGlobals x=some none
abbrev fX1(K:PySem.W.Frag)(c:Addr)(x:Str)(a:Addr):=PySem.W.findIn K (.ref c) x=some (some (.ref a))
structure Tx (K:PySem.W.Frag) (mg:Str→Option Value) (t:Ad):Prop where
 F_zP:Fun K "is_pair" "is_pair" yr t.a_zP t.d_zP
 B_zP:Binds K t.d_zP ["count","pair"] []
 g_zP:mg "is_pair"=some (.ref t.a_zP)
 F_zD:Fun K "are_pairs" "are_pairs" vw t.a_zD t.d_zD
 B_zD:Binds K t.d_zD ["count","pairs"] []
 g_zD:mg "are_pairs"=some (.ref t.a_zD)
 F_zR:Fun K "is_set" "is_set" zd t.a_zR t.d_zR
 B_zR:Binds K t.d_zR ["count","names"] []
 g_zR:mg "is_set"=some (.ref t.a_zR)
 F_zx:Fun K "names_up_to" "names_up_to" zj t.a_zx t.d_zx
 B_zx:Binds K t.d_zx ["count"] []
 g_zx:mg "names_up_to"=some (.ref t.a_zx)
 F_zL:Fun K "without" "without" vA t.a_zL t.d_zL
 B_zL:Binds K t.d_zL ["names","others"] []
 g_zL:mg "without"=some (.ref t.a_zL)
 F_zo:Fun K "__init__" "Drawing.__init__" rP t.a_zo t.d_zo
 B_zo:Binds K t.d_zo ["self","count","ties","bows"] []
 F_za:Fun K "need_name" "Drawing.need_name" zh t.a_za t.d_za
 B_za:Binds K t.d_za ["self","name"] []
 m_za:Meth K t.a_A "need_name" t.a_za
 F_zd:Fun K "need_set" "Drawing.need_set" zl t.a_zd t.d_zd
 B_zd:Binds K t.d_zd ["self","names"] []
 m_zd:Meth K t.a_A "need_set" t.a_zd
 F_zf:Fun K "sources" "Drawing.sources" uU t.a_zf t.d_zf
 B_zf:Binds K t.d_zf ["self","name"] []
 m_zf:Meth K t.a_A "sources" t.a_zf
 F_zc:Fun K "ancestors" "Drawing.ancestors" zD t.a_zc t.d_zc
 B_zc:Binds K t.d_zc ["self","names"] []
 m_zc:Meth K t.a_A "ancestors" t.a_zc
 F_zl:Fun K "bowed" "Drawing.bowed" sE t.a_zl t.d_zl
 B_zl:Binds K t.d_zl ["self","name"] []
 m_zl:Meth K t.a_A "bowed" t.a_zl
 F_zh:Fun K "lump_of" "Drawing.lump_of" yu t.a_zh t.d_zh
 B_zh:Binds K t.d_zh ["self","start","names"] []
 m_zh:Meth K t.a_A "lump_of" t.a_zh
 F_zj:Fun K "lumps" "Drawing.lumps" zf t.a_zj t.d_zj
 B_zj:Binds K t.d_zj ["self","names"] []
 m_zj:Meth K t.a_A "lumps" t.a_zj
 F_zr:Fun K "part" "Drawing.part" ux t.a_zr t.d_zr
 B_zr:Binds K t.d_zr ["self","names"] []
 m_zr:Meth K t.a_A "part" t.a_zr
 F_zF:Fun K "need_sets" "need_sets" xV t.a_zF t.d_zF
 B_zF:Binds K t.d_zF ["drawing","sets"] []
 g_zF:mg "need_sets"=some (.ref t.a_zF)
 F_zy:Fun K "need_apart" "need_apart" x6 t.a_zy t.d_zy
 B_zy:Binds K t.d_zy ["sets"] []
 g_zy:mg "need_apart"=some (.ref t.a_zy)
 F_zk:Fun K "need_question" "need_question" yC t.a_zk t.d_zk
 B_zk:Binds K t.d_zk ["drawing","question"] []
 g_zk:mg "need_question"=some (.ref t.a_zk)
 F_zn:Fun K "wanted_names" "wanted_names" Ac t.a_zn t.d_zn
 B_zn:Binds K t.d_zn ["drawing","question"] []
 g_zn:mg "wanted_names"=some (.ref t.a_zn)
 F_zS:Fun K "wanted" "wanted" yU t.a_zS t.d_zS
 B_zS:Binds K t.d_zS ["drawing","question"] []
 g_zS:mg "wanted"=some (.ref t.a_zS)
 F_zE:Fun K "is_within" "is_within" uD t.a_zE t.d_zE
 B_zE:Binds K t.d_zE ["names","stands"] []
 g_zE:mg "is_within"=some (.ref t.a_zE)
 F_zg:Fun K "has_its_sources" "has_its_sources" wG t.a_zg t.d_zg
 B_zg:Binds K t.d_zg ["drawing","names","stands"] []
 g_zg:mg "has_its_sources"=some (.ref t.a_zg)
 F_zH:Fun K "is_up_cut" "is_up_cut" zC t.a_zH t.d_zH
 B_zH:Binds K t.d_zH ["drawing","stands","names"] []
 g_zH:mg "is_up_cut"=some (.ref t.a_zH)
 F_zv:Fun K "is_lump_cut" "is_lump_cut" yG t.a_zv t.d_zv
 B_zv:Binds K t.d_zv ["drawing","stands","names"] []
 g_zv:mg "is_lump_cut"=some (.ref t.a_zv)
 F_zQ:Fun K "is_cut" "is_cut" zE t.a_zQ t.d_zQ
 B_zQ:Binds K t.d_zQ ["drawing","stands","cut"] []
 g_zQ:mg "is_cut"=some (.ref t.a_zQ)
 F_zu:Fun K "lump_around" "lump_around" vE t.a_zu t.d_zu
 B_zu:Binds K t.d_zu ["drawing","names","lump"] []
 g_zu:mg "lump_around"=some (.ref t.a_zu)
 F_zA:Fun K "first_lump" "first_lump" Aq t.a_zA t.d_zA
 B_zA:Binds K t.d_zA ["drawing","lump"] []
 g_zA:mg "first_lump"=some (.ref t.a_zA)
 F_zM:Fun K "lead_to" "lead_to" yL t.a_zM t.d_zM
 B_zM:Binds K t.d_zM ["drawing","lump","cuts"] []
 g_zM:mg "lead_to"=some (.ref t.a_zM)
 F_zU:Fun K "lets" "lets" ri t.a_zU t.d_zU
 B_zU:Binds K t.d_zU ["drawing","question","paper"] []
 g_zU:mg "lets"=some (.ref t.a_zU)
 F_zq:Fun K "cuts_towards" "cuts_towards" xX t.a_zq t.d_zq
 B_zq:Binds K t.d_zq ["drawing","lump"] []
 g_zq:mg "cuts_towards"=some (.ref t.a_zq)
 F_zT:Fun K "comes" "comes" zW t.a_zT t.d_zT
 B_zT:Binds K t.d_zT ["drawing","question"] []
 g_zT:mg "comes"=some (.ref t.a_zT)
 F_zb:Fun K "is_lump_of_itself" "is_lump_of_itself" xS t.a_zb t.d_zb
 B_zb:Binds K t.d_zb ["drawing","names"] []
 g_zb:mg "is_lump_of_itself"=some (.ref t.a_zb)
 F_zV:Fun K "bars" "bars" sZ t.a_zV t.d_zV
 B_zV:Binds K t.d_zV ["drawing","question","inner","outer"] []
 g_zV:mg "bars"=some (.ref t.a_zV)
 F_zt:Fun K "_law_cell_at" "_law_cell_at" Am t.a_zt t.d_zt
 B_zt:Binds K t.d_zt ["_law_script","_law_k"] []
 g_zt:mg "_law_cell_at"=some (.ref t.a_zt)
 F_zN:Fun K "_law_mix" "_law_mix" xY t.a_zN t.d_zN
 B_zN:Binds K t.d_zN ["_law_unit","_law_k"] []
 g_zN:mg "_law_mix"=some (.ref t.a_zN)
 F_zw:Fun K "_law_drawing" "_law_drawing" Aa t.a_zw t.d_zw
 B_zw:Binds K t.d_zw ["_law_number","_law_least","_law_most"] []
 g_zw:mg "_law_drawing"=some (.ref t.a_zw)
 F_zp:Fun K "_law_question" "_law_question" uG t.a_zp t.d_zp
 B_zp:Binds K t.d_zp ["_law_number","_law_count"] []
 g_zp:mg "_law_question"=some (.ref t.a_zp)
 F_zI:Fun K "_law_upper" "_law_upper" wz t.a_zI t.d_zI
 B_zI:Binds K t.d_zI ["_law_shape","_law_names","_law_ends"] []
 g_zI:mg "_law_upper"=some (.ref t.a_zI)
 F_zC:Fun K "_law_lumps" "_law_lumps" vb t.a_zC t.d_zC
 B_zC:Binds K t.d_zC ["_law_shape","_law_names"] []
 g_zC:mg "_law_lumps"=some (.ref t.a_zC)
 F_zB:Fun K "_law_wanted" "_law_wanted" uP t.a_zB t.d_zB
 B_zB:Binds K t.d_zB ["_law_shape","_law_question_here"] []
 g_zB:mg "_law_wanted"=some (.ref t.a_zB)
 F_zm:Fun K "_law_lump_with" "_law_lump_with" yY t.a_zm t.d_zm
 B_zm:Binds K t.d_zm ["_law_shape","_law_names","_law_inner"] []
 g_zm:mg "_law_lump_with"=some (.ref t.a_zm)
 F_zz:Fun K "_law_is_set" "_law_is_set" y4 t.a_zz t.d_zz
 B_zz:Binds K t.d_zz ["_law_shape","_law_names"] []
 g_zz:mg "_law_is_set"=some (.ref t.a_zz)
 F_zO:Fun K "_law_cut" "_law_cut" uq t.a_zO t.d_zO
 B_zO:Binds K t.d_zO ["_law_shape","_law_stands","_law_cut_here"] []
 g_zO:mg "_law_cut"=some (.ref t.a_zO)
 F_ze:Fun K "_law_closed_sets" "_law_closed_sets" su t.a_ze t.d_ze
 B_ze:Binds K t.d_ze ["_law_shape","_law_stands","_law_lump"] []
 g_ze:mg "_law_closed_sets"=some (.ref t.a_ze)
 F_zK:Fun K "_law_cuts" "_law_cuts" zp t.a_zK t.d_zK
 B_zK:Binds K t.d_zK ["_law_shape","_law_lump","_law_number"] []
 g_zK:mg "_law_cuts"=some (.ref t.a_zK)
 F_zs:Fun K "_law_bent_set" "_law_bent_set" vS t.a_zs t.d_zs
 B_zs:Binds K t.d_zs ["_law_names","_law_number","_law_count"] []
 g_zs:mg "_law_bent_set"=some (.ref t.a_zs)
 F_zi:Fun K "_law_bent_paper" "_law_bent_paper" wm t.a_zi t.d_zi
 B_zi:Binds K t.d_zi ["_law_paper_here","_law_number","_law_count"] []
 g_zi:mg "_law_bent_paper"=some (.ref t.a_zi)
 F_zJ:Fun K "_law_bars" "_law_bars" uk t.a_zJ t.d_zJ
 B_zJ:Binds K t.d_zJ ["_law_shape","_law_question_here","_law_inner","_law_outer"] []
 g_zJ:mg "_law_bars"=some (.ref t.a_zJ)
 F_zG:Fun K "_law_nests" "_law_nests" ug t.a_zG t.d_zG
 B_zG:Binds K t.d_zG ["_law_shape","_law_question_here"] []
 g_zG:mg "_law_nests"=some (.ref t.a_zG)
 F_zW:Fun K "law" "law" rh t.a_zW t.d_zW
 B_zW:Binds K t.d_zW ["_law_script"] []
 g_zW:mg "law"=some (.ref t.a_zW)
 g_A:mg "Drawing"=some (.ref t.a_A)
 cl_A:Cls K t.a_A
 mk_A:Mk K t.a_A t.a_zo
 b_all:mg "all"=none
 b_any:mg "any"=none
 b_enumerate:mg "enumerate"=none
 b_int:mg "int"=none
 b_len:mg "len"=none
 b_list:mg "list"=none
 b_range:mg "range"=none
 b_reversed:mg "reversed"=none
 b_set:mg "set"=none
 b_sorted:mg "sorted"=none
 b_tuple:mg "tuple"=none
 c_MOST_BOWS:∃u,mg "MOST_BOWS"=some u/\RelV (.int 6) u
 c_MOST_NAMES:∃u,mg "MOST_NAMES"=some u/\RelV (.int 6) u
 nfA_bows:c7 K t.a_A "bows"
 nfA_count:c7 K t.a_A "count"
 nfA_ties:c7 K t.a_A "ties"
section
variable {P:Program}{w:World}{K:PySem.W.Frag}{mg:Str->Option Value}{base:Heap}{t:Ad}
open DM (P2 Good)
def DF(c:Int)(ts bs:List P2):List (Str×PV):=[("count",.int c),("ties",.tup (ts.map prV)),("bows",.tup (bs.map prV))]
def Srt(l:List P2):Prop:=l.Pairwise (fun x y=>ST.pk x<ST.pk y)
def Row(H:PHp)(y:PV)(p:P2):Prop:=y=prV p∨∃r,y=.ref r/\H r=some (.lst [.int p.1,.int p.2])
abbrev Rows(H:PHp):List PV->List P2->Prop:=Paired (Row H)
def ff:Sp':=fun vs H Q _=>match vs with
 | [.int c,.tup [.int u,.int v]]=>(0≤u/\u<v/\v<c)/\Q (.bl true) H
 | _=>False
theorem tU{c u v:Int}{H:PHp}{Q:VK'}{E:XK'}:ff [.int c,.tup [.int u,.int v]] H Q E=((0≤u/\u<v/\v<c)/\Q (.bl true) H):=rfl
def dj:Sp':=fun vs H Q _=>match vs with
 | [.int c,.ref a]=>∃ps,H a=some (.lst (ps.map prV))/\Good c ps/\c≤6/\Q (.bl true) H
 | _=>False
theorem nG{c:Int}{a:Addr}{H:PHp}{Q:VK'}{E:XK'}:dj [.int c,.ref a] H Q E=∃ps,H a=some (.lst (ps.map prV))/\Good c ps/\c≤6/\Q (.bl true) H:=rfl
def iw(t:Ad):Sp':=fun vs H Q _=>match vs with
 | [.ref x,.int c,.ref a,.ref b]=>∃dx ys zs ps qs,H x=some (.ins t.a_A dx [])/\H a=some (.lst ys)/\H b=some (.lst zs)/\Rows H ys ps/\Rows H zs qs/\Good c ps/\Good c qs/\(1≤c/\c≤6/\qs.length≤6) /\
  ∀ts bs,ts.Perm ps->Srt ts->bs.Perm qs->Srt bs->Q .non (put H x (.ins t.a_A dx (DF c ts bs)))
 | _=>False
theorem xT{x a b:Addr}{c:Int}{H:PHp}{Q:VK'}{E:XK'}:iw t [.ref x,.int c,.ref a,.ref b] H Q E=∃dx ys zs ps qs,H x=some (.ins t.a_A dx [])/\H a=some (.lst ys)/\H b=some (.lst zs)/\Rows H ys ps/\Rows H zs qs/\Good c ps/\Good c qs/\(1≤c/\c≤6/\qs.length≤6) /\
  ∀ts bs,ts.Perm ps->Srt ts->bs.Perm qs->Srt bs->Q .non (put H x (.ins t.a_A dx (DF c ts bs))):=rfl
def dm(t:Ad):Sp':=fun vs H Q _=>match vs with
 | [.ref x,.int n]=>∃dx c ts bs,H x=some (.ins t.a_A dx (DF c ts bs))/\(0≤n/\n<c)/\Q .non H
 | _=>False
theorem mD{x:Addr}{n:Int}{H:PHp}{Q:VK'}{E:XK'}:dm t [.ref x,.int n] H Q E=∃dx c ts bs,H x=some (.ins t.a_A dx (DF c ts bs))/\(0≤n/\n<c)/\Q .non H:=rfl
def dO(t:Ad):Sp':=fun vs H Q _=>match vs with
 | [.ref x,.int n]=>∃dx c ts bs,H x=some (.ins t.a_A dx (DF c ts bs))/\(0≤n/\n<c)/\ts.length≤15/\Q (.tup (((ts.filter (fun p=>decide (p.2=n))).map (·.1)).map PV.int)) H
 | _=>False
theorem pL{x:Addr}{n:Int}{H:PHp}{Q:VK'}{E:XK'}:dO t [.ref x,.int n] H Q E=∃dx c ts bs,H x=some (.ins t.a_A dx (DF c ts bs))/\(0≤n/\n<c)/\ts.length≤15/\Q (.tup (((ts.filter (fun p=>decide (p.2=n))).map (·.1)).map PV.int)) H:=rfl
def iu:Sp':=fun vs H Q _=>match vs with
 | [.fls l,.int k]=>(0≤k/\k<100)/\∃ns:List Int,l=ns.map PV.int/\Q (.int (ns.getD k.toNat 0)) H
 | _=>False
theorem Al{l:List PV}{k:Int}{H:PHp}{Q:VK'}{E:XK'}:iu [.fls l,.int k] H Q E=((0≤k/\k<100)/\∃ns:List Int,l=ns.map PV.int/\Q (.int (ns.getD k.toNat 0)) H):=rfl
theorem fH{l:List PV}{i:Nat}(h:i<l.length):atI l ((i:Nat):Int)=some l[i]:=by
 unfold atI ixN;rw[Fp (by omega),Fp (by omega)];show l[((i:Nat):Int).toNat]?=_;rw[F2,EY h]
theorem rN{α β:Type}{R:α->β->Prop}{x:α}{l:List α}{m:List β}(h:Paired R l m)(hx:x∈l):∃y∈m,R x y:=by
 induction h with
 | nil=>cases hx
 | cons h t ih =>
  rcases Fn.mp hx with rfl | hx
  ·exact⟨_,E7,h⟩
  ·obtain⟨y,hy,r⟩:=ih hx;exact⟨y,Ff _ hy,r⟩
theorem fm{a b:Int}(h:0<b):0≤a.fmod b/\a.fmod b<b:=by
 rw[Int.fmod_eq_emod_of_nonneg _ (by omega)];exact⟨Int.emod_nonneg _ (by omega),Int.emod_lt_of_pos _ h⟩
theorem tK{A B:PHp}{x:Addr}{o:PO}(s:∀a u,a≠x->A a=some u->B a=some u)(h:B x=some o):U.Sub (put A x o) B:=fun a u e=>by
 by_cases q:a=x
 ·subst q;rw[ai]at e;cases e;exact h
 ·rw[ao q]at e;exact s a u q e
theorem iF{f:Str}{v:PV}:∀{fs:List (Str×PV)},(jk f v fs).length≤fs.length+1
 | []=>by simp[jk]
 |(g,y)::r=>by
  unfold jk;split
  ·simp
  ·have:=iF (f:=f) (v:=v) (fs:=r);simp only[Fs];omega
theorem dv{i j:Int}(h:j≠0)(f:j.natAbs<2 ^ 64):oU i j:=⟨h,(show My.BN 64 j from f).fit (by decide)⟩
def tS(H:PHp)(y:PV):PV:=match y with
 | .ref r=>(match H r with | some (.lst l)=>.tup l | _=>.non)
 | y=>y
theorem iJ{H:PHp}{r:Addr}{l:List PV}(h:H r=some (.lst l)):tS H (.ref r)=.tup l:=by
 unfold tS;dsimp only;rw[h]
theorem lG{H:PHp}{ys:List PV}{ps:List P2}(h:Rows H ys ps):ys.map (tS H)=ps.map prV:=by
 induction h with
 | nil=>rfl
 | cons h t ih =>
  rw[E8,E8,ih];congr 1;rcases h with rfl |⟨r,rfl,hr⟩
  ·rfl
  ·exact iJ hr
theorem Rows.up{H H1:PHp}{ys:List PV}{ps:List P2}(h:Rows H ys ps)(s:U.Sub H H1):Rows H1 ys ps:=Paired.mapP h fun y p r=>r.elim .inl fun⟨q,e,hq⟩=>.inr ⟨q,e,s _ _ hq⟩
theorem eJ{H:PHp}:∀{ps:List P2},Rows H (ps.map prV) ps
 | []=>.nil
 | _::_=>.cons (.inl rfl) eJ
def at1(n:Int)(y:PV):Bool:=match y with | .tup [.int _,.int v]=>decide (v=n) | _=>false
def at0(n:Int)(y:PV):Bool:=match y with | .tup [.int u,.int _]=>decide (u=n) | _=>false
def g0(y:PV):PV:=match y with | .tup [u,_]=>u | _=>.non
def g1(y:PV):PV:=match y with | .tup [_,v]=>v | _=>.non
theorem src_list{n:Int}:∀{ts:List P2},((ts.map prV).filter (at1 n)).map g0=((ts.filter (fun p=>decide (p.2=n))).map (·.1)).map PV.int
 | []=>rfl
 | p::ts=>by
  have e:at1 n (prV p)=decide (p.2=n):=rfl;rw[E8,Fz,Fz,e];by_cases q:decide (p.2=n)=true
  ·rw[Fp q,Fp q,E8,E8,E8,src_list];rfl
  ·rw[Fh q,Fh q,src_list]
theorem iG{n:Int}:∀{ts:List P2},((ts.map prV).filter (at0 n)).map g1=((ts.filter (fun p=>decide (p.1=n))).map (·.2)).map PV.int
 | []=>rfl
 | p::ts=>by
  have e:at0 n (prV p)=decide (p.1=n):=rfl;rw[E8,Fz,Fz,e];by_cases q:decide (p.1=n)=true
  ·rw[Fp q,Fp q,E8,E8,E8,iG];rfl
  ·rw[Fh q,Fh q,iG]
structure GJ (v j:Int) (l:List P2):Prop where
 nd:l.Nodup
 lo:∀p∈l,0≤p.1/\p.1<p.2/\(p.2<v∨(p.2=v/\p.1<j))
theorem GJ.app{v j:Int}{l:List P2}(h:GJ v j l)(h0:0≤j)(hj:j<v):GJ v (j+1) (l++[(j,v)]):=by
 refine⟨List.nodup_append.mpr ⟨h.nd,by simp,?_⟩,fun p hp=>?_⟩
 ·intro a ha b hb e;rw[E5]at hb;subst hb;subst e;have:=h.lo _ ha;simp only at this;omega
 ·rcases E9.mp hp with hp | hp
  ·have:=h.lo p hp;omega
  ·rw[E5]at hp;subst hp;exact⟨h0,hj,.inr ⟨rfl,Int.lt_succ j⟩⟩
theorem GJ.up{v j:Int}{l:List P2}(h:GJ v j l):GJ v (j+1) l:=⟨h.nd,fun p hp=>by have:=h.lo p hp;omega⟩
theorem GJ.of{v:Int}{l:List P2}(h:Good v l):GJ v 0 l:=⟨h.nd,fun p hp=>by have:=h.lo p hp;omega⟩
theorem GJ.good{v:Int}{l:List P2}(h:GJ v v l):Good (v+1) l:=⟨h.nd,fun p hp=>by have:=h.lo p hp;omega⟩
theorem ar{l:List Int}:(l.map PV.int).all (flat 8)=true:=by
 rw[FC];intro z hz;obtain⟨p,_,rfl⟩:=Fg.mp hz;rfl
theorem aR{l:List Int}{n:Int}:((l.map PV.int).any fun z=>deq z (.int n))=decide (n∈l):=by
 rw[Gq,GN,FJ];constructor
 ·rintro⟨z,hz,e⟩;obtain⟨p,hp,rfl⟩:=Fg.mp hz;have:p=n:=by simpa[deq]using e
  rw[←this];exact hp
 ·intro h;exact⟨_,Fg.mpr ⟨_,h,rfl⟩,by simp[deq]⟩
def swp(p:P2):P2:=(p.2,p.1)
structure Nms (c:Int) (L:List Int):Prop where
 up:L.Pairwise (·<·)
 lo:∀x∈L,0≤x/\x<c
theorem Nms.nd{c:Int}{L:List Int}(h:Nms c L):L.Nodup:=h.up.imp fun h=>by omega
theorem Nms.len{c:Int}{L:List Int}(h:Nms c L)(hc:c≤6):L.length≤6:=My.dz 6 L h.nd fun x hx=>by have:=h.lo x hx;omega
def Ins(t:Ad)(H:PHp)(x:Addr)(c:Int)(ts:List P2):Prop:=∃dx bs,H x=some (.ins t.a_A dx (DF c ts bs))
theorem Ins.up{t:Ad}{H H1:PHp}{x:Addr}{c:Int}{ts:List P2}(h:Ins t H x c ts)(s:U.Sub H H1):Ins t H1 x c ts:=by
 obtain⟨dx,bs,e⟩:=h;exact⟨dx,bs,s _ _ e⟩
def dW(t:Ad):Sp':=fun vs H Q _=>match vs with
 | [.ref x,.tup l]=>∃c ts,∃L:List Int,Ins t H x c ts/\l=L.map PV.int/\Nms c L/\Q .non H
 | _=>False
theorem pR{x:Addr}{l:List PV}{H:PHp}{Q:VK'}{E:XK'}:dW t [.ref x,.tup l] H Q E=∃c ts,∃L:List Int,Ins t H x c ts/\l=L.map PV.int/\Nms c L/\Q .non H:=rfl
def jU(t:Ad)(f:P2->P2):Sp':=fun vs H Q _=>match vs with
 | [.ref x,.tup l]=>∃c ts,∃L:List Int,Ins t H x c ts/\l=L.map PV.int/\Nms c L/\(1≤c/\c≤6)/\Good c ts/\∀M:List Int,M.Pairwise (·<·)->(∀y,y∈M↔My.Reach (ts.map f) L y)->Q (.tup (M.map PV.int)) H
 | _=>False
theorem A8{f:P2->P2}{x:Addr}{l:List PV}{H:PHp}{Q:VK'}{E:XK'}:jU t f [.ref x,.tup l] H Q E=∃c ts,∃L:List Int,Ins t H x c ts/\l=L.map PV.int/\Nms c L/\(1≤c/\c≤6)/\Good c ts/\∀M:List Int,M.Pairwise (·<·)->(∀y,y∈M↔My.Reach (ts.map f) L y)->Q (.tup (M.map PV.int)) H:=rfl
def Cw(b:Bool):P2->P2:=if b then swp else fun p=>p
theorem kM{c:Int}{E:List P2}{S:List Int}(hE:∀a b,(a,b)∈E->0≤b/\b<c)(hS:∀x∈S,0≤x/\x<c){y:Int}(r:My.Reach E S y):0≤y/\y<c:=by
 cases r with
 | base h=>exact hS _ h
 | step _ e=>exact hE _ _ e
def onI(q:Int->Bool)(y:PV):Bool:=match y with | .int u=>q u | _=>false
theorem dc{m:Nat}{q:Int->Bool}:((b7 0 m).filter (onI q)).map (fun x=>x)=(((List.range m).map fun k=>((k:Nat):Int)).filter q).map PV.int:=by
 unfold b7;rw[List.map_id'' (fun _=>rfl)];generalize List.range m=l
 induction l with
 | nil=>rfl
 | cons k l ih =>
  rw[E8,E8,Fz,Fz];simp only[Int.zero_add]at ih ⊢;have e:onI q (PV.int ((k:Nat):Int))=q k:=rfl;rw[e];by_cases h:q (k:Int)=true
  ·rw[Fp h,Fp h,E8,ih]
  ·rw[Fh h,Fh h,ih]
theorem fj{m:Nat}{y:PV}(h:y∈b7 0 m):∃u,y=.int u/\0≤u:=by
 unfold b7 at h;obtain⟨k,_,rfl⟩:=Fg.mp h;exact⟨_,rfl,by omega⟩
theorem fk{m:Nat}:(b7 0 m).length=m:=by unfold b7;simp
def ulN(c:Int):List Int:=(List.range c.toNat).map fun k=>((k:Nat):Int)
def dlN(c:Int):List Int:=(List.range c.toNat).map fun k=>c - 1 - ((k:Nat):Int)
theorem jb(c:Int):(ulN c).Pairwise (·<·):=by
 unfold ulN;rw[GW];exact List.pairwise_lt_range.imp fun h=>by omega
theorem oA(c:Int):(dlN c).Pairwise (·>·):=by
 unfold dlN;rw[GW];refine List.Pairwise.imp (fun {a b} h=>?_) (List.pairwise_lt_range (n:=c.toNat));show c - 1 - ((a:Nat):Int)>c - 1 - ((b:Nat):Int);omega
theorem bG{c x:Int}:x∈ulN c↔0≤x/\x<c:=by
 unfold ulN;simp only[Fg,FL];constructor
 ·rintro⟨k,hk,rfl⟩;omega
 ·intro h;exact⟨x.toNat,by omega,by omega⟩
theorem ku{c x:Int}:x∈dlN c↔0≤x/\x<c:=by
 unfold dlN;simp only[Fg,FL];constructor
 ·rintro⟨k,hk,rfl⟩;omega
 ·intro h;exact⟨(c - 1 - x).toNat,by omega,by omega⟩
theorem y0{R:Int->Int->Prop}{E:List P2}{L:List Int}(hp:L.Pairwise R)(as:∀a b,R a b->¬R b a)(hE:∀a b,(a,b)∈E->a∈L/\R a b):My.Fwd E L:=by
 intro a b e L1 L2 hl hb;obtain⟨ha,hr⟩:=hE a b e;rw[hl]at ha hp;rcases E9.mp ha with h | h
 ·exact h
 ·exact absurd ((List.pairwise_append.mp hp).2.2 b hb a h) (as _ _ hr)
theorem eS{ts:List P2}{a b:Int}:(a,b)∈ts.map swp↔(b,a)∈ts:=by
 rw[Fg];constructor
 ·rintro⟨p,hp,e⟩;unfold swp at e;cases e;exact hp
 ·intro h;exact⟨_,h,rfl⟩
theorem rR{c:Int}{ts:List P2}{L:List Int}(g:Good c ts)(y:Int):y∈(dlN c).foldl (My.b4 (ts.map swp)) L↔My.Reach (ts.map swp) L y:=by
 refine My.pI (fun a b e=>?_) (y0 (oA c) (fun a b h=>by omega) fun a b e=>?_) ((oA c).imp fun h=>by omega) y
 ·have:=g.lo _ (eS.mp e);simp only at this;exact ku.mpr ⟨by omega,by omega⟩
 ·have:=g.lo _ (eS.mp e);simp only at this;exact⟨ku.mpr ⟨by omega,by omega⟩,by omega⟩
theorem mf{n:Int}:∀{ts:List P2},My.outs (ts.map swp) n=(ts.filter (fun p=>decide (p.2=n))).map (·.1)
 | []=>rfl
 | p::ts=>by
  have ih:=mf (n:=n) (ts:=ts);unfold My.outs at ih ⊢;rw[E8,Fz,Fz];by_cases h:decide (p.2=n)=true
  ·have h':decide ((swp p).1=n)=true:=h;rw[Fp h,Fp h',E8,E8,ih];rfl
  ·have h':¬decide ((swp p).1=n)=true:=h;rw[Fh h,Fh h',ih]
theorem sV{E:List P2}{n:Int}:(My.outs E n).length≤E.length:=by
 unfold My.outs;rw[EW];exact Gi _ _
theorem o1{E:List P2}{f:List Int}{n:Int}:(My.b4 E f n).length≤f.length+E.length:=by
 unfold My.b4;split
 ·rw[E3];have:=sV (E:=E) (n:=n);omega
 ·omega
theorem gA{α β:Type}{f:β->α->β}{l:List α}{i:Nat}{b:β}{x:α}(h:l[i]?=some x):(l.take (i+1)).foldl f b=f ((l.take i).foldl f b) x:=by
 rw[F6,h,List.foldl_append];rfl
theorem el{E:List P2}:∀(n:Nat) (f:List Int),My.bY E (n+1) f=My.cu E (My.bY E n f)
 | 0,f=>rfl
 | n+1,f=>by
  show My.bY E (n+1) (My.cu E f)=_;rw[el n];rfl
theorem rB{c:Int}{ps:List P2}(g:Good c ps)(b:Bool):∀x y,(x,y)∈ps.map (Cw b)->0≤y/\y<c:=by
 intro x y h;obtain⟨p,hp,e⟩:=Fg.mp h;have:=g.lo p hp;cases b with
 | true=>have e':swp p=(x,y):=e;unfold swp at e';cases e';omega
 | false=>have e':p=(x,y):=e;subst e';simp only at this;omega
theorem qh{c:Int}{F:List Int}{ms:List Nat}{R:Int->Prop}(hc:c≤6)(hF:∀x∈F,0≤x/\x<c)(hR:∀y,y∈F↔R y)(hs:ms.Pairwise (·<·))(hm:∀x,x∈ms↔x∈F.map Int.toNat) :
  ((ms.map fun(n:Nat)=>(n:Int)).Pairwise (·<·))/\∀y,y∈(ms.map fun(n:Nat)=>(n:Int))↔R y:=by
 constructor
 ·rw[GW];exact hs.imp fun h=>by omega
 ·intro y;rw[←hR,Fg];constructor
  ·rintro⟨n,hn,rfl⟩;obtain⟨z,hz,e⟩:=Fg.mp ((hm n).mp hn);have:=hF z hz;have:((n:Nat):Int)=z:=by omega
   rw[this];exact hz
  ·intro h;have:=hF y h;exact⟨y.toNat,(hm _).mpr (Fg.mpr ⟨y,h,rfl⟩),by omega⟩
def fT(t:Ad):Sp':=fun vs H Q _=>match vs with
 | [.ref x,.int n]=>∃dx c ts bs,H x=some (.ins t.a_A dx (DF c ts bs))/\(0≤n/\n<c)/\bs.length≤15/\Q (.tup (((bs.filter (fun p=>decide (p.2=n))).map (·.1)++(bs.filter (fun p=>decide (p.1=n))).map (·.2)).map PV.int)) H
 | _=>False
theorem oE{x:Addr}{n:Int}{H:PHp}{Q:VK'}{E:XK'}:fT t [.ref x,.int n] H Q E=∃dx c ts bs,H x=some (.ins t.a_A dx (DF c ts bs))/\(0≤n/\n<c)/\bs.length≤15/\Q (.tup (((bs.filter (fun p=>decide (p.2=n))).map (·.1)++(bs.filter (fun p=>decide (p.1=n))).map (·.2)).map PV.int)) H:=rfl
def tJ(bs:List P2)(L:List Int):List P2:=bs.filter fun p=>decide (p.1∈L)&&decide (p.2∈L)
def both(bs:List P2)(L:List Int):List P2:=tJ bs L++(tJ bs L).map swp
theorem bO{bs:List P2}{L:List Int}{a b:Int}:(a,b)∈both bs L↔a∈L/\b∈L/\((a,b)∈bs∨(b,a)∈bs):=by
 unfold both tJ;rw[E9,eS,Fq,Fq];simp only[Gg,FJ];constructor
 ·rintro(⟨h1,h2,h3⟩ |⟨h1,h2,h3⟩)
  ·exact⟨h2,h3,.inl h1⟩
  ·exact⟨h3,h2,.inr h1⟩
 ·rintro⟨h1,h2,h3 | h3⟩
  ·exact .inl ⟨h3,h1,h2⟩
  ·exact .inr ⟨h3,h2,h1⟩
def eV(t:Ad):Sp':=fun vs H Q _=>match vs with
 | [.ref x,.int n,.tup l]=>∃dx c ts bs,∃L:List Int,H x=some (.ins t.a_A dx (DF c ts bs))/\l=L.map PV.int/\Nms c L/\(1≤c/\c≤6)/\Good c bs/\n∈L/\∀M:List Int,M.Pairwise (·<·)->(∀y,y∈M↔My.Reach (both bs L) [n] y)->Q (.tup (M.map PV.int)) H
 | _=>False
theorem qR{x:Addr}{n:Int}{l:List PV}{H:PHp}{Q:VK'}{E:XK'}:eV t [.ref x,.int n,.tup l] H Q E=∃dx c ts bs,∃L:List Int,H x=some (.ins t.a_A dx (DF c ts bs))/\l=L.map PV.int/\Nms c L/\(1≤c/\c≤6)/\Good c bs/\n∈L/\∀M:List Int,M.Pairwise (·<·)->(∀y,y∈M↔My.Reach (both bs L) [n] y)->Q (.tup (M.map PV.int)) H:=rfl
inductive cM (E:List P2):List Int→List (List Int)→Prop where
 | nil:cM E [] []
 | cons {x:Int} {R:List Int} {M:List Int} {Ls:List (List Int)} (up:M.Pairwise (·<·)) (iff:∀y,y∈M↔My.Reach E [x] y) (h:cM E (R.filter fun y=>!decide (y∈M)) Ls):cM E (x::R) (M::Ls)
theorem cM.one{E:List P2}{L:List Int}{A:List (List Int)}(h:cM E L A):∀{B:List (List Int)},cM E L B->A=B:=by
 induction h with
 | nil=>intro B hB;cases hB;rfl
 | cons up iff h ih =>
  intro B hB;cases hB with
  | cons up2 iff2 h2 =>
   have e:=My.bS up up2 fun y=>(iff y).trans (iff2 y).symm;subst e;rw[ih h2]
def tupI(M:List Int):PV:=.tup (M.map PV.int)
def fM(t:Ad):Sp':=fun vs H Q _=>match vs with
 | [.ref x,.tup l]=>∃dx c ts bs,∃L:List Int,H x=some (.ins t.a_A dx (DF c ts bs))/\l=L.map PV.int/\Nms c L/\(1≤c/\c≤6)/\Good c bs/\∀r Ls,H r=none->cM (both bs L) L Ls->Ls.length≤6->(∀M∈Ls,M.length≤6)->Q (.ref r) (put H r (.lst (Ls.map tupI)))
 | _=>False
theorem wJ{x:Addr}{l:List PV}{H:PHp}{Q:VK'}{E:XK'}:fM t [.ref x,.tup l] H Q E=∃dx c ts bs,∃L:List Int,H x=some (.ins t.a_A dx (DF c ts bs))/\l=L.map PV.int/\Nms c L/\(1≤c/\c≤6)/\Good c bs/\∀r Ls,H r=none->cM (both bs L) L Ls->Ls.length≤6->(∀M∈Ls,M.length≤6)->Q (.ref r) (put H r (.lst (Ls.map tupI))):=rfl
def inL(L:List Int)(y:PV):Bool:=match y with | .tup [.int u,.int v]=>decide (u∈L)&&decide (v∈L) | _=>false
theorem wA{c:Int}{bs:List P2}{L:List Int}(hL:Nms c L):∀x y,(x,y)∈both bs L->0≤y/\y<c:=fun x y h=>hL.lo y (bO.mp h).2.1
structure Iv (E:List P2) (L:List Int) (n:Int) (open':List Int) (ks ws:List Int):Prop where
 st:n∈ks
 nd:ks.Nodup
 re:∀y∈ks,My.Reach E [n] y
 inl:∀y∈ks,y∈L
 sub:∀y∈ws,y∈ks
 cl:∀a∈ks,a∉ws->a∉open'->∀b,(a,b)∈E->b∈ks
theorem Iv.add{E:List P2}{L:List Int}{n y z:Int}{ks ws:List Int}(h:Iv E L n [y] ks ws)(hy:y∈ks)(e:(y,z)∈E)(hz:z∈L)(hn:z∉ks):Iv E L n [y] (ks++[z]) (ws++[z]):=by
 refine⟨FE _ h.st,?_,fun a ha=>?_,fun a ha=>?_,fun a ha=>?_,fun a ha hw ho b hb=>?_⟩
 ·rw[List.nodup_append];refine⟨h.nd,by simp,fun a ha b hb e2=>?_⟩;rw[E5]at hb;rw[e2,hb]at ha;exact hn ha
 ·rcases E9.mp ha with ha | ha
  ·exact h.re a ha
  ·rw[E5]at ha;subst ha;exact .step (h.re y hy) e
 ·rcases E9.mp ha with ha | ha
  ·exact h.inl a ha
  ·rw[E5]at ha;subst ha;exact hz
 ·rcases E9.mp ha with ha | ha
  ·exact FE _ (h.sub a ha)
  ·exact Fw _ ha
 ·rcases E9.mp ha with ha | ha
  ·exact FE _ (h.cl a ha (fun q=>hw (FE _ q)) ho b hb)
  ·exact absurd (Fw _ ha) hw
theorem Iv.done{E:List P2}{L:List Int}{n:Int}{ks:List Int}(h:Iv E L n [] ks [])(y:Int):y∈ks↔My.Reach E [n] y:=by
 constructor
 ·exact h.re y
 ·intro r
  induction r with
  | base hb=>rw[E5]at hb;subst hb;exact h.st
  | step _ e ih=>exact h.cl _ ih (by simp) (by simp) _ e
theorem mN{placed:List Int}{l:List Int}{i:Nat}{x:Int}(hi:l[i]?=some x)(hx:x∈placed):(l.drop i).filter (fun y=>!decide (y∈placed))=(l.drop (i+1)).filter fun y=>!decide (y∈placed):=by
 obtain⟨h,e⟩:=E6.mp hi;rw[Ge h,Fz,e,Fh (by simp[hx])]
theorem mU{placed M:List Int}{l:List Int}{i:Nat}{x:Int}(hi:l[i]?=some x)(hx:x∉placed) :
  (l.drop i).filter (fun y=>!decide (y∈placed))=x::(l.drop (i+1)).filter (fun y=>!decide (y∈placed))/\((l.drop (i+1)).filter (fun y=>!decide (y∈placed))).filter (fun y=>!decide (y∈M))=(l.drop (i+1)).filter fun y=>!decide (y∈placed++M):=by
 obtain⟨h,e⟩:=E6.mp hi;constructor
 ·rw[Ge h,Fz,e,Fp (by simp[hx])]
 ·rw[List.filter_filter];refine List.filter_congr fun y _=>?_;rw[Gq];simp only[Gg,Bool.not_eq_true',decide_eq_false_iff_not,E9,not_or];exact⟨fun h=>⟨h.2,h.1⟩,fun h=>⟨h.2,h.1⟩⟩
theorem Iv.opn{E:List P2}{L:List Int}{n y:Int}{ks w:List Int}(h:Iv E L n [] ks (w++[y])):Iv E L n [y] ks w :=
 ⟨h.st,h.nd,h.re,h.inl,fun a ha=>h.sub a (FE _ ha),fun a ha hw ho=>h.cl a ha (fun q=>(E9.mp q).elim hw ho) (by simp)⟩
theorem Iv.close{E:List P2}{L:List Int}{n y:Int}{ks ws:List Int}(h:Iv E L n [y] ks ws)(hy:∀b,(y,b)∈E->b∈ks):Iv E L n [] ks ws :=
 ⟨h.st,h.nd,h.re,h.inl,h.sub,fun a ha hw _ b hb=>by
  by_cases e:a=y
  ·subst e;exact hy b hb
  ·exact h.cl a ha hw (by simp[e]) b hb⟩
theorem qE{bs:List P2}{n b:Int}:b∈(bs.filter (fun p=>decide (p.2=n))).map (·.1)++(bs.filter (fun p=>decide (p.1=n))).map (·.2)↔((n,b)∈bs∨(b,n)∈bs):=by
 rw[E9,Fg,Fg];constructor
 ·rintro(⟨⟨u,v⟩,h,rfl⟩ |⟨⟨u,v⟩,h,rfl⟩)
  ·rw[Fq]at h;have e:v=n:=Gk h.2;subst e;exact .inr h.1
  ·rw[Fq]at h;have e:u=n:=Gk h.2;subst e;exact .inl h.1
 ·rintro(h | h)
  ·exact .inr ⟨_,Fq.mpr ⟨h,FO rfl⟩,rfl⟩
  ·exact .inl ⟨_,Fq.mpr ⟨h,FO rfl⟩,rfl⟩
theorem dQ{E F:List P2}{S:List Int}(h:∀a b,(a,b)∈E->(a,b)∈F){y:Int}(r:My.Reach E S y):My.Reach F S y:=by
 induction r with
 | base h=>exact .base h
 | step _ e ih=>exact .step ih (h _ _ e)
theorem ml{H:PHp}{a b:Addr}{o u:PO}(h:a≠b):put (put H a o) b u=put (put H b u) a o:=by
 funext z;by_cases e:z=a
 ·subst e;rw[ao h,ai,ai]
 ·by_cases e2:z=b
  ·subst e2;rw[ai,ao e,ai]
  ·rw[ao e2,ao e,ao e,ao e2]
structure OkD (c:Int) (ts bs:List P2):Prop where
 c1:1≤c
 c6:c≤6
 gt:Good c ts
 gb:Good c bs
 st:Srt ts
 sb:Srt bs
 b6:bs.length≤6
def FT(k:Nat)(L:List Int)(p:P2):Bool:=match k with
 | 0=>decide (p.1∈L)&&decide (p.2∈L)
 | 1=>!decide (p.2∈L)
 | _=>!decide (p.1∈L)
def FB(k:Nat)(L:List Int)(p:P2):Bool:=match k with
 | 0=>decide (p.1∈L)&&decide (p.2∈L)
 | 1=>!decide (p.1∈L)&&!decide (p.2∈L)
 | _=>true
theorem gT{c:Int}{ps:List P2}(g:Good c ps)(f:P2->Bool):Good c (ps.filter f):=⟨g.nd.sublist List.filter_sublist,fun p hp=>g.lo p (Fq.mp hp).1⟩
theorem OkD.filter{c:Int}{ts bs:List P2}(h:OkD c ts bs)(f g:P2->Bool):OkD c (ts.filter f) (bs.filter g) :=
 ⟨h.c1,h.c6,gT h.gt f,gT h.gb g,List.Pairwise.sublist List.filter_sublist h.st,List.Pairwise.sublist List.filter_sublist h.sb,FI (Gi _ _) h.b6⟩
def Dr(t:Ad)(H:PHp)(x:Addr)(c:Int)(ts bs:List P2):Prop:=∃dx,H x=some (.ins t.a_A dx (DF c ts bs))
theorem Dr.up{t:Ad}{H H1:PHp}{x:Addr}{c:Int}{ts bs:List P2}(h:Dr t H x c ts bs)(s:U.Sub H H1):Dr t H1 x c ts bs:=by
 obtain⟨dx,e⟩:=h;exact⟨dx,s _ _ e⟩
def onP(f:P2->Bool)(y:PV):Bool:=match y with | .tup [.int u,.int v]=>f (u,v) | _=>false
theorem gu{f:P2->Bool}{p:P2}:onP f (prV p)=f p:=rfl
theorem fF{f:P2->Bool}:∀{ts:List P2},((ts.map prV).filter (onP f)).map (fun y=>y)=(ts.filter f).map prV
 | []=>rfl
 | p::ts=>by
  have ih:=fF (f:=f) (ts:=ts);rw[E8,Fz,Fz,gu];by_cases h:f p=true
  ·rw[Fp h,Fp h,E8,E8,ih]
  ·rw[Fh h,Fh h,ih]
theorem boot_any:bootBuiltins "any"=some (.builtin "any"):=by decide +kernel
theorem d4{x y z:PV}:atI [x,y,z] 0=some x:=rfl
theorem rW{x y z:PV}:atI [x,y,z] 1=some y:=rfl
theorem wZ{x y z:PV}:atI [x,y,z] 2=some z:=rfl
theorem jX{x:PV}{l:List PV}:atI (x::l) 0=some x:=fH (l:=x::l) (i:=0) (by simp)
theorem xf{c:Int}(h:c≤5):∃P:Nat,(2:Int) ^ c.toNat=(P:Int)/\P≤32 :=
 ⟨2 ^ c.toNat,by rw[Int.natCast_pow];rfl,FI (Nat.pow_le_pow_right (by decide) (show c.toNat≤5 by omega)) (by decide)⟩
def lh(n:Int)(y:PV):Bool:=match y with | .tup [.int k,.int _]=>(n / 2 ^ k.toNat).fmod 2==1 | _=>false
theorem og{l:List PV}:(hJ l).length=l.length:=by simp[hJ]
theorem oz{O:List Int}{y:PV}(h:y∈hJ (O.map PV.int)):∃(k:Nat) (x:Int),y=.tup [.int (k:Nat),.int x]:=by
 unfold hJ at h;obtain⟨i,hi,e⟩:=List.mem_mapIdx.mp h;rw[FK]at e;exact⟨i,_,e.symm⟩
theorem xG{a b:Int}{n:Nat}(h:0<b)(hb:My.BN n b):My.BN n (a.fmod b):=by
 have:=fm (a:=a) h;exact hb.of_le (by omega)
theorem sub_len:∀(f L:List Int),f.Nodup->(∀x∈f,x∈L)->f.length≤L.length
 | [],_,_,_=>Gb _
 | x::f,L,hn,h=>by
  rw[GU]at hn;have hx:=h x E7;have ih:=sub_len f (L.erase x) hn.2 fun y hy=>(List.mem_erase_of_ne (fun(e:y=x)=>hn.1 (e▸hy))).mpr (h y (Ff _ hy));rw[List.length_erase_of_mem hx]at ih;have:=List.length_pos_of_mem hx;rw[Fs];omega
theorem kj{A B:List Int}(hA:A.Pairwise (·<·))(hB:B.Pairwise (·<·))(h:∀x∈A,x∈B)(hl:B.length≤A.length):A=B:=by
 refine My.bS hA hB fun x=>⟨h x,fun hx=>F5 fun hn=>?_⟩;have nA:A.Nodup:=hA.imp fun h=>by omega
 have q:=sub_len (x::A) B (GU.mpr ⟨hn,nA⟩) fun y hy=>(Fn.mp hy).elim (fun e=>e▸hx) (h y);rw[Fs]at q;omega
theorem A0{E:List P2}{P:Int->Prop}{m:Nat}(hb:∀f:List Int,f.Nodup->(∀x∈f,P x)->f.length≤m)(hE:∀a b,(a,b)∈E->P b) :
  ∀(n:Nat) {f:List Int},f.Nodup->(∀x∈f,P x)->m≤f.length+n->My.cu E (My.bY E n f)=My.bY E n f:=by
 have r:∀f:List Int,(∀x∈f,P x)->∀x∈My.cu E f,P x:=fun f hf x hx=>by
  cases My.eK (E0:=E) (S:=f) E (fun _ hp=>hp) (fun y hy=>.base hy) x hx with
  | base h=>exact hf x h
  | step h e=>exact hE _ _ e
 intro n
 induction n with
 | zero =>
  intro f hn hf hl;show My.cu E f=f;apply F5;intro h;have l:=My.jJ h;have:=hb _ (My.dn E hn) (r f hf);omega
 | succ n ih =>
  intro f hn hf hl;by_cases h:My.cu E f=f
  ·rw[My.gR (n+1) h,h]
  ·have l:=My.jJ h;exact ih (My.dn E hn) (r f hf) (by omega)
theorem mY{E:List P2}{S L:List Int}(hE:∀a b,(a,b)∈E->b∈L)(hS:∀x∈S,x∈L)(hn:S.Nodup)(y:Int):y∈My.bY E L.length S↔My.Reach E S y:=by
 constructor
 ·exact My.fN _ (fun y hy=>.base hy) y
 ·have sh:=A0 (E:=E) (P:=fun x=>x∈L) (m:=L.length) (fun f h1 h2=>sub_len f L h1 h2) hE L.length hn hS (by omega);intro h
  induction h with
  | base h=>obtain⟨g,hg⟩:=My.iK (E:=E) L.length S;rw[hg];exact FE _ h
  | step h e ih=>exact My.i5 E sh _ _ e ih
theorem bD{q:Int->Bool}:∀{l:List Int},((l.map PV.int).filter (onI q)).map (fun y=>y)=(l.filter q).map PV.int
 | []=>rfl
 | k::l=>by
  have e:onI q (PV.int k)=q k:=rfl;rw[E8,Fz,Fz,e];by_cases h:q k=true
  ·rw[Fp h,Fp h,E8,E8,bD]
  ·rw[Fh h,Fh h,bD]
theorem rm{l:List Int}:((l.map PV.int).filter (fun _=>true)).map (fun y=>y)=l.map PV.int:=by
 rw[Gs.mpr (fun _ _=>rfl),List.map_id'' (fun _=>rfl)]
theorem nE{c:Int}:b7 0 c.toNat=(ulN c).map PV.int:=by
 unfold b7 ulN;rw[F4];refine List.map_congr_left fun k _=>?_;show PV.int (0+(k:Int))=PV.int (k:Int);rw[Int.zero_add]
theorem bx:∀{A B:List Int},dh (A.map PV.int) (B.map PV.int)=decide (A=B)
 | [],[]=>by simp[dh]
 | [],_::_=>by simp[dh]
 | _::_,[]=>by simp[dh]
 | a::A,b::B=>by
  rw[E8,E8,dh,bx,deq,Gq];simp
theorem cY:∀{A B:List (List Int)},dh (A.map tupI) (B.map tupI)=decide (A=B)
 | [],[]=>by simp[dh]
 | [],_::_=>by simp[dh]
 | _::_,[]=>by simp[dh]
 | a::A,b::B=>by
  rw[E8,E8,dh,cY,tupI,tupI,deq,bx,Gq];simp
theorem dC{A:List Int}:dh (A.map PV.int) []=decide (A=[]):=bx (B:=[])
theorem cm{A:List (List Int)}:(A.map tupI).all (flat 8)=true:=by
 rw[FC];intro z hz;obtain⟨M,_,rfl⟩:=Fg.mp hz;unfold tupI flat
 rw[FC];intro y hy;obtain⟨k,_,rfl⟩:=Fg.mp hy;rfl
theorem cG{l:List Int}:(l.map PV.int).all (flat 7)=true:=by
 rw[FC];intro z hz;obtain⟨p,_,rfl⟩:=Fg.mp hz;rfl
def onB(W:List Int)(y:PV):PV:=match y with | .int u=>.bl (decide (u∈W)) | _=>.non
theorem jd{W l:List Int}:((l.map PV.int).filter (fun _=>true)).map (onB W)=(l.map fun x=>decide (x∈W)).map PV.bl:=by
 rw[Gs.mpr (fun _ _=>rfl),F4,F4];rfl
theorem gB{W l:List Int}:(l.map fun x=>decide (x∈W)).all id=true↔∀x∈l,x∈W:=by
 rw[List.all_map,FC];simp
theorem yQ{W l:List Int}:(l.map fun x=>decide (x∈W)).any id=true↔∃x∈l,x∈W:=by
 rw[List.any_map,GN];simp
def nin(c:Int)(A:List Int):List Int:=(ulN c).filter fun y=>!decide (y∈A)
theorem nV{c:Int}{A:List Int}:Nms c (nin c A):=⟨(jb c).filter _,fun x hx=>bG.mp (Fq.mp hx).1⟩
theorem iA{c:Int}{A:List Int}{x:Int}:x∈nin c A↔(0≤x/\x<c)/\x∉A:=by
 unfold nin;rw[Fq,bG];simp
def up1(ts:List P2)(L:List Int):List P2:=(ts.filter fun p=>decide (p.1∈L)).map swp
def up2(ts:List P2)(L:List Int):List P2:=(ts.filter (FT 0 L)).map swp
theorem ij{ts:List P2}{L:List Int}{a b:Int}:(a,b)∈up1 ts L↔(b,a)∈ts/\b∈L:=by
 unfold up1;rw[eS,Fq];simp
theorem bW{ts:List P2}{L:List Int}{a b:Int}:(a,b)∈up2 ts L↔(b,a)∈ts/\b∈L/\a∈L:=by
 unfold up2;rw[eS,Fq];simp[FT]
theorem u9{ts:List P2}{L S:List Int}(hS:∀x∈S,x∈L){y:Int}:My.Reach (up1 ts L) S y↔My.Reach (up2 ts L) S y:=by
 constructor
 ·intro h;have:My.Reach (up2 ts L) S y/\y∈L:=by
   induction h with
   | base h=>exact⟨.base h,hS _ h⟩
   | step _ e ih =>
    have q:=ij.mp e;exact⟨.step ih.1 (bW.mpr ⟨q.1,q.2,ih.2⟩),q.2⟩
  exact this.1
 ·exact dQ fun a b e=>ij.mpr ⟨(bW.mp e).1,(bW.mp e).2.1⟩
def fL(L:List Int)(f:List Int)(p:P2):List Int:=if p.2∈f/\p.1∈L/\p.1∉f then f++[p.1]else f
theorem ou{L:List Int}:∀(ts:List P2) (f:List Int),ts.foldl (fL L) f=My.cu (up1 ts L) f
 | [],f=>rfl
 | p::ts,f=>by
  rw[List.foldl_cons,ou ts];unfold up1;rw[Fz];by_cases h:decide (p.1∈L)=true
  ·rw[Fp h,E8];have h':p.1∈L:=Gk h;have e:fL L f p=My.cy f (swp p):=by
    unfold fL My.cy swp;by_cases q:p.2∈f/\p.1∉f
    ·rw[Fp ⟨q.1,h',q.2⟩,Fp q]
    ·rw[Fh (fun z=>q ⟨z.1,z.2.2⟩),Fh q]
   rw[e];rfl
  ·rw[Fh h];have h':p.1∉L:=fun z=>h (FO z);have e:fL L f p=f:=by unfold fL;rw[Fh fun z=>h' z.2.1]
   rw[e]
def cW(L:List Int)(f:List Int)(p:P2):List Int:=if p.1∈L/\p.2∈L then(if p.1∈f then(if p.2∈f then f else f++[p.2])else(if p.2∈f then f++[p.1]else f))else f
def E2(bs:List P2)(L:List Int):List P2:=(tJ bs L).flatMap fun p=>[p,swp p]
theorem mI{bs:List P2}{L:List Int}{a b:Int}:(a,b)∈E2 bs L↔(a,b)∈both bs L:=by
 unfold E2 both;rw[List.mem_flatMap,E9,eS];constructor
 ·rintro⟨p,hp,h⟩;rcases Fn.mp h with h | h
  ·subst h;exact .inl hp
  ·rw[E5]at h;unfold swp at h;cases h;exact .inr hp
 ·rintro(h | h)
  ·exact⟨_,h,E7⟩
  ·exact⟨_,h,Ff _ (E5.mpr rfl)⟩
theorem pM{L f:List Int}{p:P2}(h:p.1∈L/\p.2∈L):cW L f p=My.cy (My.cy f p) (swp p):=by
 unfold cW My.cy swp;rw[Fp h];by_cases h1:p.1∈f
 ·by_cases h2:p.2∈f
  ·simp[h1,h2]
  ·simp[h1,h2]
 ·by_cases h2:p.2∈f
  ·simp[h1,h2]
  ·simp[h1,h2]
theorem jn{L:List Int}:∀(bs:List P2) (f:List Int),bs.foldl (cW L) f=My.cu (E2 bs L) f
 | [],f=>rfl
 | p::bs,f=>by
  rw[List.foldl_cons,jn bs];unfold E2 tJ;rw[Fz];by_cases h:(decide (p.1∈L)&&decide (p.2∈L))=true
  ·rw[Fp h,List.flatMap_cons];have h':p.1∈L/\p.2∈L:=by simpa using h
   rw[pM h'];rfl
  ·rw[Fh h];have h':¬(p.1∈L/\p.2∈L):=fun z=>h (by simpa using z);have e:cW L f p=f:=by unfold cW;rw[Fh h']
   rw[e]
theorem mK{bs:List P2}{L:List Int}{x:Int}(hx:x∈L)(y:Int):y∈My.bY (E2 bs L) L.length [x]↔My.Reach (both bs L) [x] y:=by
 refine(mY (fun a b e=>(bO.mp (mI.mp e)).2.1) (fun z hz=>by rw[E5]at hz;rw[hz];exact hx) (by simp) y).trans ⟨dQ fun a b=>mI.mp,dQ fun a b=>mI.mpr⟩
structure Qn (c:Int) (A B:List Int):Prop where
 a:Nms c A
 b:Nms c B
 ap:∀x∈A,x∉B
 ne:B≠[]
theorem Qn.sub{c:Int}{A B:List Int}(h:Qn c A B):∀x∈B,x∈nin c A:=fun x hx=>iA.mpr ⟨h.b.lo x hx,fun z=>h.ap x z hx⟩
abbrev qV(A B:List Int):PV:=.tup [.tup (A.map PV.int),.tup (B.map PV.int)]
structure d7 (c:Int) (ts bs:List P2) (A B I O:List Int):Prop where
 ne:I≠[]
 want:∀x∈I,My.Reach (up2 ts (nin c A)) B x
 li:cM (both bs I) I [I]
 lo:cM (both bs O) O [O]
 io:I≠O
 sub:∀x∈I,x∈O
 anc:∀y,y∈O↔My.Reach (up2 ts O) I y
 set:∃x∈O,x∈A
def Shp(H:PHp)(a:Addr)(c:Int)(ts bs:List P2):Prop:=∃p q,H a=some (.lst [.int c,.ref p,.ref q])/\H p=some (.lst (ts.map prV))/\H q=some (.lst (bs.map prV))
theorem Shp.up{H H1:PHp}{a:Addr}{c:Int}{ts bs:List P2}(h:Shp H a c ts bs)(s:U.Sub H H1):Shp H1 a c ts bs:=by
 obtain⟨p,q,e1,e2,e3⟩:=h;exact⟨p,q,s _ _ e1,s _ _ e2,s _ _ e3⟩
structure OkS (c:Int) (ts bs:List P2):Prop where
 c1:1≤c
 c6:c≤6
 gt:Good c ts
 gb:Good c bs
 b6:bs.length≤6
theorem Dr.ins{t:Ad}{H:PHp}{x:Addr}{c:Int}{ts bs:List P2}(h:Dr t H x c ts bs):Ins t H x c ts:=by
 obtain⟨dx,e⟩:=h;exact⟨dx,bs,e⟩
def ia(t:Ad):Sp':=fun vs H Q _=>match vs with
 | [.ref x,.tup l]=>∃c ts bs,∃L:List Int,Dr t H x c ts bs/\l=L.map PV.int/\OkD c ts bs/\Nms c L/\∀y H1,U.Sub H H1->Dr t H1 y c (ts.filter (FT 0 L)) (bs.filter (FB 0 L))->Q (.ref y) H1
 | _=>False
theorem zN{x:Addr}{l:List PV}{H:PHp}{Q:VK'}{E:XK'}:ia t [.ref x,.tup l] H Q E=(∃c ts bs,∃L:List Int,Dr t H x c ts bs/\l=L.map PV.int/\OkD c ts bs/\Nms c L/\∀y H1,U.Sub H H1->Dr t H1 y c (ts.filter (FT 0 L)) (bs.filter (FB 0 L))->Q (.ref y) H1):=rfl
def ik:Sp':=fun vs H Q _=>match vs with
 | [.int c]=>(0≤c/\c<1000)/\Q (.tup ((ulN c).map PV.int)) H
 | _=>False
theorem yo{c:Int}{H:PHp}{Q:VK'}{E:XK'}:ik [.int c] H Q E=((0≤c/\c<1000)/\Q (.tup ((ulN c).map PV.int)) H):=rfl
def dN:Sp':=fun vs H Q _=>match vs with
 | [.tup l,.tup m]=>∃A B:List Int,l=A.map PV.int/\m=B.map PV.int/\A.length≤1000/\Q (.tup ((A.filter fun y=>!decide (y∈B)).map PV.int)) H
 | _=>False
theorem qd{l m:List PV}{H:PHp}{Q:VK'}{E:XK'}:dN [.tup l,.tup m] H Q E=(∃A B:List Int,l=A.map PV.int/\m=B.map PV.int/\A.length≤1000/\Q (.tup ((A.filter fun y=>!decide (y∈B)).map PV.int)) H):=rfl
def dk(t:Ad):Sp':=fun vs H Q _=>match vs with
 | [.ref x,.ref a]=>∃c ts,∃A B:List Int,Ins t H x c ts/\H a=some (.lst [.tup (A.map PV.int),.tup (B.map PV.int)])/\Nms c A/\Nms c B/\Q .non H
 | _=>False
theorem ny{x a:Addr}{H:PHp}{Q:VK'}{E:XK'}:dk t [.ref x,.ref a] H Q E=(∃c ts,∃A B:List Int,Ins t H x c ts/\H a=some (.lst [.tup (A.map PV.int),.tup (B.map PV.int)])/\Nms c A/\Nms c B/\Q .non H):=rfl
def cX:Sp':=fun vs H Q _=>match vs with
 | [.ref a]=>∃c,∃A B:List Int,H a=some (.lst [.tup (A.map PV.int),.tup (B.map PV.int)])/\Nms c A/\Nms c B/\c≤6/\(∀x∈A,x∉B)/\Q .non H
 | _=>False
theorem lV{a:Addr}{H:PHp}{Q:VK'}{E:XK'}:cX [.ref a] H Q E=(∃c,∃A B:List Int,H a=some (.lst [.tup (A.map PV.int),.tup (B.map PV.int)])/\Nms c A/\Nms c B/\c≤6/\(∀x∈A,x∉B)/\Q .non H):=rfl
def fJ(t:Ad):Sp':=fun vs H Q _=>match vs with
 | [.ref x,v]=>∃c ts,∃A B:List Int,v=qV A B/\Ins t H x c ts/\Qn c A B/\c≤6/\Q .non H
 | _=>False
theorem vN{x:Addr}{v:PV}{H:PHp}{Q:VK'}{E:XK'}:fJ t [.ref x,v] H Q E=(∃c ts,∃A B:List Int,v=qV A B/\Ins t H x c ts/\Qn c A B/\c≤6/\Q .non H):=rfl
def fO(t:Ad):Sp':=fun vs H Q _=>match vs with
 | [.ref x,v]=>∃c ts bs,∃A B:List Int,v=qV A B/\Dr t H x c ts bs/\OkD c ts bs/\Qn c A B/\∀M:List Int,M.Pairwise (·<·)->(∀y,y∈M↔My.Reach (up2 ts (nin c A)) B y)->Q (.tup (M.map PV.int)) H
 | _=>False
theorem vx{x:Addr}{v:PV}{H:PHp}{Q:VK'}{E:XK'}:fO t [.ref x,v] H Q E=(∃c ts bs,∃A B:List Int,v=qV A B/\Dr t H x c ts bs/\OkD c ts bs/\Qn c A B/\∀M:List Int,M.Pairwise (·<·)->(∀y,y∈M↔My.Reach (up2 ts (nin c A)) B y)->Q (.tup (M.map PV.int)) H):=rfl
def jW:Sp':=fun vs H Q _=>match vs with
 | [.int u,.int k]=>(0≤k/\k<100)/\∀n:Int,Q (.int n) H
 | _=>False
theorem As{u k:Int}{H:PHp}{Q:VK'}{E:XK'}:jW [.int u,.int k] H Q E=((0≤k/\k<100)/\∀n:Int,Q (.int n) H):=rfl
def dr:Sp':=fun vs H Q _=>match vs with
 | [.int n,.int c]=>(1≤c/\c≤6)/\∀A B:List Int,Qn c A B->Q (qV A B) H
 | _=>False
theorem mX{n c:Int}{H:PHp}{Q:VK'}{E:XK'}:dr [.int n,.int c] H Q E=((1≤c/\c≤6)/\∀A B:List Int,Qn c A B->Q (qV A B) H):=rfl
def NmV(H:PHp)(v:PV)(L:List Int):Prop:=v=.tup (L.map PV.int)∨∃r,v=.ref r/\H r=some (.lst (L.map PV.int))
theorem NmV.up{H H1:PHp}{v:PV}{L:List Int}(h:NmV H v L)(s:U.Sub H H1):NmV H1 v L:=h.imp id fun⟨r,e,q⟩=>⟨r,e,s _ _ q⟩
theorem NmV.it{H:PHp}{v:PV}{L:List Int}{R:It'->PHp->Prop}(h:NmV H v L)(k:∀ok:PHp->Prop,(∀H',NmV H' v L->ok H')->R ⟨L.map PV.int,ok⟩ H):tm v H R:=by
 rcases h with rfl |⟨r,rfl,q⟩
 ·exact k _ fun _ _=>trivial
 ·refine⟨_,q,k _ fun H' h'=>?_⟩;rcases h' with e |⟨r2,e,q2⟩
  ·cases e
  ·cases e;exact q2
theorem NmV.s{H:PHp}{v:PV}{L:List Int}{k:List PV->Prop}(h:NmV H v L)(q:k (L.map PV.int)):cK v H k:=by
 rcases h with rfl |⟨r,rfl,e⟩
 ·exact q
 ·exact⟨_,e,q⟩
theorem sQ{bs:List P2}{L:List Int}{a b:Int}(h:(a,b)∈both bs L):(b,a)∈both bs L:=by
 rw[bO]at h ⊢;exact⟨h.2.1,h.1,h.2.2.symm⟩
theorem cP{E:List P2}{x y z:Int}(h1:My.Reach E [x] y)(h2:My.Reach E [y] z):My.Reach E [x] z:=by
 induction h2 with
 | base h=>rw[E5]at h;rw[h];exact h1
 | step _ e ih=>exact .step ih e
theorem jN{bs:List P2}{L:List Int}{x y:Int}(h:My.Reach (both bs L) [x] y):My.Reach (both bs L) [y] x:=by
 induction h with
 | base h=>rw[E5]at h;rw[h];exact .base (by simp)
 | step _ e ih=>exact cP (.step (.base (by simp)) (sQ e)) ih
theorem j0{E:List P2}{L:List Int}{Ls:List (List Int)}(h:cM E L Ls):∀x∈L,∃M∈Ls,x∈M:=by
 induction h with
 | nil=>intro x hx;cases hx
 | cons up iff h ih =>
  rename_i x R M Ls;intro y hy;by_cases q:y∈M
  ·exact⟨M,E7,q⟩
  ·rcases Fn.mp hy with e | e
   ·subst e;exact absurd ((iff y).mpr (.base (by simp))) q
   ·obtain⟨N,hN,yN⟩:=ih y (Fq.mpr ⟨e,by simp[q]⟩);exact⟨N,Ff _ hN,yN⟩
theorem r8{E:List P2}{L:List Int}{Ls:List (List Int)}(h:cM E L Ls):∀M∈Ls,M.Pairwise (·<·)/\∃x∈L,∀y,y∈M↔My.Reach E [x] y:=by
 induction h with
 | nil=>intro M hM;cases hM
 | cons up iff h ih =>
  rename_i x R M Ls;intro N hN;rcases Fn.mp hN with e | e
  ·subst e;exact⟨up,x,E7,iff⟩
  ·obtain⟨h1,z,hz,h2⟩:=ih N e;exact⟨h1,z,Ff _ (Fq.mp hz).1,h2⟩
structure LA (bs:List P2) (L:List Int) (x:Int) (M:List Int):Prop where
 up:M.Pairwise (·<·)
 iff:∀y,y∈M↔My.Reach (both bs L) [x] y
theorem LA.self{bs:List P2}{L M:List Int}{x:Int}(h:LA bs L x M):x∈M:=(h.iff x).mpr (.base (by simp))
theorem LA.one{bs:List P2}{L M N:List Int}{x:Int}(h:LA bs L x M)(g:LA bs L x N):M=N:=My.bS h.up g.up fun y=>(h.iff y).trans (g.iff y).symm
theorem LA.move{bs:List P2}{L M:List Int}{x z:Int}(h:LA bs L x M)(hz:z∈M):LA bs L z M :=
 ⟨h.up,fun y=>(h.iff y).trans ⟨fun q=>cP (jN ((h.iff z).mp hz)) q,fun q=>cP ((h.iff z).mp hz) q⟩⟩
theorem LA.sub{bs:List P2}{L M:List Int}{x:Int}(h:LA bs L x M)(hx:x∈L):∀y∈M,y∈L:=fun y hy=>by
 cases (h.iff y).mp hy with
 | base h=>rw[E5]at h;rw[h];exact hx
 | step _ e=>exact(bO.mp e).2.1
theorem iW{bs:List P2}{L:List Int}{Ls:List (List Int)}(h:cM (both bs L) L Ls){M:List Int}(hM:M∈Ls){x:Int}(hx:x∈M):LA bs L x M:=by
 obtain⟨up,z,_,iff⟩:=r8 h M hM;exact LA.move ⟨up,iff⟩ hx
theorem fD{bs:List P2}{L:List Int}{Ls:List (List Int)}(h:cM (both bs L) L Ls){M:List Int}:M∈Ls↔∃x∈L,LA bs L x M:=by
 constructor
 ·intro hM;obtain⟨up,z,hz,iff⟩:=r8 h M hM;exact⟨z,hz,up,iff⟩
 ·rintro⟨x,hx,la⟩;obtain⟨N,hN,xN⟩:=j0 h x hx;rw[la.one (iW h hN xN)];exact hN
theorem cj{bs:List P2}{X S:List Int}(h:∀y∈X,y∈S){x y:Int}(r:My.Reach (both bs X) [x] y):My.Reach (both bs S) [x] y :=
 dQ (fun a b e=>by rw[bO]at e ⊢;exact⟨h a e.1,h b e.2.1,e.2.2⟩) r
structure Cn (c:Int) (bs:List P2) (L0:List Int) (x0:Int):Prop where
 nms:Nms c L0
 hd:x0∈L0
 con:∀y∈L0,My.Reach (both bs L0) [x0] y
theorem LA.cn{c:Int}{bs:List P2}{W M:List Int}{x:Int}(h:LA bs W x M)(hW:Nms c W)(hx:x∈W):Cn c bs M x:=by
 refine⟨⟨h.up,fun y hy=>hW.lo y (h.sub hx y hy)⟩,h.self,fun y hy=>?_⟩;have r:=(h.iff y).mp hy;have:My.Reach (both bs M) [x] y/\y∈M:=by
  clear hy
  induction r with
  | base q=>rw[E5]at q;rw[q];exact⟨.base (by simp),h.self⟩
  | step r e ih =>
   have hm:=(h.iff _).mpr (.step r e);exact⟨.step ih.1 (bO.mpr ⟨ih.2,hm,(bO.mp e).2.2⟩),hm⟩
 exact this.1
structure Stk (ts bs:List P2) (L0:List Int) (x0:Int) (S:List Int):Prop where
 sub:∀y∈L0,y∈S
 an:∀y∈S,My.Reach (up2 ts S) L0 y
 ln:∀y∈S,My.Reach (both bs S) [x0] y
theorem Cn.stk{c:Int}{ts bs:List P2}{L0:List Int}{x0:Int}(h:Cn c bs L0 x0):Stk ts bs L0 x0 L0:=⟨fun _ h=>h,fun _ h=>.base h,h.con⟩
def d3(ts bs:List P2)(L0:List Int)(x0:Int)(S:List Int):Prop:=∀X,Stk ts bs L0 x0 X->∀y∈X,y∈S
def pF(ts:List P2)(S N:List Int):Prop:=∀u v,(u,v)∈ts->v∈N->u∈S->u∈N
theorem d3.up{ts bs:List P2}{L0 S N:List Int}{x0:Int}(h:d3 ts bs L0 x0 S)(hl:∀y∈L0,y∈N)(sh:pF ts S N):d3 ts bs L0 x0 N:=fun X hX y hy=>by
 have r:=hX.an y hy;clear hy
 induction r with
 | base q=>exact hl _ q
 | step _ e ih =>
  obtain⟨e1,e2,_⟩:=bW.mp e;exact sh _ _ e1 ih (h X hX _ e2)
theorem d3.lump{ts bs:List P2}{L0 S N:List Int}{x0:Int}(h:d3 ts bs L0 x0 S)(la:LA bs S x0 N):d3 ts bs L0 x0 N:=fun X hX y hy=>(la.iff y).mpr (cj (h X hX) (hX.ln y hy))
structure Fin (c:Int) (ts bs:List P2) (L0:List Int) (x0:Int) (T:List Int):Prop where
 nms:Nms c T
 stk:Stk ts bs L0 x0 T
 hold:d3 ts bs L0 x0 T
theorem Fin.one{c:Int}{ts bs:List P2}{L0 T U:List Int}{x0:Int}(h:Fin c ts bs L0 x0 T)(g:Fin c ts bs L0 x0 U):T=U :=
 My.bS h.nms.up g.nms.up fun y=>⟨g.hold T h.stk y,h.hold U g.stk y⟩
structure UpS (ts:List P2) (S L0 M:List Int):Prop where
 up:M.Pairwise (·<·)
 iff:∀y,y∈M↔My.Reach (up2 ts S) L0 y
theorem UpS.sub{ts:List P2}{S L0 M:List Int}(h:UpS ts S L0 M)(hl:∀y∈L0,y∈S):∀y∈M,y∈S:=fun y hy=>by
 cases (h.iff y).mp hy with
 | base q=>exact hl _ q
 | step _ e=>exact(bW.mp e).2.1
theorem UpS.bas{ts:List P2}{S L0 M:List Int}(h:UpS ts S L0 M):∀y∈L0,y∈M:=fun y hy=>(h.iff y).mpr (.base hy)
theorem UpS.shut{ts:List P2}{S L0 M:List Int}(h:UpS ts S L0 M)(hl:∀y∈L0,y∈S):pF ts S M:=fun u v e hv hu=>(h.iff u).mpr (.step ((h.iff v).mp hv) (bW.mpr ⟨e,hu,h.sub hl v hv⟩))
structure Vc (c:Int) (ts bs:List P2) (S:List Int) (w:Str) (N:List Int):Prop where
 nms:Nms c N
 ne:N≠[]
 lt:N.length<S.length
 sub:∀y∈N,y∈S
 ok:(w="lump"/\∃x∈S,LA bs S x N)∨(w="up"/\pF ts S N)
theorem eW{c:Int}{N S:List Int}(hN:Nms c N)(hS:Nms c S)(h:∀y∈N,y∈S)(ne:N≠S):N.length<S.length:=by
 have h1:=sub_len N S hN.nd h;rcases Nat.lt_or_ge N.length S.length with h2 | h2
 ·exact h2
 ·exact absurd (kj hN.up hS.up h h2) ne
abbrev Cu:=Str×List Int
abbrev upC(N:List Int):Cu:=("up",N)
abbrev lpC(N:List Int):Cu:=("lump",N)
def aQ(p:Cu):PV:=.tup [.str p.1,.tup (p.2.map PV.int)]
def stA(S:List Int)(cs:List Cu):List Int:=(cs.getLast?.map (·.2)).getD S
theorem df{S:List Int}{cs:List Cu}{p:Cu}:stA S (cs++[p])=p.2:=by simp[stA]
def de(c:Int)(ts bs:List P2)(S:List Int)(cs:List Cu):Prop:=∀(i:Nat) (p:Cu),cs[i]?=some p->Vc c ts bs (stA S (cs.take i)) p.1 p.2
theorem de.nil{c:Int}{ts bs:List P2}{S:List Int}:de c ts bs S []:=fun i p h=>by simp at h
theorem de.snoc{c:Int}{ts bs:List P2}{S:List Int}{cs:List Cu}{p:Cu}(h:de c ts bs S cs)(v:Vc c ts bs (stA S cs) p.1 p.2):de c ts bs S (cs++[p]):=fun i q e=>by
 rcases Nat.lt_or_ge i cs.length with hi | hi
 ·rw[Gd hi]at e;rw[List.take_append_of_le_length (GZ hi)];exact h i q e
 ·rw[Gn hi]at e;have hz:i - cs.length=0:=by
   cases k:i - cs.length with
   | zero=>rfl
   | succ n=>rw[k]at e;simp at e
  rw[hz]at e;simp at e;subst e;have ei:i=cs.length:=by omega
  rw[ei,List.take_left']
  ·exact v
  ·rfl
structure Wnt (c:Int) (ts bs:List P2) (A B W:List Int) (Ls:List (List Int)):Prop where
 nms:Nms c W
 iff:∀y,y∈W↔My.Reach (up2 ts (nin c A)) B y
 lm:cM (both bs W) W Ls
theorem Wnt.one{c:Int}{ts bs:List P2}{A B W V:List Int}{Ls Ms:List (List Int)}(h:Wnt c ts bs A B W Ls)(g:Wnt c ts bs A B V Ms):W=V/\Ls=Ms:=by
 have e:W=V:=My.bS h.nms.up g.nms.up fun y=>(h.iff y).trans (g.iff y).symm;subst e;exact⟨rfl,h.lm.one g.lm⟩
theorem Wnt.cn{c:Int}{ts bs:List P2}{A B W:List Int}{Ls:List (List Int)}(h:Wnt c ts bs A B W Ls){L0:List Int}(hL:L0∈Ls){x0:Int}(hx:x0∈L0):Cn c bs L0 x0:=by
 have la:=iW h.lm hL hx;obtain⟨z,hz,lz⟩:=(fD h.lm).mp hL;exact la.cn h.nms (lz.sub hz x0 hx)
theorem Wnt.ne{c:Int}{ts bs:List P2}{A B W:List Int}{Ls:List (List Int)}(h:Wnt c ts bs A B W Ls){L0:List Int}(hL:L0∈Ls):∃x0 R0,L0=x0::R0:=by
 obtain⟨z,hz,lz⟩:=(fD h.lm).mp hL;cases L0 with
 | nil=>exact absurd lz.self (by simp)
 | cons x R=>exact⟨x,R,rfl⟩
theorem lg{c:Int}{bs:List P2}{L0:List Int}{x0:Int}(h:Cn c bs L0 x0):cM (both bs L0) L0 [L0]:=by
 cases L0 with
 | nil=>exact absurd h.hd (by simp)
 | cons x R =>
  have iff:∀y,y∈x::R↔My.Reach (both bs (x::R)) [x] y:=fun y=>by
   constructor
   ·intro hy;exact cP (jN (h.con x E7)) (h.con y hy)
   ·intro r;cases r with
    | base q=>rw[E5]at q;rw[q];exact E7
    | step _ e=>exact(bO.mp e).2.1
  refine .cons h.nms.up iff ?_;rw[Gr.mpr]
  ·exact .nil
  ·intro y hy;simp[hy]
theorem wR{c:Int}{ts bs:List P2}{A B W:List Int}{Ls:List (List Int)}(w:Wnt c ts bs A B W Ls)(hq:Qn c A B){L0 T:List Int}(hL:L0∈Ls){x0:Int}(hx:x0∈L0)(f:Fin c ts bs L0 x0 T)(ne:T≠L0):d7 c ts bs A B L0 T:=by
 have cn:=w.cn hL hx;obtain⟨z,hz,lz⟩:=(fD w.lm).mp hL;have inW:∀y∈L0,y∈W:=lz.sub hz;have la:=iW w.lm hL hx;refine⟨fun e=>(by rw[e]at hx;cases hx),fun x h=>(w.iff x).mp (inW x h),lg cn,lg (x0:=x0) ⟨f.nms,f.stk.sub _ hx,f.stk.ln⟩,fun e=>ne e.symm,f.stk.sub,fun y=>⟨f.stk.an y,fun r=>?_⟩,?_⟩
 ·cases r with
  | base q=>exact f.stk.sub _ q
  | step _ e=>exact(bW.mp e).2.1
 ·apply F5;intro no;have nA:∀y∈T,y∈nin c A:=fun y hy=>iA.mpr ⟨f.nms.lo y hy,fun z=>no ⟨y,hy,z⟩⟩;have tW:∀y∈T,y∈W:=fun y hy=>by
   have r:=f.stk.an y hy;clear hy
   induction r with
   | base q=>exact inW _ q
   | step _ e ih =>
    obtain⟨e1,e2,e3⟩:=bW.mp e;exact(w.iff _).mpr (.step ((w.iff _).mp ih) (bW.mpr ⟨e1,nA _ e2,nA _ e3⟩))
  refine ne (My.bS f.nms.up cn.nms.up fun y=>⟨fun hy=>(la.iff y).mpr (cj tW (f.stk.ln y hy)),f.stk.sub y⟩)
def cF:Nat->List Int->List Int
 | _,[]=>[]
 | b,x::S=>if b % 2=1 then x::cF (b / 2) S else cF (b / 2) S
theorem ie:∀(S:List Int) (b:Nat),(cF b S).Sublist S
 | [],_=>.slnil
 | x::S,b=>by
  unfold cF;split
  ·exact(ie S _).cons_cons x
  ·exact(ie S _).cons x
theorem gh:∀{S N:List Int},N.Sublist S->∃b,b<2 ^ S.length/\cF b S=N
 | [],_,.slnil=>⟨0,by simp,rfl⟩
 | x::S,_,.cons _ h=>by
  obtain⟨b,hb,e⟩:=gh h;refine⟨2*b,by rw[Fs,Nat.pow_succ];omega,?_⟩;unfold cF;rw[Fh (by omega),show 2*b / 2=b by omega,e]
 | x::S,_,.cons₂ _ h=>by
  obtain⟨b,hb,e⟩:=gh h;refine⟨2*b+1,by rw[Fs,Nat.pow_succ];omega,?_⟩;unfold cF;rw[Fp (by omega),show(2*b+1) / 2=b by omega,e]
theorem d9:∀{S N:List Int},N.Pairwise (·<·)->S.Pairwise (·<·)->(∀y∈N,y∈S)->N.Sublist S
 | [],[],_,_,_=>.slnil
 | [],n::N,_,_,h=>absurd (h n E7) (by simp)
 | s::S,[],_,_,_=>List.nil_sublist _
 | s::S,n::N,hN,hS,h=>by
  rw[GR]at hN hS;by_cases e:n=s
  ·subst e;refine(d9 hN.2 hS.2 fun y hy=>?_).cons_cons n;rcases Fn.mp (h y (Ff _ hy))with q | q
   ·have:=hN.1 y hy;omega
   ·exact q
  ·have ns:n∈S:=(Fn.mp (h n E7)).resolve_left e;refine(d9 (GR.mpr hN) hS.2 fun y hy=>?_).cons s;rcases Fn.mp (h y hy)with q | q
   ·have h1:=hS.1 n ns;rcases Fn.mp hy with z | z
    ·omega
    ·have:=hN.1 y z;omega
   ·exact q
theorem ox{b k:Nat}:((((b:Nat):Int) / 2 ^ k).fmod 2==1)=decide (b / 2 ^ k % 2=1):=by
 have e:((b:Nat):Int) / 2 ^ k=((b / 2 ^ k:Nat):Int):=by rw[Int.natCast_ediv,Int.natCast_pow];rfl
 rw[e,Int.fmod_eq_emod_of_nonneg _ (by decide),Gq];simp only[GY,FJ];omega
theorem lD:∀(S:List Int) (k b:Nat),(((S.map PV.int).mapIdx fun i x=>PV.tup [.int ((i+k:Nat):Int),x]).filter (lh (b:Nat))).map g1=(cF (b / 2 ^ k) S).map PV.int
 | [],_,_=>by simp[cF]
 | x::S,k,b=>by
  have ih:=lD S (k+1) b;have ef:(fun(i:Nat) (x:PV)=>PV.tup [.int ((i+1+k:Nat):Int),x])=fun(i:Nat) (x:PV)=>PV.tup [.int ((i+(k+1):Nat):Int),x]:=by
   funext i x;rw[show i+1+k=i+(k+1) by omega]
  rw[E8,List.mapIdx_cons,ef,Fz,Nat.zero_add];have eb:lh (b:Nat) (.tup [.int (k:Nat),.int x])=decide (b / 2 ^ k % 2=1):=by
   show((((b:Nat):Int) / 2 ^ ((k:Nat):Int).toNat).fmod 2==1)=_;rw[F2,ox]
  rw[eb,Nat.pow_succ,← Nat.div_div_eq_div_mul]at *;unfold cF;by_cases q:b / 2 ^ k % 2=1
  ·rw[Fp (FO q),Fp q,E8,E8,ih];rfl
  ·rw[Fh (by simpa using q),Fh q,ih]
theorem nQ{S:List Int}{b:Nat}:((hJ (S.map PV.int)).filter (lh (b:Nat))).map g1=(cF b S).map PV.int:=by
 have:=lD S 0 b;simpa[hJ]using this
theorem iY{c:Int}{ts bs:List P2}{L0:List Int}{x0:Int}(gb:Good c bs)(hx:0≤x0/\x0<c):d3 ts bs L0 x0 (ulN c):=fun X hX y hy=>by
 cases hX.ln y hy with
 | base q=>rw[E5]at q;rw[q];exact bG.mpr hx
 | step _ e =>
  rcases (bO.mp e).2.2 with z | z
  ·have:=gb.lo _ z;simp only at this;exact bG.mpr ⟨by omega,by omega⟩
  ·have:=gb.lo _ z;simp only at this;exact bG.mpr ⟨by omega,by omega⟩
theorem gH{c:Int}:Nms c (ulN c):=⟨jb c,fun x hx=>bG.mp hx⟩
theorem iE{c:Int}{ts:List P2}{A B W:List Int}(hq:Qn c A B)(up:W.Pairwise (·<·))(iff:∀y,y∈W↔My.Reach (up2 ts (nin c A)) B y):Nms c W:=⟨up,fun y hy=>by
 cases (iff y).mp hy with
 | base q=>exact hq.b.lo _ q
 | step _ e=>exact(iA.mp (bW.mp e).2.1).1⟩
def inT(x0:Int)(y:PV):Bool:=match y with | .tup l=>l.any (fun z=>deq z (.int x0)) | _=>false
theorem oJ{x0:Int}{M:List Int}:inT x0 (.tup (M.map PV.int))=decide (x0∈M):=aR
theorem d6{x0:Int}:∀{Ls:List (List Int)},((Ls.map tupI).filter (inT x0)).map (fun y=>y)=(Ls.filter fun M=>decide (x0∈M)).map tupI
 | []=>rfl
 | M::Ls=>by
  have e:inT x0 (tupI M)=decide (x0∈M):=oJ;rw[E8,Fz,Fz,e];by_cases h:decide (x0∈M)=true
  ·rw[Fp h,Fp h,E8,E8,d6]
  ·rw[Fh h,Fh h,d6]
theorem ro{bs:List P2}{L:List Int}{Ls:List (List Int)}(h:cM (both bs L) L Ls){x0:Int}(hx:x0∈L):∃M r,Ls.filter (fun M=>decide (x0∈M))=M::r/\LA bs L x0 M:=by
 obtain⟨N,hN,xN⟩:=j0 h x0 hx;cases q:Ls.filter (fun M=>decide (x0∈M))with
 | nil =>
  rw[Gr]at q;exact absurd (FO xN) (q N hN)
 | cons M r =>
  have hm:M∈Ls.filter (fun M=>decide (x0∈M)):=by rw[q];exact E7
  have:=Fq.mp hm;exact⟨M,r,rfl,iW h this.1 (Gk this.2)⟩
theorem LA.nms{c:Int}{bs:List P2}{L M:List Int}{x:Int}(h:LA bs L x M)(hL:Nms c L)(hx:x∈L):Nms c M:=⟨h.up,fun y hy=>hL.lo y (h.sub hx y hy)⟩
theorem Cn.into{c:Int}{bs:List P2}{L0 S N:List Int}{x0:Int}(h:Cn c bs L0 x0)(hs:∀y∈L0,y∈S)(la:LA bs S x0 N):∀y∈L0,y∈N:=fun y hy=>(la.iff y).mpr (cj hs (h.con y hy))
theorem oP{Ls:List (List Int)}{N:List Int}:((Ls.map tupI).any fun z=>deq z (.tup (N.map PV.int)))=decide (N∈Ls):=by
 rw[Gq,GN,FJ];constructor
 ·rintro⟨z,hz,e⟩;obtain⟨M,hM,rfl⟩:=Fg.mp hz;unfold tupI at e;rw[deq,bx,FJ]at e;rw[←e];exact hM
 ·intro h;refine⟨_,Fg.mpr ⟨_,h,rfl⟩,?_⟩;unfold tupI;rw[deq,bx,FJ]
theorem jH{f:P2->Bool}:∀{ts:List P2},((ts.map prV).filter (onP f)).map g0=((ts.filter f).map (·.1)).map PV.int
 | []=>rfl
 | p::ts=>by
  have ih:=jH (f:=f) (ts:=ts);rw[E8,Fz,Fz,gu];by_cases h:f p=true
  ·rw[Fp h,Fp h,E8,E8,E8,ih];rfl
  ·rw[Fh h,Fh h,ih]
def dY(S N:List Int)(p:P2):Bool:=decide (p.2∈N)&&(decide (p.1∈S)&&!decide (p.1∈N))
theorem lX{ts:List P2}{S N:List Int}:(ts.filter (dY S N)).map (·.1)=[]↔pF ts S N:=by
 rw[List.map_eq_nil_iff,Gr];constructor
 ·intro h u v e hv hu;apply F5;intro hn;exact h _ e (by simp[dY,hv,hu,hn])
 ·intro h p hp q;simp only[dY,Gg,FJ,Bool.not_eq_true',decide_eq_false_iff_not]at q;exact q.2.2 (h p.1 p.2 hp q.1 q.2.1)
theorem pU{c:TT'}{tb:TS'}{D:fw}{σ:St'}{H:PHp}(h:∀R:TS',R=tb->j6 c R D σ H):j6 c tb D σ H:=h tb rfl
theorem CP{tb:TS'}{rt:VK'}{bk:St'->PHp->Prop}{σ:St'}{H1:PHp}{m:Nat}{Pv:Nat->St'->PHp->Prop}(h:∀(N bk:St'->PHp->Prop),(∀σ' H',(∃m',m'<m/\Pv m' σ' H')->N σ' H')->tb { nx:=N,rt:=rt,bk:=bk,ct:=N } σ H1) :
  ∃N:St'->PHp->Prop,(∀σ' H',N σ' H'->∃m',m'<m/\Pv m' σ' H')/\tb { nx:=N,rt:=rt,bk:=bk,ct:=N } σ H1:=⟨fun σ' H'=>∃m',m'<m/\Pv m' σ' H',fun _ _ h=>h,h _ _ fun _ _ h=>h⟩
theorem Vc.keep{c:Int}{ts bs:List P2}{L0 S N:List Int}{x0:Int}{w:Str}(v:Vc c ts bs S w N)(hold:d3 ts bs L0 x0 S)(hx:x0∈L0)(hl:∀y∈L0,y∈N):d3 ts bs L0 x0 N:=by
 rcases v.ok with⟨_,x,hxS,la⟩ |⟨_,sh⟩
 ·exact hold.lump (la.move (hl x0 hx))
 ·exact hold.up hl sh
theorem qX{c:Int}{ts bs:List P2}{L0 S:List Int}{x0:Int}(cn:Cn c bs L0 x0)(nS:Nms c S)(lS:∀y∈L0,y∈S)(hold:d3 ts bs L0 x0 S)(no:∀N,¬(Vc c ts bs S "up" N/\∀y∈L0,y∈N))(la:LA bs S x0 S)(up:∃M,UpS ts S L0 M):Fin c ts bs L0 x0 S:=by
 refine⟨nS,⟨lS,fun y hy=>?_,fun y hy=>(la.iff y).mp hy⟩,hold⟩;obtain⟨M,u⟩:=up;have nM:Nms c M:=⟨u.up,fun y hy=>nS.lo y (u.sub lS y hy)⟩;by_cases e:M=S
 ·exact(u.iff y).mp (e▸hy)
 ·exact absurd ⟨⟨nM,fun z=>(by have:=u.bas _ cn.hd;rw[z]at this;cases this),eW nM nS (u.sub lS) e,u.sub lS,.inr ⟨rfl,u.shut lS⟩⟩,u.bas⟩ (no M)
theorem za{c:Int}{ts:List P2}{S L0:List Int}(nL:Nms c L0)(nS:Nms c S)(lS:∀y∈L0,y∈S):∃M,UpS ts S L0 M:=by
 refine⟨S.filter fun y=>decide (y∈My.bY (up2 ts S) S.length L0),nS.up.filter _,fun y=>?_⟩;have q:=mY (E:=up2 ts S) (S:=L0) (L:=S) (fun a b e=>(bW.mp e).2.1) lS nL.nd y;rw[Fq,FJ,q];refine⟨fun z=>z.2,fun z=>⟨?_,z⟩⟩;cases z with
 | base h=>exact lS _ h
 | step _ e=>exact(bW.mp e).2.1
theorem tF{l:List PV}{y:PV}:atI (l++[y]) (-1)=some y:=by
 unfold atI ixN;rw[Fh (by omega),E3,Fj,Fp (by omega),show(-1+((l.length+1:Nat):Int)).toNat=l.length by omega];simp
abbrev Ro:=List Int×List Cu
def bE(p:Ro):PV:=.tup [.tup (p.1.map PV.int),.tup (p.2.map aQ)]
def yf(y:PV):PV:=match y with | .tup [u,_]=>u | _=>.non
theorem pj{rows:List Ro}:((rows.map bE).filter (fun _=>true)).map yf=(rows.map (·.1)).map tupI:=by
 rw[Gs.mpr (fun _ _=>rfl),F4,F4];rfl
def lY(c:Int)(ts bs:List P2)(p:Ro):Prop:=∀x0 S0,p.1.head?=some x0->LA bs (ulN c) x0 S0->de c ts bs S0 p.2/\stA S0 p.2=p.1
def Lets(c:Int)(ts bs:List P2)(Ls:List (List Int))(rows:List Ro):Prop:=rows.map (·.1)=Ls/\∀p∈rows,lY c ts bs p
def dJ:Sp':=fun vs H Q _=>match vs with
 | [.int n,.int a,.int b]=>a=1/\(1≤b/\b≤6)/\∀c ts bs r H1,OkS c ts bs->c≤b->Srt ts->Srt bs->U.Sub H H1->Shp H1 r c ts bs->Q (.ref r) H1
 | _=>False
theorem qj{n a b:Int}{H:PHp}{Q:VK'}{E:XK'}:dJ [.int n,.int a,.int b] H Q E=(a=1/\(1≤b/\b≤6)/\∀c ts bs r H1,OkS c ts bs->c≤b->Srt ts->Srt bs->U.Sub H H1->Shp H1 r c ts bs->Q (.ref r) H1):=rfl
def fZ:Sp':=fun vs H Q _=>match vs with
 | [.ref a,v,.tup l]=>∃c ts bs,∃L S:List Int,Shp H a c ts bs/\OkS c ts bs/\NmV H v L/\l=S.map PV.int/\Nms c L/\S.Nodup/\(∀x∈S,x∈L)/\∀M:List Int,UpS ts L S M->Q (.tup (M.map PV.int)) H
 | _=>False
theorem u6{a:Addr}{v:PV}{l:List PV}{H:PHp}{Q:VK'}{E:XK'}:fZ [.ref a,v,.tup l] H Q E=(∃c ts bs,∃L S:List Int,Shp H a c ts bs/\OkS c ts bs/\NmV H v L/\l=S.map PV.int/\Nms c L/\S.Nodup/\(∀x∈S,x∈L)/\∀M:List Int,UpS ts L S M->Q (.tup (M.map PV.int)) H):=rfl
def eU:Sp':=fun vs H Q _=>match vs with
 | [.ref a,v]=>∃c ts bs,∃L:List Int,Shp H a c ts bs/\OkS c ts bs/\NmV H v L/\Nms c L/\∀r Ls H1,U.Sub H H1->H1 r=some (.lst (Ls.map tupI))->cM (both bs L) L Ls->Ls.length≤6->Q (.ref r) H1
 | _=>False
theorem tY{a:Addr}{v:PV}{H:PHp}{Q:VK'}{E:XK'}:eU [.ref a,v] H Q E=(∃c ts bs,∃L:List Int,Shp H a c ts bs/\OkS c ts bs/\NmV H v L/\Nms c L/\∀r Ls H1,U.Sub H H1->H1 r=some (.lst (Ls.map tupI))->cM (both bs L) L Ls->Ls.length≤6->Q (.ref r) H1):=rfl
def gc:Sp':=fun vs H Q _=>match vs with
 | [.ref a,v,.tup l]=>∃c ts bs,∃L:List Int,∃x0 R0,Shp H a c ts bs/\OkS c ts bs/\NmV H v L/\l=(x0::R0).map PV.int/\Nms c L/\x0∈L/\∀M:List Int,LA bs L x0 M->Q (.tup (M.map PV.int)) H
 | _=>False
theorem uJ{a:Addr}{v:PV}{l:List PV}{H:PHp}{Q:VK'}{E:XK'}:gc [.ref a,v,.tup l] H Q E=(∃c ts bs,∃L:List Int,∃x0 R0,Shp H a c ts bs/\OkS c ts bs/\NmV H v L/\l=(x0::R0).map PV.int/\Nms c L/\x0∈L/\∀M:List Int,LA bs L x0 M->Q (.tup (M.map PV.int)) H):=rfl
def eX:Sp':=fun vs H Q _=>match vs with
 | [.ref a,.tup l]=>∃c ts bs,∃L:List Int,Shp H a c ts bs/\l=L.map PV.int/\L.length≤1000/\(Nms c L->Q (.bl true) H)/\(¬Nms c L->Q (.bl false) H)
 | _=>False
theorem ti{a:Addr}{l:List PV}{H:PHp}{Q:VK'}{E:XK'}:eX [.ref a,.tup l] H Q E=(∃c ts bs,∃L:List Int,Shp H a c ts bs/\l=L.map PV.int/\L.length≤1000/\(Nms c L->Q (.bl true) H)/\(¬Nms c L->Q (.bl false) H)):=rfl
def ib:Sp':=fun vs H Q _=>match vs with
 | [.ref a,.tup s,v]=>∃c ts bs,∃S:List Int,∃p:Cu,Shp H a c ts bs/\OkS c ts bs/\s=S.map PV.int/\v=aQ p/\Nms c S/\p.2.length≤1000/\(Vc c ts bs S p.1 p.2->Q (.tup (p.2.map PV.int)) H)/\(¬Vc c ts bs S p.1 p.2->Q (.tup []) H)
 | _=>False
theorem z9{a:Addr}{s:List PV}{v:PV}{H:PHp}{Q:VK'}{E:XK'}:ib [.ref a,.tup s,v] H Q E=(∃c ts bs,∃S:List Int,∃p:Cu,Shp H a c ts bs/\OkS c ts bs/\s=S.map PV.int/\v=aQ p/\Nms c S/\p.2.length≤1000/\(Vc c ts bs S p.1 p.2->Q (.tup (p.2.map PV.int)) H)/\(¬Vc c ts bs S p.1 p.2->Q (.tup []) H)):=rfl
def fb:Sp':=fun vs H Q _=>match vs with
 | [.ref a,.tup s,.tup l]=>∃c ts bs,∃S L:List Int,Shp H a c ts bs/\OkS c ts bs/\s=S.map PV.int/\l=L.map PV.int/\Nms c S/\L.length≤6/\∀r H1,∀Ns:List (List Int),H r=none->U.Sub H H1->H1 r=some (.lst (Ns.map fun N=>aQ ("up",N)))->(∀N,N∈Ns↔(Vc c ts bs S "up" N/\∀y∈L,y∈N))->Ns.length≤64->Q (.ref r) H1
 | _=>False
theorem tX{a:Addr}{s l:List PV}{H:PHp}{Q:VK'}{E:XK'}:fb [.ref a,.tup s,.tup l] H Q E=(∃c ts bs,∃S L:List Int,Shp H a c ts bs/\OkS c ts bs/\s=S.map PV.int/\l=L.map PV.int/\Nms c S/\L.length≤6/\∀r H1,∀Ns:List (List Int),H r=none->U.Sub H H1->H1 r=some (.lst (Ns.map fun N=>aQ ("up",N)))->(∀N,N∈Ns↔(Vc c ts bs S "up" N/\∀y∈L,y∈N))->Ns.length≤64->Q (.ref r) H1):=rfl
def iz:Sp':=fun vs H Q _=>match vs with
 | [.ref a,.tup l,.int n]=>∃c ts bs,∃x0 R0,Shp H a c ts bs/\OkS c ts bs/\l=(x0::R0).map PV.int/\Cn c bs (x0::R0) x0/\∀r r2 H1,∀cs:List Cu,∀T:List Int,U.Sub H H1->H1 r=some (.lst [.ref r2,.tup (T.map PV.int)])->H1 r2=some (.lst (cs.map aQ))->cs.length≤6->(∀q∈cs,q.2.length≤6)->Fin c ts bs (x0::R0) x0 T->Q (.ref r) H1
 | _=>False
theorem xU{a:Addr}{l:List PV}{n:Int}{H:PHp}{Q:VK'}{E:XK'}:iz [.ref a,.tup l,.int n] H Q E=(∃c ts bs,∃x0 R0,Shp H a c ts bs/\OkS c ts bs/\l=(x0::R0).map PV.int/\Cn c bs (x0::R0) x0/\∀r r2 H1,∀cs:List Cu,∀T:List Int,U.Sub H H1->H1 r=some (.lst [.ref r2,.tup (T.map PV.int)])->H1 r2=some (.lst (cs.map aQ))->cs.length≤6->(∀q∈cs,q.2.length≤6)->Fin c ts bs (x0::R0) x0 T->Q (.ref r) H1):=rfl
def dU:Sp':=fun vs H Q _=>match vs with
 | [.ref a,v]=>∃c ts bs,∃A B:List Int,Shp H a c ts bs/\OkS c ts bs/\v=qV A B/\Qn c A B/\∀M:List Int,M.Pairwise (·<·)->(∀y,y∈M↔My.Reach (up2 ts (nin c A)) B y)->Q (.tup (M.map PV.int)) H
 | _=>False
theorem pQ{a:Addr}{v:PV}{H:PHp}{Q:VK'}{E:XK'}:dU [.ref a,v] H Q E=(∃c ts bs,∃A B:List Int,Shp H a c ts bs/\OkS c ts bs/\v=qV A B/\Qn c A B/\∀M:List Int,M.Pairwise (·<·)->(∀y,y∈M↔My.Reach (up2 ts (nin c A)) B y)->Q (.tup (M.map PV.int)) H):=rfl
def gx:Sp':=fun vs H Q _=>match vs with
 | [.ref a,v,.tup l,.tup m]=>∃c ts bs,∃A B I O:List Int,v=qV A B/\l=I.map PV.int/\m=O.map PV.int/\Shp H a c ts bs/\OkS c ts bs/\Qn c A B/\Nms c I/\Nms c O/\∀b:Bool,(b=true↔d7 c ts bs A B I O)->Q (.bl b) H
 | _=>False
theorem wK{a:Addr}{v:PV}{l m:List PV}{H:PHp}{Q:VK'}{E:XK'}:gx [.ref a,v,.tup l,.tup m] H Q E=(∃c ts bs,∃A B I O:List Int,v=qV A B/\l=I.map PV.int/\m=O.map PV.int/\Shp H a c ts bs/\OkS c ts bs/\Qn c A B/\Nms c I/\Nms c O/\∀b:Bool,(b=true↔d7 c ts bs A B I O)->Q (.bl b) H):=rfl
def eQ(t:Ad):Sp':=fun vs H Q _=>match vs with
 | [.ref x,v]=>∃c ts bs,∃A B:List Int,v=qV A B/\Dr t H x c ts bs/\OkD c ts bs/\Qn c A B/\∀W Ls r H1,U.Sub H H1->Wnt c ts bs A B W Ls->H1 r=some (.lst (Ls.map tupI))->Ls.length≤6->Q (.tup [.tup (W.map PV.int),.ref r]) H1
 | _=>False
theorem si{x:Addr}{v:PV}{H:PHp}{Q:VK'}{E:XK'}:eQ t [.ref x,v] H Q E=(∃c ts bs,∃A B:List Int,v=qV A B/\Dr t H x c ts bs/\OkD c ts bs/\Qn c A B/\∀W Ls r H1,U.Sub H H1->Wnt c ts bs A B W Ls->H1 r=some (.lst (Ls.map tupI))->Ls.length≤6->Q (.tup [.tup (W.map PV.int),.ref r]) H1):=rfl
def fh(t:Ad):Sp':=fun vs H Q _=>match vs with
 | [.ref x,.tup l,.tup m]=>∃c ts bs,∃L:List Int,∃x0 R0,Dr t H x c ts bs/\OkD c ts bs/\l=L.map PV.int/\m=(x0::R0).map PV.int/\Nms c L/\x0∈L/\∀M:List Int,LA bs L x0 M->Q (.tup (M.map PV.int)) H
 | _=>False
theorem t9{x:Addr}{l m:List PV}{H:PHp}{Q:VK'}{E:XK'}:fh t [.ref x,.tup l,.tup m] H Q E=(∃c ts bs,∃L:List Int,∃x0 R0,Dr t H x c ts bs/\OkD c ts bs/\l=L.map PV.int/\m=(x0::R0).map PV.int/\Nms c L/\x0∈L/\∀M:List Int,LA bs L x0 M->Q (.tup (M.map PV.int)) H):=rfl
def gy(t:Ad):Sp':=fun vs H Q _=>match vs with
 | [.ref x,.tup m]=>∃c ts bs,∃x0 R0,Dr t H x c ts bs/\OkD c ts bs/\m=(x0::R0).map PV.int/\(0≤x0/\x0<c)/\∀M:List Int,LA bs (ulN c) x0 M->Q (.tup (M.map PV.int)) H
 | _=>False
theorem vh{x:Addr}{m:List PV}{H:PHp}{Q:VK'}{E:XK'}:gy t [.ref x,.tup m] H Q E=(∃c ts bs,∃x0 R0,Dr t H x c ts bs/\OkD c ts bs/\m=(x0::R0).map PV.int/\(0≤x0/\x0<c)/\∀M:List Int,LA bs (ulN c) x0 M->Q (.tup (M.map PV.int)) H):=rfl
def dS(t:Ad):Sp':=fun vs H Q _=>match vs with
 | [.ref x,.tup m]=>∃c ts bs,∃x0 R0,Dr t H x c ts bs/\OkD c ts bs/\m=(x0::R0).map PV.int/\Cn c bs (x0::R0) x0/\∀S0 T:List Int,∀cs:List Cu,LA bs (ulN c) x0 S0->de c ts bs S0 cs->stA S0 cs=T->cs.length≤6->Fin c ts bs (x0::R0) x0 T->Q (.tup [.tup (cs.map aQ),.tup (T.map PV.int)]) H
 | _=>False
theorem o9{x:Addr}{m:List PV}{H:PHp}{Q:VK'}{E:XK'}:dS t [.ref x,.tup m] H Q E=(∃c ts bs,∃x0 R0,Dr t H x c ts bs/\OkD c ts bs/\m=(x0::R0).map PV.int/\Cn c bs (x0::R0) x0/\∀S0 T:List Int,∀cs:List Cu,LA bs (ulN c) x0 S0->de c ts bs S0 cs->stA S0 cs=T->cs.length≤6->Fin c ts bs (x0::R0) x0 T->Q (.tup [.tup (cs.map aQ),.tup (T.map PV.int)]) H):=rfl
def fY(t:Ad):Sp':=fun vs H Q _=>match vs with
 | [.ref x,v]=>∃c ts bs,∃A B:List Int,v=qV A B/\Dr t H x c ts bs/\OkD c ts bs/\Qn c A B/\(∀W Ls,∀rows:List Ro,Wnt c ts bs A B W Ls->Lets c ts bs Ls rows->rows.length≤100->(∀p∈rows,p.2.length≤100/\∀q∈p.2,q.2.length≤100)->(∀L0∈Ls,∀x0,L0.head?=some x0->Fin c ts bs L0 x0 L0)->Q (.tup [.str "formula",.tup (rows.map bE)]) H)/\∀W Ls,∀L0 T:List Int,∀x0 R0,Wnt c ts bs A B W Ls->L0=x0::R0->L0∈Ls->Fin c ts bs L0 x0 T->T≠L0->Q (.tup [.str "nest",.tup (L0.map PV.int),.tup (T.map PV.int)]) H
 | _=>False
theorem vQ{x:Addr}{v:PV}{H:PHp}{Q:VK'}{E:XK'}:fY t [.ref x,v] H Q E=(∃c ts bs,∃A B:List Int,v=qV A B/\Dr t H x c ts bs/\OkD c ts bs/\Qn c A B/\(∀W Ls,∀rows:List Ro,Wnt c ts bs A B W Ls->Lets c ts bs Ls rows->rows.length≤100->(∀p∈rows,p.2.length≤100/\∀q∈p.2,q.2.length≤100)->(∀L0∈Ls,∀x0,L0.head?=some x0->Fin c ts bs L0 x0 L0)->Q (.tup [.str "formula",.tup (rows.map bE)]) H)/\∀W Ls,∀L0 T:List Int,∀x0 R0,Wnt c ts bs A B W Ls->L0=x0::R0->L0∈Ls->Fin c ts bs L0 x0 T->T≠L0->Q (.tup [.str "nest",.tup (L0.map PV.int),.tup (T.map PV.int)]) H):=rfl
theorem sX{ok:PHp->Prop}{g:TG'}{tt:TT'}{te:TE'}{acc:Addr}{Q:VK'}{xs:List PV}(I:Nat->St'->PHp->Prop)
  (hs:∀(i:Nat) (x:PV) (σ:St') (H:PHp) (R:St'->PHp->Prop),xs[i]?=some x->I i σ H->(∀σ' H',I (i+1) σ' H'->R σ' H') ->
   ok H/\g x σ H fun σ3 H2=>tt σ3 H2 fun b H3=>cif b (te σ3 H3 fun y H4=>∃l',H4 acc=some (.lst l')/\l'.length<sizeLine/\R σ3 (put H4 acc (.lst (l'++[y])))) (R σ3 H3))
  (hq:∀σ H,I xs.length σ H->ok H/\Q (.ref acc) H) {σ:St'} {H:PHp} (h0:I 0 σ H):dX ok g tt te acc Q xs σ H:=by
 have key:∀(r d:List PV) (σ:St') (H:PHp),xs=d++r->I d.length σ H->dX ok g tt te acc Q r σ H:=by
  intro r
  induction r with
  | nil =>
   intro d σ H e hv;rw[F1]at e;subst e;exact hq σ H hv
  | cons x r ih =>
   intro d σ H e hv;refine hs d.length x σ H _ (by rw[e];simp) hv fun σ' H' h'=>?_;exact ih (d++[x]) σ' H' (by rw[e];simp) (by rw[E3];exact h')
 exact key xs [] σ H rfl h0
def zY(S N:List Int)(y:PV):PV:=match y with | .int u=>.bl (decide (u∈S)&&!decide (u∈N)) | _=>.non
theorem oZ{S N l:List Int}:((l.map PV.int).filter (fun _=>true)).map (zY S N)=(l.map fun u=>decide (u∈S)&&!decide (u∈N)).map PV.bl:=by
 rw[Gs.mpr (fun _ _=>rfl),F4,F4];rfl
theorem oG{ts:List P2}{S N:List Int}{n:Int}:((((ts.filter fun p=>decide (p.2=n)).map (·.1)).map fun u=>decide (u∈S)&&!decide (u∈N)).any id)=true↔∃u,(u,n)∈ts/\u∈S/\u∉N:=by
 rw[List.any_map,List.any_map,GN];constructor
 ·rintro⟨p,hp,e⟩;have h:=Fq.mp hp;have e2:p.2=n:=Gk h.2;simp only[Function.comp,id,Gg,FJ,Bool.not_eq_true',decide_eq_false_iff_not]at e;exact⟨p.1,by rw[←e2];exact h.1,e.1,e.2⟩
 ·rintro⟨u,h,hu,nu⟩;refine⟨(u,n),Fq.mpr ⟨h,FO rfl⟩,?_⟩;simp[hu,nu]
structure Sz (k:Nat) (rows:List Ro):Prop where
 n:rows.length≤k
 a:∀p∈rows,p.1.length≤k
 b:∀p∈rows,p.2.length≤k
 c:∀p∈rows,∀q∈p.2,q.2.length≤k
theorem Sz.sub{k:Nat}{rows rows2:List Ro}(sz:Sz k rows)(hl:rows2.length≤k+6)(hm:∀p∈rows2,p∈rows):Sz (k+6) rows2 :=
 ⟨hl,fun p hp=>FI (sz.a p (hm p hp)) (by omega),fun p hp=>FI (sz.b p (hm p hp)) (by omega),fun p hp q hq=>FI (sz.c p (hm p hp) q hq) (by omega)⟩
theorem DY{a b:PV}{i:Int}{P:PV->Prop}(h0:0≤i)(h4:i<2)(pa:P a)(pb:P b):eE (atI [a,b] i) P:=by
 have:i=0∨i=1:=by omega
 rcases this with rfl | rfl
 ·exact pa
 ·exact pb
theorem CW{a b c:PV}{i:Int}{P:PV->Prop}(h0:0≤i)(h4:i<3)(pa:P a)(pb:P b)(pc:P c):eE (atI [a,b,c] i) P:=by
 have:i=0∨i=1∨i=2:=by omega
 rcases this with rfl | rfl | rfl
 ·exact pa
 ·exact pb
 ·exact pc
theorem DI{a b c d:PV}{i:Int}{P:PV->Prop}(h0:0≤i)(h4:i<4)(pa:P a)(pb:P b)(pc:P c)(pd:P d):eE (atI [a,b,c,d] i) P:=by
 have:i=0∨i=1∨i=2∨i=3:=by omega
 rcases this with rfl | rfl | rfl | rfl
 ·exact pa
 ·exact pb
 ·exact pc
 ·exact pd
theorem my{xs:List PV}{k:Nat}(h:k≤xs.length):cC xs none (some ((k:Nat):Int))=xs.take k:=by
 unfold cC;rw[HT.d5,HT.h9,List.drop_zero,Nat.sub_zero,Nat.min_eq_left h]
theorem vD{α:Type}{l:List α}{n:Nat}{j:Nat}{x:α}(hn:l.length≤n)(hj:j≤l.length):(l.take j++[x]++l.drop j).length≤n+1/\(l.take j++[x]++l.drop (j+1)).length≤n+1/\(l.take j++l.drop (j+1)).length≤n:=by
 simp only[E3,FA,FZ,Fj];omega
theorem gv{α:Type}{l:List α}{j i:Nat}{x:α}{P:α->Prop}(hl:∀y∈l,P y)(hx:P x):(∀y∈l.take j++[x]++l.drop i,P y)/\∀y∈l.take j++l.drop i,P y:=by
 constructor
 ·intro y hy;rcases E9.mp hy with hy | hy
  ·rcases E9.mp hy with hy | hy
   ·exact hl y (List.mem_of_mem_take hy)
   ·rw[E5]at hy;rw[hy];exact hx
  ·exact hl y (List.mem_of_mem_drop hy)
 ·intro y hy;rcases E9.mp hy with hy | hy
  ·exact hl y (List.mem_of_mem_take hy)
  ·exact hl y (List.mem_of_mem_drop hy)
theorem kc{α:Type}(f:α->PV)(l:List α)(lo hi:Option Int):∃m:List α,cC (l.map f) lo hi=m.map f/\m.length≤l.length/\∀x∈m,x∈l:=by
 refine⟨(l.drop (HT.sIx (l.map f).length 0 lo)).take (HT.sIx (l.map f).length (l.map f).length hi - HT.sIx (l.map f).length 0 lo),?_,?_,fun x hx=>List.mem_of_mem_drop (List.mem_of_mem_take hx)⟩
 ·unfold cC;rw[List.map_take,List.map_drop]
 ·rw[FA,FZ];omega
theorem lP{α:Type}(f:α->PV)(l:List α):∃m:List α,cC (l.map f) (some (-1)) none=m.map f/\m.length≤1/\∀x∈m,x∈l:=by
 refine⟨l.drop (l.length - 1),?_,by rw[FZ];omega,fun x hx=>List.mem_of_mem_drop hx⟩;have e:HT.sIx (l.map f).length 0 (some (-1))=l.length - 1:=by
  unfold HT.sIx;rw[EW];simp;omega
 unfold cC;rw[e,HT.d5,EW,List.map_drop];exact List.take_of_length_le (by rw[FZ,EW];omega)
theorem pV{α:Type}(f:α->PV)(l:List α):∃m:List α,cC (l.map f) none (some 1)=m.map f/\m.length≤1/\∀x∈m,x∈l:=by
 refine⟨l.take 1,?_,by rw[FA];omega,fun x hx=>List.mem_of_mem_take hx⟩;unfold cC;rw[HT.d5,show(1:Int)=((1:Nat):Int)from rfl,HT.h9,List.drop_zero,EW,List.map_take,Nat.sub_zero];rcases Nat.lt_or_ge l.length 1 with h | h
 ·have:l=[]:=Gm.mp (by omega);subst this;rfl
 ·rw[Nat.min_eq_left h]
def gj:Sp':=fun vs H Q _=>match vs with
 | [.int c,.tup l]=>∃L:List Int,l=L.map PV.int/\(Nms c L->Q (.bl true) H)/\(¬Nms c L->Q (.bl false) H)
 | _=>False
theorem vH{c:Int}{l:List PV}{H:PHp}{Q:VK'}{E:XK'}:gj [.int c,.tup l] H Q E=(∃L:List Int,l=L.map PV.int/\(Nms c L->Q (.bl true) H)/\(¬Nms c L->Q (.bl false) H)):=rfl
def fg:Sp':=fun vs H Q _=>match vs with
 | [.tup l,.tup m]=>∃A B:List Int,l=A.map PV.int/\m=B.map PV.int/\A.length≤1000/\∀b:Bool,(b=true↔(A.length<B.length/\∀x∈A,x∈B))->Q (.bl b) H
 | _=>False
theorem rE{l m:List PV}{H:PHp}{Q:VK'}{E:XK'}:fg [.tup l,.tup m] H Q E=(∃A B:List Int,l=A.map PV.int/\m=B.map PV.int/\A.length≤1000/\∀b:Bool,(b=true↔(A.length<B.length/\∀x∈A,x∈B))->Q (.bl b) H):=rfl
def eZ(t:Ad):Sp':=fun vs H Q _=>match vs with
 | [.ref x,.tup l,.tup m]=>∃c ts bs,∃N S:List Int,Dr t H x c ts bs/\OkD c ts bs/\l=N.map PV.int/\m=S.map PV.int/\Nms c N/\∀b:Bool,(b=true↔pF ts S N)->Q (.bl b) H
 | _=>False
theorem ub{x:Addr}{l m:List PV}{H:PHp}{Q:VK'}{E:XK'}:eZ t [.ref x,.tup l,.tup m] H Q E=(∃c ts bs,∃N S:List Int,Dr t H x c ts bs/\OkD c ts bs/\l=N.map PV.int/\m=S.map PV.int/\Nms c N/\∀b:Bool,(b=true↔pF ts S N)->Q (.bl b) H):=rfl
def gw(t:Ad):Sp':=fun vs H Q _=>match vs with
 | [.ref x,.tup s,.tup l]=>∃c ts bs,∃S N:List Int,Dr t H x c ts bs/\OkD c ts bs/\s=S.map PV.int/\l=N.map PV.int/\Nms c S/\N.length≤1000/\∀b:Bool,(b=true↔Vc c ts bs S "up" N)->Q (.bl b) H
 | _=>False
theorem wj{x:Addr}{s l:List PV}{H:PHp}{Q:VK'}{E:XK'}:gw t [.ref x,.tup s,.tup l] H Q E=(∃c ts bs,∃S N:List Int,Dr t H x c ts bs/\OkD c ts bs/\s=S.map PV.int/\l=N.map PV.int/\Nms c S/\N.length≤1000/\∀b:Bool,(b=true↔Vc c ts bs S "up" N)->Q (.bl b) H):=rfl
def dM(t:Ad):Sp':=fun vs H Q _=>match vs with
 | [.ref x,.tup s,.tup l]=>∃c ts bs,∃S N:List Int,Dr t H x c ts bs/\OkD c ts bs/\s=S.map PV.int/\l=N.map PV.int/\Nms c S/\N.length≤1000/\∀b:Bool,(b=true↔Vc c ts bs S "lump" N)->Q (.bl b) H
 | _=>False
theorem qA{x:Addr}{s l:List PV}{H:PHp}{Q:VK'}{E:XK'}:dM t [.ref x,.tup s,.tup l] H Q E=(∃c ts bs,∃S N:List Int,Dr t H x c ts bs/\OkD c ts bs/\s=S.map PV.int/\l=N.map PV.int/\Nms c S/\N.length≤1000/\∀b:Bool,(b=true↔Vc c ts bs S "lump" N)->Q (.bl b) H):=rfl
def fS(t:Ad):Sp':=fun vs H Q _=>match vs with
 | [.ref x,.tup s,v]=>∃c ts bs,∃S:List Int,∃p:Cu,Dr t H x c ts bs/\OkD c ts bs/\s=S.map PV.int/\v=aQ p/\Nms c S/\p.2.length≤1000/\∀b:Bool,(b=true↔Vc c ts bs S p.1 p.2)->Q (.bl b) H
 | _=>False
theorem vY{x:Addr}{s:List PV}{v:PV}{H:PHp}{Q:VK'}{E:XK'}:fS t [.ref x,.tup s,v] H Q E=(∃c ts bs,∃S:List Int,∃p:Cu,Dr t H x c ts bs/\OkD c ts bs/\s=S.map PV.int/\v=aQ p/\Nms c S/\p.2.length≤1000/\∀b:Bool,(b=true↔Vc c ts bs S p.1 p.2)->Q (.bl b) H):=rfl
def e8(t:Ad):Sp':=fun vs H Q _=>match vs with
 | [.ref x,.tup l,.tup m]=>∃c ts bs,∃x0 R0,∃cs:List Cu,Dr t H x c ts bs/\OkD c ts bs/\l=(x0::R0).map PV.int/\m=cs.map aQ/\(0≤x0/\x0<c)/\cs.length≤100/\(∀q∈cs,q.2.length≤100)/\∀b:Bool,(b=true↔lY c ts bs (x0::R0,cs))->Q (.bl b) H
 | _=>False
theorem rQ{x:Addr}{l m:List PV}{H:PHp}{Q:VK'}{E:XK'}:e8 t [.ref x,.tup l,.tup m] H Q E=(∃c ts bs,∃x0 R0,∃cs:List Cu,Dr t H x c ts bs/\OkD c ts bs/\l=(x0::R0).map PV.int/\m=cs.map aQ/\(0≤x0/\x0<c)/\cs.length≤100/\(∀q∈cs,q.2.length≤100)/\∀b:Bool,(b=true↔lY c ts bs (x0::R0,cs))->Q (.bl b) H):=rfl
def ig(t:Ad):Sp':=fun vs H Q _=>match vs with
 | [.ref x,v,.tup l]=>∃c ts bs,∃A B:List Int,∃rows:List Ro,Dr t H x c ts bs/\OkD c ts bs/\v=qV A B/\l=rows.map bE/\Qn c A B/\rows.length≤100/\(∀p∈rows,p.2.length≤100/\∀q∈p.2,q.2.length≤100)/\∀W Ls,∀b:Bool,Wnt c ts bs A B W Ls->(b=true↔Lets c ts bs Ls rows)->Q (.bl b) H
 | _=>False
theorem yX{x:Addr}{v:PV}{l:List PV}{H:PHp}{Q:VK'}{E:XK'}:ig t [.ref x,v,.tup l] H Q E=(∃c ts bs,∃A B:List Int,∃rows:List Ro,Dr t H x c ts bs/\OkD c ts bs/\v=qV A B/\l=rows.map bE/\Qn c A B/\rows.length≤100/\(∀p∈rows,p.2.length≤100/\∀q∈p.2,q.2.length≤100)/\∀W Ls,∀b:Bool,Wnt c ts bs A B W Ls->(b=true↔Lets c ts bs Ls rows)->Q (.bl b) H):=rfl
def dI:Sp':=fun vs H Q _=>match vs with
 | [.tup l,.int n,.int c]=>∃L:List Int,l=L.map PV.int/\L.length≤40/\(1≤c/\c≤6)/\∀M:List Int,M.length≤L.length+6->Q (.tup (M.map PV.int)) H
 | _=>False
theorem qt{l:List PV}{n c:Int}{H:PHp}{Q:VK'}{E:XK'}:dI [.tup l,.int n,.int c] H Q E=(∃L:List Int,l=L.map PV.int/\L.length≤40/\(1≤c/\c≤6)/\∀M:List Int,M.length≤L.length+6->Q (.tup (M.map PV.int)) H):=rfl
def iD:Sp':=fun vs H Q _=>match vs with
 | [.tup l,.int n,.int c]=>∃(rows:List Ro) (k:Nat),l=rows.map bE/\Sz k rows/\k≤34/\(1≤c/\c≤6)/\∀rows2:List Ro,Sz (k+6) rows2->Q (.tup (rows2.map bE)) H
 | _=>False
theorem yj{l:List PV}{n c:Int}{H:PHp}{Q:VK'}{E:XK'}:iD [.tup l,.int n,.int c] H Q E=(∃(rows:List Ro) (k:Nat),l=rows.map bE/\Sz k rows/\k≤34/\(1≤c/\c≤6)/\∀rows2:List Ro,Sz (k+6) rows2->Q (.tup (rows2.map bE)) H):=rfl
def ip(t:Ad):Sp':=fun vs H Q _=>match vs with
 | [.ref x,.tup l]=>∃c ts bs,∃L:List Int,Dr t H x c ts bs/\l=L.map PV.int/\OkD c ts bs/\Nms c L/\∀b:Bool,(b=true↔cM (both bs L) L [L])->Q (.bl b) H
 | _=>False
theorem x8{x:Addr}{l:List PV}{H:PHp}{Q:VK'}{E:XK'}:ip t [.ref x,.tup l] H Q E=(∃c ts bs,∃L:List Int,Dr t H x c ts bs/\l=L.map PV.int/\OkD c ts bs/\Nms c L/\∀b:Bool,(b=true↔cM (both bs L) L [L])->Q (.bl b) H):=rfl
def iy(t:Ad):Sp':=fun vs H Q _=>match vs with
 | [.ref x,v,.tup l,.tup m]=>∃c ts bs,∃A B I O:List Int,v=qV A B/\l=I.map PV.int/\m=O.map PV.int/\Dr t H x c ts bs/\OkD c ts bs/\Qn c A B/\Nms c I/\Nms c O/\∀b:Bool,(b=true↔d7 c ts bs A B I O)->Q (.bl b) H
 | _=>False
theorem Ao{x:Addr}{v:PV}{l m:List PV}{H:PHp}{Q:VK'}{E:XK'}:iy t [.ref x,v,.tup l,.tup m] H Q E=(∃c ts bs,∃A B I O:List Int,v=qV A B/\l=I.map PV.int/\m=O.map PV.int/\Dr t H x c ts bs/\OkD c ts bs/\Qn c A B/\Nms c I/\Nms c O/\∀b:Bool,(b=true↔d7 c ts bs A B I O)->Q (.bl b) H):=rfl
theorem n4:∀(n k b:Nat),(((List.range n).map fun j=>((j+k:Nat):Int)).filter fun u=>(((b:Nat):Int) / 2 ^ u.toNat).fmod 2==1)=cF (b / 2 ^ k) ((List.range n).map fun j=>((j+k:Nat):Int))
 | 0,_,_=>rfl
 | n+1,k,b=>by
  have ih:=n4 n (k+1) b;have ef:((List.range n).map Nat.succ).map (fun j=>((j+k:Nat):Int))=(List.range n).map fun j=>((j+(k+1):Nat):Int):=by
   rw[F4];refine List.map_congr_left fun j _=>?_;show(((j+1)+k:Nat):Int)=_;rw[show j+1+k=j+(k+1) by omega]
  rw[List.range_succ_eq_map,E8,ef,Fz];have e0:(((b:Nat):Int) / 2 ^ (((0+k:Nat):Int)).toNat).fmod 2==1↔b / 2 ^ k % 2=1:=by
   rw[show(((0+k:Nat):Int)).toNat=k by omega,ox,FJ]
  rw[ih];have ed:b / 2 ^ (k+1)=b / 2 ^ k / 2:=by rw[Nat.pow_succ,Nat.div_div_eq_div_mul]
  show _=if b / 2 ^ k % 2=1 then _::cF (b / 2 ^ k / 2) _ else cF (b / 2 ^ k / 2) _;rw[ed];by_cases q:b / 2 ^ k % 2=1
  ·rw[Fp (e0.mpr q),Fp q]
  ·rw[Fh (fun z=>q (e0.mp z)),Fh q]
def Oi(c:Int)(i:Nat):List Int:=(ulN c).filter fun u=>(((i:Nat):Int) / 2 ^ u.toNat).fmod 2==1
theorem yJ{c:Int}{i:Nat}:Nms c (Oi c i):=⟨(jb c).filter _,fun x hx=>bG.mp (Fq.mp hx).1⟩
theorem zI{c:Int}{O:List Int}(hO:Nms c O):∃i,i<2 ^ c.toNat/\Oi c i=O:=by
 obtain⟨b,hb,e⟩:=gh (d9 hO.up (jb c) fun y hy=>bG.mpr (hO.lo y hy));have h:=n4 c.toNat 0 b;refine⟨b,?_,?_⟩
 ·unfold ulN at hb;rw[EW,Ga]at hb;exact hb
 ·rw[Nat.pow_zero,Nat.div_one]at h;exact h.trans e
theorem kD:∀S:List Int,cF 0 S=[]
 | []=>rfl
 | x::S=>by
  unfold cF;rw[Fh (by decide)];exact kD S
def qJ(c:Int)(ts bs:List P2)(A B:List Int):Prop:=∃I O,Nms c I/\Nms c O/\d7 c ts bs A B I O
theorem pe{ts:List P2}{S X L M:List Int}(h:∀y∈S,y∈X)(hl:∀y∈L,y∈M){y:Int}(r:My.Reach (up2 ts S) L y):My.Reach (up2 ts X) M y:=by
 induction r with
 | base q=>exact .base (hl _ q)
 | step _ e ih =>
  obtain⟨e1,e2,e3⟩:=bW.mp e;exact .step ih (bW.mpr ⟨e1,h _ e2,h _ e3⟩)
theorem jP{bs:List P2}{O:List Int}(h:cM (both bs O) O [O]){x:Int}(hx:x∈O):LA bs O x O:=iW h E7 hx
theorem jM{c:Int}{ts bs:List P2}{A B W I O:List Int}{Ls:List (List Int)}(w:Wnt c ts bs A B W Ls)(b:d7 c ts bs A B I O)(hq:Qn c A B):∃L0∈Ls,∃x0,L0.head?=some x0/\¬d3 ts bs L0 x0 L0:=by
 obtain⟨i0,I',eI⟩:=List.exists_cons_of_ne_nil b.ne;have i0I:i0∈I:=by rw[eI];exact E7
 have IW:∀y∈I,y∈W:=fun y hy=>(w.iff y).mpr (b.want y hy);obtain⟨L0,hL,i0L⟩:=j0 w.lm i0 (IW i0 i0I);obtain⟨x0,R0,eL⟩:=w.ne hL;have x0L:x0∈L0:=by rw[eL];exact E7
 have la:=iW w.lm hL i0L;have cn:=w.cn hL x0L;have LW:∀y∈L0,y∈W:=fun y hy=>la.sub (IW i0 i0I) y hy;have IL:∀y∈I,y∈L0:=fun y hy=>(la.iff y).mpr (cj IW (((jP b.li i0I).iff y).mp hy));refine⟨L0,hL,x0,by rw[eL];rfl,fun hold=>?_⟩;have i0O:=b.sub i0 i0I;have st:Stk ts bs L0 x0 (L0++O):=by
  refine⟨fun y hy=>FE _ hy,fun y hy=>?_,fun y hy=>?_⟩
  ·rcases E9.mp hy with q | q
   ·exact .base q
   ·exact pe (fun z hz=>Fw _ hz) IL ((b.anc y).mp q)
  ·rcases E9.mp hy with q | q
   ·exact cj (fun z hz=>FE _ hz) (cn.con y q)
   ·exact cP (cj (fun z hz=>FE _ hz) (cn.con i0 i0L)) (cj (fun z hz=>Fw _ hz) (((jP b.lo i0O).iff y).mp q))
 obtain⟨a,aO,aA⟩:=b.set;have aW:=LW a (hold _ st a (Fw _ aO));cases (w.iff a).mp aW with
 | base q=>exact hq.ap a aA q
 | step _ e=>exact(iA.mp (bW.mp e).2.1).2 aA
theorem tq{c:Int}{ts bs:List P2}{L0 S0:List Int}{cs:List Cu}{x0:Int}(gb:Good c bs)(hx:0≤x0/\x0<c)(hd:x0∈L0)(la:LA bs (ulN c) x0 S0)(ru:de c ts bs S0 cs)(e:stA S0 cs=L0):d3 ts bs L0 x0 L0:=by
 have sub:∀j,j≤cs.length->∀y∈L0,y∈stA S0 (cs.take (cs.length - j)):=by
  intro j
  induction j with
  | zero=>intro _ y hy;rw[Nat.sub_zero,FW,e];exact hy
  | succ j ih =>
   intro hj y hy;have h1:=ih (by omega) y hy;have ej:cs.length - j=(cs.length - (j+1))+1:=by omega
   have hl:cs.length - (j+1)<cs.length:=by omega
   have hx:=EY hl;rw[ej,F6,hx]at h1;have h1:y∈stA S0 (cs.take (cs.length - (j+1))++[cs[cs.length - (j+1)]]):=h1;rw[df]at h1;exact(ru _ _ hx).sub y h1
 have key:∀j,j≤cs.length->d3 ts bs L0 x0 (stA S0 (cs.take j)):=by
  intro j
  induction j with
  | zero=>intro _;rw[List.take_zero];exact(iY gb hx).lump la
  | succ j ih =>
   intro hj;have hl:j<cs.length:=by omega
   have hg:=EY hl;have s:=sub (cs.length - (j+1)) (by omega);rw[show cs.length - (cs.length - (j+1))=j+1 by omega]at s;rw[F6,hg]at s ⊢;have s:∀y∈L0,y∈stA S0 (cs.take j++[cs[j]]):=s;show d3 ts bs L0 x0 (stA S0 (cs.take j++[cs[j]]));rw[df]at s ⊢;exact(ru _ _ hg).keep (ih (by omega)) hd s
 have:=key cs.length (Fd _);rw[FW,e]at this;exact this
theorem Be{c:Int}{bs:List P2}{x0:Int}(hx:x0∈ulN c):∃S0,LA bs (ulN c) x0 S0:=by
 have q:∀y,My.Reach (both bs (ulN c)) [x0] y->y∈ulN c:=fun y z=>by
  cases z with
  | base h=>rw[E5]at h;rw[h];exact hx
  | step _ e=>exact(bO.mp e).2.1
 refine⟨(ulN c).filter fun y=>@decide (My.Reach (both bs (ulN c)) [x0] y) (Classical.propDecidable _),(jb c).filter _,fun y=>?_⟩;rw[Fq];exact⟨fun z=>@Gk _ (Classical.propDecidable _) z.2,fun z=>⟨q y z,@FO _ (Classical.propDecidable _) z⟩⟩
theorem mz{c:Int}{ts bs:List P2}{A B W I O:List Int}{Ls:List (List Int)}{rows:List Ro}(w:Wnt c ts bs A B W Ls)(gb:Good c bs)(hq:Qn c A B)(le:Lets c ts bs Ls rows)(b:d7 c ts bs A B I O):False:=by
 obtain⟨L0,hL,x0,hh,nh⟩:=jM w b hq;have hd:x0∈L0:=List.mem_of_mem_head? (by rw[hh];rfl);have lo:=(w.cn hL hd).nms.lo x0 hd;rw[←le.1]at hL;obtain⟨p,hp,rfl⟩:=Fg.mp hL;obtain⟨S0,l0⟩:=Be (bs:=bs) (bG.mpr lo);obtain⟨ru,e⟩:=le.2 p hp x0 S0 hh l0;exact nh (tq gb lo hd l0 ru e)
theorem qN{c:Int}{ts bs:List P2}{A B W:List Int}{Ls:List (List Int)}(w:Wnt c ts bs A B W Ls)(hq:Qn c A B)(f:∀L0∈Ls,∀x0,L0.head?=some x0->Fin c ts bs L0 x0 L0):¬qJ c ts bs A B:=by
 rintro⟨I,O,_,_,b⟩;obtain⟨L0,hL,x0,hh,nh⟩:=jM w b hq;exact nh (f L0 hL x0 hh).hold
def gk:Sp':=fun vs H Q _=>match vs with
 | [.ref a,v]=>∃c ts bs,∃A B:List Int,v=qV A B/\Shp H a c ts bs/\OkS c ts bs/\c≤5/\Qn c A B/\∀r H1,∀Ns:List (List Int×List Int),U.Sub H H1->H1 r=some (.lst (Ns.map fun p=>.tup [tupI p.1,tupI p.2]))->(∀p∈Ns,Nms c p.1/\Nms c p.2)->Ns.length≤1024->(Ns≠[]↔qJ c ts bs A B)->Q (.ref r) H1
 | _=>False
theorem vt{a:Addr}{v:PV}{H:PHp}{Q:VK'}{E:XK'}:gk [.ref a,v] H Q E=(∃c ts bs,∃A B:List Int,v=qV A B/\Shp H a c ts bs/\OkS c ts bs/\c≤5/\Qn c A B/\∀r H1,∀Ns:List (List Int×List Int),U.Sub H H1->H1 r=some (.lst (Ns.map fun p=>.tup [tupI p.1,tupI p.2]))->(∀p∈Ns,Nms c p.1/\Nms c p.2)->Ns.length≤1024->(Ns≠[]↔qJ c ts bs A B)->Q (.ref r) H1):=rfl
end
section
variable {P:Program}{w:World}{K:PySem.W.Frag}{mg:Str->Option Value}{base:Heap}{t:Ad}
local macro_rules | `(tactic| ac_rfl) => `(tactic| simp only [AV, BA, uOp, uI, uI0, uIx, B9, uC, vJ, qP, oN, AN, xk, xp, lK, xW, AG, uOr, Cb, w4, Ez, AI, uIf, uUn, BQ, xn, BU, AL, uCB, BO, CF, Bm, xJ, t8, yt, oo, xD,
 rL,jD,Bk,oR,Bj,Dj,ui,CO,rS,CV,xw,DV,Eb,Du,oT,CM,Es,Ec,tE,Dd,C9,k7,D8,CU,xP,DN,BD,A3,ur,DA,oh,El,wY,DH,CJ,xh,CY,AE,D2,DW,Br,D9,n9,CQ,kE,Dx,Bd,Eg,ky,C8,uEn,CL,Cd,xE,AB,BB,BT.sub,BT.nm,DQ,Dh,Ce,ends,yS,BX,gG,flat,deq,dh,w_V,w_B,w_I,w_O,CZ,Dt,EM,CT,EI,Ep,D4,Cz,EE,DS,C0,Eu,Df,D3,CK,CC,Ct,EU,DL,Dq,C4,Ex,CG,Dw,DX,w_1,BE,C7,CN,D1,ET,EH,CI,D0,C1,Cv,AW,De,Az,Ed,EL,EC,Ck,AA,
 E8,List.map_nil,Fs,List.length_nil,Nat.reduceAdd,Nat.reduceSub,Nat.add_sub_cancel,Nat.sub_self,Nat.zero_add,List.replicate_succ,List.replicate_zero,List.cons_append,List.nil_append,F1,List.getElem?_cons_zero,List.getElem?_cons_succ,List.set_cons_zero,List.set_cons_succ,
 mq,qY,List.all_cons,List.all_nil,Bool.and_self,Bool.and_true,Bool.true_and,Bool.not_true,Bool.not_false,true_and,and_true,ai,Option.some.injEq,PO.lst.injEq,exists_eq_left',Int.zero_add ,tU,nG,xT,mD,pL,Al,pR,A8,oE,qR,wJ,zN,yo,qd,ny,lV,vN,vx,As,mX,qj,u6,tY,uJ,ti,z9,tX,xU,pQ,wK,si,t9,vh,o9,vQ,vH,rE,ub,wj,qA,vY,rQ,yX,qt,yj,x8,Ao,vt])
local macro_rules | `(tactic| eq_refl) => `(tactic| first | exact Or.inl rfl | exact Or.inr rfl)
theorem Ej(T:Tx K mg t):aT P w K mg base CX0 1 t.a_zP t.d_zP ["count","pair"] ff:=by
 refine okU (k:=0) T.F_zP BV (fun vs H Q E h=>by
  unfold ff at h;split at h
  ·rfl
  ·exact h.elim) (fun cdv A outer s H E B hr=>⟨_,(ah (aD (gE (bU (aM hr.units) aN (aE av a6 rfl T.b_len Fo (aa (qv 1) ab)) af (au _)) (gL (qH tx uy d0 eh d0 eh af (aJ (qv 1) af (fun _ _=>rfl)) (aJ (qv 1) af (fun _ _=>rfl)) (qv 0)))))),?_⟩)
 intro vs H Q E h;unfold ff at h;split at h
 ·rename_i c u v;obtain⟨⟨h1,h2,h3⟩,h⟩:=h;ac_rfl;exact aB rfl (aB (by simpa using h1) (aB (by simpa using h2) ⟨H,Sub.refl _,by rw[FO h3];exact h⟩))
 ·exact h.elim
theorem A9(T:Tx K mg t):aT P w K mg base CX0 2 t.a_zD t.d_zD ["count","pairs"] dj:=by
 refine okU (k:=1) T.F_zD AU (fun vs H Q E h=>by
  unfold dj at h;split at h
  ·rfl
  ·exact h.elim) (fun cdv A outer s H E B hr=>⟨_,(ah (aD (gE (aE (fU rfl) j5 rfl T.b_all boot_all (aa (bI (N2:=["pair","count"]) (nt:=1) (js:=[0]) (ck (sc:=aj vw)) rfl (aX (qv 1)) (fun s0 H0 fp ps=>⟨(ax (i:=0) (show List.Nodup (["pair","count"]:List Str) by decide +kernel) rfl (by eq_refl)),cI,(aw (Ej T) (hr.mono (by decide)) rfl T.g_zP T.F_zP.kp T.B_zP (aa (qv 1) (aa (qv 0) ab)))⟩)) ab)) (gL (bU (aM hr.units) aN (nk rfl hr.units rfl T.b_len rfl T.b_set boot_set (qv 1)) (aE av a6 rfl T.b_len Fo (aa (qv 1) ab)) (au _)))))),?_⟩)
 intro vs H Q E h;unfold dj at h;split at h
 ·rename_i c a;obtain⟨ps,ha,gd,hc,h⟩:=h;have h15:=gd.len hc;ac_rfl;refine⟨_,ha,fun acc hacc=>?_⟩;have hna:=aC ha hacc;refine aK (fun _=>.bl true) (fun _=>true) (fun σ=>∃x,σ=[x,some (.int c)]) (by rw[EW];omega) (fun l=>(ao hna).trans ha) ?step ?fin ⟨_,rfl⟩
  case step =>
   rintro y hy l σ R ⟨x,rfl⟩ hl kT kF;obtain⟨p,hp,rfl⟩:=Fg.mp hy;have b:=gd.lo p hp;unfold prV;ac_rfl;exact⟨b,hl,by rw[aI];exact kT rfl _ ⟨_,rfl⟩⟩
  case fin =>
   ac_rfl;refine⟨ps.map fun _=>true,by rw[Gs.mpr (fun _ _=>rfl),F4,F4];rfl,aB (by simp) ⟨ps,(ao hna).trans ha,gd.nd,gd.prs hc,h15,_,(ao hna).trans ha,H,Sub.put (Sub.refl _) hacc,?_⟩⟩;rw[EW,beq_self_eq_true];exact h
 ·exact h.elim
theorem Cr(T:Tx K mg t):aT P w K mg base CX0 3 t.a_zo t.d_zo ["self","count","ties","bows"] (iw t):=by
 refine okU (k:=2) T.F_zo rJ (fun vs H Q E h=>by
  unfold iw at h;split at h
  ·rfl
  ·exact h.elim) (fun cdv A outer s H E B hr=>⟨_,(ae (aP (aY (cL (aq d0 eh (qv 1) af (au _)) (cw (aq gP gX (qv 1) (l5 (v':=.int 6) rfl T.c_MOST_NAMES (fun _=>by simp[RP])) (au _)))))
  cq
  aG)
  (ae (b8 (i:=4) rJ.nd rfl (by eq_refl) (N2:=["tie"]) (nt:=1) (js:=[]) (ck (sc:=aj rP)) rfl (aX (qv 2)) (fun s0 H0 fp ps=>⟨(ax (i:=0) (show List.Nodup (["tie"]:List Str) by decide +kernel) rfl (by eq_refl)),cI,(aL aF aU rfl T.b_tuple FV (aa (qv 0) ab))⟩))
  (ae (aP (cZ (cc (aw (A9 T) (hr.mono (by decide)) rfl T.g_zD T.F_zD.kp T.B_zD (aa (qv 1) (aa (qv 4) ab)))))
  cq
  aG)
  (ae (b8 (i:=5) rJ.nd rfl (by eq_refl) (N2:=["bow"]) (nt:=1) (js:=[]) (ck (sc:=aj rP)) rfl (aX (qv 3)) (fun s0 H0 fp ps=>⟨(ax (i:=0) (show List.Nodup (["bow"]:List Str) by decide +kernel) rfl (by eq_refl)),cI,(aL aF aU rfl T.b_tuple FV (aa (qv 0) ab))⟩))
  (ae (aP (cZ (cc (aw (A9 T) (hr.mono (by decide)) rfl T.g_zD T.F_zD.kp T.B_zD (aa (qv 1) (aa (qv 5) ab)))))
  cq
  aG)
  (ae (aP (aq gP gX (aE av a6 rfl T.b_len Fo (aa (qv 5) ab)) (l5 (v':=.int 6) rfl T.c_MOST_BOWS (fun _=>by simp[RP])) (au _))
  cq
  aG)
  (ae (nB (qv 0) (qv 1) T.cl_A T.nfA_count rfl)
  (ae (nB (qv 0) (aL aF aU rfl T.b_tuple FV (aa (aE dE fX rfl T.b_sorted boot_sorted (aa (qv 4) ab)) ab)) T.cl_A T.nfA_ties rfl)
  (ah (nB (qv 0) (aL aF aU rfl T.b_tuple FV (aa (aE dE fX rfl T.b_sorted boot_sorted (aa (qv 5) ab)) ab)) T.cl_A T.nfA_bows rfl)))))))))),?_⟩)
 intro vs H Q E h;unfold iw at h;split at h
 ·rename_i x c a b;obtain⟨dx,ys,zs,ps,qs,hx,ha,hb,ry,rz,gp,gq,⟨c1,c6,q6⟩,h⟩:=h;have hp15:=gp.len c6;have hq15:=gq.len c6;refine ak fun R hR=>?_;ac_rfl;refine ay (by simp;omega) (ay (by simp;omega) ?_);subst hR;refine ak fun R hR=>?_;ac_rfl;refine⟨_,ha,fun p1 hp1=>?_⟩;refine aK (tS H) (fun _=>true) (fun σ=>∃z,σ=[z]) (by rw[ry.length];omega) (fun l=>(ao (aC ha hp1)).trans ha) ?_ ?_ ⟨_,rfl⟩
  ·rintro y hy l σ R' ⟨z,rfl⟩ hl kT kF;obtain⟨p,hp,row⟩:=rN ry hy;rcases row with rfl |⟨r,rfl,hr⟩
   ·unfold prV;ac_rfl;exact⟨hl,by rw[aI];exact kT rfl _ ⟨_,rfl⟩⟩
   ·rw[iJ hr]at kT;ac_rfl;exact⟨_,(ao (aC hr hp1)).trans hr,hl,by rw[aI];exact kT rfl _ ⟨_,rfl⟩⟩
  rw[Gs.mpr (fun _ _=>rfl),lG ry];subst hR;have sb1:U.Sub H (put H p1 (.lst (ps.map prV))):=Sub.put (Sub.refl _) hp1;refine ak fun R hR=>?_;ac_rfl;refine⟨ps,rfl,gp,c6,?_⟩
  try ac_rfl
  subst hR;have hp1s:put H p1 (.lst (ps.map prV)) p1=some (.lst (ps.map prV)):=ai;have hx1:=sb1 _ _ hx;have hb1:=sb1 _ _ hb;have rz1:=rz.up sb1;generalize put H p1 (.lst (ps.map prV))=H1 at *;refine ak fun R hR=>?_;ac_rfl;refine⟨_,hb1,fun p2 hp2=>?_⟩;refine aK (tS H1) (fun _=>true) (fun σ=>∃z,σ=[z]) (by rw[rz1.length];omega) (fun l=>(ao (aC hb1 hp2)).trans hb1) ?_ ?_ ⟨_,rfl⟩
  ·rintro y hy l σ R' ⟨z,rfl⟩ hl kT kF;obtain⟨p,hp,row⟩:=rN rz1 hy;rcases row with rfl |⟨r,rfl,hr⟩
   ·unfold prV;ac_rfl;exact⟨hl,by rw[aI];exact kT rfl _ ⟨_,rfl⟩⟩
   ·rw[iJ hr]at kT;ac_rfl;exact⟨_,(ao (aC hr hp2)).trans hr,hl,by rw[aI];exact kT rfl _ ⟨_,rfl⟩⟩
  rw[Gs.mpr (fun _ _=>rfl),lG rz1];subst hR;have sb2:U.Sub H1 (put H1 p2 (.lst (qs.map prV))):=Sub.put (Sub.refl _) hp2;have hp1t:=sb2 _ _ hp1s;have hx2:=sb2 _ _ hx1;have hp2s:put H1 p2 (.lst (qs.map prV)) p2=some (.lst (qs.map prV)):=ai;refine ak fun R hR=>?_;ac_rfl;refine⟨qs,rfl,gq,c6,?_⟩
  try ac_rfl
  subst hR;have sb3:=sb1.trans sb2;generalize put H1 p2 (.lst (qs.map prV))=H2 at *;refine ak fun R hR=>?_;ac_rfl;refine⟨_,hp2s,ay (by rw[EW];simp;omega) ?_⟩;subst hR;refine ak fun R hR=>?_;ac_rfl;refine⟨_,_,hx2,by simp,?_⟩;subst hR;have n1:p1≠x:=fun e=>by subst e;rw[hx2]at hp1t;cases hp1t
  have n2:p2≠x:=fun e=>by subst e;rw[hx2]at hp2s;cases hp2s
  refine ak fun R hR=>?_;ac_rfl;refine⟨ps,(ao n1).trans hp1t,gp.nd,fun p hp=>?_,by omega,fun r1 ts hr1 pt st=>?_⟩
  ·have:=gp.lo p hp;omega
  try ac_rfl
  have nx1:x≠r1:=fun e=>by subst e;rw[ai]at hr1;cases hr1
  refine⟨_,_,(ao nx1).trans ai,Nat.lt_of_le_of_lt iF (by decide),?_⟩;subst hR;have n3:p2≠r1:=fun e=>by subst e;rw[ao n2,hp2s]at hr1;cases hr1
  ac_rfl;refine⟨qs,(ao n2).trans ((ao n3).trans ((ao n2).trans hp2s)),gq.nd,fun p hp=>?_,by omega,fun r2 bs hr2 pb sb=>?_⟩
  ·have:=gq.lo p hp;omega
  try ac_rfl
  have nx2:x≠r2:=fun e=>by subst e;rw[ai]at hr2;cases hr2
  have ul:=fun f v fs=>@iF f v fs;refine⟨_,_,(ao nx2).trans ai,?_,put H x (.ins t.a_A dx (DF c ts bs)),tK ?_ ai,h ts bs pt st pb sb⟩
  ·have l1:=ul "ties" (.tup (ts.map prV)) (jk "count" (.int c) []);have l2:=ul "count" (.int c) [];simp only[List.length_nil]at l2;omega
  ·intro z o hzx hz;have hz2:=sb3 _ _ hz;have z1:z≠r1:=fun e=>by subst e;rw[ao hzx,hz2]at hr1;cases hr1
   have z2:z≠r2:=fun e=>by subst e;rw[ao hzx,ao z1,ao hzx,hz2]at hr2;cases hr2
   rw[ao hzx,ao z2,ao hzx,ao z1,ao hzx];exact hz2
 ·exact h.elim
theorem A1(T:Tx K mg t):aT P w K mg base CX0 1 t.a_za t.d_za ["self","name"] (dm t):=by
 refine okU (k:=0) T.F_za AF (fun vs H Q E h=>by
  unfold dm at h;split at h
  ·rfl
  ·exact h.elim) (fun cdv A outer s H E B hr=>⟨_,(ah (aP (aY (cL (aq d0 eh (qv 1) af (au _)) (cw (aq kP kA (qv 1) (cR (qv 0) T.cl_A T.nfA_count rfl) (au _)))))
  cq
  aG)),?_⟩)
 intro vs H Q E h;unfold dm at h;split at h
 ·rename_i x n;obtain⟨dx,c,ts,bs,hx,⟨h0,h1⟩,h⟩:=h;ac_rfl;exact ay (by simpa using h0) ⟨_,_,_,hx,rfl,ay (by simpa using h1) ⟨H,Sub.refl _,h⟩⟩
 ·exact h.elim
theorem Bt(T:Tx K mg t):aT P w K mg base CX0 2 t.a_zf t.d_zf ["self","name"] (dO t):=by
 refine okU (k:=1) T.F_zf AM (fun vs H Q E h=>by
  unfold dO at h;split at h
  ·rfl
  ·exact h.elim) (fun cdv A outer s H E B hr=>⟨_,(ae (a0 (br (qv 0) T.cl_A T.m_za (A1 T) (hr.mono (by decide)) T.B_za (aa (qv 1) ab)))
  (ah (aD (aL aF aU rfl T.b_tuple FV (aa (bI (N2:=["tie","name"]) (nt:=1) (js:=[1]) (ck (sc:=aj uU)) rfl (aX (cR (qv 0) T.cl_A T.nfA_ties rfl)) (fun s0 H0 fp ps=>⟨(ax (i:=0) (show List.Nodup (["tie","name"]:List Str) by decide +kernel) rfl (by eq_refl)),(bh (aq (aM hr.units) aN (aJ (qv 0) af (fun _ _=>rfl)) (qv 1) (au _))),(aJ (qv 0) af (fun _ _=>rfl))⟩)) ab))))),?_⟩)
 intro vs H Q E h;unfold dO at h;split at h
 ·rename_i x n;obtain⟨dx,c,ts,bs,hx,⟨h0,h1⟩,h15,h⟩:=h;ac_rfl;refine⟨⟨_,_,hx,rfl⟩,_,_,_,_,hx,⟨h0,h1⟩,_,_,_,hx,rfl,?_⟩;show ∀acc,H acc=none->_;intro acc hacc;refine aK g0 (at1 n) (fun σ=>∃z,σ=[z,some (.int n)]) (by rw[EW];omega) (fun _=>trivial) ?step ?fin ⟨_,rfl⟩
  case step =>
   rintro y hy l σ R ⟨z,rfl⟩ hl kT kF;obtain⟨p,hp,rfl⟩:=Fg.mp hy;have e:at1 n (prV p)=decide (p.2=n):=rfl;rw[e]at kT kF;unfold prV at *;ac_rfl;refine aS (fun q=>?_) (fun q=>?_)
   ·exact⟨hl,by rw[aI];exact kT (by simpa using q) _ ⟨_,rfl⟩⟩
   ·exact kF (by simpa using q) _ ⟨_,rfl⟩
  case fin =>
   refine⟨_,ai,H,Sub.put (Sub.refl _) hacc,?_⟩;rw[src_list];exact h
 ·exact h.elim
theorem rV(T:Tx K mg t):aT P w K mg base CX0 1 t.a_zt t.d_zt ["_law_script","_law_k"] iu:=by
 refine okU (k:=0) T.F_zt BR (fun vs H Q E h=>by
  unfold iu at h;split at h
  ·rfl
  ·exact h.elim) (fun cdv A outer s H E B hr=>⟨_,(ae (aP (aq d0 eh (qv 1) (aE av a6 rfl T.b_len Fo (aa (qv 0) ab)) (au _))
  (ah (aD (aJ (qv 0) (qv 1) (fun _ _=>rfl))))
  aG)
  (ah (aD af))),?_⟩)
 intro vs H Q E h;unfold iu at h;split at h
 ·rename_i l k;obtain⟨⟨h0,h1⟩,ns,rfl,h⟩:=h;ac_rfl;by_cases hk:k<ns.length
  ·refine aB (by rw[EW];simpa using hk) ?_;rw[vL h0 hk];exact⟨H,Sub.refl _,h⟩
  ·refine ay (by rw[EW];simpa using hk) ⟨H,Sub.refl _,?_⟩;rw[E4,Gu (by omega)]at h;exact h
 ·exact h.elim
theorem BI(T:Tx K mg t):aT P w K mg base CX0 1 t.a_zR t.d_zR ["count","names"] gj:=by
 refine okU (k:=0) T.F_zR oO (fun vs H Q E h=>by
  unfold gj at h;split at h
  ·rfl
  ·exact h.elim) (fun cdv A outer s H E B hr=>⟨_,(ae (az (i:=2) oO.nd rfl (by eq_refl) (fC af))
  (ae (bK Fx rfl (aX (qv 1)) (ax (i:=3) oO.nd rfl (by eq_refl))
  (ae (aP (aY (cL (aq tx uy (qv 3) (qv 2) (au _)) (cw (aq kP kA (qv 3) (qv 0) (au _)))))
   (ah (aD cO))
   aG)
   (ah (az (i:=2) oO.nd rfl (by eq_refl) (qv 3)))))
  (ah (aD cO)))),?_⟩)
 intro vs H Q E h;unfold gj at h;split at h
 ·rename_i c l;obtain⟨L,rfl,hY,hN⟩:=h;ac_rfl;refine b9 (fun i σ H2=>∃z k,σ=[some (.int c),some (.tup (L.map PV.int)),some (.int z),k]/\H2=H/\Nms c (L.take i)/\(∀x∈L.take i,x≤z)/\(z=-1∨z∈L.take i)/\-1≤z) ?_ ?_ ⟨-1,none,rfl,rfl,⟨List.Pairwise.nil,by simp⟩,by simp,.inl rfl,by decide⟩
  ·rintro σ H2 ⟨z,k,rfl,rfl,hn,_,_⟩;rw[EW,FW]at hn;exact⟨trivial,H2,Sub.refl _,hY hn⟩
  ·rintro G i y σ H2 hy ⟨z,k,rfl,rfl,hn,hz,hm,z1⟩ kk;refine⟨trivial,?_⟩;obtain⟨hi,e⟩:=E6.mp hy;rw[EW]at hi;rw[FK]at e;subst e;have tk:L.take (i+1)=L.take i++[L[i]]:=by rw[F6,EY hi];rfl
   have stop:(L[i]≤z∨c≤L[i])->¬Nms c L:=fun h n=>by
    have lo:=n.lo _ (Ft hi);have hzl:z<L[i]:=by
     rcases hm with rfl | hm
     ·omega
     ·obtain⟨j,hj,e⟩:=List.mem_iff_getElem.mp hm;rw[List.getElem_take]at e;rw[FA]at hj;rw[←e];exact List.pairwise_iff_getElem.mp n.up j i (by omega) hi (by omega)
    omega
   generalize L[i]=y at *;ac_rfl;by_cases h1:y≤z
   ·exact aB (by simp;omega) ⟨H2,Sub.refl _,hN (stop (.inl h1))⟩
   ·refine ay (by simp;omega) ?_;by_cases h2:c≤y
    ·exact aB (by simp;omega) ⟨H2,Sub.refl _,hN (stop (.inr h2))⟩
    ·refine ay (by simp;omega) (kk _ _ ⟨_,_,rfl,rfl,?_,?_,?_,by omega⟩)
     ·rw[tk];refine⟨List.pairwise_append.mpr ⟨hn.up,List.pairwise_singleton _ _,fun a ha b hb=>?_⟩,fun x hx=>?_⟩
      ·rw[E5]at hb;have:=hz a ha;omega
      ·rcases E9.mp hx with hx | hx
       ·exact hn.lo x hx
       ·rw[E5]at hx;omega
     ·intro x hx;rw[tk]at hx;rcases E9.mp hx with hx | hx
      ·have:=hz x hx;omega
      ·rw[E5]at hx;omega
     ·rw[tk];exact .inr (Fw _ (E5.mpr rfl))
 ·exact h.elim
theorem va(T:Tx K mg t):aT P w K mg base CX0 2 t.a_zd t.d_zd ["self","names"] (dW t):=by
 refine okU (k:=1) T.F_zd Bz (fun vs H Q E h=>by
  unfold dW at h;split at h
  ·rfl
  ·exact h.elim) (fun cdv A outer s H E B hr=>⟨_,(ah (aP (cZ (cc (aw (BI T) (hr.mono (by decide)) rfl T.g_zR T.F_zR.kp T.B_zR (aa (cR (qv 0) T.cl_A T.nfA_count rfl) (aa (qv 1) ab)))))
  cq
  aG)),?_⟩)
 intro vs H Q E h;unfold dW at h;split at h
 ·rename_i x l;obtain⟨c,ts,L,⟨dx,bs,hx⟩,rfl,hL,h⟩:=h;ac_rfl;exact⟨_,_,_,hx,rfl,L,rfl,fun _=>⟨H,Sub.refl _,h⟩,fun n=>absurd hL n⟩
 ·exact h.elim
theorem vG(T:Tx K mg t):aT P w K mg base CX0 3 t.a_zc t.d_zc ["self","names"] (jU t swp):=by
 refine okU (k:=2) T.F_zc sy (fun vs H Q E h=>by
  unfold jU at h;split at h
  ·rfl
  ·exact h.elim) (fun cdv A outer s H E B hr=>⟨_,(ae (a0 (br (qv 0) T.cl_A T.m_zd (va T) (hr.mono (by decide)) T.B_zd (aa (qv 1) ab)))
  (ae (az (i:=2) sy.nd rfl (by eq_refl) (aL cv fQ rfl T.b_list boot_list (aa (qv 1) ab)))
  (ae (bK Fx rfl (qf rfl T.b_range (aa (eC (cR (qv 0) T.cl_A T.nfA_count rfl) af) (aa (fC af) (aa (fC af) ab)))) (ax (i:=3) sy.nd rfl (by eq_refl))
  (ah (aP (aq (bB hr.units) bu (qv 3) (qv 2) (by with_unfolding_all rfl))
   (ah (a0 (cA PySem.F.slot_list_extend PySem.F.type_list_extend fx j2 (qv 2) (aa (br (qv 0) T.cl_A T.m_zf (Bt T) (hr.mono (by decide)) T.B_zf (aa (qv 3) ab)) ab))))
   aG)))
  (ah (aD (aL aF aU rfl T.b_tuple FV (aa (jj rfl hr.units rfl T.b_sorted rfl T.b_set boot_set (qv 2)) ab))))))),?_⟩)
 intro vs H Q E h;unfold jU at h;split at h
 ·rename_i x l;obtain⟨c,ts,L,⟨dx,bs,hx⟩,rfl,hL,hc,gt,h⟩:=h;have t15:=gt.len hc.2;have l6:=hL.len hc.2;ac_rfl;refine⟨⟨_,_,hx,rfl⟩,c,ts,L,⟨_,_,hx⟩,rfl,hL,fun p hp=>?_⟩;have nxp:=aC hx hp;refine⟨_,_,_,(ao nxp).trans hx,rfl,?_⟩;show -1≤c - 1/\c - 1<1000/\_;refine⟨by omega,by omega,?_⟩;have ei:kK (c - 1) (c - 1+1).toNat=(dlN c).map PV.int:=by
   unfold kK dlN;rw[F4,show c - 1+1=c by omega];rfl
  rw[ei];refine b9 (fun i σ H2=>∃k F,σ=[some (.ref x),some (.tup (L.map PV.int)),some (.ref p),k]/\H2=put H p (.lst (F.map PV.int))/\F=((dlN c).take i).foldl (My.b4 (ts.map swp)) L/\F.length≤6+15*i) ?_ ?_ ⟨none,L,rfl,rfl,rfl,by omega⟩
  ·rintro σ H2 ⟨k,F,rfl,rfl,hF,hlen⟩;rw[EW,FW]at hF;refine⟨trivial,?_⟩;ac_rfl;have iff:∀y,y∈F↔My.Reach (ts.map swp) L y:=fun y=>by rw[hF];exact rR gt y
   have lo:∀y∈F,0≤y/\y<c:=fun y hy=>kM (fun a b e=>rB gt true a b e) hL.lo ((iff y).mp hy);refine⟨F.map Int.toNat,by rw[nK fun y hy=>(by have:=lo y hy;omega)],fun n hn=>?_,fun r ms hr hs hm=>?_⟩
   ·obtain⟨z,hz,rfl⟩:=Fg.mp hn;have:=lo z hz;omega
   ·obtain⟨q1,q2⟩:=qh hc.2 lo iff hs hm
    try ac_rfl
    refine⟨H,((Sub.refl H).put hp).put (((Sub.refl H).put hp).free hr),?_⟩;have:=h _ q1 q2;rw[F4]at this;exact this
  ·rintro G i y σ H2 hy ⟨k,F,rfl,rfl,hF,hlen⟩ kk;refine⟨trivial,?_⟩;rw[FN]at hy;cases hn:(dlN c)[i]? with
   | none=>rw[hn]at hy;cases hy
   | some n =>
    rw[hn]at hy;cases hy;have hnm:=ku.mp (Fy hn);have hil:i<(dlN c).length:=(E6.mp hn).1;have hi6:i<6:=by unfold dlN at hil;rw[EW,Ga]at hil;omega
    have hnx:((dlN c).take (i+1)).foldl (My.b4 (ts.map swp)) L=My.b4 (ts.map swp) F n:=by rw[gA hn,← hF]
    have hpl:=o1 (E:=ts.map swp) (f:=F) (n:=n);rw[EW]at hpl;ac_rfl;refine⟨ar,?_⟩;rw[aR];refine bC (fun hm=>?_) (fun hm=>?_)
    ·have e:My.b4 (ts.map swp) F n=F++(ts.filter (fun p=>decide (p.2=n))).map (·.1):=by
      unfold My.b4;rw[Fp hm,mf]
     rw[e]at hnx hpl;refine⟨⟨_,rfl⟩,⟨_,_,(ao nxp).trans hx,rfl⟩,_,_,_,_,(ao nxp).trans hx,hnm,t15,?_⟩
     try ac_rfl
     rw[E3]at hpl;refine⟨ag (by rw[EW,EW];omega),kk _ _ ⟨_,F++(ts.filter (fun p=>decide (p.2=n))).map (·.1),rfl,?_,hnx.symm,?_⟩⟩
     ·rw[aI,Fi]
     ·rw[E3];omega
    ·have e:My.b4 (ts.map swp) F n=F:=by
      unfold My.b4;rw[Fh hm]
     rw[e]at hnx;exact kk _ _ ⟨_,F,rfl,rfl,hnx.symm,by omega⟩
 ·exact h.elim
theorem ES(T:Tx K mg t):aT P w K mg base CX0 2 t.a_zl t.d_zl ["self","name"] (fT t):=by
 refine okU (k:=1) T.F_zl rX (fun vs H Q E h=>by
  unfold fT at h;split at h
  ·rfl
  ·exact h.elim) (fun cdv A outer s H E B hr=>⟨_,(ae (a0 (br (qv 0) T.cl_A T.m_za (A1 T) (hr.mono (by decide)) T.B_za (aa (qv 1) ab)))
  (ae (b8 (i:=2) rX.nd rfl (by eq_refl) (N2:=["bow","name"]) (nt:=1) (js:=[1]) (ck (sc:=aj sE)) rfl (aX (cR (qv 0) T.cl_A T.nfA_bows rfl)) (fun s0 H0 fp ps=>⟨(ax (i:=0) (show List.Nodup (["bow","name"]:List Str) by decide +kernel) rfl (by eq_refl)),(bh (aq (aM hr.units) aN (aJ (qv 0) af (fun _ _=>rfl)) (qv 1) (au _))),(aJ (qv 0) af (fun _ _=>rfl))⟩))
  (ae (b8 (i:=3) rX.nd rfl (by eq_refl) (N2:=["bow","name"]) (nt:=1) (js:=[1]) (ck (sc:=aj sE)) rfl (aX (cR (qv 0) T.cl_A T.nfA_bows rfl)) (fun s0 H0 fp ps=>⟨(ax (i:=0) (show List.Nodup (["bow","name"]:List Str) by decide +kernel) rfl (by eq_refl)),(bh (aq (aM hr.units) aN (aJ (qv 0) af (fun _ _=>rfl)) (qv 1) (au _))),(aJ (qv 0) af (fun _ _=>rfl))⟩))
  (ah (aD (aL aF aU rfl T.b_tuple FV (aa (mH (qv 2) (qv 3)) ab))))))),?_⟩)
 intro vs H Q E h;unfold fT at h;split at h
 ·rename_i x n;obtain⟨dx,c,ts,bs,hx,⟨h0,h1⟩,h15,h⟩:=h;have lf:∀(q:DM.P2->Bool) (g:DM.P2->Int),(((bs.filter q).map g).map PV.int).length≤15:=fun q g=>by
   rw[EW,EW];exact FI (Gi _ _) h15
  ac_rfl;refine⟨⟨_,_,hx,rfl⟩,_,_,_,_,hx,⟨h0,h1⟩,_,_,_,hx,rfl,?_⟩;show ∀acc,H acc=none->_;intro p1 hp1;refine aK g0 (at1 n) (fun σ=>∃z,σ=[z,some (.int n)]) (by rw[EW];omega) (fun _=>trivial) ?_ ?_ ⟨_,rfl⟩
  ·rintro y hy l σ R ⟨z,rfl⟩ hl kT kF;obtain⟨p,hp,rfl⟩:=Fg.mp hy;have e:at1 n (prV p)=decide (p.2=n):=rfl;rw[e]at kT kF;unfold prV at *;ac_rfl;refine aS (fun q=>?_) (fun q=>?_)
   ·exact⟨hl,by rw[aI];exact kT (by simpa using q) _ ⟨_,rfl⟩⟩
   ·exact kF (by simpa using q) _ ⟨_,rfl⟩
  rw[src_list];refine⟨_,_,_,(ao (aC hx hp1)).trans hx,rfl,?_⟩;show ∀acc,put H p1 _ acc=none->_;intro p2 hp2;have n12:p1≠p2:=fun e=>by subst e;rw[ai]at hp2;cases hp2
  have sa:=(Sub.refl H).put (o:=.lst (((bs.filter (fun p=>decide (p.2=n))).map (·.1)).map PV.int)) hp1;refine aK g1 (at0 n) (fun σ=>∃z,σ=[z,some (.int n)]) (by rw[EW];omega) (fun _=>trivial) ?_ ?_ ⟨_,rfl⟩
  ·rintro y hy l σ R ⟨z,rfl⟩ hl kT kF;obtain⟨p,hp,rfl⟩:=Fg.mp hy;have e:at0 n (prV p)=decide (p.1=n):=rfl;rw[e]at kT kF;unfold prV at *;ac_rfl;refine aS (fun q=>?_) (fun q=>?_)
   ·exact⟨hl,by rw[aI];exact kT (by simpa using q) _ ⟨_,rfl⟩⟩
   ·exact kF (by simpa using q) _ ⟨_,rfl⟩
  rw[iG];have sb:=sa.put (o:=.lst (((bs.filter (fun p=>decide (p.1=n))).map (·.2)).map PV.int)) (sa.free hp2);refine⟨_,_,(ao n12).trans ai,ai,ag (by have a1:=lf (fun p=>decide (p.2=n)) (·.1);have a2:=lf (fun p=>decide (p.1=n)) (·.2);omega),fun p3 hp3=>?_⟩
  try ac_rfl
  refine⟨H,sb.put (sb.free hp3),?_⟩;rw[←Fi];exact h
 ·exact h.elim
theorem Dk(T:Tx K mg t):aT P w K mg base CX0 3 t.a_zh t.d_zh ["self","start","names"] (eV t):=by
 refine okU (k:=2) T.F_zh me (fun vs H Q E h=>by
  unfold eV at h;split at h
  ·rfl
  ·exact h.elim) (fun cdv A outer s H E B hr=>⟨_,(ae (az (i:=3) me.nd rfl (by eq_refl) (t5 (qv 1)))
  (ae (az (i:=4) me.nd rfl (by eq_refl) (aV (aa (qv 1) ab)))
  (ae (fW Fx (aq gP gX (aE av a6 rfl T.b_len Fo (aa (qv 4) ab)) af (au _))
  (ae (az (i:=5) me.nd rfl (by eq_refl) (yM PySem.F.slot_list_pop PySem.F.type_list_pop zG z3 zm (qv 4)))
   (ah (bK Fx rfl (aX (br (qv 0) T.cl_A T.m_zl (ES T) (hr.mono (by decide)) T.B_zl (aa (qv 5) ab))) (ax (i:=6) me.nd rfl (by eq_refl))
   (ah (aP (aY (bR (aq (bB hr.units) bu (qv 6) (qv 2) (by with_unfolding_all rfl)) (bN (pD hr.units (qv 6) (qv 3)))))
    (ae (wL hr.units (qv 3) (qv 6))
     (ah (a0 (cA Fu Fv a9 bg (qv 4) (aa (qv 6) ab)))))
    aG))))))
  (ah (aD (aL aF aU rfl T.b_tuple FV (aa (aE (mZ rfl) rY rfl T.b_sorted boot_sorted (aa (qv 3) ab)) ab))))))),?_⟩)
 intro vs H Q E h;unfold eV at h;split at h
 ·rename_i x n l;obtain⟨dx,c,ts,bs,L,hx,rfl,hL,hc,gb,hn,h⟩:=h;have b15:=gb.len hc.2;ac_rfl;intro p hp;rw[aI];refine⟨ag (by decide),fun q hq=>?_⟩;have nxp:=aC hx hp;have npq:p≠q:=fun e=>by subst e;rw[ai]at hq;cases hq
  have nxq:x≠q:=aC ((ao nxp).trans hx) hq;have hq0:H q=none:=((Sub.refl H).put hp).free hq;have kl:∀ks:List Int,ks.Nodup->(∀y∈ks,y∈L)->ks.length≤6:=fun ks h1 h2=>My.dz 6 ks h1 fun y hy=>by have:=hL.lo y (h2 y hy);omega
  refine eG (fun m σ H2=>∃ks ws u v,σ=[some (.ref x),some (.int n),some (.tup (L.map PV.int)),some (.ref p),some (.ref q),u,v]/\H2=put (put H p (dkP ks)) q (.lst (ws.map PV.int))/\Iv (both bs L) L n [] ks ws/\m=2*(6 - ks.length)+ws.length/\m≤11) _ ⟨[n],[n],none,none,rfl,rfl,⟨by simp,by simp,fun y hy=>.base hy,fun y hy=>by rw[E5]at hy;rw[hy];exact hn,fun y hy=>hy,fun a ha hw=>absurd ha hw⟩,rfl,by simp⟩ ?_;rintro m σ H2 ⟨ks,ws,u,v,rfl,rfl,iv,rfl,m11⟩;ac_rfl;rcases List.eq_nil_or_concat ws with rfl |⟨w',y,rfl⟩
  ·refine ay (by simp) ?_;refine⟨ks,(ao npq).trans ai,by have:=kl ks iv.nd iv.inl;omega,fun r ms hr hs hp2=>?_⟩
   try ac_rfl
   have sz:=((Sub.refl H).put (o:=dkP ks) hp).put (o:=.lst (([]:List Int).map PV.int)) hq0;refine⟨H,sz.put (sz.free hr),h ms (My.gz hs (hp2.nodup_iff.mpr iv.nd)) fun y=>hp2.mem_iff.trans (iv.done y)⟩
  ·rw[List.concat_eq_append]at *;have yk:y∈ks:=iv.sub y (by simp);have yl:=hL.lo y (iv.inl y yk);have hxx:∀A B,put (put H p A) q B x=some (.ins t.a_A dx (DF c ts bs)):=fun A B=>(ao nxq).trans ((ao nxp).trans hx);have dl:((w'++[y]).map PV.int).dropLast=w'.map PV.int:=by simp
   refine aB (by simp) ⟨fun σ' H'=>∃ks' ws' u v,σ'=[some (.ref x),some (.int n),some (.tup (L.map PV.int)),some (.ref p),some (.ref q),u,v]/\H'=put (put H p (dkP ks')) q (.lst (ws'.map PV.int))/\Iv (both bs L) L n [] ks' ws'/\2*(6 - ks'.length)+ws'.length<2*(6 - ks.length)+(w'++[y]).length,fun σ' H' y_=>by obtain⟨ks',ws',u,v,e1,e2,e3,e4⟩:=y_;exact ⟨_,e4,ks',ws',u,v,e1,e2,e3,rfl,by omega⟩,(w'++[y]).map PV.int,.int y,rfl,by simp,?_⟩;rw[dl,aI,oE];refine⟨⟨_,_,hxx _ _,rfl⟩,_,_,_,_,hxx _ _,yl,b15,?_⟩;have mb:∀b,b∈(bs.filter (fun p=>decide (p.2=y))).map (·.1)++(bs.filter (fun p=>decide (p.1=y))).map (·.2)↔((y,b)∈bs∨(b,y)∈bs):=fun b=>qE;generalize (bs.filter (fun p=>decide (p.2=y))).map (·.1)++(bs.filter (fun p=>decide (p.1=y))).map (·.2)=Bw at *
   try ac_rfl
   refine b9 (fun j σ H3=>∃ks' ws' v,σ=[some (.ref x),some (.int n),some (.tup (L.map PV.int)),some (.ref p),some (.ref q),some (.int y),v]/\H3=put (put H p (dkP ks')) q (.lst (ws'.map PV.int))/\Iv (both bs L) L n [y] ks' ws'/\y∈ks'/\(∀b∈Bw.take j,b∈L->b∈ks')/\2*(6 - ks'.length)+ws'.length≤2*(6 - ks.length)+w'.length) ?_ ?_ ⟨ks,w',v,rfl,rfl,iv.opn,yk,by simp,Fd _⟩
   ·rintro σ H3 ⟨ks',ws',v,rfl,rfl,iv',yk',hb,hm⟩;rw[EW,FW]at hb;refine⟨trivial,ks',ws',_,_,rfl,rfl,iv'.close fun b hb'=>?_,by rw[E3,Fj];omega⟩;have:=bO.mp hb';exact hb b ((mb b).mpr this.2.2) this.2.1
   ·rintro G j y' σ H3 hy ⟨ks',ws',v,rfl,rfl,iv',yk',hb,hm⟩ kk;refine⟨trivial,?_⟩;obtain⟨hj,e⟩:=E6.mp hy;rw[EW]at hj;rw[FK]at e;subst e;have tk:∀b,b∈Bw.take (j+1)->b∈Bw.take j∨b=Bw[j]:=fun b hb=>by
     rw[List.take_succ,EY hj,E9]at hb;exact hb.imp id fun q=>by simpa using q
    have zb:Bw[j]∈Bw:=Ft hj;generalize Bw[j]=z at *;ac_rfl;refine⟨ar,?_⟩;simp only[aR];have pp:put (put H p (dkP ks')) q (.lst (ws'.map PV.int)) p=some (dkP ks'):=(ao npq).trans ai;refine bC (fun m1=>⟨ks',pp,?_⟩) (fun m1=>kk _ _ ⟨ks',ws',_,rfl,rfl,iv',yk',fun b hb' bl=>(tk b hb').elim (fun q=>hb b q bl) (fun q=>absurd (q▸bl) m1),hm⟩);by_cases m2:z∈ks'
    ·exact ay (by simp[m2]) (kk _ _ ⟨ks',ws',_,rfl,rfl,iv',yk',fun b hb' bl=>(tk b hb').elim (fun q=>hb b q bl) (fun q=>q▸m2),hm⟩)
    ·have yz:(y,z)∈both bs L:=bO.mpr ⟨iv'.inl y yk',m1,(mb z).mp zb⟩;have ivn:=iv'.add yk' yz m1 m2;have kn:=kl _ ivn.nd ivn.inl;rw[E3,Fj]at kn;rw[E3,Fj]at m11;have wl:ws'.length≤1000 - 1:=by omega
     have ql:∀A,put (put (put H p (dkP ks')) q (.lst (ws'.map PV.int))) p A q=some (.lst (ws'.map PV.int)):=fun A=>(ao npq.symm).trans ai;refine aB (by simp[m2]) ⟨ks',pp,m2,by omega,⟨_,ql _⟩,_,ql _,a5 (by rw[EW];omega),kk _ _ ⟨ks'++[z],ws'++[z],_,rfl,?_,ivn,FE _ yk',fun b hb' bl=>(tk b hb').elim (fun q=>FE _ (hb b q bl)) (fun q=>by rw[q];simp),by rw[E3,E3,Fj];omega⟩⟩;rw[ml npq.symm,aI,aI,Fi];rfl
 ·exact h.elim
theorem wB(T:Tx K mg t):aT P w K mg base CX0 4 t.a_zj t.d_zj ["self","names"] (fM t):=by
 refine okU (k:=3) T.F_zj ma (fun vs H Q E h=>by
  unfold fM at h;split at h
  ·rfl
  ·exact h.elim) (fun cdv A outer s H E B hr=>⟨_,(ae (a0 (br (qv 0) T.cl_A T.m_zd (va T) (hr.mono (by decide)) T.B_zd (aa (qv 1) ab)))
  (ae (az (i:=2) ma.nd rfl (by eq_refl) (aV ab))
  (ae (az (i:=3) ma.nd rfl (by eq_refl) (aV ab))
  (ae (bK Fx rfl (aX (qv 1)) (ax (i:=4) ma.nd rfl (by eq_refl))
  (ah (aP (aq (bP hr.units) bu (qv 4) (qv 3) (by with_unfolding_all rfl))
   (ae (az (i:=5) ma.nd rfl (by eq_refl) (br (qv 0) T.cl_A T.m_zh (Dk T) (hr.mono (by decide)) T.B_zh (aa (qv 4) (aa (qv 1) ab))))
    (ae (a0 (cA PySem.F.slot_list_extend PySem.F.type_list_extend fx j2 (qv 3) (aa (qv 5) ab)))
    (ah (a0 (cA Fu Fv a9 bg (qv 2) (aa (qv 5) ab))))))
   aG)))
  (ah (aD (qv 2))))))),?_⟩)
 intro vs H Q E h;unfold fM at h;split at h
 ·rename_i x l;obtain⟨dx,c,ts,bs,L,hx,rfl,hL,hc,gb,h⟩:=h;have l6:=hL.len hc.2;ac_rfl;refine⟨⟨_,_,hx,rfl⟩,c,ts,L,⟨_,_,hx⟩,rfl,hL,ag (by decide),fun p hp=>⟨ag (by decide),fun q hq=>?_⟩⟩;have nxp:=aC hx hp;have npq:p≠q:=fun e=>by subst e;rw[ai]at hq;cases hq
  have nxq:x≠q:=aC ((ao nxp).trans hx) hq;have hq0:H q=none:=((Sub.refl H).put hp).free hq;refine b9 (fun i σ H2=>∃k u told placed,σ=[some (.ref x),some (.tup (L.map PV.int)),some (.ref p),some (.ref q),k,u]/\H2=put (put H p (.lst (told.map tupI))) q (.lst (placed.map PV.int))/\(∀rest,cM (both bs L) ((L.drop i).filter fun y=>!decide (y∈placed)) rest->cM (both bs L) L (told++rest))/\told.length≤i/\(∀M∈told,M.length≤6)/\placed.length≤6*i) ?_ ?_ ⟨none,none,[],[],rfl,rfl,fun rest hr=>by rw[List.drop_zero,Gs.mpr (fun _ _=>by simp)]at hr;exact hr,by simp,by simp,by simp⟩
  ·rintro σ H2 ⟨k,u,told,placed,rfl,rfl,hi,hl,hM,hp6⟩;refine⟨trivial,?_⟩;rw[EW]at hl hi;ac_rfl;rw[List.drop_length]at hi;have:=hi [] .nil;rw[F1]at this;exact⟨_,(Sub.refl _).put ((ao npq.symm).trans hq0),h p told hp this (by omega) hM⟩
  ·rintro G i y σ H2 hy ⟨k,u,told,placed,rfl,rfl,hi,hl,hM,hp6⟩ kk;refine⟨trivial,?_⟩;obtain⟨hil,e⟩:=E6.mp hy;rw[EW]at hil;rw[FK]at e;subst e;have hix:L[i]?=some L[i]:=EY hil;have hmem:L[i]∈L:=Ft hil;generalize L[i]=z at *;ac_rfl;refine⟨ar,?_⟩;simp only[aR];have hxx:put (put H p (.lst (told.map tupI))) q (.lst (placed.map PV.int)) x=some (.ins t.a_A dx (DF c ts bs)):=(ao nxq).trans ((ao nxp).trans hx);by_cases m:z∈placed
   ·refine ay (by simp[m]) (kk _ _ ⟨_,_,told,placed,rfl,rfl,fun rest hr=>hi rest (by rw[mN hix m];exact hr),by omega,hM,by omega⟩)
   ·refine aB (by simp[m]) ⟨⟨_,_,hxx,rfl⟩,_,_,_,_,L,hxx,rfl,hL,hc,gb,hmem,fun M up iff=>?_⟩;have lM:M.length≤6:=My.dz 6 M (up.imp fun h=>by omega) fun y hy=>by
     have:=kM (wA hL) (fun y hy=>by rw[E5]at hy;rw[hy];exact hL.lo z hmem) ((iff y).mp hy);omega
    obtain⟨t1,t2⟩:=mU (M:=M) hix m;rw[aI];refine⟨⟨_,rfl⟩,ag (by rw[EW,EW];omega),⟨_,(ao npq).trans ai⟩,_,(ao npq).trans ai,a5 (by rw[EW];omega),kk _ _ ⟨_,_,told++[M],placed++M,rfl,?_,fun rest hr=>?_,by rw[E3,Fj];omega,fun M' hM'=>?_,by rw[E3];omega⟩⟩
    ·rw[ml npq.symm,aI,Fi,Fi];rfl
    ·have:=hi (M::rest) (by rw[t1];exact .cons up iff (by rw[t2];exact hr));rw[GG];exact this
    ·rcases E9.mp hM' with h1 | h1
     ·exact hM M' h1
     ·rw[E5]at h1;rw[h1];exact lM
 ·exact h.elim
theorem uQ(T:Tx K mg t):aT P w K mg base CX0 5 t.a_zr t.d_zr ["self","names"] (ia t):=by
 refine okU (k:=4) T.F_zr sv (fun vs H Q E h=>by
  unfold ia at h;split at h
  ·rfl
  ·exact h.elim) (fun cdv A outer s H E B hr=>⟨_,(ae (a0 (br (qv 0) T.cl_A T.m_zd (va T) (hr.mono (by decide)) T.B_zd (aa (qv 1) ab)))
  (ae (b8 (i:=2) sv.nd rfl (by eq_refl) (N2:=["tie","names"]) (nt:=1) (js:=[1]) (ck (sc:=aj ux)) rfl (aX (cR (qv 0) T.cl_A T.nfA_ties rfl)) (fun s0 H0 fp ps=>⟨(ax (i:=0) (show List.Nodup (["tie","names"]:List Str) by decide +kernel) rfl (by eq_refl)),(bh (aY (bR (aq (bB hr.units) bu (aJ (qv 0) af (fun _ _=>rfl)) (qv 1) (by with_unfolding_all rfl)) (bN (aq (bB hr.units) bu (aJ (qv 0) af (fun _ _=>rfl)) (qv 1) (by with_unfolding_all rfl)))))),(qv 0)⟩))
  (ae (b8 (i:=3) sv.nd rfl (by eq_refl) (N2:=["bow","names"]) (nt:=1) (js:=[1]) (ck (sc:=aj ux)) rfl (aX (cR (qv 0) T.cl_A T.nfA_bows rfl)) (fun s0 H0 fp ps=>⟨(ax (i:=0) (show List.Nodup (["bow","names"]:List Str) by decide +kernel) rfl (by eq_refl)),(bh (aY (bR (aq (bB hr.units) bu (aJ (qv 0) af (fun _ _=>rfl)) (qv 1) (by with_unfolding_all rfl)) (bN (aq (bB hr.units) bu (aJ (qv 0) af (fun _ _=>rfl)) (qv 1) (by with_unfolding_all rfl)))))),(qv 0)⟩))
  (ah (aD (oV T.mk_A (Cr T) (hr.mono (by decide)) rfl T.g_A T.B_zo (aa (cR (qv 0) T.cl_A T.nfA_count rfl) (aa (qv 2) (aa (qv 3) ab))))))))),?_⟩)
 intro vs H Q E h;unfold ia at h;split at h
 ·rename_i x l;obtain⟨c,ts,bs,L,⟨dx,hx⟩,rfl,ok,hL,h⟩:=h;have t15:=ok.gt.len ok.c6;have b6:=ok.b6;have ok2:=ok.filter (FT 0 L) (FB 0 L);refine ak fun R hR=>?_;ac_rfl;refine⟨⟨_,_,hx,rfl⟩,c,ts,L,⟨_,_,hx⟩,rfl,hL,?_⟩;subst hR;refine ak fun R hR=>?_;ac_rfl;refine⟨_,_,_,hx,rfl,?_⟩;show ∀acc,H acc=none->_;intro p1 hp1;refine aK (fun y=>y) (onP (FT 0 L)) (fun σ=>∃z,σ=[z,some (.tup (L.map PV.int))]) (by rw[EW];omega) (fun _=>trivial) ?_ ?_ ⟨_,rfl⟩
  ·rintro y hy l σ R' ⟨z,rfl⟩ hl kT kF;obtain⟨p,hp,rfl⟩:=Fg.mp hy;rw[gu]at kT kF;unfold prV at *;ac_rfl;refine⟨ar,?_⟩;simp only[aR];by_cases m1:p.1∈L
   ·refine aB (by simp[m1]) ⟨ar,?_⟩;by_cases m2:p.2∈L
    ·exact aB (by simp[m2]) ⟨hl,by rw[aI];exact kT (by simp[FT,m1,m2]) _ ⟨_,rfl⟩⟩
    ·exact ay (by simp[m2]) (kF (by simp[FT,m1,m2]) _ ⟨_,rfl⟩)
   ·exact ay (by simp[m1]) (kF (by simp[FT,m1]) _ ⟨_,rfl⟩)
  rw[fF];subst hR;have s1:U.Sub H (put H p1 (.lst ((ts.filter (FT 0 L)).map prV))):=(Sub.refl H).put hp1;have i1:put H p1 (.lst ((ts.filter (FT 0 L)).map prV)) p1=some (.lst ((ts.filter (FT 0 L)).map prV)):=ai;generalize put H p1 (.lst ((ts.filter (FT 0 L)).map prV))=H1 at *;have hx1:=s1 _ _ hx;refine ak fun R hR=>?_;ac_rfl;refine⟨_,_,_,hx1,rfl,?_⟩;show ∀acc,H1 acc=none->_;intro p2 hp2;refine aK (fun y=>y) (onP (FB 0 L)) (fun σ=>∃z,σ=[z,some (.tup (L.map PV.int))]) (by rw[EW];omega) (fun _=>trivial) ?_ ?_ ⟨_,rfl⟩
  ·rintro y hy l σ R' ⟨z,rfl⟩ hl kT kF;obtain⟨p,hp,rfl⟩:=Fg.mp hy;rw[gu]at kT kF;unfold prV at *;ac_rfl;refine⟨ar,?_⟩;simp only[aR];by_cases m1:p.1∈L
   ·refine aB (by simp[m1]) ⟨ar,?_⟩;by_cases m2:p.2∈L
    ·exact aB (by simp[m2]) ⟨hl,by rw[aI];exact kT (by simp[FB,m1,m2]) _ ⟨_,rfl⟩⟩
    ·exact ay (by simp[m2]) (kF (by simp[FB,m1,m2]) _ ⟨_,rfl⟩)
   ·exact ay (by simp[m1]) (kF (by simp[FB,m1]) _ ⟨_,rfl⟩)
  rw[fF];subst hR;have s2:U.Sub H1 (put H1 p2 (.lst ((bs.filter (FB 0 L)).map prV))):=(Sub.refl H1).put hp2;have i2:put H1 p2 (.lst ((bs.filter (FB 0 L)).map prV)) p2=some (.lst ((bs.filter (FB 0 L)).map prV)):=ai;generalize put H1 p2 (.lst ((bs.filter (FB 0 L)).map prV))=H2 at *;have hx2:=s2 _ _ hx1;have j1:=s2 _ _ i1;have s12:=s1.trans s2;ac_rfl;refine⟨_,_,_,hx2,rfl,?_⟩;show ∀y dy,H2 y=none->H2 dy=none->dy≠y->_;intro y dy hy hdy nd;have sc:=(Sub.refl H2).put (o:=.ins t.a_A dy []) hy;refine⟨dy,_,_,_,_,ai,sc _ _ j1,sc _ _ i2,eJ,eJ,ok2.gt,ok2.gb,⟨ok.c1,ok.c6,ok2.b6⟩,fun T1 B1 pT sT pB sB=>?_⟩;have eT:=DM.ir (GO _) ok2.st pT sT;have eB:=DM.ir (GO _) ok2.sb pB sB;subst eT;subst eB;rw[aI];exact⟨rfl,_,Sub.refl _,h y _ (s12.put (s12.free hy)) ⟨dy,ai⟩⟩
 ·exact h.elim
theorem BF(T:Tx K mg t):aT P w K mg base CX0 1 t.a_zx t.d_zx ["count"] ik:=by
 refine okU (k:=0) T.F_zx Aw (fun vs H Q E h=>by
  unfold ik at h;split at h
  ·rfl
  ·exact h.elim) (fun cdv A outer s H E B hr=>⟨_,(ah (aD (wg rfl rfl T.b_tuple rfl T.b_range FV (qv 0)))),?_⟩)
 intro vs H Q E h;unfold ik at h;split at h
 ·rename_i c;obtain⟨⟨h0,h1⟩,h⟩:=h;ac_rfl;rw[nE];exact⟨h0,h1,H,Sub.refl _,h⟩
 ·exact h.elim
theorem Er(T:Tx K mg t):aT P w K mg base CX0 1 t.a_zL t.d_zL ["names","others"] dN:=by
 refine okU (k:=0) T.F_zL BH (fun vs H Q E h=>by
  unfold dN at h;split at h
  ·rfl
  ·exact h.elim) (fun cdv A outer s H E B hr=>⟨_,(ah (aD (aL aF aU rfl T.b_tuple FV (aa (bI (N2:=["name","others"]) (nt:=1) (js:=[1]) (ck (sc:=aj vA)) rfl (aX (qv 0)) (fun s0 H0 fp ps=>⟨(ax (i:=0) (show List.Nodup (["name","others"]:List Str) by decide +kernel) rfl (by eq_refl)),(bh (aq (bP hr.units) bu (qv 0) (qv 1) (by with_unfolding_all rfl))),(qv 0)⟩)) ab)))),?_⟩)
 intro vs H Q E h;unfold dN at h;split at h
 ·rename_i l m;obtain⟨A,B,rfl,rfl,hl,h⟩:=h;ac_rfl;show ∀acc,H acc=none->_;intro acc hacc;refine aK (fun y=>y) (onI fun y=>!decide (y∈B)) (fun σ=>∃z,σ=[z,some (.tup (B.map PV.int))]) (by rw[EW];exact hl) (fun _=>trivial) ?_ ?_ ⟨_,rfl⟩
  ·rintro y hy l σ R ⟨z,rfl⟩ hl kT kF;obtain⟨k,hk,rfl⟩:=Fg.mp hy;have e:onI (fun y=>!decide (y∈B)) (PV.int k)=!decide (k∈B):=rfl;rw[e]at kT kF;ac_rfl;refine⟨ar,?_⟩;simp only[aR];by_cases m:k∈B
   ·exact ay (by simp[m]) (kF (by simp[m]) _ ⟨_,rfl⟩)
   ·exact aB (by simp[m]) ⟨hl,by rw[aI];exact kT (by simp[m]) _ ⟨_,rfl⟩⟩
  rw[bD];exact⟨_,ai,H,Sub.put (Sub.refl _) hacc,h⟩
 ·exact h.elim
theorem Cm(T:Tx K mg t):aT P w K mg base CX0 3 t.a_zF t.d_zF ["drawing","sets"] (dk t):=by
 refine okU (k:=2) T.F_zF xx (fun vs H Q E h=>by
  unfold dk at h;split at h
  ·rfl
  ·exact h.elim) (fun cdv A outer s H E B hr=>⟨_,(ah (bK Fx rfl (aX (qv 1)) (ax (i:=2) xx.nd rfl (by eq_refl))
  (ah (a0 (br (qv 0) T.cl_A T.m_zd (va T) (hr.mono (by decide)) T.B_zd (aa (qv 2) ab)))))),?_⟩)
 intro vs H Q E h;unfold dk at h;split at h
 ·rename_i x a;obtain⟨c,ts,A,B,⟨dx,bs,hx⟩,ha,hA,hB,h⟩:=h;ac_rfl;refine⟨_,ha,?_⟩;refine b9 (fun i σ H2=>∃z,σ=[some (.ref x),some (.ref a),z]/\H2=H) ?_ ?_ ⟨none,rfl,rfl⟩
  ·rintro σ H2 ⟨z,rfl,rfl⟩;exact⟨ha,H2,Sub.refl _,h⟩
  ·rintro G i y σ H2 hy ⟨z,rfl,rfl⟩ kk;refine⟨ha,?_⟩;have hM:∃M:List Int,y=.tup (M.map PV.int)/\Nms c M:=by
    match i,hy with
    | 0,hy=>cases hy;exact⟨A,rfl,hA⟩
    | 1,hy=>cases hy;exact⟨B,rfl,hB⟩
    | i+2,hy=>cases hy
   obtain⟨M,rfl,hM⟩:=hM;ac_rfl;exact⟨⟨_,_,hx,rfl⟩,c,ts,M,⟨_,_,hx⟩,rfl,hM,kk _ _ ⟨_,rfl,rfl⟩⟩
 ·exact h.elim
theorem CB(T:Tx K mg t):aT P w K mg base CX0 1 t.a_zy t.d_zy ["sets"] cX:=by
 refine okU (k:=0) T.F_zy rj (fun vs H Q E h=>by
  unfold cX at h;split at h
  ·rfl
  ·exact h.elim) (fun cdv A outer s H E B hr=>⟨_,(ae (az (i:=1) rj.nd rfl (by eq_refl) (aV ab))
  (ae (bK Fx rfl (aX (qv 0)) (ax (i:=2) rj.nd rfl (by eq_refl))
  (ah (a0 (cA PySem.F.slot_list_extend PySem.F.type_list_extend fx j2 (qv 1) (aa (qv 2) ab)))))
  (ah (aP (aq (cg hr.units) aN (kz rfl rfl T.b_len rfl T.b_set boot_set (qv 1)) (aE av a6 rfl T.b_len Fo (aa (qv 1) ab)) (au _))
  cq
  aG)))),?_⟩)
 intro vs H Q E h;unfold cX at h;split at h
 ·rename_i a;obtain⟨c,A,B,ha,hA,hB,hc,ap,h⟩:=h;have lA:=hA.len hc;have lB:=hB.len hc;ac_rfl;refine⟨ag (by decide),fun p hp=>⟨_,(ao (aC ha hp)).trans ha,?_⟩⟩;have nap:=aC ha hp;have hpa:∀o,put H p o a=some (.lst [.tup (A.map PV.int),.tup (B.map PV.int)]):=fun o=>(ao nap).trans ha;have step:∀(M N:List Int),M.length≤6->N.length≤6->((M.map PV.int).length+(N.map PV.int).length≤sizeLine):=fun M N h1 h2=>ag (by rw[EW,EW];omega);refine b9 (fun i σ H2=>∃z,σ=[some (.ref a),some (.ref p),z]/\H2=put H p (.lst ((match i with | 0=>[] | 1=>A | _=>A++B).map PV.int))) ?_ ?_ ⟨none,rfl,rfl⟩
  ·rintro σ H2 ⟨z,rfl,rfl⟩;refine⟨hpa _,?_⟩;ac_rfl;have ng:∀y∈A++B,0≤y/\y<6:=fun y hy=>by
    rcases E9.mp hy with q | q
    ·have:=hA.lo y q;omega
    ·have:=hB.lo y q;omega
   have nd:(A++B).Nodup:=List.nodup_append.mpr ⟨hA.nd,hB.nd,fun x hx y hy e=>ap x hx (e▸hy)⟩;refine⟨(A++B).map Int.toNat,by rw[nK ng],fun n hn=>?_,?_,?_⟩
   ·obtain⟨z,hz,rfl⟩:=Fg.mp hn;have:=ng z hz;omega
   ·rw[List.nodup_iff_pairwise_ne,GW];refine List.Pairwise.imp_of_mem (fun {x y} hx hy hxy=>?_) (List.nodup_iff_pairwise_ne.mp nd);have h1:=ng x hx;have h2:=ng y hy;omega
   ·refine ay (by simp) ⟨H,Sub.put (Sub.refl _) hp,h⟩
  ·rintro G i y σ H2 hy ⟨z,rfl,rfl⟩ kk;refine⟨hpa _,?_⟩
   match i,hy with
   | 0,hy =>
    cases hy;ac_rfl;exact⟨⟨_,rfl⟩,ag (by rw[EW];omega),kk _ _ ⟨_,rfl,by rw[aI];rfl⟩⟩
   | 1,hy =>
    cases hy;ac_rfl;exact⟨⟨_,rfl⟩,step A B lA lB,kk _ _ ⟨_,rfl,by rw[aI,← Fi];rfl⟩⟩
   | i+2,hy=>cases hy
 ·exact h.elim
theorem Dn(T:Tx K mg t):aT P w K mg base CX0 4 t.a_zk t.d_zk ["drawing","question"] (fJ t):=by
 refine okU (k:=3) T.F_zk BM (fun vs H Q E h=>by
  unfold fJ at h;split at h
  ·rfl
  ·exact h.elim) (fun cdv A outer s H E B hr=>⟨_,(ae (a0 (aw (Cm T) (hr.mono (by decide)) rfl T.g_zF T.F_zF.kp T.B_zF (aa (qv 0) (aa (aV (aa (aJ (qv 1) af (fun _ _=>rfl)) (aa (aJ (qv 1) af (fun _ _=>rfl)) ab))) ab))))
  (ae (a0 (aw (CB T) (hr.mono (by decide)) rfl T.g_zy T.F_zy.kp T.B_zy (aa (aV (aa (aJ (qv 1) af (fun _ _=>rfl)) (aa (aJ (qv 1) af (fun _ _=>rfl)) ab))) ab)))
  (ah (aP (aq (aM hr.units) aN (aE av a6 rfl T.b_len Fo (aa (aJ (qv 1) af (fun _ _=>rfl)) ab)) af (au _))
  cq
  aG)))),?_⟩)
 intro vs H Q E h;unfold fJ at h;split at h
 ·rename_i x v;obtain⟨c,ts,A,B,rfl,⟨dx,bs,hx⟩,hq,hc,h⟩:=h;unfold qV at *;ac_rfl;refine⟨ag (by decide),fun p hp=>⟨c,ts,A,B,⟨dx,bs,(ao (aC hx hp)).trans hx⟩,rfl,hq.a,hq.b,?_⟩⟩;refine⟨ag (by decide),fun q hq'=>⟨c,A,B,rfl,hq.a,hq.b,hc,hq.ap,?_⟩⟩;have s1:=(Sub.refl H).put (o:=.lst [.tup (A.map PV.int),.tup (B.map PV.int)]) hp;have ne:B.length≠0:=fun e=>hq.ne (Gm.mp e);refine ay (by simpa using hq.ne) ⟨H,s1.put (s1.free hq'),h⟩
 ·exact h.elim
theorem Ax(T:Tx K mg t):aT P w K mg base CX0 6 t.a_zn t.d_zn ["drawing","question"] (fO t):=by
 refine okU (k:=5) T.F_zn xb (fun vs H Q E h=>by
  unfold fO at h;split at h
  ·rfl
  ·exact h.elim) (fun cdv A outer s H E B hr=>⟨_,(ae (a0 (aw (Dn T) (hr.mono (by decide)) rfl T.g_zk T.F_zk.kp T.B_zk (aa (qv 0) (aa (qv 1) ab))))
  (ae (az (i:=2) xb.nd rfl (by eq_refl) (aw (Er T) (hr.mono (by decide)) rfl T.g_zL T.F_zL.kp T.B_zL (aa (aw (BF T) (hr.mono (by decide)) rfl T.g_zx T.F_zx.kp T.B_zx (aa (cR (qv 0) T.cl_A T.nfA_count rfl) ab)) (aa (aJ (qv 1) af (fun _ _=>rfl)) ab))))
  (ah (aD (br (br (qv 0) T.cl_A T.m_zr (uQ T) (hr.mono (by decide)) T.B_zr (aa (qv 2) ab)) T.cl_A T.m_zc (vG T) (hr.mono (by decide)) T.B_zc (aa (aJ (qv 1) af (fun _ _=>rfl)) ab)))))),?_⟩)
 intro vs H Q E h;unfold fO at h;split at h
 ·rename_i x v;obtain⟨c,ts,bs,A,B,rfl,⟨dx,hx⟩,ok,hq,h⟩:=h;have c1:=ok.c1;have c6:=ok.c6;unfold qV at *;ac_rfl;refine⟨c,ts,A,B,rfl,⟨_,_,hx⟩,hq,c6,?_⟩;refine⟨_,_,_,hx,rfl,⟨by omega,by omega⟩,ulN c,A,rfl,rfl,by unfold ulN;rw[EW,Ga];omega,?_⟩;have en:(ulN c).filter (fun y=>!decide (y∈A))=nin c A:=rfl;rw[en];refine⟨⟨_,_,hx,rfl⟩,c,ts,bs,nin c A,⟨dx,hx⟩,rfl,ok,nV,fun y H1 s1 ⟨dy,hy⟩=>?_⟩;have ok2:=ok.filter (FT 0 (nin c A)) (FB 0 (nin c A));refine⟨⟨_,_,hy,rfl⟩,c,_,B,⟨_,_,hy⟩,rfl,hq.b,⟨c1,c6⟩,ok2.gt,fun M up iff=>⟨H,s1,h M up iff⟩⟩
 ·exact h.elim
theorem um(T:Tx K mg t):aT P w K mg base CX0 1 t.a_zN t.d_zN ["_law_unit","_law_k"] jW:=by
 refine okU (k:=0) T.F_zN rT (fun vs H Q E h=>by
  unfold jW at h;split at h
  ·rfl
  ·exact h.elim) (fun cdv A outer s H E B hr=>⟨_,(ae (aP (aq kP kA (qv 0) (fG af af) (au _))
  (ah (aD (eC (qv 0) (fG af af))))
  aG)
  (ae (az (i:=2) rT.nd rfl (by eq_refl) (bc (qv 0) (fG af af)))
  (ae (az (i:=2) rT.nd rfl (by eq_refl) (bc (gI (cx (cx (gI (qv 2) (qv 2)) (gI (gI af (qv 1)) (qv 1))) af) af) (cx (fG af af) af)))
  (ah (aD (bc (gI (cx (gI (qv 2) (qv 2)) (qv 1)) af) (cx (fG af af) af))))))),?_⟩)
 intro vs H Q E h;unfold jW at h;split at h
 ·rename_i u k;obtain⟨⟨k0,k1⟩,h⟩:=h;ac_rfl;have cp:∀j:Int,0≤j->j≤1000000->qx 10 j:=fun j h1 h2=>⟨h1,h2,by decide⟩;refine⟨cp 18 (by decide) (by decide),aS (fun _=>⟨cp 18 (by decide) (by decide),H,Sub.refl _,h _⟩) (fun _=>⟨cp 60 (by decide) (by decide),by decide +kernel,?_⟩)⟩;have b60:My.BN 200 (u.fmod (10 ^ Int.toNat 60)):=xG (by decide +kernel) (show My.BN 200 _ by unfold My.BN;decide +kernel);generalize u.fmod (10 ^ Int.toNat 60)=x at *;refine⟨.inr ⟨b60.fit (by decide),b60.fit (by decide)⟩,.inl (.inl ⟨by decide,by decide⟩),.inl (.inr ⟨by omega,by omega⟩),.inl (.inr ⟨by decide,by decide⟩),cp 18 (by decide) (by decide),by decide +kernel,?_⟩;have b18:My.BN 64 (((x*x+40503*k*k+7919)*1812433253982451697).fmod (10 ^ Int.toNat 18+9)):=xG (by decide +kernel) (show My.BN 64 _ by unfold My.BN;decide +kernel);generalize ((x*x+40503*k*k+7919)*1812433253982451697).fmod (10 ^ Int.toNat 18+9)=y at *;have bk:My.BN 128 k:=show k.natAbs<2 ^ 128 from FD (m:=100) (by omega) (by decide);exact⟨.inr ⟨b18.fit (by decide),b18.fit (by decide)⟩,.inr ⟨((b18.mul b18).add bk).fit (by decide),(show My.BN 128 _ by unfold My.BN;decide +kernel).fit (by decide)⟩,cp 40 (by decide) (by decide),by decide +kernel,H,Sub.refl _,h _⟩
 ·exact h.elim
theorem DE(T:Tx K mg t):aT P w K mg base CX0 1 t.a_zw t.d_zw ["_law_number","_law_least","_law_most"] dJ:=by
 refine okU (k:=0) T.F_zw g8 (fun vs H Q E h=>by
  unfold dJ at h;split at h
  ·rfl
  ·exact h.elim) (fun cdv A outer s H E B hr=>⟨_,(ae (az (i:=3) g8.nd rfl (by eq_refl) (cx (qv 1) (bc (qv 0) (cx (eC (qv 2) (qv 1)) af))))
  (ae (az (i:=0) g8.nd rfl (by eq_refl) (bz (qv 0) (cx (eC (qv 2) (qv 1)) af)))
  (ae (az (i:=4) g8.nd rfl (by eq_refl) (aV ab))
  (ae (az (i:=5) g8.nd rfl (by eq_refl) (aV ab))
  (ae (bK Fx rfl (bL rfl T.b_range (aa (qv 3) ab)) (ax (i:=6) g8.nd rfl (by eq_refl))
  (ah (bK Fx rfl (bL rfl T.b_range (aa (qv 6) ab)) (ax (i:=7) g8.nd rfl (by eq_refl))
   (ae (aP (aq (aM hr.units) aN (bc (bc (qv 0) af) af) af (au _))
    (ah (a0 (cA Fu Fv a9 bg (qv 4) (aa (ba (aa (qv 7) (aa (qv 6) ab))) ab))))
    aG)
    (ae (aP (aY (bR (aq (aM hr.units) aN (bz (bc (qv 0) af) af) af (au _)) (bN (aq d0 eh (aE av a6 rfl T.b_len Fo (aa (qv 5) ab)) af (au _)))))
    (ah (a0 (cA Fu Fv a9 bg (qv 5) (aa (ba (aa (qv 7) (aa (qv 6) ab))) ab))))
    aG)
    (ah (az (i:=0) g8.nd rfl (by eq_refl) (bz (qv 0) af))))))))
  (ah (aD (aV (aa (qv 3) (aa (aE dE fX rfl T.b_sorted boot_sorted (aa (qv 4) ab)) (aa (aE dE fX rfl T.b_sorted boot_sorted (aa (qv 5) ab)) ab))))))))))),?_⟩)
 intro vs H Q E h;unfold dJ at h;split at h
 ·rename_i n a b;obtain⟨rfl,⟨b1,b6⟩,h⟩:=h;ac_rfl;refine⟨by omega,dv (by omega) (by omega),ag (by decide),fun p1 hp1=>⟨ag (by decide),fun p2 hp2=>?_⟩⟩;have hc:=fm (a:=n) (b:=b - 1+1) (by omega);generalize hcc:1+n.fmod (b - 1+1)=c at *;have hc1:1≤c/\c≤b:=by omega
  refine⟨⟨by omega,by omega⟩,?_⟩;have q2:H p2=none:=((Sub.refl H).put hp1).free hp2;have n12:p1≠p2:=fun e=>by subst e;rw[ai]at hp2;cases hp2
  refine dP (fun i σ H2=>∃num v u ts bs,σ=[some (.int num),some (.int 1),some (.int b),some (.int c),some (.ref p1),some (.ref p2),v,u]/\(U.Sub H H2/\H2 p1=some (.lst (ts.map prV))/\H2 p2=some (.lst (bs.map prV)))/\DM.Good (i:Nat) ts/\DM.Good (i:Nat) bs/\bs.length≤6) ?_ ?_ ⟨_,_,_,[],[],rfl,⟨((Sub.refl H).put hp1).put q2,by rw[ao n12,ai];rfl,ai⟩,⟨List.nodup_nil,by simp⟩,⟨List.nodup_nil,by simp⟩,by simp⟩
  ·rintro σ H2 ⟨num,v,u,ts,bs,rfl,⟨s1,s3,s4⟩,g1,g2,l6⟩;refine⟨trivial,?_⟩;ac_rfl;have ec:((c.toNat:Nat):Int)=c:=by omega
   rw[ec]at g1 g2;have t15:=g1.len (by omega);refine⟨ts,s3,g1.nd,fun p hp=>?_,by omega,fun r1 T1 hr1 pT sT=>⟨bs,(ao (aC s4 hr1)).trans s4,g2.nd,fun p hp=>?_,by omega,fun r2 B1 hr2 pB sB=>⟨ag (by decide),fun r3 hr3=>?_⟩⟩⟩
   ·have:=g1.lo p hp;omega
   ·have:=g2.lo p hp;omega
   have sa:=s1.put (o:=.lst (T1.map prV)) (s1.free hr1);have sb:=sa.put (o:=.lst (B1.map prV)) (sa.free hr2);have sc:=sb.put (o:=.lst [.int c,.ref r1,.ref r2]) (sb.free hr3);have n1:r1≠r2:=fun e=>by subst e;rw[ai]at hr2;cases hr2
   have n2:r2≠r3:=fun e=>by subst e;rw[ai]at hr3;cases hr3
   have n3:r1≠r3:=fun e=>by subst e;rw[ao n1,ai]at hr3;cases hr3
   exact⟨_,Sub.refl _,h c T1 B1 r3 _ ⟨hc1.1,by omega,⟨pT.nodup_iff.mpr g1.nd,fun p hp=>g1.lo p (pT.mem_iff.mp hp)⟩,⟨pB.nodup_iff.mpr g2.nd,fun p hp=>g2.lo p (pB.mem_iff.mp hp)⟩,by rw[pB.length_eq];exact l6⟩ hc1.2 sT sB sc ⟨r1,r2,ai,(ao n3).trans ((ao n1).trans ai),(ao n2).trans ai⟩⟩
  ·rintro G i σ H2 hi ⟨num,v,u,ts,bs,rfl,⟨s1,s3,s4⟩,g1,g2,l6⟩ kk;refine⟨trivial,?_⟩;ac_rfl;refine⟨⟨by omega,by omega⟩,?_⟩;rw[F2];refine dP (fun j σ H3=>∃num u ts bs,σ=[some (.int num),some (.int 1),some (.int b),some (.int c),some (.ref p1),some (.ref p2),some (.int (i:Nat)),u]/\(U.Sub H H3/\H3 p1=some (.lst (ts.map prV))/\H3 p2=some (.lst (bs.map prV)))/\GJ (i:Nat) (j:Nat) ts/\GJ (i:Nat) (j:Nat) bs/\bs.length≤6) ?_ ?_ ⟨_,_,ts,bs,rfl,⟨s1,s3,s4⟩,GJ.of g1,GJ.of g2,l6⟩
   ·rintro σ H3 ⟨num,u,ts,bs,rfl,hH,a1,a2,l6⟩;exact⟨trivial,kk _ _ ⟨_,_,_,ts,bs,rfl,hH,a1.good,a2.good,l6⟩⟩
   ·rintro G' j σ H3 hj ⟨num,u,ts,bs,rfl,⟨s1,s3,s4⟩,a1,a2,l6⟩ kk';refine⟨trivial,?_⟩;have last:∀ts' bs' H4,(U.Sub H H4/\H4 p1=some (.lst (ts'.map prV))/\H4 p2=some (.lst (bs'.map prV)))->GJ (i:Nat) ((j:Nat)+1:Int) ts'->GJ (i:Nat) ((j:Nat)+1:Int) bs'->bs'.length≤6 ->
      G' [some (.int (num.fdiv 6)),some (.int 1),some (.int b),some (.int c),some (.ref p1),some (.ref p2),some (.int (i:Nat)),some (.int (j:Nat))] H4:=fun ts' bs' H4 x1 x2 x3 x4=>kk' _ _ ⟨_,_,ts',bs',rfl,x1,x2,x3,x4⟩
    refine ak fun R hR=>?_;have second:∀(ts':List DM.P2) (H4:PHp),(U.Sub H H4/\H4 p1=some (.lst (ts'.map prV))/\H4 p2=some (.lst (bs.map prV)))->GJ (i:Nat) ((j:Nat)+1:Int) ts' ->
      R { nx:=G',rt:=fun v H=>∃H3,U.Sub H3 H/\Q v H3,bk:=G,ct:=G' } [some (.int num),some (.int 1),some (.int b),some (.int c),some (.ref p1),some (.ref p2),some (.int (i:Nat)),some (.int (j:Nat))] H4:=by
     rintro ts' H4 ⟨u1,u3,u4⟩ b1;subst hR;refine ak fun R hR=>?_;have nxt:R { nx:=G',rt:=fun v H=>∃H3,U.Sub H3 H/\Q v H3,bk:=G,ct:=G' } [some (.int num),some (.int 1),some (.int b),some (.int c),some (.ref p1),some (.ref p2),some (.int (i:Nat)),some (.int (j:Nat))] H4:=by
      subst hR;ac_rfl;exact⟨dv (by decide) (by decide),last ts' bs H4 ⟨u1,u3,u4⟩ b1 a2.up l6⟩
     ac_rfl;refine⟨by decide,dv (by decide) (by decide),aS (fun _=>?_) (fun _=>nxt)⟩;refine⟨_,u4,?_⟩;by_cases h6:bs.length<6
     ·refine aB (by rw[EW];simp;omega) ?_;refine⟨⟨_,u4⟩,ag (by decide),_,u4,by rw[EW];exact a5 (by omega),?_⟩;subst hR;ac_rfl;refine⟨dv (by decide) (by decide),last ts' (bs++[(((j:Nat):Int),((i:Nat):Int))]) _ ⟨u1.put q2,(ao n12).trans u3,?_⟩ b1 (a2.app (by omega) (by omega)) (by rw[E3];simp;omega)⟩;rw[ai,Fi];rfl
     ·refine ay (by rw[EW];simp;omega) nxt
    ac_rfl;have t15:ts.length≤15:=(show DM.Good ((i:Nat)+1:Int) ts from⟨a1.nd,fun p hp=>by have:=a1.lo p hp;omega⟩).len (by omega);refine⟨by decide,by decide,aS (fun _=>?_) (fun _=>second ts H3 ⟨s1,s3,s4⟩ a1.up)⟩;refine⟨⟨_,s3⟩,ag (by decide),_,s3,by rw[EW];exact a5 (by omega),?_⟩;refine second (ts++[(((j:Nat):Int),((i:Nat):Int))]) _ ⟨s1.put hp1,?_,(ao n12.symm).trans s4⟩ (a1.app (by omega) (by omega));rw[ai,Fi];rfl
 ·exact h.elim
theorem CD(T:Tx K mg t):aT P w K mg base CX0 1 t.a_zp t.d_zp ["_law_number","_law_count"] dr:=by
 refine okU (k:=0) T.F_zp gS (fun vs H Q E h=>by
  unfold dr at h;split at h
  ·rfl
  ·exact h.elim) (fun cdv A outer s H E B hr=>⟨_,(ae (az (i:=2) gS.nd rfl (by eq_refl) (aV ab))
  (ae (az (i:=3) gS.nd rfl (by eq_refl) (aV ab))
  (ae (bK Fx rfl (bL rfl T.b_range (aa (qv 1) ab)) (ax (i:=4) gS.nd rfl (by eq_refl))
  (ae (az (i:=5) gS.nd rfl (by eq_refl) (bc (qv 0) af))
   (ae (az (i:=0) gS.nd rfl (by eq_refl) (bz (qv 0) af))
   (ae (aP (aY (cL (aq (aM hr.units) aN (qv 5) af (au _)) (cw (aq (aM hr.units) aN (qv 5) af (au _)))))
   (ah (a0 (cA Fu Fv a9 bg (qv 2) (aa (qv 4) ab))))
   aG)
   (ah (aP (aq (aM hr.units) aN (qv 5) af (au _))
   (ah (a0 (cA Fu Fv a9 bg (qv 3) (aa (qv 4) ab))))
   aG))))))
  (ae (aP (aq (aM hr.units) aN (aE av a6 rfl T.b_len Fo (aa (qv 3) ab)) af (au _))
  (ae (az (i:=3) gS.nd rfl (by eq_refl) (aV (aa (eC (qv 1) af) ab)))
   (ah (b8 (i:=2) gS.nd rfl (by eq_refl) (N2:=["_law_name","_law_count"]) (nt:=1) (js:=[1]) (ck (sc:=aj uG)) rfl (aX (qv 2)) (fun s0 H0 fp ps=>⟨(ax (i:=0) (show List.Nodup (["_law_name","_law_count"]:List Str) by decide +kernel) rfl (by eq_refl)),(bh (aq d0 eh (qv 0) (eC (qv 1) af) (au _))),(qv 0)⟩))))
  aG)
  (ah (aD (ba (aa (aL aF aU rfl T.b_tuple FV (aa (qv 2) ab)) (aa (aL aF aU rfl T.b_tuple FV (aa (qv 3) ab)) ab))))))))),?_⟩)
 intro vs H Q E h;unfold dr at h;split at h
 ·rename_i n c;obtain⟨⟨c1,c6⟩,h⟩:=h;refine ak fun R hR=>?_;ac_rfl;refine⟨ag (by decide),fun p hp=>?_⟩;subst hR;refine ak fun R hR=>?_;ac_rfl;refine⟨ag (by decide),fun q hq=>?_⟩;subst hR;have npq:p≠q:=fun e=>by subst e;rw[ai]at hq;cases hq
  have hq0:H q=none:=((Sub.refl H).put hp).free hq;refine ak fun R hR=>?_;ac_rfl;refine⟨⟨by omega,by omega⟩,?_⟩;refine dP (fun i σ H2=>∃n' nm w,∃A B:List Int,σ=[some (.int n'),some (.int c),some (.ref p),some (.ref q),nm,w]/\(U.Sub H H2/\H2 p=some (.lst (A.map PV.int))/\H2 q=some (.lst (B.map PV.int)))/\Nms (i:Nat) A/\Nms (i:Nat) B/\(∀x∈A,x∉B)) ?_ ?_ ⟨n,none,none,[],[],rfl,⟨((Sub.refl H).put hp).put hq0,(ao npq).trans ai,ai⟩,⟨.nil,by simp⟩,⟨.nil,by simp⟩,by simp⟩
  ·rintro σ H2 ⟨n',nm,w,A,B,rfl,⟨s1,eA,eB⟩,hA,hB,ap⟩;refine⟨trivial,?_⟩;subst hR;have ec:((c.toNat:Nat):Int)=c:=by omega
   rw[ec]at hA hB;have lA:=hA.len c6;ac_rfl;refine⟨_,eB,?_⟩;by_cases hB0:B=[]
   ·subst hB0;refine aB rfl ⟨ag (by decide),fun p3 hp3=>⟨_,(ao (aC eA hp3)).trans eA,fun p4 hp4=>?_⟩⟩;have eA3:put H2 p3 (.lst [.int (c - 1)]) p=some (.lst (A.map PV.int)):=(ao (aC eA hp3)).trans eA;have s3:=s1.put (o:=.lst [.int (c - 1)]) (s1.free hp3);have e3:put H2 p3 (.lst [.int (c - 1)]) p3=some (.lst [.int (c - 1)]):=ai;generalize put H2 p3 (.lst [.int (c - 1)])=H3 at *;refine aK (fun y=>y) (onI fun y=>decide (y<c - 1)) (fun σ=>∃z,σ=[z,some (.int c)]) (by rw[EW];omega) (fun _=>(ao (aC eA3 hp4)).trans eA3) ?_ ?_ ⟨_,rfl⟩
    ·rintro y hy l σ R ⟨z,rfl⟩ hl kT kF;obtain⟨k,hk,rfl⟩:=Fg.mp hy;have e:onI (fun y=>decide (y<c - 1)) (PV.int k)=decide (k<c - 1):=rfl;rw[e]at kT kF;ac_rfl;refine bC (fun q=>⟨hl,by rw[aI];exact kT (by simpa using q) _ ⟨_,rfl⟩⟩) (fun q=>kF (by simpa using q) _ ⟨_,rfl⟩)
    rw[bD];refine⟨_,ai,_,(ao (aC e3 hp4)).trans e3,ag (by decide),H,s3.put (s3.free hp4),h (A.filter fun y=>decide (y<c - 1)) [c - 1] ⟨⟨hA.up.filter _,fun x hx=>hA.lo x (Fq.mp hx).1⟩,⟨by simp,fun x hx=>?_⟩,fun x hx z=>?_,by simp⟩⟩
    ·rw[E5]at hx;omega
    ·rw[E5]at z;have:=Gk (Fq.mp hx).2;omega
   ·exact ay (by simpa using hB0) ⟨_,eA,_,eB,ag (by decide),H,s1,h A B ⟨hA,hB,ap,hB0⟩⟩
  ·rintro G i σ H2 hi ⟨n',nm,w,A,B,rfl,⟨s1,eA,eB⟩,hA,hB,ap⟩ kk;refine⟨trivial,?_⟩;have lA:=hA.len (by omega);have lB:=hB.len (by omega);have grow:∀{L:List Int},Nms (i:Nat) L->Nms ((i+1:Nat):Int) L:=fun hL=>⟨hL.up,fun x hx=>by have:=hL.lo x hx;omega⟩;have app:∀{L:List Int},Nms (i:Nat) L->Nms ((i+1:Nat):Int) (L++[(i:Int)]):=fun hL=>⟨List.pairwise_append.mpr ⟨hL.up,List.pairwise_singleton _ _,fun a ha b hb=>by rw[E5]at hb;have:=hL.lo a ha;omega⟩,fun x hx=>by
    rcases E9.mp hx with hx | hx
    ·have:=hL.lo x hx;omega
    ·rw[E5]at hx;omega⟩
   have fresh:∀{L:List Int},Nms (i:Nat) L->(i:Int)∉L:=fun hL z=>by have:=hL.lo _ z;omega
   refine ak fun R hR=>?_;ac_rfl;refine⟨by decide,?_⟩;subst hR;refine ak fun R hR=>?_;ac_rfl;refine⟨dv (by decide) (by decide),?_⟩;subst hR;generalize n'.fmod 5=w1 at *;generalize n'.fdiv 5=n1 at *;refine ak fun R hR=>?_;have mid:∀(bk:St'->PHp->Prop) (A':List Int) (H3:PHp),(U.Sub H H3/\H3 p=some (.lst (A'.map PV.int))/\H3 q=some (.lst (B.map PV.int)))->Nms ((i+1:Nat):Int) A'->(∀x∈A',x∉B)->(w1=2->(i:Int)∉A') ->
     R { nx:=G,rt:=fun v H=>∃H3,U.Sub H3 H/\Q v H3,bk:=bk,ct:=G } [some (.int n1),some (.int c),some (.ref p),some (.ref q),some (.int (i:Nat)),some (.int w1)] H3:=by
    rintro bk A' H3 ⟨t1,tA,tB⟩ nA ap' fr;subst hR;ac_rfl;refine aS (fun q2=>?_) (fun _=>kk _ _ ⟨_,_,_,A',B,rfl,⟨t1,tA,tB⟩,nA,grow hB,ap'⟩);refine⟨⟨_,tB⟩,_,tB,a5 (by rw[EW];omega),kk _ _ ⟨_,_,_,A',B++[(i:Int)],rfl,⟨t1.put hq0,(ao npq).trans tA,by rw[ai,Fi];rfl⟩,nA,app hB,fun x hx z=>?_⟩⟩;rcases E9.mp z with z | z
    ·exact ap' x hx z
    ·rw[E5]at z;subst z;exact fr (by simpa using q2) hx
   have both:∀(bk:St'->PHp->Prop),w1≠2->R { nx:=G,rt:=fun v H=>∃H3,U.Sub H3 H/\Q v H3,bk:=bk,ct:=G } [some (.int n1),some (.int c),some (.ref p),some (.ref q),some (.int (i:Nat)),some (.int w1)] (put H2 p (.lst (A.map PV.int++[.int (i:Nat)]))):=fun bk ne=>by
    refine mid bk (A++[(i:Int)]) _ ⟨s1.put hp,by rw[ai,Fi];rfl,(ao npq.symm).trans eB⟩ (app hA) (fun x hx z=>?_) (fun e=>absurd e ne);rcases E9.mp hx with hx | hx
    ·exact ap x hx z
    ·rw[E5]at hx;subst hx;exact fresh hB z
   ac_rfl;refine aS (fun q0=>⟨⟨_,eA⟩,_,eA,a5 (by rw[EW];omega),both _ ?_⟩) (fun q0=>aS (fun q1=>⟨⟨_,eA⟩,_,eA,a5 (by rw[EW];omega),both _ ?_⟩) (fun q1=>mid _ A H2 ⟨s1,eA,eB⟩ (grow hA) ap fun _=>fresh hA))
   ·have:w1=0:=by simpa using q0
    omega
   ·have:w1=1:=by simpa using q1
    omega
 ·exact h.elim
theorem BK(T:Tx K mg t):aT P w K mg base CX0 1 t.a_zI t.d_zI ["_law_shape","_law_names","_law_ends"] fZ:=by
 refine okU (k:=0) T.F_zI lR (fun vs H Q E h=>by
  unfold fZ at h;split at h
  ·rfl
  ·exact h.elim) (fun cdv A outer s H E B hr=>⟨_,(ae (b8 (i:=3) lR.nd rfl (by eq_refl) (N2:=["_law_name"]) (nt:=1) (js:=[]) (ck (sc:=aj wz)) rfl (aX (qv 2)) (fun s0 H0 fp ps=>⟨(ax (i:=0) (show List.Nodup (["_law_name"]:List Str) by decide +kernel) rfl (by eq_refl)),cI,(qv 0)⟩))
  (ae (bK Fx rfl (aX (qv 1)) (ax (i:=4) lR.nd rfl (by eq_refl))
  (ah (bK Fx rfl (aX (aJ (qv 0) af (fun _ _=>rfl))) (d8 (n:=2) rfl (bA (ax (i:=5) lR.nd rfl (by eq_refl)) (bA (ax (i:=6) lR.nd rfl (by eq_refl)) dq)))
   (ah (aP (aY (bR (aq (bB hr.units) bu (qv 6) (qv 3) (by with_unfolding_all rfl)) (bR (aq (bB hr.units) bu (qv 5) (qv 1) (by with_unfolding_all rfl)) (bN (aq (bP hr.units) bu (qv 5) (qv 3) (by with_unfolding_all rfl))))))
    (ah (a0 (cA Fu Fv a9 bg (qv 3) (aa (qv 5) ab))))
    aG)))))
  (ah (aD (aL aF aU rfl T.b_tuple FV (aa (aE fA ja rfl T.b_sorted boot_sorted (aa (qv 3) ab)) ab)))))),?_⟩)
 intro vs H Q E h;unfold fZ at h;split at h
 ·rename_i a v l;obtain⟨c,ts,bs,L,S,⟨q1,q2,e1,e2,e3⟩,ok,hv,rfl,hL,nS,hS,h⟩:=h;have t15:=ok.gt.len ok.c6;have l6:=hL.len ok.c6;have s6:=sub_len S L nS hS;refine ak fun R hR=>?_;ac_rfl;show ∀acc,H acc=none->_;intro p hp;refine aK (fun y=>y) (fun _=>true) (fun σ=>∃z,σ=[z]) (by rw[EW];omega) (fun _=>trivial) ?_ ?_ ⟨_,rfl⟩
  ·rintro y hy l σ R ⟨z,rfl⟩ hl kT kF;ac_rfl;exact⟨hl,by rw[aI];exact kT rfl _ ⟨_,rfl⟩⟩
  rw[rm];subst hR;have sp:∀o,U.Sub H (put H p o):=fun o=>(Sub.refl H).put hp;refine ak fun R hR=>?_;ac_rfl;refine(hv.up (sp _)).it fun okv hokv=>?_;refine b9 (fun i σ H2=>∃k u w F,σ=[some (.ref a),some v,some (.tup (S.map PV.int)),some (.ref p),k,u,w]/\H2=put H p (.lst (F.map PV.int))/\F=My.bY (up1 ts L) i S/\F.length≤6+15*i) ?_ ?_ ⟨none,none,none,S,rfl,rfl,rfl,by omega⟩
  ·rintro σ H2 ⟨k,u,w,F,rfl,rfl,hF,hlen⟩;rw[EW]at hF;refine⟨hokv _ (hv.up (sp _)),?_⟩;subst hR;have iff:∀y,y∈F↔My.Reach (up1 ts L) S y:=fun y=>by rw[hF];exact mY (fun x y e=>(ij.mp e).2) hS nS y
   have nd:F.Nodup:=by rw[hF];exact My.dD _ nS
   have inL:∀y∈F,y∈L:=fun y hy=>by
    cases (iff y).mp hy with
    | base h=>exact hS _ h
    | step _ e=>exact(ij.mp e).2
   have f6:=sub_len F L nd inL;ac_rfl;refine⟨F,rfl,by omega,fun r3 ms hr pm sm=>?_⟩;exact⟨H,(sp _).put ((sp _).free hr),h ms ⟨My.gz sm (pm.nodup_iff.mpr nd),fun y=>(pm.mem_iff.trans (iff y)).trans (u9 hS)⟩⟩
  ·rintro G i y σ H2 hy ⟨k,u,w,F,rfl,rfl,hF,hlen⟩ kk;have hi:i<L.length:=by have:=(E6.mp hy).1;rwa [EW]at this
   refine⟨hokv _ (hv.up (sp _)),?_⟩;ac_rfl;refine⟨_,sp _ _ _ e1,?_⟩;rw[rW];ac_rfl;refine⟨_,sp _ _ _ e2,?_⟩;refine b9 (fun j σ H3=>∃u w F',σ=[some (.ref a),some v,some (.tup (S.map PV.int)),some (.ref p),some y,u,w]/\H3=put H p (.lst (F'.map PV.int))/\F'=(ts.take j).foldl (fL L) F/\F'.length≤6+15*i+j/\j≤15) ?_ ?_ ⟨u,w,F,rfl,rfl,rfl,by omega,by omega⟩
   ·rintro σ H3 ⟨u,w,F',rfl,rfl,hF',hlen',h15⟩;rw[EW,FW]at hF';refine⟨sp _ _ _ e2,kk _ _ ⟨_,_,_,F',rfl,rfl,?_,?_⟩⟩
    ·rw[el,← hF,← ou];exact hF'
    ·rw[EW]at hlen';omega
   ·rintro G' j z σ H3 hz ⟨u,w0,F',rfl,rfl,hF',hlen',h15⟩ kk';refine⟨sp _ _ _ e2,?_⟩;obtain⟨hj,e⟩:=E6.mp hz;rw[EW]at hj;rw[FK]at e;subst e;have hjx:ts[j]?=some ts[j]:=EY hj;have hnx:(ts.take (j+1)).foldl (fL L) F=fL L F' ts[j]:=by rw[gA hjx,← hF']
    generalize ts[j]=w at *;unfold prV;have hsz:(F'.map PV.int).length<sizeLine:=a5 (by rw[EW];omega);unfold fL at hnx;have stay:¬(w.2∈F'/\w.1∈L/\w.1∉F')->G' [some (.ref a),some v,some (.tup (S.map PV.int)),some (.ref p),some y,some (.int w.1),some (.int w.2)] (put H p (.lst (F'.map PV.int))):=fun hn=>by
     rw[Fh hn]at hnx;exact kk' _ _ ⟨_,_,F',rfl,rfl,hnx.symm,by omega,by omega⟩
    ac_rfl;refine⟨ar,?_⟩;simp only[aR];refine bC (fun m1=>?_) (fun m1=>stay fun h=>m1 h.1);refine(hv.up (sp _)).s ⟨ar,?_⟩
    try simp only[aR]
    refine bC (fun m2=>⟨ar,?_⟩) (fun m2=>stay fun h=>m2 h.2.1)
    try simp only[aR]
    by_cases m3:w.1∈F'
    ·exact ay (by simp[m3]) (stay fun h=>h.2.2 m3)
    ·rw[Fp ⟨m1,m2,m3⟩]at hnx;refine aB (by simp[m3]) ⟨⟨_,rfl⟩,hsz,kk' _ _ ⟨_,_,F'++[w.1],rfl,by rw[aI,Fi];rfl,hnx.symm,?_,by omega⟩⟩;rw[E3,Fj];omega
 ·exact h.elim
theorem p0(T:Tx K mg t):aT P w K mg base CX0 1 t.a_zC t.d_zC ["_law_shape","_law_names"] eU:=by
 refine okU (k:=0) T.F_zC g9 (fun vs H Q E h=>by
  unfold eU at h;split at h
  ·rfl
  ·exact h.elim) (fun cdv A outer s H E B hr=>⟨_,(ae (az (i:=2) g9.nd rfl (by eq_refl) (aV ab))
  (ae (az (i:=3) g9.nd rfl (by eq_refl) (aL cv fQ rfl T.b_list boot_list (aa (qv 1) ab)))
  (ae (fW Fx (aq gP gX (aE av a6 rfl T.b_len Fo (aa (qv 3) ab)) af (au _))
  (ae (az (i:=4) g9.nd rfl (by eq_refl) (aV (aa (aJ (qv 3) af (fun _ _=>rfl)) ab)))
   (ae (bK Fx rfl (aX (qv 1)) (ax (i:=5) g9.nd rfl (by eq_refl))
   (ah (bK Fx rfl (aX (aJ (qv 0) af (fun _ _=>rfl))) (d8 (n:=2) rfl (bA (ax (i:=6) g9.nd rfl (by eq_refl)) (bA (ax (i:=7) g9.nd rfl (by eq_refl)) dq)))
    (ah (aP (aY (bR (aq (bB hr.units) bu (qv 6) (qv 1) (by with_unfolding_all rfl)) (bR (aq (bB hr.units) bu (qv 7) (qv 1) (by with_unfolding_all rfl)) (bN (aq (cg hr.units) aN (bU (bB hr.units) bu (qv 6) (qv 4) (by with_unfolding_all rfl)) (bU (bB hr.units) bu (qv 7) (qv 4) (by with_unfolding_all rfl)) (au _))))))
     (ah (a0 (cA Fu Fv a9 bg (qv 4) (aa (aJ (aV (aa (qv 6) (aa (qv 7) ab))) (aL pC yT rfl T.b_int boot_int (aa (bU (bB hr.units) bu (qv 6) (qv 4) (by with_unfolding_all rfl)) ab)) (fun _ _=>rfl)) ab))))
     aG)))))
   (ae (a0 (cA Fu Fv a9 bg (qv 2) (aa (aL aF aU rfl T.b_tuple FV (aa (aE fA ja rfl T.b_sorted boot_sorted (aa (qv 4) ab)) ab)) ab)))
   (ah (b8 (i:=3) g9.nd rfl (by eq_refl) (N2:=["_law_name","_law_lump"]) (nt:=1) (js:=[4]) (ck (sc:=aj vb)) rfl (aX (qv 3)) (fun s0 H0 fp ps=>⟨(ax (i:=0) (show List.Nodup (["_law_name","_law_lump"]:List Str) by decide +kernel) rfl (by eq_refl)),(bh (aq (bP hr.units) bu (qv 0) (qv 1) (by with_unfolding_all rfl))),(qv 0)⟩)))))))
  (ah (aD (qv 2)))))),?_⟩)
 intro vs H Q E h;unfold eU at h;split at h
 ·rename_i a vv;obtain⟨c,ts,bs,L,⟨q1,q2,e1,e2,e3⟩,ok,hv,hL,h⟩:=h;have b15:=ok.gb.len ok.c6;have l6:=hL.len ok.c6;refine ak fun R hR=>?_;ac_rfl;refine⟨ag (by decide),fun o ho=>?_⟩;subst hR;refine ak fun R hR=>?_;ac_rfl;have so:=(Sub.refl H).put (o:=.lst []) ho;refine(hv.up so).s fun p4 hp4=>?_;subst hR;have n4o:p4≠o:=fun e=>by subst e;rw[ai]at hp4;cases hp4
  refine ak fun R hR=>?_;refine eG (fun m σ H4=>∃rp u1 u2 u3 u4 told left,σ=[some (.ref a),some vv,some (.ref o),some (.ref rp),u1,u2,u3,u4]/\U.Sub H H4/\H4 rp=some (.lst (left.map PV.int))/\H4 o=some (.lst (told.map tupI))/\rp≠o/\Nms c left/\(∀x∈left,x∈L)/\(∀rest,cM (both bs L) left rest->cM (both bs L) L (told++rest))/\told.length+left.length≤6/\m=left.length) _ ⟨p4,none,none,none,none,[],L,rfl,so.put (so.free hp4),ai,(ao n4o.symm).trans ai,n4o,hL,fun x hx=>hx,fun rest hr=>hr,by simpa using l6,rfl⟩ ?_;rintro m σ H4 ⟨rp,u1,u2,u3,u4,told,left,rfl,s4,hrp,ho4,nro,hLe,inL,hi,hlen,rfl⟩;ac_rfl;refine⟨_,hrp,?_⟩;cases left with
  | nil =>
   refine ay rfl ?_;subst hR;ac_rfl;have:=hi [] .nil;rw[F1]at this;exact⟨H4,Sub.refl _,h o told H4 s4 ho4 this (by omega)⟩
  | cons x R' =>
   refine aB (by simp) ⟨_,fun σ' H' hN=>hN,?_⟩;refine⟨_,hrp,?_⟩;rw[E8,jX];ac_rfl;refine⟨ag (by decide),fun p hp=>?_⟩;have nrp:=aC hrp hp;have nop:=aC ho4 hp;have hpH:=s4.free hp;have xl:x∈L:=inL x E7;refine(hv.up (s4.put hpH)).it fun okv hokv=>?_;refine b9 (fun i σ H5=>∃k u v F,σ=[some (.ref a),some vv,some (.ref o),some (.ref rp),some (.ref p),k,u,v]/\(U.Sub H H5/\H5 rp=some (.lst ((x::R').map PV.int))/\H5 o=some (.lst (told.map tupI))/\H5 p=some (.lst (F.map PV.int)))/\F=My.bY (E2 bs L) i [x]/\F.length≤1+15*i) ?_ ?_ ⟨u2,u3,u4,[x],rfl,⟨s4.put hpH,(ao nrp).trans hrp,(ao nop).trans ho4,ai⟩,rfl,by simp⟩
   ·rintro σ H5 ⟨k,u,v,F,rfl,⟨s5,r5,o5,p5⟩,hF,hlen5⟩;rw[EW]at hF;refine⟨hokv _ (hv.up s5),?_⟩;have iff:∀y,y∈F↔My.Reach (both bs L) [x] y:=fun y=>by rw[hF];exact mK xl y
    have nd:F.Nodup:=by rw[hF];exact My.dD _ (by simp)
    have inF:∀y∈F,y∈L:=fun y hy=>by
     cases (iff y).mp hy with
     | base h=>rw[E5]at h;rw[h];exact xl
     | step _ e=>exact(bO.mp e).2.1
    have f6:=sub_len F L nd inF;have xF:x∈F:=(iff x).mpr (.base (by simp));ac_rfl;refine⟨⟨_,o5⟩,F,p5,by omega,fun r ms hr pm sm=>?_⟩;have o6:put H5 r (.lst (ms.map PV.int)) o=some (.lst (told.map tupI)):=(ao (aC o5 hr)).trans o5;have r6:put H5 r (.lst (ms.map PV.int)) rp=some (.lst ((x::R').map PV.int)):=(ao (aC r5 hr)).trans r5;have p6:put H5 r (.lst (ms.map PV.int)) p=some (.lst (F.map PV.int)):=(ao (aC p5 hr)).trans p5;have s6:U.Sub H (put H5 r (.lst (ms.map PV.int))):=s5.put (s5.free hr);generalize put H5 r (.lst (ms.map PV.int))=H6 at *;have hl7:told.length<6:=by rw[Fs]at hlen;omega
    refine⟨_,o6,a5 (by rw[EW];omega),?_⟩;have npo:p≠o:=fun e=>nop e.symm;have ea:told.map tupI++[PV.tup (ms.map PV.int)]=(told++[ms]).map tupI:=by rw[Fi];rfl
    rw[ea];have o7:put H6 o (.lst ((told++[ms]).map tupI)) o=some (.lst ((told++[ms]).map tupI)):=ai;have r7:put H6 o (.lst ((told++[ms]).map tupI)) rp=some (.lst ((x::R').map PV.int)):=(ao nro).trans r6;have p7:put H6 o (.lst ((told++[ms]).map tupI)) p=some (.lst (F.map PV.int)):=(ao npo).trans p6;have s7:U.Sub H (put H6 o (.lst ((told++[ms]).map tupI))):=s6.put ho;generalize put H6 o (.lst ((told++[ms]).map tupI))=H7 at *;refine⟨_,r7,fun acc hacc=>?_⟩;have o8:∀z,put H7 acc z o=some (.lst ((told++[ms]).map tupI)):=fun z=>(ao (aC o7 hacc)).trans o7;have p8:∀z,put H7 acc z p=some (.lst (F.map PV.int)):=fun z=>(ao (aC p7 hacc)).trans p7;refine aK (fun y=>y) (onI fun y=>!decide (y∈F)) (fun σ=>∃z,σ=[z,some (.ref p)]) (by rw[EW,Fs];rw[Fs]at hlen;omega) (fun _=>(ao (aC r7 hacc)).trans r7) ?_ ?_ ⟨_,rfl⟩
    ·rintro y hy l σ R ⟨z,rfl⟩ hl kT kF;obtain⟨k,hk,rfl⟩:=Fg.mp hy;have e:onI (fun y=>!decide (y∈F)) (PV.int k)=!decide (k∈F):=rfl;rw[e]at kT kF;ac_rfl;refine⟨_,p8 _,ar,?_⟩;simp only[aR];by_cases m:k∈F
     ·exact ay (by simp[m]) (kF (by simp[m]) _ ⟨_,rfl⟩)
     ·exact aB (by simp[m]) ⟨hl,by rw[aI];exact kT (by simp[m]) _ ⟨_,rfl⟩⟩
    rw[bD];have efl:(x::R').filter (fun y=>!decide (y∈F))=R'.filter fun y=>!decide (y∈ms):=by
     rw[Fz,Fh (by simp[xF])];refine List.filter_congr fun y _=>?_;rw[Gq];simp only[Bool.not_eq_true',decide_eq_false_iff_not,pm.mem_iff]
    rw[efl];have lf:(R'.filter fun y=>!decide (y∈ms)).length≤R'.length:=Gi _ _;rw[Fs]at hlen;refine⟨_,?_,acc,_,_,_,_,told++[ms],R'.filter fun y=>!decide (y∈ms),rfl,s7.put (s7.free hacc),ai,o8 _,(aC o7 hacc).symm,⟨(GR.mp hLe.up).2.filter _,fun y hy=>hLe.lo y (Ff _ (Fq.mp hy).1)⟩,fun y hy=>inL y (Ff _ (Fq.mp hy).1),fun rest hr=>?_,?_,rfl⟩
    ·omega
    ·rw[GG];exact hi _ (.cons (My.gz sm (pm.nodup_iff.mpr nd)) (fun y=>pm.mem_iff.trans (iff y)) hr)
    ·rw[E3,Fj];omega
   ·rintro G i y σ H5 hy ⟨k,u,v,F,rfl,⟨s5,r5,o5,p5⟩,hF,hlen5⟩ kk;have hi':i<L.length:=by have:=(E6.mp hy).1;rwa [EW]at this
    refine⟨hokv _ (hv.up s5),?_⟩;ac_rfl;refine⟨_,s5 _ _ e1,?_⟩;rw[wZ];ac_rfl;refine⟨_,s5 _ _ e3,?_⟩;refine b9 (fun j σ H6=>∃u v F',σ=[some (.ref a),some vv,some (.ref o),some (.ref rp),some (.ref p),some y,u,v]/\(U.Sub H H6/\H6 rp=some (.lst ((x::R').map PV.int))/\H6 o=some (.lst (told.map tupI))/\H6 p=some (.lst (F'.map PV.int)))/\F'=(bs.take j).foldl (cW L) F/\F'.length≤1+15*i+j/\j≤15) ?_ ?_ ⟨u,v,F,rfl,⟨s5,r5,o5,p5⟩,rfl,by omega,by omega⟩
    ·rintro σ H6 ⟨u,v,F',rfl,hH6,hF',hlen',h15⟩;rw[EW,FW]at hF';refine⟨hH6.1 _ _ e3,kk _ _ ⟨_,_,_,F',rfl,hH6,?_,?_⟩⟩
     ·rw[el,← hF,← jn];exact hF'
     ·rw[EW]at hlen';omega
    ·rintro G' j z σ H6 hz ⟨u,v,F',rfl,⟨s6,r6,o6,p6⟩,hF',hlen',h15⟩ kk';refine⟨s6 _ _ e3,?_⟩;obtain⟨hj,e⟩:=E6.mp hz;rw[EW]at hj;rw[FK]at e;subst e;have hjx:bs[j]?=some bs[j]:=EY hj;have hnx:(bs.take (j+1)).foldl (cW L) F=cW L F' bs[j]:=by rw[gA hjx,← hF']
     generalize bs[j]=w at *;unfold prV;have hsz:(F'.map PV.int).length<sizeLine:=a5 (by rw[EW];omega);have stay:cW L F' w=F'->G' [some (.ref a),some vv,some (.ref o),some (.ref rp),some (.ref p),some y,some (.int w.1),some (.int w.2)] H6:=fun hn=>by
      rw[hn]at hnx;exact kk' _ _ ⟨_,_,F',rfl,⟨s6,r6,o6,p6⟩,hnx.symm,by omega,by omega⟩
     have goes:∀(n:Int) (H8:PHp),(U.Sub H H8/\H8 rp=some (.lst ((x::R').map PV.int))/\H8 o=some (.lst (told.map tupI))/\H8 p=some (.lst (F'.map PV.int)))->cW L F' w=F'++[n]->G' [some (.ref a),some vv,some (.ref o),some (.ref rp),some (.ref p),some y,some (.int w.1),some (.int w.2)] (put H8 p (.lst (F'.map PV.int++[.int n]))):=fun n H8 y_ hn=>by
      obtain⟨t1,t2,t3,t4⟩:=y_;rw[hn]at hnx;refine kk' _ _ ⟨_,_,F'++[n],rfl,⟨t1.put hpH,(ao nrp).trans t2,(ao nop).trans t3,by rw[ai,Fi];rfl⟩,hnx.symm,?_,by omega⟩;rw[E3,Fj];omega
     ac_rfl;refine(hv.up s6).s ⟨ar,?_⟩;simp only[aR];refine bC (fun m1=>(hv.up s6).s ⟨ar,?_⟩) (fun m1=>stay (by unfold cW;rw[Fh fun z=>m1 z.1]))
     try simp only[aR]
     refine bC (fun m2=>⟨_,p6,ar,_,p6,ar,?_⟩) (fun m2=>stay (by unfold cW;rw[Fh fun z=>m2 z.2]));rw[aR (n:=w.2)];rw[aR (n:=w.1)];by_cases k1:w.1∈F'<;>by_cases k2:w.2∈F'
     ·exact ay (by simp[k1,k2]) (stay (by unfold cW;simp[m1,m2,k1,k2]))
     ·refine aB (by simp[k1,k2]) ⟨⟨_,p6⟩,ag (by decide),fun p1 hp1=>⟨_,(ao (aC p6 hp1)).trans p6,ar,?_⟩⟩;have eb:b2n ((F'.map PV.int).any fun z=>deq z (.int w.1))=1:=by rw[aR];simp[k1,b2n]
      rw[eb,qY];exact⟨_,(ao (aC p6 hp1)).trans p6,hsz,goes w.2 _ ⟨s6.put (s6.free hp1),(ao (aC r6 hp1)).trans r6,(ao (aC o6 hp1)).trans o6,(ao (aC p6 hp1)).trans p6⟩ (by unfold cW;simp[m1,m2,k1,k2])⟩
     ·refine aB (by simp[k1,k2]) ⟨⟨_,p6⟩,ag (by decide),fun p1 hp1=>⟨_,(ao (aC p6 hp1)).trans p6,ar,?_⟩⟩;have eb:b2n ((F'.map PV.int).any fun z=>deq z (.int w.1))=0:=by rw[aR];simp[k1,b2n]
      rw[eb,mq];exact⟨_,(ao (aC p6 hp1)).trans p6,hsz,goes w.1 _ ⟨s6.put (s6.free hp1),(ao (aC r6 hp1)).trans r6,(ao (aC o6 hp1)).trans o6,(ao (aC p6 hp1)).trans p6⟩ (by unfold cW;simp[m1,m2,k1,k2])⟩
     ·exact ay (by simp[k1,k2]) (stay (by unfold cW;simp[m1,m2,k1,k2]))
 ·exact h.elim
theorem Bn(T:Tx K mg t):aT P w K mg base CX0 2 t.a_zB t.d_zB ["_law_shape","_law_question_here"] dU:=by
 refine okU (k:=1) T.F_zB xB (fun vs H Q E h=>by
  unfold dU at h;split at h
  ·rfl
  ·exact h.elim) (fun cdv A outer s H E B hr=>⟨_,(ae (b8 (i:=2) xB.nd rfl (by eq_refl) (N2:=["_law_name","_law_question_here"]) (nt:=1) (js:=[1]) (ck (sc:=aj uP)) rfl (bL rfl T.b_range (aa (aJ (qv 0) af (fun _ _=>rfl)) ab)) (fun s0 H0 fp ps=>⟨(ax (i:=0) (show List.Nodup (["_law_name","_law_question_here"]:List Str) by decide +kernel) rfl (by eq_refl)),(bh (aq (bP hr.units) bu (qv 0) (aJ (qv 1) af (fun _ _=>rfl)) (by with_unfolding_all rfl))),(qv 0)⟩))
  (ah (aD (aw (BK T) (hr.mono (by decide)) rfl T.g_zI T.F_zI.kp T.B_zI (aa (qv 0) (aa (qv 2) (aa (aJ (qv 1) af (fun _ _=>rfl)) ab))))))),?_⟩)
 intro vs H Q E h;unfold dU at h;split at h
 ·rename_i a v;obtain⟨c,ts,bs,A,B,hs,ok,rfl,hq,h⟩:=h;have c1:=ok.c1;have c6:=ok.c6;unfold qV at *;obtain⟨q1,q2,e1,e2,e3⟩:=id hs;refine ak fun R hR=>?_;ac_rfl;refine⟨_,e1,?_⟩;rw[d4];ac_rfl;refine⟨⟨by omega,by omega⟩,fun acc hacc=>?_⟩;refine aK (fun y=>y) (onI fun y=>!decide (y∈A)) (fun σ=>∃z,σ=[z,some (.tup [.tup (A.map PV.int),.tup (B.map PV.int)])]) (by rw[fk];omega) (fun _=>trivial) ?_ ?_ ⟨_,rfl⟩
  ·rintro y hy l σ R ⟨z,rfl⟩ hl kT kF;obtain⟨k,rfl,k0⟩:=fj hy;have e:onI (fun y=>!decide (y∈A)) (PV.int k)=!decide (k∈A):=rfl;rw[e]at kT kF;ac_rfl;refine⟨ar,?_⟩;simp only[aR];by_cases m:k∈A
   ·exact ay (by simp[m]) (kF (by simp[m]) _ ⟨_,rfl⟩)
   ·exact aB (by simp[m]) ⟨hl,by rw[aI];exact kT (by simp[m]) _ ⟨_,rfl⟩⟩
  rw[nE,bD];have en:(ulN c).filter (fun y=>!decide (y∈A))=nin c A:=rfl;rw[en];subst hR;have s1:=(Sub.refl H).put (o:=.lst ((nin c A).map PV.int)) hacc;ac_rfl;exact⟨c,ts,bs,nin c A,B,hs.up s1,ok,.inr ⟨acc,rfl,ai⟩,rfl,nV,hq.b.nd,hq.sub,fun M u=>⟨H,s1,h M u.up u.iff⟩⟩
 ·exact h.elim
theorem A5(T:Tx K mg t):aT P w K mg base CX0 7 t.a_zS t.d_zS ["drawing","question"] (eQ t):=by
 refine okU (k:=6) T.F_zS w8 (fun vs H Q E h=>by
  unfold eQ at h;split at h
  ·rfl
  ·exact h.elim) (fun cdv A outer s H E B hr=>⟨_,(ae (az (i:=2) w8.nd rfl (by eq_refl) (aw (Ax T) (hr.mono (by decide)) rfl T.g_zn T.F_zn.kp T.B_zn (aa (qv 0) (aa (qv 1) ab))))
  (ah (aD (ba (aa (qv 2) (aa (br (qv 0) T.cl_A T.m_zj (wB T) (hr.mono (by decide)) T.B_zj (aa (qv 2) ab)) ab)))))),?_⟩)
 intro vs H Q E h;unfold eQ at h;split at h
 ·rename_i x v;obtain⟨c,ts,bs,A,B,rfl,⟨dx,hx⟩,ok,hq,h⟩:=h;unfold qV at *;ac_rfl;refine⟨c,ts,bs,A,B,rfl,⟨dx,hx⟩,ok,hq,fun W up iff=>?_⟩;have nW:=iE hq up iff;refine⟨⟨_,_,hx,rfl⟩,dx,c,ts,bs,W,hx,rfl,nW,⟨ok.c1,ok.c6⟩,ok.gb,fun r Ls hr hLm l6 hM=>⟨ag (by decide),_,Sub.refl _,h W Ls r _ ((Sub.refl H).put hr) ⟨nW,iff,hLm⟩ ai l6⟩⟩
 ·exact h.elim
theorem Cf(T:Tx K mg t):aT P w K mg base CX0 5 t.a_zu t.d_zu ["drawing","names","lump"] (fh t):=by
 refine okU (k:=4) T.F_zu Au (fun vs H Q E h=>by
  unfold fh at h;split at h
  ·rfl
  ·exact h.elim) (fun cdv A outer s H E B hr=>⟨_,(ah (aD (aJ (bI (N2:=["whole","lump"]) (nt:=1) (js:=[2]) (ck (sc:=aj vE)) rfl (aX (br (qv 0) T.cl_A T.m_zj (wB T) (hr.mono (by decide)) T.B_zj (aa (qv 1) ab))) (fun s0 H0 fp ps=>⟨(ax (i:=0) (show List.Nodup (["whole","lump"]:List Str) by decide +kernel) rfl (by eq_refl)),(bh (aq (bB hr.units) bu (aJ (qv 1) af (fun _ _=>rfl)) (qv 0) (by with_unfolding_all rfl))),(qv 0)⟩)) af (fun _ _=>rfl)))),?_⟩)
 intro vs H Q E h;unfold fh at h;split at h
 ·rename_i x l m;obtain⟨c,ts,bs,L,x0,R0,⟨dx,hx⟩,ok,rfl,rfl,hL,hx0,h⟩:=h;ac_rfl;refine⟨⟨_,_,hx,rfl⟩,dx,c,ts,bs,L,hx,rfl,hL,⟨ok.c1,ok.c6⟩,ok.gb,fun r Ls hr hLm l6 hM=>?_⟩;have s1:=(Sub.refl H).put (o:=.lst (Ls.map tupI)) hr;have i1:put H r (.lst (Ls.map tupI)) r=some (.lst (Ls.map tupI)):=ai;generalize put H r (.lst (Ls.map tupI))=H1 at *
  try ac_rfl
  intro acc hacc;refine aK (fun y=>y) (inT x0) (fun σ=>∃z,σ=[z,some (.tup (.int x0::R0.map PV.int))]) (by rw[EW];omega) (fun _=>(ao (aC i1 hacc)).trans i1) ?_ ?_ ⟨_,rfl⟩
  ·rintro y hy l σ R ⟨z,rfl⟩ hl kT kF;obtain⟨M,hMm,rfl⟩:=Fg.mp hy;unfold tupI at *;rw[oJ]at kT kF;ac_rfl;rw[jX];ac_rfl;refine⟨ar,?_⟩;simp only[aR];refine bC (fun q=>⟨hl,by rw[aI];exact kT (by simpa using q) _ ⟨_,rfl⟩⟩) (fun q=>kF (by simpa using q) _ ⟨_,rfl⟩)
  rw[d6];obtain⟨M,r2,eM,la⟩:=ro hLm hx0;rw[eM];refine⟨_,ai,?_⟩;show eE (atI (tupI M::r2.map tupI) 0) _;rw[jX];exact⟨H,s1.put (s1.free hacc),h M la⟩
 ·exact h.elim
theorem Bv(T:Tx K mg t):aT P w K mg base CX0 6 t.a_zA t.d_zA ["drawing","lump"] (gy t):=by
 refine okU (k:=5) T.F_zA Bh (fun vs H Q E h=>by
  unfold gy at h;split at h
  ·rfl
  ·exact h.elim) (fun cdv A outer s H E B hr=>⟨_,(ah (aD (aw (Cf T) (hr.mono (by decide)) rfl T.g_zu T.F_zu.kp T.B_zu (aa (qv 0) (aa (aw (BF T) (hr.mono (by decide)) rfl T.g_zx T.F_zx.kp T.B_zx (aa (cR (qv 0) T.cl_A T.nfA_count rfl) ab)) (aa (qv 1) ab)))))),?_⟩)
 intro vs H Q E h;unfold gy at h;split at h
 ·rename_i x m;obtain⟨c,ts,bs,x0,R0,⟨dx,hx⟩,ok,rfl,hx0,h⟩:=h;have c1:=ok.c1;have c6:=ok.c6;ac_rfl;refine⟨_,_,_,hx,rfl,⟨by omega,by omega⟩,c,ts,bs,ulN c,x0,R0,⟨dx,hx⟩,ok,rfl,rfl,gH,bG.mpr hx0,fun M la=>⟨H,Sub.refl _,h M la⟩⟩
 ·exact h.elim
theorem EJ(T:Tx K mg t):aT P w K mg base CX0 7 t.a_zq t.d_zq ["drawing","lump"] (dS t):=by
 refine okU (k:=6) T.F_zq jx (fun vs H Q E h=>by
  unfold dS at h;split at h
  ·rfl
  ·exact h.elim) (fun cdv A outer s H E B hr=>⟨_,(ae (az (i:=2) jx.nd rfl (by eq_refl) (aw (Bv T) (hr.mono (by decide)) rfl T.g_zA T.F_zA.kp T.B_zA (aa (qv 0) (aa (qv 1) ab))))
  (ae (az (i:=3) jx.nd rfl (by eq_refl) (br (br (qv 0) T.cl_A T.m_zr (uQ T) (hr.mono (by decide)) T.B_zr (aa (qv 2) ab)) T.cl_A T.m_zc (vG T) (hr.mono (by decide)) T.B_zc (aa (qv 1) ab)))
  (ae (az (i:=4) jx.nd rfl (by eq_refl) (aV ab))
  (ae (fW Fx (aq (cg hr.units) aN (qv 3) (qv 2) (au _))
  (ae (a0 (cA Fu Fv a9 bg (qv 4) (aa (ba (aa b0 (aa (qv 3) ab))) ab)))
   (ae (az (i:=2) jx.nd rfl (by eq_refl) (aw (Cf T) (hr.mono (by decide)) rfl T.g_zu T.F_zu.kp T.B_zu (aa (qv 0) (aa (qv 3) (aa (qv 1) ab)))))
   (ae (aP (aq (cg hr.units) aN (qv 2) (qv 3) (au _))
   (ah (a0 (cA Fu Fv a9 bg (qv 4) (aa (ba (aa b0 (aa (qv 2) ab))) ab))))
   aG)
   (ah (az (i:=3) jx.nd rfl (by eq_refl) (br (br (qv 0) T.cl_A T.m_zr (uQ T) (hr.mono (by decide)) T.B_zr (aa (qv 2) ab)) T.cl_A T.m_zc (vG T) (hr.mono (by decide)) T.B_zc (aa (qv 1) ab))))))))
  (ah (aD (ba (aa (aL aF aU rfl T.b_tuple FV (aa (qv 4) ab)) (aa (qv 2) ab))))))))),?_⟩)
 intro vs H Q E h;unfold dS at h;split at h
 ·rename_i x m;obtain⟨c,ts,bs,x0,R0,⟨dx,hx⟩,ok,rfl,cn,h⟩:=h;have c1:=ok.c1;have c6:=ok.c6;have hd:=cn.nms.lo x0 cn.hd;generalize hL:x0::R0=L0 at *;refine ak fun R hR=>?_;ac_rfl;refine⟨c,ts,bs,x0,R0,⟨dx,hx⟩,ok,by rw[←hL];rfl,hd,fun S0 la=>?_⟩;subst hR;have up0:∀y∈L0,y∈ulN c:=fun y hy=>bG.mpr (cn.nms.lo y hy);have xu:=bG.mpr hd;have n0:=la.nms gH xu;refine ak fun R hR=>?_;ac_rfl;refine⟨⟨_,_,hx,rfl⟩,c,ts,bs,S0,⟨dx,hx⟩,rfl,ok,n0,fun y H1 s1 ⟨dy,hy⟩=>?_⟩;refine⟨⟨_,_,hy,rfl⟩,c,_,L0,⟨_,_,hy⟩,rfl,cn.nms,⟨c1,c6⟩,(ok.filter (FT 0 S0) (FB 0 S0)).gt,fun Ab aup aiff=>?_⟩;have ua:UpS ts S0 L0 Ab:=⟨aup,aiff⟩;subst hR;refine ak fun R hR=>?_;ac_rfl;refine⟨ag (by decide),fun p hp=>?_⟩;subst hR;have hpH:=s1.free hp;refine ak fun R hR=>?_;refine eG (fun m σ H2=>∃St Ab:List Int,∃cs:List Cu,σ=[some (.ref x),some (.tup (L0.map PV.int)),some (.tup (St.map PV.int)),some (.tup (Ab.map PV.int)),some (.ref p)]/\(U.Sub H H2/\H2 p=some (.lst (cs.map aQ)))/\Cn c bs St x0/\(∀y∈L0,y∈St)/\UpS ts St L0 Ab/\d3 ts bs L0 x0 St/\de c ts bs S0 cs/\stA S0 cs=St/\cs.length+St.length≤6/\m=St.length) _ ⟨S0,Ab,[],rfl,⟨s1.put hpH,ai⟩,la.cn gH xu,cn.into up0 la,ua,(iY ok.gb hd).lump la,de.nil,rfl,by have:=n0.len c6;simpa using this,rfl⟩ ?_;rintro m σ H2 ⟨St,Ab,cs,rfl,⟨s2,p2⟩,cS,lS,uA,hold,run,est,len6,rfl⟩;ac_rfl;rw[bx];refine⟨ar,ar,?_⟩;by_cases eq:Ab=St
  ·refine ay (by simp[eq]) ?_;subst hR;ac_rfl;exact⟨_,p2,ag (by decide),H,s2,h S0 St cs la run est (by omega) ⟨cS.nms,⟨lS,fun y hy=>(uA.iff y).mp (eq▸hy),cS.con⟩,hold⟩⟩
  ·have nA:Nms c Ab:=⟨uA.up,fun y hy=>cS.nms.lo y (uA.sub lS y hy)⟩;have lt:=eW nA cS.nms (uA.sub lS) eq;have xA:x0∈Ab:=uA.bas _ cn.hd;have v1:Vc c ts bs St "up" Ab:=⟨nA,fun e=>(by rw[e]at xA;cases xA),lt,uA.sub lS,.inr ⟨rfl,uA.shut lS⟩⟩;have run1:de c ts bs S0 (cs++[upC Ab]):=run.snoc (p:=upC Ab) (by rw[est];exact v1);have h1:=hold.up uA.bas (uA.shut lS);refine aB (by simp[eq]) ⟨_,fun σ' H' hN=>hN,?_⟩;have hx2:=s2 _ _ hx;refine⟨⟨_,p2⟩,ag (by decide),_,p2,a5 (by rw[EW];omega),?_⟩;have e1:cs.map aQ++[PV.tup [.str "up",.tup (Ab.map PV.int)]]=(cs++[upC Ab]).map aQ:=by rw[Fi];rfl
   rw[e1];have s3:U.Sub H (put H2 p (.lst ((cs++[upC Ab]).map aQ))):=s2.put hpH;have p3:put H2 p (.lst ((cs++[upC Ab]).map aQ)) p=some (.lst ((cs++[upC Ab]).map aQ)):=ai;generalize put H2 p (.lst ((cs++[upC Ab]).map aQ))=H3 at *;have hx3:=s3 _ _ hx;refine⟨c,ts,bs,Ab,x0,R0,⟨dx,hx3⟩,ok,rfl,by rw[←hL];rfl,nA,xA,fun N lN=>⟨ar,ar,?_⟩⟩;rw[bx];have lNs:=cn.into uA.bas lN;have cN:=lN.cn nA xA;have h2:=h1.lump lN;have subN:=lN.sub xA;have leN:=sub_len N Ab cN.nms.nd subN;have ltN:N.length<St.length:=by omega
   by_cases eN:N=Ab
   ·refine ay (by simp[eN]) ?_;have hx4:=s3 _ _ hx;refine⟨⟨_,_,hx4,rfl⟩,c,ts,bs,N,⟨dx,hx4⟩,rfl,ok,cN.nms,fun y5 H5 s5 ⟨dy5,hy5⟩=>?_⟩;refine⟨⟨_,_,hy5,rfl⟩,c,_,L0,⟨_,_,hy5⟩,rfl,cn.nms,⟨c1,c6⟩,(ok.filter (FT 0 N) (FB 0 N)).gt,fun A2 up2' iff2=>?_⟩;exact⟨_,ltN,N,A2,cs++[upC Ab],rfl,⟨s3.trans s5,s5 _ _ p3⟩,cN,lNs,⟨up2',iff2⟩,h2,run1,by rw[df];exact eN.symm,by rw[E3,Fj];omega,rfl⟩
   ·have lt2:=eW cN.nms nA subN eN;refine aB (by simp[eN]) ⟨⟨_,rfl⟩,ag (by decide),a5 (by rw[EW,E3,Fj];omega),?_⟩;have e2:(cs++[upC Ab]).map aQ++[PV.tup [.str "lump",.tup (N.map PV.int)]]=(cs++[upC Ab]++[lpC N]).map aQ:=by rw[Fi (l₁:=cs++[upC Ab])];rfl
    rw[e2];have v2:Vc c ts bs Ab "lump" N:=⟨cN.nms,fun e=>(by have:=cN.hd;rw[e]at this;cases this),lt2,subN,.inl ⟨rfl,x0,xA,lN⟩⟩;have run2:de c ts bs S0 (cs++[upC Ab]++[lpC N]):=run1.snoc (p:=lpC N) (by rw[df];exact v2);have s4:U.Sub H (put H3 p (.lst ((cs++[upC Ab]++[lpC N]).map aQ))):=s3.put hpH;have p4:put H3 p (.lst ((cs++[upC Ab]++[lpC N]).map aQ)) p=some (.lst ((cs++[upC Ab]++[lpC N]).map aQ)):=ai;generalize put H3 p (.lst ((cs++[upC Ab]++[lpC N]).map aQ))=H4 at *;have hx4:=s4 _ _ hx;refine⟨⟨_,_,hx4,rfl⟩,c,ts,bs,N,⟨dx,hx4⟩,rfl,ok,cN.nms,fun y5 H5 s5 ⟨dy5,hy5⟩=>?_⟩;refine⟨⟨_,_,hy5,rfl⟩,c,_,L0,⟨_,_,hy5⟩,rfl,cn.nms,⟨c1,c6⟩,(ok.filter (FT 0 N) (FB 0 N)).gt,fun A2 up2' iff2=>?_⟩;exact⟨_,ltN,N,A2,cs++[upC Ab]++[lpC N],rfl,⟨s4.trans s5,s5 _ _ p4⟩,cN,lNs,⟨up2',iff2⟩,h2,run2,df,by rw[E3,E3,Fj,Fj];omega,rfl⟩
 ·exact h.elim
theorem DT(T:Tx K mg t):aT P w K mg base CX0 8 t.a_zT t.d_zT ["drawing","question"] (fY t):=by
 refine okU (k:=7) T.F_zT oM (fun vs H Q E h=>by
  unfold fY at h;split at h
  ·rfl
  ·exact h.elim) (fun cdv A outer s H E B hr=>⟨_,(ae (az (i:=2) oM.nd rfl (by eq_refl) (aV ab))
  (ae (bK Fx rfl (aX (aJ (aw (A5 T) (hr.mono (by decide)) rfl T.g_zS T.F_zS.kp T.B_zS (aa (qv 0) (aa (qv 1) ab))) af (fun _ _=>rfl))) (ax (i:=3) oM.nd rfl (by eq_refl))
  (ae (az (i:=4) oM.nd rfl (by eq_refl) (aw (EJ T) (hr.mono (by decide)) rfl T.g_zq T.F_zq.kp T.B_zq (aa (qv 0) (aa (qv 3) ab))))
   (ae (aP (aq (cg hr.units) aN (aJ (qv 4) af (fun _ _=>rfl)) (qv 3) (au _))
   (ah (aD (ba (aa b0 (aa (qv 3) (aa (aJ (qv 4) af (fun _ _=>rfl)) ab))))))
   aG)
   (ah (a0 (cA Fu Fv a9 bg (qv 2) (aa (ba (aa (qv 3) (aa (aJ (qv 4) af (fun _ _=>rfl)) ab))) ab)))))))
  (ah (aD (ba (aa b0 (aa (aL aF aU rfl T.b_tuple FV (aa (qv 2) ab)) ab))))))),?_⟩)
 intro vs H Q E h;unfold fY at h;split at h
 ·rename_i x v;obtain⟨c,ts,bs,A,B,rfl,⟨dx,hx⟩,ok,hq,hF,hN⟩:=h;have c6:=ok.c6;unfold qV at *;refine ak fun R hR=>?_;ac_rfl;refine⟨ag (by decide),fun p hp=>?_⟩;subst hR;refine ak fun R hR=>?_;ac_rfl;refine⟨c,ts,bs,A,B,rfl,⟨dx,(ao (aC hx hp)).trans hx⟩,ok,hq,fun W Ls r H1 s1 wn hr l6=>?_⟩;have s0:U.Sub H H1:=((Sub.refl H).put hp).trans s1;have p1:H1 p=some (.lst []):=s1 _ _ ai;refine⟨_,hr,?_⟩;refine b9 (fun i σ H2=>∃l led,∃rows:List Ro,σ=[some (.ref x),some (.tup [.tup (A.map PV.int),.tup (B.map PV.int)]),some (.ref p),l,led]/\(U.Sub H H2/\H2 p=some (.lst (rows.map bE))/\H2 r=some (.lst (Ls.map tupI)))/\rows.map (·.1)=Ls.take i/\∀q∈rows,lY c ts bs q/\(q.2.length≤100/\∀z∈q.2,z.2.length≤100)/\∀x0,q.1.head?=some x0->Fin c ts bs q.1 x0 q.1) ?_ ?_ ⟨none,none,[],rfl,⟨s0,p1,hr⟩,by simp,by simp⟩
  ·rintro σ H2 ⟨l,led,rows,rfl,⟨s2,p2,r2⟩,em,hR2⟩;refine⟨r2,?_⟩;rw[EW,FW]at em;have lr:rows.length=Ls.length:=by rw[←em,EW]
   subst hR;ac_rfl;refine⟨_,p2,ag (by decide),H,s2,hF W Ls rows wn ⟨em,fun q hq=>(hR2 q hq).1⟩ (by omega) (fun q hq=>(hR2 q hq).2.1) fun L0 hL x0 hx0=>?_⟩;rw[←em]at hL;obtain⟨q,hq,rfl⟩:=Fg.mp hL;exact(hR2 q hq).2.2 x0 hx0
  ·rintro G i y σ H2 hy ⟨l,led,rows,rfl,⟨s2,p2,r2⟩,em,hR2⟩ kk;refine⟨r2,?_⟩;obtain⟨hi,e⟩:=E6.mp hy;rw[EW]at hi;rw[FK]at e;subst e;have hm:Ls[i]∈Ls:=Ft hi;have tk:Ls.take (i+1)=Ls.take i++[Ls[i]]:=by rw[F6,EY hi];rfl
   generalize Ls[i]=L0 at *;obtain⟨x0,R0,eL⟩:=wn.ne hm;have cn:=wn.cn hm (x0:=x0) (by rw[eL];exact E7);have nrp:r≠p:=fun e=>by
    subst e;rw[hr]at p1;have z:=PO.lst.inj (FH p1);rw[List.map_eq_nil_iff]at z;rw[z]at hi;cases hi
   have lr:rows.length=i:=by
    have:=congrArg List.length em;rw[EW,FA]at this;omega
   unfold tupI;refine ak fun R2 hR3=>?_;ac_rfl;refine⟨c,ts,bs,x0,R0,⟨dx,s2 _ _ hx⟩,ok,by rw[eL];rfl,by rw[←eL];exact cn,fun S0 T cs la run est cl fin=>?_⟩;rw[←eL]at fin;subst hR3;refine ak fun R2 hR3=>?_;ac_rfl;rw[bx];refine⟨ar,ar,?_⟩;by_cases eT:T=L0
   ·refine ay (by simp[eT]) ?_;subst hR3;ac_rfl;refine⟨⟨_,p2⟩,ag (by decide),_,p2,a5 (by rw[EW];omega),kk _ _ ⟨_,_,rows++[(L0,cs)],rfl,⟨s2.put hp,by rw[ai,Fi];rfl,(ao nrp).trans r2⟩,by rw[Fi,em,tk];rfl,fun q hq=>?_⟩⟩;rcases E9.mp hq with hq | hq
    ·exact hR2 q hq
    ·rw[E5]at hq;subst hq;have hd:∀z,L0.head?=some z->z=x0:=fun z hz=>by rw[eL]at hz;exact(FH hz).symm
     refine⟨fun z S1 hz la1=>?_,⟨show cs.length≤100 by omega,fun z hz=>?_⟩,fun z hz=>?_⟩
     ·rw[hd z hz]at la1;rw[la1.one la];exact⟨run,est.trans eT⟩
     ·obtain⟨j,hj⟩:=List.getElem?_of_mem hz;have:=(run j z hj).nms.len c6;omega
     ·rw[hd z hz];exact eT▸fin
   ·refine aB (by simp[eT]) ⟨ag (by decide),H,s2,hN W Ls L0 T x0 R0 wn eL hm fin eT⟩
 ·exact h.elim
theorem AK(T:Tx K mg t):aT P w K mg base CX0 2 t.a_zm t.d_zm ["_law_shape","_law_names","_law_inner"] gc:=by
 refine okU (k:=1) T.F_zm xm (fun vs H Q E h=>by
  unfold gc at h;split at h
  ·rfl
  ·exact h.elim) (fun cdv A outer s H E B hr=>⟨_,(ae (bK Fx rfl (aX (aw (p0 T) (hr.mono (by decide)) rfl T.g_zC T.F_zC.kp T.B_zC (aa (qv 0) (aa (qv 1) ab)))) (ax (i:=3) xm.nd rfl (by eq_refl))
  (ah (aP (aq (bB hr.units) bu (aJ (qv 2) af (fun _ _=>rfl)) (qv 3) (by with_unfolding_all rfl))
   (ah (aD (qv 3)))
   aG)))
  (ah (aD (ba ab)))),?_⟩)
 intro vs H Q E h;unfold gc at h;split at h
 ·rename_i a v l;obtain⟨c,ts,bs,L,x0,R0,hs,ok,hv,rfl,hL,hx0,h⟩:=h;ac_rfl;refine⟨c,ts,bs,L,hs,ok,hv,hL,fun r Ls H1 s1 er lm l6=>⟨_,er,?_⟩⟩;refine b9 (fun i σ H2=>∃z,σ=[some (.ref a),some v,some (.tup (.int x0::R0.map PV.int)),z]/\H2=H1/\∀M∈Ls.take i,x0∉M) ?_ ?_ ⟨none,rfl,rfl,by simp⟩
  ·rintro σ H2 ⟨z,rfl,rfl,hno⟩;rw[EW,FW]at hno;obtain⟨M,hM,xM⟩:=j0 lm x0 hx0;exact absurd xM (hno M hM)
  ·rintro G i y σ H2 hy ⟨z,rfl,rfl,hno⟩ kk;refine⟨er,?_⟩;obtain⟨hi,e⟩:=E6.mp hy;rw[EW]at hi;rw[FK]at e;subst e;have hm:Ls[i]∈Ls:=Ft hi;have tk:Ls.take (i+1)=Ls.take i++[Ls[i]]:=by rw[F6,EY hi];rfl
   generalize Ls[i]=M at *;unfold tupI;ac_rfl;rw[jX];ac_rfl;refine⟨ar,?_⟩;simp only[aR];refine bC (fun q=>⟨H,s1,h M (iW lm hm q)⟩) (fun q=>kk _ _ ⟨_,rfl,rfl,fun N hN=>?_⟩);rw[tk]at hN;rcases E9.mp hN with hN | hN
   ·exact hno N hN
   ·rw[E5]at hN;rw[hN];exact q
 ·exact h.elim
theorem DZ(T:Tx K mg t):aT P w K mg base CX0 1 t.a_zz t.d_zz ["_law_shape","_law_names"] eX:=by
 refine okU (k:=0) T.F_zz xC (fun vs H Q E h=>by
  unfold eX at h;split at h
  ·rfl
  ·exact h.elim) (fun cdv A outer s H E B hr=>⟨_,(ae (bK Fx rfl (bL rfl T.b_range (aa (aE av a6 rfl T.b_len Fo (aa (qv 1) ab)) ab)) (ax (i:=2) xC.nd rfl (by eq_refl))
  (ah (aP (aY (cL (aq d0 eh (aJ (qv 1) (qv 2) (fun _ _=>rfl)) af (au _)) (cL (aq kP kA (aJ (qv 1) (qv 2) (fun _ _=>rfl)) (aJ (qv 0) af (fun _ _=>rfl)) (au _)) (cw (aY (bR (aq gP gX (qv 2) af (au _)) (bN (aq tx uy (aJ (qv 1) (qv 2) (fun _ _=>rfl)) (aJ (qv 1) (eC (qv 2) af) (fun _ _=>rfl)) (au _)))))))))
   (ah (aD cO))
   aG)))
  (ah (aD cO))),?_⟩)
 intro vs H Q E h;unfold eX at h;split at h
 ·rename_i a l;obtain⟨c,ts,bs,L,⟨q1,q2,e1,e2,e3⟩,rfl,hl,hY,hN⟩:=h;ac_rfl;rw[EW];refine⟨⟨by omega,by omega⟩,?_⟩;refine dP (fun i σ H2=>∃z,σ=[some (.ref a),some (.tup (L.map PV.int)),z]/\H2=H/\Nms c (L.take i)) ?_ ?_ ⟨none,rfl,rfl,⟨.nil,by simp⟩⟩
  ·rintro σ H2 ⟨z,rfl,rfl,hn⟩;rw[F2,FW]at hn;exact⟨trivial,H2,Sub.refl _,hY hn⟩
  ·rintro G i σ H2 hi ⟨z,rfl,rfl,hn⟩ kk;refine⟨trivial,?_⟩;have hi':i<L.length:=by rw[F2]at hi;exact hi
   have tk:L.take (i+1)=L.take i++[L[i]]:=by rw[F6,EY hi'];rfl
   have at1:atI (L.map PV.int) ((i:Nat):Int)=some (.int L[i]):=by rw[fH (by rw[EW];exact hi'),FK]
   ac_rfl;rw[at1];ac_rfl;by_cases h0:L[i]<0
   ·exact aB (by simpa using h0) ⟨H2,Sub.refl _,hN fun n=>by have:=n.lo _ (Ft hi');omega⟩
   refine ay (by simpa using h0) ?_;refine⟨_,e1,?_⟩;rw[d4];ac_rfl;by_cases h1:c≤L[i]
   ·exact aB (by simpa using h1) ⟨H2,Sub.refl _,hN fun n=>by have:=n.lo _ (Ft hi');omega⟩
   refine ay (by simpa using h1) ?_;have grow:(∀a∈L.take i,a<L[i])->Nms c (L.take (i+1)):=fun ha=>by
    rw[tk];refine⟨List.pairwise_append.mpr ⟨hn.up,List.pairwise_singleton _ _,fun a h2 b hb=>?_⟩,fun x hx=>?_⟩
    ·rw[E5]at hb;rw[hb];exact ha a h2
    ·rcases E9.mp hx with hx | hx
     ·exact hn.lo x hx
     ·rw[E5]at hx;omega
   by_cases hz:i=0
   ·subst hz;exact ay (by simp) (kk _ _ ⟨_,rfl,rfl,grow (by simp)⟩)
   ·refine aB (by simp;omega) ?_;have hp:i - 1<L.length:=by omega
    have at2:atI (L.map PV.int) (((i:Nat):Int) - 1)=some (.int L[i - 1]):=by
     rw[show((i:Nat):Int) - 1=((i - 1:Nat):Int) by omega,fH (by rw[EW];exact hp),FK]
    rw[at2];ac_rfl;by_cases h2:L[i]≤L[i - 1]
    ·refine aB (by simpa using h2) ⟨H2,Sub.refl _,hN fun n=>?_⟩;have:=List.pairwise_iff_getElem.mp n.up (i - 1) i hp hi' (by omega);omega
    ·refine ay (by simpa using h2) (kk _ _ ⟨_,rfl,rfl,grow fun a ha=>?_⟩);obtain⟨j,hj,e⟩:=List.mem_iff_getElem.mp ha;rw[List.getElem_take]at e;rw[FA]at hj;by_cases hj1:j=i - 1
     ·subst hj1;omega
     ·have lj:j<(L.take i).length:=by rw[FA];omega
      have l1:i - 1<(L.take i).length:=by rw[FA];omega
      have:=List.pairwise_iff_getElem.mp hn.up j (i - 1) lj l1 (by omega);rw[List.getElem_take,List.getElem_take]at this;omega
 ·exact h.elim
theorem Dv(T:Tx K mg t):aT P w K mg base CX0 3 t.a_zO t.d_zO ["_law_shape","_law_stands","_law_cut_here"] ib:=by
 refine okU (k:=2) T.F_zO oq (fun vs H Q E h=>by
  unfold ib at h;split at h
  ·rfl
  ·exact h.elim) (fun cdv A outer s H E B hr=>⟨_,(ae (mr (qv 2) (d8 (n:=2) rfl (bA (ax (i:=3) oq.nd rfl (by eq_refl)) (bA (ax (i:=4) oq.nd rfl (by eq_refl)) dq))))
  (ae (aP (aY (cL (aq (aM hr.units) aN (aE av a6 rfl T.b_len Fo (aa (qv 4) ab)) af (au _)) (cL (aq kP kA (aE av a6 rfl T.b_len Fo (aa (qv 4) ab)) (aE av a6 rfl T.b_len Fo (aa (qv 1) ab)) (au _)) (cw (cZ (cc (aw (DZ T) (hr.mono (by decide)) rfl T.g_zz T.F_zz.kp T.B_zz (aa (qv 0) (aa (qv 4) ab)))))))))
  (ah (aD (ba ab)))
  aG)
  (ae (aP (aq (cg hr.units) aN (bI (N2:=["_law_name","_law_stands"]) (nt:=1) (js:=[1]) (ck (sc:=aj uq)) rfl (aX (qv 4)) (fun s0 H0 fp ps=>⟨(ax (i:=0) (show List.Nodup (["_law_name","_law_stands"]:List Str) by decide +kernel) rfl (by eq_refl)),(bh (aq (bP hr.units) bu (qv 0) (qv 1) (by with_unfolding_all rfl))),(qv 0)⟩)) (aV ab) (au _))
  (ah (aD (ba ab)))
  aG)
  (ae (aP (aY (bR (aq (aM hr.units) aN (qv 3) b0 (au _)) (bN (aq (bB hr.units) bu (qv 4) (aw (p0 T) (hr.mono (by decide)) rfl T.g_zC T.F_zC.kp T.B_zC (aa (qv 0) (aa (qv 1) ab))) (by with_unfolding_all rfl)))))
  (ah (aD (qv 4)))
  aG)
  (ae (b8 (i:=5) oq.nd rfl (by eq_refl) (N2:=["_law_u","_law_v","_law_names","_law_stands"]) (nt:=2) (js:=[4,1]) (ck (sc:=aj uq)) rfl (aX (aJ (qv 0) af (fun _ _=>rfl))) (fun s0 H0 fp ps=>⟨(d8 (n:=2) rfl (bA (ax (i:=0) (show List.Nodup (["_law_u","_law_v","_law_names","_law_stands"]:List Str) by decide +kernel) rfl (by eq_refl)) (bA (ax (i:=1) (show List.Nodup (["_law_u","_law_v","_law_names","_law_stands"]:List Str) by decide +kernel) rfl (by eq_refl)) dq))),(bh (aY (bR (aq (bB hr.units) bu (qv 1) (qv 2) (by with_unfolding_all rfl)) (bR (aq (bB hr.units) bu (qv 0) (qv 3) (by with_unfolding_all rfl)) (bN (aq (bP hr.units) bu (qv 0) (qv 2) (by with_unfolding_all rfl))))))),(qv 0)⟩))
  (ae (aP (aY (bR (aq (aM hr.units) aN (qv 3) b0 (au _)) (bN (aq (aM hr.units) aN (qv 5) (aV ab) (au _)))))
  (ah (aD (qv 4)))
  aG)
  (ah (aD (ba ab))))))))),?_⟩)
 intro vs H Q E h;unfold ib at h;split at h
 ·rename_i a s v;obtain⟨c,ts,bs,S,⟨w,N⟩,hs,ok,rfl,rfl,hS,hl,hY,hN⟩:=h;have hl':N.length≤1000:=hl;have c6:=ok.c6;have t15:=ok.gt.len c6;have s6:=hS.len c6;obtain⟨q1,q2,e1,e2,e3⟩:=id hs;unfold aQ;have no:∀{H2:PHp},U.Sub H H2->¬Vc c ts bs S w N->∃H0,U.Sub H0 H2/\Q (.tup []) H0:=fun s2 nb=>⟨H,s2,hN nb⟩;refine ak fun R hR=>?_;ac_rfl;subst hR;refine ak fun R hR=>?_;ac_rfl;rw[EW,EW];by_cases n0:N=[]
  ·subst n0;exact aB rfl ⟨ag (by decide),no (Sub.refl _) fun v=>v.ne rfl⟩
  refine ay (by simpa using n0) ?_;by_cases lt:S.length≤N.length
  ·exact aB (by simp;omega) ⟨ag (by decide),no (Sub.refl _) fun v=>by have:=v.lt;omega⟩
  refine ay (by simp;omega) ⟨c,ts,bs,N,hs,rfl,hl',fun nN=>?_,fun nn=>⟨ag (by decide),no (Sub.refl _) fun v=>nn v.nms⟩⟩;subst hR;have n6:=nN.len c6;refine ak fun R hR=>?_;ac_rfl;intro p1 hp1;refine aK (fun y=>y) (onI fun y=>!decide (y∈S)) (fun σ=>∃z,σ=[z,some (.tup (S.map PV.int))]) (by rw[EW];omega) (fun _=>trivial) ?_ ?_ ⟨_,rfl⟩
  ·rintro y hy l σ R ⟨z,rfl⟩ hl kT kF;obtain⟨k,hk,rfl⟩:=Fg.mp hy;have e:onI (fun y=>!decide (y∈S)) (PV.int k)=!decide (k∈S):=rfl;rw[e]at kT kF;ac_rfl;refine⟨ar,?_⟩;simp only[aR];by_cases m:k∈S
   ·exact ay (by simp[m]) (kF (by simp[m]) _ ⟨_,rfl⟩)
   ·exact aB (by simp[m]) ⟨hl,by rw[aI];exact kT (by simp[m]) _ ⟨_,rfl⟩⟩
  rw[bD];have s1:=(Sub.refl H).put (o:=.lst ((N.filter fun y=>!decide (y∈S)).map PV.int)) hp1;refine⟨ag (by decide),fun p2 hp2=>?_⟩;have n12:p1≠p2:=fun e=>by subst e;rw[ai]at hp2;cases hp2
  have s2:=s1.put (o:=.lst []) (s1.free hp2);refine⟨_,(ao n12).trans ai,ar,?_⟩;have ed:deq (.fls ((N.filter fun y=>!decide (y∈S)).map PV.int)) (.fls [])=decide ((N.filter fun y=>!decide (y∈S))=[]):=by rw[deq];exact dC
  rw[ed];have ek:(N.filter (fun y=>!decide (y∈S))=[])↔∀x∈N,x∈S:=by
   rw[Gr];exact⟨fun z x hx=>by simpa using z x hx,fun z x hx=>by simpa using z x hx⟩
  generalize put (put H p1 _) p2 _=H2 at *;by_cases hk:N.filter (fun y=>!decide (y∈S))=[]
  ·refine ay (by simp[hk]) ?_;have sub:=ek.mp hk;clear ed ek hk;subst hR;refine ak fun R hR=>?_;have rest:∀H3,U.Sub H H3->¬(w="lump"/\∃x∈S,LA bs S x N)->R { nx:=fun x H=>∃H3,U.Sub H3 H/\Q PV.non H3,rt:=fun v H=>∃H3,U.Sub H3 H/\Q v H3 } [some (.ref a),some (.tup (S.map PV.int)),some (.tup [.str w,.tup (N.map PV.int)]),some (.str w),some (.tup (N.map PV.int)),none] H3:=by
    intro H3 s3 nl;subst hR;refine ak fun R hR=>?_;ac_rfl;refine⟨_,s3 _ _ e1,?_⟩;rw[rW];ac_rfl;refine⟨_,s3 _ _ e2,fun acc hacc=>?_⟩;refine aK g0 (onP (dY S N)) (fun σ=>∃z1 z2,σ=[z1,z2,some (.tup (N.map PV.int)),some (.tup (S.map PV.int))]) (by rw[EW];omega) (fun _=>(ao (aC (s3 _ _ e2) hacc)).trans (s3 _ _ e2)) ?_ ?_ ⟨_,_,rfl⟩
    ·rintro y hy l σ R ⟨z1,z2,rfl⟩ hl kT kF;obtain⟨p,hp,rfl⟩:=Fg.mp hy;rw[gu]at kT kF;unfold prV at *;ac_rfl;refine⟨ar,?_⟩;simp only[aR];refine bC (fun m1=>⟨ar,?_⟩) (fun m1=>kF (by simp[dY,m1]) _ ⟨_,_,rfl⟩)
     try simp only[aR]
     refine bC (fun m2=>⟨ar,?_⟩) (fun m2=>kF (by simp[dY,m2]) _ ⟨_,_,rfl⟩)
     try simp only[aR]
     by_cases m3:p.1∈N
     ·exact ay (by simp[m3]) (kF (by simp[dY,m3]) _ ⟨_,_,rfl⟩)
     ·exact aB (by simp[m3]) ⟨hl,by rw[aI];exact kT (by simp[dY,m1,m2,m3]) _ ⟨_,_,rfl⟩⟩
    rw[jH];subst hR;have s4:=s3.put (o:=.lst (((ts.filter (dY S N)).map (·.1)).map PV.int)) (s3.free hacc);have i4:put H3 acc (.lst (((ts.filter (dY S N)).map (·.1)).map PV.int)) acc=some (.lst (((ts.filter (dY S N)).map (·.1)).map PV.int)):=ai;generalize put H3 acc (.lst (((ts.filter (dY S N)).map (·.1)).map PV.int))=H4 at *;ac_rfl;by_cases wu:w="up"
    ·subst wu;refine aB rfl ⟨ag (by decide),fun p5 hp5=>⟨_,(ao (aC i4 hp5)).trans i4,ar,?_⟩⟩;rw[dC];have s5:=s4.put (o:=.lst []) (s4.free hp5);refine bC (fun q=>⟨H,s5,hY ⟨nN,n0,show N.length<S.length by omega,sub,.inr ⟨rfl,lX.mp q⟩⟩⟩) (fun q=>⟨ag (by decide),no s5 fun v=>v.ok.elim (fun z=>nl z) (fun z=>q (lX.mpr z.2))⟩)
    ·exact ay (by simpa using wu) ⟨ag (by decide),no s4 fun v=>v.ok.elim (fun z=>nl z) (fun z=>wu z.1)⟩
   ac_rfl;by_cases wl:w="lump"
   ·refine aB (by simp[wl]) ⟨c,ts,bs,S,hs.up s2,ok,.inl rfl,hS,fun r Ls H3 s3 er lm l6=>⟨_,er,?_⟩⟩;rw[oP];refine⟨cG,cm,bC (fun q=>⟨H,s2.trans s3,hY ⟨nN,n0,show N.length<S.length by omega,sub,.inl ⟨wl,(fD lm).mp q⟩⟩⟩) (fun q=>rest H3 (s2.trans s3) fun z=>q ((fD lm).mpr z.2))⟩
   ·exact ay (by simpa using wl) (rest H2 s2 fun z=>wl z.1)
  ·exact aB (by simp[hk]) ⟨ag (by decide),no s2 fun v=>hk (ek.mpr v.sub)⟩
 ·exact h.elim
theorem Eo(T:Tx K mg t):aT P w K mg base CX0 4 t.a_ze t.d_ze ["_law_shape","_law_stands","_law_lump"] fb:=by
 refine okU (k:=3) T.F_ze oj (fun vs H Q E h=>by
  unfold fb at h;split at h
  ·rfl
  ·exact h.elim) (fun cdv A outer s H E B hr=>⟨_,(ae (az (i:=3) oj.nd rfl (by eq_refl) (aV ab))
  (ae (bK Fx rfl (bL rfl T.b_range (aa (mF af (aE av a6 rfl T.b_len Fo (aa (qv 1) ab))) ab)) (ax (i:=4) oj.nd rfl (by eq_refl))
  (ae (az (i:=5) oj.nd rfl (by eq_refl) (aL aF aU rfl T.b_tuple FV (aa (kJ (N2:=["_law_k","_law_name","_law_bits"]) (nt:=2) (js:=[4]) (ck (sc:=aj su)) rfl (xI rfl T.b_enumerate (aa (qv 1) ab)) (fun s0 H0 fp ps=>⟨(d8 (n:=2) rfl (bA (ax (i:=0) (show List.Nodup (["_law_k","_law_name","_law_bits"]:List Str) by decide +kernel) rfl (by eq_refl)) (bA (ax (i:=1) (show List.Nodup (["_law_k","_law_name","_law_bits"]:List Str) by decide +kernel) rfl (by eq_refl)) dq))),(bh (aq (aM hr.units) aN (bc (fE (qv 2) (qv 0)) af) af (au _))),(qv 1)⟩)) ab)))
   (ah (aP (aY (bR (aq (aM hr.units) aN (bI (N2:=["_law_name","_law_names"]) (nt:=1) (js:=[5]) (ck (sc:=aj su)) rfl (aX (qv 2)) (fun s0 H0 fp ps=>⟨(ax (i:=0) (show List.Nodup (["_law_name","_law_names"]:List Str) by decide +kernel) rfl (by eq_refl)),(bh (aq (bP hr.units) bu (qv 0) (qv 1) (by with_unfolding_all rfl))),(qv 0)⟩)) (aV ab) (au _)) (bN (aq (cg hr.units) aN (aw (Dv T) (hr.mono (by decide)) rfl T.g_zO T.F_zO.kp T.B_zO (aa (qv 0) (aa (qv 1) (aa (ba (aa b0 (aa (qv 5) ab))) ab)))) (ba ab) (au _)))))
   (ah (a0 (cA Fu Fv a9 bg (qv 3) (aa (ba (aa b0 (aa (qv 5) ab))) ab))))
   aG))))
  (ah (aD (qv 3))))),?_⟩)
 intro vs H Q E h;unfold fb at h;split at h
 ·rename_i a s l;obtain⟨c,ts,bs,S,L,hs,ok,rfl,rfl,hS,lL,h⟩:=h;have c6:=ok.c6;have s6:=hS.len c6;refine ak fun R hR=>?_;ac_rfl;refine⟨ag (by decide),fun g hg=>?_⟩;subst hR;refine ak fun R hR=>?_;ac_rfl;rw[EW];have hP:(2:Int) ^ ((S.length:Nat):Int).toNat=((2 ^ S.length:Nat):Int):=by rw[Int.natCast_pow];rfl
  have p64:2 ^ S.length≤64:=FI (Nat.pow_le_pow_right (by decide) s6) (by decide);rw[hP];have en:(1*((2 ^ S.length:Nat):Int)).toNat=2 ^ S.length:=by rw[Int.one_mul];exact F2 _
  rw[en];refine⟨⟨by omega,by omega,by decide⟩,⟨by omega,by omega⟩,?_⟩;refine dP (fun i σ H2=>∃u1 u2,∃Ns:List (List Int),σ=[some (.ref a),some (.tup (S.map PV.int)),some (.tup (L.map PV.int)),some (.ref g),u1,u2]/\(U.Sub H H2/\H2 g=some (.lst (Ns.map fun N=>aQ (upC N))))/\(∀N,N∈Ns↔((Vc c ts bs S "up" N/\∀y∈L,y∈N)/\∃b,b<i/\cF b S=N))/\Ns.length≤i) ?_ ?_ ⟨none,none,[],rfl,⟨(Sub.refl H).put hg,ai⟩,fun N=>⟨fun z=>(by cases z),fun y_=>by obtain⟨_,b,hb,_⟩:=y_;exact (by omega)⟩,by simp⟩
  ·rintro σ H2 ⟨u1,u2,Ns,rfl,⟨s2,g2⟩,hN,hl⟩;refine⟨trivial,?_⟩;subst hR;ac_rfl;refine⟨H2,Sub.refl _,h g H2 Ns hg s2 g2 (fun N=>(hN N).trans ⟨fun z=>z.1,fun z=>⟨z,?_⟩⟩) (by omega)⟩;exact gh (d9 z.1.nms.up hS.up z.1.sub)
  ·rintro G i σ H2 hi ⟨u1,u2,Ns,rfl,⟨s2,g2⟩,hN,hl⟩ kk;have hi64:i<64:=by omega
   refine⟨trivial,?_⟩;refine ak fun R2 hR2=>?_;ac_rfl;show ∀acc,H2 acc=none->_;intro acc hacc;refine aK g1 (lh ((i:Nat):Int)) (fun σ=>∃z1 z2,σ=[z1,z2,some (.int ((i:Nat):Int))]) (by rw[og,EW];omega) (fun _=>trivial) ?_ ?_ ⟨_,_,rfl⟩
   ·rintro y hy l σ R ⟨z1,z2,rfl⟩ hl kT kF;obtain⟨k,x,rfl⟩:=oz hy;have e:lh ((i:Nat):Int) (.tup [.int (k:Nat),.int x])=((((i:Nat):Int) / 2 ^ ((k:Nat):Int).toNat).fmod 2==1):=rfl;rw[e]at kT kF;ac_rfl;refine⟨by omega,by decide,aS (fun q=>⟨hl,by rw[aI];exact kT q _ ⟨_,_,rfl⟩⟩) (fun q=>kF q _ ⟨_,_,rfl⟩)⟩
   rw[nQ];have sN:=ie S i;have eN:∀M,(∃b,b<i+1/\cF b S=M)↔((∃b,b<i/\cF b S=M)∨cF i S=M):=fun M=>⟨fun y_=>by
     obtain⟨b,hb,e⟩:=y_;by_cases q:b=i
     ·exact .inr (q▸e)
     ·exact .inl ⟨b,by omega,e⟩,fun z=>z.elim (fun y_=>by obtain⟨b,hb,e⟩:=y_;exact ⟨b,by omega,e⟩) fun e=>⟨i,by omega,e⟩⟩
   generalize hsel:cF i S=N at *;have nN:Nms c N:=⟨hS.up.sublist sN,fun x hx=>hS.lo x (sN.subset hx)⟩;have n6:=nN.len c6;refine⟨_,ai,?_⟩;have s3:U.Sub H (put H2 acc (.lst (N.map PV.int))):=s2.put (s2.free hacc);have g3:put H2 acc (.lst (N.map PV.int)) g=some (.lst (Ns.map fun N=>aQ (upC N))):=(ao (aC g2 hacc)).trans g2;generalize put H2 acc (.lst (N.map PV.int))=H3 at *;subst hR2;have quit:∀H4,U.Sub H3 H4->¬(Vc c ts bs S "up" N/\∀y∈L,y∈N)->G [some (.ref a),some (.tup (S.map PV.int)),some (.tup (L.map PV.int)),some (.ref g),some (.int (i:Nat)),some (.tup (N.map PV.int))] H4:=fun H4 s4 nv=>kk _ _ ⟨_,_,Ns,rfl,⟨s3.trans s4,s4 _ _ g3⟩,fun M=>(hN M).trans ⟨fun z=>⟨z.1,(eN M).mpr (.inl z.2)⟩,fun z=>⟨z.1,((eN M).mp z.2).resolve_right fun e=>nv (e▸z.1)⟩⟩,by omega⟩;ac_rfl;intro p4 hp4;refine aK (fun y=>y) (onI fun y=>!decide (y∈N)) (fun σ=>∃z,σ=[z,some (.tup (N.map PV.int))]) (by rw[EW];omega) (fun _=>trivial) ?_ ?_ ⟨_,rfl⟩
   ·rintro y hy l σ R ⟨z,rfl⟩ hl kT kF;obtain⟨k,hk,rfl⟩:=Fg.mp hy;have e:onI (fun y=>!decide (y∈N)) (PV.int k)=!decide (k∈N):=rfl;rw[e]at kT kF;ac_rfl;refine⟨ar,?_⟩;simp only[aR];by_cases m:k∈N
    ·exact ay (by simp[m]) (kF (by simp[m]) _ ⟨_,rfl⟩)
    ·exact aB (by simp[m]) ⟨hl,by rw[aI];exact kT (by simp[m]) _ ⟨_,rfl⟩⟩
   rw[bD];have s4:=(Sub.refl H3).put (o:=.lst ((L.filter fun y=>!decide (y∈N)).map PV.int)) hp4;refine⟨ag (by decide),fun p5 hp5=>?_⟩;have n45:p4≠p5:=fun e=>by subst e;rw[ai]at hp5;cases hp5
   have s5:=s4.put (o:=.lst []) (s4.free hp5);refine⟨_,(ao n45).trans ai,ar,?_⟩;have ed:deq (.fls ((L.filter fun y=>!decide (y∈N)).map PV.int)) (.fls [])=decide ((L.filter fun y=>!decide (y∈N))=[]):=by rw[deq];exact dC
   rw[ed];have ek:(L.filter (fun y=>!decide (y∈N))=[])↔∀x∈L,x∈N:=by
    rw[Gr];exact⟨fun z x hx=>by simpa using z x hx,fun z x hx=>by simpa using z x hx⟩
   generalize put (put H3 p4 _) p5 _=H5 at *;refine bC (fun hk=>⟨ag (by decide),c,ts,bs,S,upC N,hs.up (s3.trans s5),ok,rfl,rfl,hS,show N.length≤1000 by omega,fun v=>⟨ag (by decide),ar,?_⟩,fun nv=>⟨ag (by decide),quit H5 s5 fun z=>nv z.1⟩⟩) (fun hk=>quit H5 s5 fun z=>hk (ek.mpr z.2));have v':Vc c ts bs S "up" N:=v;refine aB (by rw[dC];simp[v'.ne]) ⟨⟨_,s5 _ _ g3⟩,ag (by decide),_,s5 _ _ g3,a5 (by rw[EW];omega),kk _ _ ⟨_,_,Ns++[N],rfl,⟨(s3.trans s5).put hg,by rw[ai,Fi];rfl⟩,fun M=>?_,by rw[E3,Fj];omega⟩⟩;rw[E9,E5,hN,eN];constructor
   ·rintro(z | z)
    ·exact⟨z.1,.inl z.2⟩
    ·subst z;exact⟨⟨v',ek.mp hk⟩,.inr rfl⟩
   ·rintro⟨z1,z2 | z2⟩
    ·exact .inl ⟨z1,z2⟩
    ·exact .inr z2.symm
 ·exact h.elim
theorem DJ(T:Tx K mg t):aT P w K mg base CX0 5 t.a_zK t.d_zK ["_law_shape","_law_lump","_law_number"] iz:=by
 refine okU (k:=4) T.F_zK gY (fun vs H Q E h=>by
  unfold iz at h;split at h
  ·rfl
  ·exact h.elim) (fun cdv A outer s H E B hr=>⟨_,(ae (az (i:=3) gY.nd rfl (by eq_refl) (aw (AK T) (hr.mono (by decide)) rfl T.g_zm T.F_zm.kp T.B_zm (aa (qv 0) (aa (yE rfl rfl T.b_list rfl T.b_range boot_list (aJ (qv 0) af (fun _ _=>rfl))) (aa (qv 1) ab)))))
  (ae (az (i:=4) gY.nd rfl (by eq_refl) (aV ab))
  (ae (fW Fx (aq (cg hr.units) aN (qv 3) (qv 1) (au _))
  (ae (az (i:=5) gY.nd rfl (by eq_refl) (aw (Eo T) (hr.mono (by decide)) rfl T.g_ze T.F_ze.kp T.B_ze (aa (qv 0) (aa (qv 3) (aa (qv 1) ab)))))
   (ae (az (i:=6) gY.nd rfl (by eq_refl) (aw (AK T) (hr.mono (by decide)) rfl T.g_zm T.F_zm.kp T.B_zm (aa (qv 0) (aa (qv 3) (aa (qv 1) ab)))))
   (ae (aP (aq (cg hr.units) aN (qv 6) (qv 3) (au _))
   (ah (az (i:=5) gY.nd rfl (by eq_refl) (mH (qv 5) (aV (aa (ba (aa b0 (aa (qv 6) ab))) ab)))))
   aG)
   (ae (aP (aq (aM hr.units) aN (aE av a6 rfl T.b_len Fo (aa (qv 5) ab)) af (au _))
   (ah (aD (aV (aa (qv 4) (aa (qv 3) ab)))))
   aG)
   (ae (a0 (cA Fu Fv a9 bg (qv 4) (aa (aJ (qv 5) (bc (qv 2) (aE av a6 rfl T.b_len Fo (aa (qv 5) ab))) (fun _ _=>rfl)) ab)))
   (ae (az (i:=2) gY.nd rfl (by eq_refl) (bz (qv 2) (aE av a6 rfl T.b_len Fo (aa (qv 5) ab))))
   (ah (az (i:=3) gY.nd rfl (by eq_refl) (aJ (aJ (qv 4) (fC af) (fun _ _=>rfl)) af (fun _ _=>rfl)))))))))))
  (ah (aD (aV (aa (qv 4) (aa (qv 1) ab)))))))),?_⟩)
 intro vs H Q E h;unfold iz at h;split at h
 ·rename_i a l n;obtain⟨c,ts,bs,x0,R0,hs,ok,rfl,cn,h⟩:=h;have c1:=ok.c1;have c6:=ok.c6;have hd:=cn.nms.lo x0 cn.hd;obtain⟨q1,q2,e1,e2,e3⟩:=id hs;generalize hL:x0::R0=L0 at *;have up0:∀y∈L0,y∈ulN c:=fun y hy=>bG.mpr (cn.nms.lo y hy);have xu:=bG.mpr hd;refine ak fun R hR=>?_;ac_rfl;refine⟨_,e1,?_⟩;rw[d4];ac_rfl;refine⟨by omega,by omega,fun p hp=>?_⟩;rw[nE];have s1:=(Sub.refl H).put (o:=.lst ((ulN c).map PV.int)) hp;refine⟨c,ts,bs,ulN c,x0,R0,hs.up s1,ok,.inr ⟨p,rfl,ai⟩,by rw[←hL];rfl,gH,xu,fun S0 la=>?_⟩;subst hR;generalize put H p (.lst ((ulN c).map PV.int))=H1 at *;have n0:=la.nms gH xu;refine ak fun R hR=>?_;ac_rfl;refine⟨ag (by decide),fun g hg=>?_⟩;subst hR;have hgH:=s1.free hg;refine ak fun R hR=>?_;refine pU fun Rb hRb=>?_;refine eG (fun m σ H2=>∃n' u1 u2,∃St:List Int,∃cs:List Cu,σ=[some (.ref a),some (.tup (L0.map PV.int)),some (.int n'),some (.tup (St.map PV.int)),some (.ref g),u1,u2]/\(U.Sub H H2/\H2 g=some (.lst (cs.map aQ)))/\Nms c St/\(∀y∈L0,y∈St)/\d3 ts bs L0 x0 St/\(∀q∈cs,q.2.length≤6)/\cs.length+St.length≤6/\m=St.length) _ ⟨n,none,none,S0,[],rfl,⟨s1.put hgH,ai⟩,n0,cn.into up0 la,(iY ok.gb hd).lump la,by simp,by have:=n0.len c6;simpa using this,rfl⟩ ?_;rintro m σ H2 ⟨n',u1,u2,St,cs,rfl,⟨s2,g2⟩,nS,lS,hold,lq6,len6,rfl⟩;ac_rfl;rw[bx];refine⟨ar,ar,?_⟩;by_cases eq:St=L0
  ·refine ay (by simp[eq]) ?_;subst hR;ac_rfl;refine⟨ag (by decide),fun r hr=>⟨_,Sub.refl _,h r g _ cs L0 (s2.put (s2.free hr)) ai ((ao (aC g2 hr)).trans g2) (by omega) lq6 ⟨cn.nms,cn.stk,eq▸hold⟩⟩⟩
  ·refine aB (by simp[eq]) (CP fun N bk hN=>?_);subst hRb;have x0S:=lS _ cn.hd;refine ak fun R2 hR2=>?_;ac_rfl;refine⟨c,ts,bs,St,L0,hs.up s2,ok,rfl,rfl,nS,cn.nms.len c6,fun r H3 Ns fr s3 r3 hNs lN=>?_⟩;subst hR2;refine ak fun R2 hR2=>?_;ac_rfl;refine⟨c,ts,bs,St,x0,R0,(hs.up s2).up s3,ok,.inl rfl,by rw[←hL];rfl,nS,x0S,fun M la2=>?_⟩;subst hR2;have g3:=s3 _ _ g2;have nM:=la2.nms nS x0S;refine ak fun R2 hR2=>?_;have go:∀(rr:Addr) (ws:List Cu) (H4:PHp),U.Sub H H4->H4 g=some (.lst (cs.map aQ))->H4 rr=some (.lst (ws.map aQ))->g≠rr->(∀q∈ws,Vc c ts bs St q.1 q.2/\∀y∈L0,y∈q.2)->(ws=[]->Fin c ts bs L0 x0 St)->ws.length≤65 ->
     R2 { nx:=N,rt:=fun v H=>∃H3,U.Sub H3 H/\Q v H3,bk:=bk,ct:=N } [some (.ref a),some (.tup (L0.map PV.int)),some (.int n'),some (.tup (St.map PV.int)),some (.ref g),some (.ref rr),some (.tup (M.map PV.int))] H4:=by
    intro rr ws H4 s4 g4 r4 ngr hw hfin lw;subst hR2;refine ak fun R2 hR2=>?_;ac_rfl;refine⟨_,r4,?_⟩;by_cases w0:ws=[]
    ·subst w0;refine aB rfl ⟨ag (by decide),fun r5 hr5=>⟨_,Sub.refl _,h r5 g _ cs St (s4.put (s4.free hr5)) ai ((ao (aC g4 hr5)).trans g4) (by omega) lq6 (hfin rfl)⟩⟩
    refine ay (by simpa using w0) ?_;subst hR2;have wl:0<ws.length:=List.length_pos_iff.mpr w0;refine ak fun R2 hR2=>?_;ac_rfl;refine⟨⟨_,g4⟩,_,r4,by rw[EW];omega,_,r4,?_⟩;rw[EW];have bj:=fm (a:=n') (b:=(ws.length:Nat)) (by omega);obtain⟨j,hj⟩:∃j:Nat,n'.fmod (ws.length:Nat)=(j:Nat):=⟨(n'.fmod (ws.length:Nat)).toNat,by omega⟩;rw[hj]at bj ⊢;have jl:j<ws.length:=by omega
    rw[fH (by rw[EW];exact jl),FK];have hm:=hw _ (Ft jl);generalize ws[j]=q at *;have vlt:=hm.1.lt;refine⟨_,g4,a5 (by rw[EW];omega),?_⟩;have ea:cs.map aQ++[aQ q]=(cs++[q]).map aQ:=by rw[Fi];rfl
    rw[ea];subst hR2;have s5:U.Sub H (put H4 g (.lst ((cs++[q]).map aQ))):=s4.put hgH;have g5:put H4 g (.lst ((cs++[q]).map aQ)) g=some (.lst ((cs++[q]).map aQ)):=ai;have r5:put H4 g (.lst ((cs++[q]).map aQ)) rr=some (.lst (ws.map aQ)):=(ao ngr.symm).trans r4;generalize put H4 g (.lst ((cs++[q]).map aQ))=H5 at *;refine ak fun R2 hR2=>?_;ac_rfl;refine⟨_,r5,dv (by rw[EW];omega) (by rw[EW];omega),?_⟩;subst hR2;ac_rfl;refine⟨_,g5,?_⟩;rw[←ea,tF];unfold aQ at *;ac_rfl;exact hN _ _ ⟨q.2.length,vlt,_,_,_,q.2,cs++[q],rfl,⟨s5,g5⟩,hm.1.nms,hm.2,hm.1.keep hold cn.hd hm.2,fun z hz=>(E9.mp hz).elim (lq6 z) fun e=>(by rw[E5]at e;rw[e];exact hm.1.nms.len c6),by rw[E3,Fj];omega,rfl⟩
   ac_rfl;rw[bx];refine⟨ar,ar,?_⟩;have e3:Ns.map (fun N=>aQ (upC N))=(Ns.map upC).map aQ:=by rw[F4];rfl
   have hU:∀q∈Ns.map upC,Vc c ts bs St q.1 q.2/\∀y∈L0,y∈q.2:=fun q hq=>by
    obtain⟨N,hN,rfl⟩:=Fg.mp hq;exact(hNs N).mp hN
   have ngr:g≠r:=fun e=>by subst e;rw[g2]at fr;cases fr
   have r3':H3 r=some (.lst ((Ns.map upC).map aQ)):=r3.trans (by rw[←e3]);by_cases eM:M=St
   ·refine ay (by simp[eM]) (go r (Ns.map upC) H3 (s2.trans s3) g3 r3' ngr hU (fun z=>?_) (by rw[EW];omega));rw[List.map_eq_nil_iff]at z;exact qX cn nS lS hold (fun N w=>by have:=(hNs N).mpr w;rw[z]at this;cases this) (eM▸la2) (za cn.nms nS lS)
   ·have v2:Vc c ts bs St "lump" M:=⟨nM,fun e=>(by have:=la2.self;rw[e]at this;cases this),eW nM nS (la2.sub x0S) eM,la2.sub x0S,.inl ⟨rfl,x0,x0S,la2⟩⟩;refine aB (by simp[eM]) ⟨ag (by decide),ag (by decide),fun p5 hp5=>⟨_,_,(ao (aC r3 hp5)).trans r3',rfl,ag (by rw[EW,EW];simp;omega),fun p6 hp6=>?_⟩⟩;have ea:(Ns.map upC).map aQ++[PV.tup [.str "lump",.tup (M.map PV.int)]]=(Ns.map upC++[lpC M]).map aQ:=by rw[Fi (l₁:=Ns.map upC)];rfl
    rw[ea];have s5:U.Sub H3 (put H3 p5 (.lst [PV.tup [.str "lump",.tup (M.map PV.int)]])):=(Sub.refl H3).put hp5;have s6:=s5.put (o:=.lst ((Ns.map upC++[lpC M]).map aQ)) (s5.free hp6);refine go p6 (Ns.map upC++[lpC M]) _ ((s2.trans s3).trans s6) (s6 _ _ g3) ai (aC g3 (s5.free hp6)) (fun q hq=>?_) (fun z=>by simp at z) (by rw[E3,EW];simp;omega);rcases E9.mp hq with hq | hq
    ·exact hU q hq
    ·rw[E5]at hq;subst hq;exact⟨v2,cn.into lS la2⟩
 ·exact h.elim
theorem zZ(T:Tx K mg t):aT P w K mg base CX0 1 t.a_zE t.d_zE ["names","stands"] fg:=by
 refine okU (k:=0) T.F_zE Bp (fun vs H Q E h=>by
  unfold fg at h;split at h
  ·rfl
  ·exact h.elim) (fun cdv A outer s H E B hr=>⟨_,(ah (aD (gE (bU d0 eh (aE av a6 rfl T.b_len Fo (aa (qv 0) ab)) (aE av a6 rfl T.b_len Fo (aa (qv 1) ab)) (au _)) (gL (aE (fU rfl) j5 rfl T.b_all boot_all (aa (bI (N2:=["name","stands"]) (nt:=1) (js:=[1]) (ck (sc:=aj uD)) rfl (aX (qv 0)) (fun s0 H0 fp ps=>⟨(ax (i:=0) (show List.Nodup (["name","stands"]:List Str) by decide +kernel) rfl (by eq_refl)),cI,(bU (bB hr.units) bu (qv 0) (qv 1) (by with_unfolding_all rfl))⟩)) ab)))))),?_⟩)
 intro vs H Q E h;unfold fg at h;split at h
 ·rename_i l m;obtain⟨A,B,rfl,rfl,hl,h⟩:=h;ac_rfl;rw[EW,EW];by_cases hlt:A.length<B.length
  ·refine aB (by simpa using hlt) ?_;show ∀acc,H acc=none->_;intro acc hacc;refine aK (onB B) (fun _=>true) (fun σ=>∃z,σ=[z,some (.tup (B.map PV.int))]) (by rw[EW];exact hl) (fun _=>trivial) ?_ ?_ ⟨_,rfl⟩
   ·rintro y hy l σ R ⟨z,rfl⟩ hl kT kF;obtain⟨k,hk,rfl⟩:=Fg.mp hy;ac_rfl;refine⟨ar,?_⟩;simp only[aR];exact⟨hl,by rw[aI];exact kT rfl _ ⟨_,rfl⟩⟩
   rw[jd];refine⟨_,ai.trans rfl,H,Sub.put (Sub.refl _) hacc,h _ ?_⟩;rw[gB];exact⟨fun q=>⟨hlt,q⟩,fun q=>q.2⟩
  ·exact ay (by simpa using hlt) ⟨H,Sub.refl _,h _ ⟨fun q=>(by cases q),fun q=>absurd q.1 hlt⟩⟩
 ·exact h.elim
theorem DO(T:Tx K mg t):aT P w K mg base CX0 3 t.a_zg t.d_zg ["drawing","names","stands"] (eZ t):=by
 refine okU (k:=2) T.F_zg xK (fun vs H Q E h=>by
  unfold eZ at h;split at h
  ·rfl
  ·exact h.elim) (fun cdv A outer s H E B hr=>⟨_,(ae (bK Fx rfl (aX (qv 1)) (ax (i:=3) xK.nd rfl (by eq_refl))
  (ah (aP (cc (aE (lJ rfl) uf rfl T.b_any boot_any (aa (bI (N2:=["source","stands","names"]) (nt:=1) (js:=[2,1]) (ck (sc:=aj wG)) rfl (aX (br (qv 0) T.cl_A T.m_zf (Bt T) (hr.mono (by decide)) T.B_zf (aa (qv 3) ab))) (fun s0 H0 fp ps=>⟨(ax (i:=0) (show List.Nodup (["source","stands","names"]:List Str) by decide +kernel) rfl (by eq_refl)),cI,(gE (bU (bB hr.units) bu (qv 0) (qv 1) (by with_unfolding_all rfl)) (gL (bU (bP hr.units) bu (qv 0) (qv 2) (by with_unfolding_all rfl))))⟩)) ab)))
   (ah (aD cO))
   aG)))
  (ah (aD cO))),?_⟩)
 intro vs H Q E h;unfold eZ at h;split at h
 ·rename_i x l m;obtain⟨c,ts,bs,N,S,⟨dx,hx⟩,ok,rfl,rfl,hN,h⟩:=h;have t15:=ok.gt.len ok.c6;ac_rfl;refine b9 (fun i σ H2=>∃z,σ=[some (.ref x),some (.tup (N.map PV.int)),some (.tup (S.map PV.int)),z]/\U.Sub H H2/\∀v∈N.take i,∀u,(u,v)∈ts->u∈S->u∈N) ?_ ?_ ⟨none,rfl,Sub.refl _,by simp⟩
  ·rintro σ H2 ⟨z,rfl,s2,hs⟩;rw[EW,FW]at hs;exact⟨trivial,H,s2,h true ⟨fun _ u v e hv hu=>hs v hv u e hu,fun _=>rfl⟩⟩
  ·rintro G i y σ H2 hy ⟨z,rfl,s2,hs⟩ kk;refine⟨trivial,?_⟩;obtain⟨hi,e⟩:=E6.mp hy;rw[EW]at hi;rw[FK]at e;subst e;have hm:N[i]∈N:=Ft hi;have tk:N.take (i+1)=N.take i++[N[i]]:=by rw[F6,EY hi];rfl
   generalize N[i]=n at *;have hx2:=s2 _ _ hx;ac_rfl;refine⟨⟨_,_,hx2,rfl⟩,dx,c,ts,bs,hx2,hN.lo n hm,t15,?_⟩;show ∀acc,H2 acc=none->_;intro acc hacc;refine aK (zY S N) (fun _=>true) (fun σ=>∃z,σ=[z,some (.tup (S.map PV.int)),some (.tup (N.map PV.int))]) (by rw[EW,EW];exact FI (Gi _ _) (by omega)) (fun _=>trivial) ?_ ?_ ⟨_,rfl⟩
   ·rintro y hy l σ R ⟨z,rfl⟩ hl kT kF;obtain⟨k,hk,rfl⟩:=Fg.mp hy;have e:zY S N (PV.int k)=.bl (decide (k∈S)&&!decide (k∈N)):=rfl;rw[e]at kT;ac_rfl;refine⟨ar,?_⟩;simp only[aR];refine bC (fun m1=>⟨ar,?_⟩) (fun m1=>⟨hl,by rw[aI];simpa[m1]using kT rfl _ ⟨_,rfl⟩⟩)
    try simp only[aR]
    exact⟨hl,by rw[aI];simpa[m1]using kT rfl _ ⟨_,rfl⟩⟩
   rw[oZ];refine⟨_,ai.trans rfl,?_⟩;have s3:=s2.put (o:=.lst ((((ts.filter fun p=>decide (p.2=n)).map (·.1)).map fun u=>decide (u∈S)&&!decide (u∈N)).map PV.bl)) (s2.free hacc);refine aS (fun q=>⟨H,s3,h false ⟨fun z=>(by cases z),fun sh=>?_⟩⟩) (fun q=>kk _ _ ⟨_,rfl,s3,fun v hv u e hu=>?_⟩)
   ·obtain⟨u,e,hu,nu⟩:=oG.mp q;exact absurd (sh u n e hm hu) nu
   ·rw[tk]at hv;rcases E9.mp hv with hv | hv
    ·exact hs v hv u e hu
    ·rw[E5]at hv;subst hv;apply F5;intro nu;rw[oG.mpr ⟨u,e,hu,nu⟩]at q;cases q
 ·exact h.elim
theorem Dm(T:Tx K mg t):aT P w K mg base CX0 4 t.a_zH t.d_zH ["drawing","stands","names"] (gw t):=by
 refine okU (k:=3) T.F_zH Bu (fun vs H Q E h=>by
  unfold gw at h;split at h
  ·rfl
  ·exact h.elim) (fun cdv A outer s H E B hr=>⟨_,(ae (aP (aY (cL (aq (aM hr.units) aN (aE av a6 rfl T.b_len Fo (aa (qv 2) ab)) af (au _)) (cL (cZ (cc (aw (BI T) (hr.mono (by decide)) rfl T.g_zR T.F_zR.kp T.B_zR (aa (cR (qv 0) T.cl_A T.nfA_count rfl) (aa (qv 2) ab))))) (cw (cZ (cc (aw (zZ T) (hr.mono (by decide)) rfl T.g_zE T.F_zE.kp T.B_zE (aa (qv 2) (aa (qv 1) ab)))))))))
  (ah (aD cO))
  aG)
  (ah (aD (aw (DO T) (hr.mono (by decide)) rfl T.g_zg T.F_zg.kp T.B_zg (aa (qv 0) (aa (qv 2) (aa (qv 1) ab))))))),?_⟩)
 intro vs H Q E h;unfold gw at h;split at h
 ·rename_i x s l;obtain⟨c,ts,bs,S,N,⟨dx,hx⟩,ok,rfl,rfl,hS,hl,h⟩:=h;have no:¬Vc c ts bs S "up" N->∃H0,U.Sub H0 H/\Q (.bl false) H0:=fun nb=>⟨H,Sub.refl _,h false ⟨fun q=>(by cases q),fun q=>absurd q nb⟩⟩;refine ak fun R hR=>?_;ac_rfl;by_cases n0:N=[]
  ·subst n0;exact aB rfl (no fun v=>v.ne rfl)
  refine ay (by simpa using n0) ⟨_,_,_,hx,rfl,N,rfl,fun nN=>?_,fun nn=>no fun v=>nn v.nms⟩;refine⟨N,S,rfl,rfl,hl,fun b1 e1=>aS (fun q=>no fun v=>?_) (fun q=>?_)⟩
  ·rw[e1.mpr ⟨v.lt,v.sub⟩]at q;cases q
  ·obtain⟨f1,f2⟩:=e1.mp (by simpa using q);subst hR;ac_rfl;refine⟨c,ts,bs,N,S,⟨dx,hx⟩,ok,rfl,rfl,nN,fun b2 e2=>⟨H,Sub.refl _,h b2 (e2.trans ⟨fun z=>⟨nN,n0,f1,f2,.inr ⟨rfl,z⟩⟩,fun v=>?_⟩)⟩⟩;rcases v.ok with⟨z,_⟩ |⟨_,z⟩
   ·exact absurd z (by decide)
   ·exact z
 ·exact h.elim
theorem C2(T:Tx K mg t):aT P w K mg base CX0 5 t.a_zv t.d_zv ["drawing","stands","names"] (dM t):=by
 refine okU (k:=4) T.F_zv B6 (fun vs H Q E h=>by
  unfold dM at h;split at h
  ·rfl
  ·exact h.elim) (fun cdv A outer s H E B hr=>⟨_,(ah (aD (gE (bU (bB hr.units) bu (qv 2) (br (qv 0) T.cl_A T.m_zj (wB T) (hr.mono (by decide)) T.B_zj (aa (qv 1) ab)) (by with_unfolding_all rfl)) (gL (aw (zZ T) (hr.mono (by decide)) rfl T.g_zE T.F_zE.kp T.B_zE (aa (qv 2) (aa (qv 1) ab))))))),?_⟩)
 intro vs H Q E h;unfold dM at h;split at h
 ·rename_i x s l;obtain⟨c,ts,bs,S,N,⟨dx,hx⟩,ok,rfl,rfl,hS,hl,h⟩:=h;ac_rfl;refine⟨⟨_,_,hx,rfl⟩,dx,c,ts,bs,S,hx,rfl,hS,⟨ok.c1,ok.c6⟩,ok.gb,fun r Ls hr hLm l6 hM=>?_⟩;have s1:=(Sub.refl H).put (o:=.lst (Ls.map tupI)) hr;refine⟨cG,cm,?_⟩;rw[oP];refine bC (fun q=>?_) (fun q=>⟨H,s1,h false ⟨fun z=>(by cases z),fun v=>?_⟩⟩)
  ·refine⟨N,S,rfl,rfl,hl,fun b1 e1=>⟨H,s1,h b1 (e1.trans ⟨fun z=>?_,fun v=>⟨v.lt,v.sub⟩⟩)⟩⟩;obtain⟨y,hy,la⟩:=(fD hLm).mp q;exact⟨la.nms hS hy,fun e=>(by have:=la.self;rw[e]at this;cases this),z.1,z.2,.inl ⟨rfl,y,hy,la⟩⟩
  ·rcases v.ok with⟨_,z⟩ |⟨z,_⟩
   ·exact absurd ((fD hLm).mpr z) q
   ·exact absurd z (by decide)
 ·exact h.elim
theorem Ds(T:Tx K mg t):aT P w K mg base CX0 6 t.a_zQ t.d_zQ ["drawing","stands","cut"] (fS t):=by
 refine okU (k:=5) T.F_zQ AR (fun vs H Q E h=>by
  unfold fS at h;split at h
  ·rfl
  ·exact h.elim) (fun cdv A outer s H E B hr=>⟨_,(ae (aP (aq (aM hr.units) aN (aJ (qv 2) af (fun _ _=>rfl)) b0 (au _))
  (ah (aD (aw (Dm T) (hr.mono (by decide)) rfl T.g_zH T.F_zH.kp T.B_zH (aa (qv 0) (aa (qv 1) (aa (aJ (qv 2) af (fun _ _=>rfl)) ab))))))
  aG)
  (ae (aP (aq (aM hr.units) aN (aJ (qv 2) af (fun _ _=>rfl)) b0 (au _))
  (ah (aD (aw (C2 T) (hr.mono (by decide)) rfl T.g_zv T.F_zv.kp T.B_zv (aa (qv 0) (aa (qv 1) (aa (aJ (qv 2) af (fun _ _=>rfl)) ab))))))
  aG)
  (ah (aD cO)))),?_⟩)
 intro vs H Q E h;unfold fS at h;split at h
 ·rename_i x s v;obtain⟨c,ts,bs,S,⟨w,N⟩,⟨dx,hx⟩,ok,rfl,rfl,hS,hl,h⟩:=h;have hl':N.length≤1000:=hl;unfold aQ;ac_rfl;by_cases w1:w="up"
  ·subst w1;exact aB rfl ⟨c,ts,bs,S,N,⟨dx,hx⟩,ok,rfl,rfl,hS,hl',fun b e=>⟨H,Sub.refl _,h b e⟩⟩
  ·refine ay (by simpa using w1) ?_;by_cases w2:w="lump"
   ·subst w2;exact aB rfl ⟨c,ts,bs,S,N,⟨dx,hx⟩,ok,rfl,rfl,hS,hl',fun b e=>⟨H,Sub.refl _,h b e⟩⟩
   ·refine ay (by simpa using w2) ⟨H,Sub.refl _,h false ⟨fun z=>(by cases z),fun v=>?_⟩⟩;rcases v.ok with⟨z,_⟩ |⟨z,_⟩
    ·exact absurd z w2
    ·exact absurd z w1
 ·exact h.elim
theorem Ea(T:Tx K mg t):aT P w K mg base CX0 7 t.a_zM t.d_zM ["drawing","lump","cuts"] (e8 t):=by
 refine okU (k:=6) T.F_zM oK (fun vs H Q E h=>by
  unfold e8 at h;split at h
  ·rfl
  ·exact h.elim) (fun cdv A outer s H E B hr=>⟨_,(ae (az (i:=3) oK.nd rfl (by eq_refl) (aw (Bv T) (hr.mono (by decide)) rfl T.g_zA T.F_zA.kp T.B_zA (aa (qv 0) (aa (qv 1) ab))))
  (ae (bK Fx rfl (aX (qv 2)) (ax (i:=4) oK.nd rfl (by eq_refl))
  (ae (aP (cZ (cc (aw (Ds T) (hr.mono (by decide)) rfl T.g_zQ T.F_zQ.kp T.B_zQ (aa (qv 0) (aa (qv 3) (aa (qv 4) ab))))))
   (ah (aD cO))
   aG)
   (ah (az (i:=3) oK.nd rfl (by eq_refl) (aJ (qv 4) af (fun _ _=>rfl))))))
  (ah (aD (bU (aM hr.units) aN (qv 3) (qv 1) (au _)))))),?_⟩)
 intro vs H Q E h;unfold e8 at h;split at h
 ·rename_i x l m;obtain⟨c,ts,bs,x0,R0,cs,⟨dx,hx⟩,ok,rfl,rfl,hx0,lc,lq,h⟩:=h;have xu:=bG.mpr hx0;refine ak fun R hR=>?_;ac_rfl;refine⟨c,ts,bs,x0,R0,⟨dx,hx⟩,ok,rfl,hx0,fun S0 la=>?_⟩;subst hR;have n0:=la.nms gH xu;have no:¬(de c ts bs S0 cs/\stA S0 cs=x0::R0)->∃H0,U.Sub H0 H/\Q (.bl false) H0:=fun nb=>⟨H,Sub.refl _,h false ⟨fun q=>(by cases q),fun q=>absurd (q x0 S0 rfl la) nb⟩⟩;refine ak fun R hR=>?_;ac_rfl;refine b9 (fun j σ H6=>∃u4,σ=[some (.ref x),some (.tup (.int x0::R0.map PV.int)),some (.tup (cs.map aQ)),some (.tup ((stA S0 (cs.take j)).map PV.int)),u4]/\H6=H/\Nms c (stA S0 (cs.take j))/\∀(k:Nat) (p:Cu),k<j->cs[k]?=some p->Vc c ts bs (stA S0 (cs.take k)) p.1 p.2) ?_ ?_ ⟨_,rfl,rfl,n0,fun k p hk=>by omega⟩
  ·rintro σ H6 ⟨u4,rfl,rfl,nS,hv⟩;rw[EW,FW]at *;refine⟨trivial,?_⟩;subst hR;ac_rfl;have run:de c ts bs S0 cs:=fun k p hk=>hv k p (E6.mp hk).1 hk;have e1:PV.int x0::R0.map PV.int=(x0::R0).map PV.int:=rfl;rw[e1,bx];refine⟨ar,ar,H6,Sub.refl _,h _ ?_⟩;rw[FJ];refine⟨fun es z S1 hz la1=>?_,fun q=>(q x0 S0 rfl la).2⟩;have ez:x0=z:=FH hz;rw[←ez]at la1;rw[la1.one la];exact⟨run,es⟩
  ·rintro G' j z σ H6 hz ⟨u4,rfl,rfl,nS,hv⟩ kk';refine⟨trivial,?_⟩;obtain⟨hj,e⟩:=E6.mp hz;rw[EW]at hj;rw[FK]at e;subst e;have hjx:cs[j]?=some cs[j]:=EY hj;have tj:cs.take (j+1)=cs.take j++[cs[j]]:=by rw[F6,hjx];rfl
   have lq':=lq _ (Ft hj);generalize cs[j]=q at *;refine ak fun R3 hR3=>?_;ac_rfl;refine⟨c,ts,bs,stA S0 (cs.take j),q,⟨dx,hx⟩,ok,rfl,rfl,nS,by omega,fun b eb=>aS (fun q1=>no fun z=>?_) (fun q1=>?_)⟩
   ·rw[eb.mpr (z.1 j q hjx)]at q1;cases q1
   ·have v:=eb.mp (by simpa using q1);subst hR3;unfold aQ at *;ac_rfl;refine kk' _ _ ⟨_,by rw[tj,df],rfl,by rw[tj,df];exact v.nms,fun k p hk hp'=>?_⟩;by_cases ek:k=j
    ·subst ek;rw[hjx]at hp';cases hp';exact v
    ·exact hv k p (by omega) hp'
 ·exact h.elim
theorem Ew(T:Tx K mg t):aT P w K mg base CX0 8 t.a_zU t.d_zU ["drawing","question","paper"] (ig t):=by
 refine okU (k:=7) T.F_zU xH (fun vs H Q E h=>by
  unfold ig at h;split at h
  ·rfl
  ·exact h.elim) (fun cdv A outer s H E B hr=>⟨_,(ae (az (i:=3) xH.nd rfl (by eq_refl) (aJ (aw (A5 T) (hr.mono (by decide)) rfl T.g_zS T.F_zS.kp T.B_zS (aa (qv 0) (aa (qv 1) ab))) af (fun _ _=>rfl)))
  (ae (aP (aq (cg hr.units) aN (bI (N2:=["row"]) (nt:=1) (js:=[]) (ck (sc:=aj ri)) rfl (aX (qv 2)) (fun s0 H0 fp ps=>⟨(ax (i:=0) (show List.Nodup (["row"]:List Str) by decide +kernel) rfl (by eq_refl)),cI,(aJ (qv 0) af (fun _ _=>rfl))⟩)) (qv 3) (au _))
  (ah (aD cO))
  aG)
  (ah (aD (aE (fU rfl) j5 rfl T.b_all boot_all (aa (bI (N2:=["row","drawing"]) (nt:=1) (js:=[0]) (ck (sc:=aj ri)) rfl (aX (qv 2)) (fun s0 H0 fp ps=>⟨(ax (i:=0) (show List.Nodup (["row","drawing"]:List Str) by decide +kernel) rfl (by eq_refl)),cI,(aw (Ea T) (hr.mono (by decide)) rfl T.g_zM T.F_zM.kp T.B_zM (aa (qv 1) (aa (aJ (qv 0) af (fun _ _=>rfl)) (aa (aJ (qv 0) af (fun _ _=>rfl)) ab))))⟩)) ab)))))),?_⟩)
 intro vs H Q E h;unfold ig at h;split at h
 ·rename_i x v l;obtain⟨c,ts,bs,A,B,rows,⟨dx,hx⟩,ok,rfl,rfl,hq,lr,lc,h⟩:=h;unfold qV at *;refine ak fun R hR=>?_;ac_rfl;refine⟨c,ts,bs,A,B,rfl,⟨dx,hx⟩,ok,hq,fun W Ls r H2 s2 wn er l6=>?_⟩
  try ac_rfl
  subst hR;have no:∀{H3:PHp},U.Sub H H3->¬Lets c ts bs Ls rows->∃H0,U.Sub H0 H3/\Q (.bl false) H0:=fun s3 nb=>⟨H,s3,h W Ls false wn ⟨fun q=>(by cases q),fun q=>absurd q nb⟩⟩;refine ak fun R hR=>?_;ac_rfl;intro p3 hp3;refine aK yf (fun _=>true) (fun σ=>∃z,σ=[z]) (by rw[EW];omega) (fun _=>trivial) ?_ ?_ ⟨_,rfl⟩
  ·rintro y hy l σ R ⟨z,rfl⟩ hl kT kF;obtain⟨w,hw,rfl⟩:=Fg.mp hy;have ew:bE w=.tup [.tup (w.1.map PV.int),.tup (w.2.map aQ)]:=rfl;have ef:yf (bE w)=.tup (w.1.map PV.int):=rfl;rw[ef]at kT;rw[ew];ac_rfl;exact⟨hl,by rw[aI];exact kT rfl _ ⟨_,rfl⟩⟩
  rw[pj];have s3:=s2.put (o:=.lst ((rows.map (·.1)).map tupI)) (s2.free hp3);refine⟨_,ai,_,(ao (aC er hp3)).trans er,cm,cm,?_⟩;have ed:deq (.fls ((rows.map (·.1)).map tupI)) (.fls (Ls.map tupI))=decide (rows.map (·.1)=Ls):=by rw[deq];exact cY
  rw[ed];generalize put H2 p3 (.lst ((rows.map (·.1)).map tupI))=H3 at *;by_cases em:rows.map (·.1)=Ls
  ·refine ay (by simp[em]) ?_;subst hR;have hx3:=s3 _ _ hx;ac_rfl;show ∀acc,H3 acc=none->_;intro acc hacc;refine sX (fun i σ H4=>∃z bb,σ=[z,some (.ref x)]/\H4=put H3 acc (.lst ((bb:List Bool).map PV.bl))/\bb.length=i/\∀(j:Nat) (b:Bool) (p:Ro),bb[j]?=some b->rows[j]?=some p->(b=true↔lY c ts bs p)) ?_ ?_ ⟨_,[],rfl,rfl,rfl,fun j b p z=>by simp at z⟩
   ·rintro i y σ H4 R hy ⟨z,bb,rfl,rfl,lb,hb⟩ kk;refine⟨trivial,?_⟩;obtain⟨hi,e⟩:=E6.mp hy;rw[EW]at hi;rw[FK]at e;subst e;have hix:rows[i]?=some rows[i]:=EY hi;have hm:rows[i]∈rows:=Ft hi;generalize rows[i]=w at *;obtain⟨L0,cs⟩:=w;have hL:L0∈Ls:=by rw[←em];exact Fg.mpr ⟨_,hm,rfl⟩
    obtain⟨x0,R0,eL⟩:=wn.ne hL;have cn:=wn.cn hL (x0:=x0) (by rw[eL];exact E7);have ew:bE (L0,cs)=.tup [.tup (L0.map PV.int),.tup (cs.map aQ)]:=rfl;rw[ew];ac_rfl;refine⟨c,ts,bs,x0,R0,cs,⟨dx,(ao (aC hx3 hacc)).trans hx3⟩,ok,by rw[eL];rfl,rfl,cn.nms.lo x0 cn.hd,(lc _ hm).1,(lc _ hm).2,fun b eb=>⟨a5 (by rw[EW];omega),?_⟩⟩;rw[aI];refine kk _ _ ⟨_,bb++[b],rfl,by rw[Fi];rfl,by rw[E3,Fj,lb],fun j b2 p hj hp=>?_⟩;rcases Nat.lt_or_ge j bb.length with hjl | hjl
    ·rw[Gd hjl]at hj;exact hb j b2 p hj hp
    ·rw[Gn hjl]at hj;have hz:j - bb.length=0:=by
      cases k:j - bb.length with
      | zero=>rfl
      | succ n=>rw[k]at hj;simp at hj
     rw[hz]at hj;have e2:b=b2:=by simpa using hj
     have ej:j=i:=by omega
     rw[ej,hix]at hp;cases hp;rw[←e2,eb,← eL]
   ·rintro σ H4 ⟨z,bb,rfl,rfl,lb,hb⟩;rw[EW]at lb;have s4:=s3.put (o:=.lst (bb.map PV.bl)) (s3.free hacc);refine⟨trivial,bb,ai,H,s4,h W Ls _ wn ?_⟩;rw[FC];constructor
    ·intro ha;refine⟨em,fun p hp=>?_⟩;obtain⟨j,hj⟩:=List.getElem?_of_mem hp;have jl:=(E6.mp hj).1;have hbj:bb[j]?=some bb[j]:=EY (by omega);exact(hb j _ p hbj hj).mp (by simpa using ha _ (Ft (by omega)))
    ·intro q b hbm;obtain⟨j,hj⟩:=List.getElem?_of_mem hbm;have jl:=(E6.mp hj).1;have hrj:rows[j]?=some rows[j]:=EY (by omega);exact(hb j b _ hj hrj).mpr (q.2 _ (Ft (by omega)))
  ·exact aB (by simp[em]) (no s3 fun q=>em q.1)
 ·exact h.elim
theorem Ay(T:Tx K mg t):aT P w K mg base CX0 1 t.a_zs t.d_zs ["_law_names","_law_number","_law_count"] dI:=by
 refine okU (k:=0) T.F_zs sP (fun vs H Q E h=>by
  unfold dI at h;split at h
  ·rfl
  ·exact h.elim) (fun cdv A outer s H E B hr=>⟨_,(ae (az (i:=3) sP.nd rfl (by eq_refl) (bc (qv 1) af))
  (ae (az (i:=1) sP.nd rfl (by eq_refl) (bz (qv 1) af))
  (ae (aP (aq (aM hr.units) aN (qv 3) af (au _))
  (ah (aD (a7 (qv 0) (bF af) bH)))
  aG)
  (ae (aP (aq (aM hr.units) aN (qv 3) af (au _))
  (ah (aD (aL aF aU rfl T.b_tuple FV (aa (aE fA ja rfl T.b_sorted boot_sorted (aa (mH (aL cv fQ rfl T.b_list boot_list (aa (qv 0) ab)) (aV (aa (bc (qv 1) (qv 2)) ab))) ab)) ab))))
  aG)
  (ae (aP (aq (aM hr.units) aN (qv 3) af (au _))
  (ah (aD (bT (ze rfl rfl T.b_tuple rfl T.b_reversed FV (qv 0)) (ba (aa (eC (bc (qv 1) (cx (qv 2) af)) af) ab)))))
  aG)
  (ae (aP (aq (aM hr.units) aN (qv 3) af (au _))
  (ah (aD (aL aF aU rfl T.b_tuple FV (aa (bI (N2:=["_law_name","_law_number"]) (nt:=1) (js:=[1]) (ck (sc:=aj vS)) rfl (bL rfl T.b_range (aa (qv 2) ab)) (fun s0 H0 fp ps=>⟨(ax (i:=0) (show List.Nodup (["_law_name","_law_number"]:List Str) by decide +kernel) rfl (by eq_refl)),(bh (aq (aM hr.units) aN (bc (fE (qv 1) (qv 0)) af) af (au _))),(qv 0)⟩)) ab))))
  aG)
  (ah (aD (bT (a7 (qv 0) bH (bF (fC af))) (ba (aa (bc (qv 1) (qv 2)) ab))))))))))),?_⟩)
 intro vs H Q E h;unfold dI at h;split at h
 ·rename_i l n c;obtain⟨L,rfl,lL,⟨c1,c6⟩,h⟩:=h;refine ak fun R hR=>?_;ac_rfl;refine⟨by decide,?_⟩;subst hR;refine ak fun R hR=>?_;ac_rfl;refine⟨dv (by decide) (by decide),?_⟩;subst hR;generalize n.fmod 5=w at *;generalize n.fdiv 5=m at *;refine ak fun R hR=>?_;ac_rfl;obtain⟨M1,e1,l1,_⟩:=kc PV.int L (some 1) none;rw[e1];refine aS (fun _=>⟨H,Sub.refl _,h M1 (by omega)⟩) (fun _=>?_);subst hR;refine ak fun R hR=>?_;ac_rfl;refine aS (fun _=>?_) (fun _=>?_)
  ·intro p hp;refine⟨by omega,ag (by decide),fun p1 hp1=>?_⟩;have n1:p≠p1:=fun e=>by subst e;rw[ai]at hp1;cases hp1
   have sa:=(Sub.refl H).put (o:=.lst (L.map PV.int)) hp;have sb:=sa.put (o:=.lst [.int (m.fmod c)]) (sa.free hp1);refine⟨_,_,(ao n1).trans ai,rfl,ag (by rw[EW];simp;omega),fun p2 hp2=>?_⟩;refine⟨L++[m.fmod c],by rw[Fi];rfl,by rw[E3];simp;omega,fun r ms hr pm sm=>?_⟩;have sc:=sb.put (o:=.lst (L.map PV.int++[.int (m.fmod c)])) (sb.free hp2);exact⟨H,sc.put (sc.free hr),h ms (by rw[pm.length_eq,E3];simp)⟩
  subst hR;refine ak fun R hR=>?_;ac_rfl;refine aS (fun _=>⟨by rw[EW];omega,by omega,ag (by decide),ag (by rw[List.length_reverse,EW];simp;omega),H,Sub.refl _,?_⟩) (fun _=>?_)
  ·have e:(L.map PV.int).reverse++[PV.int (m.fmod (c+2) - 1)]=(L.reverse++[m.fmod (c+2) - 1]).map PV.int:=by rw[Fi,List.map_reverse];rfl
   rw[e];exact h _ (by rw[E3,List.length_reverse];simp)
  subst hR;refine ak fun R hR=>?_;ac_rfl;refine aS (fun _=>⟨⟨by omega,by omega⟩,fun acc hacc=>?_⟩) (fun _=>?_)
  ·refine aK (fun y=>y) (onI fun u=>(m / 2 ^ u.toNat).fmod 2==1) (fun σ=>∃z,σ=[z,some (.int m)]) (by rw[fk];omega) (fun _=>trivial) ?_ ?_ ⟨_,rfl⟩
   ·rintro y hy l σ R ⟨z,rfl⟩ hl kT kF;obtain⟨k,rfl,k0⟩:=fj hy;dsimp only[onI]at kT kF;ac_rfl;exact⟨k0,by decide,aS (fun q=>⟨hl,by rw[aI];exact kT q _ ⟨_,rfl⟩⟩) (fun q=>kF q _ ⟨_,rfl⟩)⟩
   rw[dc];refine⟨_,ai,H,(Sub.refl H).put hacc,h _ (FI (Gi _ _) ?_)⟩;rw[EW,Ga];omega
  subst hR;ac_rfl;obtain⟨M2,e2,l2,_⟩:=kc PV.int L none (some (-1));rw[e2];refine⟨by omega,ag (by decide),ag (by rw[EW];simp;omega),H,Sub.refl _,?_⟩;have e:M2.map PV.int++[PV.int (m.fmod c)]=(M2++[m.fmod c]).map PV.int:=by rw[Fi];rfl
  rw[e];exact h _ (by rw[E3];simp;omega)
 ·exact h.elim
theorem Dl(T:Tx K mg t):aT P w K mg base CX0 2 t.a_zi t.d_zi ["_law_paper_here","_law_number","_law_count"] iD:=by
 refine okU (k:=1) T.F_zi cE (fun vs H Q E h=>by
  unfold iD at h;split at h
  ·rfl
  ·exact h.elim) (fun cdv A outer s H E B hr=>⟨_,(ae (aP (aY (cL (aq (aM hr.units) aN (aE av a6 rfl T.b_len Fo (aa (qv 0) ab)) af (au _)) (cw (aq (aM hr.units) aN (bc (qv 1) af) af (au _)))))
  (ae (az (i:=3) cE.nd rfl (by eq_refl) (aV (aa (a7 (qv 0) (bF af) bH) (aa (bT (a7 (qv 0) (bF af) bH) (a7 (qv 0) bH (bF af))) (aa (bT (qv 0) (a7 (qv 0) (bF (fC af)) bH)) (aa (bT (a7 (qv 0) bH (bF af)) (qv 0)) ab))))))
   (ah (aD (aJ (qv 3) (bc (bz (qv 1) af) af) (fun _ _=>rfl)))))
  aG)
  (ae (az (i:=4) cE.nd rfl (by eq_refl) (bc (bz (qv 1) af) (aE av a6 rfl T.b_len Fo (aa (qv 0) ab))))
  (ae (mr (aJ (qv 0) (qv 4) (fun _ _=>rfl)) (d8 (n:=2) rfl (bA (ax (i:=5) cE.nd rfl (by eq_refl)) (bA (ax (i:=6) cE.nd rfl (by eq_refl)) dq))))
  (ae (az (i:=7) cE.nd rfl (by eq_refl) (bc (bz (qv 1) af) af))
  (ae (az (i:=1) cE.nd rfl (by eq_refl) (bz (qv 1) af))
  (ae (az (i:=8) cE.nd rfl (by eq_refl) (bc (qv 1) (cx (aE av a6 rfl T.b_len Fo (aa (qv 6) ab)) af)))
  (ae (aP (aq (aM hr.units) aN (qv 7) af (au _))
  (ah (az (i:=5) cE.nd rfl (by eq_refl) (aw (Ay T) (hr.mono (by decide)) rfl T.g_zs T.F_zs.kp T.B_zs (aa (qv 5) (aa (bz (qv 1) af) (aa (qv 2) ab))))))
  (ah (aP (aq (aM hr.units) aN (qv 7) af (au _))
   (ah (az (i:=6) cE.nd rfl (by eq_refl) (bT (a7 (qv 6) bH (bF (qv 8))) (a7 (qv 6) (bF (cx (qv 8) af)) bH))))
   (ah (aP (aq (aM hr.units) aN (qv 7) af (au _))
    (ae (az (i:=9) cE.nd rfl (by eq_refl) (aL aF aU rfl T.b_tuple FV (aa (bI (N2:=["_law_name","_law_number"]) (nt:=1) (js:=[1]) (ck (sc:=aj wm)) rfl (bL rfl T.b_range (aa (qv 2) ab)) (fun s0 H0 fp ps=>⟨(ax (i:=0) (show List.Nodup (["_law_name","_law_number"]:List Str) by decide +kernel) rfl (by eq_refl)),(bh (aq (aM hr.units) aN (bc (fE (bz (qv 1) af) (qv 0)) af) af (au _))),(qv 0)⟩)) ab)))
     (ae (az (i:=10) cE.nd rfl (by eq_refl) (ba (aa (aJ (aV (aa b0 (aa b0 ab))) (bc (bz (qv 1) (fG af af)) af) (fun _ _=>rfl)) (aa (qv 9) ab))))
     (ah (az (i:=6) cE.nd rfl (by eq_refl) (bT (bT (a7 (qv 6) bH (bF (qv 8))) (ba (aa (qv 10) ab))) (a7 (qv 6) (bF (qv 8)) bH))))))
    (ah (aP (aY (bR (aq (aM hr.units) aN (qv 7) af (au _)) (bN (aq d0 eh (qv 8) (aE av a6 rfl T.b_len Fo (aa (qv 6) ab)) (au _)))))
     (ae (az (i:=10) cE.nd rfl (by eq_refl) (ba (aa (aJ (aV (aa b0 (aa b0 (aa b0 ab)))) (bc (bz (qv 1) af) af) (fun _ _=>rfl)) (aa (aJ (aJ (qv 6) (qv 8) (fun _ _=>rfl)) af (fun _ _=>rfl)) ab))))
      (ah (az (i:=6) cE.nd rfl (by eq_refl) (bT (bT (a7 (qv 6) bH (bF (qv 8))) (ba (aa (qv 10) ab))) (a7 (qv 6) (bF (cx (qv 8) af)) bH)))))
     (ah (aP (aY (bR (aq (aM hr.units) aN (qv 7) af (au _)) (bN (aq d0 eh (qv 8) (aE av a6 rfl T.b_len Fo (aa (qv 6) ab)) (au _)))))
      (ae (az (i:=10) cE.nd rfl (by eq_refl) (ba (aa (aJ (aJ (qv 6) (qv 8) (fun _ _=>rfl)) af (fun _ _=>rfl)) (aa (aw (Ay T) (hr.mono (by decide)) rfl T.g_zs T.F_zs.kp T.B_zs (aa (aJ (aJ (qv 6) (qv 8) (fun _ _=>rfl)) af (fun _ _=>rfl)) (aa (bz (qv 1) af) (aa (qv 2) ab)))) ab))))
       (ah (az (i:=6) cE.nd rfl (by eq_refl) (bT (bT (a7 (qv 6) bH (bF (qv 8))) (ba (aa (qv 10) ab))) (a7 (qv 6) (bF (cx (qv 8) af)) bH)))))
      (ah (az (i:=6) cE.nd rfl (by eq_refl) (bT (qv 6) (a7 (qv 6) (bF (fC af)) bH)))))))))))))
  (ah (aD (bT (bT (a7 (qv 0) bH (bF (qv 4))) (ba (aa (ba (aa (qv 5) (aa (qv 6) ab))) ab))) (a7 (qv 0) (bF (cx (qv 4) af)) bH))))))))))),?_⟩)
 intro vs H Q E h;unfold iD at h;split at h
 ·rename_i l n c;obtain⟨rows,k,rfl,sz,k34,⟨c1,c6⟩,h⟩:=h;have lr:=sz.n;obtain⟨m1,e1,l1,i1⟩:=kc bE rows (some 1) none;obtain⟨m2,e2,l2,i2⟩:=pV bE rows;obtain⟨m3,e3,l3,i3⟩:=lP bE rows;have moreB:∀p,H p=none->eE (atI [PV.tup (m1.map bE),PV.tup (m1.map bE++m2.map bE),PV.tup (rows.map bE++m3.map bE),PV.tup (m2.map bE++rows.map bE)] ((n.fdiv 7).fmod 4)) fun v=>∃H3,U.Sub H3 (put H p (.lst [PV.tup (m1.map bE),PV.tup (m1.map bE++m2.map bE),PV.tup (rows.map bE++m3.map bE),PV.tup (m2.map bE++rows.map bE)]))/\Q v H3:=by
   intro p hp;have bj:=fm (a:=n.fdiv 7) (b:=4) (by decide);have hs:=(Sub.refl H).put (o:=.lst [PV.tup (m1.map bE),PV.tup (m1.map bE++m2.map bE),PV.tup (rows.map bE++m3.map bE),PV.tup (m2.map bE++rows.map bE)]) hp;refine DI bj.1 bj.2 ⟨H,hs,h m1 (sz.sub (by omega) i1)⟩ ⟨H,hs,?_⟩ ⟨H,hs,?_⟩ ⟨H,hs,?_⟩<;>rw[←Fi]
   ·exact h _ (sz.sub (by rw[E3];omega) fun p hp=>(E9.mp hp).elim (i1 p) (i2 p))
   ·exact h _ (sz.sub (by rw[E3];omega) fun p hp=>(E9.mp hp).elim id (i3 p))
   ·exact h _ (sz.sub (by rw[E3];omega) fun p hp=>(E9.mp hp).elim (i2 p) id)
  refine ak fun R hR=>?_;ac_rfl;rw[e1,e2,e3];refine aS (fun _=>⟨ag (by rw[EW,EW];omega),ag (by rw[EW,EW];omega),ag (by rw[EW,EW];omega),ag (by decide),fun p hp=>⟨dv (by decide) (by decide),by decide,moreB p hp⟩⟩) (fun q0=>⟨by decide,aS (fun _=>⟨ag (by rw[EW,EW];omega),ag (by rw[EW,EW];omega),ag (by rw[EW,EW];omega),ag (by decide),fun p hp=>⟨dv (by decide) (by decide),by decide,moreB p hp⟩⟩) (fun _=>?_)⟩);clear moreB e1 e2 e3;have r0:rows.length≠0:=fun e=>by rw[EW,e]at q0;cases q0
  subst hR;refine ak fun R hR=>?_;ac_rfl;refine⟨dv (by decide) (by decide),by rw[EW];omega,?_⟩;rw[EW];subst hR;have bj:=fm (a:=n.fdiv 7) (b:=(rows.length:Nat)) (by omega);obtain⟨j,hj⟩:∃j:Nat,(n.fdiv 7).fmod (rows.length:Nat)=(j:Nat):=⟨((n.fdiv 7).fmod (rows.length:Nat)).toNat,by omega⟩;rw[hj]at bj ⊢;have jl:j<rows.length:=by omega
  refine ak fun R hR=>?_;ac_rfl;rw[fH (by rw[EW];exact jl),FK];have hm:rows[j]∈rows:=Ft jl;generalize rows[j]=w at *;obtain⟨L0,cs⟩:=w;have b1:L0.length≤k:=sz.a _ hm;have b2:cs.length≤k:=sz.b _ hm;have b3:∀q∈cs,q.2.length≤k:=sz.c _ hm;have ew:bE (L0,cs)=.tup [.tup (L0.map PV.int),.tup (cs.map aQ)]:=rfl;rw[ew];ac_rfl;subst hR;refine ak fun R hR=>?_;ac_rfl;refine⟨dv (by decide) (by decide),by decide,?_⟩;subst hR;generalize (n.fdiv 42).fmod 6=wy at *;refine ak fun R hR=>?_;ac_rfl;refine⟨dv (by decide) (by decide),?_⟩;subst hR;generalize n.fdiv 252=n2 at *;refine ak fun R hR=>?_;ac_rfl;rw[EW];refine⟨by omega,?_⟩;subst hR;have bs:=fm (a:=n2) (b:=((cs.length:Nat):Int)+1) (by omega);obtain⟨i,hi⟩:∃i:Nat,n2.fmod (((cs.length:Nat):Int)+1)=(i:Nat):=⟨(n2.fmod (((cs.length:Nat):Int)+1)).toNat,by omega⟩;rw[hi]at bs ⊢;have il:i≤cs.length:=by omega
  refine ak fun R hR=>?_;have fin:∀(L1:List Int) (cs1:List Cu) (u1 u2:Option PV) (H3:PHp),U.Sub H H3->L1.length≤k+6->cs1.length≤k+6->(∀q∈cs1,q.2.length≤k+6) ->
    R { nx:=fun x H=>∃H3,U.Sub H3 H/\Q PV.non H3,rt:=fun v H=>∃H3,U.Sub H3 H/\Q v H3 } [some (.tup (rows.map bE)),some (.int n2),some (.int c),none,some (.int (j:Nat)),some (.tup (L1.map PV.int)),some (.tup (cs1.map aQ)),some (.int wy),some (.int (i:Nat)),u1,u2] H3:=by
   intro L1 cs1 u1 u2 H3 s3 a1 a2 a3;subst hR;ac_rfl;rw[my (by rw[EW];omega),show((j:Nat):Int)+1=((j+1:Nat):Int) by omega,iH];have ef:(rows.map bE).take j++[PV.tup [.tup (L1.map PV.int),.tup (cs1.map aQ)]]++(rows.map bE).drop (j+1)=(rows.take j++[(L1,cs1)]++rows.drop (j+1)).map bE:=by
    rw[Fi,Fi,List.map_take,List.map_drop];rfl
   rw[ef];have lt:=(vD (x:=(L1,cs1)) lr (GZ jl)).2.1;have le:=lt;simp only[E3,FA,FZ,Fj]at le;refine⟨ag (by decide),ag (by decide),ag (by simp only[FA,EW,Fj];omega),ag (by simp only[E3,FA,FZ,EW,Fj];omega),H,s3,h _ ⟨by omega,?_,?_,?_⟩⟩
   ·exact(gv (P:=fun p:Ro=>p.1.length≤k+6) (fun p hp=>FI (sz.a p hp) (by omega)) a1).1
   ·exact(gv (P:=fun p:Ro=>p.2.length≤k+6) (fun p hp=>FI (sz.b p hp) (by omega)) a2).1
   ·exact(gv (P:=fun p:Ro=>∀q∈p.2,q.2.length≤k+6) (fun p hp q hq=>FI (sz.c p hp q hq) (by omega)) a3).1
  have b3':∀q∈cs,q.2.length≤k+6:=fun q hq=>FI (b3 q hq) (by omega);have k1:cC (cs.map aQ) none (some ((i:Nat):Int))=(cs.take i).map aQ:=by rw[my (by rw[EW];exact il),List.map_take]
  have k2:cC (cs.map aQ) (some (((i:Nat):Int)+1)) none=(cs.drop (i+1)).map aQ:=by rw[show((i:Nat):Int)+1=((i+1:Nat):Int) by omega,iH,List.map_drop]
  have k3:cC (cs.map aQ) (some ((i:Nat):Int)) none=(cs.drop i).map aQ:=by rw[iH,List.map_drop]
  obtain⟨m4,e4,l4,i4⟩:=lP aQ cs;have put1:∀(w:Str) (M:List Int) (d:Nat) (u1 u2:Option PV) (H3:PHp),(d=i∨d=i+1)->U.Sub H H3->M.length≤k+6->2≤sizeLine/\1≤sizeLine/\((cs.take i).map aQ).length+1≤sizeLine/\((cs.take i).map aQ++[PV.tup [.str w,.tup (M.map PV.int)]]).length+((cs.drop d).map aQ).length≤sizeLine /\
    R { nx:=fun x H=>∃H3,U.Sub H3 H/\Q PV.non H3,rt:=fun v H=>∃H3,U.Sub H3 H/\Q v H3 } [some (.tup (rows.map bE)),some (.int n2),some (.int c),none,some (.int (j:Nat)),some (.tup (L0.map PV.int)),some (.tup ((cs.take i).map aQ++[PV.tup [.str w,.tup (M.map PV.int)]]++(cs.drop d).map aQ)),some (.int wy),some (.int (i:Nat)),u1,u2] H3:=by
   intro w M d u1 u2 H3 hd s3 lM;have ef:(cs.take i).map aQ++[PV.tup [.str w,.tup (M.map PV.int)]]++(cs.drop d).map aQ=(cs.take i++[(w,M)]++cs.drop d).map aQ:=by rw[Fi,Fi];rfl
   rw[ef];have ln:(cs.take i++[(w,M)]++cs.drop d).length≤k+1:=by
    rcases hd with rfl | rfl
    ·exact(vD b2 il).1
    ·exact(vD b2 il).2.1
   refine⟨ag (by decide),ag (by decide),ag (by simp only[EW,FA];omega),ag (by simp only[E3,EW,FA,FZ,Fj];omega),fin L0 _ u1 u2 H3 s3 (by omega) (by omega) ?_⟩;exact(gv (P:=fun q:Cu=>q.2.length≤k+6) b3' lM).1
  have els:(cs.map aQ).length+(m4.map aQ).length≤sizeLine/\R { nx:=fun x H=>∃H3,U.Sub H3 H/\Q PV.non H3,rt:=fun v H=>∃H3,U.Sub H3 H/\Q v H3 } [some (.tup (rows.map bE)),some (.int n2),some (.int c),none,some (.int (j:Nat)),some (.tup (L0.map PV.int)),some (.tup (cs.map aQ++m4.map aQ)),some (.int wy),some (.int (i:Nat)),none,none] H:=by
   rw[←Fi];exact⟨ag (by rw[EW,EW];omega),fin L0 _ none none H (Sub.refl _) (by omega) (by rw[E3];omega) fun q hq=>(E9.mp hq).elim (b3' q) fun z=>b3' q (i4 q z)⟩
  have at_ci:i<cs.length->∃q∈cs,atI (cs.map aQ) ((i:Nat):Int)=some (.tup [.str q.1,.tup (q.2.map PV.int)]):=fun hi'=>⟨cs[i],Ft hi',by rw[fH (by rw[EW];exact hi'),FK];rfl⟩;ac_rfl;simp only[k1,k2,k3,e4];refine aS (fun _=>⟨dv (by decide) (by decide),L0,rfl,by omega,⟨c1,c6⟩,fun M lM=>fin M cs none none H (Sub.refl _) (by omega) (by omega) b3'⟩) (fun _=>?_);refine aS (fun _=>⟨ag (by simp only[EW,FA,FZ];omega),?_⟩) (fun _=>?_)
  ·rw[←Fi];exact fin L0 _ none none H (Sub.refl _) (by omega) (FI (vD (x:=upC []) b2 il).2.2 (by omega)) (gv (x:=upC []) (P:=fun q:Cu=>q.2.length≤k+6) b3' (Gb _)).2
  refine aS (fun _=>⟨⟨by omega,by omega⟩,fun acc hacc=>?_⟩) (fun _=>?_)
  ·refine aK (fun y=>y) (onI fun u=>((n2.fdiv 8) / 2 ^ u.toNat).fmod 2==1) (fun σ=>∃z,σ=[z,some (.int n2)]) (by rw[fk];omega) (fun _=>trivial) ?_ ?_ ⟨_,rfl⟩
   ·rintro y hy l σ R ⟨z,rfl⟩ hl kT kF;obtain⟨u,rfl,u0⟩:=fj hy;dsimp only[onI]at kT kF;ac_rfl;exact⟨dv (by decide) (by decide),u0,by decide,aS (fun q=>⟨hl,by rw[aI];exact kT q _ ⟨_,rfl⟩⟩) (fun q=>kF q _ ⟨_,rfl⟩)⟩
   rw[dc];have lM:(((List.range c.toNat).map fun k=>((k:Nat):Int)).filter fun u=>((n2.fdiv 8) / 2 ^ u.toNat).fmod 2==1).length≤k+6:=FI (Gi _ _) (by rw[EW,Ga];omega);generalize ((List.range c.toNat).map fun k=>((k:Nat):Int)).filter (fun u=>((n2.fdiv 8) / 2 ^ u.toNat).fmod 2==1)=M at *;have sM:=(Sub.refl H).put (o:=.lst (M.map PV.int)) hacc;have bw:=fm (a:=n2.fdiv (10 ^ Int.toNat 4)) (b:=2) (by decide);refine⟨_,ai,ag (by decide),fun p hp=>⟨⟨by decide,by decide,by decide⟩,⟨by decide +kernel,(show My.BN 64 _ by unfold My.BN;decide +kernel).fit (by decide)⟩,by decide,DY bw.1 bw.2 ?_ ?_⟩⟩
   ·exact put1 _ M i _ _ _ (.inl rfl) (sM.put (sM.free hp)) lM
   ·exact put1 _ M i _ _ _ (.inl rfl) (sM.put (sM.free hp)) lM
  refine aS (fun _=>?_) (fun _=>?_)
  ·by_cases i2:i<cs.length
   ·refine aB (by rw[EW];simp;omega) ⟨ag (by decide),fun p hp=>⟨dv (by decide) (by decide),by decide,?_⟩⟩;obtain⟨q,hq,ci⟩:=at_ci i2;rw[ci];have bw:=fm (a:=n2.fdiv 8) (b:=3) (by decide);have sp:=(Sub.refl H).put (o:=.lst [PV.str "lump",PV.str "up",PV.str "ups"]) hp;have lM:q.2.length≤k+6:=by have:=b3 q hq;omega
    exact CW bw.1 bw.2 (put1 _ q.2 (i+1) none _ _ (.inr rfl) sp lM) (put1 _ q.2 (i+1) none _ _ (.inr rfl) sp lM) (put1 _ q.2 (i+1) none _ _ (.inr rfl) sp lM)
   ·refine ay (by rw[EW];simp;omega) ?_;refine aS (fun _=>?_) (fun _=>els);by_cases i2:i<cs.length
    ·refine aB (by rw[EW];simp;omega) ?_;obtain⟨q,hq,ci⟩:=at_ci i2;rw[ci];ac_rfl;exact⟨dv (by decide) (by decide),q.2,rfl,(by have:=b3 q hq;omega),⟨c1,c6⟩,fun M lM=>put1 q.1 M (i+1) none _ H (.inr rfl) (Sub.refl _) (by have:=b3 q hq;omega)⟩
    ·exact ay (by rw[EW];simp;omega) els
  ·refine aS (fun _=>?_) (fun _=>els);by_cases i2:i<cs.length
   ·refine aB (by rw[EW];simp;omega) ?_;obtain⟨q,hq,ci⟩:=at_ci i2;rw[ci];ac_rfl;exact⟨dv (by decide) (by decide),q.2,rfl,(by have:=b3 q hq;omega),⟨c1,c6⟩,fun M lM=>put1 q.1 M (i+1) none _ H (.inr rfl) (Sub.refl _) (by have:=b3 q hq;omega)⟩
   ·exact ay (by rw[EW];simp;omega) els
 ·exact h.elim
theorem B2(T:Tx K mg t):aT P w K mg base CX0 5 t.a_zb t.d_zb ["drawing","names"] (ip t):=by
 refine okU (k:=4) T.F_zb BJ (fun vs H Q E h=>by
  unfold ip at h;split at h
  ·rfl
  ·exact h.elim) (fun cdv A outer s H E B hr=>⟨_,(ah (aD (bU (aM hr.units) aN (br (qv 0) T.cl_A T.m_zj (wB T) (hr.mono (by decide)) T.B_zj (aa (qv 1) ab)) (aV (aa (qv 1) ab)) (au _)))),?_⟩)
 intro vs H Q E h;unfold ip at h;split at h
 ·rename_i x l;obtain⟨c,ts,bs,L,⟨dx,hx⟩,rfl,ok,hL,h⟩:=h;ac_rfl;refine⟨⟨_,_,hx,rfl⟩,dx,c,ts,bs,L,hx,rfl,hL,⟨ok.c1,ok.c6⟩,ok.gb,fun r Ls hr hLm l6 hM=>?_⟩;refine⟨ag (by decide),fun p hp=>?_⟩;have s1:=(Sub.refl H).put (o:=.lst (Ls.map tupI)) hr;have n1:r≠p:=fun e=>by subst e;rw[ai]at hp;cases hp
  refine⟨_,(ao n1).trans ai,cm,?_⟩;have e1:[PV.tup (L.map PV.int)]=[L].map tupI:=rfl;rw[e1,cY];refine⟨cG,H,s1.put (s1.free hp),h _ ?_⟩;rw[FJ];exact⟨fun e=>e▸hLm,fun q=>hLm.one q⟩
 ·exact h.elim
theorem EB(T:Tx K mg t):aT P w K mg base CX0 7 t.a_zV t.d_zV ["drawing","question","inner","outer"] (iy t):=by
 refine okU (k:=6) T.F_zV xQ (fun vs H Q E h=>by
  unfold iy at h;split at h
  ·rfl
  ·exact h.elim) (fun cdv A outer s H E B hr=>⟨_,(ae (a0 (aw (Cm T) (hr.mono (by decide)) rfl T.g_zF T.F_zF.kp T.B_zF (aa (qv 0) (aa (aV (aa (qv 2) (aa (qv 3) ab))) ab))))
  (ae (az (i:=4) xQ.nd rfl (by eq_refl) (aw (Ax T) (hr.mono (by decide)) rfl T.g_zn T.F_zn.kp T.B_zn (aa (qv 0) (aa (qv 1) ab))))
  (ae (aP (aY (cL (aq (aM hr.units) aN (aE av a6 rfl T.b_len Fo (aa (qv 2) ab)) af (au _)) (cw (cZ (cc (aE (fU rfl) j5 rfl T.b_all boot_all (aa (bI (N2:=["name","wished"]) (nt:=1) (js:=[4]) (ck (sc:=aj sZ)) rfl (aX (qv 2)) (fun s0 H0 fp ps=>⟨(ax (i:=0) (show List.Nodup (["name","wished"]:List Str) by decide +kernel) rfl (by eq_refl)),cI,(bU (bB hr.units) bu (qv 0) (qv 1) (by with_unfolding_all rfl))⟩)) ab)))))))
  (ah (aD cO))
  aG)
  (ae (aP (aY (cL (cZ (cc (aw (B2 T) (hr.mono (by decide)) rfl T.g_zb T.F_zb.kp T.B_zb (aa (qv 0) (aa (qv 2) ab))))) (cw (cZ (cc (aw (B2 T) (hr.mono (by decide)) rfl T.g_zb T.F_zb.kp T.B_zb (aa (qv 0) (aa (qv 3) ab))))))))
  (ah (aD cO))
  aG)
  (ae (aP (aY (cL (cZ (cc (aw (zZ T) (hr.mono (by decide)) rfl T.g_zE T.F_zE.kp T.B_zE (aa (qv 2) (aa (qv 3) ab))))) (cw (aq (cg hr.units) aN (br (br (qv 0) T.cl_A T.m_zr (uQ T) (hr.mono (by decide)) T.B_zr (aa (qv 3) ab)) T.cl_A T.m_zc (vG T) (hr.mono (by decide)) T.B_zc (aa (qv 2) ab)) (qv 3) (au _)))))
  (ah (aD cO))
  aG)
  (ah (aD (aE (lJ rfl) uf rfl T.b_any boot_any (aa (bI (N2:=["name","question"]) (nt:=1) (js:=[1]) (ck (sc:=aj sZ)) rfl (aX (qv 3)) (fun s0 H0 fp ps=>⟨(ax (i:=0) (show List.Nodup (["name","question"]:List Str) by decide +kernel) rfl (by eq_refl)),cI,(bU (bB hr.units) bu (qv 0) (aJ (qv 1) af (fun _ _=>rfl)) (by with_unfolding_all rfl))⟩)) ab))))))))),?_⟩)
 intro vs H Q E h;unfold iy at h;split at h
 ·rename_i x v l m;obtain⟨c,ts,bs,A,B,I,O,rfl,rfl,rfl,⟨dx,hx⟩,ok,hq,hI,hO,h⟩:=h;have c1:=ok.c1;have c6:=ok.c6;have lI:=hI.len c6;have lO:=hO.len c6;unfold qV at *;refine ak fun R hR=>?_;ac_rfl;refine⟨ag (by decide),fun p hp=>⟨c,ts,I,O,⟨dx,bs,(ao (aC hx hp)).trans hx⟩,rfl,hI,hO,?_⟩⟩;subst hR;have s1:=(Sub.refl H).put (o:=.lst [.tup (I.map PV.int),.tup (O.map PV.int)]) hp;have hx1:=s1 _ _ hx;generalize put H p (.lst [.tup (I.map PV.int),.tup (O.map PV.int)])=H1 at *;refine ak fun R hR=>?_;ac_rfl;refine⟨c,ts,bs,A,B,rfl,⟨dx,hx1⟩,ok,hq,fun W up iff=>?_⟩;subst hR;have no:∀{H2:PHp},U.Sub H1 H2->¬d7 c ts bs A B I O->∃H0,U.Sub H0 H2/\Q (.bl false) H0:=fun s2 nb=>⟨H,s1.trans s2,h false ⟨fun q=>(by cases q),fun q=>absurd q nb⟩⟩;refine ak fun R hR=>?_;ac_rfl;by_cases hI0:I=[]
  ·subst hI0;refine aB rfl (no (Sub.refl _) fun q=>q.ne rfl)
  refine ay (by simpa using hI0) ?_;show ∀acc,H1 acc=none->_;intro p2 hp2;refine aK (onB W) (fun _=>true) (fun σ=>∃z,σ=[z,some (.tup (W.map PV.int))]) (by rw[EW];omega) (fun _=>trivial) ?_ ?_ ⟨_,rfl⟩
  ·rintro y hy l σ R ⟨z,rfl⟩ hl kT kF;obtain⟨k,hk,rfl⟩:=Fg.mp hy;ac_rfl;refine⟨ar,?_⟩;simp only[aR];exact⟨hl,by rw[aI];exact kT rfl _ ⟨_,rfl⟩⟩
  rw[jd];refine⟨_,ai.trans rfl,?_⟩;have s2:=(Sub.refl H1).put (o:=.lst ((I.map fun x=>decide (x∈W)).map PV.bl)) hp2;have hx2:=s2 _ _ hx1;generalize put H1 p2 (.lst ((I.map fun x=>decide (x∈W)).map PV.bl))=H2 at *;by_cases hw:∀x∈I,x∈W
  ·refine ay (by rw[gB.mpr hw];rfl) ?_;subst hR;refine ak fun R hR=>?_;ac_rfl;refine⟨c,ts,bs,I,⟨dx,hx2⟩,rfl,ok,hI,fun b1 e1=>?_⟩;refine aS (fun q1=>no s2 fun z=>?_) (fun q1=>⟨c,ts,bs,O,⟨dx,hx2⟩,rfl,ok,hO,fun b2 e2=>aS (fun q2=>no s2 fun z=>?_) (fun q2=>?_)⟩)
   ·rw[e1.mpr z.li]at q1;cases q1
   ·rw[e2.mpr z.lo]at q2;cases q2
   have f1:=e1.mp (by simpa using q1);have f2:=e2.mp (by simpa using q2);subst hR;refine ak fun R hR=>?_;ac_rfl;refine⟨I,O,rfl,rfl,by omega,fun b3 e3=>?_⟩;refine aS (fun q3=>no s2 fun z=>?_) (fun q3=>?_)
   ·have lt:I.length<O.length:=by
     have h1:=sub_len I O hI.nd z.sub;rcases Nat.lt_or_ge I.length O.length with h2 | h2
     ·exact h2
     ·exact absurd (kj hI.up hO.up z.sub h2) z.io
    rw[e3.mpr ⟨lt,z.sub⟩]at q3;cases q3
   obtain⟨f3,f4⟩:=e3.mp (by simpa using q3);have ok2:=ok.filter (FT 0 O) (FB 0 O);refine⟨⟨_,_,hx2,rfl⟩,c,ts,bs,O,⟨dx,hx2⟩,rfl,ok,hO,fun y H3 s3 ⟨dy,hy⟩=>?_⟩;refine⟨⟨_,_,hy,rfl⟩,c,_,I,⟨_,_,hy⟩,rfl,hI,⟨c1,c6⟩,ok2.gt,fun M up2' iff2=>?_⟩;have hx3:=s3 _ _ hx2;rw[bx];refine⟨ar,ar,aS (fun q4=>no (s2.trans s3) fun z=>?_) (fun q4=>?_)⟩
   ·have e:M=O:=My.bS up2' hO.up fun y=>(iff2 y).trans (z.anc y).symm;subst e;simp at q4
   have eM:M=O:=by simpa using q4
   subst hR;ac_rfl;show ∀acc,H3 acc=none->_;intro p3 hp3;refine aK (onB A) (fun _=>true) (fun σ=>∃z,σ=[z,some (.tup [.tup (A.map PV.int),.tup (B.map PV.int)])]) (by rw[EW];omega) (fun _=>trivial) ?_ ?_ ⟨_,rfl⟩
   ·rintro y hy l σ R ⟨z,rfl⟩ hl kT kF;obtain⟨k,hk,rfl⟩:=Fg.mp hy;ac_rfl;refine⟨ar,?_⟩;simp only[aR];exact⟨hl,by rw[aI];exact kT rfl _ ⟨_,rfl⟩⟩
   rw[jd];have s4:=(Sub.refl H3).put (o:=.lst ((O.map fun x=>decide (x∈A)).map PV.bl)) hp3;refine⟨_,ai.trans rfl,H,((s1.trans s2).trans s3).trans s4,h _ ?_⟩;rw[yQ];refine⟨fun z=>⟨hI0,fun x hx=>(iff x).mp (hw x hx),f1,f2,fun e=>?_,f4,fun y=>eM▸iff2 y,z⟩,fun z=>z.set⟩;rw[e]at f3;omega
  ·refine aB (by cases q:(I.map fun x=>decide (x∈W)).all id with | true=>exact absurd (gB.mp q) hw | false=>rfl) (no s2 fun q=>hw fun x hx=>(iff x).mpr (q.want x hx))
 ·exact h.elim
theorem DP(T:Tx K mg t):aT P w K mg base CX0 3 t.a_zJ t.d_zJ ["_law_shape","_law_question_here","_law_inner","_law_outer"] gx:=by
 refine okU (k:=2) T.F_zJ tL (fun vs H Q E h=>by
  unfold gx at h;split at h
  ·rfl
  ·exact h.elim) (fun cdv A outer s H E B hr=>⟨_,(ae (az (i:=4) tL.nd rfl (by eq_refl) (aw (Bn T) (hr.mono (by decide)) rfl T.g_zB T.F_zB.kp T.B_zB (aa (qv 0) (aa (qv 1) ab))))
  (ae (aP (aY (cL (aq (aM hr.units) aN (aE av a6 rfl T.b_len Fo (aa (qv 2) ab)) af (au _)) (cw (aq (aM hr.units) aN (qv 2) (qv 3) (au _)))))
  (ah (aD cO))
  aG)
  (ae (aP (aq (cg hr.units) aN (bI (N2:=["_law_name","_law_names","_law_outer"]) (nt:=1) (js:=[4,3]) (ck (sc:=aj uk)) rfl (aX (qv 2)) (fun s0 H0 fp ps=>⟨(ax (i:=0) (show List.Nodup (["_law_name","_law_names","_law_outer"]:List Str) by decide +kernel) rfl (by eq_refl)),(bh (aY (cL (aq (bP hr.units) bu (qv 0) (qv 1) (by with_unfolding_all rfl)) (cw (aq (bP hr.units) bu (qv 0) (qv 2) (by with_unfolding_all rfl)))))),(qv 0)⟩)) (aV ab) (au _))
  (ah (aD cO))
  aG)
  (ae (aP (aY (cL (aq (cg hr.units) aN (aw (p0 T) (hr.mono (by decide)) rfl T.g_zC T.F_zC.kp T.B_zC (aa (qv 0) (aa (qv 2) ab))) (aV (aa (qv 2) ab)) (au _)) (cw (aq (cg hr.units) aN (aw (p0 T) (hr.mono (by decide)) rfl T.g_zC T.F_zC.kp T.B_zC (aa (qv 0) (aa (qv 3) ab))) (aV (aa (qv 3) ab)) (au _)))))
  (ah (aD cO))
  aG)
  (ae (b8 (i:=5) tL.nd rfl (by eq_refl) (N2:=["_law_name","_law_question_here"]) (nt:=1) (js:=[1]) (ck (sc:=aj uk)) rfl (aX (qv 3)) (fun s0 H0 fp ps=>⟨(ax (i:=0) (show List.Nodup (["_law_name","_law_question_here"]:List Str) by decide +kernel) rfl (by eq_refl)),(bh (aq (bB hr.units) bu (qv 0) (aJ (qv 1) af (fun _ _=>rfl)) (by with_unfolding_all rfl))),(qv 0)⟩))
  (ah (aD (gE (bU (cg hr.units) aN (qv 5) (aV ab) (au _)) (gL (bU (aM hr.units) aN (aw (BK T) (hr.mono (by decide)) rfl T.g_zI T.F_zI.kp T.B_zI (aa (qv 0) (aa (qv 3) (aa (qv 2) ab)))) (qv 3) (au _))))))))))),?_⟩)
 intro vs H Q E h;unfold gx at h;split at h
 ·rename_i a v l m;obtain⟨c,ts,bs,A,B,I,O,rfl,rfl,rfl,hs,ok,hq,hI,hO,h⟩:=h;have c1:=ok.c1;have c6:=ok.c6;have lI:=hI.len c6;have lO:=hO.len c6;unfold qV at *;refine ak fun R hR=>?_;ac_rfl;refine⟨c,ts,bs,A,B,hs,ok,rfl,hq,fun W up iff=>?_⟩;subst hR;have no:∀{H2:PHp},U.Sub H H2->¬d7 c ts bs A B I O->∃H0,U.Sub H0 H2/\Q (.bl false) H0:=fun s2 nb=>⟨H,s2,h false ⟨fun q=>(by cases q),fun q=>absurd q nb⟩⟩;refine ak fun R hR=>?_;ac_rfl;by_cases hI0:I=[]
  ·subst hI0;exact aB rfl (no (Sub.refl _) fun q=>q.ne rfl)
  refine ay (by simpa using hI0) ?_;rw[bx];refine⟨ar,ar,bC (fun e=>no (Sub.refl _) fun q=>q.io e) (fun io=>?_)⟩;subst hR;refine ak fun R hR=>?_;ac_rfl;intro p1 hp1;refine aK (fun y=>y) (onI fun y=>!decide (y∈W)||!decide (y∈O)) (fun σ=>∃z,σ=[z,some (.tup (W.map PV.int)),some (.tup (O.map PV.int))]) (by rw[EW];omega) (fun _=>trivial) ?_ ?_ ⟨_,rfl⟩
  ·rintro y hy l σ R ⟨z,rfl⟩ hl kT kF;obtain⟨k,hk,rfl⟩:=Fg.mp hy;have e:onI (fun y=>!decide (y∈W)||!decide (y∈O)) (PV.int k)=(!decide (k∈W)||!decide (k∈O)):=rfl;rw[e]at kT kF;ac_rfl;refine⟨ar,?_⟩;simp only[aR];by_cases m:k∈W
   ·refine ay (by simp[m]) ⟨ar,?_⟩
    try simp only[aR]
    by_cases m2:k∈O
    ·exact ay (by simp[m2]) (kF (by simp[m,m2]) _ ⟨_,rfl⟩)
    ·exact aB (by simp[m2]) ⟨hl,by rw[aI];exact kT (by simp[m,m2]) _ ⟨_,rfl⟩⟩
   ·exact aB (by simp[m]) ⟨hl,by rw[aI];exact kT (by simp[m]) _ ⟨_,rfl⟩⟩
  rw[bD];have s1:=(Sub.refl H).put (o:=.lst ((I.filter fun y=>!decide (y∈W)||!decide (y∈O)).map PV.int)) hp1;refine⟨ag (by decide),fun p2 hp2=>?_⟩;have n12:p1≠p2:=fun e=>by subst e;rw[ai]at hp2;cases hp2
  have s2:=s1.put (o:=.lst []) (s1.free hp2);refine⟨_,(ao n12).trans ai,ar,?_⟩;have ed:deq (.fls ((I.filter fun y=>!decide (y∈W)||!decide (y∈O)).map PV.int)) (.fls [])=decide ((I.filter fun y=>!decide (y∈W)||!decide (y∈O))=[]):=by rw[deq];exact dC
  rw[ed];have ek:(I.filter (fun y=>!decide (y∈W)||!decide (y∈O))=[])↔∀x∈I,x∈W/\x∈O:=by
   rw[Gr];exact⟨fun z x hx=>by simpa using z x hx,fun z x hx=>by simpa using z x hx⟩
  generalize put (put H p1 _) p2 _=H2 at *;by_cases hk:I.filter (fun y=>!decide (y∈W)||!decide (y∈O))=[]
  ·refine ay (by simp[hk]) ?_;have hk2:=ek.mp hk;clear ed ek hk;have hs2:=hs.up s2;subst hR;refine ak fun R hR=>?_;ac_rfl;refine⟨c,ts,bs,I,hs2,ok,.inl rfl,hI,fun r Ls H3 s3 er hLm _=>⟨ag (by decide),fun p3 hp3=>⟨_,(ao (aC er hp3)).trans er,cm,?_⟩⟩⟩;have e1:∀M:List Int,[PV.tup (M.map PV.int)]=[M].map tupI:=fun M=>rfl;rw[e1 I,cY];have s4:=(s2.trans s3).put (o:=.lst ([I].map tupI)) ((s2.trans s3).free hp3);generalize put H3 p3 (.lst ([I].map tupI))=H4 at *;refine⟨cG,?_⟩;by_cases f1:Ls=[I]
   ·refine ay (by simp[f1]) ?_;rw[f1]at hLm;refine⟨c,ts,bs,O,hs.up s4,ok,.inl rfl,hO,fun r2 Ls2 H5 s5 er2 hLm2 _=>⟨ag (by decide),fun p5 hp5=>⟨_,(ao (aC er2 hp5)).trans er2,cm,?_⟩⟩⟩;rw[e1 O,cY];have s6:=(s4.trans s5).put (o:=.lst ([O].map tupI)) ((s4.trans s5).free hp5);generalize put H5 p5 (.lst ([O].map tupI))=H6 at *;refine⟨cG,?_⟩;by_cases f2:Ls2=[O]
    ·refine ay (by simp[f2]) ?_;rw[f2]at hLm2;subst hR;refine ak fun R hR=>?_;ac_rfl;intro p7 hp7;refine aK (fun y=>y) (onI fun y=>decide (y∈A)) (fun σ=>∃z,σ=[z,some (.tup [.tup (A.map PV.int),.tup (B.map PV.int)])]) (by rw[EW];omega) (fun _=>trivial) ?_ ?_ ⟨_,rfl⟩
     ·rintro y hy l σ R ⟨z,rfl⟩ hl kT kF;obtain⟨k,hk,rfl⟩:=Fg.mp hy;have e:onI (fun y=>decide (y∈A)) (PV.int k)=decide (k∈A):=rfl;rw[e]at kT kF;ac_rfl;refine⟨ar,?_⟩;simp only[aR];refine bC (fun m=>⟨hl,by rw[aI];exact kT (by simp[m]) _ ⟨_,rfl⟩⟩) (fun m=>kF (by simp[m]) _ ⟨_,rfl⟩)
     rw[bD];subst hR;have s7:=s6.put (o:=.lst ((O.filter fun y=>decide (y∈A)).map PV.int)) (s6.free hp7);have i7:put H6 p7 (.lst ((O.filter fun y=>decide (y∈A)).map PV.int)) p7=some (.lst ((O.filter fun y=>decide (y∈A)).map PV.int)):=ai;generalize put H6 p7 (.lst ((O.filter fun y=>decide (y∈A)).map PV.int))=H7 at *;ac_rfl;refine⟨ag (by decide),fun p8 hp8=>⟨_,(ao (aC i7 hp8)).trans i7,ar,?_⟩⟩;rw[dC];have s8:=s7.put (o:=.lst []) (s7.free hp8);generalize put H7 p8 (.lst [])=H8 at *;by_cases f3:O.filter (fun y=>decide (y∈A))=[]
     ·refine ay (by simp[f3]) ⟨H,s8,h false ⟨fun q=>(by cases q),fun q=>?_⟩⟩;obtain⟨x,hx,hxA⟩:=q.set;rw[Gr]at f3;exact absurd (FO hxA) (f3 x hx)
     ·refine aB (by simp[f3]) ?_;refine⟨c,ts,bs,O,I,hs.up s8,ok,.inl rfl,rfl,hO,hI.nd,fun x hx=>(hk2 x hx).2,fun M ⟨up2',iff2⟩=>?_⟩;rw[bx];refine⟨ar,ar,H,s8,h _ ?_⟩;rw[FJ];constructor
      ·intro e;refine⟨hI0,fun x hx=>(iff x).mp (hk2 x hx).1,hLm,hLm2,io,fun x hx=>(hk2 x hx).2,fun y=>e▸iff2 y,?_⟩;obtain⟨x,hx⟩:=List.exists_mem_of_ne_nil _ f3;have q:=Fq.mp hx;exact⟨x,q.1,Gk q.2⟩
      ·intro z;exact My.bS up2' hO.up fun y=>(iff2 y).trans (z.anc y).symm
    ·exact aB (by simp[f2]) (no s6 fun q=>f2 (hLm2.one q.lo))
   ·exact aB (by simp[f1]) (no s4 fun q=>f1 (hLm.one q.li))
  ·exact aB (by simp[hk]) (no s2 fun q=>hk (ek.mpr fun x hx=>⟨(iff x).mpr (q.want x hx),q.sub x hx⟩))
 ·exact h.elim
theorem DD(T:Tx K mg t):aT P w K mg base CX0 4 t.a_zG t.d_zG ["_law_shape","_law_question_here"] gk:=by
 refine okU (k:=3) T.F_zG jF (fun vs H Q E h=>by
  unfold gk at h;split at h
  ·rfl
  ·exact h.elim) (fun cdv A outer s H E B hr=>⟨_,(ae (az (i:=2) jF.nd rfl (by eq_refl) (aV ab))
  (ae (bK Fx rfl (bL rfl T.b_range (aa (mF af (aJ (qv 0) af (fun _ _=>rfl))) ab)) (ax (i:=3) jF.nd rfl (by eq_refl))
  (ae (az (i:=4) jF.nd rfl (by eq_refl) (aL aF aU rfl T.b_tuple FV (aa (bI (N2:=["_law_name","_law_bits"]) (nt:=1) (js:=[3]) (ck (sc:=aj ug)) rfl (bL rfl T.b_range (aa (aJ (qv 0) af (fun _ _=>rfl)) ab)) (fun s0 H0 fp ps=>⟨(ax (i:=0) (show List.Nodup (["_law_name","_law_bits"]:List Str) by decide +kernel) rfl (by eq_refl)),(bh (aq (aM hr.units) aN (bc (fE (qv 1) (qv 0)) af) af (au _))),(qv 0)⟩)) ab)))
   (ah (aP (aY (bR (aq gP gX (aE av a6 rfl T.b_len Fo (aa (qv 4) ab)) af (au _)) (bN (aq (aM hr.units) aN (aw (p0 T) (hr.mono (by decide)) rfl T.g_zC T.F_zC.kp T.B_zC (aa (qv 0) (aa (qv 4) ab))) (aV (aa (qv 4) ab)) (au _)))))
   (ah (bK Fx rfl (qa rfl T.b_range (aa af (aa (mF af (aE av a6 rfl T.b_len Fo (aa (qv 4) ab))) ab))) (ax (i:=5) jF.nd rfl (by eq_refl))
    (ae (az (i:=6) jF.nd rfl (by eq_refl) (aL aF aU rfl T.b_tuple FV (aa (kJ (N2:=["_law_k","_law_name","_law_less"]) (nt:=2) (js:=[5]) (ck (sc:=aj ug)) rfl (xI rfl T.b_enumerate (aa (qv 4) ab)) (fun s0 H0 fp ps=>⟨(d8 (n:=2) rfl (bA (ax (i:=0) (show List.Nodup (["_law_k","_law_name","_law_less"]:List Str) by decide +kernel) rfl (by eq_refl)) (bA (ax (i:=1) (show List.Nodup (["_law_k","_law_name","_law_less"]:List Str) by decide +kernel) rfl (by eq_refl)) dq))),(bh (aq (aM hr.units) aN (bc (fE (qv 2) (qv 0)) af) af (au _))),(qv 1)⟩)) ab)))
     (ah (aP (cc (aw (DP T) (hr.mono (by decide)) rfl T.g_zJ T.F_zJ.kp T.B_zJ (aa (qv 0) (aa (qv 1) (aa (qv 6) (aa (qv 4) ab))))))
     (ah (a0 (cA Fu Fv a9 bg (qv 2) (aa (ba (aa (qv 6) (aa (qv 4) ab))) ab))))
     aG)))))
   aG))))
  (ah (aD (qv 2))))),?_⟩)
 intro vs H Q E h;unfold gk at h;split at h
 ·rename_i a v;obtain⟨c,ts,bs,A,B,rfl,hs,ok,c5,hq,h⟩:=h;have c1:=ok.c1;unfold qV at *;obtain⟨q1,q2,e1,e2,e3⟩:=id hs;refine ak fun R hR=>?_;ac_rfl;refine⟨ag (by decide),fun g hg=>?_⟩;subst hR;refine ak fun R hR=>?_;ac_rfl;refine⟨_,(ao (aC e1 hg)).trans e1,?_⟩;rw[d4];ac_rfl;obtain⟨P,hP,p32⟩:=xf (c:=c) (by omega);have hPn:2 ^ c.toNat=P:=by
   have:=hP;rw[show(2:Int)=((2:Nat):Int)from rfl,← Int.natCast_pow]at this;omega
  rw[hP];refine⟨⟨by omega,by omega,by decide⟩,⟨by omega,by omega⟩,?_⟩;refine dP (fun i σ H2=>∃u1 u2 u3 u4,∃Ns:List (List Int×List Int),σ=[some (.ref a),some (.tup [.tup (A.map PV.int),.tup (B.map PV.int)]),some (.ref g),u1,u2,u3,u4]/\(U.Sub H H2/\H2 g=some (.lst (Ns.map fun p=>.tup [tupI p.1,tupI p.2])))/\(∀p∈Ns,Nms c p.1/\Nms c p.2)/\((Ns≠[]->qJ c ts bs A B)/\∀k<i,∀I,Nms c I->d7 c ts bs A B I (Oi c k)->Ns≠[])/\Ns.length≤32*i) ?_ ?_ ⟨none,none,none,none,[],rfl,⟨(Sub.refl H).put hg,ai⟩,by simp,⟨fun z=>absurd rfl z,fun k hk=>by omega⟩,by simp⟩
  ·rintro σ H2 ⟨u1,u2,u3,u4,Ns,rfl,⟨s2,g2⟩,hN,⟨hn1,hn2⟩,hl⟩;refine⟨trivial,?_⟩;subst hR;ac_rfl;refine⟨H2,Sub.refl _,h g H2 Ns s2 g2 hN (by omega) ⟨hn1,fun⟨I,O,nI,nO,b⟩=>?_⟩⟩;obtain⟨k,hk,rfl⟩:=zI nO;exact hn2 k (by omega) I nI b
  ·rintro G i σ H2 hi ⟨u1,u2,u3,u4,Ns,rfl,⟨s2,g2⟩,hN,⟨hn1,hn2⟩,hl⟩ kk;have hi32:i<32:=by omega
   refine⟨trivial,?_⟩;have hs2:=hs.up s2;refine ak fun R2 hR2=>?_;ac_rfl;refine⟨_,s2 _ _ e1,?_⟩;rw[d4];ac_rfl;refine⟨⟨by omega,by omega⟩,fun acc hacc=>?_⟩;refine aK (fun y=>y) (onI fun u=>(((i:Nat):Int) / 2 ^ u.toNat).fmod 2==1) (fun σ=>∃z,σ=[z,some (.int (i:Nat))]) (by rw[fk];omega) (fun _=>trivial) ?_ ?_ ⟨_,rfl⟩
   ·rintro y hy l σ R ⟨z,rfl⟩ hl kT kF;obtain⟨k,rfl,k0⟩:=fj hy;dsimp only[onI]at kT kF;ac_rfl;refine⟨k0,by decide,aS (fun q=>⟨hl,by rw[aI];exact kT q _ ⟨_,rfl⟩⟩) (fun q=>kF q _ ⟨_,rfl⟩)⟩
   rw[dc];have hO:Nms c (Oi c i):=yJ;have eo:((List.range c.toNat).map fun k=>((k:Nat):Int)).filter (fun u=>(((i:Nat):Int) / 2 ^ u.toNat).fmod 2==1)=Oi c i:=rfl;rw[eo];have hnx:∀{Ms:List (List Int×List Int)},(Ns≠[]->Ms≠[])->(∀I,Nms c I->d7 c ts bs A B I (Oi c i)->Ms≠[])->∀k<i+1,∀I,Nms c I->d7 c ts bs A B I (Oi c k)->Ms≠[]:=fun h1 h2 k hk I nI b=>by
    by_cases e:k=i
    ·subst e;exact h2 I nI b
    ·exact h1 (hn2 k (by omega) I nI b)
   generalize Oi c i=O at *;refine⟨_,ai,?_⟩;have lO:O.length≤5:=FI (sub_len O (ulN c) hO.nd fun x hx=>bG.mpr (hO.lo x hx)) (by unfold ulN;rw[EW,Ga];omega);have s3:U.Sub H (put H2 acc (.lst (O.map PV.int))):=s2.put (s2.free hacc);have g3:put H2 acc (.lst (O.map PV.int)) g=some (.lst (Ns.map fun p=>.tup [tupI p.1,tupI p.2])):=(ao (aC g2 hacc)).trans g2;generalize put H2 acc (.lst (O.map PV.int))=H3 at *;subst hR2;have hs3:=hs.up s3;have quit:∀H4,U.Sub H3 H4->(∀I,Nms c I->¬d7 c ts bs A B I O)->G [some (.ref a),some (.tup [.tup (A.map PV.int),.tup (B.map PV.int)]),some (.ref g),some (.int (i:Nat)),some (.tup (O.map PV.int)),u3,u4] H4:=fun H4 s4 nb=>kk _ _ ⟨_,_,_,_,Ns,rfl,⟨s3.trans s4,s4 _ _ g3⟩,hN,⟨hn1,hnx id fun I nI b=>absurd b (nb I nI)⟩,by omega⟩;ac_rfl;rw[EW];by_cases l1:1<O.length
   ·refine aB (by simp;omega) ?_;refine⟨c,ts,bs,O,hs3,ok,.inl rfl,hO,fun r Ls H4 s4 er hLm _=>⟨ag (by decide),fun p4 hp4=>⟨_,(ao (aC er hp4)).trans er,cm,?_⟩⟩⟩;have e1':[PV.tup (O.map PV.int)]=[O].map tupI:=rfl;rw[e1',cY];have s5:U.Sub H3 (put H4 p4 (.lst ([O].map tupI))):=s4.put (s4.free hp4);generalize put H4 p4 (.lst ([O].map tupI))=H5 at *;refine⟨cG,bC (fun f1=>?_) (fun f1=>quit H5 s5 fun I nI b=>f1 (hLm.one b.lo))⟩;obtain⟨P2,hP2,p32b⟩:=xf (c:=(O.length:Int)) (by omega);have hP2n:2 ^ O.length=P2:=by
     have:=hP2;rw[show(2:Int)=((2:Nat):Int)from rfl,← Int.natCast_pow,show((O.length:Nat):Int).toNat=O.length by omega]at this;omega
    rw[hP2];refine⟨⟨by omega,by omega,by decide⟩,⟨by decide,by decide,by omega,by omega⟩,?_⟩;refine dP (fun j σ H6=>∃u3 u4,∃Ms:List (List Int×List Int),σ=[some (.ref a),some (.tup [.tup (A.map PV.int),.tup (B.map PV.int)]),some (.ref g),some (.int (i:Nat)),some (.tup (O.map PV.int)),u3,u4]/\(U.Sub H H6/\H6 g=some (.lst (Ms.map fun p=>.tup [tupI p.1,tupI p.2])))/\(∀p∈Ms,Nms c p.1/\Nms c p.2)/\((Ms≠[]->qJ c ts bs A B)/\(Ns≠[]->Ms≠[])/\∀k<j,d7 c ts bs A B (cF (1+k) O) O->Ms≠[])/\Ms.length≤32*i+j) ?_ ?_ ⟨_,_,Ns,rfl,⟨s3.trans s5,s5 _ _ g3⟩,hN,⟨hn1,id,fun k hk=>by omega⟩,by omega⟩
    ·rintro σ H6 ⟨u3,u4,Ms,rfl,hH,hM,⟨m1,m2,m3⟩,hl'⟩;refine⟨trivial,kk _ _ ⟨_,_,_,_,Ms,rfl,hH,hM,⟨m1,hnx m2 fun I nI b=>?_⟩,by omega⟩⟩;obtain⟨k,hk,e⟩:=gh (d9 nI.up hO.up b.sub);have k0:k≠0:=fun z=>by subst z;rw[kD]at e;exact b.ne e.symm
     refine m3 (k - 1) (by omega) ?_;rw[show 1+(k - 1)=k by omega,e];exact b
    ·rintro G' j σ H6 hj ⟨u3,u4,Ms,rfl,⟨s6,g6⟩,hM,⟨m1,m2,m3⟩,hl'⟩ kk';refine⟨trivial,?_⟩;refine ak fun R3 hR3=>?_;ac_rfl;show ∀acc,H6 acc=none->_;intro acc2 hacc2;refine aK g1 (lh (1+((j:Nat):Int))) (fun σ=>∃z1 z2,σ=[z1,z2,some (.int (1+((j:Nat):Int)))]) (by rw[og,EW];omega) (fun _=>trivial) ?_ ?_ ⟨_,_,rfl⟩
     ·rintro y hy l σ R ⟨z1,z2,rfl⟩ hl kT kF;obtain⟨k,x,rfl⟩:=oz hy;have e:lh (1+((j:Nat):Int)) (.tup [.int (k:Nat),.int x])=(((1+((j:Nat):Int)) / 2 ^ ((k:Nat):Int).toNat).fmod 2==1):=rfl;rw[e]at kT kF;ac_rfl;refine⟨by omega,by decide,aS (fun q=>⟨hl,by rw[aI];exact kT q _ ⟨_,_,rfl⟩⟩) (fun q=>kF q _ ⟨_,_,rfl⟩)⟩
     have eI:((hJ (O.map PV.int)).filter (lh (1+((j:Nat):Int)))).map g1=(cF (1+j) O).map PV.int:=by
      rw[show(1+((j:Nat):Int))=((1+j:Nat):Int) by omega];exact nQ
     rw[eI];have sI:(cF (1+j) O).Sublist O:=ie _ _;have m4:∀{Xs:List (List Int×List Int)},(Ms≠[]->Xs≠[])->(d7 c ts bs A B (cF (1+j) O) O->Xs≠[])->∀k<j+1,d7 c ts bs A B (cF (1+k) O) O->Xs≠[]:=fun h1 h2 k hk b=>by
      by_cases e:k=j
      ·subst e;exact h2 b
      ·exact h1 (m3 k (by omega) b)
     generalize cF (1+j) O=I at *;have hI:Nms c I:=⟨hO.up.sublist sI,fun x hx=>hO.lo x (sI.subset hx)⟩;refine⟨_,ai,?_⟩;have s7:U.Sub H (put H6 acc2 (.lst (I.map PV.int))):=s6.put (s6.free hacc2);have g7:put H6 acc2 (.lst (I.map PV.int)) g=some (.lst (Ms.map fun p=>.tup [tupI p.1,tupI p.2])):=(ao (aC g6 hacc2)).trans g6;generalize put H6 acc2 (.lst (I.map PV.int))=H7 at *;subst hR3;ac_rfl;refine⟨c,ts,bs,A,B,I,O,rfl,rfl,rfl,hs.up s7,ok,hq,hI,hO,fun b eb=>aS (fun qb=>?_) (fun qb=>kk' _ _ ⟨_,_,Ms,rfl,⟨s7,g7⟩,hM,⟨m1,m2,m4 id fun z=>absurd (eb.mpr z) (by rw[qb];decide)⟩,by omega⟩)⟩;refine⟨⟨_,g7⟩,ag (by decide),_,g7,by rw[EW,FP];omega,kk' _ _ ⟨_,_,Ms++[(I,O)],rfl,⟨s7.put hg,by rw[ai,Fi];rfl⟩,fun p hp=>?_,⟨fun _=>⟨I,O,hI,hO,eb.mp qb⟩,fun _=>by simp,fun _ _ _=>by simp⟩,by rw[E3,Fj];omega⟩⟩;rcases E9.mp hp with hp | hp
     ·exact hM p hp
     ·rw[E5]at hp;subst hp;exact⟨hI,hO⟩
   ·refine ay (by simp;omega) (quit H3 (Sub.refl _) fun I nI b=>b.io (kj nI.up hO.up b.sub ?_));have:=List.length_pos_iff.mpr b.ne;omega
 ·exact h.elim
theorem DU(T:Tx K mg t):aT P w K mg base CX0 10 t.a_zW t.d_zW ["_law_script"] spL:=by
 refine okU (k:=9) T.F_zW cV (fun vs H Q E h=>by
  unfold spL at h;split at h
  ·rfl
  ·exact h.elim) (fun cdv A outer s H E B hr=>⟨_,(ae (az (i:=1) cV.nd rfl (by eq_refl) (aw (um T) (hr.mono (by decide)) rfl T.g_zN T.F_zN.kp T.B_zN (aa (aw (rV T) (hr.mono (by decide)) rfl T.g_zt T.F_zt.kp T.B_zt (aa (qv 0) (aa af ab))) (aa af ab))))
  (ae (az (i:=2) cV.nd rfl (by eq_refl) (aw (DE T) (hr.mono (by decide)) rfl T.g_zw T.F_zw.kp T.B_zw (aa (aw (um T) (hr.mono (by decide)) rfl T.g_zN T.F_zN.kp T.B_zN (aa (aw (rV T) (hr.mono (by decide)) rfl T.g_zt T.F_zt.kp T.B_zt (aa (qv 0) (aa af ab))) (aa af ab))) (aa af (aa af ab)))))
  (ae (az (i:=3) cV.nd rfl (by eq_refl) (aw (CD T) (hr.mono (by decide)) rfl T.g_zp T.F_zp.kp T.B_zp (aa (aw (um T) (hr.mono (by decide)) rfl T.g_zN T.F_zN.kp T.B_zN (aa (aw (rV T) (hr.mono (by decide)) rfl T.g_zt T.F_zt.kp T.B_zt (aa (qv 0) (aa af ab))) (aa af ab))) (aa (aJ (qv 2) af (fun _ _=>rfl)) ab))))
  (ae (az (i:=4) cV.nd rfl (by eq_refl) (aw (um T) (hr.mono (by decide)) rfl T.g_zN T.F_zN.kp T.B_zN (aa (aw (rV T) (hr.mono (by decide)) rfl T.g_zt T.F_zt.kp T.B_zt (aa (qv 0) (aa af ab))) (aa af ab))))
  (ae (az (i:=5) cV.nd rfl (by eq_refl) (aV ab))
  (ae (bK Fx rfl (aX (aw (p0 T) (hr.mono (by decide)) rfl T.g_zC T.F_zC.kp T.B_zC (aa (qv 2) (aa (aw (Bn T) (hr.mono (by decide)) rfl T.g_zB T.F_zB.kp T.B_zB (aa (qv 2) (aa (qv 3) ab))) ab)))) (ax (i:=6) cV.nd rfl (by eq_refl))
  (ae (a0 (cA Fu Fv a9 bg (qv 5) (aa (ba (aa (qv 6) (aa (aL aF aU rfl T.b_tuple FV (aa (aJ (aw (DJ T) (hr.mono (by decide)) rfl T.g_zK T.F_zK.kp T.B_zK (aa (qv 2) (aa (qv 6) (aa (qv 4) ab)))) af (fun _ _=>rfl)) ab)) ab))) ab)))
   (ah (az (i:=4) cV.nd rfl (by eq_refl) (bz (qv 4) af)))))
  (ae (az (i:=7) cV.nd rfl (by eq_refl) (aL aF aU rfl T.b_tuple FV (aa (qv 5) ab)))
  (ae (aP (aq (aM hr.units) aN (bc (qv 1) af) af (au _))
  (ah (az (i:=7) cV.nd rfl (by eq_refl) (aw (Dl T) (hr.mono (by decide)) rfl T.g_zi T.F_zi.kp T.B_zi (aa (qv 7) (aa (aw (um T) (hr.mono (by decide)) rfl T.g_zN T.F_zN.kp T.B_zN (aa (aw (rV T) (hr.mono (by decide)) rfl T.g_zt T.F_zt.kp T.B_zt (aa (qv 0) (aa af ab))) (aa af ab))) (aa (aJ (qv 2) af (fun _ _=>rfl)) ab))))))
  aG)
  (ae (az (i:=8) cV.nd rfl (by eq_refl) (aw (DD T) (hr.mono (by decide)) rfl T.g_zG T.F_zG.kp T.B_zG (aa (qv 2) (aa (qv 3) ab))))
  (ae (az (i:=9) cV.nd rfl (by eq_refl) (oV T.mk_A (Cr T) (hr.mono (by decide)) rfl T.g_A T.B_zo (aa (aJ (qv 2) af (fun _ _=>rfl)) (aa (aL cv fQ rfl T.b_list boot_list (aa (aJ (qv 2) af (fun _ _=>rfl)) ab)) (aa (aL cv fQ rfl T.b_list boot_list (aa (aJ (qv 2) af (fun _ _=>rfl)) ab)) ab)))))
  (ae (az (i:=10) cV.nd rfl (by eq_refl) (aL aF aU rfl T.b_tuple FV (aa (bI (N2:=["_law_name","_law_head"]) (nt:=1) (js:=[1]) (ck (sc:=aj rh)) rfl (bL rfl T.b_range (aa (aJ (qv 2) af (fun _ _=>rfl)) ab)) (fun s0 H0 fp ps=>⟨(ax (i:=0) (show List.Nodup (["_law_name","_law_head"]:List Str) by decide +kernel) rfl (by eq_refl)),(bh (aq (aM hr.units) aN (bc (fE (bz (qv 1) af) (qv 0)) af) af (au _))),(qv 0)⟩)) ab)))
  (ae (az (i:=11) cV.nd rfl (by eq_refl) (aL aF aU rfl T.b_tuple FV (aa (bI (N2:=["_law_name","_law_head"]) (nt:=1) (js:=[1]) (ck (sc:=aj rh)) rfl (bL rfl T.b_range (aa (aJ (qv 2) af (fun _ _=>rfl)) ab)) (fun s0 H0 fp ps=>⟨(ax (i:=0) (show List.Nodup (["_law_name","_law_head"]:List Str) by decide +kernel) rfl (by eq_refl)),(bh (aq (aM hr.units) aN (bc (fE (bz (qv 1) (fG af af)) (qv 0)) af) af (au _))),(qv 0)⟩)) ab)))
  (ae (aP (aY (bR (aq gP gX (aE av a6 rfl T.b_len Fo (aa (qv 8) ab)) af (au _)) (bN (aq gP gX (bc (bz (qv 1) af) af) af (au _)))))
  (ah (mr (aJ (qv 8) (bc (bz (qv 1) af) (aE av a6 rfl T.b_len Fo (aa (qv 8) ab))) (fun _ _=>rfl)) (d8 (n:=2) rfl (bA (ax (i:=10) cV.nd rfl (by eq_refl)) (bA (ax (i:=11) cV.nd rfl (by eq_refl)) dq)))))
  aG)
  (ae (aP (aY (bR (cc (aw (Ew T) (hr.mono (by decide)) rfl T.g_zU T.F_zU.kp T.B_zU (aa (qv 9) (aa (qv 3) (aa (qv 7) ab))))) (bN (cc (aw (EB T) (hr.mono (by decide)) rfl T.g_zV T.F_zV.kp T.B_zV (aa (qv 9) (aa (qv 3) (aa (qv 10) (aa (qv 11) ab)))))))))
  (ah (aD cO))
  aG)
  (ah (aD (bU (aM hr.units) aN (bU (aM hr.units) aN (aJ (aw (DT T) (hr.mono (by decide)) rfl T.g_zT T.F_zT.kp T.B_zT (aa (qv 9) (aa (qv 3) ab))) af (fun _ _=>rfl)) b0 (au _)) (bU (aM hr.units) aN (aE av a6 rfl T.b_len Fo (aa (qv 8) ab)) af (au _)) (au _)))))))))))))))))),?_⟩)
 intro vs H Q E h;unfold spL at h;split at h
 ·rename_i l;obtain⟨ns,rfl,hl,h⟩:=h;have cp:∀j:Int,0≤j->j≤1000000->qx 10 j:=fun j h1 h2=>⟨h1,h2,by decide⟩;have cd:∀(i j:Int),j≠0->My.BN 64 j->oU i j:=fun i j h1 h2=>⟨h1,h2.fit (by decide)⟩;refine ak fun R hR=>?_;ac_rfl;refine⟨⟨by decide,by decide⟩,ns,rfl,⟨by decide,by decide⟩,fun hd=>?_⟩;subst hR;refine ak fun R hR=>?_;ac_rfl;refine⟨⟨by decide,by decide⟩,ns,rfl,⟨by decide,by decide⟩,fun n1=>⟨⟨by decide,by decide⟩,fun c ts bs sh H1 ok c5 sts sbs s1 hs=>?_⟩⟩;subst hR;have c1:=ok.c1;have c6:=ok.c6;obtain⟨q1,q2,e1,e2,e3⟩:=id hs;refine ak fun R hR=>?_;ac_rfl;refine⟨⟨by decide,by decide⟩,ns,rfl,⟨by decide,by decide⟩,fun n2=>⟨_,e1,?_⟩⟩;rw[d4];ac_rfl;refine⟨⟨by omega,by omega⟩,fun A B hq=>?_⟩;subst hR;unfold qV at *;refine ak fun R hR=>?_;ac_rfl;refine⟨⟨by decide,by decide⟩,ns,rfl,⟨by decide,by decide⟩,fun n3=>?_⟩;subst hR;refine ak fun R hR=>?_;ac_rfl;refine⟨ag (by decide),fun g hg=>?_⟩;subst hR;have sg:=(Sub.refl H1).put (o:=.lst []) hg;have g1:put H1 g (.lst []) g=some (.lst []):=ai;generalize put H1 g (.lst [])=H2 at *;refine ak fun R hR=>?_;ac_rfl;refine⟨c,ts,bs,A,B,hs.up sg,ok,rfl,hq,fun W wup wiff=>⟨c,ts,bs,W,hs.up sg,ok,.inl rfl,iE hq wup wiff,fun r Ls H3 s3 er lm l6=>⟨_,er,?_⟩⟩⟩;have wn:Wnt c ts bs A B W Ls:=⟨iE hq wup wiff,wiff,lm⟩;refine b9 (fun i σ H4=>∃n' u1,∃rows:List Ro,σ=[some (.fls (ns.map PV.int)),some (.int hd),some (.ref sh),some (.tup [.tup (A.map PV.int),.tup (B.map PV.int)]),some (.int n'),some (.ref g),u1,none,none,none,none,none]/\(U.Sub H1 H4/\H4 g=some (.lst (rows.map bE))/\H4 r=some (.lst (Ls.map tupI)))/\rows.length=i/\∀p∈rows,p.1.length≤6/\p.2.length≤6/\∀q∈p.2,q.2.length≤6) ?_ ?_ ⟨n3,none,[],rfl,⟨sg.trans s3,s3 _ _ g1,er⟩,rfl,by simp⟩
  ·rintro σ H4 ⟨n',u1,rows0,rfl,⟨s4,g4,r4⟩,hl',hf⟩;rw[EW]at hl';refine⟨r4,?_⟩;subst hR;dsimp only;refine ak fun R hR=>?_;ac_rfl;refine⟨_,g4,?_⟩;have sz0:Sz 6 rows0:=⟨by omega,fun p hp=>(hf p hp).1,fun p hp=>(hf p hp).2.1,fun p hp=>(hf p hp).2.2⟩;subst hR;refine ak fun R hR=>?_
   suffices key:∀rows:List Ro,Sz 12 rows->R { nx:=fun _ H=>∃H3,U.Sub H3 H/\Q .non H3,rt:=fun v H=>∃H3,U.Sub H3 H/\Q v H3 } [some (.fls (ns.map PV.int)),some (.int hd),some (.ref sh),some (.tup [.tup (A.map PV.int),.tup (B.map PV.int)]),some (.int n'),some (.ref g),u1,some (.tup (rows.map bE)),none,none,none,none] H4 by
    ac_rfl;refine⟨by decide,aS (fun _=>?_) (fun _=>key rows0 (sz0.sub (by have:=sz0.n;omega) fun p hp=>hp))⟩;refine⟨⟨by decide,by decide⟩,ns,rfl,⟨by decide,by decide⟩,fun m=>⟨_,s4 _ _ e1,?_⟩⟩;rw[d4];ac_rfl;exact⟨rows0,6,rfl,sz0,by omega,⟨c1,c6⟩,fun rows2 sz2=>key rows2 sz2⟩
   intro rows sz;have lr:rows.length≤100:=by have:=sz.n;omega
   have lc:∀p∈rows,p.2.length≤100/\∀q∈p.2,q.2.length≤100:=fun p hp=>⟨by have:=sz.b p hp;omega,fun q hq=>by have:=sz.c p hp q hq;omega⟩;clear sz sz0 hf hl' g4 rows0;subst hR;refine ak fun R hR=>?_;ac_rfl;refine⟨c,ts,bs,A,B,rfl,hs.up s4,ok,c5,hq,fun nr H5 Ns s5 hN nN lN nb=>?_⟩;subst hR;have s15:=s4.trans s5;have e1:=s15 _ _ e1;have e2:=s15 _ _ e2;have e3:=s15 _ _ e3;have s0:=Sub.refl H5;refine ak fun R hR=>?_;ac_rfl;refine⟨_,s0 _ _ e1,?_⟩;rw[d4];ac_rfl;refine⟨_,s0 _ _ e1,?_⟩;rw[rW];ac_rfl;refine⟨_,s0 _ _ e2,fun p5 hp5=>⟨_,(ao (aC (s0 _ _ e1) hp5)).trans (s0 _ _ e1),?_⟩⟩;rw[wZ];ac_rfl;refine⟨_,(ao (aC (s0 _ _ e3) hp5)).trans (s0 _ _ e3),fun p6 hp6 x dx hx hdx nd=>?_⟩;have n56:p5≠p6:=fun e=>by subst e;rw[ai]at hp6;cases hp6
   have sa:=s0.put (o:=.lst (ts.map prV)) (s0.free hp5);have sb:=sa.put (o:=.lst (bs.map prV)) (sa.free hp6);have i1:put (put H5 p5 (.lst (ts.map prV))) p6 (.lst (bs.map prV)) p5=some (.lst (ts.map prV)):=(ao n56).trans ai;have i2:put (put H5 p5 (.lst (ts.map prV))) p6 (.lst (bs.map prV)) p6=some (.lst (bs.map prV)):=ai;generalize put (put H5 p5 (.lst (ts.map prV))) p6 (.lst (bs.map prV))=H6 at *;have sc:=(Sub.refl H6).put (o:=.ins t.a_A dx []) hx;refine⟨dx,_,_,ts,bs,rfl,sc _ _ i1,sc _ _ i2,eJ,eJ,ok.gt,ok.gb,⟨c1,c6,ok.b6⟩,fun T1 B1 pT sT pB sB=>?_⟩;rw[aI];have eT:=DM.ir (GO _) sts pT sT;have eB:=DM.ir (GO _) sbs pB sB;subst eT;subst eB;have sd:=sb.put (o:=.ins t.a_A dx (DF c ts bs)) (sb.free hx);have x3:put H6 x (.ins t.a_A dx (DF c ts bs)) x=some (.ins t.a_A dx (DF c ts bs)):=ai;generalize put H6 x (.ins t.a_A dx (DF c ts bs))=H7 at *;have okd:OkD c ts bs:=⟨c1,c6,ok.gt,ok.gb,sts,sbs,ok.b6⟩;subst hR;refine ak fun R hR=>?_;ac_rfl;refine⟨_,sd _ _ e1,?_⟩;rw[d4];ac_rfl;refine⟨⟨by omega,by omega⟩,fun p1 hp1=>?_⟩;refine aK (fun y=>y) (onI fun u=>((hd.fdiv 100) / 2 ^ u.toNat).fmod 2==1) (fun σ=>∃z,σ=[z,some (.int hd)]) (by rw[fk];omega) (fun _=>trivial) ?_ ?_ ⟨_,rfl⟩
   ·rintro y hy l σ R ⟨z,rfl⟩ hl kT kF;obtain⟨k,rfl,k0⟩:=fj hy;dsimp only[onI]at kT kF;ac_rfl;refine⟨dv (by decide) (by decide),k0,by decide,aS (fun q=>⟨hl,by rw[aI];exact kT q _ ⟨_,rfl⟩⟩) (fun q=>kF q _ ⟨_,rfl⟩)⟩
   rw[dc];have hI:Nms c ((ulN c).filter fun u=>((hd.fdiv 100) / 2 ^ u.toNat).fmod 2==1):=⟨(jb c).filter _,fun x hx=>bG.mp (Fq.mp hx).1⟩;have eI:((List.range c.toNat).map fun k=>((k:Nat):Int)).filter (fun u=>((hd.fdiv 100) / 2 ^ u.toNat).fmod 2==1)=(ulN c).filter fun u=>((hd.fdiv 100) / 2 ^ u.toNat).fmod 2==1:=rfl;rw[eI];generalize (ulN c).filter (fun u=>((hd.fdiv 100) / 2 ^ u.toNat).fmod 2==1)=I at *;refine⟨_,ai,?_⟩;have sI:U.Sub H7 (put H7 p1 (.lst (I.map PV.int))):=(Sub.refl H7).put hp1;generalize put H7 p1 (.lst (I.map PV.int))=H8 at *;subst hR;refine ak fun R hR=>?_;ac_rfl;refine⟨_,sI _ _ (sd _ _ e1),?_⟩;rw[d4];ac_rfl;refine⟨⟨by omega,by omega⟩,fun p2 hp2=>?_⟩;refine aK (fun y=>y) (onI fun u=>((hd.fdiv (10 ^ Int.toNat 5)) / 2 ^ u.toNat).fmod 2==1) (fun σ=>∃z,σ=[z,some (.int hd)]) (by rw[fk];omega) (fun _=>trivial) ?_ ?_ ⟨_,rfl⟩
   ·rintro y hy l σ R ⟨z,rfl⟩ hl kT kF;obtain⟨k,rfl,k0⟩:=fj hy;dsimp only[onI]at kT kF;ac_rfl;refine⟨cp 5 (by decide) (by decide),cd _ _ (by decide +kernel) (by unfold My.BN;decide +kernel),k0,by decide,aS (fun q=>⟨hl,by rw[aI];exact kT q _ ⟨_,rfl⟩⟩) (fun q=>kF q _ ⟨_,rfl⟩)⟩
   rw[dc];have hO:Nms c ((ulN c).filter fun u=>((hd.fdiv (10 ^ Int.toNat 5)) / 2 ^ u.toNat).fmod 2==1):=⟨(jb c).filter _,fun x hx=>bG.mp (Fq.mp hx).1⟩;have eO:((List.range c.toNat).map fun k=>((k:Nat):Int)).filter (fun u=>((hd.fdiv (10 ^ Int.toNat 5)) / 2 ^ u.toNat).fmod 2==1)=(ulN c).filter fun u=>((hd.fdiv (10 ^ Int.toNat 5)) / 2 ^ u.toNat).fmod 2==1:=rfl;rw[eO];generalize (ulN c).filter (fun u=>((hd.fdiv (10 ^ Int.toNat 5)) / 2 ^ u.toNat).fmod 2==1)=O at *;refine⟨_,ai,?_⟩;have sO:U.Sub H8 (put H8 p2 (.lst (O.map PV.int))):=(Sub.refl H8).put hp2;generalize put H8 p2 (.lst (O.map PV.int))=H9 at *;subst hR;have s9:=sI.trans sO;have x9:=s9 _ _ x3;have hN9:=(sd.trans s9) _ _ hN;have sH:=((s1.trans s15).trans sd).trans s9;refine ak fun R hR=>?_;have go:∀I O:List Int,Nms c I->Nms c O->R { nx:=fun _ H=>∃H3,U.Sub H3 H/\Q .non H3,rt:=fun v H=>∃H3,U.Sub H3 H/\Q v H3 } [some (.fls (ns.map PV.int)),some (.int hd),some (.ref sh),some (.tup [.tup (A.map PV.int),.tup (B.map PV.int)]),some (.int n'),some (.ref g),u1,some (.tup (rows.map bE)),some (.ref nr),some (.ref x),some (.tup (I.map PV.int)),some (.tup (O.map PV.int))] H9:=by
    clear hI hO;intro I O hI hO;subst hR;refine ak fun R hR=>?_;ac_rfl;refine⟨c,ts,bs,A,B,rows,⟨dx,x9⟩,okd,rfl,rfl,hq,lr,lc,fun W1 Ls1 b1 wn1 eb1=>?_⟩
    suffices fin:R { nx:=fun _ H=>∃H3,U.Sub H3 H/\Q .non H3,rt:=fun v H=>∃H3,U.Sub H3 H/\Q v H3 } [some (.fls (ns.map PV.int)),some (.int hd),some (.ref sh),some (.tup [.tup (A.map PV.int),.tup (B.map PV.int)]),some (.int n'),some (.ref g),u1,some (.tup (rows.map bE)),some (.ref nr),some (.ref x),some (.tup (I.map PV.int)),some (.tup (O.map PV.int))] H9 by
     refine aS (fun q1=>⟨c,ts,bs,A,B,I,O,rfl,rfl,rfl,⟨dx,x9⟩,okd,hq,hI,hO,fun b2 eb2=>aS (fun q2=>?_) (fun _=>fin)⟩) (fun _=>fin);exact(mz wn1 ok.gb hq (eb1.mp q1) (eb2.mp q2)).elim
    have key:∀b:Bool,(b=true↔¬qJ c ts bs A B)->(b==(((Ns.map fun p=>PV.tup [tupI p.1,tupI p.2]).length:Int)==0))=true:=fun b eb=>by
     rw[EW];by_cases e:Ns=[]
     ·rw[e]at nb;rw[e,eb.mpr fun z=>(nb.mpr z) rfl];rfl
     ·have l0:=List.length_pos_iff.mpr e;have e2:(((Ns.length:Nat):Int)==0)=false:=by simp;omega
      rw[e2];cases b with
      | false=>rfl
      | true=>exact absurd (nb.mp e) (eb.mp rfl)
    subst hR;ac_rfl;refine⟨c,ts,bs,A,B,rfl,⟨dx,x9⟩,okd,hq,fun W2 Ls2 rows2 wn2 _ _ _ f=>?_,fun W2 Ls2 L0 T x0 R0 wn2 eL hL f ne=>?_⟩
    ·refine⟨_,hN9,H,sH,?_⟩;rw[key _ ⟨fun _=>qN wn2 hq f,fun _=>beq_self_eq_true _⟩];exact h
    ·rw[d4];ac_rfl;refine⟨_,hN9,H,sH,?_⟩;have x0L:x0∈L0:=by rw[eL];exact E7
     rw[key _ ⟨fun z=>absurd z (by decide +kernel),fun z=>absurd ⟨L0,T,(wn2.cn hL x0L).nms,f.nms,wR wn2 hq hL x0L f ne⟩ z⟩];exact h
   ac_rfl;refine⟨_,hN9,?_⟩;by_cases hn0:Ns.length=0
   ·exact ay (by rw[EW,hn0];rfl) (go I O hI hO)
   ·refine aB (by rw[EW];simp;omega) ⟨dv (by decide) (by decide),by decide,aS (fun _=>⟨dv (by decide) (by decide),_,hN9,by rw[EW];omega,_,hN9,?_⟩) (fun _=>go I O hI hO)⟩;rw[EW];have bj:=fm (a:=hd.fdiv 8) (b:=(Ns.length:Nat)) (by omega);obtain⟨j,hj⟩:∃j:Nat,(hd.fdiv 8).fmod (Ns.length:Nat)=(j:Nat):=⟨((hd.fdiv 8).fmod (Ns.length:Nat)).toNat,by omega⟩;rw[hj]at bj ⊢;have jl:j<Ns.length:=by omega
    rw[fH (by rw[EW];exact jl),FK];have hm:=nN _ (Ft jl);generalize Ns[j]=w at *;unfold tupI;ac_rfl;exact go w.1 w.2 hm.1 hm.2
  ·rintro G i y σ H4 hy ⟨n',u1,rows,rfl,⟨s4,g4,r4⟩,hl',hf⟩ kk;refine⟨r4,?_⟩;obtain⟨hi,e⟩:=E6.mp hy;rw[EW]at hi;rw[FK]at e;subst e;have hm:Ls[i]∈Ls:=Ft hi;generalize Ls[i]=L0 at *;obtain⟨x0,R0,eL⟩:=wn.ne hm;have cn:=wn.cn hm (x0:=x0) (by rw[eL];exact E7);have nrg:r≠g:=fun e=>by
    subst e;have z:=s3 _ _ g1;rw[er]at z;have z:=PO.lst.inj (FH z);rw[List.map_eq_nil_iff]at z;rw[z]at hi;cases hi
   unfold tupI;refine ak fun R2 hR2=>?_;ac_rfl;refine⟨⟨_,g4⟩,c,ts,bs,x0,R0,hs.up s4,ok,by rw[eL];rfl,by rw[←eL];exact cn,fun r4' r5 H5 cs T s5 e4 e5 lc lq fin=>⟨_,e4,?_⟩⟩;rw[mq];ac_rfl;refine⟨_,e5,ag (by decide),_,s5 _ _ g4,a5 (by rw[EW];omega),?_⟩;subst hR2;ac_rfl;refine⟨dv (by decide) (by decide),kk _ _ ⟨_,_,rows++[(L0,cs)],rfl,⟨(s4.trans s5).put hg,by rw[ai,Fi];rfl,(ao nrg).trans (s5 _ _ r4)⟩,by rw[E3,Fj];omega,fun p hp=>?_⟩⟩;rcases E9.mp hp with hp | hp
   ·exact hf p hp
   ·rw[E5]at hp;subst hp;exact⟨cn.nms.len c6,lc,lq⟩
 ·exact h.elim
end
theorem yV{fd:FuncData}{ps:List Str}(h:∀a,bindArgs fd ⟨[a],[]⟩=pure (List.zip ps [a]))(us:List Value)(hl:us.length=1):bindArgs fd ⟨us,[]⟩=pure (List.zip ps us):=AY (P:=fun us=>bindArgs fd ⟨us,[]⟩=pure (List.zip ps us)) h us hl
theorem cH{fd:FuncData}{ps:List Str}(h:∀a b,bindArgs fd ⟨[a,b],[]⟩=pure (List.zip ps [a,b]))(us:List Value)(hl:us.length=2):bindArgs fd ⟨us,[]⟩=pure (List.zip ps us):=AJ (P:=fun us=>bindArgs fd ⟨us,[]⟩=pure (List.zip ps us)) h us hl
theorem ft{fd:FuncData}{ps:List Str}(h:∀a b c,bindArgs fd ⟨[a,b,c],[]⟩=pure (List.zip ps [a,b,c]))(us:List Value)(hl:us.length=3):bindArgs fd ⟨us,[]⟩=pure (List.zip ps us):=AH (P:=fun us=>bindArgs fd ⟨us,[]⟩=pure (List.zip ps us)) h us hl
theorem yF{fd:FuncData}{ps:List Str}(h:∀a b c d,bindArgs fd ⟨[a,b,c,d],[]⟩=pure (List.zip ps [a,b,c,d]))(us:List Value)(hl:us.length=4):bindArgs fd ⟨us,[]⟩=pure (List.zip ps us):=D6 (P:=fun us=>bindArgs fd ⟨us,[]⟩=pure (List.zip ps us)) h us hl
open PySem.W in
theorem m7{K:Frag}{h:Heap}{mg:Str->Option Value}{f_zP f_zD f_zR f_zx f_zL f_zo f_za f_zd f_zf f_zc f_zl f_zh f_zj f_zr f_zF f_zy f_zk f_zn f_zS f_zE f_zg f_zH f_zv f_zQ f_zu f_zA f_zM f_zU f_zq f_zT f_zb f_zV f_zt f_zN f_zw f_zp f_zI f_zC f_zB f_zm f_zz f_zO f_ze f_zK f_zs f_zi f_zJ f_zG f_zW k_A:Addr}(X:K.In h)(G:h.Ns mainGlobals mg)
  {d_zP d_zD d_zR d_zx d_zL d_zo d_za d_zd d_zf d_zc d_zl d_zh d_zj d_zr d_zF d_zy d_zk d_zn d_zS d_zE d_zg d_zH d_zv d_zQ d_zu d_zA d_zM d_zU d_zq d_zT d_zb d_zV d_zt d_zN d_zw d_zp d_zI d_zC d_zB d_zm d_zz d_zO d_ze d_zK d_zs d_zi d_zJ d_zG d_zW:FuncData}
  {tk_MOST_BOWS tk_MOST_NAMES:Tok}
  (C_A:nX1 K "Drawing" k_A)
  (a_zP:nX1 K "is_pair" f_zP)
  (l_zP:Fun K "is_pair" "is_pair" yr f_zP d_zP)
  (a_zD:nX1 K "are_pairs" f_zD)
  (l_zD:Fun K "are_pairs" "are_pairs" vw f_zD d_zD)
  (a_zR:nX1 K "is_set" f_zR)
  (l_zR:Fun K "is_set" "is_set" zd f_zR d_zR)
  (a_zx:nX1 K "names_up_to" f_zx)
  (l_zx:Fun K "names_up_to" "names_up_to" zj f_zx d_zx)
  (a_zL:nX1 K "without" f_zL)
  (l_zL:Fun K "without" "without" vA f_zL d_zL)
  (a_zo:fX1 K k_A "__init__" f_zo)
  (i_zo:isFn K (.ref f_zo)=true)
  (l_zo:Fun K "__init__" "Drawing.__init__" rP f_zo d_zo)
  (a_za:fX1 K k_A "need_name" f_za)
  (i_za:isFn K (.ref f_za)=true)
  (l_za:Fun K "need_name" "Drawing.need_name" zh f_za d_za)
  (a_zd:fX1 K k_A "need_set" f_zd)
  (i_zd:isFn K (.ref f_zd)=true)
  (l_zd:Fun K "need_set" "Drawing.need_set" zl f_zd d_zd)
  (a_zf:fX1 K k_A "sources" f_zf)
  (i_zf:isFn K (.ref f_zf)=true)
  (l_zf:Fun K "sources" "Drawing.sources" uU f_zf d_zf)
  (a_zc:fX1 K k_A "ancestors" f_zc)
  (i_zc:isFn K (.ref f_zc)=true)
  (l_zc:Fun K "ancestors" "Drawing.ancestors" zD f_zc d_zc)
  (a_zl:fX1 K k_A "bowed" f_zl)
  (i_zl:isFn K (.ref f_zl)=true)
  (l_zl:Fun K "bowed" "Drawing.bowed" sE f_zl d_zl)
  (a_zh:fX1 K k_A "lump_of" f_zh)
  (i_zh:isFn K (.ref f_zh)=true)
  (l_zh:Fun K "lump_of" "Drawing.lump_of" yu f_zh d_zh)
  (a_zj:fX1 K k_A "lumps" f_zj)
  (i_zj:isFn K (.ref f_zj)=true)
  (l_zj:Fun K "lumps" "Drawing.lumps" zf f_zj d_zj)
  (a_zr:fX1 K k_A "part" f_zr)
  (i_zr:isFn K (.ref f_zr)=true)
  (l_zr:Fun K "part" "Drawing.part" ux f_zr d_zr)
  (a_zF:nX1 K "need_sets" f_zF)
  (l_zF:Fun K "need_sets" "need_sets" xV f_zF d_zF)
  (a_zy:nX1 K "need_apart" f_zy)
  (l_zy:Fun K "need_apart" "need_apart" x6 f_zy d_zy)
  (a_zk:nX1 K "need_question" f_zk)
  (l_zk:Fun K "need_question" "need_question" yC f_zk d_zk)
  (a_zn:nX1 K "wanted_names" f_zn)
  (l_zn:Fun K "wanted_names" "wanted_names" Ac f_zn d_zn)
  (a_zS:nX1 K "wanted" f_zS)
  (l_zS:Fun K "wanted" "wanted" yU f_zS d_zS)
  (a_zE:nX1 K "is_within" f_zE)
  (l_zE:Fun K "is_within" "is_within" uD f_zE d_zE)
  (a_zg:nX1 K "has_its_sources" f_zg)
  (l_zg:Fun K "has_its_sources" "has_its_sources" wG f_zg d_zg)
  (a_zH:nX1 K "is_up_cut" f_zH)
  (l_zH:Fun K "is_up_cut" "is_up_cut" zC f_zH d_zH)
  (a_zv:nX1 K "is_lump_cut" f_zv)
  (l_zv:Fun K "is_lump_cut" "is_lump_cut" yG f_zv d_zv)
  (a_zQ:nX1 K "is_cut" f_zQ)
  (l_zQ:Fun K "is_cut" "is_cut" zE f_zQ d_zQ)
  (a_zu:nX1 K "lump_around" f_zu)
  (l_zu:Fun K "lump_around" "lump_around" vE f_zu d_zu)
  (a_zA:nX1 K "first_lump" f_zA)
  (l_zA:Fun K "first_lump" "first_lump" Aq f_zA d_zA)
  (a_zM:nX1 K "lead_to" f_zM)
  (l_zM:Fun K "lead_to" "lead_to" yL f_zM d_zM)
  (a_zU:nX1 K "lets" f_zU)
  (l_zU:Fun K "lets" "lets" ri f_zU d_zU)
  (a_zq:nX1 K "cuts_towards" f_zq)
  (l_zq:Fun K "cuts_towards" "cuts_towards" xX f_zq d_zq)
  (a_zT:nX1 K "comes" f_zT)
  (l_zT:Fun K "comes" "comes" zW f_zT d_zT)
  (a_zb:nX1 K "is_lump_of_itself" f_zb)
  (l_zb:Fun K "is_lump_of_itself" "is_lump_of_itself" xS f_zb d_zb)
  (a_zV:nX1 K "bars" f_zV)
  (l_zV:Fun K "bars" "bars" sZ f_zV d_zV)
  (a_zt:nX1 K "_law_cell_at" f_zt)
  (l_zt:Fun K "_law_cell_at" "_law_cell_at" Am f_zt d_zt)
  (a_zN:nX1 K "_law_mix" f_zN)
  (l_zN:Fun K "_law_mix" "_law_mix" xY f_zN d_zN)
  (a_zw:nX1 K "_law_drawing" f_zw)
  (l_zw:Fun K "_law_drawing" "_law_drawing" Aa f_zw d_zw)
  (a_zp:nX1 K "_law_question" f_zp)
  (l_zp:Fun K "_law_question" "_law_question" uG f_zp d_zp)
  (a_zI:nX1 K "_law_upper" f_zI)
  (l_zI:Fun K "_law_upper" "_law_upper" wz f_zI d_zI)
  (a_zC:nX1 K "_law_lumps" f_zC)
  (l_zC:Fun K "_law_lumps" "_law_lumps" vb f_zC d_zC)
  (a_zB:nX1 K "_law_wanted" f_zB)
  (l_zB:Fun K "_law_wanted" "_law_wanted" uP f_zB d_zB)
  (a_zm:nX1 K "_law_lump_with" f_zm)
  (l_zm:Fun K "_law_lump_with" "_law_lump_with" yY f_zm d_zm)
  (a_zz:nX1 K "_law_is_set" f_zz)
  (l_zz:Fun K "_law_is_set" "_law_is_set" y4 f_zz d_zz)
  (a_zO:nX1 K "_law_cut" f_zO)
  (l_zO:Fun K "_law_cut" "_law_cut" uq f_zO d_zO)
  (a_ze:nX1 K "_law_closed_sets" f_ze)
  (l_ze:Fun K "_law_closed_sets" "_law_closed_sets" su f_ze d_ze)
  (a_zK:nX1 K "_law_cuts" f_zK)
  (l_zK:Fun K "_law_cuts" "_law_cuts" zp f_zK d_zK)
  (a_zs:nX1 K "_law_bent_set" f_zs)
  (l_zs:Fun K "_law_bent_set" "_law_bent_set" vS f_zs d_zs)
  (a_zi:nX1 K "_law_bent_paper" f_zi)
  (l_zi:Fun K "_law_bent_paper" "_law_bent_paper" wm f_zi d_zi)
  (a_zJ:nX1 K "_law_bars" f_zJ)
  (l_zJ:Fun K "_law_bars" "_law_bars" uk f_zJ d_zJ)
  (a_zG:nX1 K "_law_nests" f_zG)
  (l_zG:Fun K "_law_nests" "_law_nests" ug f_zG d_zG)
  (a_zW:nX1 K "law" f_zW)
  (l_zW:Fun K "law" "law" rh f_zW d_zW)
  (pg_A:plainGet K k_A Str.empty=true)
  (hd_A:hasDictIn K k_A=true)
  (po_A:plainOver K k_A=true)
  (sa_A:findIn K (.ref k_A) "__setattr__"=some (some (.builtin "object.__setattr__")))
  (mk_A:makesIn K k_A=true)
  (kc_A:keepIn K (.ref k_A)=true)
  (z_all:nX2 K "all")
  (z_any:nX2 K "any")
  (z_enumerate:nX2 K "enumerate")
  (z_int:nX2 K "int")
  (z_len:nX2 K "len")
  (z_list:nX2 K "list")
  (z_range:nX2 K "range")
  (z_reversed:nX2 K "reversed")
  (z_set:nX2 K "set")
  (z_sorted:nX2 K "sorted")
  (z_tuple:nX2 K "tuple")
  (v_MOST_BOWS:nsIn K mainGlobals "MOST_BOWS"=some (some (.int 6 tk_MOST_BOWS)))
  (v_MOST_NAMES:nsIn K mainGlobals "MOST_NAMES"=some (some (.int 6 tk_MOST_NAMES)))
  (nA_bows:findIn K (.ref k_A) "bows"=some none)
  (nA_count:findIn K (.ref k_A) "count"=some none)
  (nA_ties:findIn K (.ref k_A) "ties"=some none) :
  ∃t:Ad,Tx K mg t/\t.a_zW=f_zW/\∀(s:Shared) (v:Value),BindsTo s t.d_zW ⟨[v],[]⟩ [("_law_script",v)]:=by
 obtain⟨oc,od,kV,doc,pm,an,cdv,ct,osl,rfl,lk,hcd⟩:=l_zW.ex;exact⟨⟨f_zP,_,f_zD,_,f_zR,_,f_zx,_,f_zL,_,f_zo,_,f_za,_,f_zd,_,f_zf,_,f_zc,_,f_zl,_,f_zh,_,f_zj,_,f_zr,_,f_zF,_,f_zy,_,f_zk,_,f_zn,_,f_zS,_,f_zE,_,f_zg,_,f_zH,_,f_zv,_,f_zQ,_,f_zu,_,f_zA,_,f_zM,_,f_zU,_,f_zq,_,f_zT,_,f_zb,_,f_zV,_,f_zt,_,f_zN,_,f_zw,_,f_zp,_,f_zI,_,f_zC,_,f_zB,_,f_zm,_,f_zz,_,f_zO,_,f_ze,_,f_zK,_,f_zs,_,f_zi,_,f_zJ,_,f_zG,_,f_zW,_,k_A⟩,⟨l_zP,
  l_zP.binds fun _ _ _ _ _ _=>cH fun _ _=>rfl,
  mg_of X G a_zP,
  l_zD,
  l_zD.binds fun _ _ _ _ _ _=>cH fun _ _=>rfl,
  mg_of X G a_zD,
  l_zR,
  l_zR.binds fun _ _ _ _ _ _=>cH fun _ _=>rfl,
  mg_of X G a_zR,
  l_zx,
  l_zx.binds fun _ _ _ _ _ _=>yV fun _=>rfl,
  mg_of X G a_zx,
  l_zL,
  l_zL.binds fun _ _ _ _ _ _=>cH fun _ _=>rfl,
  mg_of X G a_zL,
  l_zo,
  l_zo.binds fun _ _ _ _ _ _=>yF fun _ _ _ _=>rfl,
  l_za,
  l_za.binds fun _ _ _ _ _ _=>cH fun _ _=>rfl,
  ⟨a_za,i_za,l_za.kp⟩,
  l_zd,
  l_zd.binds fun _ _ _ _ _ _=>cH fun _ _=>rfl,
  ⟨a_zd,i_zd,l_zd.kp⟩,
  l_zf,
  l_zf.binds fun _ _ _ _ _ _=>cH fun _ _=>rfl,
  ⟨a_zf,i_zf,l_zf.kp⟩,
  l_zc,
  l_zc.binds fun _ _ _ _ _ _=>cH fun _ _=>rfl,
  ⟨a_zc,i_zc,l_zc.kp⟩,
  l_zl,
  l_zl.binds fun _ _ _ _ _ _=>cH fun _ _=>rfl,
  ⟨a_zl,i_zl,l_zl.kp⟩,
  l_zh,
  l_zh.binds fun _ _ _ _ _ _=>ft fun _ _ _=>rfl,
  ⟨a_zh,i_zh,l_zh.kp⟩,
  l_zj,
  l_zj.binds fun _ _ _ _ _ _=>cH fun _ _=>rfl,
  ⟨a_zj,i_zj,l_zj.kp⟩,
  l_zr,
  l_zr.binds fun _ _ _ _ _ _=>cH fun _ _=>rfl,
  ⟨a_zr,i_zr,l_zr.kp⟩,
  l_zF,
  l_zF.binds fun _ _ _ _ _ _=>cH fun _ _=>rfl,
  mg_of X G a_zF,
  l_zy,
  l_zy.binds fun _ _ _ _ _ _=>yV fun _=>rfl,
  mg_of X G a_zy,
  l_zk,
  l_zk.binds fun _ _ _ _ _ _=>cH fun _ _=>rfl,
  mg_of X G a_zk,
  l_zn,
  l_zn.binds fun _ _ _ _ _ _=>cH fun _ _=>rfl,
  mg_of X G a_zn,
  l_zS,
  l_zS.binds fun _ _ _ _ _ _=>cH fun _ _=>rfl,
  mg_of X G a_zS,
  l_zE,
  l_zE.binds fun _ _ _ _ _ _=>cH fun _ _=>rfl,
  mg_of X G a_zE,
  l_zg,
  l_zg.binds fun _ _ _ _ _ _=>ft fun _ _ _=>rfl,
  mg_of X G a_zg,
  l_zH,
  l_zH.binds fun _ _ _ _ _ _=>ft fun _ _ _=>rfl,
  mg_of X G a_zH,
  l_zv,
  l_zv.binds fun _ _ _ _ _ _=>ft fun _ _ _=>rfl,
  mg_of X G a_zv,
  l_zQ,
  l_zQ.binds fun _ _ _ _ _ _=>ft fun _ _ _=>rfl,
  mg_of X G a_zQ,
  l_zu,
  l_zu.binds fun _ _ _ _ _ _=>ft fun _ _ _=>rfl,
  mg_of X G a_zu,
  l_zA,
  l_zA.binds fun _ _ _ _ _ _=>cH fun _ _=>rfl,
  mg_of X G a_zA,
  l_zM,
  l_zM.binds fun _ _ _ _ _ _=>ft fun _ _ _=>rfl,
  mg_of X G a_zM,
  l_zU,
  l_zU.binds fun _ _ _ _ _ _=>ft fun _ _ _=>rfl,
  mg_of X G a_zU,
  l_zq,
  l_zq.binds fun _ _ _ _ _ _=>cH fun _ _=>rfl,
  mg_of X G a_zq,
  l_zT,
  l_zT.binds fun _ _ _ _ _ _=>cH fun _ _=>rfl,
  mg_of X G a_zT,
  l_zb,
  l_zb.binds fun _ _ _ _ _ _=>cH fun _ _=>rfl,
  mg_of X G a_zb,
  l_zV,
  l_zV.binds fun _ _ _ _ _ _=>yF fun _ _ _ _=>rfl,
  mg_of X G a_zV,
  l_zt,
  l_zt.binds fun _ _ _ _ _ _=>cH fun _ _=>rfl,
  mg_of X G a_zt,
  l_zN,
  l_zN.binds fun _ _ _ _ _ _=>cH fun _ _=>rfl,
  mg_of X G a_zN,
  l_zw,
  l_zw.binds fun _ _ _ _ _ _=>ft fun _ _ _=>rfl,
  mg_of X G a_zw,
  l_zp,
  l_zp.binds fun _ _ _ _ _ _=>cH fun _ _=>rfl,
  mg_of X G a_zp,
  l_zI,
  l_zI.binds fun _ _ _ _ _ _=>ft fun _ _ _=>rfl,
  mg_of X G a_zI,
  l_zC,
  l_zC.binds fun _ _ _ _ _ _=>cH fun _ _=>rfl,
  mg_of X G a_zC,
  l_zB,
  l_zB.binds fun _ _ _ _ _ _=>cH fun _ _=>rfl,
  mg_of X G a_zB,
  l_zm,
  l_zm.binds fun _ _ _ _ _ _=>ft fun _ _ _=>rfl,
  mg_of X G a_zm,
  l_zz,
  l_zz.binds fun _ _ _ _ _ _=>cH fun _ _=>rfl,
  mg_of X G a_zz,
  l_zO,
  l_zO.binds fun _ _ _ _ _ _=>ft fun _ _ _=>rfl,
  mg_of X G a_zO,
  l_ze,
  l_ze.binds fun _ _ _ _ _ _=>ft fun _ _ _=>rfl,
  mg_of X G a_ze,
  l_zK,
  l_zK.binds fun _ _ _ _ _ _=>ft fun _ _ _=>rfl,
  mg_of X G a_zK,
  l_zs,
  l_zs.binds fun _ _ _ _ _ _=>ft fun _ _ _=>rfl,
  mg_of X G a_zs,
  l_zi,
  l_zi.binds fun _ _ _ _ _ _=>ft fun _ _ _=>rfl,
  mg_of X G a_zi,
  l_zJ,
  l_zJ.binds fun _ _ _ _ _ _=>yF fun _ _ _ _=>rfl,
  mg_of X G a_zJ,
  l_zG,
  l_zG.binds fun _ _ _ _ _ _=>cH fun _ _=>rfl,
  mg_of X G a_zG,
  l_zW,
  l_zW.binds fun _ _ _ _ _ _=>yV fun _=>rfl,
  mg_of X G a_zW,
  mg_of X G C_A,
  ⟨pg_A,hd_A,po_A,sa_A⟩,
  ⟨mk_A,a_zo,i_zo,kc_A⟩,
  mg_none_of X G z_all,
  mg_none_of X G z_any,
  mg_none_of X G z_enumerate,
  mg_none_of X G z_int,
  mg_none_of X G z_len,
  mg_none_of X G z_list,
  mg_none_of X G z_range,
  mg_none_of X G z_reversed,
  mg_none_of X G z_set,
  mg_none_of X G z_sorted,
  mg_none_of X G z_tuple,
  ⟨_,mg_of X G v_MOST_BOWS,⟨_,rfl⟩⟩,
  ⟨_,mg_of X G v_MOST_NAMES,⟨_,rfl⟩⟩,
  nA_bows,
  nA_count,
  nA_ties⟩,rfl,fun s v=>.of_eq rfl⟩
theorem BZ{K:PySem.W.Frag}{mg:Str->Option Value}{f:Addr}{x:Str}(h:∃t:Ad,Tx K mg t/\t.a_zW=f/\∀(s:Shared) (v:Value),BindsTo s t.d_zW ⟨[v],[]⟩ [(x,v)])(e:mg "law"=some (.ref f)) :
  ∃t:Ad,Tx K mg t/\mg "law"=some (.ref t.a_zW)/\∀(s:Shared) (v:Value),BindsTo s t.d_zW ⟨[v],[]⟩ [(x,v)]:=by
 obtain⟨t,T,rfl,b⟩:=h;exact⟨t,T,e,b⟩
end Lw
end
open PySem PySem.W PyProof.Rows
set_option maxRecDepth 100000 in
set_option maxHeartbeats 0 in
theorem PySem.Challenge.cw_doingbook_k53_whole_never_both_holds : PySem.Challenge.rw_doingbook_k53_whole_never_both.Holds := by
 w_on;o_law;k_head;(case hw=>w_witness2)
 k_fill
 refine L2.tR (l:=PySem.Challenge.rw_doingbook_k53_whole_never_both) (n:=63) (k:=10) (x:="_law_script") (CX:=L2.CX0) (sp:=fun K=>U.gZ K U.spL) rfl (by decide) rfl ⟨rfl,by decide,by decide⟩ (fun w h Y=>PySem.W.kIn_of Y) ?F (fun K H a ns hl hO hS=>U.pG hl hO hS) (fun _ _ _ _ z=>z)
 case F =>
  intro w mg fa h KX G hmg;have T:∃t:Lw.Ad,Lw.Tx (L2.KOf KX) mg t/\mg "law"=some (.ref t.a_zW)/\∀(s:Shared) (v:Value),BindsTo s t.d_zW ⟨[v],[]⟩ [("_law_script",v)]:=by
   dsimp only[L2.KOf];refine' Lw.BZ (Lw.m7 KX G ?C_A ?a_zP ?l_zP ?a_zD ?l_zD ?a_zR ?l_zR ?a_zx ?l_zx ?a_zL ?l_zL ?a_zo ?i_zo ?l_zo ?a_za ?i_za ?l_za ?a_zd ?i_zd ?l_zd ?a_zf ?i_zf ?l_zf ?a_zc ?i_zc ?l_zc ?a_zl ?i_zl ?l_zl ?a_zh ?i_zh ?l_zh ?a_zj ?i_zj ?l_zj ?a_zr ?i_zr ?l_zr ?a_zF ?l_zF ?a_zy ?l_zy ?a_zk ?l_zk ?a_zn ?l_zn ?a_zS ?l_zS ?a_zE ?l_zE ?a_zg ?l_zg ?a_zH ?l_zH ?a_zv ?l_zv ?a_zQ ?l_zQ ?a_zu ?l_zu ?a_zA ?l_zA ?a_zM ?l_zM ?a_zU ?l_zU ?a_zq ?l_zq ?a_zT ?l_zT ?a_zb ?l_zb ?a_zV ?l_zV ?a_zt ?l_zt ?a_zN ?l_zN ?a_zw ?l_zw ?a_zp ?l_zp ?a_zI ?l_zI ?a_zC ?l_zC ?a_zB ?l_zB ?a_zm ?l_zm ?a_zz ?l_zz ?a_zO ?l_zO ?a_ze ?l_ze ?a_zK ?l_zK ?a_zs ?l_zs ?a_zi ?l_zi ?a_zJ ?l_zJ ?a_zG ?l_zG ?a_zW ?l_zW ?pg_A ?hd_A ?po_A ?sa_A ?mk_A ?kc_A ?z_all ?z_any ?z_enumerate ?z_int ?z_len ?z_list ?z_range ?z_reversed ?z_set ?z_sorted ?z_tuple ?v_MOST_BOWS ?v_MOST_NAMES ?nA_bows ?nA_count ?nA_ties) ?tl
   case C_A|a_zP|a_zD|a_zR|a_zx|a_zL|a_zF|a_zy|a_zk|a_zn|a_zS|a_zE|a_zg|a_zH|a_zv|a_zQ|a_zu|a_zA|a_zM|a_zU|a_zq|a_zT|a_zb|a_zV|a_zt|a_zN|a_zw|a_zp|a_zI|a_zC|a_zB|a_zm|a_zz|a_zO|a_ze|a_zK|a_zs|a_zi|a_zJ|a_zG|a_zW=>delta Lw.nX1;k_is
   case z_all|z_any|z_enumerate|z_int|z_len|z_list|z_range|z_reversed|z_set|z_sorted|z_tuple=>delta Lw.nX2;k_is
   case a_zo|a_za|a_zd|a_zf|a_zc|a_zl|a_zh|a_zj|a_zr=>delta Lw.fX1;k_is
   case i_zo|i_za|i_zd|i_zf|i_zc|i_zl|i_zh|i_zj|i_zr|pg_A|hd_A|po_A|sa_A|mk_A|kc_A|v_MOST_BOWS|v_MOST_NAMES|nA_bows|nA_count|nA_ties=>k_is
   case l_zP|l_zD|l_zR|l_zx|l_zL|l_zo|l_za|l_zd|l_zf|l_zc|l_zl|l_zh|l_zj|l_zr|l_zF|l_zy|l_zk|l_zn|l_zS|l_zE|l_zg|l_zH|l_zv|l_zQ|l_zu|l_zA|l_zM|l_zU|l_zq|l_zT|l_zb|l_zV|l_zt|l_zN|l_zw|l_zp|l_zI|l_zC|l_zB|l_zm|l_zz|l_zO|l_ze|l_zK|l_zs|l_zi|l_zJ|l_zG|l_zW=>apply L2.Aj<;>k_is
   (case tl=>exact PySem.W.mg_of KX G (by k_is))
  obtain⟨t,T,e,hb⟩:=T;have e0:=hmg.symm.trans e;cases e0;exact⟨t.d_zW,hb,fun base kb nb=>Lw.DU T⟩
