import PyProof.Rows.All
import Wide.All
import OpenK.AllK
import Wide.FinOn
import Lean
import PyProof.EqAt
import PyProof.EqKinds
import PyProof.TupleCall
import PyProof.NeKinds
import PyProof.StationsW
import PyProof.RulesAs
import PyProof.ExcClass2
import PyProof.IsiH_tuple
import PyProof.NsDelKeeps
import PyProof.ConsumeWalk
import PyProof.Rows.SortWalk
import PySem.SetOps
import PySem.Builtin.Tuple.Common
import PyProof.Rows.SetFrom
import PyProof.TupleKey
import PyProof.SetRoads
import KE.KSortTup
import PyProof.DictWalks
import PyProof.FactsAll.set
import PyProof.CollectWalk
import KE.KDictList
import PyProof.Rows.Range3
import PyProof.ListRange
import PyProof.TupleOfStr
import KE.KUnpack
import PyProof.Draws
import PyProof.EnumMake
import PyProof.TupleIter
import PyProof.WalksMore
import KE.KRevIter
import PyProof.CollectIter
import PyProof.Rows.Tup
import PyProof.SumAny
import PyProof.ZipIter
import PyProof.Rows.ZipGen
import PyProof.Rows.SeqMore2
import PySem.Challenge.RW_doingbook_k43_formulas_of_papers
set_option Elab.async false
namespace PySem.W.Fast
def tw5589067631249581651:=()
def tw12422758709142540257:=()
def tw11701505431787086358:=()
def tw5786820540086684965:=()
def tw1650227919153738382:=()
def tw11208828575033560539:=()
def tw8903659064920198837:=()
def tw6168379130270917554:=()
def tw18062290594168583637:=()
def tw138826674998158963:=()
def tw16985837620309006196:=()
def tw13707704133115832289:=()
def tw16306688174673989139:=()
def tw8351969017722090746:=()
def tw9556839468297231534:=()
def tw15727422741540940083:=()
def tw9216572750858531687:=()
def tw10087581017720284089:=()
def tw8064077753516129725:=()
def tw1284093236320336634:=()
def tw4991343845226537219:=()
def tw1179557324590360296:=()
def tw4107030158351021580:=()
def tw12583098940701525872:=()
def tw17226971618895169938:=()
def tw962817356191765905:=()
def tw3479621287095681561:=()
def tw1535044717352865447:=()
def tw3448126873997413759:=()
def tw15773982342582020575:=()
def tw4057759847192150817:=()
def tw15511407196965481647:=()
def tw11889691829197759531:=()
def tw14194743309431890059:=()
def tw15996806119103069918:=()
def tw16307033730914454449:=()
def tw3499225924642457257:=()
def tw528265382703704346:=()
def tw7640541616074744812:=()
def tw4539345002555695214:=()
def tw9811065059724737830:=()
def tw6055584177176950232:=()
def tw17756850592782124733:=()
def tw1076052241488846800:=()
def tw4858392213283631436:=()
def tw9402556847448585918:=()
def tw17943731621590727970:=()
def tw16516523934638603099:=()
def tw5315170481666953177:=()
def tw13957539644558702579:=()
def tw18428244785092367358:=()
def tw7719842075197920329:=()
def tw10099524415979259189:=()
def tw9019213499390350343:=()
def tw4580636875831194583:=()
def tw11010828973160916574:=()
def tw4574400617456678150:=()
def tw4606608879255843289:=()
def tw6605334157865985511:=()
def tw6365928567219962431:=()
def tw16018315755065175615:=()
def tw8391247815499970893:=()
def tw14602203410193399494:=()
def tw6544709583898839790:=()
def tw17324207825032407235:=()
def tw10868820584163208571:=()
def tw10273907619762845615:=()
def tw17532932557262394703:=()
def tw4032824753867161281:=()
def tw10661604414558901373:=()
def tw18442033566753728625:=()
def tw6654587135440055444:=()
def tw11610749125486297116:=()
def tw16970730502045704883:=()
def tw6344390155090634172:=()
def tw16834449452093590369:=()
def tw14939116563284069531:=()
def tw18178199052419650289:=()
def tw8346511620640219276:=()
def tw907461826345387442:=()
def tw14881419409853760843:=()
def tw12955330809172912642:=()
def tw10970115467864631665:=()
def tw2969292544758599710:=()
def tw16151604372214425286:=()
def tw12094059706358922300:=()
def tw4763061143846881422:=()
def tw10764450032744126719:=()
def tw2412761714305073794:=()
def tw5431171246930199465:=()
def tw2633587271474241206:=()
def tw13095984763670585803:=()
def tw3705632038518833484:=()
def tw9453312393490439948:=()
def tw10299316321899758224:=()
def tw6094146548359283304:=()
def tw15986583316868684704:=()
def tw3645635496576578143:=()
def tw7381079304225910378:=()
def tw2621185457400914061:=()
def tw7470349633007785452:=()
def tw11790705604790157570:=()
def tw6716719896893705516:=()
def tw10409280254644964804:=()
def tw3327185647721652985:=()
def tw8754183921933152463:=()
def tw14567379602238686279:=()
def tw12016314627929144125:=()
def tw12163631514078290378:=()
def tw18184453605528150002:=()
def tw2439187846651241994:=()
def tw17896896139924371658:=()
def tw9163466421599538261:=()
def tw4492942599731056327:=()
def tw8054391180319283286:=()
def tw6122202595295465476:=()
def tw9068332301864174753:=()
def tw11212000019983868945:=()
def tw3947163275452506592:=()
def tw13049805008794137250:=()
def tw17260458409485870969:=()
def tw7608336465557461097:=()
def tw10592519930833852378:=()
def tw9629445934962436567:=()
def tw12977098527785730698:=()
def tw10312671588567188732:=()
def tw14655346253505793099:=()
def tw10859315065009453743:=()
def tw6034986682080028233:=()
def tw2461711081416803878:=()
def tw13066961219830579051:=()
def tw12592537271783639208:=()
def tw4505355760420404335:=()
def tw6702857781605931468:=()
def tw16856866381201233959:=()
def tw14952970693097540941:=()
def tw1478273669181815060:=()
def tw661181347137863943:=()
def tw16999389887924600178:=()
def tw11067025965085135553:=()
def tw1417216082849579599:=()
def tw10291858647302975711:=()
def tw11002320316226080751:=()
def tw17276142949778018569:=()
def tw4293510496631498025:=()
def tw4642198918594796849:=()
def tw8805551612503633784:=()
def tw13715017438672322969:=()
def tw3232023030318251919:=()
def tw14599670353849926459:=()
def tw8537351134478038459:=()
def tw3855170106126127650:=()
def tw454780089534120516:=()
def tw5215184715541950923:=()
def tw9130784603791519451:=()
def tw7608958045677078237:=()
def tw5500817796785403808:=()
def tw2439932912621509269:=()
def tw7959048723781591531:=()
def tw10834718640091463573:=()
def tw14756065085371387129:=()
def tw11826515486736536810:=()
def tw9324097768497772898:=()
def tw7541079210682123186:=()
def tw3457713615587296263:=()
def tw17580989754807251292:=()
def tw3754428698507700291:=()
def tw10582852631663162514:=()
def tw9289790798703796730:=()
def tw17601194987289886284:=()
def tw3794734232772111270:=()
def tw13430693979486910347:=()
def tw10998422365838416672:=()
def tw8317003790136468622:=()
def tw13260152594393426192:=()
def tw1389891205181555006:=()
def tw2984779421838304313:=()
def tw3210721938113864892:=()
def tw326278221825773272:=()
def tw10224701094428989297:=()
def tw15802782217387214510:=()
def tw17891180312690518977:=()
def tw4672382335520804038:=()
def tw6796381905374624315:=()
def tw10676719541810804420:=()
def tw16653288432011188844:=()
def tw6611062148586502252:=()
def tw8300224518438499544:=()
def tw17981789875347765158:=()
def tw14682038576515820808:=()
def tw4738285945295198972:=()
def tw15089397089870899928:=()
def tw1157795413332640156:=()
def tw17260388379440765375:=()
def tw3967144403293577937:=()
def tw13375852614324096482:=()
def tw5409176248903883860:=()
def tw427562175865088251:=()
def tw3753675881416582584:=()
def tw14971739340701542913:=()
def tw10765854644947658448:=()
def tw5380755111096692546:=()
def tw15517873797108440932:=()
def tw6331525514760613660:=()
def tw2687922290895330465:=()
def tw8950802256069242944:=()
def tw15632890330539171953:=()
def tw2430802049225247141:=()
def tw17019503687803672944:=()
def tw12689922917084119914:=()
def tw12294628769944101622:=()
def tw5751981136250307007:=()
def tw1588121497611621962:=()
def tw5667022506628804184:=()
def tw6833809841112560636:=()
def tw4405279238783094117:=()
def tw7814223740983213493:=()
def tw11575070708899113388:=()
def tw4706868861559243373:=()
def tw5198658608124543534:=()
def tw5008315766065924649:=()
def tw956978196510426100:=()
def tw15839794034488450065:=()
def tw16569127915999205706:=()
def tw11478054026513913203:=()
def tw14094348021785461611:=()
def tw10643732743341675656:=()
def tw4957723931186741715:=()
def tw3981861839827694251:=()
def tw9858951798687192313:=()
def tw8764037989941524397:=()
def tw4095657699627216205:=()
def tw13945332680897964412:=()
def tw14926643873435093720:=()
def tw838707934899479500:=()
def tw4034021914919265442:=()
def tw14233532934625373431:=()
def tw16309404802496205301:=()
def tw17711632312382238641:=()
def tw3514122711717966002:=()
def tw14509289947327596362:=()
def tw6926662806418958579:=()
def tw5134044210813987696:=()
def tw17396434695627585259:=()
def tw17069621333014123685:=()
def tw216315347272543665:=()
def tw9004902915056648469:=()
def tw3418256245907698568:=()
def tw14496961006760327489:=()
def tw7730052347180381879:=()
def tw4934813047709365783:=()
def tw1594392997133471119:=()
def tw9718952996601279713:=()
def tw2735845402221842336:=()
def tw17215568477474310153:=()
def tw14344341823131416344:=()
def tw16664133035787238952:=()
def tw9673506909491068176:=()
def tw228089128093616562:=()
def tw13890969736456416228:=()
def tw10781862878898664330:=()
def tw6254723739222343677:=()
def tw10806724630494614596:=()
def tw17637747616067683241:=()
def tw8009266416425266143:=()
def tw11263762027003778028:=()
def tw14608273665564033769:=()
def tw15960921785874741736:=()
def tw17115676764137950182:=()
def tw13266956171799751451:=()
def tw7601610191889139169:=()
def tw3862131748054274988:=()
def tw17502044278999641321:=()
def tw1155628107893966967:=()
def tw6175950046636669791:=()
def tw3705373489514094126:=()
def tw15996139638159522220:=()
def tw16416123077198074268:=()
def tw15157591211401501768:=()
def tw196005091543033690:=()
def tw13154731746554900391:=()
def tw12137885437195780995:=()
def tw1091683011313828844:=()
def tw16761871657617155693:=()
def tw14774743302927530854:=()
def tw9934679911553496832:=()
def tw7108498376063851789:=()
def tw10757187965166044113:=()
def tw6983872844699345024:=()
def tw6852282307952607425:=()
def tw6444118593534726685:=()
def tw2188380819420928606:=()
def tw3466658408491578543:=()
def tw2540014163702952502:=()
def tw7465701437392077564:=()
def tw5136627751786447405:=()
def tw8771306595406750483:=()
def tw4679087555192105407:=()
def tw2456234023810568112:=()
def tw7563685602003295913:=()
def tw7521376054179376750:=()
def tw2772029784762293059:=()
def tw8355062385919158511:=()
def tw5271665997110550453:=()
def tw3485019420008922849:=()
def tw10924668259275793343:=()
def tw1940269991468842774:=()
def tw4314125892228518291:=()
def tw6041123184083869339:=()
def tw11423881717723988794:=()
def tw901654376077836065:=()
def tw11673289577107775158:=()
def tw11390949265169702830:=()
def tw16879901796265776580:=()
def tw3567807124255310793:=()
def tw11928920453815753954:=()
def tw3269309253363077114:=()
def tw8280288396777275207:=()
def tw2948629781037710855:=()
def tw9398333201229331187:=()
def tw14669590291980076895:=()
def tw1158773581766270830:=()
def tw1026852598283081523:=()
def tw9252488291126950478:=()
def tw12538910438798742231:=()
def tw219352467863755493:=()
def tw11719476486114981038:=()
def tw4441911177475344440:=()
def tw18133562023403712911:=()
def tw4981786615837716876:=()
def tw9064079040856641:=()
def tw9974250172159803732:=()
def tw8197603711278163735:=()
def tw5518268241639097003:=()
def tw13298498201769617338:=()
def tw465292393930171119:=()
def tw12163451991098270052:=()
def tw7461567076791355982:=()
def tw8879703877609303576:=()
def tw8888372219083877796:=()
def tw11511969814211837714:=()
def tw3027484366360706576:=()
def tw13413547316712344525:=()
def tw2286002785687743546:=()
def tw16126557826604883151:=()
def tw11231761379148397960:=()
def tw2353953071406472761:=()
def tw17481046166925048094:=()
def tw10111902238278537504:=()
def tw18219398502686385053:=()
def tw8848162913280701431:=()
def tw9959969034545400576:=()
def tw14057554904234313176:=()
def tw17884984761448678671:=()
def tw17037846497858731347:=()
def tw832177435791974755:=()
def tw8621619222166811789:=()
def tw9005458185027016387:=()
def tw17553727686882959230:=()
def tw16723991176617192998:=()
def tw15998367716779679128:=()
def tw17998813069833703311:=()
def tw17489096835284734990:=()
def tw13533313445106740159:=()
def tw7003111023125887002:=()
def tw1002035786608278243:=()
def tw9652657307434226536:=()
def tw11080405504661049760:=()
def tw4177256570277830396:=()
def tw14157550760945332171:=()
def tw412609353006897021:=()
def tw14227075395506540173:=()
def tw13394996642420652894:=()
def tw8244801400132631885:=()
def tw8987720919892965737:=()
def tw9350099738269400939:=()
def tw4179657062119017569:=()
def tw2595298658585182231:=()
def tw11654921910991928616:=()
def tw7717124195314193820:=()
def tw6314472964338452724:=()
def tw10249633373769263271:=()
def tw1003827083526799852:=()
def tw941747701028969530:=()
def tw8712296084649671548:=()
def tw6876624856611800551:=()
def tw4496464566687238872:=()
def tw13785340984299903593:=()
def tw620650497067371920:=()
def tw4839059091007718291:=()
def tw16898872443036182674:=()
def tw4614906146327368522:=()
def tw2129968360491008117:=()
def tw17665314701962391096:=()
def tw11584293418802672159:=()
def tw9624851369707693389:=()
def tw11058243299841680055:=()
def tw10421266426708384695:=()
def tw3689805091687507611:=()
def tw3231338531330759459:=()
def tw4603728825783663142:=()
def tw15549028959907114020:=()
def tw16726137206158392853:=()
def tw13377573854882709072:=()
def tw2759346855359283037:=()
def tw10634646656730171690:=()
def tw12191275790959904022:=()
def tw891573838718607626:=()
def tw16257641737255655397:=()
def tw6957798977793910184:=()
def tw15262851613345411872:=()
def tw11026155423260871993:=()
def tw14369047003078350184:=()
def tw9089342885102566711:=()
def tw904260347125755197:=()
def tw8734003352338279211:=()
def tw9853038505636905526:=()
def tw17323780183180264893:=()
def tw7169817967268003903:=()
def tw6619327656399700355:=()
def tw2733802716149806177:=()
def tw9550935192537867272:=()
def tw9757892350737588454:=()
def tw17092189432255924263:=()
def tw7003867617659753598:=()
def tw4638779039012028540:=()
def tw8779708590665429539:=()
def tw3713993560042586578:=()
def tw15445978848936190254:=()
def tw14090110117224867430:=()
def tw7149185099135920184:=()
def tw14013643673325828001:=()
def tw1696164466132950395:=()
def tw357173734811792193:=()
def tw15474910658480685239:=()
def tw5051878590479173993:=()
def tw12553738925404584425:=()
def tw10111327982638074101:=()
def tw17199510730253745677:=()
def tw8668857367997361409:=()
def tw11430752020392313133:=()
def tw11888554537499774643:=()
def tw4200609787707291425:=()
def tw7690435487848050374:=()
def tw13147149712752269005:=()
def tw4786710719552443256:=()
def tw6096946217067520384:=()
def tw5163723335288825512:=()
def tw10045259695390599827:=()
def tw13466732168067884877:=()
def tw2080692089514273470:=()
def tw7398256185744535885:=()
def tw6715139940464684298:=()
def tw9272393450509769965:=()
def tw9884972920162717871:=()
end PySem.W.Fast
set_option genSizeOf false
set_option Elab.async false
set_option linter.all false
set_option maxRecDepth 100000
section
open PySem PySem.Spec PyProof.Rows
theorem rS:type_of% @List.length_map:=@List.length_map
theorem sH:type_of% @List.getElem?_eq_getElem:=@List.getElem?_eq_getElem
theorem uH:type_of% @wpAny_bind:=@wpAny_bind
theorem va:type_of% @Heap.get?_push_of_some:=@Heap.get?_push_of_some
theorem vM:type_of% @List.getElem?_eq_some_iff:=@List.getElem?_eq_some_iff
theorem wa:type_of% @wpAny_pure:=@wpAny_pure
theorem wJ:type_of% @List.getD_eq_getElem?_getD:=@List.getD_eq_getElem?_getD
theorem wW:type_of% @List.length_append:=@List.length_append
theorem xI:type_of% @List.mem_singleton:=@List.mem_singleton
theorem xP:type_of% @List.mem_cons_self:=@List.mem_cons_self
theorem xV:type_of% @Heap.lt_size:=@Heap.lt_size
theorem yd:type_of% @List.map_cons:=@List.map_cons
theorem yf:type_of% @Heap.get?_push_size:=@Heap.get?_push_size
theorem yi:type_of% @Nat.le_refl:=@Nat.le_refl
theorem zi:type_of% @List.mem_append:=@List.mem_append
theorem Bc:type_of% @List.mem_map:=@List.mem_map
theorem Bo:type_of% @List.mem_cons_of_mem:=@List.mem_cons_of_mem
theorem Br:type_of% @List.size_toArray:=@List.size_toArray
theorem B6:type_of% @Nat.ne_of_lt:=@Nat.ne_of_lt
theorem CI:type_of% @if_neg:=@if_neg
theorem Ic:type_of% @List.mem_cons:=@List.mem_cons
theorem Ie:type_of% @List.map_append:=@List.map_append
theorem Ig:type_of% @Array.getElem?_eq_getElem:=@Array.getElem?_eq_getElem
theorem Ih:type_of% @List.length_cons:=@List.length_cons
theorem Ii:type_of% @List.getElem_mem:=@List.getElem_mem
theorem Ij:type_of% @if_pos:=@if_pos
theorem Ik:type_of% @PassesOwn.never:=@PassesOwn.never
theorem Il:type_of% @List.getElem_map:=@List.getElem_map
theorem Im:type_of% @PySem.boot_len:=@PySem.boot_len
theorem Io:type_of% @List.mem_filter:=@List.mem_filter
theorem Ip:type_of% @List.length_singleton:=@List.length_singleton
theorem Iq:type_of% @Nat.lt_of_lt_of_le:=@Nat.lt_of_lt_of_le
theorem Ir:type_of% @List.all_eq_true:=@List.all_eq_true
theorem Iu:type_of% @List.length_take:=@List.length_take
theorem Iw:type_of% @List.mem_of_getElem?:=@List.mem_of_getElem?
theorem Iy:type_of% @List.take_length:=@List.take_length
theorem Iz:type_of% @List.filter_cons:=@List.filter_cons
theorem IA:type_of% @PySem.F.slot_list_append:=@PySem.F.slot_list_append
theorem IB:type_of% @PySem.F.type_list_append:=@PySem.F.type_list_append
theorem IC:type_of% @Nat.le_trans:=@Nat.le_trans
theorem ID:type_of% @List.mem_range:=@List.mem_range
theorem IE:type_of% @List.mem_append_right:=@List.mem_append_right
theorem IF:type_of% @wpAny_newObj_type:=@wpAny_newObj_type
theorem IG:type_of% @List.take_add_one:=@List.take_add_one
theorem IH:type_of% @Option.some.inj:=@Option.some.inj
theorem II:type_of% @List.getElem?_map:=@List.getElem?_map
theorem IJ:type_of% @List.mem_append_left:=@List.mem_append_left
theorem IK:type_of% @PyProof.Rows.callWith_type1:=@PyProof.Rows.callWith_type1
theorem IL:type_of% @decide_eq_true:=@decide_eq_true
theorem IM:type_of% @List.length_range:=@List.length_range
theorem IP:type_of% @List.append_nil:=@List.append_nil
theorem IQ:type_of% @Around.under_plainId:=@Around.under_plainId
theorem IS:type_of% @Array.getElem?_toList:=@Array.getElem?_toList
theorem IT:type_of% @sizeLine_eq:=@sizeLine_eq
theorem IU:type_of% @wpAny_call_entry:=@wpAny_call_entry
theorem IV:type_of% @List.map_map:=@List.map_map
theorem IW:type_of% @List.length_eq_zero_iff:=@List.length_eq_zero_iff
theorem IX:type_of% @decide_eq_true_eq:=@decide_eq_true_eq
theorem IY:type_of% @Heap.get?_update_self:=@Heap.get?_update_self
theorem IZ:type_of% @List.length_filter_le:=@List.length_filter_le
theorem I0:type_of% @codeAny_builtin:=@codeAny_builtin
theorem Ja:type_of% @List.getElem?_append_left:=@List.getElem?_append_left
theorem Jb:type_of% @Heap.SameBut.update:=@Heap.SameBut.update
theorem Jc:type_of% @List.length_drop:=@List.length_drop
theorem Jd:type_of% @List.lookup_cons:=@List.lookup_cons
theorem Je:type_of% @Int.toNat_natCast:=@Int.toNat_natCast
theorem Jf:type_of% @List.getElem?_append_right:=@List.getElem?_append_right
theorem Jg:type_of% @List.exists_cons_of_ne_nil:=@List.exists_cons_of_ne_nil
theorem Jh:type_of% @boot_tuple:=@boot_tuple
theorem Ji:type_of% @List.filter_eq_self:=@List.filter_eq_self
theorem Jj:type_of% @List.drop_eq_getElem_cons:=@List.drop_eq_getElem_cons
theorem Jk:type_of% @Nat.zero_le:=@Nat.zero_le
theorem Jl:type_of% @wpAny_Call_Name_kw:=@wpAny_Call_Name_kw
theorem Jm:type_of% @List.getElem?_eq_none:=@List.getElem?_eq_none
theorem Jn:type_of% @decide_eq_false:=@decide_eq_false
theorem Jo:type_of% @wpAny_ite_split:=@wpAny_ite_split
theorem Jp:type_of% @wpAny_callSpecial?_slot:=@wpAny_callSpecial?_slot
theorem Jq:type_of% @Bool.and_eq_true:=@Bool.and_eq_true
theorem Jr:type_of% @wpAny_holding:=@wpAny_holding
theorem Js:type_of% @Classical.byContradiction:=@Classical.byContradiction
theorem Jt:type_of% @Array.length_toList:=@Array.length_toList
theorem Ju:type_of% @builtinLookup_eq_fast:=@builtinLookup_eq_fast
theorem Jv:type_of% @Bool.eq_iff_iff:=@Bool.eq_iff_iff
theorem Jw:type_of% @List.getElem?_set_self:=@List.getElem?_set_self
theorem Jx:type_of% @Nat.lt_succ_of_lt:=@Nat.lt_succ_of_lt
theorem Jy:type_of% @of_decide_eq_true:=@of_decide_eq_true
theorem Jz:type_of% @Heap.size_push:=@Heap.size_push
theorem JA:type_of% @Bool.false_ne_true:=@Bool.false_ne_true
theorem JB:type_of% @wpAny_field:=@wpAny_field
theorem JC:type_of% @F.plain_set_update_loop:=@F.plain_set_update_loop
theorem JD:type_of% @wpAny_truthy_bool:=@wpAny_truthy_bool
theorem JE:type_of% @Nat.ne_of_gt:=@Nat.ne_of_gt
theorem JF:type_of% @wpAny_setState_of:=@wpAny_setState_of
theorem JG:type_of% @Array.getElem?_eq_none:=@Array.getElem?_eq_none
theorem JH:type_of% @isSubtype_type:=@isSubtype_type
theorem JI:type_of% @List.append_assoc:=@List.append_assoc
theorem JJ:type_of% @wpAny_mono:=@wpAny_mono
theorem JK:type_of% @beq_iff_eq:=@beq_iff_eq
theorem JL:type_of% @typeLookup_type:=@typeLookup_type
theorem JM:type_of% @Nat.lt_irrefl:=@Nat.lt_irrefl
theorem JN:type_of% @plainId_quiet:=@plainId_quiet
theorem JO:type_of% @wpAny_of_eq:=@wpAny_of_eq
theorem JP:type_of% @Nat.lt_succ_self:=@Nat.lt_succ_self
theorem JQ:type_of% @List.drop_length:=@List.drop_length
theorem JR:type_of% @List.Perm.refl:=@List.Perm.refl
theorem JS:type_of% @Bool.false_eq_true:=@Bool.false_eq_true
theorem JT:type_of% @wpAny_setField:=@wpAny_setField
theorem JU:type_of% @List.pairwise_cons:=@List.pairwise_cons
theorem JV:type_of% @wpAny_passesOwn:=@wpAny_passesOwn
theorem JW:type_of% @List.nodup_cons:=@List.nodup_cons
theorem JX:type_of% @wpAny_specialOf:=@wpAny_specialOf
theorem JY:type_of% @codeAny_mono:=@codeAny_mono
theorem JZ:type_of% @wpAny_pyIter_list:=@wpAny_pyIter_list
theorem J0:type_of% @List.pairwise_map:=@List.pairwise_map
theorem J1:type_of% @List.map_drop:=@List.map_drop
theorem J2:type_of% @Nat.le_of_lt:=@Nat.le_of_lt
namespace L2
section
abbrev Key:=Sum Int Str
def kz:Key->Value->Bool
 | .inl k,v=>Value.isInt k v
 | .inr x,v=>Value.isStrOf x v
def Gp(w:World):Key->Int
 | .inl k=>hashInt k
 | .inr x=>hashStr w x
theorem bJ:∀{k:Key} {v:Value},kz k v=true->(∃i t,k=Sum.inl i/\v=Value.int i t)∨(∃x t,k=Sum.inr x/\v=Value.str x t)
 | .inl i,v,h=>by
  obtain⟨t,e⟩:=Value.isInt_shape (k:=i) (v:=v) h;exact .inl ⟨i,t,rfl,e⟩
 | .inr x,v,h=>by
  obtain⟨t,e⟩:=Value.isStrOf_shape (x:=x) (v:=v) h;exact .inr ⟨x,t,rfl,e⟩
theorem rb(i:Int)(t:Tok):kz (.inl i) (.int i t)=true:=by simp[kz,Value.isInt]
theorem rC(x:Str)(t:Tok):kz (.inr x) (.str x t)=true:=by simp[kz,Value.isStrOf]
theorem BS(a b:Int):decide ((Sum.inl a:Key)=Sum.inl b)=(a==b):=by
 by_cases e:a=b
 ·subst e;simp
 ·have h:¬(Sum.inl a:Key)=Sum.inl b:=fun q=>e (Sum.inl.inj q);rw[Jn h];exact(beq_eq_false_iff_ne.mpr e).symm
theorem C5(a b:Str):decide ((Sum.inr a:Key)=Sum.inr b)=decide (a=b):=by
 by_cases e:a=b
 ·subst e;simp
 ·have h:¬(Sum.inr a:Key)=Sum.inr b:=fun q=>e (Sum.inr.inj q);rw[Jn h,Jn e]
theorem Bh(a:Int)(b:Str):decide ((Sum.inl a:Key)=Sum.inr b)=false:=Jn (fun q=>nomatch q)
theorem BM(a:Str)(b:Int):decide ((Sum.inr a:Key)=Sum.inl b)=false:=Jn (fun q=>nomatch q)
def bS(prog:Program)(w:World):PySem.KeyKind prog w Key where
 is:=kz
 hash:=Gp w
 inj:=fun v a b ha hb=>by
  rcases bJ ha with⟨i,t,rfl,rfl⟩ |⟨x,t,rfl,rfl⟩
  ·rcases bJ hb with⟨j,u,rfl,e⟩ |⟨y,u,rfl,e⟩
   ·injection e with e1 _;rw[e1]
   ·exact nomatch e
  ·rcases bJ hb with⟨j,u,rfl,e⟩ |⟨y,u,rfl,e⟩
   ·exact nomatch e
   ·injection e with e1 _;rw[e1]
 byValue:=fun k v h=>by
  rcases bJ h with⟨i,t,rfl,rfl⟩ |⟨x,t,rfl,rfl⟩<;>rfl
 pyHash:=fun hv h=>by
  rcases bJ hv with⟨i,t,rfl,rfl⟩ |⟨x,t,rfl,rfl⟩
  ·exact wpAny_pyHash_int h
  ·exact wpAny_pyHash_str h
 eqBool:=fun hu hv h=>by
  rcases bJ hu with⟨i,t,rfl,rfl⟩ |⟨x,t,rfl,rfl⟩
  ·rcases bJ hv with⟨j,u,rfl,rfl⟩ |⟨y,u,rfl,rfl⟩
   ·rw[BS]at h;exact wpAny_eqBool_int h
   ·rw[Bh]at h;exact SeqAt.EqAt.int_str i t y u _ _ _ _ h
  ·rcases bJ hv with⟨j,u,rfl,rfl⟩ |⟨y,u,rfl,rfl⟩
   ·rw[BM]at h;exact SeqAt.EqAt.str_int x t j u _ _ _ _ h
   ·rw[C5]at h;exact wpAny_eqBool_str h
 «strs»:=fun k x t v h=>by
  rcases bJ h with⟨i,u,rfl,e⟩ |⟨y,u,rfl,e⟩
  ·exact nomatch e
  ·injection e with e1 _;subst e1;cases v<;>rfl
theorem mF(prog:Program)(w:World)(i:Int)(t:Tok):(bS prog w).is (.inl i) (.int i t)=true:=rb i t
theorem mJ(prog:Program)(w:World)(x:Str)(t:Tok):(bS prog w).is (.inr x) (.str x t)=true:=rC x t
end
section
inductive V where
 | non | bl (b:Bool) | int (i:Int) | str (x:Str) | byt (b:Array UInt8) | flt (b:UInt64) | ref (a:Addr) | ty (n:String)
 deriving DecidableEq
def RelV:V->Value->Prop
 | .non,u=>u=Value.none
 | .bl b,u=>u=Value.bool b
 | .int i,u=>∃t,u=Value.int i t
 | .str x,u=>∃t,u=Value.str x t
 | .byt b,u=>∃t,u=Value.bytes b t
 | .flt b,u=>∃t,u=Value.float b t
 | .ref a,u=>u=Value.ref a
 | .ty n,u=>u=Value.type n
abbrev Vals:List V->List Value->Prop:=Paired RelV
theorem Vals.length{xs:List V}{us:List Value}(r:Vals xs us):xs.length=us.length:=Paired.length r
theorem Vals.get:∀{xs:List V} {us:List Value} {i:Nat} {x:V},Vals xs us->xs[i]?=some x->∃u,us[i]?=some u/\RelV x u
 | _,_,_,_,.nil,e=>by simp at e
 | _,_,0,_,.cons r _,e=>by simp at e;subst e;exact⟨_,rfl,r⟩
 | _,_,i+1,x,.cons _ t,e=>by
  obtain⟨u,h1,h2⟩:=Vals.get (i:=i) (x:=x) t (by simpa using e);exact⟨u,by simpa using h1,h2⟩
theorem Vals.append:∀{xs ys:List V} {us ws:List Value},Vals xs us->Vals ys ws->Vals (xs++ys) (us++ws)
 | _,_,_,_,.nil,s=>s
 | _,_,_,_,.cons r t,s=>.cons r (Vals.append t s)
theorem Vals.take:∀{xs:List V} {us:List Value} (n:Nat),Vals xs us->Vals (xs.take n) (us.take n)
 | _,_,0,_=>.nil
 | _,_,_+1,.nil=>.nil
 | _,_,n+1,.cons r t=>.cons r (Vals.take n t)
theorem Vals.drop:∀{xs:List V} {us:List Value} (n:Nat),Vals xs us->Vals (xs.drop n) (us.drop n)
 | _,_,0,r=>r
 | _,_,_+1,.nil=>.nil
 | _,_,n+1,.cons _ t=>Vals.drop n t
def gH:Option V->Option Value->Prop
 | some v,some u=>RelV v u
 | none,none=>True
 | _,_=>False
def KV{κ:Type}:List (κ×V)->List (κ×Value)->Prop:=Paired fun(p:κ×V) (q:κ×Value)=>p.1=q.1/\RelV p.2 q.2
def kV:Key->V
 | .inl i=>.int i
 | .inr x=>.str x
inductive HO where
  | lst (xs:List V)
  | tup (xs:List V)
  | dK (kvs:List (Key×V)) | dT (kvs:List (List Key×V))
  | set (S:Int->Bool) (n:Nat)
  | ins (C dx:Addr) (fs:List (Str×V))
  | own (x:Addr)
  | xd (fs:List (Str×V))
  | met (f x:Addr)
  | rng (lo hi:Int)
  | frz (o:Obj) (u:HO)
  | tbl (ps:Array Value)
  | ext (φ:Heap->Prop)
abbrev Hp:=Addr->Option HO
def upd(H:Hp)(a:Addr)(o:HO):Hp:=fun b=>if b=a then some o else H b
theorem bc{H:Hp}{a:Addr}{o:HO}:upd H a o a=some o:=by unfold upd;rw[Ij rfl]
theorem aP{H:Hp}{a b:Addr}{o:HO}(h:b≠a):upd H a o b=H b:=by unfold upd;rw[CI h]
theorem u9{H:Hp}{a b:Addr}{o u:HO}(h:H a=some o)(h':H b=some u)(d:o≠u):a≠b:=by
 intro e;subst e;rw[h]at h';exact d (IH h')
theorem aY{H:Hp}{a b:Addr}{o:HO}(h:H a=some o)(h':H b=none):a≠b:=by
 intro e;subst e;rw[h]at h';cases h'
section
variable (P:Program)(w:World)
def bM(H:Hp)(h:Heap)(a:Addr):HO->Prop
 | .lst xs=>xs.length≤sizeLine/\∃(its:List Value) (n:Nat),Vals xs its/\h.get? a=some { cls:=.type "list",data:=.seq its.toArray n }
 | .tup xs=>xs.length≤sizeLine/\∃its:List Value,Vals xs its/\IsTup h a its.toArray
 | .dK kvs=>kvs.length≤sizeLine/\(a==sysModules)=false/\∃vs,KV kvs vs/\h.DictOf (bS P w) a vs
 | .dT kvs=>kvs.length≤sizeLine/\(a==sysModules)=false/\∃xs:List (List Key×Addr×Value),
   Paired (fun(p:List Key×V) (q:List Key×Addr×Value)=>p.1=q.1/\H q.2.1=some (.tup (p.1.map kV))/\RelV p.2 q.2.2) kvs xs /\
   ∃o es ep,h.get? a=some o/\o.ExactDict/\o.data=.dict es ep/\es.toList=xs.map (entryOfKey (tupleKind (bS P w)))/\(xs.map (·.1)).Nodup
 | .set S n=>h.SetOf (intKind P w) a S n
 | .ins C dx fs=>H dx=some (.own a)/\fs.length≤1000/\dx≠a/\h.get? a=some (PySem.W.instObj C dx) /\
   ∃mA,h.Ns1 dx mA/\(∀f,gH (fs.lookup f) (mA f))/\PySem.Within mA (fs.map (·.1))
 | .own _=>∃o,h.get? a=some o
 | .xd fs=>∃mA,h.Ns1 a mA/\∀f,gH (fs.lookup f) (mA f)
 | .rng lo hi=>∃t u v,h.get? a=some { cls:=.type "range",data:=.fields #[.int lo t,.int hi u,.int 1 v] }
 | .frz o u=>h.get? a=some o/\bM H h a u
 | .tbl ps=>h.get? a=some { cls:=.none,data:=.fields ps }
 | .met f x=>h.get? a=some (PySem.W.methodObj (.ref f) (.ref x))
 | .ext φ=>φ h/\(∃o,h.get? a=some o)/\∀h1 h2:Heap,φ h1->(∀o,h1.get? a=some o->h2.get? a=some o)->φ h2
def HOk(H:Hp)(h:Heap):Prop:=∀a o,H a=some o->bM P w H h a o
end
section
variable {P:Program}{w:World}{H H':Hp}{h h':Heap}{a:Addr}{o:HO}
theorem bM.lt(x:bM P w H h a o):a<h.objs.size:=by
 cases o with
 | lst xs=>obtain⟨_,_,_,_,e⟩:=x;exact xV e
 | tup xs=>obtain⟨_,_,_,p⟩:=x;exact p.lt
 | dK kvs=>obtain⟨_,_,_,_,o,_,_,e,_⟩:=x;exact xV e
 | dT kvs=>obtain⟨_,_,_,_,o,_,_,e,_⟩:=x;exact xV e
 | set S n=>obtain⟨o,_,_,_,e,_⟩:=x;exact xV e
 | ins C dx fs=>obtain⟨_,_,_,e,_⟩:=x;exact xV e
 | own y=>obtain⟨_,e⟩:=x;exact xV e
 | xd fs=>obtain⟨_,⟨_,_,_,e,_⟩,_⟩:=x;exact xV e
 | rng lo hi=>obtain⟨_,_,_,e⟩:=x;exact xV e
 | frz ob u=>obtain⟨e,_⟩:=x;exact xV e
 | tbl ps=>exact xV (show h.get? a=some _ from x)
 | met f y=>exact xV (show h.get? a=some _ from x)
 | ext φ=>obtain⟨_,⟨_,e⟩,_⟩:=x;exact xV e
theorem Paired.mapP{α β:Type}{F G:α->β->Prop}:∀{l₁:List α} {l₂:List β},Paired F l₁ l₂->(∀a b,F a b->G a b)->Paired G l₁ l₂
 | _,_,.nil,_=>.nil
 | _,_,.cons r t,f=>.cons (f _ _ r) (Paired.mapP t f)
theorem bM.stay(x:bM P w H h a o)(k:∀b u,(b=a∨H b=some (.own a))->h.get? b=some u->h'.get? b=some u)
  (ho:∀b,H b=some (.own a)->H' b=some (.own a)) (ht:∀b xs,H b=some (.tup xs)->H' b=some (.tup xs)):bM P w H' h' a o:=by
 induction o with
 | lst xs=>obtain⟨z,its,n,r,e⟩:=x;exact⟨z,its,n,r,k _ _ (.inl rfl) e⟩
 | tup xs=>obtain⟨z,its,r,ob,e,c⟩:=x;exact⟨z,its,r,ob,k _ _ (.inl rfl) e,c⟩
 | dK kvs=>obtain⟨z,y,vs,r,ob,es,ep,e,c⟩:=x;exact⟨z,y,vs,r,ob,es,ep,k _ _ (.inl rfl) e,c⟩
 | dT kvs =>
  obtain⟨z,y,xs,r,ob,es,ep,e,c⟩:=x;exact⟨z,y,xs,Paired.mapP r fun p q z=>⟨z.1,ht _ _ z.2.1,z.2.2⟩,ob,es,ep,k _ _ (.inl rfl) e,c⟩
 | set S n=>obtain⟨ob,es,ep,t,e,c⟩:=x;exact⟨ob,es,ep,t,k _ _ (.inl rfl) e,c⟩
 | ins C dx fs =>
  obtain⟨d,z,ne,e,mA,⟨od,es,ep,e2,c⟩,r⟩:=x;exact⟨ho _ d,z,ne,k _ _ (.inl rfl) e,mA,⟨od,es,ep,k _ _ (.inr d) e2,c⟩,r⟩
 | own y=>obtain⟨ob,e⟩:=x;exact⟨ob,k _ _ (.inl rfl) e⟩
 | xd fs=>obtain⟨mA,⟨od,es,ep,e,c⟩,r⟩:=x;exact⟨mA,⟨od,es,ep,k _ _ (.inl rfl) e,c⟩,r⟩
 | rng lo hi=>obtain⟨t,u,v,e⟩:=x;exact⟨t,u,v,k _ _ (.inl rfl) e⟩
 | frz ob u ih=>obtain⟨e,q⟩:=x;exact⟨k _ _ (.inl rfl) e,ih q⟩
 | tbl ps =>
  have e:h.get? a=some { cls:=.none,data:=.fields ps }:=x;show h'.get? a=some { cls:=.none,data:=.fields ps };exact k a _ (.inl rfl) e
 | met f y =>
  have e:h.get? a=some (PySem.W.methodObj (.ref f) (.ref y)):=x;show h'.get? a=some (PySem.W.methodObj (.ref f) (.ref y));exact k a _ (.inl rfl) e
 | ext φ=>obtain⟨p,⟨o,e⟩,st⟩:=x;exact⟨st _ _ p fun o q=>k _ _ (.inl rfl) q,⟨o,k _ _ (.inl rfl) e⟩,st⟩
theorem HOk.lt(x:HOk P w H h)(e:H a=some o):a<h.objs.size:=(x a o e).lt
theorem HOk.fresh(x:HOk P w H h)(e:h.objs.size≤a):H a=none:=by
 cases q:H a with
 | none=>rfl
 | some u=>exact absurd (Iq (x.lt q) e) (JM _)
theorem HOk.kept(x:HOk P w H h)(k:∀b u,h.get? b=some u->h'.get? b=some u):HOk P w H h':=fun a o e =>
 (x a o e).stay (fun b u _ q=>k b u q) (fun _ q=>q) fun _ _ q=>q
theorem HOk.laid(x:HOk P w H h)(k:∀b u,h.get? b=some u->h'.get? b=some u)(hp:h.objs.size≤a)(new:bM P w (upd H a o) h' a o):HOk P w (upd H a o) h':=fun b u e=>by
 have hn:=x.fresh hp;by_cases hb:b=a
 ·subst hb;rw[bc]at e;cases e;exact new
 ·rw[aP hb]at e;exact(x b u e).stay (fun c v _ q=>k c v q) (fun c q=>by rw[aP (aY q hn)];exact q) fun c xs q=>by rw[aP (aY q hn)];exact q
end
def Rd(H:Hp)(a:Addr)(u:HO):Prop:=H a=some u∨∃o,H a=some (.frz o u)
theorem Rd.ok{P:Program}{w:World}{H:Hp}{h:Heap}{a:Addr}{u:HO}(r:Rd H a u)(x:HOk P w H h):bM P w H h a u:=by
 rcases r with r |⟨o,r⟩
 ·exact x a u r
 ·obtain⟨_,q⟩:=x a _ r;exact q
def Mut:Option HO->Prop
 | some (.lst _)=>True
 | some (.dK _)=>True
 | some (.dT _)=>True
 | some (.set _ _)=>True
 | some (.ins _ _ _)=>True
 | some (.ext _)=>True
 | _=>False
section
variable {P:Program}{w:World}{H:Hp}{h h':Heap}{x e:Addr}{o':HO}
theorem HOk.write(ok:HOk P w H h)(mu:Mut (H x))(he:e=x∨H e=some (.own x))(k:∀b u,b≠e->h.get? b=some u->h'.get? b=some u)(heo:∃u,h'.get? e=some u)
  (new:bM P w (upd H x o') h' x o'):HOk P w (upd H x o') h':=fun b u q=>by
 have nown:∀c y,H c=some (.own y)->c≠x:=fun c y r z=>by subst z;rw[r]at mu;exact mu
 have ntup:∀c xs,H c=some (.tup xs)->c≠x:=fun c xs r z=>by subst z;rw[r]at mu;exact mu
 by_cases hb:b=x
 ·subst hb;rw[bc]at q;cases q;exact new
 ·rw[aP hb]at q;by_cases hbe:b=e
  ·have q':H b=some (.own x):=by
    rcases he with z | z
    ·exact absurd (hbe.trans z) hb
    ·rw[hbe];exact z
   rw[q]at q';cases q';obtain⟨v,hv⟩:=heo;exact⟨v,by rw[hbe];exact hv⟩
  ·refine(ok b u q).stay (fun c v hc r=>k c v ?_ r) (fun c r=>by rw[aP (nown c b r)];exact r) fun c xs r=>by rw[aP (ntup c xs r)];exact r
   rcases hc with rfl | hc
   ·exact hbe
   ·rintro rfl;rcases he with z | z
    ·exact nown c b hc z
    ·rw[hc]at z;cases z;exact hb rfl
end
structure Un (fs ex:List Addr) (H H':Hp) (h h':Heap):Prop where
 keep:∀b o,h.get? b=some o->H b=none->b∉fs->b∉ex->h'.get? b=some o
 slot:∀b o,h.get? b=some o->H b=none->b∈fs->b∉ex->∃sl,h'.get? b=some { o with slots:=sl }
 free:∀b o,h.get? b=some o->H b=none->b∉ex->H' b=none
 there:∀b o,h.get? b=some o->b∉ex->∃o',h'.get? b=some o'
 tups:∀b xs,H b=some (.tup xs)->H' b=some (.tup xs)
 frzs:∀b o u,H b=some (.frz o u)->H' b=some (.frz o u)
 tbls:∀b ps,H b=some (.tbl ps)->∃more,H' b=some (.tbl (ps++more))
section
variable {fs fs' ex ex':List Addr}{H H1 H2:Hp}{h h1 h2 h':Heap}{a x e:Addr}{o:HO}
theorem Un.any(u:Un fs ex H H1 h h1){b:Addr}{ob:Obj}(q:h.get? b=some ob)(n:H b=none)(hx:b∉ex):∃sl,h1.get? b=some { ob with slots:=sl }:=by
 by_cases hb:b∈fs
 ·exact u.slot b ob q n hb hx
 ·exact⟨ob.slots,u.keep b ob q n hb hx⟩
theorem Un.kept(k:∀b u,h.get? b=some u->h'.get? b=some u):Un fs ex H H h h' :=
 ⟨fun b ob q _ _ _=>k b ob q,fun b ob q _ _ _=>⟨ob.slots,k b ob q⟩,fun _ _ _ n _=>n,fun b ob q _=>⟨ob,k b ob q⟩,fun _ _ q=>q,fun _ _ _ q=>q,fun _ ps q=>⟨#[],by rw[q];simp⟩⟩
theorem Un.refl:Un fs ex H H h h:=Un.kept fun _ _ q=>q
theorem Un.laid(k:∀b u,h.get? b=some u->h'.get? b=some u)(hp:h.objs.size≤a)(hn:H a=none):Un fs ex H (upd H a o) h h' where
 keep:=fun b u q _ _ _=>k b u q
 slot:=fun b u q _ _ _=>⟨u.slots,k b u q⟩
 free:=fun b u q n _=>by rw[aP (B6 (Iq (xV q) hp))];exact n
 there:=fun b u q _=>⟨u,k b u q⟩
 tups:=fun b xs q=>by rw[aP (aY q hn)];exact q
 frzs:=fun b u xs q=>by rw[aP (aY q hn)];exact q
 tbls:=fun b ps q=>⟨#[],by rw[aP (aY q hn),q];simp⟩
theorem Un.write(mu:Mut (H x))(he:e=x∨H e=some (.own x))(k:∀b u,b≠e->h.get? b=some u->h'.get? b=some u)(heo:∃u,h'.get? e=some u):Un fs ex H (upd H x o) h h':=by
 have hx:∀b,H b=none->b≠x:=fun b n z=>by subst z;rw[n]at mu;exact mu
 have hb:∀b,H b=none->b≠e:=fun b n z=>by
  subst z;rcases he with r | r
  ·exact hx b n r
  ·rw[n]at r;cases r
 have hm:∀b u,H b=some u->¬Mut (some u)->b≠x:=fun b u q nm z=>by subst z;rw[q]at mu;exact nm mu
 refine⟨fun b u q n _ _=>k b u (hb b n) q,fun b u q n _ _=>⟨u.slots,k b u (hb b n) q⟩,fun b u q n _=>by rw[aP (hx b n)];exact n,fun b u q _=>?_,
  fun b xs q=>by rw[aP (hm b _ q fun z=>z)];exact q,fun b u xs q=>by rw[aP (hm b _ q fun z=>z)];exact q,fun b ps q=>⟨#[],by rw[aP (hm b _ q fun z=>z),q];simp⟩⟩
 by_cases hbe:b=e
 ·subst hbe;exact heo
 ·exact⟨u,k b u hbe q⟩
end
def trk(h:Heap)(H:Hp):List Addr:=(List.range h.objs.size).filter fun a=>(H a).isSome
def lg(h:Heap)(H:Hp):Heap:=PySem.W.hideAll h (trk h H)
theorem rK(h:Heap)(H:Hp):(lg h H).objs.size=h.objs.size:=PySem.W.hideAll_size _ _
theorem wc{h:Heap}{H:Hp}{b:Addr}{o:Obj}(e:h.get? b=some o)(n:H b=none):(lg h H).get? b=some o :=
 PySem.W.hideAll_get _ e fun hm=>by
  have q:(H b).isSome=true:=(Io.mp hm).2;rw[n]at q;simp at q
theorem zH{h:Heap}{H:Hp}{b:Addr}{o:Obj}(e:(lg h H).get? b=some o):h.get? b=some o/\H b=none:=by
 have e':h.get? b=some o:=PySem.W.of_hideAll (trk h H) e;refine⟨e',?_⟩;cases q:H b with
 | none=>rfl
 | some x =>
  have hm:b∈trk h H:=Io.mpr ⟨ID.mpr (xV e'),by simp[q]⟩;have z:(lg h H).get? b=none:=PySem.W.hideAll_none (trk h H) hm;rw[z]at e;cases e
def yC(g h:Heap)(L:Addr):List (Addr×Obj):=(List.range h.objs.size).filterMap fun a=>if a=L∨(g.get? a).isSome=true then none else(h.get? a).map fun o=>(a,o)
def rest(g h:Heap)(L d:Addr):List (Addr×Obj):=(yC g h L).filter fun p=>decide (p.1≠d)
end
section
structure Mod (K:PySem.W.Frag) (mg:Str→Option Value) (base:Heap):Prop where
 kin:K.In base
 glob:base.Ns mainGlobals mg
 blt:∃mb,base.Ns builtinsNs mb/\∀x:Str,x≠"__name__"->mb x=bootBuiltins x
 nolimit:base.NoLimit
structure Cx where
 prog:Program
 w:World
 K:PySem.W.Frag
 mg:Str->Option Value
 base:Heap
 A:Around
 N:List Str
 s₀:Shared
 H₀:Hp
 env:Env
 outer:List Env
 stack:List Env
 ex:List Addr
 fn:Str->Bool
 calm:Bool
 pn:List (Addr×Obj)
 xe:Value->Shared->Prop
def frs(l:List Env):List Addr:=l.filterMap (·.frame)
abbrev Cx.fs(X:Cx):List Addr:=frs X.outer
def Vis(sc:Scope)(x:Str):Prop:=sc.names.lookup x=some .local∨sc.names.lookup x=some .cell∨sc.names.lookup x=some .free
def Loc(sc:Scope)(x:Str):Prop:=sc.names.lookup x=some .local∨sc.names.lookup x=some .cell
def Look(env:Env)(h:Heap)(m:Str->Option Value)(x:Str)(u:Value):Prop :=
 (env.kindOf x=some .local/\m x=some u)∨((env.kindOf x=some .cell∨env.kindOf x=some .free)/\∃c,env.cells.lookup x=some c/\h.IsCell c (some u))
structure Cx.Ok (X:Cx):Prop where
 mod:Mod X.K X.mg X.base
 kind:X.env.scope.kind=.function
 glob:X.env.globals=mainGlobals
 blt:X.env.builtins=builtinsNs
 above:X.s₀.heap.objs.size≤X.env.locals
 inj:∀x y c,X.env.cells.lookup x=some c->X.env.cells.lookup y=some c->x=y
 has:∀x,(X.env.kindOf x=some .cell∨X.env.kindOf x=some .free)->∃c,X.env.cells.lookup x=some c
 cab:∀x c,X.fn x=true->X.env.cells.lookup x=some c->X.s₀.heap.objs.size≤c
 hd:X.calm=true->X.A.handled=none
 frames:X.A.frames=some X.stack
 stk:X.stack=X.outer∨(X.stack=X.env::X.outer/\X.env.frame=some X.env.locals)
 exf:∀b∈X.ex,b≠X.env.locals/\∀x c,X.env.cells.lookup x=some c->c≠b
 bs:∀b o,X.base.get? b=some o->X.s₀.heap.get? b=some o/\X.H₀ b=none
 bsz:X.base.objs.size≤X.s₀.heap.objs.size
 noex:∀b o,X.base.get? b=some o->b∉X.ex
 exfs:∀b∈X.ex,b∉X.fs
 funs:X.s₀.heap.FunFrames X.base X.outer
 frf:∀b∈X.fs,X.H₀ b=none
structure Inv (X:Cx) (pins:List (Addr × Obj)) (σ:List (Option V)) (H:Hp) (s:Shared):Prop where
 ok:X.Ok
 os:s.os=X.s₀.os
 bare:AllBare s.gens
 base:Un X.fs X.ex X.H₀ H X.s₀.heap s.heap
 loc:∃m,s.heap.Ns X.env.locals m/\∀(i:Nat) (x:Str) (v:V),X.N[i]?=some x->σ[i]?=some (some v)->Vis X.env.scope x->∃u,RelV v u/\Look X.env s.heap m x u
 cell:∀x c,X.env.cells.lookup x=some c->∃v,s.heap.IsCell c v
 free:H X.env.locals=none
 freeC:∀x c,X.env.cells.lookup x=some c->H c=none
 pin:∀p∈X.pn++pins,s.heap.get? p.1=some p.2/\H p.1=none/\p.1≠X.env.locals/\p.1∉X.fs/\∀v,p.2.data≠.cell v
 hok:HOk X.prog X.w H s.heap
 len:σ.length=X.N.length
section
variable {X:Cx}{pins:List (Addr×Obj)}{σ:List (Option V)}{H H':Hp}{s:Shared}{h':Heap}
theorem Cx.Ok.nofr(ok:X.Ok){b:Addr}{o:Obj}(e:X.base.get? b=some o):b∉X.fs:=fun hb=>by
 have:=(ok.funs.mem hb).1;rw[e]at this;cases this
theorem Inv.bs(I:Inv X pins σ H s):∀b o,X.base.get? b=some o->s.heap.get? b=some o/\H b=none:=fun b o e =>
 ⟨I.base.keep b o (I.ok.bs b o e).1 (I.ok.bs b o e).2 (I.ok.nofr e) (I.ok.noex b o e),I.base.free b o (I.ok.bs b o e).1 (I.ok.bs b o e).2 (I.ok.noex b o e)⟩
theorem Inv.bk(I:Inv X pins σ H s):∀b o,X.base.get? b=some o->s.heap.get? b=some o:=fun b o e=>(I.bs b o e).1
theorem Inv.mod(I:Inv X pins σ H s):Mod X.K X.mg X.base:=I.ok.mod
theorem Inv.kIn(I:Inv X pins σ H s):X.K.In s.heap:=I.ok.mod.kin.keeps I.bk
theorem Inv.lt(I:Inv X pins σ H s):X.env.locals<s.heap.objs.size:=let ⟨_,hn,_⟩:=I.loc;hn.lt
theorem Inv.sz(I:Inv X pins σ H s):X.s₀.heap.objs.size≤s.heap.objs.size:=IC I.ok.above (J2 I.lt)
theorem Inv.nofs(I:Inv X pins σ H s){a:Addr}(h:s.heap.objs.size≤a):a∉X.fs:=fun hb=>by
 obtain⟨_,o,ho,_⟩:=I.ok.funs.mem hb;exact absurd (Iq (xV ho) (IC I.sz h)) (JM _)
theorem Inv.cne(I:Inv X pins σ H s):∀x c,X.env.cells.lookup x=some c->c≠X.env.locals:=fun x c e z=>by
 obtain⟨v,o,ho,hd⟩:=I.cell x c e;obtain⟨m,⟨o',es,ep,ho',hd',_⟩,_⟩:=I.loc;rw[z,ho']at ho;cases ho;rw[hd']at hd;cases hd
theorem Inv.funs(I:Inv X pins σ H s):s.heap.FunFrames X.base X.outer:=by
 have all:∀(l:List Env),(∀b∈frs l,b∈X.fs)->X.s₀.heap.FunFrames X.base l->s.heap.FunFrames X.base l:=by
  intro l
  induction l with
  | nil=>intro _ _;trivial
  | cons env r ih =>
   intro hs hl;obtain⟨hk,⟨L,o,hf,hn,ho,hd⟩,hr⟩:=hl;have hL:L∈X.fs:=hs L (by unfold frs;rw[List.filterMap_cons,hf];exact xP);obtain⟨sl,e⟩:=I.base.slot L o ho (I.ok.frf L hL) hL fun z=>I.ok.exfs L z hL;exact⟨hk,⟨L,_,hf,hn,e,hd⟩,ih (fun b hb=>hs b (by unfold frs;rw[List.filterMap_cons,hf];exact Bo _ hb)) hr⟩
 exact all X.outer (fun _ hb=>hb) I.ok.funs
theorem Inv.stack(I:Inv X pins σ H s):s.heap.FunFrames X.base X.stack:=by
 rcases I.ok.stk with e |⟨e,hf⟩
 ·rw[e];exact I.funs
 ·rw[e];obtain⟨m,hn,_⟩:=I.loc;refine .cons (by rw[I.ok.kind];decide) hf hn ?_ I.funs;exact Heap.get?_none_of_le (IC I.ok.bsz I.ok.above)
theorem Inv.stkSub(I:Inv X pins σ H s):∀b∈frs X.stack,b∈X.env.locals::X.fs:=fun b hb=>by
 rcases I.ok.stk with e |⟨e,hf⟩
 ·rw[e]at hb;exact Bo _ hb
 ·rw[e]at hb;unfold frs at hb;rw[List.filterMap_cons,hf]at hb;exact hb
theorem Inv.stkFree(I:Inv X pins σ H s):∀b∈frs X.stack,H b=none:=fun b hb=>by
 rcases Ic.mp (I.stkSub b hb)with e | hb
 ·rw[e];exact I.free
 ·obtain⟨_,o,ho,_⟩:=I.ok.funs.mem hb;exact I.base.free b o ho (I.ok.frf b hb) fun z=>I.ok.exfs b z hb
theorem Inv.step{g':Array GenState}{t':Nat}{d':Drawn}{ch:List Addr}(I:Inv X pins σ H s)
  (hch:∀b∈ch,(b∈X.ex∨X.s₀.heap.objs.size≤b)/\b≠X.env.locals/\(∀x c,X.env.cells.lookup x=some c->c≠b)/\∀p∈X.pn++pins,p.1≠b)
  (keep:∀b o,b≠X.env.locals->b∉X.fs->b∉ch->s.heap.get? b=some o->H b=none->h'.get? b=some o)
  (slot:∀b o,b≠X.env.locals->b∈X.fs->b∉ch->s.heap.get? b=some o->H b=none->∃sl,h'.get? b=some { o with slots:=sl }) (free:∀b o,b∉ch->s.heap.get? b=some o->H b=none->H' b=none)
  (there:∀b o,b∉ch->s.heap.get? b=some o->∃o',h'.get? b=some o')
  (tups:∀b xs,H b=some (.tup xs)->H' b=some (.tup xs)) (frzs:∀b o u,H b=some (.frz o u)->H' b=some (.frz o u)) (tbls:∀b ps,H b=some (.tbl ps)->∃more,H' b=some (.tbl (ps++more)))
  (ns:∀m,s.heap.Ns X.env.locals m->h'.Ns X.env.locals m) (hok:HOk X.prog X.w H' h') (hg:AllBare g') :
  Inv X pins σ H' { s with heap:=h',gens:=g',drawn:=d',toks:=t' }:=by
 have neL:∀b o,X.s₀.heap.get? b=some o->b≠X.env.locals:=fun b o e=>B6 (Iq (xV e) I.ok.above);have neC:∀b o,X.s₀.heap.get? b=some o->b∉X.ex->b∉ch:=fun b o e hx hb=>by
  rcases (hch b hb).1 with z | z
  ·exact hx z
  ·exact absurd (Iq (xV e) z) (JM _)
 have cellK:∀x c,X.env.cells.lookup x=some c->∀v,s.heap.IsCell c v->h'.IsCell c v:=fun x c e v y_=>by
  obtain⟨o,ho,hd⟩:=y_;have nch:c∉ch:=fun z=>(hch c z).2.2.1 x c e rfl;by_cases hc:c∈X.fs
  ·obtain⟨sl,q⟩:=slot c o (I.cne x c e) hc nch ho (I.freeC x c e);exact⟨_,q,hd⟩
  ·exact⟨o,keep c o (I.cne x c e) hc nch ho (I.freeC x c e),hd⟩
 refine⟨I.ok,I.os,hg,⟨fun b o e n hb hx=>?_,fun b o e n hb hx=>?_,fun b o e n hx=>?_,fun b o e hx=>?_,fun b xs e=>tups b xs (I.base.tups b xs e),fun b o xs e=>frzs b o xs (I.base.frzs b o xs e),fun b ps e=>?_⟩,?_,fun x c e=>?_,?_,fun x c e=>?_,fun p hp=>?_,hok,I.len⟩
 ·exact keep b o (neL b o e) hb (neC b o e hx) (I.base.keep b o e n hb hx) (I.base.free b o e n hx)
 ·obtain⟨sl,e1⟩:=I.base.slot b o e n hb hx;obtain⟨sl',e2⟩:=slot b _ (neL b o e) hb (neC b o e hx) e1 (I.base.free b o e n hx);exact⟨sl',e2⟩
 ·obtain⟨o',e1⟩:=I.base.there b o e hx;exact free b o' (neC b o e hx) e1 (I.base.free b o e n hx)
 ·obtain⟨o',e1⟩:=I.base.there b o e hx;exact there b o' (neC b o e hx) e1
 ·obtain⟨m1,e1⟩:=I.base.tbls b ps e;obtain⟨m2,e2⟩:=tbls b _ e1;exact⟨m1++m2,by rw[e2,Array.append_assoc]⟩
 ·obtain⟨m,hn,hl⟩:=I.loc;refine⟨m,ns m hn,fun i x v e1 e2 e3=>?_⟩;obtain⟨u,r,l⟩:=hl i x v e1 e2 e3;refine⟨u,r,?_⟩;rcases l with l |⟨k,c,e,z⟩
  ·exact .inl l
  ·exact .inr ⟨k,c,e,cellK x c e _ z⟩
 ·obtain⟨v,z⟩:=I.cell x c e;exact⟨v,cellK x c e v z⟩
 ·obtain⟨m,⟨o,_,_,ho,_⟩,_⟩:=I.loc;exact free _ o (fun z=>(hch _ z).2.1 rfl) ho I.free
 ·obtain⟨v,o,ho,hd⟩:=I.cell x c e;exact free c o (fun z=>(hch c z).2.2.1 x c e rfl) ho (I.freeC x c e)
 ·obtain⟨e,n,ne,nf,d⟩:=I.pin p hp;have nch:p.1∉ch:=fun z=>(hch p.1 z).2.2.2 p hp rfl;exact⟨keep p.1 p.2 ne nf nch e n,free p.1 p.2 nch e n,ne,nf,d⟩
theorem Inv.un{t':Nat}(I:Inv X pins σ H s)(u:Un X.fs [] H H' s.heap h')(hok:HOk X.prog X.w H' h'):Inv X pins σ H' { s with heap:=h',toks:=t' }:=by
 obtain⟨m,⟨o,es,ep,ho,r⟩,_⟩:=id I.loc;obtain⟨sl,hL⟩:=u.any ho I.free (by simp);exact I.step (g':=s.gens) (d':=s.drawn) (ch:=[]) (fun _ z=>nomatch z) (fun b o _ hb _ e n=>u.keep b o e n hb (by simp)) (fun b o _ hb _ e n=>u.slot b o e n hb (by simp)) (fun b o _ e n=>u.free b o e n (by simp)) (fun b o _ e=>u.there b o e (by simp)) u.tups u.frzs u.tbls (fun m' hm=>by
  obtain⟨o',es',ep',ho',r'⟩:=hm;rw[ho]at ho';cases ho';exact⟨_,es',ep',hL,r'⟩) hok I.bare
theorem Inv.call{g':Array GenState}{t':Nat}{d':Drawn}{ch:List Addr}(I:Inv X pins σ H s)(u:Un (frs X.stack) ch H H' s.heap h')(hok:HOk X.prog X.w H' h')(hg:AllBare g')
  (hch:∀b∈ch,(b∈X.ex∨X.s₀.heap.objs.size≤b)/\b≠X.env.locals/\(∀x c,X.env.cells.lookup x=some c->c≠b)/\∀p∈X.pn++pins,p.1≠b) :
  Inv X pins σ H' { s with heap:=h',gens:=g',drawn:=d',toks:=t' }:=by
 obtain⟨m,⟨o,es,ep,ho,r⟩,_⟩:=id I.loc;obtain⟨sl,hL⟩:=u.any ho I.free fun z=>(hch _ z).2.1 rfl;exact I.step (ch:=ch) hch (fun b o hL hb hc e n=>u.keep b o e n (fun z=>(Ic.mp (I.stkSub b z)).elim hL hb) hc) (fun b o _ _ hc e n=>u.any e n hc) (fun b o hc e n=>u.free b o e n hc) (fun b o hc e=>u.there b o e hc) u.tups u.frzs u.tbls (fun m' hm=>by
  obtain⟨o',es',ep',ho',r'⟩:=hm;rw[ho]at ho';cases ho';exact⟨_,es',ep',hL,r'⟩) hok hg
theorem Inv.turned{t':Nat}{it:Addr}(I:Inv X pins σ H s)(k:∀b o,b≠it->s.heap.get? b=some o->h'.get? b=some o)(hn:H it=none)(hL:it≠X.env.locals)
  (h1:it∈X.ex∨X.s₀.heap.objs.size≤it) (h2:∀x c,X.env.cells.lookup x=some c->c≠it) (h3:∀p∈X.pn++pins,p.1≠it):Inv X pins σ H { s with heap:=h',toks:=t' }:=by
 have nit:∀b u,H b=some u->b≠it:=fun b u e z=>by rw[z,hn]at e;cases e
 refine I.step (g':=s.gens) (d':=s.drawn) (ch:=[it]) (fun b hb=>?_) (fun b o _ _ hc e _=>k b o (fun z=>hc (by simp[z])) e) (fun b o _ _ hc e _=>⟨o.slots,k b o (fun z=>hc (by simp[z])) e⟩) (fun _ _ _ _ n=>n)
  (fun b o hc e=>⟨o,k b o (fun z=>hc (by simp[z])) e⟩) (fun _ _ e=>e) (fun _ _ _ e=>e) (fun b ps e=>⟨#[],by rw[e];simp⟩) (fun m hm=>?_) (fun b u e=>?_) I.bare
 ·have e:b=it:=by simpa using hb
  subst e;exact⟨h1,hL,h2,h3⟩
 ·obtain⟨o,es,ep,ho,r⟩:=hm;exact⟨o,es,ep,k _ o (Ne.symm hL) ho,r⟩
 ·refine(I.hok b u e).stay (fun c v hc q=>k c v ?_ q) (fun _ q=>q) fun _ _ q=>q;rcases hc with z | z
  ·rw[z];exact nit b u e
  ·exact nit c _ z
theorem Inv.tok(I:Inv X pins σ H s)(t:Nat):Inv X pins σ H { s with toks:=t }:=I.un (h':=s.heap) (t':=t) Un.refl I.hok
theorem Inv.kept{t':Nat}(I:Inv X pins σ H s)(k:∀b u,s.heap.get? b=some u->h'.get? b=some u):Inv X pins σ H { s with heap:=h',toks:=t' }:=I.un (Un.kept k) (I.hok.kept k)
theorem Inv.laid{a:Addr}{o:HO}{t':Nat}(I:Inv X pins σ H s)(k:∀b u,s.heap.get? b=some u->h'.get? b=some u)(hp:s.heap.objs.size≤a)(new:bM X.prog X.w (upd H a o) h' a o) :
  Inv X pins σ (upd H a o) { s with heap:=h',toks:=t' }:=I.un (Un.laid k hp (I.hok.fresh hp)) (I.hok.laid k hp new)
theorem Inv.write{x e:Addr}{o:HO}{t':Nat}(I:Inv X pins σ H s)(mu:Mut (H x))(he:e=x∨H e=some (.own x))(k:∀b u,b≠e->s.heap.get? b=some u->h'.get? b=some u)(heo:∃u,h'.get? e=some u)
  (new:bM X.prog X.w (upd H x o) h' x o):Inv X pins σ (upd H x o) { s with heap:=h',toks:=t' }:=I.un (Un.write mu he k heo) (I.hok.write mu he k heo new)
theorem Inv.pins_of{pins':List (Addr×Obj)}(I:Inv X pins σ H s)(h:∀p∈pins',s.heap.get? p.1=some p.2/\H p.1=none/\p.1≠X.env.locals/\p.1∉X.fs/\∀v,p.2.data≠.cell v):Inv X pins' σ H s :=
 ⟨I.ok,I.os,I.bare,I.base,I.loc,I.cell,I.free,I.freeC,fun p hp=>(zi.mp hp).elim (fun z=>I.pin p (IJ _ z)) (h p),I.hok,I.len⟩
theorem jX{N:List Str}(hN:N.Nodup){i j:Nat}{x:Str}(a:N[i]?=some x)(b:N[j]?=some x):i=j:=by
 obtain⟨h1,e1⟩:=vM.mp a;obtain⟨h2,e2⟩:=vM.mp b;exact(List.getElem_inj hN).mp (e1.trans e2.symm)
theorem km{M:Model}{A:Around}{E:Value->Shared->Prop}{i:Nat}{x:Str}{v:V}{u:Value}{Q:Unit->Shared->Prop}(I:Inv X pins σ H s)(hN:X.N.Nodup)(hi:X.N[i]?=some x)(hx:Loc X.env.scope x)(r:RelV v u)
  (h:∀s',Inv X pins (σ.set i (some v)) H s'->(∃a,Heap.SameBut a s.heap s'.heap/\(a=X.env.locals∨X.env.cells.lookup x=some a))->Q () s') (hf:X.fn x=true∨X.env.scope.names.lookup x=some .local:=by first | exact .inl rfl | exact .inr rfl | assumption):wpAny M A (storeName X.env x u) Q E s:=by
 obtain⟨m,hn,hl⟩:=id I.loc;have hcls:(X.env.scope.kind==.class||(X.env.scope.kind==.module&&X.env.locals !=X.env.globals))=false:=by rw[I.ok.kind];rfl
 have hiσ:i<σ.length:=by rw[I.len];exact(vM.mp hi).1
 have cne:=I.cne;have tracked:∀{a:Addr} {h':Heap},(∃o,s.heap.get? a=some o/\H a=none)->Heap.SameBut a s.heap h'->HOk X.prog X.w H h':=fun {a h'} ha hs b ob e=>by
  obtain⟨_,_,hfree⟩:=ha;refine(I.hok b ob e).stay (fun c w' hc q=>(hs.2 c ?_).trans q) (fun _ q=>q) fun _ _ q=>q;rintro rfl;rcases hc with rfl | hc
  ·rw[hfree]at e;cases e
  ·rw[hfree]at hc;cases hc
 rcases hx with hk | hk
 ·refine wpAny_storeName_local hk hn (fun h' hn' hs=>?_) hcls;obtain⟨oL,_,_,hoL,_⟩:=id hn;refine h _ ⟨I.ok,I.os,I.bare,⟨fun b o e n hb hx=>?_,fun b o e n hb hx=>?_,I.base.free,fun b o e hx=>?_,I.base.tups,I.base.frzs,I.base.tbls⟩,⟨_,hn',fun j y v' e1 e2 e3=>?_⟩,fun y c e=>?_,I.free,I.freeC,fun p hp=>?_,tracked ⟨oL,hoL,I.free⟩ hs,by simpa using I.len⟩ ⟨_,hs,.inl rfl⟩
  ·exact(hs.2 b (B6 (Iq (xV e) I.ok.above))).trans (I.base.keep b o e n hb hx)
  ·obtain⟨sl,e1⟩:=I.base.slot b o e n hb hx;exact⟨sl,(hs.2 b (B6 (Iq (xV e) I.ok.above))).trans e1⟩
  ·obtain⟨o',e1⟩:=I.base.there b o e hx;exact⟨o',(hs.2 b (B6 (Iq (xV e) I.ok.above))).trans e1⟩
  ·by_cases hj:j=i
   ·subst hj;rw[hi]at e1;cases e1;rw[Jw hiσ]at e2;cases e2;exact⟨u,r,.inl ⟨hk,by simp⟩⟩
   ·rw[List.getElem?_set_ne (Ne.symm hj)]at e2;obtain⟨u',r',q⟩:=hl j y v' e1 e2 e3;refine⟨u',r',?_⟩;rcases q with⟨k,e⟩ |⟨k,c,e,z⟩
    ·refine .inl ⟨k,?_⟩;have:y≠x:=fun e=>hj (jX hN e1 (e▸hi));simp[this,e]
    ·exact .inr ⟨k,c,e,z.sameBut hs (cne y c e)⟩
  ·obtain⟨w',z⟩:=I.cell y c e;exact⟨w',z.sameBut hs (cne y c e)⟩
  ·obtain⟨e,n,ne,nf,d⟩:=I.pin p hp;exact⟨(hs.2 p.1 ne).trans e,n,ne,nf,d⟩
 ·have hfn:X.fn x=true:=by
   rcases hf with z | z
   ·exact z
   ·rw[z]at hk;cases hk
  obtain⟨c,hc⟩:=I.ok.has x (.inl hk);obtain⟨w',z⟩:=I.cell x c hc;refine wpAny_storeName_cell I.ok.kind hk hc z (fun h' hc' hs=>?_);obtain⟨oc,hoc,hocd⟩:=id z;refine h { s with heap:=h' } ⟨I.ok,I.os,I.bare,⟨fun b o e n hb hx=>?_,fun b o e n hb hx=>?_,I.base.free,fun b o e hx=>?_,I.base.tups,I.base.frzs,I.base.tbls⟩,⟨m,hn.sameBut hs (Ne.symm (cne x c hc)),fun j y v' e1 e2 e3=>?_⟩,fun y c' e=>?_,I.free,I.freeC,fun p hp=>?_,tracked ⟨oc,hoc,I.freeC x c hc⟩ hs,by simpa using I.len⟩ ⟨c,hs,.inr hc⟩
  ·exact(hs.2 b (B6 (Iq (xV e) (I.ok.cab x c hfn hc)))).trans (I.base.keep b o e n hb hx)
  ·obtain⟨sl,e1⟩:=I.base.slot b o e n hb hx;exact⟨sl,(hs.2 b (B6 (Iq (xV e) (I.ok.cab x c hfn hc)))).trans e1⟩
  ·obtain⟨o',e1⟩:=I.base.there b o e hx;exact⟨o',(hs.2 b (B6 (Iq (xV e) (I.ok.cab x c hfn hc)))).trans e1⟩
  ·by_cases hj:j=i
   ·subst hj;rw[hi]at e1;cases e1;rw[Jw hiσ]at e2;cases e2;exact⟨u,r,.inr ⟨.inl hk,c,hc,hc'⟩⟩
   ·rw[List.getElem?_set_ne (Ne.symm hj)]at e2;obtain⟨u',r',q⟩:=hl j y v' e1 e2 e3;refine⟨u',r',?_⟩;rcases q with q |⟨k,c',e,z'⟩
    ·exact .inl q
    ·refine .inr ⟨k,c',e,z'.sameBut hs ?_⟩;rintro rfl;exact hj (jX hN e1 (I.ok.inj _ _ _ e hc▸hi))
  ·by_cases hcc:c'=c
   ·subst hcc;exact⟨_,hc'⟩
   ·obtain⟨w2,z2⟩:=I.cell y c' e;exact⟨w2,z2.sameBut hs hcc⟩
  ·obtain⟨e,n,ne,nf,d⟩:=I.pin p hp;refine⟨(hs.2 p.1 ?_).trans e,n,ne,nf,d⟩;intro q;rw[q,hoc]at e;have q':oc=p.2:=IH e;exact d w' (by rw[←q'];exact hocd)
theorem gL{M:Model}{A:Around}{E:Value->Shared->Prop}{i:Nat}{x:Str}{v:V}{u:Value}{Q:Unit->Shared->Prop}(I:Inv X pins σ H s)(hN:X.N.Nodup)(hi:X.N[i]?=some x)(hx:Loc X.env.scope x)(r:RelV v u)
  (h:∀s',Inv X pins (σ.set i (some v)) H s'->Q () s') (hf:X.fn x=true∨X.env.scope.names.lookup x=some .local:=by first | exact .inl rfl | exact .inr rfl | assumption):wpAny M A (storeName X.env x u) Q E s :=
 km I hN hi hx r (fun s' I' _=>h s' I') hf
theorem Inv.call'{s':Shared}{ch:List Addr}(I:Inv X pins σ H s)(ho:s'.os=s.os)(u:Un (frs X.stack) ch H H' s.heap s'.heap)(hok:HOk X.prog X.w H' s'.heap)(hg:AllBare s'.gens)
  (hch:∀b∈ch,(b∈X.ex∨X.s₀.heap.objs.size≤b)/\b≠X.env.locals/\(∀x c,X.env.cells.lookup x=some c->c≠b)/\∀p∈X.pn++pins,p.1≠b):Inv X pins σ H' s':=by
 obtain⟨h',g',d',t',o'⟩:=s';have e:o'=s.os:=ho;subst e;exact I.call (g':=g') (t':=t') (d':=d') u hok hg hch
end
abbrev XK:=Value->Option Addr->Hp->Prop
abbrev St:=List (Option V)
abbrev VK:=V->Hp->Prop
abbrev TE:=St->Hp->VK->Prop
abbrev TT:=St->Hp->(Bool->Hp->Prop)->Prop
abbrev TA:=St->Hp->(List V->Hp->Prop)->Prop
structure Ends where
 nx:St->Hp->Prop
 rt:VK
 bk:St->Hp->Prop:=fun _ _=>False
 ct:St->Hp->Prop:=fun _ _=>False
abbrev TS:=Ends->St->Hp->Prop
def EP(X:Cx)(pins:List (Addr×Obj))(σ:St)(Q:VK)(u:Value)(s':Shared):Prop:=∃v H',Inv X pins σ H' s'/\RelV v u/\Q v H'
def TP(X:Cx)(pins:List (Addr×Obj))(σ:St)(Q:Bool->Hp->Prop)(b:Bool)(s':Shared):Prop:=∃H',Inv X pins σ H' s'/\Q b H'
def AP(X:Cx)(pins:List (Addr×Obj))(σ:St)(Q:List V->Hp->Prop)(us:List Value)(s':Shared):Prop:=∃vs H',Inv X pins σ H' s'/\Vals vs us/\Q vs H'
def SP(X:Cx)(pins:List (Addr×Obj))(D:Ends)(f:Flow)(s':Shared):Prop :=
 match f with
 | .next=>∃σ' H',Inv X pins σ' H' s'/\D.nx σ' H'
 | .brk=>∃σ' H',Inv X pins σ' H' s'/\D.bk σ' H'
 | .cont=>∃σ' H',Inv X pins σ' H' s'/\D.ct σ' H'
 | .ret u=>∃v σ' H',Inv X pins σ' H' s'/\RelV v u/\D.rt v H'
def PE(X:Cx)(e:Expr)(t:TE):Prop :=
 ∀(pins:List (Addr×Obj)) (s:Shared) (σ:St) (H:Hp) (Q:VK),Inv X pins σ H s->t σ H Q->wpAny (model X.prog X.w) X.A (eval e X.env) (EP X pins σ Q) X.xe s
def PT(X:Cx)(e:Expr)(t:TT):Prop :=
 ∀(pins:List (Addr×Obj)) (s:Shared) (σ:St) (H:Hp) (Q:Bool->Hp->Prop),Inv X pins σ H s->t σ H Q->wpAny (model X.prog X.w) X.A (isTrue e X.env (eval e X.env)) (TP X pins σ Q) X.xe s
def PW(X:Cx)(e:Expr)(t:TT):Prop :=
 ∀(whole:Sem Value) (pins:List (Addr×Obj)) (s:Shared) (σ:St) (H:Hp) (Q:Bool->Hp->Prop),Inv X pins σ H s->t σ H Q->wpAny (model X.prog X.w) X.A (isTrue e X.env whole) (TP X pins σ Q) X.xe s
theorem PW.pt{X:Cx}{e:Expr}{t:TT}(h:PW X e t):PT X e t:=h _
def PA(X:Cx)(es:List Expr)(t:TA):Prop :=
 ∀(pos:Pos) (pins:List (Addr×Obj)) (s:Shared) (σ:St) (H:Hp) (Q:List V->Hp->Prop),Inv X pins σ H s->t σ H Q->wpAny (model X.prog X.w) X.A (spliced (backTo pos (starEach es X.env))) (AP X pins σ Q) X.xe s
def PS(X:Cx)(st:Stmt)(t:TS):Prop :=
 ∀(pins:List (Addr×Obj)) (s:Shared) (σ:St) (H:Hp) (D:Ends),Inv X pins σ H s->t D σ H->wpAny (model X.prog X.w) X.A (exec st X.env) (SP X pins D) X.xe s
def PSs(X:Cx)(st:List Stmt)(t:TS):Prop :=
 ∀(pins:List (Addr×Obj)) (s:Shared) (σ:St) (H:Hp) (D:Ends),Inv X pins σ H s->t D σ H->wpAny (model X.prog X.w) X.A (execs st X.env) (SP X pins D) X.xe s
theorem thn{α:Type}{t:Sem α}{Q Q':α->Shared->Prop}{M:Model}{A:Around}{E:Value->Shared->Prop}{s:Shared}(h:wpAny M A t Q E s)(hQ:∀a s,Q a s->Q' a s):wpAny M A t Q' E s:=JJ h hQ fun _ _ x=>x
end
section
section
variable {X:Cx}
theorem bin{a b:Expr}{ta tb:TE}(ha:PE X a ta)(hb:PE X b tb){pins:List (Addr×Obj)}{s:Shared}{σ:St}{H:Hp}{R:V->V->Hp->Prop}(I:Inv X pins σ H s)(h:ta σ H fun x H1=>tb σ H1 fun y H2=>R x y H2)
  {α:Type} {Q:α->Shared->Prop} {f:Value->Value->Sem α}
  (hf:∀v u s2 x y H2,Inv X pins σ H2 s2->RelV x v->RelV y u->R x y H2->wpAny (model X.prog X.w) X.A (f v u) Q X.xe s2) :
  wpAny (model X.prog X.w) X.A (eval a X.env) (fun v s₁=>wpAny (model X.prog X.w) X.A (eval b X.env) (fun u s₂=>wpAny (model X.prog X.w) X.A (f v u) Q X.xe s₂) X.xe s₁) X.xe s:=by
 refine thn (ha pins s σ H _ I h) fun v s1 y_=>?_;obtain⟨x,H1,I1,r1,q1⟩:=y_;refine thn (hb pins s1 σ H1 _ I1 q1) fun u s2 y_=>?_;obtain⟨y,H2,I2,r2,q2⟩:=y_;exact hf v u s2 x y H2 I2 r1 r2 q2
def Ec(i:Nat):TE:=fun σ H Q=>∃v,σ[i]?=some (some v)/\Q v H
def tC(v:V):TE:=fun _ H Q=>Q v H
theorem vd{i:Nat}{x:Str}{pos:Pos}(hN:X.N[i]?=some x)(hv:Vis X.env.scope x)(hd:(x==("__debug__":Str))=false:=by decide)(hcd:(x==("__classdict__":Str))=false:=by decide):PE X (.Name x pos) (Ec i):=by
 intro pins s σ H Q I h;obtain⟨v,e,h⟩:=h;obtain⟨m,hn,hl⟩:=I.loc;obtain⟨u,r,l⟩:=hl i x v hN e hv;have fin:EP X pins σ Q u s:=⟨v,H,I,r,h⟩;rcases l with⟨hk,hm⟩ |⟨hk,c,hc,hcell⟩
 ·exact wpAny_Name (wpAny_loadName_local I.ok.kind hk hn hm fin) hd
 ·rcases hk with hk | hk
  ·exact wpAny_Name (wpAny_loadName_cell I.ok.kind hk hc hcell fin) hd
  ·exact wpAny_Name (wpAny_loadName_free I.ok.kind hk hc hcell fin hcd) hd
theorem AG{i j pos}:PE X (.Constant (.int i) j pos) (tC (.int i)):=fun _ _ _ H _ I h=>wpAny_Constant_int ⟨.int i,H,I.tok _,⟨_,rfl⟩,h⟩
theorem wU{b j pos}:PE X (.Constant (.bool b) j pos) (tC (.bl b)):=fun _ _ _ H _ I h=>Constant_bool ⟨.bl b,H,I,rfl,h⟩
theorem A8{j pos}:PE X (.Constant .none j pos) (tC .non):=fun _ _ _ H _ I h=>Constant_none ⟨.non,H,I,rfl,h⟩
theorem uW{x j pos}:PE X (.Constant (.str x) j pos) (tC (.str x)):=fun _ _ _ H _ I h=>Calls.Constant_str ⟨.str x,H,I.tok _,⟨_,rfl⟩,h⟩
def Gl(X:Cx)(x:Str):Prop:=X.env.kindOf x=some .globalImplicit
theorem fk{E:Value->Shared->Prop}{pins:List (Addr×Obj)}{s:Shared}{σ:St}{H:Hp}{x:Str}{u:Value}{pos:Pos}{Q:Value->Shared->Prop}(I:Inv X pins σ H s)(hg:Gl X x)(hm:X.mg x=some u)(h:Q u s)
  (hd:(x==("__debug__":Str))=false:=by decide):wpAny (model X.prog X.w) X.A (eval (.Name x pos) X.env) Q E s :=
 Calls.Name_function_global I.ok.kind hg (Calls.loadGlobal_global (by rw[I.ok.glob];exact I.mod.glob.keeps I.bk) hm h) hd
theorem cN{E:Value->Shared->Prop}{pins:List (Addr×Obj)}{s:Shared}{σ:St}{H:Hp}{x:Str}{u:Value}{pos:Pos}{Q:Value->Shared->Prop}(I:Inv X pins σ H s)(hg:Gl X x)(hm:X.mg x=none)(hv:bootBuiltins x=some u)(h:Q u s)
  (hn:x≠"__name__":=by decide) (hd:(x==("__debug__":Str))=false:=by decide):wpAny (model X.prog X.w) X.A (eval (.Name x pos) X.env) Q E s:=by
 obtain⟨mb,h1,h2⟩:=I.mod.blt;exact Calls.Name_function_global I.ok.kind hg (Calls.loadGlobal_builtin (by rw[I.ok.glob];exact I.mod.glob.keeps I.bk) hm (by rw[I.ok.blt];exact h1.keeps I.bk) ((h2 x hn).trans hv) h) hd
theorem qA{x:Str}{v:V}{u:Value}{pos:Pos}(hg:Gl X x)(hm:X.mg x=some u)(r:RelV v u)(hd:(x==("__debug__":Str))=false:=by decide):PE X (.Name x pos) (tC v) :=
 fun _ _ _ H _ I h=>fk I hg hm ⟨v,H,I,r,h⟩ hd
theorem xr{x:Str}{v:V}{u:Value}{pos:Pos}(hg:Gl X x)(hm:X.mg x=none)(hv:bootBuiltins x=some u)(r:RelV v u)(hn:x≠"__name__":=by decide)(hd:(x==("__debug__":Str))=false:=by decide):PE X (.Name x pos) (tC v) :=
 fun _ _ _ H _ I h=>cN I hg hm hv ⟨v,H,I,r,h⟩ hn hd
variable {a b:Expr}{ta tb:TE}{pos:Pos}
def PC(X:Cx)(op:CmpOp)(a b:Expr)(t:TE):Prop :=
 ∀(pins:List (Addr×Obj)) (s:Shared) (σ:St) (H:Hp) (Q:VK),Inv X pins σ H s->t σ H Q ->
  wpAny (model X.prog X.w) X.A (eval a X.env) (fun v s₁=>wpAny (model X.prog X.w) X.A (eval b X.env) (fun u s₂=>wpAny (model X.prog X.w) X.A (compareOp op v u) (EP X pins σ Q) X.xe s₂) X.xe s₁) X.xe s
theorem u7(b:Expr){op:CmpOp}(h:op≠.In)(h2:op≠.NotIn):behindInMarks op b=false:=by
 have e1:(op==CmpOp.In)=false:=by cases op<;>first | rfl | exact absurd rfl h
 have e2:(op==CmpOp.NotIn)=false:=by cases op<;>first | rfl | exact absurd rfl h2
 cases b<;>simp[behindInMarks,e1,e2]
def tB(t:TE):TT:=fun σ H Q=>t σ H fun x H1=>∃c,x=.bl c/\Q c H1
theorem CB{op:CmpOp}{t:TE}(h:PC X op a b t)(h1:behindInMarks op b=false:=by first | exact u7 _ (by decide) (by decide) | rfl):PT X (.Compare a [op] [b] pos) (tB t):=by
 intro pins s σ H Q I hw;refine wpAny_isTrue_Compare1 (thn (h pins s σ H _ I hw) fun v s1 h1=>thn h1 fun u s2 h2=>thn h2 fun c s3 ⟨x,H1,I1,r1,q1⟩=>?_) h1;obtain⟨d,rfl,q⟩:=q1;cases r1;exact JD ⟨H1,I1,q⟩
theorem C3{e:Expr}{t:TE}(h:PE X e t)(he:∀whole,isTrue e X.env whole=(do let v←whole;standAt e.pos;holding [v] (truthy v)):=by intro _;rfl):PT X e (tB t):=by
 intro pins s σ H Q I hw;refine isTrue_plain (thn (h pins s σ H _ I hw) fun v s1 ⟨x,H1,I1,r1,q1⟩=>?_) (he _);obtain⟨d,rfl,q⟩:=q1;cases r1;exact JD ⟨H1,I1,q⟩
variable {tA tB':TT}{rest:List Expr}
def FR(t u:TT):TT:=fun σ H Q=>t σ H fun c H1=>if c=true then u σ H1 Q else Q false H1
def tOr(t u:TT):TT:=fun σ H Q=>t σ H fun c H1=>if c=true then Q true H1 else u σ H1 Q
def Hv(t:TT):TT:=fun σ H Q=>t σ H fun c H1=>Q (!c) H1
theorem zw(ha:PT X a tA):PW X (.BoolOp .And [a] pos) tA:=by
 intro wh pins s σ H Q I h;refine isTrue_and (thn (ha pins s σ H Q I h) fun c s1 e=>?_);cases c with
 | true=>exact isTrue_and_nil e
 | false=>exact e
theorem A2(ha:PT X a tA):PW X (.BoolOp .Or [a] pos) tA:=by
 intro wh pins s σ H Q I h;refine isTrue_or (thn (ha pins s σ H Q I h) fun c s1 e=>?_);cases c with
 | false=>exact isTrue_or_nil e
 | true=>exact e
theorem Cf(ha:PT X a tA)(hb:PW X (.BoolOp .And (b::rest) pos) tB'):PW X (.BoolOp .And (a::b::rest) pos) (FR tA tB'):=by
 intro wh pins s σ H Q I h;refine isTrue_and (thn (ha pins s σ H _ I h) fun c s1 y_=>?_);obtain⟨H1,I1,q1⟩:=y_;cases c with
 | true=>exact hb wh pins s1 σ H1 Q I1 q1
 | false=>exact⟨H1,I1,q1⟩
theorem EF(ha:PT X a tA)(hb:PW X (.BoolOp .Or (b::rest) pos) tB'):PW X (.BoolOp .Or (a::b::rest) pos) (tOr tA tB'):=by
 intro wh pins s σ H Q I h;refine isTrue_or (thn (ha pins s σ H _ I h) fun c s1 y_=>?_);obtain⟨H1,I1,q1⟩:=y_;cases c with
 | true=>exact⟨H1,I1,q1⟩
 | false=>exact hb wh pins s1 σ H1 Q I1 q1
theorem AW(ha:PT X a tA):PT X (.UnaryOp .Not a pos) (Hv tA):=by
 intro pins s σ H Q I h;exact isTrue_not (ha pins s σ H (fun c H1=>Q (!c) H1) I h)
def Fh(ta tb:TE):TE:=fun σ H Q=>ta σ H fun x H1=>∃c,x=.bl c/\if c=true then tb σ H1 Q else Q (.bl false) H1
theorem CM{op}{t:TE}(h:PE X a t):PE X (.BoolOp op [a] pos) t:=fun pins s σ H Q I hw=>BoolOp_one (h pins s σ H Q I hw)
theorem Bd(ha:PE X a ta)(hb:PE X (.BoolOp .And (b::rest) pos) tb):PE X (.BoolOp .And (a::b::rest) pos) (Fh ta tb):=by
 intro pins s σ H Q I h;refine BoolOp_and (thn (ha pins s σ H _ I h) fun v s1 y_=>?_);obtain⟨x,H1,I1,r1,q1⟩:=y_;obtain⟨c,rfl,q1⟩:=q1;cases r1;refine JD ?_;cases c with
 | true=>exact hb pins s1 σ H1 Q I1 q1
 | false=>exact⟨.bl false,H1,I1,rfl,q1⟩
def tIf(t:TT)(ta tb:TE):TE:=fun σ H Q=>t σ H fun c H1=>if c=true then ta σ H1 Q else tb σ H1 Q
theorem t8{c:Expr}(hc:PT X c tA)(ha:PE X a ta)(hb:PE X b tb):PE X (.IfExp c a b pos) (tIf tA ta tb):=by
 intro pins s σ H Q I h;refine wpAny_IfExp (thn (hc pins s σ H _ I h) fun d s1 y_=>?_);obtain⟨H1,I1,q1⟩:=y_;cases d with
 | true=>exact ha pins s1 σ H1 Q I1 q1
 | false=>exact hb pins s1 σ H1 Q I1 q1
end
end
section
def SqL(K:PySem.W.Frag)(H:Hp)(a:Addr)(xs:List V):Prop :=
 Rd H a (.lst xs) ∨
  ∃(o:Obj) (its:Array Value) (n:Nat),K.lookup a=some o/\o.cls=.type "list"/\o.dict=none/\o.data=.seq its n/\its.size≤sizeLine/\Vals xs its.toList
def SqT(K:PySem.W.Frag)(H:Hp)(a:Addr)(xs:List V):Prop :=
 Rd H a (.tup xs) ∨
  ∃(o:Obj) (its:Array Value) (n:Nat),K.lookup a=some o/\o.cls=.type "tuple"/\o.data=.seq its n/\its.size≤sizeLine/\Vals xs its.toList
def FW:Value->Option V
 | .none=>some .non
 | .bool b=>some (.bl b)
 | .int i _=>some (.int i)
 | .str x _=>some (.str x)
 | .bytes b _=>some (.byt b)
 | .float b _=>some (.flt b)
 | .ref a=>some (.ref a)
 | .type n=>some (.ty n)
 | _=>none
theorem RelV.abs{x:V}{u:Value}(r:RelV x u):FW u=some x:=by
 cases x with
 | non=>cases r;rfl
 | bl _=>cases r;rfl
 | int _=>obtain⟨t,rfl⟩:=r;rfl
 | str _=>obtain⟨t,rfl⟩:=r;rfl
 | byt _=>obtain⟨t,rfl⟩:=r;rfl
 | flt _=>obtain⟨t,rfl⟩:=r;rfl
 | ref _=>cases r;rfl
 | ty _=>cases r;rfl
theorem RelV.inj{x y:V}{u:Value}(r:RelV x u)(q:RelV y u):x=y:=IH (r.abs.symm.trans q.abs)
theorem Vals.inj:∀{xs ys:List V} {us:List Value},Vals xs us->Vals ys us->xs=ys
 | _,_,_,.nil,.nil=>rfl
 | _,_,_,.cons r t,.cons r' t'=>by rw[r.inj r',Vals.inj t t']
section
variable {X:Cx}{pins:List (Addr×Obj)}{σ:St}{H:Hp}{s:Shared}{a:Addr}{xs ys:List V}
theorem SqL.of{K:PySem.W.Frag}(h:H a=some (.lst xs)):SqL K H a xs:=.inl (.inl h)
theorem SqT.of{K:PySem.W.Frag}(h:H a=some (.tup xs)):SqT K H a xs:=.inl (.inl h)
theorem Inv.list(I:Inv X pins σ H s)(h:SqL X.K H a xs):∃its:List Value,Vals xs its/\PlainL s.heap a its.toArray/\xs.length≤sizeLine:=by
 rcases h with h |⟨o,its,n,hk,hc,hd,hs,hz,r⟩
 ·obtain⟨z,its,n,r,e⟩:=h.ok I.hok;exact⟨its,r,⟨_,n,e,rfl,rfl,rfl⟩,z⟩
 ·refine⟨its.toList,r,⟨o,n,I.kIn a o hk,hc,hd,by simpa using hs⟩,?_⟩;have e:=r.length;simp only[Jt]at e;omega
theorem Inv.tuple(I:Inv X pins σ H s)(h:SqT X.K H a xs):∃its:List Value,Vals xs its/\IsTup s.heap a its.toArray/\xs.length≤sizeLine:=by
 rcases h with h |⟨o,its,n,hk,hc,hs,hz,r⟩
 ·obtain⟨z,its,r,p⟩:=h.ok I.hok;exact⟨its,r,p,z⟩
 ·refine⟨its.toList,r,⟨o,I.kIn a o hk,hc,n,by simpa using hs⟩,?_⟩;have e:=r.length;simp only[Jt]at e;omega
theorem Inv.list_inj(I:Inv X pins σ H s)(h:SqL X.K H a xs)(h':SqL X.K H a ys):xs=ys:=by
 obtain⟨its,r,⟨o,n,e,_,_,d⟩,_⟩:=I.list h;obtain⟨its',r',⟨o',n',e',_,_,d'⟩,_⟩:=I.list h';rw[e]at e';cases e';rw[d]at d';injection d' with d1 _;have:its=its':=by simpa using congrArg Array.toList d1
 subst this;exact r.inj r'
theorem Inv.tuple_inj(I:Inv X pins σ H s)(h:SqT X.K H a xs)(h':SqT X.K H a ys):xs=ys:=by
 obtain⟨its,r,⟨o,e,_,n,d⟩,_⟩:=I.tuple h;obtain⟨its',r',⟨o',e',_,n',d'⟩,_⟩:=I.tuple h';rw[e]at e';cases e';rw[d]at d';injection d' with d1 _;have:its=its':=by simpa using congrArg Array.toList d1
 subst this;exact r.inj r'
end
abbrev Cx.wish(X:Cx)(E:Value->Shared->Prop):Cx:={ X with xe:=E }
abbrev Cx.nox(X:Cx):Cx:=X.wish fun _ _=>False
theorem Cx.Ok.wish{X:Cx}(ok:X.Ok)(E:Value->Shared->Prop):(X.wish E).Ok :=
 ⟨ok.mod,ok.kind,ok.glob,ok.blt,ok.above,ok.inj,ok.has,ok.cab,ok.hd,ok.frames,ok.stk,ok.exf,ok.bs,ok.bsz,ok.noex,ok.exfs,ok.funs,ok.frf⟩
theorem Cx.Ok.unwish{X:Cx}{E:Value->Shared->Prop}(ok:(X.wish E).Ok):X.Ok :=
 ⟨ok.mod,ok.kind,ok.glob,ok.blt,ok.above,ok.inj,ok.has,ok.cab,ok.hd,ok.frames,ok.stk,ok.exf,ok.bs,ok.bsz,ok.noex,ok.exfs,ok.funs,ok.frf⟩
section
variable {X:Cx}{pins:List (Addr×Obj)}{σ:St}{H:Hp}{s:Shared}{E:Value->Shared->Prop}
theorem Inv.wish(I:Inv X pins σ H s)(E:Value->Shared->Prop):Inv (X.wish E) pins σ H s:=⟨I.ok.wish E,I.os,I.bare,I.base,I.loc,I.cell,I.free,I.freeC,I.pin,I.hok,I.len⟩
theorem Inv.unwish(I:Inv (X.wish E) pins σ H s):Inv X pins σ H s:=⟨I.ok.unwish,I.os,I.bare,I.base,I.loc,I.cell,I.free,I.freeC,I.pin,I.hok,I.len⟩
theorem SP.unwish{D:Ends}{f:Flow}{s':Shared}(h:SP (X.wish E) pins D f s'):SP X pins D f s':=by
 cases f with
 | next=>obtain⟨σ',H',I,q⟩:=h;exact⟨σ',H',I.unwish,q⟩
 | brk=>obtain⟨σ',H',I,q⟩:=h;exact⟨σ',H',I.unwish,q⟩
 | cont=>obtain⟨σ',H',I,q⟩:=h;exact⟨σ',H',I.unwish,q⟩
 | ret u=>obtain⟨v,σ',H',I,r,q⟩:=h;exact⟨v,σ',H',I.unwish,r,q⟩
theorem PSs.nox{st:List Stmt}{t:TS}(h:PSs X.nox st t):PSs X st t:=fun pins s σ H D I hw =>
 JJ (h pins s σ H D (I.wish _) hw) (fun _ _ q=>q.unwish) fun _ _ z=>False.elim z
end
section
variable {X:Cx}{st:Stmt}{rest:List Stmt}{t u:TS}{e:Expr}{te:TE}{pos:Pos}
def DX:TS:=fun D σ H=>D.nx σ H
def F8(t u:TS):TS:=fun D σ H=>t { D with nx:=u D } σ H
theorem wZ:PSs X [] DX:=fun _ _ σ H _ I h=>wpAny_execs_nil ⟨σ,H,I,h⟩
theorem wo(h1:PS X st t)(h2:PSs X rest u):PSs X (st::rest) (F8 t u):=by
 intro pins s σ H D I h;refine wpAny_execs_cons (thn (h1 pins s σ H { D with nx:=u D } I h) fun f s1 q=>?_);cases f with
 | next =>
  obtain⟨σ',H',I',q⟩:=q;exact h2 pins s1 σ' H' D I' q
 | ret v=>exact q
 | brk=>exact q
 | cont=>exact q
theorem qP(h1:PS X st t):PSs X [st] t:=by
 intro pins s σ H D I h;refine wpAny_execs_cons (thn (h1 pins s σ H D I h) fun f s1 q=>?_);cases f with
 | next=>exact wpAny_execs_nil q
 | ret v=>exact q
 | brk=>exact q
 | cont=>exact q
theorem Inv.quiet{pins:List (Addr×Obj)}{σ:St}{H:Hp}{s:Shared}(I:Inv X pins σ H s):interactive X.env=false:=by simp[interactive,I.ok.kind]
def DB(te:TE):TS:=fun D σ H=>te σ H fun _ H1=>D.nx σ H1
theorem xm(he:PE X e te)(hs:swapsWith e none pos.line X.env=pure false:=by rfl):PS X (.Expr e pos) (DB te):=by
 intro pins s σ H D I h;exact wpAny_Expr_any (thn (he pins s σ H _ I h) fun v s1 y_=>by obtain⟨x,H1,I1,r1,q1⟩:=y_;exact ⟨σ,H1,I1,q1⟩) I.quiet hs
def Hr(te:TE):TS:=fun D σ H=>te σ H D.rt
theorem BR(he:PE X e te):PS X (.Return (some e) pos) (Hr te):=by
 intro pins s σ H D I h;exact wpAny_Return_some (thn (he pins s σ H _ I h) fun v s1 y_=>by obtain⟨x,H1,I1,r1,q1⟩:=y_;exact ⟨x,σ,H1,I1,r1,q1⟩)
def Gv(c:TT)(t u:TS):TS:=fun D σ H=>c σ H fun b H1=>if b=true then t D σ H1 else u D σ H1
theorem Ei{c:Expr}{a b:List Stmt}{tc:TT}(hc:PT X c tc)(ha:PSs X a t)(hb:PSs X b u):PS X (.If c a b pos) (Gv tc t u):=by
 intro pins s σ H D I h;refine wpAny_If (thn (hc pins s σ H _ I h) fun d s1 y_=>?_);obtain⟨H1,I1,q1⟩:=y_;cases d with
 | true=>exact ha pins s1 σ H1 D I1 q1
 | false=>exact hb pins s1 σ H1 D I1 q1
end
abbrev TG:=V->St->Hp->(St->Hp->Prop)->Prop
abbrev TGs:=List V->St->Hp->(St->Hp->Prop)->Prop
def PG(X:Cx)(target:Expr)(t:TG):Prop :=
 ∀(pins:List (Addr×Obj)) (s:Shared) (σ:St) (H:Hp) (v:V) (u:Value) (Q:St->Hp->Prop),Inv X pins σ H s->RelV v u->t v σ H Q ->
  wpAny (model X.prog X.w) X.A (assign target X.env u) (fun _ s'=>∃σ' H',Inv X pins σ' H' s'/\Q σ' H') X.xe s
def PGs(X:Cx)(ts:List Expr)(t:TGs):Prop :=
 ∀(pins:List (Addr×Obj)) (s:Shared) (σ:St) (H:Hp) (vs:List V) (us:List Value) (Q:St->Hp->Prop),Inv X pins σ H s->Vals vs us->t vs σ H Q ->
  wpAny (model X.prog X.w) X.A (assignInOrder ((assignEach ts X.env).map (·.2)) us) (fun _ s'=>∃σ' H',Inv X pins σ' H' s'/\Q σ' H') X.xe s
abbrev Gw:=V->V->V->Hp->(Hp->Prop)->Prop
def nP(X:Cx)(t:Gw):Prop :=
 ∀(pins:List (Addr×Obj)) (s:Shared) (σ:St) (H:Hp) (o i v:V) (ov iv u:Value) (Q:Hp->Prop),Inv X pins σ H s->RelV o ov->RelV i iv->RelV v u->t o i v H Q ->
  wpAny (model X.prog X.w) X.A (setItem ov iv u) (fun _ s'=>∃H',Inv X pins σ H' s'/\Q H') X.xe s
section
variable {X:Cx}{pos:Pos}
def qj(i:Nat):TG:=fun v σ H Q=>Q (σ.set i (some v)) H
theorem yL{i:Nat}{x:Str}(hN:X.N.Nodup)(hi:X.N[i]?=some x)(hx:Loc X.env.scope x)(hf:X.fn x=true∨X.env.scope.names.lookup x=some .local:=by first | exact .inl rfl | exact .inr rfl | assumption):PG X (.Name x pos) (qj i):=by
 intro pins s σ H v u Q I r h;exact wpAny_assign_Name (gL I hN hi hx r (fun s' I'=>⟨_,H,I',h⟩) hf)
def Fo:TGs:=fun vs σ H Q=>vs=[]/\Q σ H
def ET(t:TG)(u:TGs):TGs:=fun vs σ H Q=>∃v r,vs=v::r/\t v σ H fun σ' H'=>u r σ' H' Q
theorem zq:PGs X [] Fo:=by
 intro pins s σ H vs us Q I r h;obtain⟨e,h⟩:=h;subst e;cases r;exact assignInOrder_nil ⟨σ,H,I,h⟩
theorem vA{e:Expr}{es:List Expr}{t:TG}{u:TGs}(h1:PG X e t)(h2:PGs X es u)
  (hs:(assignEach (e::es) X.env).map (·.2)=assign e X.env::(assignEach es X.env).map (·.2):=by rfl):PGs X (e::es) (ET t u):=by
 intro pins s σ H vs us Q I r h;obtain⟨v,vr,e1,h⟩:=h;subst e1;cases r with
 | cons r rr =>
  rw[hs];refine assignInOrder_cons (thn (h1 pins s σ H _ _ _ I r h) fun _ s1 y_=>?_);obtain⟨σ1,H1,I1,q1⟩:=y_;exact h2 pins s1 σ1 H1 _ _ Q I1 rr q1
def Gn(K:PySem.W.Frag)(n:Nat)(t:TGs):TG:=fun v σ H Q=>∃a xs,v=.ref a/\SqT K H a xs/\xs.length=n/\t xs σ H Q
theorem AZ{es:List Expr}{k:Nat}{t:TGs}{n:Nat}(hc:X.calm=true)(h:PGs X es t)
  (hn:(assignEach es X.env).length=n:=by rfl) (hst:(assignEach es X.env).findIdx? (·.1)=none:=by rfl):PG X (.Tuple es k pos) (Gn X.K n t):=by
 intro pins s σ H v u Q I r hw;obtain⟨a,xs,e1,hq,hl,hw⟩:=hw;subst e1;cases r;obtain⟨its,rv,ht,hz⟩:=I.tuple hq;refine assign_Tuple_tuple (I.ok.hd hc) ht (by simp[hn,← hl,rv.length]) hst fun h' hx=>?_;have I1:Inv X pins σ H { s with heap:=h' }:=I.kept (t':=s.toks) fun b o e=>hx b o (B6 (xV e)) e;exact h pins _ σ H xs _ Q I1 (by simpa using rv) hw
def zC(te:TE)(g:TG):TS:=fun D σ H=>te σ H fun x H1=>g x σ H1 D.nx
theorem BD{tg e:Expr}{te:TE}{g:TG}(he:PE X e te)(hg:PG X tg g)(hs:swapsWithSole [tg] e pos.line X.env=pure false:=by rfl)(hw:swappedStores [tg] e X.env=pure none:=by rfl)
  (h1:(assignEach [tg] X.env).map (·.2)=[assign tg X.env]:=by rfl):PS X (.Assign [tg] e pos) (zC te g):=by
 intro pins s σ H D I h;refine wpAny_Assign_stores (thn (he pins s σ H _ I h) fun v s1 ⟨x,H1,I1,r1,q1⟩=>?_) hs hw;rw[h1];exact thn (hg pins s1 σ H1 x v _ I1 r1 q1) fun _ s2 q=>q
theorem vE{i:Nat}{x:Str}{e:Expr}{te:TE}{pos':Pos}(hN:X.N.Nodup)(hi:X.N[i]?=some x)(hx:Loc X.env.scope x)(he:PE X e te)(hs:swapsWith e (some (.Name x pos')) pos.line X.env=pure false:=by rfl)(hf:X.fn x=true∨X.env.scope.names.lookup x=some .local:=by first | exact .inl rfl | exact .inr rfl | assumption) :
  PS X (.Assign [.Name x pos'] e pos) (zC te (qj i)):=by
 intro pins s σ H D I h;refine wpAny_Assign_Name (thn (he pins s σ H _ I h) fun v s1 ⟨y,H1,I1,r1,q1⟩=>?_) hs;exact gL I1 hN hi hx r1 (fun s2 I2=>⟨_,H1,I2,q1⟩) hf
end
section
variable {X:Cx}{pos:Pos}
def uu(c:TT)(tb:TS):TS:=fun D σ H=>∃W:Nat->St->Hp->Prop,(∃m,W m σ H)/\∀m σ H,W m σ H ->
 c σ H fun b H1=>if b=true then ∃N:St->Hp->Prop,(∀σ' H',N σ' H'->∃m',m'<m/\W m' σ' H')/\tb { D with nx:=N,ct:=N,bk:=D.nx } σ H1 else D.nx σ H1
theorem t7{c:Expr}{body:List Stmt}{tc:TT}{tb:TS}(hp:PassesOwn (model X.prog X.w) X.A X.env X.xe)(hc:PT X c tc)(hb:PSs X body tb):PS X (.While c body [] pos) (uu tc tb):=by
 intro pins s σ H D I h;obtain⟨W,⟨m0,w0⟩,turn⟩:=h;refine wpAny_While (codeAny_whileLoop (fun n s'=>∃σ' H',Inv X pins σ' H' s'/\W n σ' H') ?_ m0 ⟨σ,H,I,w0⟩);rintro n s1 ⟨σ1,H1,I1,w1⟩;refine JV hp (thn (hc pins s1 σ1 H1 _ I1 (turn n σ1 H1 w1)) fun b s2 y_=>?_);obtain⟨H2,I2,q2⟩:=y_;cases b with
 | true =>
  obtain⟨N,hN,q2⟩:=q2;rw[Ij rfl];refine JV hp (thn (hb pins s2 σ1 H2 _ I2 q2) fun f s3 q3=>?_);cases f with
  | next =>
   obtain⟨σ3,H3,I3,n3⟩:=q3;obtain⟨m',hm,w3⟩:=hN σ3 H3 n3;exact⟨m',hm,σ3,H3,I3,w3⟩
  | cont =>
   obtain⟨σ3,H3,I3,n3⟩:=q3;obtain⟨m',hm,w3⟩:=hN σ3 H3 n3;exact⟨m',hm,σ3,H3,I3,w3⟩
  | brk=>exact q3
  | ret v=>exact q3
 | false =>
  rw[CI JA];exact wpAny_execs_nil ⟨σ1,H2,I2,q2⟩
end
structure It where
 go:Nat->Hp->Prop
 yld:Nat->Hp->V->Hp->Prop
 stop:Nat->Hp->Prop
def iK(X:Cx)(pins:List (Addr×Obj))(H:Hp)(b:Addr):Prop :=
 H b=none/\b≠X.env.locals/\b∉X.fs/\(b∈X.ex∨X.s₀.heap.objs.size≤b)/\(∀x c,X.env.cells.lookup x=some c->c≠b)/\∀p∈X.pn++pins,p.1≠b
theorem Inv.fpOk{X:Cx}{pins:List (Addr×Obj)}{σ:St}{H H':Hp}{s:Shared}{b:Addr}(I:Inv X pins σ H s)(hb:s.heap.objs.size≤b)(hn:H' b=none):iK X pins H' b:=by
 refine⟨hn,JE (Iq I.lt hb),I.nofs hb,.inr (IC I.sz hb),fun x c e z=>?_,fun p hp z=>?_⟩
 ·obtain⟨v,q⟩:=I.cell x c e;exact absurd (Iq q.lt (by rw[z];exact hb)) (JM _)
 ·exact absurd (Iq (xV (I.pin p hp).1) (by rw[z];exact hb)) (JM _)
structure Turn (P:Program) (w:World) (K:PySem.W.Frag) (tg:Expr) (J:It) (fp:List Addr) (it:Addr) (tn:Nat→Heap→Prop):Prop where
 mem:it∈fp
 obj:∀i h,tn i h->∀b∈fp,∃o,h.get? b=some o/\∀v,o.data≠.cell v
 keep:∀i h h',tn i h->(∀b∈fp,∀o,h.get? b=some o->h'.get? b=some o)->tn i h'
 item:∀(X:Cx),X.prog=P->X.w=w->X.K=K->X.calm=true->∀(i:Nat) (pins:List (Addr×Obj)) (s:Shared) (σ:St) (H:Hp) (E:Value->Shared->Prop),Inv X pins σ H s->(∀b∈fp,iK X pins H b)->tn i s.heap->J.go i H ->
  wpAny (model P w) X.A (pyNext (.ref it)) (fun r s1=>∃u,r=some u /\
   wpAny (model P w) X.A (letOwnedTupleGo tg (.ref it) u) (fun _ s2=>∃x H',Inv X pins σ H' s2/\RelV x u/\J.yld i H x H'/\tn (i+1) s2.heap/\∀b∈fp,H' b=none) E s1) E s
 done:∀(X:Cx),X.prog=P->X.w=w->X.K=K->X.calm=true->∀(i:Nat) (pins:List (Addr×Obj)) (s:Shared) (σ:St) (H:Hp) (E:Value->Shared->Prop),Inv X pins σ H s->(∀b∈fp,iK X pins H b)->tn i s.heap->J.stop i H ->
  wpAny (model P w) X.A (pyNext (.ref it)) (fun r s1=>r=none/\Inv X pins σ H s1) E s
 self:∀(A:Around) (i:Nat) (s:Shared) (Q:Value->Shared->Prop) (E:Value->Shared->Prop),tn i s.heap->Q (.ref it) s->wpAny (model P w) A (pyIter (.ref it)) Q E s
abbrev TI:=St->Hp->(It->Hp->Prop)->Prop
def PIE(X:Cx)(pins:List (Addr×Obj))(σ:St)(tg:Expr)(R:It->Hp->Prop)(itv:Value)(s2:Shared):Prop :=
 ∃(it:Addr) (fp:List Addr) (tn:Nat->Heap->Prop) (J:It) (H':Hp),itv=.ref it/\Inv X pins σ H' s2/\Turn X.prog X.w X.K tg J fp it tn/\tn 0 s2.heap/\(∀b∈fp,iK X pins H' b)/\R J H'
def PI(X:Cx)(tg iter:Expr)(wi:TI):Prop :=
 ∀(pins:List (Addr×Obj)) (s:Shared) (σ:St) (H:Hp) (R:It->Hp->Prop),Inv X pins σ H s->wi σ H R ->
  wpAny (model X.prog X.w) X.A (eval iter X.env) (fun v s1=>wpAny (model X.prog X.w) X.A (pyIter v) (PIE X pins σ tg R) X.xe s1) X.xe s
theorem qI{M:Model}{A:Around}{E:Value->Shared->Prop}{s:Shared}{tg:Expr}{it:Addr}{u:Value}{o:Obj}{n:String}{vs:Array Value}{Q:Unit->Shared->Prop}(ho:s.heap.get? it=some o)(hc:o.cls=.type n)(hd:o.data=.fields vs)
  (hn:["enumerate","zip","dict_itemiterator","dict_reverseitemiterator","odict_iterator","itertools.zip_longest","itertools.pairwise"].contains n=false) (hQ:Q () s):wpAny M A (letOwnedTupleGo tg (.ref it) u) Q E s:=by
 unfold letOwnedTupleGo;cases tg<;>first
  | exact wa hQ
  |(cases u<;>first
    | exact wa hQ
    | (refine uH (wpAny_load ho ?_)
       rw [hc,hd];show wpAny M A (if (["enumerate","zip","dict_itemiterator","dict_reverseitemiterator","odict_iterator","itertools.zip_longest","itertools.pairwise"].contains n && vs[0]? == some (rawInt _))=true then _ else _) Q E s;rw [CI (by intro h; rw [hn,Bool.false_and] at h; cases h)];exact wa hQ))
def Itl(K:PySem.W.Frag)(a:Addr):It :=
 ⟨fun i H=>∃xs x,SqL K H a xs/\xs[i]?=some x,fun i H x H'=>H'=H/\∀xs,SqL K H a xs->xs[i]?=some x,fun i H=>∃xs,SqL K H a xs/\xs.length≤i⟩
def Itt(K:PySem.W.Frag)(a:Addr):It :=
 ⟨fun i H=>∃xs x,SqT K H a xs/\xs[i]?=some x,fun i H x H'=>H'=H/\∀xs,SqT K H a xs->xs[i]?=some x,fun i H=>∃xs,SqT K H a xs/\xs.length≤i⟩
def Itr(lo:Int)(n:Nat):It:=⟨fun i _=>i<n,fun i H x H'=>H'=H/\x=.int (lo+i),fun i _=>n≤i⟩
theorem sC{P:Program}{w:World}{K:PySem.W.Frag}{tg:Expr}(a it:Addr):Turn P w K tg (Itl K a) [it] it (fun i h=>h.IsListIter it a i) where
 mem:=by simp
 obj:=fun i h st b hb=>by
  have e:b=it:=by simpa using hb
  subst e;obtain⟨o,e,c,d⟩:=st;exact⟨o,e,fun v z=>by rw[d]at z;cases z⟩
 keep:=fun i h h' st k=>st.at fun o e=>k it (by simp) o e
 item:=by
  intro X hP hw hK hc i pins s σ H E I hf st hg;subst hP hw hK;obtain⟨xs,x,hq,hx⟩:=hg;obtain⟨its,rv,p,hz⟩:=I.list hq;obtain⟨u,hu,ru⟩:=rv.get hx;obtain⟨f0,f1,f2,f3,f4,f5⟩:=hf it (by simp);refine wpAny_pyNext_list_item st p.isList (x:=u) (by simpa using hu) fun h' st' sb=>?_;have I1:Inv X pins σ H { s with heap:=h' }:=I.turned (t':=s.toks) (fun b o hb e=>(sb.2 b hb).trans e) f0 f1 f3 f4 f5;obtain⟨o,e,c,d⟩:=id st';exact⟨u,rfl,qI (s:={ s with heap:=h' }) e c d (by decide) ⟨x,H,I1,ru,⟨rfl,fun ys hy=>by rw[I.list_inj hy hq];exact hx⟩,st',fun b hb=>(hf b hb).1⟩⟩
 done:=by
  intro X hP hw hK hc i pins s σ H E I hf st hg;subst hP hw hK;obtain⟨xs,hq,hx⟩:=hg;obtain⟨its,rv,p,hz⟩:=I.list hq;obtain⟨f0,f1,f2,f3,f4,f5⟩:=hf it (by simp);have hl:=rv.length;exact wpAny_pyNext_list_end (I.ok.hd hc) st p.isList (by simp;omega) fun h' eb=>⟨rfl,I.turned (t':=s.toks) (fun b o hb e=>eb b o hb e) f0 f1 f3 f4 f5⟩
 self:=fun _ _ _ _ _ st h=>wpAny_pyIter_listiter st h
theorem oA{P:Program}{w:World}{K:PySem.W.Frag}{tg:Expr}(a it:Addr):Turn P w K tg (Itt K a) [it] it (fun i h=>h.IsTupleIter it a i) where
 mem:=by simp
 obj:=fun i h st b hb=>by
  have e:b=it:=by simpa using hb
  subst e;obtain⟨o,e,c,d⟩:=st;exact⟨o,e,fun v z=>by rw[d]at z;cases z⟩
 keep:=fun i h h' st k=>st.at fun o e=>k it (by simp) o e
 item:=by
  intro X hP hw hK hc i pins s σ H E I hf st hg;subst hP hw hK;obtain⟨xs,x,hq,hx⟩:=hg;obtain⟨its,rv,p,hz⟩:=I.tuple hq;obtain⟨u,hu,ru⟩:=rv.get hx;obtain⟨f0,f1,f2,f3,f4,f5⟩:=hf it (by simp);refine wpAny_pyNext_tuple_item st (show s.heap.IsTuple a its.toArray from p) (x:=u) (by simpa using hu) fun h' st' sb=>?_;have I1:Inv X pins σ H { s with heap:=h' }:=I.turned (t':=s.toks) (fun b o hb e=>(sb.2 b hb).trans e) f0 f1 f3 f4 f5;obtain⟨o,e,c,d⟩:=id st';exact⟨u,rfl,qI (s:={ s with heap:=h' }) e c d (by decide) ⟨x,H,I1,ru,⟨rfl,fun ys hy=>by rw[I.tuple_inj hy hq];exact hx⟩,st',fun b hb=>(hf b hb).1⟩⟩
 done:=by
  intro X hP hw hK hc i pins s σ H E I hf st hg;subst hP hw hK;obtain⟨xs,hq,hx⟩:=hg;obtain⟨its,rv,p,hz⟩:=I.tuple hq;obtain⟨f0,f1,f2,f3,f4,f5⟩:=hf it (by simp);have hl:=rv.length;exact wpAny_pyNext_tuple_end (I.ok.hd hc) st (show s.heap.IsTuple a its.toArray from p) (by simp;omega) fun h' eb=>⟨rfl,I.turned (t':=s.toks) (fun b o hb e=>eb b o hb e) f0 f1 f3 f4 f5⟩
 self:=fun _ _ _ _ _ st h=>wpAny_pyIter_tupleiter st h
theorem oE{P:Program}{w:World}{K:PySem.W.Frag}{tg:Expr}(it:Addr)(lo:Int)(n:Nat):Turn P w K tg (Itr lo n) [it] it (fun i h=>IsRangeIter h it (lo+(i:Nat)*1) ((n:Int) - (i:Nat)) 1) where
 mem:=by simp
 obj:=fun i h st b hb=>by
  have e:b=it:=by simpa using hb
  subst e;exact⟨_,st,fun v z=>by
   have z':Data.fields _=Data.cell v:=z;cases z'⟩
 keep:=fun i h h' st k=>k it (by simp) _ st
 item:=by
  intro X hP hw hK hc i pins s σ H E I hf st hg;subst hP hw hK;obtain⟨f0,f1,f2,f3,f4,f5⟩:=hf it (by simp);have W:=Walks.range (prog:=X.prog) (w:=X.w) (I.ok.hd hc) it lo 1 n;refine W.item i s _ _ hg st fun v h' tk hv st' kk=>?_;obtain⟨t,rfl⟩:=hv;have I1:Inv X pins σ H { s with heap:=h',toks:=tk }:=I.turned (fun b o hb e=>kk b o (by simpa using hb) e) f0 f1 f3 f4 f5;refine⟨_,rfl,qI (s:={ s with heap:=h',toks:=tk }) (n:="range_iterator") st' rfl rfl (by decide) ⟨.int (lo+i),H,I1,⟨t,?_⟩,⟨rfl,rfl⟩,st',fun b hb=>(hf b hb).1⟩⟩;rw[Int.mul_one]
 done:=by
  intro X hP hw hK hc i pins s σ H E I hf st hg;subst hP hw hK;obtain⟨f0,f1,f2,f3,f4,f5⟩:=hf it (by simp);exact wpAny_pyNext_range_end (I.ok.hd hc) st (by have:n≤i:=hg;omega) fun h' eb=>⟨rfl,I.turned (t':=s.toks) (fun b o hb e=>eb b o hb e) f0 f1 f3 f4 f5⟩
 self:=fun _ _ _ _ _ st h=>wpAny_pyIter_rangeiter st h
end
section
section
variable {X:Cx}{tg:Expr}
theorem uG{pins:List (Addr×Obj)}{σ:St}{H:Hp}{s:Shared}{R:It->Hp->Prop}{E:Value->Shared->Prop}{lo hi:Int}{t u v:Tok}{tk:Nat}(I:Inv X pins σ H s)(h1:-(2 ^ 62)≤lo)(h2:lo<2 ^ 62)(h3:-(2 ^ 62)≤hi)(h4:hi<2 ^ 62)
  (q:R (Itr lo (hi - lo).toNat) H):wpAny (model X.prog X.w) X.A (pyIter (.ref s.heap.objs.size)) (PIE X pins σ tg R) E { s with heap:=s.heap.push { cls:=.type "range",data:=.fields #[.int lo t,.int hi u,.int 1 v] },toks:=tk }:=by
 refine wpAny_pyIter_range (IsRange.new ..) (small_one h1 h2 h3 h4) ?_;have I1:Inv X pins σ H { s with heap:=s.heap.push { cls:=.type "range",data:=.fields #[.int lo t,.int hi u,.int 1 v] },toks:=tk }:=I.kept fun b o e=>va _ e;refine⟨(s.heap.push { cls:=.type "range",data:=.fields #[.int lo t,.int hi u,.int 1 v] }).objs.size,[(s.heap.push { cls:=.type "range",data:=.fields #[.int lo t,.int hi u,.int 1 v] }).objs.size],_,_,H,rfl,
  I1.kept (t':=tk) fun b o e=>va _ e,oE _ lo (hi - lo).toNat,?_,fun b hb=>?_,q⟩
 ·have e1:lo+((0:Nat):Int)*1=lo:=by simp
  have e2:(((hi - lo).toNat:Nat):Int) - ((0:Nat):Int)=Builtin.Range.rangeSize lo hi 1:=by rw[rangeSize_one];split<;>omega
  show IsRangeIter _ _ (lo+((0:Nat):Int)*1) ((((hi - lo).toNat:Nat):Int) - ((0:Nat):Int)) 1;rw[e1,e2];exact yf _ rfl
 ·have e:b=(s.heap.push { cls:=.type "range",data:=.fields #[.int lo t,.int hi u,.int 1 v] }).objs.size:=by simpa using hb
  subst e;exact I1.fpOk (yi _) (I1.hok.fresh (yi _))
def Ee(ta:TA):TI:=fun σ H R=>ta σ H fun vs H1=>∃j:Int,vs=[.int j]/\-(2 ^ 62)≤j/\j<2 ^ 62/\R (Itr 0 j.toNat) H1
theorem sR{a:Expr}{ta:TA}{p pos:Pos}(hg:Gl X "range")(hm:X.mg "range"=none)(ha:PA X [a] ta)(hs:starEach [a] X.env=[(false,eval a X.env)]:=by rfl):PI X tg (.Call (.Name "range" p) [a] [] pos) (Ee ta):=by
 intro pins s σ H R I h;refine Call_ (cN I hg hm boot_range (IK (thn (ha pos pins s σ H _ I h) fun us s1 ⟨vs,H1,I1,r1,q1⟩=>?_) hs rfl));obtain⟨j,e,q1,q2,q⟩:=q1;subst e;cases r1 with
 | cons r rr =>
  cases rr;obtain⟨t,rfl⟩:=r;exact call_range_1 (uG I1 (by omega) (by omega) q1 q2 (by simpa using q))
def Ht(wi:TI)(g:TG)(tb:TS):TS:=fun D σ H=>wi σ H fun J H1=>∃W:Nat->Nat->St->Hp->Prop,(∃m,W 0 m σ H1)/\∀i m σ H,W i m σ H ->
 (J.stop i H/\D.nx σ H)∨(J.go i H/\∃N:St->Hp->Prop,(∀σ' H',N σ' H'->∃m',m'<m/\W (i+1) m' σ' H')/\∀x H',J.yld i H x H'->g x σ H' fun σ2 H2=>tb { D with nx:=N,ct:=N,bk:=D.nx } σ2 H2)
def jW(fp:List Addr)(h:Heap):List (Addr×Obj):=fp.filterMap fun b=>(h.get? b).map fun o=>(b,o)
theorem d4{fp:List Addr}{h:Heap}{b:Addr}{o:Obj}(hb:b∈fp)(e:h.get? b=some o):(b,o)∈jW fp h:=List.mem_filterMap.mpr ⟨b,hb,by rw[e];rfl⟩
theorem sL{fp:List Addr}{h:Heap}{p:Addr×Obj}(hp:p∈jW fp h):p.1∈fp/\h.get? p.1=some p.2:=by
 obtain⟨b,hb,e⟩:=List.mem_filterMap.mp hp;cases q:h.get? b with
 | none=>rw[q]at e;cases e
 | some o =>
  rw[q]at e;have e':(b,o)=p:=IH e;subst e';exact⟨hb,q⟩
theorem Inv.pinned{pins:List (Addr×Obj)}{σ:St}{H:Hp}{s:Shared}{fp:List Addr}(I:Inv X pins σ H s)(hf:∀b∈fp,iK X pins H b)(ho:∀b∈fp,∃o,s.heap.get? b=some o/\∀v,o.data≠.cell v):Inv X (pins++jW fp s.heap) σ H s :=
 I.pins_of fun p hp=>(zi.mp hp).elim (fun z=>I.pin p (IE _ z)) fun z=>by
  obtain⟨hb,e⟩:=sL z;obtain⟨f0,f1,f2,_⟩:=hf p.1 hb;obtain⟨o,e',d⟩:=ho p.1 hb;rw[e]at e';cases e';exact⟨e,f0,f1,f2,d⟩
theorem Inv.unpinned{pins pl:List (Addr×Obj)}{σ:St}{H:Hp}{s:Shared}(I:Inv X (pins++pl) σ H s):Inv X pins σ H s:=I.pins_of fun p hp=>I.pin p (IE _ (IJ _ hp))
theorem vY{iter:Expr}{body:List Stmt}{wi:TI}{g:TG}{tb:TS}{pos:Pos}(hp:PassesOwn (model X.prog X.w) X.A X.env X.xe)(hc:X.calm=true)(hi:PI X tg iter wi)(hg:PG X tg g)(hb:PSs X body tb)
  (hs:∀x,foldedSetIterable iter X.env x=pure x:=by intro _;rfl):PS X (.For tg iter body [] pos) (Ht wi g tb):=by
 intro pins s σ H D I h;refine wpAny_For (thn (hi pins s σ H _ I h) fun v s1 h1=>thn h1 fun itv s2 h2=>?_) hs;obtain⟨it,fp,tn,J,H2,e,I2,T,st2,f2,W,⟨m0,w0⟩,turn⟩:=h2;subst e;have stat:∀{H':Hp},(∀b∈fp,H' b=none)->∀b∈fp,iK X pins H' b:=fun hn b hb=>⟨hn b hb,(f2 b hb).2⟩;refine codeAny_forLoop_any (fun n s'=>∃i σ' H',Inv X pins σ' H' s'/\tn i s'.heap/\(∀b∈fp,H' b=none)/\W i n σ' H') ?_ m0 ⟨0,σ,H2,I2,st2,fun b hb=>(f2 b hb).1,w0⟩;rintro n s3 ⟨i,σ3,H3,I3,st3,fr3,w3⟩;rcases turn i n σ3 H3 w3 with⟨stop,qn⟩ |⟨go,N,hN,step⟩
 ·refine JV hp (thn (T.done X rfl rfl rfl hc i pins s3 σ3 H3 X.xe I3 (stat fr3) st3 stop) fun r s4 y_=>?_);obtain⟨hr,I4⟩:=y_;subst hr;exact wpAny_execs_nil ⟨σ3,H3,I4,qn⟩
 ·refine JV hp (thn (T.item X rfl rfl rfl hc i pins s3 σ3 H3 X.xe I3 (stat fr3) st3 go) fun r s4 y_=>?_);obtain⟨u,hr,h4⟩:=y_;subst hr;refine JV hp (thn h4 fun _ s5 y_=>?_);obtain⟨x,H5,I5,r5,y5,st5,fr5⟩:=y_;have I5':=I5.pinned (stat fr5) (T.obj _ _ st5);refine JV hp (thn (hg _ s5 σ3 H5 x u _ I5' r5 (step x H5 y5)) fun _ s6 y_=>?_);obtain⟨σ6,H6,I6,q6⟩:=y_;refine JV hp (thn (hb _ s6 σ6 H6 _ I6 q6) fun f s7 q7=>?_);have again:∀{σ7:St} {H7:Hp},Inv X (pins++jW fp s5.heap) σ7 H7 s7->N σ7 H7->∃m,m<n/\∃i σ' H',Inv X pins σ' H' s7/\tn i s7.heap/\(∀b∈fp,H' b=none)/\W i m σ' H':=fun {σ7 H7} I7 n7=>by
   obtain⟨m',hm,w7⟩:=hN σ7 H7 n7;refine⟨m',hm,i+1,σ7,H7,I7.unpinned,T.keep _ _ _ st5 fun b hb o e=>(I7.pin (b,o) (IE _ (IE _ (d4 hb e)))).1,fun b hb=>?_,w7⟩;obtain⟨o,e,d⟩:=T.obj _ _ st5 b hb;exact(I7.pin (b,o) (IE _ (IE _ (d4 hb e)))).2.1
  cases f with
  | next=>obtain⟨σ7,H7,I7,n7⟩:=q7;exact again I7 n7
  | cont=>obtain⟨σ7,H7,I7,n7⟩:=q7;exact again I7 n7
  | brk=>obtain⟨σ7,H7,I7,q7⟩:=q7;exact⟨σ7,H7,I7.unpinned,q7⟩
  | ret v=>obtain⟨x7,σ7,H7,I7,r7,q7⟩:=q7;exact⟨x7,σ7,H7,I7.unpinned,r7,q7⟩
end
theorem gD{c:TT}{tb:TS}{D:Ends}{σ:St}{H:Hp}(Pv:St->Hp->Prop)(μ:St->Hp->Nat)(h0:Pv σ H)
  (hs:∀σ H,Pv σ H->c σ H fun b H1=>if b=true then tb { D with nx:=fun σ' H'=>Pv σ' H'/\μ σ' H'<μ σ H,ct:=fun σ' H'=>Pv σ' H'/\μ σ' H'<μ σ H,bk:=D.nx } σ H1 else D.nx σ H1)
  (mono:∀σ H Q Q',(∀b H1,Q b H1->Q' b H1)->c σ H Q->c σ H Q'):uu c tb D σ H:=by
 refine⟨fun m σ H=>m=μ σ H/\Pv σ H,⟨_,rfl,h0⟩,?_⟩;rintro m σ H ⟨rfl,p⟩;refine mono σ H _ _ (fun b H1 q=>?_) (hs σ H p);cases b with
 | true=>exact⟨_,fun σ' H' y_=>by obtain⟨p',l⟩:=y_;exact ⟨_,l,rfl,p'⟩,q⟩
 | false=>exact q
end
section
abbrev R2:=V->V->Hp->VK->Prop
def OpR(X:Cx)(f:Value->Value->Sem Value)(r:R2):Prop :=
 ∀(pins:List (Addr×Obj)) (s:Shared) (σ:St) (H:Hp) (x y:V) (v u:Value) (Q:VK),Inv X pins σ H s->RelV x v->RelV y u->r x y H Q ->
  wpAny (model X.prog X.w) X.A (f v u) (EP X pins σ Q) X.xe s
def UnR(X:Cx)(f:Value->Sem Value)(r:V->Hp->VK->Prop):Prop :=
 ∀(pins:List (Addr×Obj)) (s:Shared) (σ:St) (H:Hp) (x:V) (v:Value) (Q:VK),Inv X pins σ H s->RelV x v->r x H Q ->
  wpAny (model X.prog X.w) X.A (f v) (EP X pins σ Q) X.xe s
def cv(X:Cx)(f:Value)(r:List V->Hp->VK->Prop):Prop :=
 ∀(pins:List (Addr×Obj)) (s:Shared) (σ:St) (H:Hp) (xs:List V) (us:List Value) (Q:VK),Inv X pins σ H s->Vals xs us->r xs H Q ->
  wpAny (model X.prog X.w) X.A (call f us) (EP X pins σ Q) X.xe s
def tOp(r:R2)(ta tb:TE):TE:=fun σ H Q=>ta σ H fun x H1=>tb σ H1 fun y H2=>r x y H2 Q
def tUn(r:V->Hp->VK->Prop)(ta:TE):TE:=fun σ H Q=>ta σ H fun x H1=>r x H1 Q
def rI(C:Int->Int->Prop)(g:Int->Int->V):R2:=fun x y H Q=>∃i j,x=.int i/\y=.int j/\C i j/\Q (g i j) H
def rI0(g:Int->Int->V):R2:=fun x y H Q=>∃i j,x=.int i/\y=.int j/\Q (g i j) H
def rU(g:Int->V):V->Hp->VK->Prop:=fun x H Q=>∃i,x=.int i/\Q (g i) H
section
variable {X:Cx}{a b c:Expr}{ta tb tc:TE}{pos:Pos}
theorem CC(ha:PE X a ta)(hb:PE X b tb){pins:List (Addr×Obj)}{s:Shared}{σ:St}{H:Hp}{R:V->V->Hp->Prop}(I:Inv X pins σ H s)
  (h:ta σ H fun x H1=>tb σ H1 fun y H2=>R x y H2) {Q:Value->Shared->Prop} {f:Value->Value->Sem Value}
  (hf:∀v u s2 x y H2,Inv X pins σ H2 s2->RelV x v->RelV y u->R x y H2->wpAny (model X.prog X.w) X.A (f v u) Q X.xe s2) :
  wpAny (model X.prog X.w) X.A (eval a X.env) (fun v s₁=>wpAny (model X.prog X.w) X.A (eval b X.env) (fun u s₂=>wpAny (model X.prog X.w) X.A (f v u) Q X.xe s₂) X.xe s₁) X.xe s:=by
 refine thn (ha pins s σ H _ I h) fun v s1 y_=>?_;obtain⟨x,H1,I1,r1,q1⟩:=y_;refine thn (hb pins s1 σ H1 _ I1 q1) fun u s2 y_=>?_;obtain⟨y,H2,I2,r2,q2⟩:=y_;exact hf v u s2 x y H2 I2 r1 r2 q2
theorem D7{op:Operator}{r:R2}(ho:OpR X (binaryOp op) r)(ha:PE X a ta)(hb:PE X b tb):PE X (.BinOp a op b pos) (tOp r ta tb):=by
 intro pins s σ H Q I h;exact wpAny_BinOp (CC ha hb I h fun v u s2 x y H2 I2 rx ry q=>ho pins s2 σ H2 x y v u Q I2 rx ry q)
theorem DU{op:UnaryOp}{r:V->Hp->VK->Prop}(ho:UnR X (unaryOp op) r)(ha:PE X a ta):PE X (.UnaryOp op a pos) (tUn r ta):=by
 intro pins s σ H Q I h;exact UnaryOp_ (thn (ha pins s σ H _ I h) fun v s1 y_=>by obtain⟨x,H1,I1,r1,q1⟩:=y_;exact ho pins s1 σ H1 x v Q I1 r1 q1)
theorem opI{f:Value->Value->Sem Value}{C:Int->Int->Prop}{g:Int->Int->Int}
  (rule:∀(i j:Int) (t u:Tok) (s:Shared) (Q:Value->Shared->Prop) (E:Value->Shared->Prop),C i j->Q (.int (g i j) s.toks) { s with toks:=s.toks+1 }->wpAny (model X.prog X.w) X.A (f (.int i t) (.int j u)) Q E s) :
  OpR X f (rI C fun i j=>.int (g i j)):=by
 intro pins s σ H x y v u Q I rx ry h;obtain⟨i,j,rfl,rfl,hc,q⟩:=h;obtain⟨t,rfl⟩:=rx;obtain⟨t',rfl⟩:=ry;exact rule i j t t' s _ _ hc ⟨.int (g i j),H,I.tok _,⟨_,rfl⟩,q⟩
theorem ES{f:Value->Value->Sem Value}{g:Int->Int->Int}
  (rule:∀(i j:Int) (t u:Tok) (s:Shared) (Q:Value->Shared->Prop) (E:Value->Shared->Prop),Q (.int (g i j) s.toks) { s with toks:=s.toks+1 }->wpAny (model X.prog X.w) X.A (f (.int i t) (.int j u)) Q E s) :
  OpR X f (rI0 fun i j=>.int (g i j)):=by
 intro pins s σ H x y v u Q I rx ry h;obtain⟨i,j,rfl,rfl,q⟩:=h;obtain⟨t,rfl⟩:=rx;obtain⟨t',rfl⟩:=ry;exact rule i j t t' s _ _ ⟨.int (g i j),H,I.tok _,⟨_,rfl⟩,q⟩
theorem zF{f:Value->Value->Sem Value}{g:Int->Int->Bool}
  (rule:∀(i j:Int) (t u:Tok) (s:Shared) (Q:Value->Shared->Prop) (E:Value->Shared->Prop),Q (.bool (g i j)) s->wpAny (model X.prog X.w) X.A (f (.int i t) (.int j u)) Q E s) :
  OpR X f (rI0 fun i j=>.bl (g i j)):=by
 intro pins s σ H x y v u Q I rx ry h;obtain⟨i,j,rfl,rfl,q⟩:=h;obtain⟨t,rfl⟩:=rx;obtain⟨t',rfl⟩:=ry;exact rule i j t t' s _ _ ⟨.bl (g i j),H,I,rfl,q⟩
def uB(i j:Int):Prop:=0≤j/\j≤1000000/\i.natAbs<2 ^ 64
def BW(i j:Int):Prop:=(-(2 ^ 64)<i/\i<2 ^ 64)∨(-(2 ^ 64)<j/\j<2 ^ 64)
theorem BW.ok{i j:Int}(h:BW i j):IntMulOk i j:=by
 rcases h with⟨h1,h2⟩ |⟨h1,h2⟩
 ·exact .of_left (intBits_le_64 h1 h2)
 ·exact .of_right (intBits_le_64 h1 h2)
theorem oR(k:Nat):(0:Int)≤2 ^ k:=by
 rw[two_pow_cast];exact Int.natCast_nonneg _
theorem AL:OpR X (binaryOp .Add) (rI0 fun i j=>.int (i+j)):=ES fun _ _ _ _ _ _ _ q=>add_int q
theorem B2:OpR X (binaryOp .Sub) (rI0 fun i j=>.int (i - j)):=ES fun _ _ _ _ _ _ _ q=>sub_int q
theorem yU:OpR X (binaryOp .Mod) (rI (fun _ j=>j≠0) fun i j=>.int (i.fmod j)):=opI fun _ _ _ _ _ _ _ hc q=>mod_int' hc q
theorem Cg:OpR X (binaryOp .Pow) (rI uB fun i j=>.int (i ^ j.toNat)):=opI fun _ _ _ _ _ _ _ hc q=>pow_int_small hc.1 hc.2.1 hc.2.2 q
theorem A3:OpR X (binaryOp .LShift) (rI uB fun i j=>.int (i*2 ^ j.toNat)):=opI fun _ _ _ _ _ _ _ hc q=>lshift_int_small hc.1 hc.2.1 hc.2.2 q
theorem Ck:OpR X (binaryOp .RShift) (rI (fun _ j=>0≤j) fun i j=>.int (i / 2 ^ j.toNat)):=opI fun i j _ _ _ _ _ hc q =>
 rshift_int hc (by rw[Int.fdiv_eq_ediv_of_nonneg i (oR _)];exact q)
theorem unI{f:Value->Sem Value}{g:Int->Int}
  (rule:∀(i:Int) (t:Tok) (s:Shared) (Q:Value->Shared->Prop) (E:Value->Shared->Prop),Q (.int (g i) s.toks) { s with toks:=s.toks+1 }->wpAny (model X.prog X.w) X.A (f (.int i t)) Q E s) :
  UnR X f (rU fun i=>.int (g i)):=by
 intro pins s σ H x v Q I rx h;obtain⟨i,rfl,q⟩:=h;obtain⟨t,rfl⟩:=rx;exact rule i t s _ _ ⟨.int (g i),H,I.tok _,⟨_,rfl⟩,q⟩
theorem AQ:UnR X (unaryOp .USub) (rU fun i=>.int (-i)):=unI fun _ _ _ _ _ q=>neg_int q
end
section
variable {X:Cx}{a b c:Expr}{ta tb tc:TE}{pos:Pos}
theorem C8{pins:List (Addr×Obj)}{σ:St}{H:Hp}{s:Shared}{Q:VK}{k k':Bool}(I:Inv X pins σ H s)(q:Q (.bl k) H)(e:k=k'):EP X pins σ Q (.bool k') s:=by
 subst e;exact⟨.bl k,H,I,rfl,q⟩
theorem fg:OpR X (compareOp .Lt) (rI0 fun i j=>.bl (decide (i<j))):=zF fun _ _ _ _ _ _ _ q=>lt_int q
theorem vQ:OpR X (compareOp .LtE) (rI0 fun i j=>.bl (decide (i≤j))):=zF fun _ _ _ _ _ _ _ q=>le_int q
theorem kG:OpR X (compareOp .Gt) (rI0 fun i j=>.bl (decide (j<i))):=zF fun _ _ _ _ _ _ _ q=>gt_int q
theorem mT:OpR X (compareOp .GtE) (rI0 fun i j=>.bl (decide (j≤i))):=zF fun _ _ _ _ _ _ _ q=>ge_int q
theorem Bf:OpR X (compareOp .Is) (fun x y H Q=>y=.non/\Q (.bl (decide (x=.non))) H):=by
 intro pins s σ H x y v u Q I rx ry h;obtain⟨rfl,q⟩:=h;cases ry;refine is_none_gen (C8 I q ?_);cases x<;>first
  |(cases rx;rfl)
  |(obtain⟨t,rfl⟩:=rx;rfl)
theorem az(b:Expr){op:CmpOp}(h:op≠.In:=by decide)(h2:op≠.NotIn:=by decide):behindInMarks op b=false:=by
 have e1:(op==CmpOp.In)=false:=by cases op<;>first | rfl | exact absurd rfl h
 have e2:(op==CmpOp.NotIn)=false:=by cases op<;>first | rfl | exact absurd rfl h2
 cases b<;>simp[behindInMarks,e1,e2]
theorem xY{op:CmpOp}{r:R2}(ho:OpR X (compareOp op) r)(ha:PE X a ta)(hb:PE X b tb)(hm:behindInMarks op b=false):PE X (.Compare a [op] [b] pos) (tOp r ta tb):=by
 intro pins s σ H Q I h;exact wpAny_Compare1 (CC ha hb I h fun v u s2 x y H2 I2 rx ry q=>ho pins s2 σ H2 x y v u Q I2 rx ry q) hm
def Ag(t:TE):TT:=fun σ H Q=>t σ H fun x H'=>∃k,x=.bl k/\Q k H'
theorem zg{op:CmpOp}{r:R2}(ho:OpR X (compareOp op) r)(ha:PE X a ta)(hb:PE X b tb)(hm:behindInMarks op b=false):PT X (.Compare a [op] [b] pos) (Ag (tOp r ta tb)):=by
 intro pins s σ H Q I h;refine wpAny_isTrue_Compare1 (thn (ha pins s σ H _ I h) fun v s1 ⟨x,H1,I1,r1,q1⟩=>thn (hb pins s1 σ H1 _ I1 q1) fun u s2 ⟨y,H2,I2,r2,q2⟩ =>
  thn (ho pins s2 σ H2 x y v u _ I2 r1 r2 q2) fun c s3 ⟨z,H3,I3,r3,k,e,q3⟩=>?_) hm
 subst e;cases r3;exact JD ⟨H3,I3,q3⟩
theorem lI:(sizeLine:Nat)<2 ^ 63:=by rw[IT];decide
theorem vals1{x:V}{us:List Value}(r:Vals [x] us):∃u,us=[u]/\RelV x u:=by
 cases r with
 | cons r1 r2=>cases r2;exact⟨_,rfl,r1⟩
theorem vals2{x y:V}{us:List Value}(r:Vals [x,y] us):∃u w',us=[u,w']/\RelV x u/\RelV y w':=by
 cases r with
 | cons r1 r2 =>
  cases r2 with
  | cons r3 r4=>cases r4;exact⟨_,_,rfl,r1,r3⟩
theorem fE:cv X (.type "int") (fun xs H Q=>(∃i,xs=[.int i]/\Q (.int i) H)∨∃k,xs=[.bl k]/\Q (.int (if k then 1 else 0)) H):=by
 intro pins s σ H xs us Q I r h;rcases h with⟨i,rfl,q⟩ |⟨k,rfl,q⟩
 ·obtain⟨u,rfl,t,rfl⟩:=vals1 r;exact call_int_int ⟨.int i,H,I,⟨_,rfl⟩,q⟩
 ·obtain⟨u,rfl,r1⟩:=vals1 r;cases r1;exact call_int_bool ⟨.int (if k then 1 else 0),H,I.tok _,⟨_,rfl⟩,q⟩
end
end
section
structure oU (h:Heap) (x dx C:Addr) (mA:Str→Option Value):Prop where
 obj:h.get? x=some (PySem.W.instObj C dx)
 ns:h.Ns1 dx mA
 ne:dx≠x
theorem qX{h:Heap}{dx:Addr}{mA:Str->Option Value}(n:h.Ns1 dx mA):∃od,h.get? dx=some od/\∀name,PySem.W.lookIn name od=some (mA name):=by
 obtain⟨o,es,ep,ho,hd,hk,_,hm⟩:=n;refine⟨o,ho,fun name=>?_⟩;have e:=hm name;unfold nsFind findBy at e;rw[←Array.find?_toList]at e;unfold PySem.W.lookIn;rw[hd];dsimp only;split
 ·rename_i y q;rw[q]at e;exact congrArg some e
 ·rename_i q;rw[q]at e;have a:es.toList.any (·.refKey)=false:=by
   rw[List.any_eq_false];intro y hy;obtain⟨z,t,hkey⟩:=hk y (Array.mem_toList_iff.mp hy);simp[DictEntry.refKey,hkey]
  have a':¬es.toList.any (·.refKey)=true:=by rw[a];exact JA
  rw[CI a'];exact congrArg some e
theorem oU.look{h:Heap}{x dx C:Addr}{mA:Str->Option Value}(I:oU h x dx C mA):∃od,PySem.W.InstAt h x (PySem.W.instObj C dx) C (some od)/\∀name,PySem.W.lookIn name od=some (mA name) :=
 let ⟨od,ho,hl⟩:=qX I.ns
 ⟨od,⟨I.obj,rfl,rfl,ho⟩,hl⟩
section
variable {prog:Program}{w:World}{A:Around}{E:Value->Shared->Prop}{s:Shared}{K:PySem.W.Frag}{x dx C f:Addr}{mA:Str->Option Value}{name:Str}{v:Value}
theorem get_map{expr:Bool}{Q:Value->Shared->Prop}(X:K.In s.heap)(I:oU s.heap x dx C mA)(hg:PySem.W.plainGet K C name=true)(hh:PySem.W.hasDictIn K C=true)
  (ha:PySem.W.findIn K (.ref C) name=some none) (hv:mA name=some v) (hv':PySem.W.handedIn v=true) (h:Q v { s with toks:=s.toks+1 }) :
  wpAny (model prog w) A (getAttr (.ref x) name expr) Q E s:=by
 obtain⟨od,J,hl⟩:=I.look;exact PySem.W.get_value X J (PySem.W.plainGet_of hg).1 (PySem.W.findObj_own hh ha rfl (by rw[hl,hv])) hv' h
theorem tH{pl:Sem Bool}{Q:Value×List Value->Shared->Prop}(X:K.In s.heap)(I:oU s.heap x dx C mA)(hg:PySem.W.plainGet K C name=true)
  (hf:PySem.W.findIn K (.ref C) name=some (some (.ref f))) (ht:PySem.W.isFn K (.ref f)=true) (hv:mA name=none) (h:Q (.ref f,[.ref x]) s) :
  wpAny (model prog w) A (getMethod (.ref x) name pl) Q E s:=by
 obtain⟨od,J,hl⟩:=I.look;exact PySem.W.method_fn X J (PySem.W.plainGet_of hg).1 (PySem.W.plainGet_of hg).2 hf (JK.mp ht) (by show(PySem.W.lookIn name od).map (·.isSome)=some false;rw[hl,hv];rfl) h
theorem yG{ns:List Str}{Q:Unit->Shared->Prop}(X:K.In s.heap)(I:oU s.heap x dx C mA)
  (hs:PySem.W.findIn K (.ref C) "__setattr__"=some (some (.builtin "object.__setattr__"))) (hp:PySem.W.plainOver K C=true) (ht:PySem.W.takerIn K C name=some none) (hh:PySem.W.hasDictIn K C=true)
  (hw:PySem.Within mA ns) (hsz:ns.length≤sizeLine)
  (h:∀h',oU h' x dx C (fun y=>if y=name then some v else mA y)->Heap.SameBut dx s.heap h'->Q () { s with heap:=h',toks:=s.toks+2 }) :
  wpAny (model prog w) A (setAttr (.ref x) name v) Q E s:=by
 obtain⟨od,J,hl⟩:=I.look;refine PySem.W.set_plain X J hs (PySem.W.osa_open (s:={ s with toks:=s.toks+1 }) (r:=none) X J hp ht fun b=>?_);obtain⟨cd,hc,hd'⟩:=PySem.W.any_some hh;have hx:s.heap.get? x=some ⟨.ref C,some dx,.plain,#[]⟩:=I.obj;refine uH (wa (uH (uH (wpAny_loadPart hx (uH (PySem.W.Looks.here (s:={ s with toks:=s.toks+1 }) (PySem.W.looks_clsIn X hc) ?_))))));rw[hd'];refine wa (a:=some dx) (uH (wa (uH ?_)));refine wpAny_nsSet1 (s:={ s with toks:=s.toks+1 }) I.ns fun h' hn2 hs2=>?_;obtain⟨oD,esD,epD,hoD,hdD,hcD⟩:=hn2.count (PySem.Within.cons name v hw);refine uH (wpAny_lookBehind hoD (by rw[hdD];exact pastItsLine_dict (IC hcD (by rw[Ih];omega))) ?_);exact wa (h _ ⟨(hs2.2 _ (Ne.symm I.ne)).trans I.obj,hn2,I.ne⟩ hs2)
theorem u5{R:Result->Shared->Prop}{vs:List Value}{kw:List (Str×Value)}(X:K.In s.heap)(hm:PySem.W.makesIn K C=true)
  (hi:PySem.W.findIn K (.ref C) "__init__"=some (some (.ref f))) (hf:PySem.W.typeIn K (.ref f)=some (.type "function"))
  (h:codeAny (model prog w) (A.under (.builtin "type.__call__" ⟨.ref C::vs,kw⟩)) (.call (.ref f) ⟨.ref (s.heap.objs.size+1)::vs,kw⟩) (PySem.W.InitBack (s.heap.objs.size+1) R)
   { s with heap:=(s.heap.push PySem.W.emptyDict).push (PySem.W.instObj C s.heap.objs.size) }) :
  codeAny (model prog w) A (.call (.ref C) ⟨vs,kw⟩) R s:=by
 obtain⟨hh,g,d,t,os⟩:=s;exact PySem.W.make_core (PySem.W.makes_of X hm) (PySem.W.looks_findIn X hi) (fun self=>PySem.W.bind_fn X self hf) (.inl rfl) h
end
def dW(f:Str)(v:V):List (Str×V)->List (Str×V)
 | []=>[(f,v)]
 |(g,x)::r=>if g=f then(g,v)::r else(g,x)::dW f v r
theorem iE(f g:Str)(v:V):∀fs:List (Str×V),(dW f v fs).lookup g=if g=f then some v else fs.lookup g
 | []=>by
  show List.lookup g [(f,v)]=_;by_cases h:g=f
  ·have hb:(g==f)=true:=JK.mpr h;simp only[List.lookup,hb,Ij h]
  ·have hb:(g==f)=false:=beq_eq_false_iff_ne.mpr h;simp only[List.lookup,hb,CI h]
 |(k,x)::r=>by
  have ih:=iE f g v r;rw[show dW f v ((k,x)::r)=(if k=f then(k,v)::r else(k,x)::dW f v r)from rfl];by_cases hk:k=f
  ·rw[Ij hk];by_cases h:g=k
   ·have hb:(g==k)=true:=JK.mpr h;simp only[List.lookup,hb,Ij (h.trans hk)]
   ·have hb:(g==k)=false:=beq_eq_false_iff_ne.mpr h;simp only[List.lookup,hb,CI (fun e:g=f=>h (e.trans hk.symm))]
  ·rw[CI hk];by_cases h:g=k
   ·have hb:(g==k)=true:=JK.mpr h;simp only[List.lookup,hb,CI (fun e:g=f=>hk (h.symm.trans e))]
   ·have hb:(g==k)=false:=beq_eq_false_iff_ne.mpr h;simp only[List.lookup,hb];exact ih
theorem h8(f:Str)(v:V):∀fs:List (Str×V),f∈(dW f v fs).map (·.1)/\∀g,g∈fs.map (·.1)->g∈(dW f v fs).map (·.1)
 | []=>⟨by simp[dW],fun g h=>by simp at h⟩
 |(k,x)::r=>by
  obtain⟨i1,i2⟩:=h8 f v r;rw[show dW f v ((k,x)::r)=(if k=f then(k,v)::r else(k,x)::dW f v r)from rfl];by_cases hk:k=f
  ·rw[Ij hk];subst hk;exact⟨by simp,fun g h=>by simpa using h⟩
  ·rw[CI hk];refine⟨?_,fun g h=>?_⟩
   ·rw[yd];exact Bo _ i1
   ·rw[yd]at h ⊢;rcases Ic.mp h with e | e
    ·exact Ic.mpr (.inl e)
    ·exact Bo _ (i2 g e)
theorem iJ(f:Str)(v:V):∀fs:List (Str×V),(dW f v fs).length≤fs.length+1
 | []=>by simp[dW]
 |(k,x)::r=>by
  have ih:=iJ f v r;rw[show dW f v ((k,x)::r)=(if k=f then(k,v)::r else(k,x)::dW f v r)from rfl];by_cases hk:k=f
  ·rw[Ij hk,Ih,Ih];omega
  ·rw[CI hk,Ih,Ih];omega
theorem gH.some_of{v:V}{o:Option Value}(r:gH (some v) o):∃u,o=some u/\RelV v u:=by
 cases o with
 | none=>exact(show False from r).elim
 | some u=>exact⟨u,rfl,r⟩
theorem gH.none_of{o:Option Value}(r:gH none o):o=none:=by
 cases o with
 | none=>rfl
 | some u=>exact(show False from r).elim
theorem sk{v:V}{u:Value}(r:RelV v u):PySem.W.handedIn u=true:=by
 cases v with
 | non=>cases (show u=Value.none from r);rfl
 | bl b=>cases (show u=Value.bool b from r);rfl
 | int i=>obtain⟨t,e⟩:=(show ∃t,u=Value.int i t from r);cases e;rfl
 | str x=>obtain⟨t,e⟩:=(show ∃t,u=Value.str x t from r);cases e;rfl
 | byt b=>obtain⟨t,e⟩:=(show ∃t,u=Value.bytes b t from r);cases e;rfl
 | flt b=>obtain⟨t,e⟩:=(show ∃t,u=Value.float b t from r);cases e;rfl
 | ref a=>cases (show u=Value.ref a from r);rfl
 | ty n=>cases (show u=Value.type n from r);rfl
section
variable {P:Program}{w:World}{H H':Hp}{h h':Heap}{a C dx:Addr}{fs fs':List (Str×V)}
theorem k6(hok:HOk P w H h)(e:H a=some (.ins C dx fs)):∃mA,oU h a dx C mA/\(∀f,gH (fs.lookup f) (mA f))/\PySem.Within mA (fs.map (·.1))/\fs.length≤1000/\H dx=some (.own a):=by
 obtain⟨d,z,ne,ob,mA,n,r,q⟩:=(show bM P w H h a (.ins C dx fs)from hok a _ e);exact⟨mA,⟨ob,n,ne⟩,r,q,z,d⟩
end
structure Cls (K:PySem.W.Frag) (C:Addr):Prop where
 pg:PySem.W.plainGet K C Str.empty=true
 hd:PySem.W.hasDictIn K C=true
 po:PySem.W.plainOver K C=true
 sa:PySem.W.findIn K (.ref C) "__setattr__"=some (some (.builtin "object.__setattr__"))
theorem Cls.get{K:PySem.W.Frag}{C:Addr}(c:Cls K C)(f:Str):PySem.W.plainGet K C f=true:=c.pg
def dh(K:PySem.W.Frag)(C:Addr)(f:Str):Prop:=PySem.W.findIn K (.ref C) f=some none
theorem dh.taker{K:PySem.W.Frag}{C:Addr}{f:Str}(n:dh K C f):PySem.W.takerIn K C f=some none:=by
 unfold PySem.W.takerIn;rw[show PySem.W.findIn K (.ref C) f=some none from n];rfl
structure Meth (K:PySem.W.Frag) (C:Addr) (m:Str) (f:Addr):Prop where
 at_:PySem.W.findIn K (.ref C) m=some (some (.ref f))
 fn:PySem.W.isFn K (.ref f)=true
 kp:PySem.W.keepIn K (.ref f)=true
section
variable {X:Cx}{pins:List (Addr×Obj)}{σ:St}{H:Hp}{s:Shared}{a C dx:Addr}{fs:List (Str×V)}{f:Str}{v:V}{A:Around}{E:Value->Shared->Prop}
theorem oZ{b:Bool}{Q:Value->Shared->Prop}(I:Inv X pins σ H s)(e:H a=some (.ins C dx fs))(c:Cls X.K C)(n:dh X.K C f)(l:fs.lookup f=some v)
  (h:∀u s',Inv X pins σ H s'->RelV v u->Q u s'):wpAny (model X.prog X.w) A (getAttr (.ref a) f b) Q E s:=by
 obtain⟨mA,O,r,_,_,_⟩:=k6 I.hok e;obtain⟨u,hu,ru⟩:=gH.some_of (v:=v) (o:=mA f) (by rw[←l];exact r f);exact get_map I.kIn O (c.get f) c.hd n hu (sk ru) (h u _ (I.tok _) ru)
theorem jq{m:Str}{g:Addr}{pl:Sem Bool}{Q:Value×List Value->Shared->Prop}(I:Inv X pins σ H s)(e:H a=some (.ins C dx fs))(c:Cls X.K C)(k:Meth X.K C m g)(l:fs.lookup m=none)
  (h:Q (.ref g,[.ref a]) s):wpAny (model X.prog X.w) A (getMethod (.ref a) m pl) Q E s:=by
 obtain⟨mA,O,r,_,_,_⟩:=k6 I.hok e;have hn:mA m=none:=gH.none_of (by rw[←l];exact r m);exact tH I.kIn O (c.get m) k.at_ k.fn hn h
theorem pE{y:V}{u:Value}{Q:Unit->Shared->Prop}(I:Inv X pins σ H s)(e:H a=some (.ins C dx fs))(c:Cls X.K C)(n:dh X.K C f)(hl:fs.length<1000)(ry:RelV y u)
  (h:∀s',Inv X pins σ (upd H a (.ins C dx (dW f y fs))) s'->Q () s'):wpAny (model X.prog X.w) A (setAttr (.ref a) f u) Q E s:=by
 obtain⟨mA,O,r,wi,_,ho⟩:=k6 I.hok e;have hz:(fs.map (·.1)).length≤sizeLine:=by rw[rS,IT];omega
 refine yG I.kIn O c.sa c.po n.taker c.hd wi hz fun h' O' sb=>h _ ?_;have hd:∃o,h'.get? dx=some o:=let ⟨o,_,_,e',_⟩:=O'.ns;⟨o,e'⟩
 refine I.write (x:=a) (e:=dx) (by rw[e];exact True.intro) (.inr ho) (fun b q hb z=>(sb.2 b hb).trans z) hd ?_;refine⟨by rw[aP O.ne];exact ho,?_,O.ne,O'.obj,_,O'.ns,fun g=>?_,fun g hg=>?_⟩
 ·have:=iJ f y fs;omega
 ·show gH ((dW f y fs).lookup g) (if g=f then some u else mA g);rw[iE];by_cases q:g=f
  ·rw[Ij q,Ij q];exact ry
  ·rw[CI q,CI q];exact r g
 ·by_cases q:g=f
  ·rw[q];exact(h8 f y fs).1
  ·refine(h8 f y fs).2 g (wi g fun z=>hg ?_);show(if g=f then some u else mA g)=none;rw[CI q];exact z
theorem Inv.made(I:Inv X pins σ H s):Inv X pins σ (upd (upd H s.heap.objs.size (.own (s.heap.objs.size+1))) (s.heap.objs.size+1) (.ins C s.heap.objs.size []))
  { s with heap:=(s.heap.push PySem.W.emptyDict).push (PySem.W.instObj C s.heap.objs.size) }:=by
 have e1:(s.heap.push PySem.W.emptyDict).get? s.heap.objs.size=some PySem.W.emptyDict:=yf s.heap rfl;have e2:((s.heap.push PySem.W.emptyDict).push (PySem.W.instObj C s.heap.objs.size)).get? (s.heap.objs.size+1)=some (PySem.W.instObj C s.heap.objs.size):=by
  have:=yf (s.heap.push PySem.W.emptyDict) (o:=PySem.W.instObj C s.heap.objs.size) rfl
  rwa [Jz]at this
 have e3:(s.heap.push PySem.W.emptyDict).Ns s.heap.objs.size (fun _=>none):=⟨PySem.W.emptyDict,#[],_,e1,rfl,(fun e he=>absurd he (by simp)),fun _=>rfl⟩;have I1:=I.laid (a:=s.heap.objs.size) (o:=.own (s.heap.objs.size+1)) (h':=s.heap.push PySem.W.emptyDict) (t':=s.toks) (fun b u q=>va _ q) (yi _) ⟨_,e1⟩;refine I1.laid (a:=s.heap.objs.size+1) (o:=.ins C s.heap.objs.size []) (t':=s.toks) (fun b u q=>va _ q) (Nat.le_of_eq (Jz _ _)) ?_;have ne:s.heap.objs.size≠s.heap.objs.size+1:=B6 (JP _);refine⟨by rw[aP ne,bc],Jk _,ne,e2,fun _=>none,(Heap.Ns1.of_empty e3).at fun o q=>va _ q,fun _=>True.intro,fun y hy=>absurd rfl hy⟩
theorem y3{prog:Program}{w:World}{env:Env}{e:Expr}{f:Str}{pos:Pos}{s:Shared}{Q:Value->Shared->Prop}(hb:attributeBase e f env (eval e env)=eval e env)
  (h:wpAny (model prog w) A (eval e env) (fun o s₁=>wpAny (model prog w) A (getAttr o f true) Q E s₁) E s):wpAny (model prog w) A (eval (.Attribute e f pos) env) Q E s :=
 Attribute_any_ h (by rw[arm_eval_Attribute,hb])
end
def G1(K:PySem.W.Frag)(ta:TE)(f:Str):TE:=fun σ H Q=>ta σ H fun x H1=>∃a C dx fs v,x=.ref a/\H1 a=some (.ins C dx fs)/\Cls K C/\dh K C f/\fs.lookup f=some v/\Q v H1
def Gg(K:PySem.W.Frag)(ta tv:TE)(f:Str):TS:=fun D σ H=>tv σ H fun y H1=>ta σ H1 fun x H2=>∃a C dx fs,x=.ref a/\H2 a=some (.ins C dx fs)/\Cls K C/\dh K C f/\fs.length<1000 /\
 D.nx σ (upd H2 a (.ins C dx (dW f y fs)))
section
variable {X:Cx}{o e value:Expr}{f:Str}{pos pos' tpos:Pos}{ta tv:TE}
theorem AU(he:PE X e ta)(hb:attributeBase e f X.env (eval e X.env)=eval e X.env):PE X (.Attribute e f pos) (G1 X.K ta f):=by
 intro pins s σ H Q I h;refine y3 hb (thn (he pins s σ H _ I h) fun u s1 y_=>?_);obtain⟨x,H1,I1,rx,a,C,dx,fs,v,ex,ea,c,n,l,q⟩:=y_;subst ex;obtain rfl:u=Value.ref a:=rx;exact oZ I1 ea c n l fun u' s2 I2 ru=>⟨v,H1,I2,ru,q⟩
theorem Bp(ha:PE X o ta)(hv:PE X value tv)(hs:swapsWith value (some (.Attribute o f pos')) pos.line X.env=pure false):PS X (.Assign [.Attribute o f pos'] value pos) (Gg X.K ta tv f):=by
 intro pins s σ H D I h;refine plainObj_wpAny_Assign_Attribute (thn (hv pins s σ H _ I h) fun u s1 ⟨y,H1,I1,ry,q⟩=>thn (ha pins s1 σ H1 _ I1 q) fun ov s2 ⟨x,H2,I2,rx,a,C,dx,fs,ex,ea,c,n,l,q2⟩=>?_) hs;subst ex;obtain rfl:ov=Value.ref a:=rx;exact pE I2 ea c n l ry fun s3 I3=>⟨σ,_,I3,q2⟩
theorem Aa{pl:Sem Bool}{m:Str}{apos:Pos}{args:List Expr}{pins:List (Addr×Obj)}{s:Shared}{σ:St}{H:Hp}{Q:Value->Shared->Prop}{te:TE}(he:PE X e te)(I:Inv X pins σ H s)
  (h:te σ H fun x H1=>∃a C dx fs g,x=.ref a/\H1 a=some (.ins C dx fs)/\Cls X.K C/\Meth X.K C m g/\fs.lookup m=none /\
   ∀s1,Inv X pins σ H1 s1->wpAny (model X.prog X.w) X.A (callWith pos (.ref g) [.ref a] (backTo pos (starEach args X.env)) (backToKw pos (keywordEach [] X.env))) Q X.xe s1)
  (ht:eval (.Call (.Attribute e m apos) args [] pos) X.env=(do
   let ov←eval e X.env
   standAt apos.atName
   let (f,first)←holding [ov] (getMethod ov m pl)
   callWith pos f first (backTo pos (starEach args X.env)) (backToKw pos (keywordEach [] X.env)))) :
  wpAny (model X.prog X.w) X.A (eval (.Call (.Attribute e m apos) args [] pos) X.env) Q X.xe s:=by
 refine PySem.W.methodCall_KW (pl:=pl) (thn (he pins s σ H _ I h) fun u s1 ⟨x,H1,I1,rx,a,C,dx,fs,g,ex,ea,c,k,l,q⟩=>?_) ht;subst ex;obtain rfl:u=Value.ref a:=rx;exact jq I1 ea c k l (q s1 I1)
end
section
variable {X:Cx}{pins:List (Addr×Obj)}{σ:St}{H:Hp}{s:Shared}{A:Around}{E:Value->Shared->Prop}{Q:Value->Shared->Prop}{c:Value}{b:Bool}
end
end
section
structure cq (k:Nat) (A:Around):Prop where
 hd:A.handled=none
 dp:A.depth+3*k+5<recursionLimit
 un:A.units+16*k+200<cLine
theorem cq.mono{j k:Nat}{A:Around}(r:cq k A)(h:j≤k):cq j A:=⟨r.hd,by have:=r.dp;omega,by have:=r.un;omega⟩
theorem cq.deeper{k:Nat}{A:Around}(r:cq (k+1) A)(env:Env):cq k (A.deeper env) :=
 ⟨r.hd,by have:=r.dp;show A.depth+1+3*k+5<_;omega,by have:=r.un;show A.units+3+16*k+200<_;omega⟩
theorem oI{A:Around}{C:Addr}{us:List Value}{kw:List (Str×Value)}:(A.under (.builtin "type.__call__" ⟨.ref C::us,kw⟩)).depth=A.depth+1:=by
 first | rfl | simp[Around.under,Code.weight,Code.isCreation,Code.isGuard,Code.isCaller,Code.frames,Code.isFrame,guardIds]
theorem o1{A:Around}{C:Addr}{us:List Value}{kw:List (Str×Value)}:(A.under (.builtin "type.__call__" ⟨.ref C::us,kw⟩)).units=A.units+1:=by
 first | rfl | simp[Around.under,Code.cUnits,Code.frames,Code.isFrame]
theorem cq.make{k:Nat}{A:Around}(r:cq (k+1) A)(C:Addr)(us:List Value)(kw:List (Str×Value)):cq k (A.under (.builtin "type.__call__" ⟨.ref C::us,kw⟩)) :=
 ⟨r.hd,by have:=r.dp;rw[oI];omega,by have:=r.un;rw[o1];omega⟩
theorem cq.depth{k:Nat}{A:Around}(r:cq k A):A.depth<recursionLimit:=by have:=r.dp;omega
theorem cq.units{k:Nat}{A:Around}(r:cq k A):A.units+64<cLine:=by have:=r.un;omega
def EH:TA:=fun _ H Q=>Q [] H
def uk(ta:TE)(tr:TA):TA:=fun σ H Q=>ta σ H fun x H1=>tr σ H1 fun xs H2=>Q (x::xs) H2
section
variable {X:Cx}{e:Expr}{es:List Expr}{te:TE}{t:TA}{pos:Pos}
theorem cI:PA X [] EH:=fun _ _ _ _ H Q I h=>Calls.spliced_nil ⟨[],H,I,.nil,h⟩
theorem bU(ha:PE X e te)(hr:PA X es t)(hs:starEach (e::es) X.env=(false,eval e X.env)::starEach es X.env:=by rfl):PA X (e::es) (uk te t):=by
 intro pos pins s σ H Q I h;rw[hs];show wpAny _ _ (spliced ((false,eval e X.env)::backTo pos (starEach es X.env))) _ _ s;refine Calls.spliced_cons (thn (ha pins s σ H _ I h) fun u s1 y_=>?_);obtain⟨x,H1,I1,r1,q1⟩:=y_;exact thn (hr pos pins s1 σ H1 _ I1 q1) fun us s2 ⟨xs,H2,I2,r2,q2⟩=>⟨x::xs,H2,I2,.cons r1 r2,q2⟩
def Hg(t:TA):TE:=fun σ H Q=>t σ H fun xs H1=>xs.length≤sizeLine/\∀p,H1 p=none->Q (.ref p) (upd H1 p (.tup xs))
def G9(t:TA):TE:=fun σ H Q=>t σ H fun xs H1=>xs.length≤sizeLine/\∀p,H1 p=none->Q (.ref p) (upd H1 p (.lst xs))
theorem B3{x1}(h:PA X es t):PE X (.Tuple es x1 pos) (Hg t):=by
 intro pins s σ H Q I hq;refine wpAny_Tuple_spliced (thn (h pos pins s σ H _ I hq) fun us s1 ⟨xs,H1,I1,r,z,q⟩=>⟨by rw[←r.length];exact z,?_⟩);have hf:H1 s1.heap.objs.size=none:=I1.hok.fresh (yi _);refine⟨.ref s1.heap.objs.size,upd H1 s1.heap.objs.size (.tup xs),I1.laid (t':=s1.toks) (fun b u e=>va _ e) (yi _) ?_,rfl,q _ hf⟩;exact⟨z,us,r,⟨_,yf _ rfl,rfl,_,rfl⟩⟩
theorem Ba(h:PA X es t):PE X (.List es pos) (G9 t):=by
 intro pins s σ H Q I hq;refine wpAny_List_spliced (thn (h pos pins s σ H _ I hq) fun us s1 ⟨xs,H1,I1,r,z,q⟩=>⟨by rw[←r.length];exact z,?_⟩);have hf:H1 s1.heap.objs.size=none:=I1.hok.fresh (yi _);refine⟨.ref s1.heap.objs.size,upd H1 s1.heap.objs.size (.lst xs),I1.laid (t':=s1.toks) (fun b u e=>va _ e) (yi _) ?_,rfl,q _ hf⟩;exact⟨z,us,0,r,yf _ rfl⟩
end
abbrev Sp:=List V->Hp->VK->XK->Prop
abbrev CXT:=List Env->Hp->Shared->XK->Value->Shared->Prop
structure pF (P:Program) (w:World) (K:PySem.W.Frag) (mg:Str→Option Value) (base:Heap) (A:Around) (outer:List Env) (s:Shared) (H:Hp):Prop where
 frames:A.frames=some outer
 mod:Mod K mg base
 bs:∀b o,base.get? b=some o->s.heap.get? b=some o/\H b=none
 bsz:base.objs.size≤s.heap.objs.size
 funs:s.heap.FunFrames base outer
 frf:∀b∈frs outer,H b=none
 hok:HOk P w H s.heap
 bare:AllBare s.gens
def CE(outer:List Env)(P:Program)(w:World)(H:Hp)(s:Shared)(Q:VK)(u:Value)(s':Shared):Prop :=
 ∃v H',s'.os=s.os/\AllBare s'.gens/\Un (frs outer) [] H H' s.heap s'.heap/\HOk P w H' s'.heap/\RelV v u/\Q v H'
def CR(CX:CXT)(outer:List Env)(P:Program)(w:World)(H:Hp)(s:Shared)(Q:VK)(E:XK)(r:Result)(s':Shared):Prop :=
 match r with
 | .ok (.ret u)=>CE outer P w H s Q u s'
 | .ok _=>False
 | .error e=>CX outer H s E e s'
structure jU (P:Program) (w:World) (K:PySem.W.Frag) (mg:Str→Option Value) (base:Heap) (CX:CXT) (k:Nat) (f:Addr) (fd:FuncData) (ps:List Str) (sp:Sp):Prop where
 len:∀vs H Q E,sp vs H Q E->vs.length=ps.length
 run:∀(A:Around) (outer:List Env) (s:Shared) (H:Hp) (args:Args) (us:List Value) (vs:List V) (Q:VK) (E:XK),cq k A->pF P w K mg base A outer s H->BindsTo s fd args (ps.zip us)->Vals vs us->sp vs H Q E ->
  codeAny (model P w) A (.call (.ref f) args) (CR CX outer P w H s Q E) s
theorem pF.make{P:Program}{w:World}{K:PySem.W.Frag}{mg:Str->Option Value}{base:Heap}{A:Around}{outer:List Env}{s:Shared}{H:Hp}(e:pF P w K mg base A outer s H)(C:Addr)(us:List Value)(kw:List (Str×Value)) :
  pF P w K mg base (A.under (.builtin "type.__call__" ⟨.ref C::us,kw⟩)) outer s H:=⟨by first | exact e.frames |(simpa[Around.under,Code.envs,Code.isFrame,pushEnvs]using e.frames),e.mod,e.bs,e.bsz,e.funs,e.frf,e.hok,e.bare⟩
section
variable {X:Cx}{pins:List (Addr×Obj)}{σ:St}{H:Hp}{s s':Shared}
theorem Inv.env0(I:Inv X pins σ H s):pF X.prog X.w X.K X.mg X.base X.A X.stack s H :=
 ⟨I.ok.frames,I.ok.mod,I.bs,IC I.ok.bsz I.sz,I.stack,I.stkFree,I.hok,I.bare⟩
theorem Inv.after{Q:VK}{u:Value}(I:Inv X pins σ H s)(h:CE X.stack X.prog X.w H s Q u s'):EP X pins σ Q u s':=by
 obtain⟨v,H',os,bare,un,hok,r,q⟩:=h;obtain⟨hh,g,d,t,os'⟩:=s';obtain rfl:os'=s.os:=os;exact⟨v,H',I.call (h':=hh) (g':=g) (d':=d) (t':=t) (ch:=[]) un hok bare (fun b z=>absurd z (by simp)),r,q⟩
end
def zZ(sp:Sp)(dvs:List V)(E:XK)(t:TA):TE:=fun σ H Q=>t σ H fun vs H1=>sp (vs++dvs) H1 Q E
def Af(C:Addr)(m:Str)(sp:Sp)(dvs:List V)(E:XK)(ta:TE)(t:TA):TE:=fun σ H Q=>ta σ H fun x H1=>∃a dx fs,x=.ref a/\H1 a=some (.ins C dx fs)/\fs.lookup m=none /\
 t σ H1 fun vs H2=>sp (x::(vs++dvs)) H2 Q E
def E6(C:Addr)(sp:Sp)(dvs:List V)(E:XK)(t:TA):TE:=fun σ H Q=>t σ H fun vs H1=>∀x dx,H1 x=none->H1 dx=none->dx≠x ->
 sp (.ref x::(vs++dvs)) (upd (upd H1 dx (.own x)) x (.ins C dx [])) (fun v H2=>v=.non/\Q (.ref x) H2) E
def Binds(K:PySem.W.Frag)(fd:FuncData)(ps:List Str)(ds:List Value):Prop :=
 ∀(s:Shared) (us:List Value),K.In s.heap->(us++ds).length=ps.length->BindsTo s fd ⟨us,[]⟩ (ps.zip (us++ds))
theorem Binds.all{K:PySem.W.Frag}{fd:FuncData}{ps:List Str}(h:∀us:List Value,us.length=ps.length->bindArgs fd ⟨us,[]⟩=pure (ps.zip us)):Binds K fd ps []:=fun s us _ hl=>by
 rw[IP]at hl ⊢;exact .of_eq (h us hl)
def Passes(CX:CXT)(X:Cx)(E:XK):Prop:=∀(pins:List (Addr×Obj)) (σ:St) (H:Hp) (s:Shared) (e:Value) (s':Shared),Inv X pins σ H s->CX X.stack H s E e s'->X.xe e s'
section
variable {X:Cx}{CX:CXT}{k:Nat}{f C:Addr}{fd:FuncData}{ps:List Str}{sp:Sp}{dvs:List V}{ds:List Value}{E:XK}{x m:Str}{p pos apos:Pos}{e o:Expr}{es:List Expr}{ta:TE}{t:TA}
theorem u6{pins:List (Addr×Obj)}{σ:St}{H:Hp}{s:Shared}{Q:VK}{us:List Value}{vs:List V}(F:jU X.prog X.w X.K X.mg X.base CX k f fd ps sp)(hr:cq k X.A)(hb:Binds X.K fd ps ds)(hd:Vals dvs ds)(hx:Passes CX X E)
  (I:Inv X pins σ H s) (r:Vals vs us) (h:sp (vs++dvs) H Q E):wpAny (model X.prog X.w) X.A (call (.ref f) us) (EP X pins σ Q) X.xe s:=by
 have r2:Vals (vs++dvs) (us++ds):=r.append hd;have hl:(us++ds).length=ps.length:=by rw[←r2.length];exact F.len _ _ _ _ h
 refine wpAny_call (JY (F.run X.A X.stack s H ⟨us,[]⟩ (us++ds) (vs++dvs) Q E hr I.env0 (hb s us I.kIn hl) r2 h) fun r s' hq=>?_);cases r with
 | error e=>exact hx pins σ H s e s' I hq
 | ok fl =>
  cases fl with
  | ret u=>exact I.after hq
  | next=>exact False.elim hq
  | brk=>exact False.elim hq
  | cont=>exact False.elim hq
theorem y2(F:jU X.prog X.w X.K X.mg X.base CX k f fd ps sp)(hr:cq k X.A)(hg:Gl X x)(hm:X.mg x=some (.ref f))(hk:PySem.W.keepIn X.K (.ref f)=true)(hb:Binds X.K fd ps ds)(hd:Vals dvs ds)(hx:Passes CX X E)
  (ha:PA X (e::es) t) (hdb:(x==("__debug__":Str))=false:=by decide) (he:starEach (e::es) X.env=(false,eval e X.env)::starEach es X.env:=by rfl) (hpl:(backTo pos (starEach es X.env)).any (·.1)=false:=by rfl) :
  PE X (.Call (.Name x p) (e::es) [] pos) (zZ sp dvs E t):=by
 intro pins s σ H Q I h;refine Jl (fk I hg hm ?_ hdb);refine PySem.W.callWith_K (h₀:=X.base) I.ok.mod.kin hk (thn (ha pos pins s σ H _ I h) fun us s1 ⟨vs,H1,I1,r,q⟩=>⟨I1.kIn,?_⟩) he hpl;exact u6 F hr hb hd hx I1 r q
theorem xX{pl:Sem Bool}(he:PE X o ta)(c:Cls X.K C)(hm:Meth X.K C m f)(F:jU X.prog X.w X.K X.mg X.base CX k f fd ps sp)(hr:cq k X.A)(hb:Binds X.K fd ps ds)(hd:Vals dvs ds)(hx:Passes CX X E)(ha:PA X (e::es) t)
  (hst:starEach (e::es) X.env=(false,eval e X.env)::starEach es X.env:=by rfl) (hpl:(backTo pos (starEach es X.env)).any (·.1)=false:=by rfl)
  (ht:eval (.Call (.Attribute o m apos) (e::es) [] pos) X.env=(do
   let ov←eval o X.env
   standAt apos.atName
   let (f,first)←holding [ov] (getMethod ov m pl)
   callWith pos f first (backTo pos (starEach (e::es) X.env)) (backToKw pos (keywordEach [] X.env))):=by rfl) :
  PE X (.Call (.Attribute o m apos) (e::es) [] pos) (Af C m sp dvs E ta t):=by
 intro pins s σ H Q I h;refine PySem.W.methodCall_KW (pl:=pl) (thn (he pins s σ H _ I h) fun u s1 ⟨x,H1,I1,rx,a,dx,fs,ex,ea,l,q⟩=>?_) ht;subst ex;obtain rfl:u=Value.ref a:=rx;refine jq I1 ea c hm l ?_;refine PySem.W.callWith_K (first:=[.ref a]) (h₀:=X.base) I.ok.mod.kin hm.kp (thn (ha pos pins s1 σ H1 _ I1 q) fun us s2 ⟨vs,H2,I2,r,q2⟩=>⟨I2.kIn,?_⟩) hst hpl;exact u6 (us:=.ref a::us) (vs:=.ref a::vs) F hr hb hd hx I2 (.cons rfl r) q2
structure Mk (K:PySem.W.Frag) (C f:Addr):Prop where
 makes:PySem.W.makesIn K C=true
 init:PySem.W.findIn K (.ref C) "__init__"=some (some (.ref f))
 fn:PySem.W.isFn K (.ref f)=true
 kp:PySem.W.keepIn K (.ref C)=true
theorem tO{pins:List (Addr×Obj)}{σ:St}{H:Hp}{s:Shared}{Q:VK}{us:List Value}{vs:List V}(M:Mk X.K C f)(F:jU X.prog X.w X.K X.mg X.base CX k f fd ps sp)(hr:cq (k+1) X.A)(hb:Binds X.K fd ps ds)(hd:Vals dvs ds)
  (hx:Passes CX X E) (I:Inv X pins σ H s) (r:Vals vs us)
  (h:∀x dx,H x=none->H dx=none->dx≠x->sp (.ref x::(vs++dvs)) (upd (upd H dx (.own x)) x (.ins C dx [])) (fun v H2=>v=.non/\Q (.ref x) H2) E) :
  wpAny (model X.prog X.w) X.A (call (.ref C) us) (EP X pins σ Q) X.xe s:=by
 have hq:=h (s.heap.objs.size+1) s.heap.objs.size (I.hok.fresh (Nat.le_succ _)) (I.hok.fresh (yi _)) (B6 (JP _));have I2:=Inv.made (C:=C) I;have r2:Vals (V.ref (s.heap.objs.size+1)::(vs++dvs)) (Value.ref (s.heap.objs.size+1)::(us++ds)):=.cons rfl (r.append hd);have hl:(Value.ref (s.heap.objs.size+1)::us++ds).length=ps.length:=by
  have e:=r2.length;rw[F.len _ _ _ _ hq]at e;exact e.symm
 refine wpAny_call (u5 (f:=f) I.kIn M.makes M.init (JK.mp M.fn) (JY (F.run _ X.stack _ _ ⟨Value.ref (s.heap.objs.size+1)::us,[]⟩ (Value.ref (s.heap.objs.size+1)::(us++ds)) _ _ E (hr.make C us [])
  (I2.env0.make C us []) (hb _ (Value.ref (s.heap.objs.size+1)::us) I2.kIn hl) r2 hq) fun r s' hq'=>?_))
 cases r with
 | error e=>exact hx pins σ _ _ e s' I2 hq'
 | ok fl =>
  cases fl with
  | ret u =>
   obtain⟨v,H',I3,rv,ev,q3⟩:=I2.after hq';subst ev;exact⟨rv,⟨V.ref (s.heap.objs.size+1),H',I3,rfl,q3⟩⟩
  | next=>exact False.elim hq'
  | brk=>exact False.elim hq'
  | cont=>exact False.elim hq'
theorem wY(M:Mk X.K C f)(F:jU X.prog X.w X.K X.mg X.base CX k f fd ps sp)(hr:cq (k+1) X.A)(hg:Gl X x)(hm:X.mg x=some (.ref C))(hb:Binds X.K fd ps ds)(hd:Vals dvs ds)(hx:Passes CX X E)
  (ha:PA X (e::es) t) (hdb:(x==("__debug__":Str))=false:=by decide) (he:starEach (e::es) X.env=(false,eval e X.env)::starEach es X.env:=by rfl) (hpl:(backTo pos (starEach es X.env)).any (·.1)=false:=by rfl) :
  PE X (.Call (.Name x p) (e::es) [] pos) (E6 C sp dvs E t):=by
 intro pins s σ H Q I h;refine Jl (fk I hg hm ?_ hdb);refine PySem.W.callWith_K (h₀:=X.base) I.ok.mod.kin M.kp (thn (ha pos pins s σ H _ I h) fun us s1 ⟨vs,H1,I1,r,q⟩=>⟨I1.kIn,?_⟩) he hpl;exact tO M F hr hb hd hx I1 r q
end
section
variable {X:Cx}{CX:CXT}{k:Nat}{f C:Addr}{fd:FuncData}{ps ks:List Str}{sp:Sp}{E:XK}{x m:Str}{p pos apos kpos:Pos}{e o:Expr}{es:List Expr}{kws:List Keyword}{te ta:TE}{t tk:TA}{nm:Option Str}
variable {g:List Value->List Value->List Value}{gV:List V->List V->List V}
end
structure aB (N P:List Str) (sc:Scope):Prop where
 kind:sc.kind=.function
 co:sc.isCoroutine=false
 gen:sc.isGenerator=false
 nd:N.Nodup
 pre:N.take P.length=P
 par:∀x∈P,sc.names.lookup x=some .local∨sc.names.lookup x=some .cell
 nofree:∀y∈sc.names,y.2≠.free
theorem ke{kindOf:Str->Option NameKind}{x:Str}:∀{binds:List (Str×Value)} {m:Str->Option Value},(∀v,(x,v)∉binds)->bindL kindOf binds m x=m x
 | [],_,_=>rfl
 |(n,v)::r,m,h=>by
  unfold bindL;rw[ke fun w hw=>h w (Bo _ hw)];split
  ·have:x≠n:=by rintro rfl;exact h v xP
   simp[this]
  ·rfl
theorem kj{kindOf:Str->Option NameKind}{x:Str}:∀{binds:List (Str×Value)} {m:Str->Option Value},(∀v,(x,v)∉binds)->bindC kindOf binds m x=m x
 | [],_,_=>rfl
 |(n,v)::r,m,h=>by
  unfold bindC;rw[kj fun w hw=>h w (Bo _ hw)];split
  ·rfl
  ·have:x≠n:=by rintro rfl;exact h v xP
   simp[this]
theorem kA{kindOf:Str->Option NameKind}{x:Str}{v:Value}:∀{P:List Str} {vs:List Value} {i:Nat} {m:Str->Option Value},P.Nodup->P[i]?=some x->vs[i]?=some v->kindOf x=some .local ->
  bindL kindOf (P.zip vs) m x=some v
 | [],_,_,_,_,h,_,_=>by simp at h
 | _::_,[],_,_,_,_,h,_=>by simp at h
 | p::P,w::vs,0,m,nd,h1,h2,hk=>by
  simp at h1 h2;subst h1;subst h2;show bindL kindOf ((p,w)::P.zip vs) m p=_;unfold bindL;rw[ke fun v hv=>(JW.mp nd).1 (List.of_mem_zip hv).1,Ij hk];simp
 | p::P,w::vs,i+1,m,nd,h1,h2,hk=>by
  show bindL kindOf ((p,w)::P.zip vs) m x=_;unfold bindL;exact kA (i:=i) (JW.mp nd).2 (by simpa using h1) (by simpa using h2) hk
theorem kU{kindOf:Str->Option NameKind}{x:Str}{v:Value}:∀{P:List Str} {vs:List Value} {i:Nat} {m:Str->Option Value},P.Nodup->P[i]?=some x->vs[i]?=some v->kindOf x≠some .local ->
  bindC kindOf (P.zip vs) m x=some v
 | [],_,_,_,_,h,_,_=>by simp at h
 | _::_,[],_,_,_,_,h,_=>by simp at h
 | p::P,w::vs,0,m,nd,h1,h2,hk=>by
  simp at h1 h2;subst h1;subst h2;show bindC kindOf ((p,w)::P.zip vs) m p=_;unfold bindC;rw[kj fun v hv=>(JW.mp nd).1 (List.of_mem_zip hv).1,CI hk];simp
 | p::P,w::vs,i+1,m,nd,h1,h2,hk=>by
  show bindC kindOf ((p,w)::P.zip vs) m x=_;unfold bindC;exact kU (i:=i) (JW.mp nd).2 (by simpa using h1) (by simpa using h2) hk
def start(N:List Str)(vs:List V):St:=vs.map some++List.replicate (N.length - vs.length) none
def mf(CX:CXT)(P:Program)(w:World)(K:PySem.W.Frag)(mg:Str->Option Value)(base:Heap)(N:List Str)(qual:Str)(scope:Scope)(f:Addr)(cd:Value)(A:Around)(outer:List Env)(s:Shared)(H:Hp)(E:XK):Cx where
 prog:=P
 w:=w
 K:=K
 mg:=mg
 base:=base
 A:=A.deeper (envOfC qual scope s.heap.objs.size f cd)
 N:=N
 s₀:=s
 H₀:=H
 env:=envOfC qual scope s.heap.objs.size f cd
 outer:=outer
 stack:=envOfC qual scope s.heap.objs.size f cd::outer
 ex:=[]
 calm:=true
 fn:=fun _=>true
 pn:=[]
 xe:=fun e s'=>wpAny (model P w) (A.deeper (envOfC qual scope s.heap.objs.size f cd)) (leaving (envOfC qual scope s.heap.objs.size f cd) e) (fun _ s''=>CX outer H s E e s'') (fun e' s''=>CX outer H s E e' s'') s'
theorem ny{sc:Scope}{n:Nat}{x:Str}(h:sc.names.lookup x=some .cell):∃c,(cellsFrom n sc.names []).lookup x=some c:=by
 have q:=PySem.W.cellsFrom_some sc.names n [] (.inl h);exact Option.isSome_iff_exists.mp q
theorem sU{CX:CXT}{P:Program}{w:World}{K:PySem.W.Frag}{mg:Str->Option Value}{base:Heap}{N ps:List Str}{qual:Str}{scope:Scope}{f:Addr}{cd:Value}{A:Around}{outer:List Env}{s s1:Shared}{H:Hp}{E:XK}{us:List Value}{vs:List V}
  (S:aB N ps scope) (hd:A.handled=none) (e0:pF P w K mg base A outer s H) (hl:vs.length=ps.length) (r:Vals vs us)
  (x:InCallC s s.heap.objs.size (bindL (envOfC qual scope s.heap.objs.size f cd).kindOf (ps.zip us) fun _=>none) (cellsFrom (s.heap.objs.size+1) scope.names []) (bindC (envOfC qual scope s.heap.objs.size f cd).kindOf (ps.zip us) fun _=>none) s1) :
  Inv (mf CX P w K mg base N qual scope f cd A outer s H E) [] (start N vs) H s1:=by
 have hpl:ps.length≤N.length:=by have:=congrArg List.length S.pre;rw[Iu]at this;omega
 obtain⟨h1,tk,rfl,hk⟩:=x.done;have noA:∀b:Addr,b∉(mf CX P w K mg base N qual scope f cd A outer s H E).ex:=fun b z=>absurd (show b∈([]:List Addr)from z) (by simp);refine⟨⟨e0.mod,S.kind,rfl,rfl,yi _,fun y z c h1 h2=>?_,fun y hy=>?_,fun y c _ h=>?_,fun _=>hd,Around.frames_deeper e0.frames,.inr ⟨rfl,rfl⟩,fun b z=>absurd z (noA b),e0.bs,e0.bsz,fun b _ _=>noA b,fun b z=>absurd z (noA b),e0.funs,e0.frf⟩,
  rfl,e0.bare,Un.kept hk,⟨_,x.toInCall.ns,fun i y v h1 h2 h3=>?_⟩,fun y c h=>⟨_,x.cell y c h⟩,e0.hok.fresh (yi _),fun y c h=>?_,fun p hp=>absurd (show p∈([]:List (Addr×Obj))from hp) (by simp),e0.hok.kept hk,?_⟩
 ·exact name_of_addr x.apart (PySem.mem_of_lookup h1) (PySem.mem_of_lookup h2)
 ·have hy:scope.names.lookup y=some .cell∨scope.names.lookup y=some .free:=hy;rcases hy with hy | hy
  ·exact ny hy
  ·exact absurd rfl (S.nofree _ (PySem.mem_of_lookup hy))
 ·exact J2 (x.above y c (PySem.mem_of_lookup h))
 ·have hi:i<vs.length:=by
   unfold start at h2;by_cases hi:i<vs.length
   ·exact hi
   ·rw[Jf (by simpa using hi)]at h2;rw[List.getElem?_replicate]at h2;split at h2<;>cases h2
  have ha:vs[i]?=some v:=by
   unfold start at h2;rw[Ja (by simpa using hi),II]at h2;cases e:vs[i]? with
   | none=>rw[e]at h2;cases h2
   | some a=>rw[e]at h2;cases h2;rfl
  obtain⟨u,hu,rv⟩:=r.get ha;have hp:ps[i]?=some y:=by
   rw[←S.pre,List.getElem?_take_of_lt (by omega)];exact h1
  have ndP:ps.Nodup:=by rw[←S.pre];exact S.nd.sublist (List.take_sublist _ _)
  refine⟨u,rv,?_⟩;rcases S.par y (Iw hp)with k | k
  ·exact .inl ⟨k,kA ndP hp hu k⟩
  ·obtain⟨c,e⟩:=ny (n:=s.heap.objs.size+1) k;refine .inr ⟨.inl k,c,e,?_⟩;have q:=x.cell y c e;rw[kU ndP hp hu (by show scope.names.lookup y≠_;rw[k];decide)]at q;exact q
 ·exact e0.hok.fresh (J2 (x.above y c (PySem.mem_of_lookup h)))
 ·unfold start;show _=N.length;rw[wW,rS,List.length_replicate];omega
theorem Aj{CX:CXT}{P:Program}{w:World}{K:PySem.W.Frag}{mg:Str->Option Value}{base:Heap}{k:Nat}{f:Addr}{name qual:Str}{params:Arguments}{body:List Stmt}{scope:Scope}{dV kV doc pm cdv ct oc:Value}{an od:Option Addr}
  {osl:Array (Option Value)} {N ps:List Str} {sp:Sp} (lk:K.lookup f=some ⟨oc,od,.func (PySem.W.fnOf name qual params body scope dV kV doc pm an cdv ct),osl⟩) (hcd:PySem.W.codeIn K cdv qual=true) (S:aB N ps scope)
  (len:∀vs H Q E,sp vs H Q E->vs.length=ps.length)
  (hbody:∀(A:Around) (outer:List Env) (s:Shared) (H:Hp) (vs:List V) (Q:VK) (E:XK),cq k (A.deeper (envOfC qual scope s.heap.objs.size f cdv))->sp vs H Q E ->
   ∃t,PSs (mf CX P w K mg base N qual scope f cdv A outer s H E) body t/\t { nx:=fun _ H'=>Q .non H',rt:=Q } (start N vs) H) :
  jU P w K mg base CX (k+1) f (PySem.W.fnOf name qual params body scope dV kV doc pm an cdv ct) ps sp:=by
 refine⟨len,fun A outer s H args us vs Q E hr e0 hb r hsp=>?_⟩;have hl:=len _ _ _ _ hsp;have KX:K.In s.heap:=e0.mod.kin.keeps fun b o e=>(e0.bs b o e).1;have lim:s.heap.NoLimit:=e0.mod.nolimit.keeps fun b o e=>(e0.bs b o e).1;have hkind:∀y∈ps.zip us,scope.names.lookup y.1=some .local∨(scope.names.lookup y.1=some .cell/\((cellsFrom (s.heap.objs.size+1) scope.names []).lookup y.1).isSome=true):=fun y_ hy=>by
  obtain⟨n,v⟩:=y_;rcases S.par n (List.of_mem_zip hy).1 with q | q
  ·exact .inl q
  ·exact .inr ⟨q,PySem.W.cellsFrom_some _ _ _ (.inl q)⟩
 refine codeAny_call_function hr.depth (KX _ _ lk) rfl S.co S.gen rfl (PySem.W.codeRec_of KX hcd) (hb _ _ _ _ ?_);refine wpAny_newFunctionEnv_cells S.kind hkind fun env he s1 x=>?_;subst he;refine⟨lim.keeps x.toInCall.keep,codeAny_func ?_⟩;obtain⟨t,ht,hq⟩:=hbody A outer s H vs Q E (hr.deeper _) hsp;have I:Inv (mf CX P w K mg base N qual scope f cdv A outer s H E) [] (start N vs) H s1:=sU S hr.hd e0 hl r x;refine JJ (ht [] s1 (start N vs) H _ I hq) (fun fl s' hs=>?_) fun e s' hs=>hs;have fin:∀{σ':St} {H':Hp} {v:V} {u:Value},Inv (mf CX P w K mg base N qual scope f cdv A outer s H E) [] σ' H' s'->RelV v u->Q v H'->CE outer P w H s Q u s' :=
  fun {σ' H' v u} J rv q=>⟨v,H',J.os,J.bare,J.base,J.hok,rv,q⟩
 cases fl with
 | ret u =>
  obtain⟨v,σ',H',J,rv,q⟩:=hs;exact fin J rv q
 | next =>
  obtain⟨σ',H',J,q⟩:=hs;exact fin (v:=V.non) (u:=Value.none) J rfl q
 | brk =>
  obtain⟨_,_,_,q⟩:=hs;exact False.elim q
 | cont =>
  obtain⟨_,_,_,q⟩:=hs;exact False.elim q
end
section
section
variable {X:Cx}{x:Str}{p pos:Pos}{e:Expr}{es:List Expr}{t:TA}{id T:String}{r:List V->Hp->VK->Prop}
def tCB(r:List V->Hp->VK->Prop)(t:TA):TE:=fun σ H Q=>t σ H fun vs H1=>r vs H1 Q
theorem dI(hc:cv X (.builtin id) r)(hg:Gl X x)(hm:X.mg x=none)(hv:bootBuiltins x=some (.builtin id))(ha:PA X (e::es) t)(hn:x≠"__name__":=by decide)(hdb:(x==("__debug__":Str))=false:=by decide)
  (he:starEach (e::es) X.env=(false,eval e X.env)::starEach es X.env:=by rfl) (hpl:(backTo pos (starEach es X.env)).any (·.1)=false:=by rfl):PE X (.Call (.Name x p) (e::es) [] pos) (tCB r t):=by
 intro pins s σ H Q I h;refine Jl (cN I hg hm hv ?_ hn hdb);exact PyProof.Rows.callWith_builtin1 (thn (ha pos pins s σ H _ I h) fun us s1 y_=>by obtain⟨vs,H1,I1,r1,q1⟩:=y_;exact hc pins s1 σ H1 vs us Q I1 r1 q1) he hpl
theorem fu(hc:cv X (.type T) r)(hg:Gl X x)(hm:X.mg x=none)(hv:bootBuiltins x=some (.type T))(ha:PA X (e::es) t)(hn:x≠"__name__":=by decide)(hdb:(x==("__debug__":Str))=false:=by decide)
  (he:starEach (e::es) X.env=(false,eval e X.env)::starEach es X.env:=by rfl) (hpl:(backTo pos (starEach es X.env)).any (·.1)=false:=by rfl):PE X (.Call (.Name x p) (e::es) [] pos) (tCB r t):=by
 intro pins s σ H Q I h;refine Jl (cN I hg hm hv ?_ hn hdb);exact IK (thn (ha pos pins s σ H _ I h) fun us s1 y_=>by obtain⟨vs,H1,I1,r1,q1⟩:=y_;exact hc pins s1 σ H1 vs us Q I1 r1 q1) he hpl
end
end
end L2
namespace HT
section
open PySem.SeqAt
open PySem.AutoSeq1 (wpAny_loadPart')
open PySem.MeetsSeq PySem.MeetsSeq2 PySem.MeetsSeq3
end
section
variable {prog:Program}{w:World}{A:Around}{E:Value->Shared->Prop}{s:Shared}
theorem x9{t b:Addr}{vs ws:List Value}{Q:Value->Shared->Prop}(ht:IsTup s.heap t vs.toArray)(hb:IsTup s.heap b ws.toArray)(hv:vs≠[])
  (h1:ws=[]->Q (.ref t) s) (h2:ws≠[]->Q (.ref s.heap.objs.size) { s with heap:=s.heap.push { cls:=.type "tuple",data:=.seq (vs++ws).toArray } })
  (hsz:vs.length+ws.length≤sizeLine):wpAny (model prog w) A (binaryOp .Add (.ref t) (.ref b)) Q E s:=by
 obtain⟨⟨cls,dd,data,sl⟩,ho,hc,n,hd⟩:=id ht;obtain⟨⟨cls2,dd2,data2,sl2⟩,ho2,hc2,n2,hd2⟩:=id hb;simp only at hc hd hc2 hd2;subst hc hd hc2 hd2;have e:vs.toArray++ws.toArray=(vs++ws).toArray:=by simp
 by_cases hw:ws=[]
 ·exact concat_meets ⟨_,ho,rfl⟩ ⟨_,ho2,rfl⟩ noFill_tuple_add seq_tuple_add PySem.F.slot_tuple_add PySem.F.entry_tuple_add (PySem.F.args_tuple_add_2 _ _)
   (tuple_addW1 t b vs.toArray ws.toArray n n2 dd dd2 sl sl2 (by simpa using hv) (by simp[hw])) ⟨ho,ho2,h1 hw⟩
 ·refine concat_meets ⟨_,ho,rfl⟩ ⟨_,ho2,rfl⟩ noFill_tuple_add seq_tuple_add PySem.F.slot_tuple_add PySem.F.entry_tuple_add (PySem.F.args_tuple_add_2 _ _)
   (tuple_addW2 t b vs.toArray ws.toArray n n2 dd dd2 sl sl2 (by simpa using hv) (by simpa using hw) (by rw[Br,Br];exact hsz)) ⟨ho,ho2,?_⟩
  rw[e];exact h2 hw
def sIx(n d:Nat):Option Int->Nat
 | none=>d
 | some v=>if v<0 then(v+(n:Int)).toNat else min v.toNat n
theorem eW(n d:Nat):sIx n d none=d:=rfl
theorem iY(n d k:Nat):sIx n d (some (k:Int))=min k n:=by
 show(if (k:Int)<0 then((k:Int)+(n:Int)).toNat else min (k:Int).toNat n)=min k n;rw[CI (by omega),Je]
theorem C4(n d:Nat)(hd:d≤n)(o:Option Int):sIx n d o≤n:=by
 cases o with
 | none=>exact hd
 | some v =>
  show(if v<0 then(v+(n:Int)).toNat else min v.toNat n)≤n;by_cases hv:v<0
  ·rw[Ij hv];omega
  ·rw[CI hv];exact Nat.min_le_right _ _
theorem pO(v:Int)(n d:Nat):(if v<0 then max (v+(n:Int)) 0 else min v (n:Int))=((sIx n d (some v):Nat):Int):=by
 show(if v<0 then max (v+(n:Int)) 0 else min v (n:Int))=(((if v<0 then(v+(n:Int)).toNat else min v.toNat n):Nat):Int);by_cases hv:v<0
 ·simp only[Ij hv];omega
 ·simp only[CI hv];omega
theorem pK(lo hi:Option Int)(n:Nat):Builtin.Slice.sliceAdjust lo hi 1 (n:Int)=(((sIx n 0 lo:Nat):Int),((sIx n n hi:Nat):Int)):=by
 have h1:¬((1:Int)<0):=by omega
 unfold Builtin.Slice.sliceAdjust;simp only[h1,if_false];refine Prod.ext ?_ ?_
 ·cases lo with
  | none=>rfl
  | some v=>exact pO v n 0
 ·cases hi with
  | none=>rfl
  | some v=>exact pO v n n
theorem oS(i j:Nat):Builtin.Slice.slicePlaces (i:Int) (j:Int) 1=j - i:=by
 unfold Builtin.Slice.slicePlaces;have h1:(1:Int)>0:=by omega
 simp only[h1,if_true,Int.ediv_one];split<;>omega
theorem jA{v:Value}{o:Option Int}{Q:Option Int->Shared->Prop}(p:IsPart v o)(h:Q o s):wpAny (model prog w) A (Builtin.Slice.slicePartIndex v) Q E s:=by
 cases p with
 | none=>exact slicePart_none h
 | int i t=>exact slicePart_int h
theorem dM{sl:Addr}{vl vu:Value}{lo hi:Option Int}{n:Nat}{Q:Int×Int×Nat->Shared->Prop}(hs:s.heap.IsSliceOf sl vl vu .none)(pl:IsPart vl lo)(pu:IsPart vu hi)
  (h:Q (((sIx n 0 lo:Nat):Int),1,sIx n n hi - sIx n 0 lo) s):wpAny (model prog w) A (Builtin.Slice.sliceApplied (.ref sl) (pure (n:Int))) Q E s:=by
 obtain⟨os,hos,hcs,hds⟩:=id hs;unfold Builtin.Slice.sliceApplied Builtin.Slice.sliceFields;refine uH (uH (JB hos hds (x:=vl) rfl (uH (JB hos hds (x:=vu) rfl (uH (JB hos hds (x:=.none) rfl (wa ?_)))))));refine uH (slicePart_none ?_);show wpAny _ _ (if ((1:Int)==0)=true then _ else _) _ _ s;rw[CI (by decide)];refine uH (jA pl (uH (jA pu (uH (wa ?_)))));show wpAny _ _ (match Builtin.Slice.sliceAdjust lo hi 1 (n:Int)with |(lo,hi)=>pure (lo,(1:Int),Builtin.Slice.slicePlaces lo hi 1)) _ _ s;rw[pK lo hi n];show wpAny _ _ (pure (((sIx n 0 lo:Nat):Int),(1:Int),Builtin.Slice.slicePlaces ((sIx n 0 lo:Nat):Int) ((sIx n n hi:Nat):Int) 1)) _ _ s;rw[oS];exact wa h
theorem vN(xs:Array Value)(i k:Nat):((List.range k).filterMap fun(m:Nat)=>xs[((i:Int)+(m:Int)*1).toNat]?).toArray=((xs.toList.drop i).take k).toArray:=by
 have e:(fun(m:Nat)=>xs[((i:Int)+(m:Int)*1).toNat]?)=fun m=>xs[i+m]?:=by
  funext m;have:((i:Int)+(m:Int)*1).toNat=i+m:=by omega
  rw[this]
 rw[e];have:=pick_run xs i k;rw[List.filterMap_map]at this;have e2:((fun x=>xs[x]?) ∘ fun x=>i+x)=fun m=>xs[i+m]?:=rfl;rw[e2]at this;rw[this]
theorem gK{t sl:Addr}{items:Array Value}{vl vu:Value}{lo hi:Option Int}{Q:Value->Shared->Prop}(ht:IsTup s.heap t items)(hs:s.heap.IsSliceOf sl vl vu .none)(pl:IsPart vl lo)(pu:IsPart vu hi)
  (hw:¬(sIx items.size 0 lo=0/\sIx items.size items.size hi=items.size))
  (h:Q (.ref s.heap.objs.size) { s with heap:=s.heap.push { cls:=.type "tuple",data:=.seq ((items.toList.drop (sIx items.size 0 lo)).take (sIx items.size items.size hi - sIx items.size 0 lo)).toArray } })
  (hsz:items.size≤sizeLine):wpAny (model prog w) A (getItem (.ref t) (.ref sl)) Q E s:=by
 have htake:sizeOk (.seq ((items.toList.drop (sIx items.size 0 lo)).take (sIx items.size items.size hi - sIx items.size 0 lo)).toArray):=by
  show((items.toList.drop (sIx items.size 0 lo)).take (sIx items.size items.size hi - sIx items.size 0 lo)).toArray.size≤sizeLine;rw[Br,Iu,Jc,Jt];omega
 have hj:sIx items.size items.size hi≤items.size:=C4 _ _ (yi _) hi;obtain⟨os,hos,hcs,hds⟩:=id hs;have hTs:s.TypeIs (.ref sl) "slice":=⟨os,hos,hcs⟩;unfold getItem
 try with_reducible refine Jr ?_
 first | refine uH (wa ?_) | skip
 refine uH (wpAny_sequenceKey ht.typeIs (by decide) ?_);refine uH (Jp (name:=Str.ofString "__getitem__") ht.typeIs PyProof.Rows.slot_tuple_getitem
  (IU PyProof.Rows.slot_tuple_getitem ht.typeIs entry_tuple_getitem ?_ (args_tuple_getitem _ _)))
 show wpAny _ _ (Builtin.Tuple.tupleItemsOf (.ref t) >>= _) _ _ s;refine uH (tupleItemsOf_ ht ?_);refine uH (wpAny_typeOf hTs ?_);rw[Ij (by decide)];refine uH (dM hs pl pu ?_);have hno:¬((((sIx items.size 0 lo:Nat):Int)==0&&(1:Int)==1&&(sIx items.size items.size hi - sIx items.size 0 lo)==items.size)=true):=by
  intro q;rw[Jq,Jq]at q;have q1:((sIx items.size 0 lo:Nat):Int)=0:=eq_of_beq q.1.1;have q2:sIx items.size items.size hi - sIx items.size 0 lo=items.size:=eq_of_beq q.2;exact hw ⟨by omega,by omega⟩
 show wpAny _ _ (if (((sIx items.size 0 lo:Nat):Int)==0&&(1:Int)==1&&(sIx items.size items.size hi - sIx items.size 0 lo)==items.size)=true then _ else _) _ _ s;rw[CI hno,vN]
 first
  | exact uH (m:=Builtin.Tuple.tupleExact _) (IF (wa ⟨_,rfl,wa h⟩) htake)
  | exact uH (m:=Builtin.Tuple.tupleExact _) (IF (uH (wa (wa ⟨_,rfl,wa h⟩))) htake)
  | exact uH (uH (m:=Builtin.Tuple.tupleExact _) (IF (wa (wa ⟨_,rfl,wa h⟩)) htake))
  | exact uH (uH (m:=Builtin.Tuple.tupleExact _) (IF (wa ⟨_,rfl,wa h⟩) htake))
end
end HT
namespace L2
section
abbrev TO:=St->Hp->(Option Int->Hp->Prop)->Prop
def PO(X:Cx)(e:Option Expr)(t:TO):Prop :=
 ∀(pins:List (Addr×Obj)) (s:Shared) (σ:St) (H:Hp) (Q:Option Int->Hp->Prop),Inv X pins σ H s->t σ H Q ->
  wpAny (model X.prog X.w) X.A (evalPart e X.env) (fun u s'=>∃o H',Inv X pins σ H' s'/\IsPart u o/\Q o H') X.xe s
def xW:TO:=fun _ H Q=>Q none H
def Ed(t:TE):TO:=fun σ H Q=>t σ H fun x H1=>∃i,x=.int i/\Q (some i) H1
section
variable {X:Cx}{e:Expr}{te:TE}{lo hi:Option Expr}{tl th:TO}{pos p2:Pos}
theorem zc:PO X none xW:=by
 intro pins s σ H Q I h;rw[evalPart_none];exact wa ⟨none,H,I,.none,h⟩
theorem yX(h:PE X e te):PO X (some e) (Ed te):=by
 intro pins s σ H Q I hw;rw[evalPart_some];refine thn (h pins s σ H _ I hw) fun u s1 y_=>?_;obtain⟨x,H1,I1,r1,q1⟩:=y_;obtain⟨i,rfl,q⟩:=q1;obtain⟨t,rfl⟩:=r1;exact⟨some i,H1,I1,.int i t,q⟩
def SlR(X:Cx)(r:V->Option Int->Option Int->Hp->VK->Prop):Prop :=
 ∀(pins:List (Addr×Obj)) (s:Shared) (σ:St) (H:Hp) (x:V) (v vl vu:Value) (lo hi:Option Int) (sl:Addr) (Q:VK),Inv X pins σ H s->RelV x v->s.heap.IsSliceOf sl vl vu .none->IsPart vl lo->IsPart vu hi->r x lo hi H Q ->
  ∃T id,typeLookup (.type T) "__getitem__"=pure (some (.builtin id))/\s.TypeIs v T/\wpAny (model X.prog X.w) X.A (getItem v (.ref sl)) (EP X pins σ Q) X.xe s
theorem SlR.or{r r':V->Option Int->Option Int->Hp->VK->Prop}(h:SlR X r)(h':SlR X r'):SlR X (fun x lo hi H Q=>r x lo hi H Q∨r' x lo hi H Q):=by
 intro pins s σ H x v vl vu lo hi sl Q I rx hs pl pu q;rcases q with q | q
 ·exact h pins s σ H x v vl vu lo hi sl Q I rx hs pl pu q
 ·exact h' pins s σ H x v vl vu lo hi sl Q I rx hs pl pu q
def tSl(r:V->Option Int->Option Int->Hp->VK->Prop)(te:TE)(tl th:TO):TE:=fun σ H Q=>te σ H fun x H1=>tl σ H1 fun l H2=>th σ H2 fun u H3=>r x l u H3 Q
theorem nY{r:V->Option Int->Option Int->Hp->VK->Prop}(hr:SlR X r)(he:PE X e te)(hl:PO X lo tl)(hu:PO X hi th):PE X (.Subscript e (.Slice lo hi none p2) pos) (tSl r te tl th):=by
 intro pins s σ H Q I h;refine Subscript_ (thn (he pins s σ H _ I h) fun v s1 y_=>?_);obtain⟨x,H1,I1,r1,q1⟩:=y_;refine wpAny_Slice (thn (hl pins s1 σ H1 _ I1 q1) fun vl s2 ⟨l,H2,I2,pl,q2⟩=>thn (hu pins s2 σ H2 _ I2 q2) fun vu s3 y_=>?_);obtain⟨u,H3,I3,pu,q3⟩:=y_;rw[evalPart_none];refine wa ?_;have I4:Inv X pins σ H3 { s3 with heap:=s3.heap.push { cls:=.type "slice",data:=.fields #[vl,vu,.none] } }:=I3.kept (t':=s3.toks) fun b ob q=>va _ q;obtain⟨T,id,hT,ht,hg⟩:=hr pins { s3 with heap:=s3.heap.push { cls:=.type "slice",data:=.fields #[vl,vu,.none] } } σ H3 x v vl vu l u s3.heap.objs.size Q I4 r1 (Heap.IsSliceOf.new ..) pl pu q3;show wpAny (model X.prog X.w) X.A (subscriptTail e (.Slice lo hi none p2) v (.ref s3.heap.objs.size)) (EP X pins σ Q) X.xe { s3 with heap:=s3.heap.push { cls:=.type "slice",data:=.fields #[vl,vu,.none] } };exact tail_any (ops:=[.ref s3.heap.objs.size,v]) ht hT hg (by with_unfolding_all rfl)
def aT(xs:List V)(lo hi:Option Int):List V:=(xs.drop (HT.sIx xs.length 0 lo)).take (HT.sIx xs.length xs.length hi - HT.sIx xs.length 0 lo)
theorem iG(xs:List V)(lo hi:Option Int):(aT xs lo hi).length≤xs.length:=by
 unfold aT;rw[Iu,Jc];omega
def GR(K:PySem.W.Frag):V->Option Int->Option Int->Hp->VK->Prop:=fun x lo hi H Q=>∃a xs,x=.ref a/\SqT K H a xs /\
 ¬(HT.sIx xs.length 0 lo=0/\HT.sIx xs.length xs.length hi=xs.length)/\∀p,H p=none->Q (.ref p) (upd H p (.tup (aT xs lo hi)))
theorem uZ:SlR X (GR X.K):=by
 intro pins s σ H x v vl vu lo hi sl Q I rx hs pl pu h;obtain⟨a,xs,rfl,hx,hw,q⟩:=h;cases rx;obtain⟨its,r,ht,hz⟩:=I.tuple hx;have hlen:its.toArray.size=xs.length:=by rw[Br];exact r.length.symm
 refine⟨"tuple",_,PyProof.Rows.slot_tuple_getitem.lookup,ht.typeIs,?_⟩;refine HT.gK ht hs pl pu (by rw[hlen];exact hw) ?_ (by rw[hlen];exact hz);rw[hlen];refine⟨.ref s.heap.objs.size,_,I.laid (t':=s.toks) (o:=.tup (aT xs lo hi)) (fun b ob q=>va _ q) (yi _) ?_,rfl,q _ (I.hok.fresh (yi _))⟩;exact⟨IC (iG xs lo hi) hz,_,(r.drop (HT.sIx xs.length 0 lo)).take (HT.sIx xs.length xs.length hi - HT.sIx xs.length 0 lo),IsTup.new _ _⟩
def EB(K:PySem.W.Frag):R2:=fun x y H Q=>∃a b xs ys,x=.ref a/\y=.ref b/\SqT K H a xs/\SqT K H b ys/\xs≠[]/\xs.length+ys.length≤sizeLine /\
 (ys=[]->Q (.ref a) H)/\(ys≠[]->∀p,H p=none->Q (.ref p) (upd H p (.tup (xs++ys))))
theorem Vals.nil_iff{xs:List V}{us:List Value}(r:Vals xs us):us=[]↔xs=[]:=by
 cases r with
 | nil=>simp
 | cons _ _=>simp
theorem zD:OpR X (binaryOp .Add) (EB X.K):=by
 intro pins s σ H x y v u Q I rx ry h;obtain⟨a,b,xs,ys,rfl,rfl,ha,hb,hx,hz,q1,q2⟩:=h;cases rx;cases ry;obtain⟨its,r1,p1,_⟩:=I.tuple ha;obtain⟨its2,r2,p2,_⟩:=I.tuple hb;refine HT.x9 p1 p2 (fun z=>hx (r1.nil_iff.mp z)) (fun z=>⟨.ref a,H,I,rfl,q1 (r2.nil_iff.mp z)⟩) (fun z=>?_) (by rw[←r1.length,← r2.length];exact hz);refine⟨.ref s.heap.objs.size,_,I.laid (t':=s.toks) (o:=.tup (xs++ys)) (fun b ob q=>va _ q) (yi _) ?_,rfl,q2 (fun w=>z (r2.nil_iff.mpr w)) _ (I.hok.fresh (yi _))⟩;exact⟨by rw[wW];exact hz,_,r1.append r2,IsTup.new _ _⟩
end
end
section
def ixN(n:Nat)(i:Int):Option Nat:=if 0≤i then(if i<n then some i.toNat else none)else if -(n:Int)≤i then some (i+n).toNat else none
def atI{α:Type}(xs:List α)(i:Int):Option α:=(ixN xs.length i).bind fun j=>xs[j]?
theorem xJ{n:Nat}{i:Int}{j:Nat}(h:ixN n i=some j):seqIndex? i n=some j/\j<n/\-(n:Int)≤i/\i<n:=by
 unfold ixN at h;by_cases h0:0≤i
 ·rw[Ij h0]at h;by_cases h1:i<n
  ·rw[Ij h1]at h;have e:i.toNat=j:=IH h;exact⟨by rw[seqIndex_of h0 h1,e],by omega,by omega,h1⟩
  ·rw[CI h1]at h;cases h
 ·rw[CI h0]at h;by_cases h1:-(n:Int)≤i
  ·rw[Ij h1]at h;have e:(i+n).toNat=j:=IH h;exact⟨by rw[seqIndex_neg (by omega) h1,e],by omega,h1,by omega⟩
  ·rw[CI h1]at h;cases h
theorem qE{α:Type}{xs:List α}{i:Int}{v:α}(h:atI xs i=some v):∃j,seqIndex? i xs.length=some j/\xs[j]?=some v/\j<xs.length/\-(xs.length:Int)≤i/\i<xs.length:=by
 unfold atI at h;cases e:ixN xs.length i with
 | none=>rw[e]at h;cases h
 | some j =>
  rw[e]at h;obtain⟨h1,h2,h3,h4⟩:=xJ e;exact⟨j,h1,h,h2,h3,h4⟩
def qG(b:Expr):Prop:=∀o i,subscripted b false o i=operate [o,i] (getItem o i)
def IxR(X:Cx)(r:R2):Prop :=
 ∀(value slice:Expr) (pins:List (Addr×Obj)) (s:Shared) (σ:St) (H:Hp) (x y:V) (v u:Value) (Q:VK),Inv X pins σ H s->RelV x v->RelV y u->r x y H Q ->
  subscripted slice false v u=operate [v,u] (getItem v u)->wpAny (model X.prog X.w) X.A (subscriptTail value slice v u) (EP X pins σ Q) X.xe s
def MtR(X:Cx)(id:String)(r:V->List V->Hp->VK->Prop):Prop :=
 ∀(pins:List (Addr×Obj)) (s:Shared) (σ:St) (H:Hp) (x:V) (xs:List V) (v:Value) (us:List Value) (Q:VK),Inv X pins σ H s->RelV x v->Vals xs us->r x xs H Q ->
  wpAny (model X.prog X.w) X.A (call (.builtin id) (v::us)) (EP X pins σ Q) X.xe s
section
variable {X:Cx}{a b:Expr}{ta tb:TE}{pos:Pos}
theorem IxR.or{r r':R2}(h:IxR X r)(h':IxR X r'):IxR X (fun x y H Q=>r x y H Q∨r' x y H Q):=by
 intro value slice pins s σ H x y v u Q I rx ry q hs;rcases q with q | q
 ·exact h value slice pins s σ H x y v u Q I rx ry q hs
 ·exact h' value slice pins s σ H x y v u Q I rx ry q hs
theorem Et{r:R2}(hr:IxR X r)(ha:PE X a ta)(hb:PE X b tb)(hs:qG b):PE X (.Subscript a b pos) (tOp r ta tb):=by
 intro pins s σ H Q I h;exact Subscript_ (CC ha hb I h fun v u s2 x y H2 I2 rx ry q=>hr a b pins s2 σ H2 x y v u Q I2 rx ry q (hs _ _))
def BY(K:PySem.W.Frag):R2:=fun x y H Q=>∃p xs i v,x=.ref p/\y=.int i/\SqL K H p xs/\atI xs i=some v/\Q v H
def BJ(K:PySem.W.Frag):R2:=fun x y H Q=>∃p xs i v,x=.ref p/\y=.int i/\SqT K H p xs/\atI xs i=some v/\Q v H
theorem xK:IxR X (BY X.K):=by
 intro value slice pins s σ H x y v u Q I rx ry h hs;obtain⟨p,xs,i,z,rfl,rfl,hq,he,q⟩:=h;cases rx;obtain⟨t,rfl⟩:=ry;obtain⟨its,r,pl,hz⟩:=I.list hq;obtain⟨j,h1,h2,h3,h4,h5⟩:=qE he;obtain⟨w,ew,rw'⟩:=r.get h2;have hl:=r.length;have hn:=lI;have fin:EP X pins σ Q w s:=⟨z,H,I,rw',q⟩;by_cases h0:0≤i
 ·have hj:i.toNat=j:=by
   rw[seqIndex_of h0 h5]at h1;exact IH h1
  exact item_listR pl.isList h0 (by omega) (by rw[hj];simpa using ew) fin hs
 ·have hj:(i+(its.toArray.size:Int)).toNat=j:=by
   rw[seqIndex_neg (by omega) h4]at h1;rw[Br,← hl];exact IH h1
  exact subscriptTail_builtinR (x:=w) pl.isList.typeIs slot_list_getitem.lookup
   (wpAny_getItem_list_neg (Q:=fun r s'=>r=w/\EP X pins σ Q r s') pl.isList (by omega) (by rw[Br]<;>omega) (by omega) (by rw[hj];simpa using ew) ⟨rfl,fin⟩) hs
theorem B5:IxR X (BJ X.K):=by
 intro value slice pins s σ H x y v u Q I rx ry h hs;obtain⟨p,xs,i,z,rfl,rfl,hq,he,q⟩:=h;cases rx;obtain⟨t,rfl⟩:=ry;obtain⟨its,r,pl,hz⟩:=I.tuple hq;obtain⟨j,h1,h2,h3,h4,h5⟩:=qE he;obtain⟨w,ew,rw'⟩:=r.get h2;have hl:=r.length;have hn:=lI;have fin:EP X pins σ Q w s:=⟨z,H,I,rw',q⟩;exact subscriptTail_builtinR (x:=w) pl.typeIs slot_tuple_getitem.lookup
  (getItem_tuple (j:=j) (Q:=fun r s'=>r=w/\EP X pins σ Q r s') pl (by omega) (by omega) (by rw[Br,← hl];exact h1) (by simpa using ew) ⟨rfl,fin⟩) hs
theorem lG(lo hi:Option Int)(n:Nat):(sliceBounds lo hi none n).1=((HT.sIx n 0 lo:Nat):Int)/\(sliceBounds lo hi none n).2.1=((HT.sIx n n hi:Nat):Int)/\(sliceBounds lo hi none n).2.2=1:=by
 refine⟨?_,?_,rfl⟩
 ·cases lo with
  | none=>simp[sliceBounds,HT.sIx]
  | some i =>
   simp only[sliceBounds,HT.sIx,Option.getD_none,show(1:Int)>0 by decide,if_true];by_cases h:i<0
   ·simp only[h,if_true]<;>omega
   ·simp only[h,if_false]<;>omega
 ·cases hi with
  | none=>simp[sliceBounds,HT.sIx]
  | some i =>
   simp only[sliceBounds,HT.sIx,Option.getD_none,show(1:Int)>0 by decide,if_true];by_cases h:i<0
   ·simp only[h,if_true]<;>omega
   ·simp only[h,if_false]<;>omega
theorem j5(its:List Value)(lo hi:Option Int):slicePick its.toArray lo hi none=((its.drop (HT.sIx its.length 0 lo)).take (HT.sIx its.length its.length hi - HT.sIx its.length 0 lo)).toArray:=by
 obtain⟨h1,h2,h3⟩:=lG lo hi its.toArray.size;unfold slicePick;rw[h1,h2,h3];simp only[sliceRange_one,pick_run,Br]<;>rfl
def Fn(K:PySem.W.Frag):V->Option Int->Option Int->Hp->VK->Prop:=fun x lo hi H Q=>∃a xs,x=.ref a/\SqL K H a xs/\∀p,H p=none->Q (.ref p) (upd H p (.lst (aT xs lo hi)))
theorem yh:SlR X (Fn X.K):=by
 intro pins s σ H x v vl vu lo hi sl Q I rx hs pl pu h;obtain⟨a,xs,rfl,hx,q⟩:=h;cases rx;obtain⟨its,r,ht,hz⟩:=I.list hx;have hlen:=r.length;refine⟨"list",_,slot_list_getitem.lookup,ht.isList.typeIs,?_⟩;refine wpAny_getItem_list_slice ht.isList hs pl pu .none (by simp) ?_ (by rw[Br]<;>omega);rw[j5,← hlen];refine⟨.ref s.heap.objs.size,_,I.laid (t':=s.toks) (o:=.lst (aT xs lo hi)) (fun b ob q=>va _ q) (yi _) ?_,rfl,q _ (I.hok.fresh (yi _))⟩;exact⟨IC (iG xs lo hi) hz,_,0,(r.drop (HT.sIx xs.length 0 lo)).take (HT.sIx xs.length xs.length hi - HT.sIx xs.length 0 lo),yf _ rfl⟩
theorem aD:cv X (.builtin "len") (fun xs H Q=>∃p ys,xs=[.ref p]/\(SqL X.K H p ys∨SqT X.K H p ys)/\Q (.int ys.length) H):=by
 intro pins s σ H xs us Q I r h;obtain⟨p,ys,rfl,hq,q⟩:=h;obtain⟨u,rfl,rx⟩:=vals1 r;cases rx;have hn:=lI;rcases hq with hq | hq
 ·obtain⟨its,r',pl,hz⟩:=I.list hq;have hlen:=r'.length;exact Calls.call_len_list pl.isList (by simp only[Br]<;>omega) ⟨.int ys.length,H,I.tok _,⟨s.toks+1,by rw[Br,hlen]⟩,q⟩
 ·obtain⟨its,r',pl,hz⟩:=I.tuple hq;have hlen:=r'.length;exact len_tuple pl (by simp only[Br]<;>omega) ⟨.int ys.length,H,I.tok _,⟨s.toks+1,by rw[Br,hlen]⟩,q⟩
theorem cA:cv X (.type "list") (fun xs H Q=>∃p ys,xs=[.ref p]/\(SqL X.K H p ys∨SqT X.K H p ys)/\∀l,H l=none->Q (.ref l) (upd H l (.lst ys))):=by
 intro pins s σ H xs us Q I r h;obtain⟨p,ys,rfl,hq,q⟩:=h;obtain⟨u,rfl,rx⟩:=vals1 r;cases rx;have fin:∀(its:List Value),Vals ys its->ys.length≤sizeLine->∀(h':Heap) (c':Nat),(∀b o',s.heap.get? b=some o'->h'.get? b=some o') ->
   h'.get? s.heap.objs.size=some { cls:=.type "list",dict:=none,data:=.seq its.toArray c',slots:=#[] }->EP X pins σ Q (.ref s.heap.objs.size) { s with heap:=h' }:=fun its r' hz h' c' kp e =>
  ⟨.ref s.heap.objs.size,_,I.laid (t':=s.toks) kp (yi _) (show bM X.prog X.w _ h' _ (.lst ys)from⟨hz,its,c',r',e⟩),rfl,q _ (I.hok.fresh (yi _))⟩
 rcases hq with hq | hq
 ·obtain⟨its,r',pl,hz⟩:=I.list hq;have hlen:=r'.length;obtain⟨o,ho,hc,n,hd⟩:=pl.isList;exact call_list_seq p (.inl rfl) ho hc hd (fun h' c' kp e=>fin its r' hz h' c' kp e) (by simp only[Br]<;>omega)
 ·obtain⟨its,r',pl,hz⟩:=I.tuple hq;have hlen:=r'.length;obtain⟨o,ho,hc,n,hd⟩:=pl;exact call_list_seq p (.inr rfl) ho hc hd (fun h' c' kp e=>fin its r' hz h' c' kp e) (by simp only[Br]<;>omega)
theorem aK:cv X (.type "tuple") (fun xs H Q=>∃p ys,xs=[.ref p]/\((SqL X.K H p ys/\∀l,H l=none->Q (.ref l) (upd H l (.tup ys)))∨(SqT X.K H p ys/\Q (.ref p) H))):=by
 intro pins s σ H xs us Q I r h;obtain⟨p,ys,rfl,h⟩:=h;obtain⟨u,rfl,rx⟩:=vals1 r;cases rx;rcases h with⟨hq,q⟩ |⟨hq,q⟩
 ·obtain⟨its,r',pl,hz⟩:=I.list hq;have hlen:=r'.length;refine call_tuple_list pl.isList (fun h' kp=>?_) (by simp only[Br]<;>omega);have I1:Inv X pins σ H { s with heap:=h' }:=I.kept (t':=s.toks) kp;have I2:Inv X pins σ (upd H h'.objs.size (.tup ys)) { s with heap:=h'.push { cls:=.type "tuple",data:=.seq its.toArray } } :=
   I1.laid (t':=s.toks) (fun b o e=>va _ e) (yi _) (show bM X.prog X.w _ _ _ (.tup ys)from⟨hz,its,r',IsTup.new _ _⟩)
  exact⟨.ref h'.objs.size,_,I2,rfl,q _ (I1.hok.fresh (yi _))⟩
 ·obtain⟨its,r',pl,hz⟩:=I.tuple hq;exact call_tuple_same pl ⟨.ref p,H,I,rfl,q⟩
def tyV(K:PySem.W.Frag)(T:String)(x:V)(H:Hp):Prop:=match x with
 | .str _=>T="str"
 | .int _=>T="int"
 | .ref p=>(T="list"/\∃xs,SqL K H p xs)∨(T="tuple"/\∃o,K.lookup p=some o/\o.cls=.type "tuple"/\o.dict=none) ∨
   (T="dict"/\((∃kvs,H p=some (.dK kvs))∨∃kvs,H p=some (.dT kvs)))∨(T="set"/\∃S n,H p=some (.set S n))
 | _=>False
theorem wM{pins:List (Addr×Obj)}{σ:St}{H:Hp}{s:Shared}{T:String}{x:V}{v:Value}(I:Inv X pins σ H s)(r:RelV x v)(ty:tyV X.K T x H) :
  s.TypeIs v T/\∀a,v=.ref a->∃ob,s.heap.get? a=some ob/\ob.dict=none:=by
 cases x with
 | str z =>
  obtain⟨t,rfl⟩:=r;cases (show T="str" from ty);exact⟨typeIs_str s z t,fun _ e=>nomatch e⟩
 | int i =>
  obtain⟨t,rfl⟩:=r;cases (show T="int" from ty);exact⟨typeIs_int s i t,fun _ e=>nomatch e⟩
 | ref p =>
  cases r;rcases ty with⟨rfl,xs,hq⟩ |⟨rfl,o,hk,hc,hd⟩ |⟨rfl,hk⟩ |⟨rfl,S,n,hk⟩
  ·obtain⟨its,_,pl,_⟩:=I.list hq;refine⟨pl.isList.typeIs,fun a e=>?_⟩;cases e;obtain⟨o,n,e,c,hd,_⟩:=pl;exact⟨o,e,hd⟩
  ·refine⟨⟨o,I.kIn p o hk,hc⟩,fun a e=>?_⟩;cases e;exact⟨o,I.kIn _ o hk,hd⟩
  ·have z:∃o,s.heap.get? p=some o/\o.ExactDict:=by
    rcases hk with⟨kvs,hk⟩ |⟨kvs,hk⟩
    ·obtain⟨_,_,_,_,o,_,_,e,ex,_⟩:=I.hok p _ hk;exact⟨o,e,ex⟩
    ·obtain⟨_,_,_,_,o,_,_,e,ex,_⟩:=I.hok p _ hk;exact⟨o,e,ex⟩
   obtain⟨o,e,ex⟩:=z;refine⟨⟨o,e,ex.1⟩,fun a e2=>?_⟩;cases e2;exact⟨o,e,ex.2.1⟩
  ·obtain⟨o,_,_,_,e,ex,_⟩:=I.hok p _ hk;refine⟨⟨o,e,ex.1⟩,fun a e2=>?_⟩;cases e2;exact⟨o,e,ex.2.1⟩
 | _=>exact False.elim ty
def Hb(K:PySem.W.Frag)(T:String)(r:V->List V->Hp->VK->Prop)(to:TE):TE:=fun σ H Q=>to σ H fun x H1=>tyV K T x H1/\r x [] H1 Q
def tBM(K:PySem.W.Frag)(T:String)(r:V->List V->Hp->VK->Prop)(to:TE)(t:TA):TE:=fun σ H Q=>to σ H fun x H1=>tyV K T x H1/\t σ H1 fun xs H2=>r x xs H2 Q
variable {o e:Expr}{es:List Expr}{to:TE}{t:TA}{name:Str}{apos cpos:Pos}{T id:String}{r:V->List V->Hp->VK->Prop}
theorem A0(pa:PlainAttrs T)(slot:Slot T name id)(hty:typeOf (.builtin id)=pure (.type "method_descriptor"))(hm:MtR X id r)(ho:PE X o to)
  (hbase:attributeBase o name X.env (eval o X.env)=eval o X.env:=by rfl) (hline:(apos.endLine==cpos.line)=true:=by rfl):PE X (.Call (.Attribute o name apos) [] [] cpos) (Hb X.K T r to):=by
 intro pins s σ H Q I h;refine wpAny_Call_method0_late hbase hline (thn (ho pins s σ H _ I h) fun v s1 y_=>?_);obtain⟨x,H1,I1,r1,ty,q1⟩:=y_;obtain⟨h1,h2⟩:=wM I1 r1 ty;exact⟨T,id,pa,slot,hty,h1,h2,Calls.callWith_builtin rfl (PySem.evalArgs_none (hm pins s1 σ H1 x [] v [] Q I1 r1 .nil q1))⟩
theorem DH(pa:PlainAttrs T)(slot:Slot T name id)(hty:typeOf (.builtin id)=pure (.type "method_descriptor"))(hm:MtR X id r)(ho:PE X o to)(ha:PA X (e::es) t)
  (hbase:attributeBase o name X.env (eval o X.env)=eval o X.env:=by rfl)
  (hfew:((backTo cpos (starEach (e::es) X.env)).all (fun x=>!x.1)&&(backToKw cpos (keywordEach [] X.env)).all (fun x=>x.1.isSome)
   && decide ((e::es).length+([]:List Keyword).length+(if ([]:List Keyword).isEmpty then 0 else 1)<30))=true:=by rfl)
  (hline:(apos.endLine==cpos.line)=true:=by rfl) (hs:starEach (e::es) X.env=(false,eval e X.env)::starEach es X.env:=by rfl) (hplain:(backTo cpos (starEach es X.env)).any (·.1)=false:=by rfl) :
  PE X (.Call (.Attribute o name apos) (e::es) [] cpos) (tBM X.K T r to t):=by
 intro pins s σ H Q I h;refine wpAny_Call_method_late hbase hfew hline rfl (thn (ho pins s σ H _ I h) fun v s1 y_=>?_);obtain⟨x,H1,I1,r1,ty,q1⟩:=y_;obtain⟨h1,h2⟩:=wM I1 r1 ty;refine⟨T,id,pa,slot,hty,h1,h2,?_⟩;have hA:=ha cpos pins s1 σ H1 _ I1 q1;rw[hs]at hA ⊢;refine Calls.callWith_builtin (by show(false||(backTo cpos (starEach es X.env)).any (·.1))=false;rw[hplain]<;>rfl) (Calls.evalArgs_plain ?_);exact thn hA fun us s2 ⟨vs,H2,I2,r2,q2⟩=>hm pins s2 σ H2 x vs v us Q I2 r1 r2 q2
end
end
section
def MtM(X:Cx)(id:String)(r:V->List V->Hp->VK->Prop):Prop :=
 ∀(pins:List (Addr×Obj)) (s:Shared) (σ:St) (H:Hp) (x:V) (xs:List V) (v:Value) (us:List Value) (Q:VK),Inv X pins σ H s->RelV x v->Vals xs us->r x xs H Q ->
  wpAny (model X.prog X.w) X.A (call (.builtin id) (v::us)) (EP X pins σ Q) X.xe s
theorem Vals.one:∀{x:V} {us:List Value},Vals [x] us->∃u,us=[u]/\RelV x u
 | _,_,.cons r .nil=>⟨_,rfl,r⟩
theorem Vals.zero:∀{us:List Value},Vals [] us->us=[]
 | _,.nil=>rfl
theorem Vals.dropLast{xs:List V}{us:List Value}(h:Vals xs us):Vals xs.dropLast us.dropLast:=by
 induction h with
 | nil=>exact .nil
 | cons r t ih =>
  cases t with
  | nil=>exact .nil
  | cons q t'=>exact .cons r ih
theorem pq{α:Type}(l:List α):l.eraseIdx (l.length - 1)=l.dropLast:=by
 induction l with
 | nil=>rfl
 | cons a r ih =>
  cases r with
  | nil=>rfl
  | cons b r =>
   have e:(a::b::r).length - 1=((b::r).length - 1)+1:=by
    have h1:(a::b::r).length=r.length+2:=rfl;have h2:(b::r).length=r.length+1:=rfl;omega
   rw[e,List.eraseIdx_cons_succ,ih]
   all_goals rfl
section
variable {X:Cx}{pins:List (Addr×Obj)}{σ:St}{H:Hp}{s:Shared}{l b:Addr}{xs ys zs:List V}
theorem Inv.lset{its its':List Value}{n:Nat}{f:Array Value->Array Value}{t':Nat}(I:Inv X pins σ H s)(hH:H l=some (.lst xs))
  (e:s.heap.get? l=some { cls:=.type "list",data:=.seq its.toArray n }) (hf:f its.toArray=its'.toArray) (hv:Vals ys its') (hz:ys.length≤sizeLine) :
  Inv X pins σ (upd H l (.lst ys)) { s with heap:=s.heap.update l (Obj.mapSeq f),toks:=t' }:=by
 have q:=PySem.IsL.update e f;rw[hf]at q;refine I.write (x:=l) (e:=l) (by rw[hH];exact trivial) (.inl rfl) (fun b' u hb hu=>(Heap.get?_update_other s.heap (Obj.mapSeq f) (Ne.symm hb)).trans hu) ⟨_,q⟩ ?_;exact⟨hz,its',_,hv,q⟩
theorem Inv.lnew{its:List Value}{t':Nat}(I:Inv X pins σ H s)(hv:Vals ys its)(hz:ys.length≤sizeLine) :
  Inv X pins σ (upd H s.heap.objs.size (.lst ys)) { s with heap:=s.heap.push { cls:=.type "list",data:=.seq its.toArray },toks:=t' } :=
 I.laid (fun _ _ q=>va _ q) (yi _) ⟨hz,its,0,hv,yf _ rfl⟩
theorem Inv.fresh(I:Inv X pins σ H s):H s.heap.objs.size=none:=I.hok.fresh (yi _)
theorem Inv.lstM(I:Inv X pins σ H s)(hH:H l=some (.lst xs)):xs.length≤sizeLine/\∃(its:List Value) (n:Nat),Vals xs its/\xs.length=its.length/\s.heap.get? l=some { cls:=.type "list",data:=.seq its.toArray n }:=by
 obtain⟨z,its,n,r,e⟩:=I.hok l _ hH;exact⟨z,its,n,r,r.length,e⟩
theorem mr{n:Nat}(h:n≤sizeLine):Builtin.List.listTooLong n=false:=by
 unfold Builtin.List.listTooLong;exact Jn (by omega)
end
section
variable {X:Cx}
def qr:V->List V->Hp->VK->Prop:=fun x vs H Q=>∃l xs y,x=.ref l/\vs=[y]/\H l=some (.lst xs)/\xs.length<sizeLine/\Q .non (upd H l (.lst (xs++[y])))
theorem bz:MtM X "list.append" qr:=by
 intro pins s σ H x vs v us Q I rx rv h;obtain⟨l,xs,y,rfl,rfl,hH,hz,q⟩:=h;cases rx;obtain⟨u,rfl,ru⟩:=rv.one;obtain⟨z,its,n,r,hl,e⟩:=I.lstM hH;refine call_meets F.slot_list_append ⟨_,e,rfl⟩ F.entry_list_append (F.args_list_append_2 _ _) (PySem.list_append l its.toArray n u (by rw[Br];omega)) ⟨e,?_⟩;refine⟨.non,_,I.lset (its':=its++[u]) hH e (by simp) (r.append (.cons ru .nil)) ?_,rfl,q⟩;rw[wW,Ip];omega
def yg:V->List V->Hp->VK->Prop:=fun x vs H Q=>∃l b xs zs,x=.ref l/\vs=[.ref b]/\H l=some (.lst xs)/\H b=some (.lst zs)/\xs.length+zs.length≤sizeLine/\Q .non (upd H l (.lst (xs++zs)))
theorem Dk:MtM X "list.extend" yg:=by
 intro pins s σ H x vs v us Q I rx rv h;obtain⟨l,b,xs,zs,rfl,rfl,hH,hB,hz,q⟩:=h;cases rx;obtain⟨u,rfl,ru⟩:=rv.one;cases ru;obtain⟨z,its,n,r,hl,e⟩:=I.lstM hH;obtain⟨z2,its2,n2,r2,hl2,e2⟩:=I.lstM hB;have hsz:its.toArray.size+its2.toArray.size≤sizeLine:=by rw[Br,Br];omega
 have hlong:¬(!its.toArray.isEmpty&&Builtin.List.listTooLong (its.toArray.size+its2.toArray.size))=true:=by
  rw[mr hsz,Bool.and_false];exact JA
 refine call_meets F.slot_list_extend ⟨_,e,rfl⟩ F.entry_list_extend (F.args_list_extend_2 _ _)
  (AutoSeq1.list_extend_list_list_0 l its.toArray n b its2.toArray n2 hlong (by rw[Br];omega) (by omega)) ⟨e,e2,?_⟩
 refine⟨.non,_,I.lset (its':=its++its2) hH e (by simp) (r.append r2) ?_,rfl,q⟩;rw[wW];omega
def EJ:V->List V->Hp->VK->Prop:=fun x vs H Q=>∃l xs y,x=.ref l/\vs=[]/\H l=some (.lst xs)/\xs[xs.length - 1]?=some y/\Q y (upd H l (.lst xs.dropLast))
theorem C0:MtM X "list.pop" EJ:=by
 intro pins s σ H x vs v us Q I rx rv h;obtain⟨l,xs,y,rfl,rfl,hH,hy,q⟩:=h;cases rx;have hus:=rv.zero;subst hus;obtain⟨z,its,n,r,hl,e⟩:=I.lstM hH;obtain⟨u,hu,ru⟩:=r.get hy;have hy':its.toArray[its.toArray.size - 1]?=some u:=by
  show its.toArray[its.length - 1]?=some u;rw[←IS,← hl];exact hu
 refine call_meets F.slot_list_pop ⟨_,e,rfl⟩ F.entry_list_pop (F.args_list_pop_1 _) (MeetsSeq.list_pop_last l its.toArray n u hy' (by rw[Br];omega)) ⟨e,?_⟩;refine⟨y,_,I.lset (its':=its.dropLast) hH e ?_ r.dropLast ?_,ru,q⟩
 ·show its.toArray.eraseIdxIfInBounds (its.toArray.size - 1)=its.dropLast.toArray;rw[Br,List.eraseIdxIfInBounds_toArray,pq]
 ·rw[List.length_dropLast];omega
def D0:R2:=fun x y H Q=>∃l b xs zs,x=.ref l/\y=.ref b/\H l=some (.lst xs)/\H b=some (.lst zs)/\xs.length+zs.length≤sizeLine/\∀p,H p=none->Q (.ref p) (upd H p (.lst (xs++zs)))
theorem BC:OpR X (binaryOp .Add) D0:=by
 intro pins s σ H x y v u Q I rx ry h;obtain⟨l,b,xs,zs,rfl,rfl,hH,hB,hz,q⟩:=h;cases rx;cases ry;obtain⟨z,its,n,r,hl,e⟩:=I.lstM hH;obtain⟨z2,its2,n2,r2,hl2,e2⟩:=I.lstM hB;refine PySem.P.add_list e e2 ?_ (by rw[Br,Br];omega);have ea:its.toArray++its2.toArray=(its++its2).toArray:=by simp
 rw[ea];exact⟨.ref _,_,I.lnew (t':=s.toks) (r.append r2) (by rw[wW];omega),rfl,q _ I.fresh⟩
end
section
variable {prog:Program}{w:World}{A:Around}{E:Value->Shared->Prop}{s:Shared}
end
section
variable {X:Cx}
end
end
end L2
namespace Att
open PySem.W PySem.Calls
theorem iP{P:Params}{h:Heap}:∀(ns:List Int) (vs:List Value),WellAll P h vs (ns.map WData.int)->IntsAre vs ns:=by
 intro ns
 induction ns with
 | nil =>
  intro vs w;rw[List.map_nil]at w;cases w;exact .nil
 | cons n ns ih =>
  intro vs w;rw[yd]at w;cases w with
  | cons a b =>
   cases a;exact .cons _ _ (ih _ b)
theorem sX{l:OpenLaw}{n:Nat}(hn:l.most=some n){P:Params}{h:Heap}{args:List WData}{vals:List Value}
  (hpre:l.row.toRowW.claim.pre args=true) (hwl:WellAll P h vals args) :
  ∃a vs ns,vals=[Value.ref a]/\args=[WData.list (ns.map WData.int)]/\h.get? a=some { cls:=.type "list",data:=.seq vs.toArray }/\IntsAre vs ns/\ns.length≤n:=by
 have hsh:WShape.hasAll [] args [.list .int]=true:=(pre_splitW hpre).1;have hc:l.pre.holds [] { args:=args }=true:=(pre_splitW hpre).2;obtain⟨d,r,rfl,h1,h2⟩:=hasAllW_cons hsh;obtain rfl:=hasAllW_nil h2;obtain⟨xs,rfl,h3⟩:=hasW_list h1;obtain⟨ns,rfl⟩:=items_int h3;have hlen:ns.length≤n:=by
  unfold OpenLaw.pre at hc;have h4:(WTm.not (.lt (.lit (.int (n:Int))) (.len (.arg 0)))).holds [] { args:=[.list (ns.map .int)] }=true:=by
   have h4:=(holds_andW hc).1;rw[hn]at h4;exact h4
  have h5:=condW_of h4 (w_not (w_lt w_lit (w_len_list (w_arg rfl))));rw[rS]at h5;refine Nat.le_of_not_lt fun q=>?_;have q':(n:Int)<((ns.length:Nat):Int):=by omega
  first
   |(rw[IL q']at h5;exact absurd h5 (by decide))
   |(simp at h5;omega)
 cases hwl with
 | cons w1 w2 =>
  cases w2;cases w1 with
  | list ho hall=>exact⟨_,_,ns,rfl,rfl,ho,iP ns _ hall,hlen⟩
theorem qS(l:OpenLaw)(args:List WData):l.row.toRowW.claim.post args (.bool true) args=true :=
 postW_of (r:=l.row.toRowW) (X:=(true==true))
  (show WShape.has [] (.bool true) .bool=true by first | rfl | decide | simp[WShape.has,WShape.arms,WShape.armsAll])
  (show(WTm.eq .res (.lit (.bool true))).value [] { args:=args,res:=some (.bool true),after:=args }=some (.bool (true==true))from w_eq_bool (w_res rfl) w_lit) rfl
theorem m8{l:OpenLaw}{n:Nat}{q:Program}{loose:List Str}{XP:(Str->Option Value)->Heap->Prop}{YP:World->Heap->Prop}{d:DefRec}
  (hn:l.most=some n) (hdf:d.params.defaults=[])
  (call:∀(w:World) (s₀ s₁:Shared) (mg mb:Str->Option Value) (fa:Addr) (o:Obj) (pm cd doc:Value) (a:Addr) (vs:List Value) (ns:List Int),
   Ground q loose [] XP w s₀ mg mb s₁.heap->YP w s₁.heap ->
   s₁.heap.get? fa=some o->o.data=.func (docDef d.name d.params d.body d.scope pm cd doc)->s₁.heap.CodeRec cd d.name->mg d.name=some (.ref fa) ->
   s₁.heap.get? a=some { cls:=.type "list",data:=.seq vs.toArray }->IntsAre vs ns->ns.length≤n->s₁.gens=#[] ->
   codeAny (model l.prog w) callerA (.call (.ref fa) ⟨[.ref a],[]⟩) (fun r s'=>r=.ok (.ret (.bool true))/\OldK s₁.heap s'.heap/\s'.os=s₁.os/\AllBare s'.gens) s₁) :
  WalkO q loose XP YP l.row.toRowW d [] (fun f vs=>PySem.call f vs):=by
 intro w s₀ s₁ mg mb G Y fa o pm cd doc dV kV ho hd hcd hD hmg hg args vals as hpre hlay hrd hwl hlo;obtain rfl:dV=.none:=Dflts.none hD hdf;obtain rfl:kV=.none:=Dflts.noKw hD;obtain⟨a,vs,ns,rfl,rfl,hobj,hints,hlen⟩:=sX hn hpre hwl;refine enter_call (JY (call w s₀ s₁ mg mb fa o pm cd doc a vs ns G Y ho (fd_plain hd) hcd hmg hobj hints hlen hg) fun r s' hq=>?_);obtain⟨rfl,h2,h3,h4⟩:=hq;exact⟨.inl ⟨.bool true,.bool true,[],rfl,fun _=>rfl,.bool true,qS l _,fun _=>⟨List.Pairwise.nil,fun _ hm=>(nomatch hm)⟩⟩,h2,h3,h4⟩
section
variable {prog:Program}{w:World}{A:Around}{E:Value->Shared->Prop}{s:Shared}{K:Frag}
def ledger(h:Heap)(L d:Addr):List (Addr×Obj):=(List.range h.objs.size).filterMap fun a=>if a=L∨a=d then none else(h.get? a).map fun o=>(a,o)
end
end Att
namespace L2
section
theorem dG:∀{vs:List Value} {ns:List Int},IntsAre vs ns->Vals (ns.map V.int) vs
 | _,_,.nil=>.nil
 | _,_,.cons n t h=>.cons ⟨t,rfl⟩ (dG h)
def rQ(H:Hp):Prop:=∀b,H b=none∨∃o xs,H b=some (.frz o (.lst xs))
theorem tU{P:Program}{w:World}{K:PySem.W.Frag}{mg mb:Str->Option Value}{CX:CXT}{k:Nat}{fa a:Addr}{fd:FuncData}{x:Str}{sp:Sp}{s₁:Shared}{vs:List Value}{ns:List Int}
  (KX:K.In s₁.heap) (hns:s₁.heap.Ns mainGlobals mg) (hb:s₁.heap.Ns builtinsNs mb) (hbb:∀x:Str,x≠"__name__"->mb x=bootBuiltins x) (hlim:s₁.heap.NoLimit) (hg:s₁.gens=#[])
  (ha:s₁.heap.get? a=some { cls:=.type "list",data:=.seq vs.toArray }) (hi:IntsAre vs ns) (hl:ns.length≤sizeLine) (hr:cq k callerA)
  (F:∀base:Heap,K.In base->base.Ns mainGlobals mg->jU P w K mg base CX k fa fd [x] sp) (hbind:∀(s:Shared) (u:Value),BindsTo s fd ⟨[u],[]⟩ [(x,u)])
  (hsp:∀H:Hp,rQ H->SqL K H a (ns.map V.int)->sp [.ref a] H (fun v _=>v=.bl true) fun _ _ _=>False)
  (hCX:∀H e s',CX [] H s₁ (fun _ _ _=>False) e s'->False) :
  codeAny (model P w) callerA (.call (.ref fa) ⟨[.ref a],[]⟩) (fun r s'=>r=.ok (.ret (.bool true))/\OldK s₁.heap s'.heap/\s'.os=s₁.os/\AllBare s'.gens) s₁:=by
 have rv:=dG hi;have lenV:=hi.length;have core:∀H:Hp,rQ H->SqL K H a (ns.map V.int)->HOk P w H s₁.heap->(∀b,H b≠none->b=a)->(H a≠none->K.lookup a=none) ->
   codeAny (model P w) callerA (.call (.ref fa) ⟨[.ref a],[]⟩) (fun r s'=>r=.ok (.ret (.bool true))/\OldK s₁.heap s'.heap/\s'.os=s₁.os/\AllBare s'.gens) s₁:=by
  intro H hO hS hok hA hK;have base_of:∀{b:Addr} {o:Obj},s₁.heap.get? b=some o->H b=none->(lg s₁.heap H).get? b=some o:=fun e n=>wc e n;have noA:∀{b:Addr} {o:Obj} {es:Array DictEntry} {ep:Nat},s₁.heap.get? b=some o->o.data=.dict es ep->H b=none:=fun {b o es ep} e d=>by
   cases q:H b with
   | none=>rfl
   | some u =>
    have e':b=a:=hA b (by rw[q];simp);subst e';rw[ha]at e;cases e;have d':Data.seq vs.toArray _=Data.dict es ep:=d;cases d'
  have nsK:∀{b:Addr} {m:Str->Option Value},s₁.heap.Ns b m->(lg s₁.heap H).Ns b m:=fun {b m} ⟨o,es,ep,e,d,r⟩=>⟨o,es,ep,base_of e (noA e d),d,r⟩;have hKb:K.In (lg s₁.heap H):=fun b o e=>base_of (KX b o e) (by
   cases q:H b with
   | none=>rfl
   | some u =>
    have e':b=a:=hA b (by rw[q];simp);subst e';rw[hK (by rw[q];simp)]at e;cases e)
  have hM:Mod K mg (lg s₁.heap H):=⟨hKb,nsK hns,⟨mb,nsK hb,hbb⟩,let ⟨mc,h1,h2⟩:=hlim;⟨mc,nsK h1,h2⟩⟩;have e0:pF P w K mg (lg s₁.heap H) callerA [] s₁ H:=⟨rfl,hM,fun b o e=>zH e,Nat.le_of_eq (rK _ _),trivial,fun b hb=>absurd (show b∈([]:List Addr)from hb) (by simp),hok,.of_eq hg⟩;refine JY ((F _ hKb (nsK hns)).run callerA [] s₁ H ⟨[.ref a],[]⟩ [.ref a] [.ref a] _ _ hr e0 (hbind s₁ (.ref a)) (.cons rfl .nil) (hsp H hO hS)) fun r s' h=>?_;cases r with
  | error e=>exact(hCX H e s' h).elim
  | ok fl =>
   cases fl with
   | next=>exact False.elim h
   | brk=>exact False.elim h
   | cont=>exact False.elim h
   | ret u =>
    obtain⟨v,H',os,bare,un,hok',r',q⟩:=h;have q':v=.bl true:=q;subst q';obtain rfl:u=Value.bool true:=r';refine⟨rfl,OldK.of_keep fun b o e=>?_,os,bare⟩;cases q:H b with
    | none=>exact un.keep b o e q (by intro z;exact absurd (show b∈([]:List Addr)from z) (by simp)) (by simp)
    | some u =>
     rcases hO b with z |⟨ob,xs,z⟩
     ·rw[q]at z;cases z
     ·have z2:=un.frzs b ob _ z;obtain⟨e1,_⟩:=hok b _ z;obtain⟨e2,_⟩:=hok' b _ z2;rw[e]at e1;cases e1;exact e2
 cases hk:K.lookup a with
 | some o =>
  have e:=KX a o hk;rw[ha]at e;cases e;refine core (fun _=>none) (fun _=>.inl rfl) (.inr ⟨_,vs.toArray,_,hk,rfl,rfl,rfl,by rw[Br,lenV];exact hl,by simpa using rv⟩) (fun b u z=>by have z':(none:Option HO)=some u:=z;cases z') (fun b z=>absurd rfl z) fun z=>absurd rfl z
 | none =>
  refine core (fun b=>if b=a then some (.frz { cls:=.type "list",data:=.seq vs.toArray } (.lst (ns.map V.int)))else none) (fun b=>?_) (.inl (.inr ⟨{ cls:=.type "list",data:=.seq vs.toArray },Ij rfl⟩)) (fun b u z=>?_) (fun b z=>?_) fun _=>hk
  ·by_cases hb:b=a
   ·exact .inr ⟨_,_,Ij hb⟩
   ·exact .inl (CI hb)
  ·by_cases hb:b=a
   ·have z':=(Ij hb).symm.trans z;cases z';subst hb;exact⟨ha,by rw[rS];exact hl,vs,_,rv,ha⟩
   ·have z':=(CI hb).symm.trans z;cases z'
  ·by_cases hb:b=a
   ·exact hb
   ·exact absurd (CI hb) z
end
section
abbrev KOf{K:PySem.W.Frag}{h:Heap}(_:K.In h):PySem.W.Frag:=K
theorem qu{l:PySem.W.OpenLaw}{n k:Nat}{q:Program}{loose:List Str}{XP:(Str->Option Value)->Heap->Prop}{YP:World->Heap->Prop}{d:DefRec}{K:Params->PySem.W.Frag}{CX:World->CXT}{sp:World->Sp}{x:Str}
  (hn:l.most=some n) (hn2:n≤sizeLine) (hdf:d.params.defaults=[]) (hr:cq k callerA)
  (hY:∀(w:World) (h:Heap),YP w h->(K w.params).In h)
  (F:∀(w:World) (mg:Str->Option Value) (fa:Addr) (h:Heap),(K w.params).In h->h.Ns mainGlobals mg->mg d.name=some (.ref fa) ->
   ∃fd:FuncData,(∀(s:Shared) (u:Value),BindsTo s fd ⟨[u],[]⟩ [(x,u)]) /\
    ∀base:Heap,(K w.params).In base->base.Ns mainGlobals mg->jU l.prog w (K w.params) mg base (CX w) k fa fd [x] (sp w))
  (hsp:∀(w:World) (H:Hp) (a:Addr) (ns:List Int),ns.length≤n->rQ H->SqL (K w.params) H a (ns.map V.int)->sp w [.ref a] H (fun v _=>v=.bl true) fun _ _ _=>False)
  (hCX:∀(w:World) (H:Hp) (s:Shared) (e:Value) (s':Shared),CX w [] H s (fun _ _ _=>False) e s'->False) :
  PySem.W.WalkO q loose XP YP l.row.toRowW d [] (fun f vs=>PySem.call f vs):=by
 refine Att.m8 hn hdf fun w s₀ s₁ mg mb fa o pm cd doc a vs ns G Y ho hd hcd hmg hobj hints hlen hg=>?_;have KX:=hY w _ Y;obtain⟨fd,hb,hF⟩:=F w mg fa _ KX G.T.g hmg;exact tU KX G.T.g G.T.b G.T.builtins G.T.nolimit hg hobj hints (IC hlen hn2) hr hF hb (fun H hO hS=>hsp w H a ns hlen hO hS) fun H e s'=>hCX w H s₁ e s'
theorem wx{l:PySem.W.OpenLaw}{n k:Nat}{q:Program}{loose:List Str}{XP:(Str->Option Value)->Heap->Prop}{YP:World->Heap->Prop}{d:DefRec}{K:Params->PySem.W.Frag}{CX:CXT}{sp:PySem.W.Frag->Sp}{x:Str}
  (hn:l.most=some n) (hn2:n≤sizeLine) (hdf:d.params.defaults=[]) (hr:cq k callerA)
  (hY:∀(w:World) (h:Heap),YP w h->(K w.params).In h)
  (F:∀(w:World) (mg:Str->Option Value) (fa:Addr) (h:Heap),(K w.params).In h->h.Ns mainGlobals mg->mg d.name=some (.ref fa) ->
   ∃fd:FuncData,(∀(s:Shared) (u:Value),BindsTo s fd ⟨[u],[]⟩ [(x,u)]) /\
    ∀base:Heap,(K w.params).In base->base.Ns mainGlobals mg->jU l.prog w (K w.params) mg base CX k fa fd [x] (sp (K w.params)))
  (hsp:∀(K:PySem.W.Frag) (H:Hp) (a:Addr) (ns:List Int),ns.length≤n->rQ H->SqL K H a (ns.map V.int)->sp K [.ref a] H (fun v _=>v=.bl true) fun _ _ _=>False)
  (hCX:∀(H:Hp) (s:Shared) (e:Value) (s':Shared),CX [] H s (fun _ _ _=>False) e s'->False) :
  PySem.W.WalkO q loose XP YP l.row.toRowW d [] (fun f vs=>PySem.call f vs) :=
 qu (K:=K) (CX:=fun _=>CX) (sp:=fun w=>sp (K w.params)) hn hn2 hdf hr hY F (fun w H a ns h1 h2 h3=>hsp (K w.params) H a ns h1 h2 h3) fun _ H s e s'=>hCX H s e s'
end
section
def inClass(s:Stmt)(j:Nat):Stmt:=match s with
 | .ClassDef _ _ _ body _ _ _ _ _ _ _=>body.getD j (.Pass ⟨0,0,0,0⟩)
 | _=>.Pass ⟨0,0,0,0⟩
def i9(s:Stmt):Arguments:=match s with
 | .FunctionDef _ a _ _ _ _ _ _ _ _=>a
 | _=>{ posonlyargs:=[],args:=[],vararg:=none,kwonlyargs:=[],kw_defaults:=[],kwarg:=none,defaults:=[] }
def dS(s:Stmt):List Stmt:=match s with
 | .FunctionDef _ _ b _ _ _ _ _ _ _=>b
 | _=>[]
def ak(s:Stmt):Scope:=match s with
 | .FunctionDef _ _ _ _ _ _ sc _ _ _=>sc
 | _=>{ kind:=.function,names:=[],isGenerator:=false,isCoroutine:=false }
abbrev CX0:CXT:=fun _ _ _ _ _ _=>False
abbrev E0:XK:=fun _ _ _=>False
theorem vL{X:Cx}:Passes CX0 X E0:=fun _ _ _ _ _ _ _ h=>h.elim
structure Fun (K:PySem.W.Frag) (x qual:Str) (st:Stmt) (f:Addr) (fd:FuncData):Prop where
 ex:∃(oc:Value) (od:Option Addr) (kV doc pm:Value) (an:Option Addr) (cdv ct:Value) (osl:Array (Option Value)),
  fd=PySem.W.fnOf x qual (i9 st) (dS st) (ak st) .none kV doc pm an cdv ct/\K.lookup f=some ⟨oc,od,.func fd,osl⟩/\PySem.W.codeIn K cdv qual=true
 kp:PySem.W.keepIn K (.ref f)=true
section
variable {P:Program}{w:World}{K:PySem.W.Frag}{mg:Str->Option Value}{base:Heap}
theorem Fun.ok{x qual:Str}{st:Stmt}{f:Addr}{fd:FuncData}{N ps:List Str}{k:Nat}{sp:Sp}(F:Fun K x qual st f fd)(S:aB N ps (ak st))(len:∀vs H Q E,sp vs H Q E->vs.length=ps.length)
  (hbody:∀(cdv:Value) (A:Around) (outer:List Env) (s:Shared) (H:Hp) (vs:List V) (Q:VK) (E:XK),cq k (A.deeper (envOfC qual (ak st) s.heap.objs.size f cdv))->sp vs H Q E ->
   ∃t,PSs (mf CX0 P w K mg base N qual (ak st) f cdv A outer s H E).nox (dS st) t/\t { nx:=fun _ H'=>Q .non H',rt:=Q } (start N vs) H):jU P w K mg base CX0 (k+1) f fd ps sp:=by
 obtain⟨oc,od,kV,doc,pm,an,cdv,ct,osl,rfl,lk,hcd⟩:=F.ex;refine Aj lk hcd S len fun A outer s H vs Q E hr hsp=>?_;obtain⟨t,h,q⟩:=hbody cdv A outer s H vs Q E hr hsp;exact⟨t,h.nox,q⟩
theorem Fun.binds{x qual:Str}{st:Stmt}{f:Addr}{fd:FuncData}{ps:List Str}(F:Fun K x qual st f fd)
  (h:∀(kV doc pm:Value) (an:Option Addr) (cdv ct:Value) (us:List Value),us.length=ps.length->bindArgs (PySem.W.fnOf x qual (i9 st) (dS st) (ak st) .none kV doc pm an cdv ct) ⟨us,[]⟩=pure (ps.zip us)):Binds K fd ps []:=by
 obtain⟨oc,od,kV,doc,pm,an,cdv,ct,osl,rfl,lk,hcd⟩:=F.ex;exact .all (h kV doc pm an cdv ct)
theorem AN{x qual:Str}{st:Stmt}{f:Addr}{oc:Value}{od an:Option Addr}{osl:Array (Option Value)}{kV doc pm cdv ct:Value}(l:K.lookup f=some ⟨oc,od,.func (PySem.W.fnOf x qual (i9 st) (dS st) (ak st) .none kV doc pm an cdv ct),osl⟩)
  (c:PySem.W.codeIn K cdv qual=true) (k:PySem.W.keepIn K (.ref f)=true):Fun K x qual st f (PySem.W.fnOf x qual (i9 st) (dS st) (ak st) .none kV doc pm an cdv ct):=⟨⟨oc,od,kV,doc,pm,an,cdv,ct,osl,rfl,l,c⟩,k⟩
end
theorem aZ{n:Nat}(h:n≤1000):n<sizeLine:=Nat.lt_of_le_of_lt h (by decide)
section
variable {X:Cx}
theorem pv(i:Nat){x:Str}{pos:Pos}(hN:X.N[i]?=some x:=by rfl)(hv:Vis X.env.scope x:=by first | exact Or.inl rfl | exact Or.inr (Or.inl rfl) | exact Or.inr (Or.inr rfl))(hd:(x==("__debug__":Str))=false:=by decide)
  (hcd:(x==("__classdict__":Str))=false:=by decide):PE X (.Name x pos) (Ec i):=vd hN hv hd hcd
end
theorem ka{A B:Prop}(h:B):if false=true then A else B:=by
 rw[CI JA];exact h
theorem j6{A B:Prop}(h:A):if true=true then A else B:=by
 rw[Ij rfl];exact h
def Ib(H H':Hp):Prop:=∀b o,H b=some o->H' b=some o
end
end L2
set_option maxHeartbeats 4000000
namespace U
open L2
section
inductive PV where
 | non | bl (b:Bool) | int (i:Int) | str (x:Str) | ref (a:Addr) | tup (l:List PV) | fls (l:List PV) | oth (v:V)
def FzL(K:PySem.W.Frag)(H:Hp)(a:Addr)(xs:List V):Prop :=
 (∃o,H a=some (.frz o (.lst xs))) ∨
  ∃(o:Obj) (its:Array Value) (n:Nat),K.lookup a=some o/\o.cls=.type "list"/\o.dict=none/\o.data=.seq its n/\its.size≤sizeLine/\Vals xs its.toList
theorem FzL.sq{K:PySem.W.Frag}{H:Hp}{a:Addr}{xs:List V}(h:FzL K H a xs):SqL K H a xs:=by
 rcases h with h | h
 ·exact .inl (.inr h)
 ·exact .inr h
structure Kp (H H1:Hp):Prop where
 t:∀a us,H a=some (.tup us)->H1 a=some (.tup us)
 z:∀a o u,H a=some (.frz o u)->H1 a=some (.frz o u)
theorem Kp.sqT{K:PySem.W.Frag}{H H1:Hp}(k:Kp H H1){a:Addr}{us:List V}(h:SqT K H a us):SqT K H1 a us:=by
 rcases h with(h |⟨o,h⟩) | h
 ·exact .inl (.inl (k.t _ _ h))
 ·exact .inl (.inr ⟨o,k.z _ _ _ h⟩)
 ·exact .inr h
theorem Kp.fzL{K:PySem.W.Frag}{H H1:Hp}(k:Kp H H1){a:Addr}{us:List V}(h:FzL K H a us):FzL K H1 a us:=by
 rcases h with⟨o,h⟩ | h
 ·exact .inl ⟨o,k.z _ _ _ h⟩
 ·exact .inr h
section
variable (K:PySem.W.Frag)
mutual
def RP(H:Hp):PV->V->Prop
 | .non,v=>v=.non
 | .bl b,v=>v=.bl b
 | .int i,v=>v=.int i
 | .str x,v=>v=.str x
 | .ref a,v=>v=.ref a
 | .oth w,v=>v=w
 | .tup l,v=>∃a us,v=.ref a/\SqT K H a us/\RPs H l us
 | .fls l,v=>∃a us,v=.ref a/\FzL K H a us/\RPs H l us
def RPs(H:Hp):List PV->List V->Prop
 | [],us=>us=[]
 | x::l,us=>∃u r,us=u::r/\RP H x u/\RPs H l r
end
mutual
theorem RP.kp{H H1:Hp}(k:Kp H H1):∀{x:PV} {v:V},RP K H x v->RP K H1 x v
 | .non,_,h=>h
 | .bl _,_,h=>h
 | .int _,_,h=>h
 | .str _,_,h=>h
 | .ref _,_,h=>h
 | .oth _,_,h=>h
 | .tup l,v,h=>by
  simp only[RP]at h ⊢;obtain⟨a,us,e,q,r⟩:=h;exact⟨a,us,e,k.sqT q,RPs.kp k r⟩
 | .fls l,v,h=>by
  simp only[RP]at h ⊢;obtain⟨a,us,e,q,r⟩:=h;exact⟨a,us,e,k.fzL q,RPs.kp k r⟩
theorem RPs.kp{H H1:Hp}(k:Kp H H1):∀{l:List PV} {us:List V},RPs K H l us->RPs K H1 l us
 | [],_,h=>h
 | x::l,us,h=>by
  simp only[RPs]at h ⊢;obtain⟨u,r,e,a,b⟩:=h;exact⟨u,r,e,RP.kp k a,RPs.kp k b⟩
end
theorem RPs.nil{H:Hp}:RPs K H [] []:=by simp[RPs]
theorem RPs.cons{H:Hp}{x:PV}{l:List PV}{u:V}{us:List V}(a:RP K H x u)(b:RPs K H l us):RPs K H (x::l) (u::us):=by
 simp only[RPs];exact⟨u,us,rfl,a,b⟩
theorem RPs.length{H:Hp}:∀{l:List PV} {us:List V},RPs K H l us->us.length=l.length
 | [],us,h=>by simp only[RPs]at h;subst h;rfl
 | x::l,us,h=>by
  simp only[RPs]at h;obtain⟨u,r,rfl,_,b⟩:=h;simp[RPs.length b]
theorem RPs.get{H:Hp}:∀{l:List PV} {us:List V} {i:Nat} {x:PV},RPs K H l us->l[i]?=some x->∃u,us[i]?=some u/\RP K H x u
 | [],_,_,_,_,e=>by simp at e
 | y::l,us,i,x,h,e=>by
  simp only[RPs]at h;obtain⟨u,r,rfl,a,b⟩:=h;cases i with
  | zero=>simp at e;subst e;exact⟨u,by simp,a⟩
  | succ i=>obtain⟨w,e1,e2⟩:=RPs.get (i:=i) (x:=x) b (by simpa using e);exact⟨w,by simpa using e1,e2⟩
theorem RPs.append{H:Hp}:∀{l m:List PV} {us ws:List V},RPs K H l us->RPs K H m ws->RPs K H (l++m) (us++ws)
 | [],m,us,ws,h,g=>by simp only[RPs]at h;subst h;simpa using g
 | x::l,m,us,ws,h,g=>by
  simp only[RPs]at h;obtain⟨u,r,rfl,a,b⟩:=h;exact RPs.cons K a (RPs.append b g)
theorem RPs.take{H:Hp}:∀{l:List PV} {us:List V} (n:Nat),RPs K H l us->RPs K H (l.take n) (us.take n)
 | [],us,n,h=>by simp only[RPs]at h;subst h;simp[RPs]
 | x::l,us,0,h=>by simp[RPs]
 | x::l,us,n+1,h=>by
  simp only[RPs]at h;obtain⟨u,r,rfl,a,b⟩:=h;exact RPs.cons K a (RPs.take n b)
theorem RPs.drop{H:Hp}:∀{l:List PV} {us:List V} (n:Nat),RPs K H l us->RPs K H (l.drop n) (us.drop n)
 | [],us,n,h=>by simp only[RPs]at h;subst h;simp[RPs]
 | x::l,us,0,h=>h
 | x::l,us,n+1,h=>by
  simp only[RPs]at h;obtain⟨u,r,rfl,a,b⟩:=h;exact RPs.drop n b
theorem RPs.dropLast{H:Hp}{l:List PV}{us:List V}(h:RPs K H l us):RPs K H l.dropLast us.dropLast:=by
 rw[List.dropLast_eq_take,List.dropLast_eq_take,RPs.length K h];exact RPs.take K _ h
theorem RPs.ints{H:Hp}:∀(ns:List Int),RPs K H (ns.map PV.int) (ns.map V.int)
 | []=>by simp[RPs]
 | n::ns=>RPs.cons K (by simp[RP]) (RPs.ints ns)
end
def l8(a C:Addr)(h:Heap):Prop:=∃o,h.get? a=some o/\o.cls=.ref C
inductive PO where
 | exc (C:Addr)
 | lst (l:List PV)
 | ins (C dx:Addr) (fs:List (Str×PV))
 | dK (kvs:List (Key×PV))
 | dT (kvs:List (List Key×PV))
abbrev PHp:=Addr->Option PO
def put(H:PHp)(a:Addr)(o:PO):PHp:=fun b=>if b=a then some o else H b
theorem aj{H:PHp}{a:Addr}{o:PO}:put H a o a=some o:=by unfold put;rw[Ij rfl]
theorem aq{H:PHp}{a b:Addr}{o:PO}(h:b≠a):put H a o b=H b:=by unfold put;rw[CI h]
theorem aI{H:PHp}{a:Addr}{o u:PO}:put (put H a o) a u=put H a u:=by
 funext b;unfold put;split<;>rfl
theorem ax{H:PHp}{a b:Addr}{o:PO}(h:H a=some o)(h':H b=none):a≠b:=by
 intro e;subst e;rw[h]at h';cases h'
abbrev eX(K:PySem.W.Frag)(H:Hp){κ:Type}:List (κ×PV)->List (κ×V)->Prop:=Paired fun p q=>p.1=q.1/\RP K H p.2 q.2
def OAt(K:PySem.W.Frag)(H:Hp)(a:Addr):PO->Prop
 | .exc C=>H a=some (.ext (l8 a C))
 | .lst l=>∃us,H a=some (.lst us)/\RPs K H l us
 | .ins C dx fs=>∃gs,H a=some (.ins C dx gs)/\eX K H fs gs
 | .dK kvs=>∃ws,H a=some (.dK ws)/\eX K H kvs ws
 | .dT kvs=>∃ws,H a=some (.dT ws)/\eX K H kvs ws
abbrev HR(K:PySem.W.Frag)(H':PHp)(H:Hp):Prop:=∀a o,H' a=some o->OAt K H a o
abbrev St':=List (Option PV)
abbrev Bs:=PHp×Hp
def Ev(H':PHp)(H:Hp)(H1':PHp)(H1:Hp):Prop:=∀a o,H a=some o->H' a=none->H1 a=some o/\H1' a=none
structure SR (K:PySem.W.Frag) (B:Bs) (σ':St') (H':PHp) (σ:L2.St) (H:Hp):Prop where
 len:σ'.length=σ.length
 loc:∀(i:Nat) (v':PV),σ'[i]?=some (some v')->∃v,σ[i]?=some (some v)/\RP K H v' v
 hp:HR K H' H
 ev:Ev B.1 B.2 H' H
theorem Ev.refl(H':PHp)(H:Hp):Ev H' H H' H:=fun _ _ h h'=>⟨h,h'⟩
theorem Ev.trans{H':PHp}{H:Hp}{H1':PHp}{H1:Hp}{H2':PHp}{H2:Hp}(a:Ev H' H H1' H1)(b:Ev H1' H1 H2' H2):Ev H' H H2' H2:=fun c o h h'=>by
 obtain⟨p,q⟩:=a c o h h';exact b c o p q
section
variable {K:PySem.W.Frag}
theorem eX.kp{κ:Type}{H H1:Hp}(k:Kp H H1){fs:List (κ×PV)}{gs:List (κ×V)}(h:eX K H fs gs):eX K H1 fs gs:=Paired.mapP h fun _ _ ⟨a,b⟩=>⟨a,RP.kp K k b⟩
theorem OAt.some{H:Hp}{a:Addr}:∀{o:PO},OAt K H a o->∃u,H a=Option.some u/\(∀us,u≠.tup us)/\(∀o us,u≠.frz o us)/\(∀x,u≠.own x)
 | .exc C,e=>⟨_,e,(fun _=>by nofun),(fun _ _=>by nofun),(fun _=>by nofun)⟩
 | .lst l,⟨us,e,_⟩=>⟨_,e,(fun _=>by nofun),(fun _ _=>by nofun),(fun _=>by nofun)⟩
 | .ins C dx fs,⟨us,e,_⟩=>⟨_,e,(fun _=>by nofun),(fun _ _=>by nofun),(fun _=>by nofun)⟩
 | .dK l,⟨us,e,_⟩=>⟨_,e,(fun _=>by nofun),(fun _ _=>by nofun),(fun _=>by nofun)⟩
 | .dT l,⟨us,e,_⟩=>⟨_,e,(fun _=>by nofun),(fun _ _=>by nofun),(fun _=>by nofun)⟩
theorem OAt.keep{H H1:Hp}{a:Addr}(k:Kp H H1)(e:H1 a=H a):∀{o:PO},OAt K H a o->OAt K H1 a o
 | .exc C,h=>e.trans h
 | .lst l,⟨us,h,r⟩=>⟨us,e.trans h,RPs.kp K k r⟩
 | .ins C dx fs,⟨us,h,r⟩=>⟨us,e.trans h,eX.kp k r⟩
 | .dK l,⟨us,h,r⟩=>⟨us,e.trans h,eX.kp k r⟩
 | .dT l,⟨us,h,r⟩=>⟨us,e.trans h,eX.kp k r⟩
theorem HR.tup{H':PHp}{H:Hp}(h:HR K H' H){a:Addr}{us:List V}(e:H a=some (.tup us)):H' a=none:=by
 cases q:H' a with
 | none=>rfl
 | some o=>obtain⟨u,e1,n,_⟩:=(h a o q).some;rw[e]at e1;exact absurd (IH e1).symm (n us)
theorem HR.frz{H':PHp}{H:Hp}(h:HR K H' H){a:Addr}{o:Obj}{u:HO}(e:H a=some (.frz o u)):H' a=none:=by
 cases q:H' a with
 | none=>rfl
 | some o'=>obtain⟨u',e1,_,n,_⟩:=(h a o' q).some;rw[e]at e1;exact absurd (IH e1).symm (n o u)
theorem HR.free{H':PHp}{H:Hp}(h:HR K H' H){a:Addr}(e:H a=none):H' a=none:=by
 cases q:H' a with
 | none=>rfl
 | some o=>obtain⟨u,e1,_⟩:=(h a o q).some;rw[e]at e1;cases e1
theorem Ev.kp{H':PHp}{H:Hp}{H1':PHp}{H1:Hp}(e:Ev H' H H1' H1)(h:HR K H' H):Kp H H1 :=
 ⟨fun a us q=>(e a _ q (h.tup q)).1,fun a o u q=>(e a _ q (h.frz q)).1⟩
theorem gv{H:Hp}{p:Addr}{o:HO}(e:H p=none):Kp H (upd H p o) :=
 ⟨fun a us q=>by rw[aP (aY q e)];exact q,fun a o u q=>by rw[aP (aY q e)];exact q⟩
theorem nD{H:Hp}{p:Addr}{o u:HO}(e:H p=some u)(n1:∀us,u≠.tup us)(n2:∀o us,u≠.frz o us):Kp H (upd H p o) :=
 ⟨fun a us q=>by rw[aP (u9 q e fun z=>n1 us z.symm)];exact q,fun a o' u' q=>by rw[aP (u9 q e fun z=>n2 o' u' z.symm)];exact q⟩
theorem SR.kp{B:Bs}{σ':St'}{H' H1':PHp}{σ:L2.St}{H H1:Hp}(s:SR K B σ' H' σ H)(e:Ev H' H H1' H1)(h:HR K H1' H1):SR K B σ' H1' σ H1 :=
 ⟨s.len,fun i v' q=>by obtain⟨v,a,b⟩:=s.loc i v' q;exact⟨v,a,RP.kp K (e.kp s.hp) b⟩,h,s.ev.trans e⟩
theorem HR.hid{H':PHp}{H:Hp}{p:Addr}{o:HO}(h:HR K H' H)(e:H p=none):HR K H' (upd H p o):=fun a u q=>by
 have na:a≠p:=by rintro rfl;rw[h.free e]at q;cases q
 exact(h a u q).keep (gv e) (aP na)
theorem Ev.hid{H':PHp}{H:Hp}{p:Addr}{o:HO}(e:H p=none):Ev H' H H' (upd H p o):=fun a u q n=>⟨by rw[aP (aY q e)];exact q,n⟩
theorem HR.new{H':PHp}{H:Hp}{p:Addr}{o:HO}{o':PO}(h:HR K H' H)(e:H p=none)(new:OAt K (upd H p o) p o'):HR K (put H' p o') (upd H p o):=fun a u q=>by
 by_cases hp:a=p
 ·subst hp;rw[aj]at q;cases q;exact new
 ·rw[aq hp]at q;exact(h a u q).keep (gv e) (aP hp)
theorem Ev.new{H':PHp}{H:Hp}{p:Addr}{o:HO}{o':PO}(e:H p=none):Ev H' H (put H' p o') (upd H p o):=fun a u q n=>by
 have na:=aY q e;exact⟨by rw[aP na];exact q,by rw[aq na];exact n⟩
theorem HR.wr{H':PHp}{H:Hp}{p:Addr}{o:HO}{o' u':PO}(h:HR K H' H)(e:H' p=some u')(new:OAt K (upd H p o) p o'):HR K (put H' p o') (upd H p o):=fun a u q=>by
 obtain⟨v,e1,n1,n2,_⟩:=(h p u' e).some;by_cases hp:a=p
 ·subst hp;rw[aj]at q;cases q;exact new
 ·rw[aq hp]at q;exact(h a u q).keep (nD e1 n1 n2) (aP hp)
theorem HR.kpw{H':PHp}{H:Hp}{p:Addr}{o:HO}{u':PO}(h:HR K H' H)(e:H' p=some u'):Kp H (upd H p o):=by
 obtain⟨v,e1,n1,n2,_⟩:=(h p u' e).some;exact nD e1 n1 n2
theorem Ev.wr{H':PHp}{H:Hp}{p:Addr}{o:HO}{o' u':PO}(e:H' p=some u'):Ev H' H (put H' p o') (upd H p o):=fun a u q n=>by
 have na:a≠p:=by rintro rfl;rw[e]at n;cases n
 exact⟨by rw[aP na];exact q,by rw[aq na];exact n⟩
def Sub(A B:PHp):Prop:=∀a o,A a=some o->B a=some o
theorem Sub.refl(A:PHp):Sub A A:=fun _ _ h=>h
theorem Sub.trans{A B C:PHp}(a:Sub A B)(b:Sub B C):Sub A C:=fun c o h=>b c o (a c o h)
theorem Sub.put{A B:PHp}{p:Addr}{o:PO}(a:Sub A B)(n:A p=none):Sub A (put B p o):=fun c u h=>by rw[aq (ax h n)];exact a c u h
theorem Sub.free{A B:PHp}(a:Sub A B){p:Addr}(n:B p=none):A p=none:=by
 cases q:A p with
 | none=>rfl
 | some o=>rw[a p o q]at n;cases n
theorem HR.sub{A B:PHp}{H:Hp}(h:HR K B H)(s:Sub A B):HR K A H:=fun a o e=>h a o (s a o e)
theorem Ev.sub{H':PHp}{H:Hp}{A B:PHp}{H1:Hp}(e:Ev H' H B H1)(s:Sub A B):Ev H' H A H1:=fun a o q n=>by
 obtain⟨x,y⟩:=e a o q n;exact⟨x,s.free y⟩
end
end
section
variable {B:Bs}
abbrev VK':=PV->PHp->Prop
abbrev TE':=St'->PHp->VK'->Prop
abbrev TT':=St'->PHp->(Bool->PHp->Prop)->Prop
abbrev TA':=St'->PHp->(List PV->PHp->Prop)->Prop
abbrev XK':=Value->Option Addr->PHp->Prop
structure di where
 nx:St'->PHp->Prop
 rt:VK'
 bk:St'->PHp->Prop:=fun _ _=>False
 ct:St'->PHp->Prop:=fun _ _=>False
abbrev TS':=di->St'->PHp->Prop
abbrev TG':=PV->St'->PHp->(St'->PHp->Prop)->Prop
abbrev ie:=List PV->St'->PHp->(St'->PHp->Prop)->Prop
structure It' where
 items:List PV
 ok:PHp->Prop
abbrev TI':=St'->PHp->(It'->PHp->Prop)->Prop
section
variable (K:PySem.W.Frag)(B:Bs)
def low(t:TE'):TE:=fun σ H Q=>∃σ' H' Q',SR K B σ' H' σ H/\t σ' H' Q'/\∀v' H1' v H1,Q' v' H1'->RP K H1 v' v->SR K B σ' H1' σ H1->Ev H' H H1' H1->Q v H1
def j2(t:TT'):TT:=fun σ H Q=>∃σ' H' Q',SR K B σ' H' σ H/\t σ' H' Q'/\∀b H1' H1,Q' b H1'->SR K B σ' H1' σ H1->Ev H' H H1' H1->Q b H1
def uP(t:TA'):TA:=fun σ H Q=>∃σ' H' Q',SR K B σ' H' σ H/\t σ' H' Q'/\∀vs' H1' vs H1,Q' vs' H1'->RPs K H1 vs' vs->SR K B σ' H1' σ H1->Ev H' H H1' H1->Q vs H1
structure DR (D':di) (D:Ends) (H':PHp) (H:Hp):Prop where
 nx:∀σ1' H1' σ1 H1,D'.nx σ1' H1'->SR K B σ1' H1' σ1 H1->Ev H' H H1' H1->D.nx σ1 H1
 rt:∀v' H1' v H1,D'.rt v' H1'->RP K H1 v' v->HR K H1' H1->Ev H' H H1' H1->D.rt v H1
 bk:∀σ1' H1' σ1 H1,D'.bk σ1' H1'->SR K B σ1' H1' σ1 H1->Ev H' H H1' H1->D.bk σ1 H1
 ct:∀σ1' H1' σ1 H1,D'.ct σ1' H1'->SR K B σ1' H1' σ1 H1->Ev H' H H1' H1->D.ct σ1 H1
theorem DR.ev{D':di}{D:Ends}{H':PHp}{H:Hp}{H1':PHp}{H1:Hp}(d:DR K B D' D H' H)(e:Ev H' H H1' H1):DR K B D' D H1' H1 :=
 ⟨fun a b c f p q r=>d.nx a b c f p q (e.trans r),fun a b c f p q r s=>d.rt a b c f p q r (e.trans s),fun a b c f p q r=>d.bk a b c f p q (e.trans r),fun a b c f p q r=>d.ct a b c f p q (e.trans r)⟩
def CT(t:TS'):TS:=fun D σ H=>∃σ' H' D',SR K B σ' H' σ H/\t D' σ' H'/\DR K B D' D H' H
def lowG(t:TG'):TG:=fun v σ H Q=>∃v' σ' H' Q',RP K H v' v/\SR K B σ' H' σ H/\t v' σ' H' Q'/\∀σ1' H1' σ1 H1,Q' σ1' H1'->SR K B σ1' H1' σ1 H1->Ev H' H H1' H1->Q σ1 H1
def En(t:ie):TGs:=fun vs σ H Q=>∃vs' σ' H' Q',RPs K H vs' vs/\SR K B σ' H' σ H/\t vs' σ' H' Q'/\∀σ1' H1' σ1 H1,Q' σ1' H1'->SR K B σ1' H1' σ1 H1->Ev H' H H1' H1->Q σ1 H1
structure Walks (H1:Hp) (J:It) (J':It'):Prop where
 go:∀H' H i,Kp H1 H->HR K H' H->J'.ok H'->i<J'.items.length->J.go i H
 yld:∀H' H i x H2,Kp H1 H->HR K H' H->J'.ok H'->J.yld i H x H2->H2=H/\∀x',J'.items[i]?=some x'->RP K H x' x
 stop:∀H' H i,Kp H1 H->HR K H' H->J'.ok H'->J'.items.length≤i->J.stop i H
def DS(t:TI'):TI:=fun σ H R=>∃σ' H' R',SR K B σ' H' σ H/\t σ' H' R'/\∀J' H1' J H1,R' J' H1'->Walks K H1 J J'->SR K B σ' H1' σ H1->Ev H' H H1' H1->R J H1
end
section
variable {X:Cx}
theorem a6{e:Expr}{t1 t2:TE}(h:PE X e t2)(i:∀σ H Q,t1 σ H Q->t2 σ H Q):PE X e t1:=fun pins s σ H Q I q=>h pins s σ H Q I (i σ H Q q)
theorem kX{e:Expr}{t1 t2:TT}(h:PT X e t2)(i:∀σ H Q,t1 σ H Q->t2 σ H Q):PT X e t1:=fun pins s σ H Q I q=>h pins s σ H Q I (i σ H Q q)
theorem ub{e:Expr}{t1 t2:TT}(h:PW X e t2)(i:∀σ H Q,t1 σ H Q->t2 σ H Q):PW X e t1:=fun w pins s σ H Q I q=>h w pins s σ H Q I (i σ H Q q)
theorem tJ{e:List Expr}{t1 t2:TA}(h:PA X e t2)(i:∀σ H Q,t1 σ H Q->t2 σ H Q):PA X e t1:=fun p pins s σ H Q I q=>h p pins s σ H Q I (i σ H Q q)
theorem cO{e:Stmt}{t1 t2:TS}(h:PS X e t2)(i:∀D σ H,t1 D σ H->t2 D σ H):PS X e t1:=fun pins s σ H D I q=>h pins s σ H D I (i D σ H q)
theorem pR{e:List Stmt}{t1 t2:TS}(h:PSs X e t2)(i:∀D σ H,t1 D σ H->t2 D σ H):PSs X e t1:=fun pins s σ H D I q=>h pins s σ H D I (i D σ H q)
theorem pG{e:Expr}{t1 t2:TG}(h:PG X e t2)(i:∀v σ H Q,t1 v σ H Q->t2 v σ H Q):PG X e t1:=fun pins s σ H v u Q I r q=>h pins s σ H v u Q I r (i v σ H Q q)
theorem qz{e:List Expr}{t1 t2:TGs}(h:PGs X e t2)(i:∀v σ H Q,t1 v σ H Q->t2 v σ H Q):PGs X e t1:=fun pins s σ H v u Q I r q=>h pins s σ H v u Q I r (i v σ H Q q)
theorem k9{tg e:Expr}{t1 t2:TI}(h:PI X tg e t2)(i:∀σ H Q,t1 σ H Q->t2 σ H Q):PI X tg e t1:=fun pins s σ H Q I q=>h pins s σ H Q I (i σ H Q q)
abbrev PE'(X:Cx)(B:Bs)(e:Expr)(t:TE'):Prop:=PE X e (low X.K B t)
abbrev PT'(X:Cx)(B:Bs)(e:Expr)(t:TT'):Prop:=PT X e (j2 X.K B t)
abbrev PW'(X:Cx)(B:Bs)(e:Expr)(t:TT'):Prop:=PW X e (j2 X.K B t)
abbrev PA'(X:Cx)(B:Bs)(e:List Expr)(t:TA'):Prop:=PA X e (uP X.K B t)
abbrev PS'(X:Cx)(B:Bs)(e:Stmt)(t:TS'):Prop:=PS X e (CT X.K B t)
abbrev iO(X:Cx)(B:Bs)(e:List Stmt)(t:TS'):Prop:=PSs X e (CT X.K B t)
abbrev PG'(X:Cx)(B:Bs)(e:Expr)(t:TG'):Prop:=PG X e (lowG X.K B t)
abbrev we(X:Cx)(B:Bs)(e:List Expr)(t:ie):Prop:=PGs X e (En X.K B t)
abbrev PI'(X:Cx)(B:Bs)(tg e:Expr)(t:TI'):Prop:=PI X tg e (DS X.K B t)
def nq(o:Option (Option PV))(k:PV->Prop):Prop:=match o with
 | some (some v)=>k v
 | _=>False
theorem nq.ex{o:Option (Option PV)}{k:PV->Prop}(h:nq o k):∃v,o=some (some v)/\k v:=by
 unfold nq at h;split at h
 ·exact⟨_,rfl,h⟩
 ·exact h.elim
def cU(i:Nat):TE':=fun σ H Q=>nq σ[i]? fun v=>Q v H
def uC(v:PV):TE':=fun _ H Q=>Q v H
theorem qv(i:Nat){x:Str}{pos:Pos}(hN:X.N[i]?=some x:=by rfl)(hv:Vis X.env.scope x:=by first | exact Or.inl rfl | exact Or.inr (Or.inl rfl) | exact Or.inr (Or.inr rfl))(hd:(x==("__debug__":Str))=false:=by decide)
  (hcd:(x==("__classdict__":Str))=false:=by decide):PE' X B (.Name x pos) (cU i):=a6 (pv i hN hv hd hcd) fun σ H Q y_=>by
 obtain⟨σ',H',Q',s,h,k⟩:=y_;obtain⟨v',e,q⟩:=h.ex;obtain⟨v,a,b⟩:=s.loc i v' e;exact⟨v,a,k v' H' v H q b s (Ev.refl _ _)⟩
theorem wD{K:PySem.W.Frag}{v':PV}{v:V}(r:∀H,RP K H v' v){σ:L2.St}{H:Hp}{Q:VK}(h:low K B (uC v') σ H Q):tC v σ H Q:=by
 obtain⟨σ',H',Q',s,h,k⟩:=h;exact k v' H' v H h (r H) s (Ev.refl _ _)
theorem ah{i j pos}:PE' X B (.Constant (.int i) j pos) (uC (.int i)):=a6 AG fun _ _ _ h=>wD (fun _=>by simp[RP]) h
theorem df{i j pos}:PE' X B (.Constant (.bool i) j pos) (uC (.bl i)):=a6 wU fun _ _ _ h=>wD (fun _=>by simp[RP]) h
theorem aL{i j pos}:PE' X B (.Constant (.str i) j pos) (uC (.str i)):=a6 uW fun _ _ _ h=>wD (fun _=>by simp[RP]) h
theorem oy{j pos}:PE' X B (.Constant .none j pos) (uC .non):=a6 A8 fun _ _ _ h=>wD (fun _=>by simp[RP]) h
theorem xo{x:Str}{v':PV}{v:V}{u:Value}{pos:Pos}(hg:Gl X x)(hm:X.mg x=some u)(r:RelV v u)(r':∀H,RP X.K H v' v)(hd:(x==("__debug__":Str))=false:=by decide):PE' X B (.Name x pos) (uC v') :=
 a6 (qA hg hm r hd) fun _ _ _ h=>wD r' h
abbrev R2':=PV->PV->PHp->VK'->Prop
def VR(K:PySem.W.Frag)(B:Bs)(r':R2')(r:R2):Prop:=∀(σ':St') (σ:L2.St) (H':PHp) (H:Hp) x' y' x y (Q':VK') (Q:VK),SR K B σ' H' σ H->RP K H x' x->RP K H y' y->r' x' y' H' Q' ->
 (∀v' H1' v H1,Q' v' H1'->RP K H1 v' v->SR K B σ' H1' σ H1->Ev H' H H1' H1->Q v H1)->r x y H Q
def uOp(r:R2')(ta tb:TE'):TE':=fun σ H Q=>ta σ H fun x H1=>tb σ H1 fun y H2=>r x y H2 Q
theorem lK{K:PySem.W.Frag}{r':R2'}{r:R2}{ta tb:TE'}(v:VR K B r' r){σ:L2.St}{H:Hp}{Q:VK}(h:low K B (uOp r' ta tb) σ H Q):tOp r (low K B ta) (low K B tb) σ H Q:=by
 obtain⟨σ',H',Q',s,h,k⟩:=h;refine⟨σ',H',_,s,h,fun x' H1' x H1 h1 rx s1 e1=>⟨σ',H1',_,s1,h1,fun y' H2' y H2 h2 ry s2 e2=>?_⟩⟩;exact v σ' σ H2' H2 x' y' x y Q' Q s2 (RP.kp K (e2.kp s1.hp) rx) ry h2 fun v' H3' v H3 q rv s3 e3=>k v' H3' v H3 q rv s3 (e1.trans (e2.trans e3))
variable {a b c:Expr}{ta tb tc:TE'}{pos:Pos}
theorem fM{op:Operator}{r':R2'}{r:R2}(ho:OpR X (binaryOp op) r)(v:VR X.K B r' r)(ha:PE' X B a ta)(hb:PE' X B b tb):PE' X B (.BinOp a op b pos) (uOp r' ta tb):=a6 (D7 ho ha hb) fun _ _ _ h=>lK v h
theorem cg{op:CmpOp}{r':R2'}{r:R2}(ho:OpR X (compareOp op) r)(v:VR X.K B r' r)(ha:PE' X B a ta)(hb:PE' X B b tb)(hm:behindInMarks op b=false):PE' X B (.Compare a [op] [b] pos) (uOp r' ta tb) :=
 a6 (xY ho ha hb hm) fun _ _ _ h=>lK v h
def cif(b:Bool)(A B:Prop):Prop:=match b with
 | true=>A
 | false=>B
theorem EO{A B:Prop}:cif true A B=A:=rfl
theorem DO{A B:Prop}:cif false A B=B:=rfl
theorem a8{b:Bool}{A B:Prop}(h1:b=true->A)(h2:b=false->B):cif b A B:=by
 cases b
 ·exact h2 rfl
 ·exact h1 rfl
theorem aE{b:Bool}{A B:Prop}(h:b=true)(h1:A):cif b A B:=by subst h;exact h1
theorem aC{b:Bool}{A B:Prop}(h:b=false)(h1:B):cif b A B:=by subst h;exact h1
theorem bK{c:Prop}[Decidable c]{A B:Prop}(h1:c->A)(h2:¬c->B):cif (decide c) A B:=by
 by_cases h:c
 ·exact aE (IL h) (h1 h)
 ·exact aC (Jn h) (h2 h)
def eQ(x:PV)(k:Bool->Prop):Prop:=match x with
 | .bl b=>k b
 | _=>False
theorem eQ.ex{x:PV}{k:Bool->Prop}(h:eQ x k):∃v,x=.bl v/\k v:=by
 unfold eQ at h;split at h
 ·exact⟨_,rfl,h⟩
 ·exact h.elim
def cF(x:PV)(k:Int->Prop):Prop:=match x with
 | .int i=>k i
 | _=>False
theorem cF.ex{x:PV}{k:Int->Prop}(h:cF x k):∃v,x=.int v/\k v:=by
 unfold cF at h;split at h
 ·exact⟨_,rfl,h⟩
 ·exact h.elim
def m6(t:TE'):TT':=fun σ H Q=>t σ H fun x H1=>eQ x fun b=>Q b H1
theorem jI{K:PySem.W.Frag}{t:TE'}{σ:L2.St}{H:Hp}{Q:Bool->Hp->Prop}(h:j2 K B (m6 t) σ H Q):Ag (low K B t) σ H Q:=by
 obtain⟨σ',H',Q',s,h,k⟩:=h;refine⟨σ',H',_,s,h,fun x' H1' x H1 h1 rx s1 e1=>?_⟩;obtain⟨b,rfl,q⟩:=h1.ex;simp only[RP]at rx;exact⟨b,rx,k b H1' H1 q s1 e1⟩
theorem cM{e:Expr}{t:TE'}(h:PE' X B e t)(he:∀whole,isTrue e X.env whole=(do let v←whole;standAt e.pos;holding [v] (truthy v)):=by intro _;rfl):PT' X B e (m6 t):=kX (C3 h he) fun _ _ _ h=>jI h
theorem av{op:CmpOp}{r':R2'}{r:R2}(ho:OpR X (compareOp op) r)(v:VR X.K B r' r)(ha:PE' X B a ta)(hb:PE' X B b tb)(hm:behindInMarks op b=false):PT' X B (.Compare a [op] [b] pos) (m6 (uOp r' ta tb)) :=
 kX (zg ho ha hb hm) fun _ _ _ h=>by
  obtain⟨σ',H',Q',s,h,k⟩:=jI h;exact lK v ⟨σ',H',Q',s,h,k⟩
def CV(r r':R2')(ta tb tc:TE'):TE':=fun σ H Q=>ta σ H fun x H1=>tb σ H1 fun y H2=>r x y H2 fun z H3=>eQ z fun k=>cif k (tc σ H3 fun w' H4=>r' y w' H4 Q) (Q (.bl false) H3)
def uI(C:Int->Int->Prop)(g:Int->Int->PV):R2':=fun x y H Q=>cF x fun i=>cF y fun j=>C i j/\Q (g i j) H
def uI0(g:Int->Int->PV):R2':=fun x y H Q=>cF x fun i=>cF y fun j=>Q (g i j) H
theorem sO{K:PySem.W.Frag}{C:Int->Int->Prop}{g':Int->Int->PV}{g:Int->Int->V}(r:∀i j H,RP K H (g' i j) (g i j)):VR K B (uI C g') (rI C g):=by
 intro σ' σ H' H x' y' x y Q' Q s rx ry h k;obtain⟨i,rfl,h1⟩:=cF.ex h;obtain⟨j,rfl,hc,h⟩:=cF.ex h1;simp only[RP]at rx ry;exact⟨i,j,rx,ry,hc,k _ H' _ H h (r i j H) s (Ev.refl _ _)⟩
theorem kD{K:PySem.W.Frag}{g':Int->Int->PV}{g:Int->Int->V}(r:∀i j H,RP K H (g' i j) (g i j)):VR K B (uI0 g') (rI0 g):=by
 intro σ' σ H' H x' y' x y Q' Q s rx ry h k;obtain⟨i,rfl,h1⟩:=cF.ex h;obtain⟨j,rfl,h⟩:=cF.ex h1;simp only[RP]at rx ry;exact⟨i,j,rx,ry,k _ H' _ H h (r i j H) s (Ev.refl _ _)⟩
abbrev HS:R2':=uI0 fun i j=>.int (i+j)
abbrev Hn:R2':=uI0 fun i j=>.int (i - j)
abbrev uLt:R2':=uI0 fun i j=>.bl (decide (i<j))
abbrev uLe:R2':=uI0 fun i j=>.bl (decide (i≤j))
abbrev uGt:R2':=uI0 fun i j=>.bl (decide (j<i))
abbrev uGe:R2':=uI0 fun i j=>.bl (decide (j≤i))
def Fit(i:Int):Prop:=i.natAbs.log2<9000
def qo(i j:Int):Prop:=BW i j∨(Fit i/\Fit j)
def wQ(i j:Int):Prop:=j≠0/\Fit j
theorem qo.ok{i j:Int}(h:qo i j):IntMulOk i j:=by
 rcases h with h |⟨h1,h2⟩
 ·exact h.ok
 ·unfold IntMulOk;have e:∀x:Int,Fit x->Builtin.Int.intBits x≤9000:=fun x hx=>by
   unfold Builtin.Int.intBits Fit at *;split<;>omega
  have e1:=e i h1;have e2:=e j h2;have e3:Builtin.Int.intTooBig (Builtin.Int.intBits i+Builtin.Int.intBits j)=false:=by
   unfold Builtin.Int.intTooBig;refine Jn ?_;show ¬(bitsLine:Int)<_;have hb:(18000:Nat)≤bitsLine:=by decide +kernel
   omega
  rw[e3];simp
abbrev G5:R2':=uI qo fun i j=>.int (i*j)
abbrev D3:R2':=uI wQ fun i j=>.int (i.fdiv j)
theorem zJ{X:Cx}:OpR X (binaryOp .Mult) (rI qo fun i j=>.int (i*j)):=opI fun _ _ _ _ _ _ _ hc q=>mul_int q hc.ok
theorem uJ{X:Cx}:OpR X (binaryOp .FloorDiv) (rI wQ fun i j=>.int (i.fdiv j)):=opI fun _ _ _ _ _ _ _ hc q=>floordiv_int hc.1 q (.inl (PyProof.noPylong_of_log2 hc.2))
abbrev FQ:R2':=uI (fun _ j=>j≠0) fun i j=>.int (i.fmod j)
abbrev Hm:R2':=uI uB fun i j=>.int (i ^ j.toNat)
theorem bQ(ha:PE' X B a ta)(hb:PE' X B b tb):PE' X B (.BinOp a .Add b pos) (uOp HS ta tb):=fM AL (kD fun _ _ _=>by simp[RP]) ha hb
theorem eJ(ha:PE' X B a ta)(hb:PE' X B b tb):PE' X B (.BinOp a .Sub b pos) (uOp Hn ta tb):=fM B2 (kD fun _ _ _=>by simp[RP]) ha hb
theorem h7(ha:PE' X B a ta)(hb:PE' X B b tb):PE' X B (.BinOp a .Mult b pos) (uOp G5 ta tb):=fM zJ (sO fun _ _ _=>by simp[RP]) ha hb
theorem bN(ha:PE' X B a ta)(hb:PE' X B b tb):PE' X B (.BinOp a .FloorDiv b pos) (uOp D3 ta tb):=fM uJ (sO fun _ _ _=>by simp[RP]) ha hb
theorem bE(ha:PE' X B a ta)(hb:PE' X B b tb):PE' X B (.BinOp a .Mod b pos) (uOp FQ ta tb):=fM yU (sO fun _ _ _=>by simp[RP]) ha hb
theorem hJ(ha:PE' X B a ta)(hb:PE' X B b tb):PE' X B (.BinOp a .Pow b pos) (uOp Hm ta tb):=fM Cg (sO fun _ _ _=>by simp[RP]) ha hb
theorem eO{K:PySem.W.Frag}:VR K B uLt (rI0 fun i j=>.bl (decide (i<j))):=kD fun _ _ _=>by simp[RP]
theorem vS{K:PySem.W.Frag}:VR K B uLe (rI0 fun i j=>.bl (decide (i≤j))):=kD fun _ _ _=>by simp[RP]
theorem kf{K:PySem.W.Frag}:VR K B uGt (rI0 fun i j=>.bl (decide (j<i))):=kD fun _ _ _=>by simp[RP]
theorem nZ{K:PySem.W.Frag}:VR K B uGe (rI0 fun i j=>.bl (decide (j≤i))):=kD fun _ _ _=>by simp[RP]
end
end
section
variable {B:Bs}
section
variable {X:Cx}{a b c e o:Expr}{es rest:List Expr}{ta tb tc:TE'}{tA tB:TT'}{t:TA'}{pos:Pos}
def Dy(t u:TT'):TT':=fun σ H Q=>t σ H fun c H1=>cif c (u σ H1 Q) (Q false H1)
def uOr(t u:TT'):TT':=fun σ H Q=>t σ H fun c H1=>cif c (Q true H1) (u σ H1 Q)
def Ek(t:TT'):TT':=fun σ H Q=>t σ H fun c H1=>Q (!c) H1
theorem cc(ha:PT' X B a tA):PW' X B (.BoolOp .And [a] pos) tA:=zw ha
theorem dU(ha:PT' X B a tA):PW' X B (.BoolOp .Or [a] pos) tA:=A2 ha
theorem cj(ha:PT' X B a tA)(hb:PW' X B (.BoolOp .And (b::rest) pos) tB):PW' X B (.BoolOp .And (a::b::rest) pos) (Dy tA tB):=ub (Cf ha hb) fun σ H Q y_=>by
 obtain⟨σ',H',Q',s,h,k⟩:=y_;refine⟨σ',H',_,s,h,fun x H1' H1 h1 s1 e1=>?_⟩;cases x with
 | true=>exact j6 ⟨σ',H1',_,s1,h1,fun y H2' H2 h2 s2 e2=>k y H2' H2 h2 s2 (e1.trans e2)⟩
 | false=>exact ka (k false H1' H1 h1 s1 e1)
theorem dH(ha:PT' X B a tA)(hb:PW' X B (.BoolOp .Or (b::rest) pos) tB):PW' X B (.BoolOp .Or (a::b::rest) pos) (uOr tA tB):=ub (EF ha hb) fun σ H Q y_=>by
 obtain⟨σ',H',Q',s,h,k⟩:=y_;refine⟨σ',H',_,s,h,fun x H1' H1 h1 s1 e1=>?_⟩;cases x with
 | false=>exact ka ⟨σ',H1',_,s1,h1,fun y H2' H2 h2 s2 e2=>k y H2' H2 h2 s2 (e1.trans e2)⟩
 | true=>exact j6 (k true H1' H1 h1 s1 e1)
theorem bu(h:PW' X B e tA):PT' X B e tA:=PW.pt h
theorem dg(ha:PT' X B a tA):PT' X B (.UnaryOp .Not a pos) (Ek tA):=kX (AW ha) fun σ H Q ⟨σ',H',Q',s,h,k⟩=>⟨σ',H',_,s,h,fun x H1' H1 h1 s1 e1=>k _ H1' H1 h1 s1 e1⟩
def Ab(ta tb:TE'):TE':=fun σ H Q=>ta σ H fun x H1=>eQ x fun c=>cif c (tb σ H1 Q) (Q (.bl false) H1)
def FJ(ta tb:TE'):TE':=fun σ H Q=>ta σ H fun x H1=>eQ x fun c=>cif c (Q (.bl true) H1) (tb σ H1 Q)
def EY(ta:TE'):TE':=fun σ H Q=>ta σ H fun x H1=>eQ x fun c=>Q (.bl (!c)) H1
theorem ij{op}(h:PE' X B a ta):PE' X B (.BoolOp op [a] pos) ta:=CM h
theorem ip(ha:PE' X B a ta)(hb:PE' X B (.BoolOp .And (b::rest) pos) tb):PE' X B (.BoolOp .And (a::b::rest) pos) (Ab ta tb):=a6 (Bd ha hb) fun σ H Q y_=>by
 obtain⟨σ',H',Q',s,h,k⟩:=y_;refine⟨σ',H',_,s,h,fun x H1' v H1 h1 r1 s1 e1=>?_⟩;obtain⟨y,rfl,h1⟩:=h1.ex;simp only[RP]at r1;refine⟨y,r1,?_⟩;cases y with
 | true=>exact j6 ⟨σ',H1',_,s1,h1,fun y H2' v2 H2 h2 r2 s2 e2=>k y H2' v2 H2 h2 r2 s2 (e1.trans e2)⟩
 | false=>exact ka (k _ H1' _ H1 h1 (by simp[RP]) s1 e1)
def uIf(t:TT')(ta tb:TE'):TE':=fun σ H Q=>t σ H fun c H1=>cif c (ta σ H1 Q) (tb σ H1 Q)
theorem mC(hc:PT' X B c tA)(ha:PE' X B a ta)(hb:PE' X B b tb):PE' X B (.IfExp c a b pos) (uIf tA ta tb):=a6 (t8 hc ha hb) fun σ H Q y_=>by
 obtain⟨σ',H',Q',s,h,k⟩:=y_;refine⟨σ',H',_,s,h,fun x H1' H1 h1 s1 e1=>?_⟩;cases x with
 | true=>exact j6 ⟨σ',H1',_,s1,h1,fun y H2' v2 H2 h2 r2 s2 e2=>k y H2' v2 H2 h2 r2 s2 (e1.trans e2)⟩
 | false=>exact ka ⟨σ',H1',_,s1,h1,fun y H2' v2 H2 h2 r2 s2 e2=>k y H2' v2 H2 h2 r2 s2 (e1.trans e2)⟩
def uUn(r:PV->PHp->VK'->Prop)(ta:TE'):TE':=fun σ H Q=>ta σ H fun x H1=>r x H1 Q
theorem eY(ha:PE' X B a ta):PE' X B (.UnaryOp .USub a pos) (uUn (fun x H Q=>cF x fun i=>Q (.int (-i)) H) ta):=a6 (DU AQ ha) fun σ H Q y_=>by
 obtain⟨σ',H',Q',s,h,k⟩:=y_;refine⟨σ',H',_,s,h,fun x H1' v H1 h1 r1 s1 e1=>?_⟩;obtain⟨i,rfl,h1⟩:=cF.ex h1;simp only[RP]at r1;exact⟨i,r1,k _ H1' _ H1 h1 (by simp[RP]) s1 e1⟩
def B8:TA':=fun _ H Q=>Q [] H
def tq(ta:TE')(tr:TA'):TA':=fun σ H Q=>ta σ H fun x H1=>tr σ H1 fun xs H2=>Q (x::xs) H2
theorem ae:PA' X B [] B8:=tJ cI fun σ H Q ⟨σ',H',Q',s,h,k⟩=>k [] H' [] H h (RPs.nil _) s (Ev.refl _ _)
theorem aa(ha:PE' X B e ta)(hr:PA' X B es t)(hs:starEach (e::es) X.env=(false,eval e X.env)::starEach es X.env:=by rfl):PA' X B (e::es) (tq ta t):=tJ (bU ha hr hs) fun σ H Q y_=>by
 obtain⟨σ',H',Q',s,h,k⟩:=y_;refine⟨σ',H',_,s,h,fun x H1' v H1 h1 r1 s1 e1=>⟨σ',H1',_,s1,h1,fun xs H2' vs H2 h2 r2 s2 e2=>?_⟩⟩;exact k _ H2' _ H2 h2 (RPs.cons _ (RP.kp _ (e2.kp s1.hp) r1) r2) s2 (e1.trans e2)
def DG(t:TA'):TE':=fun σ H Q=>t σ H fun xs H1=>xs.length≤sizeLine/\Q (.tup xs) H1
def xB(t:TA'):TE':=fun σ H Q=>t σ H fun xs H1=>xs.length≤sizeLine/\∀p,H1 p=none->Q (.ref p) (put H1 p (.lst xs))
theorem SR.hid{K:PySem.W.Frag}{σ':St'}{σ:L2.St}{H':PHp}{H:Hp}{p:Addr}{o:HO}(s:SR K B σ' H' σ H)(n:H p=none):SR K B σ' H' σ (upd H p o):=s.kp (Ev.hid n) (s.hp.hid n)
theorem SR.new{K:PySem.W.Frag}{σ':St'}{σ:L2.St}{H':PHp}{H:Hp}{p:Addr}{o:HO}{o':PO}(s:SR K B σ' H' σ H)(n:H p=none)(w:OAt K (upd H p o) p o'):SR K B σ' (put H' p o') σ (upd H p o):=s.kp (Ev.new n) (s.hp.new n w)
theorem SR.wr{K:PySem.W.Frag}{σ':St'}{σ:L2.St}{H':PHp}{H:Hp}{p:Addr}{o:HO}{o' u':PO}(s:SR K B σ' H' σ H)(n:H' p=some u')(w:OAt K (upd H p o) p o'):SR K B σ' (put H' p o') σ (upd H p o):=s.kp (Ev.wr n) (s.hp.wr n w)
theorem mm{K:PySem.W.Frag}{H:Hp}{p:Addr}{xs:List PV}{us:List V}(n:H p=none)(r:RPs K H xs us):RP K (upd H p (.tup us)) (.tup xs) (.ref p):=by
 simp only[RP];exact⟨p,us,rfl,SqT.of bc,RPs.kp K (gv n) r⟩
theorem j9{K:PySem.W.Frag}{H:Hp}{p:Addr}{xs:List PV}{us:List V}(n:H p=none)(r:RPs K H xs us):OAt K (upd H p (.lst us)) p (.lst xs):=⟨us,bc,RPs.kp K (gv n) r⟩
theorem wrL{K:PySem.W.Frag}{H':PHp}{H:Hp}{p:Addr}{u':PO}{xs:List PV}{us:List V}(h:HR K H' H)(n:H' p=some u')(r:RPs K H xs us):OAt K (upd H p (.lst us)) p (.lst xs):=⟨us,bc,RPs.kp K (h.kpw n) r⟩
theorem aW{x1}(h:PA' X B es t):PE' X B (.Tuple es x1 pos) (DG t):=a6 (B3 h) fun σ H Q y_=>by
 obtain⟨σ',H',Q',s,h,k⟩:=y_;refine⟨σ',H',_,s,h,fun xs H1' us H1 h1 r1 s1 e1=>⟨by rw[RPs.length _ r1];exact h1.1,fun p n=>?_⟩⟩;exact k _ H1' _ _ h1.2 (mm n r1) (s1.hid n) (e1.trans (Ev.hid n))
theorem aR(h:PA' X B es t):PE' X B (.List es pos) (xB t):=a6 (Ba h) fun σ H Q y_=>by
 obtain⟨σ',H',Q',s,h,k⟩:=y_;refine⟨σ',H',_,s,h,fun xs H1' us H1 h1 r1 s1 e1=>⟨by rw[RPs.length _ r1];exact h1.1,fun p n=>?_⟩⟩;exact k _ _ _ _ (h1.2 p (s1.hp.free n)) (by simp[RP]) (s1.new n (j9 n r1)) (e1.trans (Ev.new n))
def cK(x:PV)(H:PHp)(k:List PV->Prop):Prop:=match x with
 | .tup l=>k l
 | .fls l=>k l
 | .ref a=>∃l,H a=some (.lst l)/\k l
 | _=>False
theorem cK.ex{K:PySem.W.Frag}{σ':St'}{σ:L2.St}{x:PV}{v:V}{H':PHp}{H:Hp}{k:List PV->Prop}(h:cK x H' k)(s:SR K B σ' H' σ H)(r:RP K H x v):∃l us p,v=.ref p/\RPs K H l us/\(SqL K H p us∨SqT K H p us)/\k l:=by
 unfold cK at h;split at h
 ·simp only[RP]at r;obtain⟨a,us,e,q,r⟩:=r;exact⟨_,us,a,e,r,.inr q,h⟩
 ·simp only[RP]at r;obtain⟨a,us,e,q,r⟩:=r;exact⟨_,us,a,e,r,.inl q.sq,h⟩
 ·simp only[RP]at r;obtain⟨l,e,h⟩:=h;obtain⟨us,q,r2⟩:=s.hp _ _ e;exact⟨l,us,_,r,r2,.inl (SqL.of q),h⟩
 ·exact h.elim
theorem CW{K:PySem.W.Frag}{H:Hp}{l:List PV}{us:List V}{i:Int}{x:PV}(r:RPs K H l us)(e:atI l i=some x):∃u,atI us i=some u/\RP K H x u:=by
 unfold atI at e ⊢;rw[RPs.length _ r];cases q:ixN l.length i with
 | none=>rw[q]at e;cases e
 | some j =>
  rw[q]at e;obtain⟨u,e1,e2⟩:=RPs.get _ r (show l[j]?=some x from e);exact⟨u,e1,e2⟩
def dJ(o:Option PV)(k:PV->Prop):Prop:=match o with
 | some v=>k v
 | none=>False
theorem dJ.ex{o:Option PV}{k:PV->Prop}(h:dJ o k):∃v,o=some v/\k v:=by
 unfold dJ at h;split at h
 ·exact⟨_,rfl,h⟩
 ·exact h.elim
def uIx:R2':=fun x y H Q=>cK x H fun l=>cF y fun i=>dJ (atI l i) fun v=>Q v H
theorem yF{X:Cx}:IxR X (fun x y H Q=>BY X.K x y H Q∨BJ X.K x y H Q):=xK.or B5
theorem DV{K:PySem.W.Frag}:VR K B uIx (fun x y H Q=>BY K x y H Q∨BJ K x y H Q):=by
 intro σ' σ H' H x' y' x y Q' Q s rx ry h k;obtain⟨l,us,p,rfl,r,q,h1⟩:=cK.ex h s rx;obtain⟨i,rfl,h2⟩:=cF.ex h1;obtain⟨v,e,h3⟩:=dJ.ex h2;simp only[RP]at ry;obtain⟨u,e1,e2⟩:=CW r e;have:=k v H' u H h3 e2 s (Ev.refl _ _);rcases q with q | q
 ·exact .inl ⟨p,us,i,u,rfl,ry,q,e1,this⟩
 ·exact .inr ⟨p,us,i,u,rfl,ry,q,e1,this⟩
theorem aG(ha:PE' X B a ta)(hb:PE' X B b tb)(hs:qG b):PE' X B (.Subscript a b pos) (uOp uIx ta tb):=a6 (Et yF ha hb hs) fun _ _ _ h=>lK DV h
abbrev TO':=St'->PHp->(Option Int->PHp->Prop)->Prop
def F5(K:PySem.W.Frag)(B:Bs)(t:TO'):TO:=fun σ H Q=>∃σ' H' Q',SR K B σ' H' σ H/\t σ' H' Q'/\∀b H1' H1,Q' b H1'->SR K B σ' H1' σ H1->Ev H' H H1' H1->Q b H1
abbrev PO'(X:Cx)(B:Bs)(e:Option Expr)(t:TO'):Prop:=L2.PO X e (F5 X.K B t)
theorem vO{e:Option Expr}{t1 t2:TO}(h:L2.PO X e t2)(i:∀σ H Q,t1 σ H Q->t2 σ H Q):L2.PO X e t1:=fun pins s σ H Q I q=>h pins s σ H Q I (i σ H Q q)
def qe:TO':=fun _ H Q=>Q none H
def zO(t:TE'):TO':=fun σ H Q=>t σ H fun x H1=>cF x fun i=>Q (some i) H1
theorem bg:PO' X B none qe:=vO zc fun σ H Q ⟨σ',H',Q',s,h,k⟩=>k none H' H h s (Ev.refl _ _)
theorem bf(h:PE' X B e ta):PO' X B (some e) (zO ta):=vO (yX h) fun σ H Q y_=>by
 obtain⟨σ',H',Q',s,h,k⟩:=y_;refine⟨σ',H',_,s,h,fun x H1' v H1 h1 r1 s1 e1=>?_⟩;obtain⟨i,rfl,h1⟩:=cF.ex h1;simp only[RP]at r1;exact⟨i,r1,k _ H1' H1 h1 s1 e1⟩
def cz(xs:List PV)(lo hi:Option Int):List PV:=(xs.drop (HT.sIx xs.length 0 lo)).take (HT.sIx xs.length xs.length hi - HT.sIx xs.length 0 lo)
theorem ly{K:PySem.W.Frag}{H:Hp}{l:List PV}{us:List V}{lo hi:Option Int}(r:RPs K H l us):RPs K H (cz l lo hi) (aT us lo hi):=by
 unfold cz aT;rw[RPs.length _ r];exact RPs.take _ _ (RPs.drop _ _ r)
def sliceOf(x:PV)(lo hi:Option Int)(H3:PHp)(Q:VK'):Prop:=match x with
 | .fls l=>∀p,H3 p=none->Q (.ref p) (put H3 p (.lst (cz l lo hi)))
 | .ref a=>∃l,H3 a=some (.lst l)/\∀p,H3 p=none->Q (.ref p) (put H3 p (.lst (cz l lo hi)))
 | .tup l=>¬(HT.sIx l.length 0 lo=0/\HT.sIx l.length l.length hi=l.length)/\Q (.tup (cz l lo hi)) H3
 | _=>False
def wq(ta:TE')(tl th:TO'):TE':=fun σ H Q=>ta σ H fun x H1=>tl σ H1 fun lo H2=>th σ H2 fun hi H3=>sliceOf x lo hi H3 Q
theorem nG{lo hi:Option Expr}{tl th:TO'}{p2:Pos}(he:PE' X B e ta)(hl:PO' X B lo tl)(hu:PO' X B hi th):PE' X B (.Subscript e (.Slice lo hi none p2) pos) (wq ta tl th) :=
 a6 (nY (yh.or uZ) he hl hu) fun σ H Q y_=>by
 obtain⟨σ',H',Q',s,h,k⟩:=y_;refine⟨σ',H',_,s,h,fun x H1' v H1 h1 r1 s1 e1=>⟨σ',H1',_,s1,h1,fun l H2' H2 h2 s2 e2=>⟨σ',H2',_,s2,h2,fun u H3' H3 h3 s3 e3=>?_⟩⟩⟩;have r3:=RP.kp _ (e3.kp s2.hp) (RP.kp _ (e2.kp s1.hp) r1);have e123:=e1.trans (e2.trans e3);cases x with
 | fls xs =>
  simp only[RP]at r3;obtain⟨a,us,e,q,r⟩:=r3;refine .inl ⟨a,us,e,q.sq,fun p n=>?_⟩;exact k _ _ _ _ (h3 p (s3.hp.free n)) (by simp[RP]) (s3.new n (j9 n (ly r))) (e123.trans (Ev.new n))
 | ref a =>
  simp only[RP]at r3;obtain⟨xs,q,h3⟩:=h3;obtain⟨us,q2,r⟩:=s3.hp _ _ q;refine .inl ⟨a,us,r3,SqL.of q2,fun p n=>?_⟩;exact k _ _ _ _ (h3 p (s3.hp.free n)) (by simp[RP]) (s3.new n (j9 n (ly r))) (e123.trans (Ev.new n))
 | tup xs =>
  simp only[RP]at r3;obtain⟨a,us,e,q,r⟩:=r3;refine .inr ⟨a,us,e,q,by rw[RPs.length _ r];exact h3.1,fun p n=>?_⟩;exact k _ _ _ _ h3.2 (mm n (ly r)) (s3.hid n) (e123.trans (Ev.hid n))
 | _=>exact h3.elim
def VC(K:PySem.W.Frag)(B:Bs)(r':List PV->PHp->VK'->Prop)(r:List V->Hp->VK->Prop):Prop:=∀(σ':St') (σ:L2.St) (H':PHp) (H:Hp) xs' xs (Q':VK') (Q:VK),SR K B σ' H' σ H->RPs K H xs' xs->r' xs' H' Q' ->
 (∀v' H1' v H1,Q' v' H1'->RP K H1 v' v->SR K B σ' H1' σ H1->Ev H' H H1' H1->Q v H1)->r xs H Q
def uCB(r:List PV->PHp->VK'->Prop)(t:TA'):TE':=fun σ H Q=>t σ H fun vs H1=>r vs H1 Q
theorem vK{K:PySem.W.Frag}{r':List PV->PHp->VK'->Prop}{r:List V->Hp->VK->Prop}{t:TA'}(v:VC K B r' r){σ:L2.St}{H:Hp}{Q:VK}(h:low K B (uCB r' t) σ H Q):tCB r (uP K B t) σ H Q:=by
 obtain⟨σ',H',Q',s,h,k⟩:=h;exact⟨σ',H',_,s,h,fun xs' H1' xs H1 h1 rx s1 e1=>v σ' σ H1' H1 xs' xs Q' Q s1 rx h1 fun v' H3' v H3 q rv s3 e3=>k v' H3' v H3 q rv s3 (e1.trans e3)⟩
variable {x:Str}{p:Pos}
theorem aH{id:String}{r':List PV->PHp->VK'->Prop}{r:List V->Hp->VK->Prop}(hc:cv X (.builtin id) r)(v:VC X.K B r' r)(hg:Gl X x)(hm:X.mg x=none)(hv:bootBuiltins x=some (.builtin id))(ha:PA' X B (e::es) t)
  (hn:x≠"__name__":=by decide) (hdb:(x==("__debug__":Str))=false:=by decide) (he:starEach (e::es) X.env=(false,eval e X.env)::starEach es X.env:=by rfl) (hpl:(backTo pos (starEach es X.env)).any (·.1)=false:=by rfl) :
  PE' X B (.Call (.Name x p) (e::es) [] pos) (uCB r' t):=a6 (dI hc hg hm hv ha hn hdb he hpl) fun _ _ _ h=>vK v h
theorem aM{id:String}{r':List PV->PHp->VK'->Prop}{r:List V->Hp->VK->Prop}(hc:cv X (.type id) r)(v:VC X.K B r' r)(hg:Gl X x)(hm:X.mg x=none)(hv:bootBuiltins x=some (.type id))(ha:PA' X B (e::es) t)
  (hn:x≠"__name__":=by decide) (hdb:(x==("__debug__":Str))=false:=by decide) (he:starEach (e::es) X.env=(false,eval e X.env)::starEach es X.env:=by rfl) (hpl:(backTo pos (starEach es X.env)).any (·.1)=false:=by rfl) :
  PE' X B (.Call (.Name x p) (e::es) [] pos) (uCB r' t):=a6 (fu hc hg hm hv ha hn hdb he hpl) fun _ _ _ h=>vK v h
def cP(f:PV->PHp->VK'->Prop):List PV->PHp->VK'->Prop:=fun xs H Q=>match xs with
 | [x]=>f x H Q
 | _=>False
theorem cP.ex{K:PySem.W.Frag}{H:Hp}{f:PV->PHp->VK'->Prop}{xs':List PV}{xs:List V}{H':PHp}{Q':VK'}(h:cP f xs' H' Q')(r:RPs K H xs' xs):∃x' x,xs'=[x']/\xs=[x]/\RP K H x' x/\f x' H' Q':=by
 unfold cP at h;split at h
 ·simp only[RPs]at r;obtain⟨u,r,rfl,q,rfl⟩:=r;exact⟨_,u,rfl,rfl,q,h⟩
 ·exact h.elim
def DP:List PV->PHp->VK'->Prop:=cP fun x H Q=>cK x H fun l=>Q (.int l.length) H
theorem bh{K:PySem.W.Frag}:VC K B DP (fun xs H Q=>∃p ys,xs=[.ref p]/\(SqL K H p ys∨SqT K H p ys)/\Q (.int ys.length) H):=by
 intro σ' σ H' H xs' xs Q' Q s r h k;obtain⟨x',x,rfl,rfl,rx,h⟩:=cP.ex h r;obtain⟨l,us,p,rfl,r,q,h⟩:=cK.ex h s rx;exact⟨p,us,rfl,q,k _ H' _ H h (by simp[RP,RPs.length _ r]) s (Ev.refl _ _)⟩
def Fp:List PV->PHp->VK'->Prop:=cP fun x H Q=>cF x fun i=>Q (.int (if i<0 then -i else i)) H
def b2n(b:Bool):Int:=if b then 1 else 0
def intOf(x:PV)(k:Int->Prop):Prop:=match x with
 | .int i=>k i
 | .bl b=>k (b2n b)
 | _=>False
def DI:List PV->PHp->VK'->Prop:=cP fun x H Q=>intOf x fun i=>Q (.int i) H
theorem lR{K:PySem.W.Frag}:VC K B DI (fun xs H Q=>(∃i,xs=[.int i]/\Q (.int i) H)∨∃k,xs=[.bl k]/\Q (.int (if k then 1 else 0)) H):=by
 intro σ' σ H' H xs' xs Q' Q s r h k;obtain⟨x',x,rfl,rfl,rx,h⟩:=cP.ex h r;cases x' with
 | int i=>simp only[RP]at rx;subst rx;exact .inl ⟨i,rfl,k _ H' _ H h (by simp[RP]) s (Ev.refl _ _)⟩
 | bl i=>simp only[RP]at rx;subst rx;exact .inr ⟨i,rfl,k _ H' _ H h (by simp[RP,b2n]) s (Ev.refl _ _)⟩
 | _=>exact h.elim
def Ap:List PV->PHp->VK'->Prop:=cP fun x H Q=>cK x H fun l=>∀p,H p=none->Q (.ref p) (put H p (.lst l))
theorem gx{K:PySem.W.Frag}:VC K B Ap (fun xs H Q=>∃p ys,xs=[.ref p]/\(SqL K H p ys∨SqT K H p ys)/\∀l,H l=none->Q (.ref l) (upd H l (.lst ys))):=by
 intro σ' σ H' H xs' xs Q' Q s r h k;obtain⟨x',x,rfl,rfl,rx,h⟩:=cP.ex h r;obtain⟨l,us,p,rfl,r,q,h⟩:=cK.ex h s rx;exact⟨p,us,rfl,q,fun p n=>k _ _ _ _ (h p (s.hp.free n)) (by simp[RP]) (s.new n (j9 n r)) (Ev.new n)⟩
def vt:List PV->PHp->VK'->Prop:=cP fun x H Q=>cK x H fun l=>Q (.tup l) H
theorem a9{K:PySem.W.Frag}:VC K B vt (fun xs H Q=>∃p ys,xs=[.ref p]/\((SqL K H p ys/\∀l,H l=none->Q (.ref l) (upd H l (.tup ys)))∨(SqT K H p ys/\Q (.ref p) H))):=by
 intro σ' σ H' H xs' xs Q' Q s r h k;obtain⟨x',x,rfl,rfl,rx,h⟩:=cP.ex h r;obtain⟨l,us,p,rfl,r,q,h⟩:=cK.ex h s rx;refine⟨p,us,rfl,?_⟩;rcases q with q | q
 ·exact .inl ⟨q,fun p n=>k _ _ _ _ h (mm n r) (s.hid n) (Ev.hid n)⟩
 ·exact .inr ⟨q,k _ _ _ _ h (by simp only[RP];exact⟨p,us,rfl,q,r⟩) s (Ev.refl _ _)⟩
end
end
section
variable {B:Bs}
section
variable {X:Cx}{a b c e o:Expr}{es:List Expr}{ta tb te:TE'}{tA tB:TT'}{st:Stmt}{sts:List Stmt}{t u:TS'}{pos:Pos}
def AA:TS':=fun D σ H=>D.nx σ H
def qY(t u:TS'):TS':=fun D σ H=>t { D with nx:=u D } σ H
theorem aF:iO X B [] AA:=pR wZ fun D σ H ⟨σ',H',D',s,h,d⟩=>d.nx _ _ _ _ h s (Ev.refl _ _)
theorem af(h1:PS' X B st t)(h2:iO X B sts u):iO X B (st::sts) (qY t u):=pR (wo h1 h2) fun D σ H ⟨σ',H',D',s,h,d⟩ =>
 ⟨σ',H',_,s,h,fun σ1' H1' σ1 H1 h1 s1 e1=>⟨σ1',H1',D',s1,h1,d.ev _ _ e1⟩,d.rt,d.bk,d.ct⟩
theorem ai(h1:PS' X B st t):iO X B [st] t:=qP h1
def Ci:TS':=fun D σ H=>D.bk σ H
def E7:TS':=fun D σ H=>D.ct σ H
def zQ(te:TE'):TS':=fun D σ H=>te σ H fun _ H1=>D.nx σ H1
theorem a7(he:PE' X B e te)(hs:swapsWith e none pos.line X.env=pure false:=by rfl):PS' X B (.Expr e pos) (zQ te):=cO (xm he hs) fun D σ H ⟨σ',H',D',s,h,d⟩ =>
 ⟨σ',H',_,s,h,fun v' H1' v H1 h1 r1 s1 e1=>d.nx _ _ _ _ h1 s1 e1⟩
def Dz(te:TE'):TS':=fun D σ H=>te σ H D.rt
theorem aA(he:PE' X B e te):PS' X B (.Return (some e) pos) (Dz te):=cO (BR he) fun D σ H ⟨σ',H',D',s,h,d⟩ =>
 ⟨σ',H',_,s,h,fun v' H1' v H1 h1 r1 s1 e1=>d.rt _ _ _ _ h1 r1 s1.hp e1⟩
def Eh:TS':=fun D _ H=>D.rt .non H
def DZ(c:TT')(t u:TS'):TS':=fun D σ H=>c σ H fun b H1=>cif b (t D σ H1) (u D σ H1)
theorem aS{l1 l2:List Stmt}(hc:PT' X B c tA)(ha:iO X B l1 t)(hb:iO X B l2 u):PS' X B (.If c l1 l2 pos) (DZ tA t u):=cO (Ei hc ha hb) fun D σ H y_=>by
 obtain⟨σ',H',D',s,h,d⟩:=y_;refine⟨σ',H',_,s,h,fun x H1' H1 h1 s1 e1=>?_⟩;cases x with
 | true=>exact j6 ⟨σ',H1',D',s1,h1,d.ev _ _ e1⟩
 | false=>exact ka ⟨σ',H1',D',s1,h1,d.ev _ _ e1⟩
def CJ:TS':=fun _ _ _=>False
theorem cx:iO X B sts CJ:=fun _ _ _ _ _ _ ⟨_,_,_,_,h,_⟩=>h.elim
def gi(i:Nat):TG':=fun v σ H Q=>Q (σ.set i (some v)) H
theorem SR.set{K:PySem.W.Frag}{σ':St'}{H':PHp}{σ:L2.St}{H:Hp}{v':PV}{v:V}(s:SR K B σ' H' σ H)(r:RP K H v' v)(i:Nat):SR K B (σ'.set i (some v')) H' (σ.set i (some v)) H:=by
 refine⟨by simp[s.len],fun j w e=>?_,s.hp,s.ev⟩;by_cases hj:i=j
 ·subst hj;have hl:i<σ'.length:=by
   rcases Nat.lt_or_ge i σ'.length with h | h
   ·exact h
   ·rw[Jm (by simpa using h)]at e;cases e
  rw[Jw hl]at e;cases e;exact⟨v,Jw (by rw[←s.len];exact hl),r⟩
 ·rw[List.getElem?_set_ne hj]at e ⊢;exact s.loc j w e
theorem au{i:Nat}{x:Str}(hN:X.N.Nodup)(hi:X.N[i]?=some x)(hx:Loc X.env.scope x)(hf:X.fn x=true∨X.env.scope.names.lookup x=some .local:=by first | exact .inl rfl | exact .inr rfl | assumption):PG' X B (.Name x pos) (gi i) :=
 pG (yL hN hi hx hf) fun v σ H Q ⟨v',σ',H',Q',r,s,h,k⟩=>k _ _ _ _ h (s.set r i) (Ev.refl _ _)
def AO:ie:=fun vs σ H Q=>vs=[]/\Q σ H
def Aq(t:TG')(u:ie):ie:=fun vs σ H Q=>match vs with
 | v::r=>t v σ H fun σ' H'=>u r σ' H' Q
 | []=>False
theorem b9:we X B [] AO:=qz zq fun vs σ H Q y_=>by
 obtain⟨v',σ',H',Q',r,s,h,k⟩:=y_;obtain⟨rfl,h⟩:=h;simp only[RPs]at r;exact⟨r,k _ _ _ _ h s (Ev.refl _ _)⟩
theorem aV{t:TG'}{u:ie}(h1:PG' X B e t)(h2:we X B es u)(hs:(assignEach (e::es) X.env).map (·.2)=assign e X.env::(assignEach es X.env).map (·.2):=by rfl):we X B (e::es) (Aq t u) :=
 qz (vA h1 h2 hs) fun vs σ H Q y_=>by
 obtain⟨vs',σ',H',Q',r,s,h,k⟩:=y_;cases vs' with
 | nil=>exact h.elim
 | cons v' r' =>
  simp only[RPs]at r;obtain⟨v,w,rfl,rv,rw'⟩:=r;refine⟨v,w,rfl,v',σ',H',_,rv,s,h,fun σ1' H1' σ1 H1 h1 s1 e1=>⟨r',σ1',H1',Q',RPs.kp _ (e1.kp s.hp) rw',s1,h1,fun σ2' H2' σ2 H2 h2 s2 e2=>k _ _ _ _ h2 s2 (e1.trans e2)⟩⟩
def Fd(n:Nat)(t:ie):TG':=fun v σ H Q=>match v with
 | .tup l=>l.length=n/\t l σ H Q
 | _=>False
theorem c9{k:Nat}{t:ie}{n:Nat}(hc:X.calm=true)(h:we X B es t)(hn:(assignEach es X.env).length=n:=by rfl)(hst:(assignEach es X.env).findIdx? (·.1)=none:=by rfl):PG' X B (.Tuple es k pos) (Fd n t) :=
 pG (AZ hc h hn hst) fun v σ H Q y_=>by
 obtain⟨v',σ',H',Q',r,s,h,k⟩:=y_;cases v' with
 | tup l =>
  obtain⟨hl,h⟩:=h;simp only[RP]at r;obtain⟨a,us,rfl,q,r⟩:=r;exact⟨a,us,rfl,q,by rw[RPs.length _ r];exact hl,l,σ',H',Q',r,s,h,k⟩
 | _=>exact h.elim
def nF(te:TE')(g:TG'):TS':=fun D σ H=>te σ H fun x H1=>g x σ H1 D.nx
theorem xZ{K:PySem.W.Frag}{te:TE'}{g:TG'}{D:Ends}{σ:L2.St}{H:Hp}(h:CT K B (nF te g) D σ H):zC (low K B te) (lowG K B g) D σ H:=by
 obtain⟨σ',H',D',s,h,d⟩:=h;exact⟨σ',H',_,s,h,fun x H1' v H1 h1 r1 s1 e1=>⟨x,σ',H1',_,r1,s1,h1,fun σ2' H2' σ2 H2 h2 s2 e2=>d.nx _ _ _ _ h2 s2 (e1.trans e2)⟩⟩
theorem lY{tg:Expr}{g:TG'}(he:PE' X B e te)(hg:PG' X B tg g)(hs:swapsWithSole [tg] e pos.line X.env=pure false:=by rfl)(hw:swappedStores [tg] e X.env=pure none:=by rfl)
  (h1:(assignEach [tg] X.env).map (·.2)=[assign tg X.env]:=by rfl):PS' X B (.Assign [tg] e pos) (nF te g):=cO (BD he hg hs hw h1) fun _ _ _ h=>xZ h
theorem aw{i:Nat}{x:Str}{pos':Pos}(hN:X.N.Nodup)(hi:X.N[i]?=some x)(hx:Loc X.env.scope x)(he:PE' X B e te)(hs:swapsWith e (some (.Name x pos')) pos.line X.env=pure false:=by rfl)(hf:X.fn x=true∨X.env.scope.names.lookup x=some .local:=by first | exact .inl rfl | exact .inr rfl | assumption) :
  PS' X B (.Assign [.Name x pos'] e pos) (nF te (gi i)):=cO (vE hN hi hx he hs hf) fun D σ H h=>by
 obtain⟨σ',H',D',s,h,d⟩:=h;exact⟨σ',H',_,s,h,fun x H1' v H1 h1 r1 s1 e1=>d.nx _ _ _ _ h1 (s1.set r1 i) e1⟩
def md(c:TT')(tb:TS'):TS':=fun D σ H=>∃W:Nat->St'->PHp->Prop,(∃m,W m σ H)/\∀m σ H,W m σ H ->
 c σ H fun b H1=>cif b (∃N:St'->PHp->Prop,(∀σ' H',N σ' H'->∃m',m'<m/\W m' σ' H')/\tb { D with nx:=N,ct:=N,bk:=D.nx } σ H1) (D.nx σ H1)
theorem jx{body:List Stmt}(hp:PassesOwn (model X.prog X.w) X.A X.env X.xe)(hc:PT' X B c tA)(hb:iO X B body t):PS' X B (.While c body [] pos) (md tA t):=cO (t7 hp hc hb) fun D σ H y_=>by
 obtain⟨σ',H',D',s,⟨W,⟨m0,w0⟩,turn⟩,d⟩:=y_;refine⟨fun m σ1 H1=>∃σ1' H1',SR X.K B σ1' H1' σ1 H1/\Ev H' H H1' H1/\W m σ1' H1',⟨m0,σ',H',s,Ev.refl _ _,w0⟩,?_⟩;rintro m σ1 H1 ⟨σ1',H1',s1,e1,w1⟩;refine⟨σ1',H1',_,s1,turn m σ1' H1' w1,fun x H2' H2 h2 s2 e2=>?_⟩;cases x with
 | false=>exact ka (d.nx _ _ _ _ h2 s2 (e1.trans e2))
 | true =>
  obtain⟨N,hN,h2⟩:=(show ∃N:St'->PHp->Prop,_ from h2);refine j6 ⟨fun σ3 H3=>∃σ3' H3',SR X.K B σ3' H3' σ3 H3/\Ev H' H H3' H3/\N σ3' H3',?_,σ1',H2',_,s2,h2,?_,?_,?_,?_⟩
  ·rintro σ3 H3 ⟨σ3',H3',s3,e3,n3⟩;obtain⟨m',hm,w'⟩:=hN _ _ n3;exact⟨m',hm,σ3',H3',s3,e3,w'⟩
  ·intro σ3' H3' σ3 H3 n3 s3 e3;exact⟨σ3',H3',s3,(e1.trans e2).trans e3,n3⟩
  ·intro v' H3' v H3 n3 r3 s3 e3;exact d.rt _ _ _ _ n3 r3 s3 ((e1.trans e2).trans e3)
  ·intro σ3' H3' σ3 H3 n3 s3 e3;exact d.nx _ _ _ _ n3 s3 ((e1.trans e2).trans e3)
  ·intro σ3' H3' σ3 H3 n3 s3 e3;exact⟨σ3',H3',s3,(e1.trans e2).trans e3,n3⟩
theorem gD{c:TT'}{tb:TS'}{D:di}{σ:St'}{H:PHp}(Pv:Nat->St'->PHp->Prop)(m0:Nat)(h0:Pv m0 σ H)
  (hs:∀m σ H,Pv m σ H->c σ H fun b H1=>cif b (∃N:St'->PHp->Prop,(∀σ' H',N σ' H'->∃m',m'<m/\Pv m' σ' H')/\tb { D with nx:=N,ct:=N,bk:=D.nx } σ H1) (D.nx σ H1)):md c tb D σ H:=⟨Pv,⟨m0,h0⟩,hs⟩
def eU(ok:PHp->Prop)(g:TG')(tb:TS')(D:di):List PV->St'->PHp->Prop
 | [],σ,H=>ok H/\D.nx σ H
 | x::r,σ,H=>ok H/\g x σ H fun σ2 H2=>tb { D with nx:=eU ok g tb D r,ct:=eU ok g tb D r,bk:=D.nx } σ2 H2
def BX(wi:TI')(g:TG')(tb:TS'):TS':=fun D σ H=>wi σ H fun J H1=>eU J.ok g tb D J.items σ H1
theorem bA{iter tg:Expr}{body:List Stmt}{wi:TI'}{g:TG'}(hp:PassesOwn (model X.prog X.w) X.A X.env X.xe)(hc:X.calm=true)(hi:PI' X B tg iter wi)(hg:PG' X B tg g)(hb:iO X B body t)
  (hs:∀x,foldedSetIterable iter X.env x=pure x:=by intro _;rfl):PS' X B (.For tg iter body [] pos) (BX wi g t):=cO (vY hp hc hi hg hb hs) fun D σ H y_=>by
 obtain⟨σ',H',D',s,h,d⟩:=y_;refine⟨σ',H',_,s,h,fun J' H1' J H1 h1 wk s1 e1=>?_⟩;refine⟨fun i m σ2 H2=>i≤J'.items.length/\m=J'.items.length - i/\∃σ2' H2',SR X.K B σ2' H2' σ2 H2/\Ev H1' H1 H2' H2/\eU J'.ok g t D' (J'.items.drop i) σ2' H2',⟨J'.items.length,Jk _,by simp,σ',H1',s1,Ev.refl _ _,h1⟩,?_⟩;rintro i m σ2 H2 ⟨hi,rfl,σ2',H2',s2,e2,h2⟩;have k2:=e2.kp s1.hp;by_cases hlt:i<J'.items.length
 ·obtain⟨x',hx⟩:∃x',J'.items[i]?=some x':=⟨_,sH hlt⟩;have hd:J'.items.drop i=x'::J'.items.drop (i+1):=by
   rw[Jj hlt];rw[sH hlt]at hx;cases hx;rfl
  rw[hd]at h2;obtain⟨ok2,h2⟩:=(show J'.ok H2'/\_ from h2);refine .inr ⟨wk.go H2' H2 i k2 s2.hp ok2 hlt,fun σ3 H3=>∃σ3' H3',SR X.K B σ3' H3' σ3 H3/\Ev H1' H1 H3' H3/\eU J'.ok g t D' (J'.items.drop (i+1)) σ3' H3',?_,fun x H3 y=>?_⟩
  ·rintro σ3 H3 ⟨σ3',H3',s3,e3,h3⟩;exact⟨J'.items.length - (i+1),by omega,hlt,rfl,σ3',H3',s3,e3,h3⟩
  ·obtain⟨rfl,rx⟩:=wk.yld H2' H2 i x H3 k2 s2.hp ok2 y;refine⟨x',σ2',H2',_,rx x' hx,s2,h2,fun σ3' H3' σ3 H3 h3 s3 e3=>⟨σ3',H3',_,s3,h3,?_,?_,?_,?_⟩⟩
   ·intro σ4' H4' σ4 H4 h4 s4 e4;exact⟨σ4',H4',s4,e2.trans (e3.trans e4),h4⟩
   ·intro v' H4' v H4 h4 r4 s4 e4;exact d.rt _ _ _ _ h4 r4 s4 (e1.trans (e2.trans (e3.trans e4)))
   ·intro σ4' H4' σ4 H4 h4 s4 e4;exact d.nx _ _ _ _ h4 s4 (e1.trans (e2.trans (e3.trans e4)))
   ·intro σ4' H4' σ4 H4 h4 s4 e4;exact⟨σ4',H4',s4,e2.trans (e3.trans e4),h4⟩
 ·have hi':i=J'.items.length:=by omega
  subst hi';rw[JQ]at h2;obtain⟨ok2,h2⟩:=(show J'.ok H2'/\_ from h2);exact .inl ⟨wk.stop H2' H2 _ k2 s2.hp ok2 (yi _),d.nx _ _ _ _ h2 s2 (e1.trans e2)⟩
def vX(x:PV)(H1:PHp)(R:It'->PHp->Prop):Prop:=match x with
 | .tup l=>R ⟨l,fun _=>True⟩ H1
 | .fls l=>R ⟨l,fun _=>True⟩ H1
 | .ref a=>∃l,H1 a=some (.lst l)/\R ⟨l,fun H=>H a=some (.lst l)⟩ H1
 | _=>False
def zV(ta:TE'):TI':=fun σ H R=>ta σ H fun x H1=>vX x H1 R
def Hs(K:PySem.W.Frag)(tl:TE):TI:=fun σ H R=>tl σ H fun x H1=>∃a,x=.ref a/\((∃xs,SqL K H1 a xs)/\R (Itl K a) H1∨(∃xs,SqT K H1 a xs)/\R (Itt K a) H1)
theorem Cp{tg l:Expr}{tl:TE}(hl:PE X l tl):PI X tg l (Hs X.K tl):=by
 intro pins s σ H R I h;refine thn (hl pins s σ H _ I h) fun v s1 y_=>?_;obtain⟨x,H1,I1,r1,q1⟩:=y_;obtain⟨a,e,⟨⟨xs,hq⟩,q⟩ |⟨⟨xs,hq⟩,q⟩⟩:=q1
 ·subst e;cases r1;obtain⟨its,rv,p,hz⟩:=I1.list hq;refine JZ p.isList ?_;refine⟨s1.heap.objs.size,[s1.heap.objs.size],_,_,H1,rfl,I1.kept (t':=s1.toks) fun b o e=>va _ e,sC a _,⟨_,yf _ rfl,rfl,rfl⟩,fun b hb=>?_,q⟩;have e:b=s1.heap.objs.size:=by simpa using hb
  subst e;exact I1.fpOk (yi _) (I1.hok.fresh (yi _))
 ·subst e;cases r1;obtain⟨its,rv,p,hz⟩:=I1.tuple hq;refine wpAny_pyIter_tuple (show s1.heap.IsTuple a its.toArray from p) ?_;refine⟨s1.heap.objs.size,[s1.heap.objs.size],_,_,H1,rfl,I1.kept (t':=s1.toks) fun b o e=>va _ e,oA a _,⟨_,yf _ rfl,rfl,rfl⟩,fun b hb=>?_,q⟩;have e:b=s1.heap.objs.size:=by simpa using hb
  subst e;exact I1.fpOk (yi _) (I1.hok.fresh (yi _))
theorem jj{K:PySem.W.Frag}{H1:Hp}{J':It'}{a:Addr}(h:∀H' H,Kp H1 H->HR K H' H->J'.ok H'->∃us,SqL K H a us/\RPs K H J'.items us):Walks K H1 (Itl K a) J' where
 go:=fun H' H i k s o hi=>by
  obtain⟨us,q,r⟩:=h H' H k s o;obtain⟨u,e,_⟩:=RPs.get _ r (sH hi);exact⟨us,u,q,e⟩
 yld:=fun H' H i x H2 k s o y=>by
  obtain⟨us,q,r⟩:=h H' H k s o;refine⟨y.1,fun x' hx=>?_⟩;obtain⟨u,e,ru⟩:=RPs.get _ r hx;have:=y.2 us q;rw[e]at this;cases this;exact ru
 stop:=fun H' H i k s o hi=>by
  obtain⟨us,q,r⟩:=h H' H k s o;exact⟨us,q,by rw[RPs.length _ r];exact hi⟩
theorem sQ{K:PySem.W.Frag}{H1:Hp}{J':It'}{a:Addr}(h:∀H' H,Kp H1 H->HR K H' H->J'.ok H'->∃us,SqT K H a us/\RPs K H J'.items us):Walks K H1 (Itt K a) J' where
 go:=fun H' H i k s o hi=>by
  obtain⟨us,q,r⟩:=h H' H k s o;obtain⟨u,e,_⟩:=RPs.get _ r (sH hi);exact⟨us,u,q,e⟩
 yld:=fun H' H i x H2 k s o y=>by
  obtain⟨us,q,r⟩:=h H' H k s o;refine⟨y.1,fun x' hx=>?_⟩;obtain⟨u,e,ru⟩:=RPs.get _ r hx;have:=y.2 us q;rw[e]at this;cases this;exact ru
 stop:=fun H' H i k s o hi=>by
  obtain⟨us,q,r⟩:=h H' H k s o;exact⟨us,q,by rw[RPs.length _ r];exact hi⟩
theorem aN{tg:Expr}(ha:PE' X B a ta):PI' X B tg a (zV ta):=k9 (Cp ha) fun σ H R y_=>by
 obtain⟨σ',H',R',s,h,k⟩:=y_;refine⟨σ',H',_,s,h,fun x' H1' x H1 h1 r1 s1 e1=>?_⟩;cases x' with
 | tup l =>
  simp only[RP]at r1;obtain⟨p,us,rfl,q,r⟩:=r1;exact⟨p,rfl,.inr ⟨⟨us,q⟩,k _ H1' _ H1 h1 (sQ fun _ H2 k2 _ _=>⟨us,k2.sqT q,RPs.kp _ k2 r⟩) s1 e1⟩⟩
 | fls l =>
  simp only[RP]at r1;obtain⟨p,us,rfl,q,r⟩:=r1;exact⟨p,rfl,.inl ⟨⟨us,q.sq⟩,k _ H1' _ H1 h1 (jj fun _ H2 k2 _ _=>⟨us,(k2.fzL q).sq,RPs.kp _ k2 r⟩) s1 e1⟩⟩
 | ref p =>
  simp only[RP]at r1;obtain⟨l,q,h1⟩:=h1;obtain⟨us,q2,r⟩:=s1.hp _ _ q;refine⟨p,r1,.inl ⟨⟨us,SqL.of q2⟩,k _ H1' _ H1 h1 (jj fun H2' H2 k2 s2 o2=>?_) s1 e1⟩⟩;obtain⟨us2,q3,r3⟩:=s2 _ _ o2;exact⟨us2,SqL.of q3,r3⟩
 | _=>exact h1.elim
def b7(lo:Int)(n:Nat):List PV:=(List.range n).map fun k=>PV.int (lo+(k:Nat))
theorem sg{K:PySem.W.Frag}{H1:Hp}{lo:Int}{n:Nat}:Walks K H1 (Itr lo n) ⟨b7 lo n,fun _=>True⟩ where
 go:=fun H' H i k s o hi=>by
  have h:i<n:=by simpa[b7]using hi
  exact h
 yld:=fun H' H i x H2 k s o y=>by
  obtain⟨e,rfl⟩:=y;refine⟨e,fun x' hx=>?_⟩;simp only[b7,II]at hx;cases q:(List.range n)[i]? with
  | none=>rw[q]at hx;cases hx
  | some j =>
   rw[q]at hx;obtain⟨h1,h2⟩:=vM.mp q;rw[List.getElem_range]at h2;subst h2;cases hx;simp[RP]
 stop:=fun H' H i k s o hi=>by
  have h:n≤i:=by simpa[b7]using hi
  exact h
def zo(vs:List PV)(H1:PHp)(R:It'->PHp->Prop):Prop:=match vs with
 | [.int j]=>(-(2 ^ 62)≤j/\j<2 ^ 62)/\R ⟨b7 0 j.toNat,fun _=>True⟩ H1
 | _=>False
def Ah(t:TA'):TI':=fun σ H R=>t σ H fun vs H1=>zo vs H1 R
def By(vs:List PV)(H1:PHp)(R:It'->PHp->Prop):Prop:=match vs with
 | [.int i,.int j]=>(-(2 ^ 62)≤i/\i<2 ^ 62/\-(2 ^ 62)≤j/\j<2 ^ 62)/\R ⟨b7 i (j - i).toNat,fun _=>True⟩ H1
 | _=>False
def E9(t:TA'):TI':=fun σ H R=>t σ H fun vs H1=>By vs H1 R
theorem bW{tg:Expr}{t:TA'}{p:Pos}(hg:Gl X "range")(hm:X.mg "range"=none)(ha:PA' X B [a] t)(hs:starEach [a] X.env=[(false,eval a X.env)]:=by rfl):PI' X B tg (.Call (.Name "range" p) [a] [] pos) (Ah t) :=
 k9 (sR hg hm ha hs) fun σ H R y_=>by
 obtain⟨σ',H',R',s,h,k⟩:=y_;refine⟨σ',H',_,s,h,fun vs' H1' vs H1 h1 r1 s1 e1=>?_⟩;unfold zo at h1;split at h1
 ·rename_i j;simp only[RPs,RP]at r1;obtain⟨u,r,rfl,rfl,rfl⟩:=r1;exact⟨j,rfl,h1.1.1,h1.1.2,k _ H1' _ H1 h1.2 sg s1 e1⟩
 ·exact h1.elim
end
end
section
variable {B:Bs}
abbrev Sp':=List PV->PHp->VK'->XK'->Prop
def gJ(K:PySem.W.Frag)(sp:Sp'):Sp:=fun vs H Q E=>∃vs' H' Q' E',RPs K H vs' vs/\HR K H' H/\sp vs' H' Q' E'/\(∀v' H1' v H1,Q' v' H1'->RP K H1 v' v->HR K H1' H1->Ev H' H H1' H1->Q v H1) /\
 (∀c d H1' H1,E' c d H1'->HR K H1' H1->Ev H' H H1' H1->E c d H1)
abbrev aO(P:Program)(w:World)(K:PySem.W.Frag)(mg:Str->Option Value)(base:Heap)(CX:CXT)(k:Nat)(f:Addr)(fd:FuncData)(ps:List Str)(sp:Sp'):Prop:=jU P w K mg base CX k f fd ps (gJ K sp)
def fb(N:List Str)(vs:List PV):St':=vs.map some++List.replicate (N.length - vs.length) none
theorem ml{K:PySem.W.Frag}{N:List Str}{vs':List PV}{vs:List V}{H':PHp}{H:Hp}(r:RPs K H vs' vs)(h:HR K H' H):SR K (H',H) (fb N vs') H' (L2.start N vs) H:=by
 have hl:=RPs.length _ r;refine⟨by simp[fb,L2.start,hl],fun i v' e=>?_,h,Ev.refl _ _⟩;unfold fb at e;unfold L2.start;by_cases hi:i<vs'.length
 ·rw[Ja (by simpa using hi)]at e;rw[Ja (by simpa[hl]using hi)];rw[II]at e ⊢;cases q:vs'[i]? with
  | none=>rw[q]at e;cases e
  | some w =>
   rw[q]at e;cases e;obtain⟨u,e1,e2⟩:=RPs.get _ r q;exact⟨u,by rw[e1];rfl,e2⟩
 ·rw[Jf (by simpa using hi)]at e;rw[List.getElem?_replicate]at e;split at e<;>cases e
def ends(Q:VK'):di where
 nx:=fun _ H=>∃H3,Sub H3 H/\Q .non H3
 rt:=fun v H=>∃H3,Sub H3 H/\Q v H3
section
variable {P:Program}{w:World}{K:PySem.W.Frag}{mg:Str->Option Value}{base:Heap}
theorem okU{x qual:Str}{st:Stmt}{f:Addr}{fd:FuncData}{N ps:List Str}{k:Nat}{sp:Sp'}(F:Fun K x qual st f fd)(S:aB N ps (ak st))(len:∀vs H Q E,sp vs H Q E->vs.length=ps.length)
  (hbody:∀(cdv:Value) (A:Around) (outer:List Env) (s:Shared) (H:Hp) (E:XK) (B:Bs),cq k (A.deeper (envOfC qual (ak st) s.heap.objs.size f cdv)) ->
   ∃t,iO (mf CX0 P w K mg base N qual (ak st) f cdv A outer s H E).nox B (dS st) t/\∀vs' H' Q' E',sp vs' H' Q' E'->t (ends Q') (fb N vs') H'):aO P w K mg base CX0 (k+1) f fd ps sp:=by
 refine F.ok S (fun vs H Q E zz=>?_) (fun cdv A outer s H vs Q E hr h=>?_)
 ·obtain⟨vs',H',Q',E',r,hr,h,_⟩:=zz;rw[RPs.length _ r];exact len _ _ _ _ h
 ·obtain⟨vs',H',Q',E',r,hh,h,k1,k2⟩:=h;obtain⟨t,ht,hq⟩:=hbody cdv A outer s H E (H',H) hr;refine⟨_,ht,fb N vs',H',_,ml r hh,hq vs' H' Q' E' h,?_,?_,?_,?_⟩
  ·rintro σ1' H1' σ1 H1 ⟨H3,sb,q⟩ s1 e1;exact k1 _ H3 _ H1 q (by simp[RP]) (s1.hp.sub sb) (e1.sub sb)
  ·rintro v' H1' v H1 ⟨H3,sb,q⟩ r1 s1 e1;exact k1 _ H3 _ H1 q r1 (s1.sub sb) (e1.sub sb)
  ·intro _ _ _ _ z;exact z.elim
  ·intro _ _ _ _ z;exact z.elim
end
section
variable {X:Cx}{CX:CXT}{k:Nat}{f C:Addr}{fd:FuncData}{ps:List Str}{sp:Sp'}{E:XK}{E':XK'}{x m:Str}{p pos apos:Pos}{e o:Expr}{es:List Expr}{ta:TE'}{t:TA'}
def tI(sp:Sp')(E':XK')(t:TA'):TE':=fun σ H Q=>t σ H fun vs H1=>sp vs H1 Q E'
abbrev X0:XK':=fun _ _ _=>False
theorem su{K:PySem.W.Frag}{σ:L2.St}{H:Hp}{Q:VK}(h:low K B (tI sp X0 t) σ H Q):zZ (gJ K sp) [] E0 (uP K B t) σ H Q:=by
 obtain⟨σ',H',Q',s,h,k⟩:=h;refine⟨σ',H',_,s,h,fun vs' H1' vs H1 h1 r1 s1 e1=>?_⟩;show gJ K sp (vs++[]) H1 Q E0;rw[IP];exact⟨vs',H1',Q',X0,r1,s1.hp,h1,fun v' H2' v H2 q r2 h2 e2=>k v' H2' v H2 q r2 (s1.kp e2 h2) (e1.trans e2),fun _ _ _ _ z=>z.elim⟩
theorem ar(F:aO X.prog X.w X.K X.mg X.base CX0 k f fd ps sp)(hr:cq k X.A)(hg:Gl X x)(hm:X.mg x=some (.ref f))(hk:PySem.W.keepIn X.K (.ref f)=true)(hb:Binds X.K fd ps [])
  (ha:PA' X B (e::es) t) (hdb:(x==("__debug__":Str))=false:=by decide) (he:starEach (e::es) X.env=(false,eval e X.env)::starEach es X.env:=by rfl) (hpl:(backTo pos (starEach es X.env)).any (·.1)=false:=by rfl) :
  PE' X B (.Call (.Name x p) (e::es) [] pos) (tI sp X0 t):=a6 (y2 F hr hg hm hk hb .nil vL ha hdb he hpl) fun _ _ _ h=>su h
theorem Dp{K:PySem.W.Frag}{H:Hp}{a:Addr}{xs:List V}(o:rQ H)(h:SqL K H a xs):FzL K H a xs:=by
 rcases h with(h | h) | h
 ·rcases o a with z |⟨ob,ys,z⟩
  ·rw[z]at h;cases h
  ·rw[z]at h;cases h
 ·exact .inl h
 ·exact .inr h
def spL:Sp':=fun vs H Q _=>match vs with
 | [.fls l]=>∃ns:List Int,l=ns.map PV.int/\ns.length≤63/\Q (.bl true) H
 | _=>False
theorem rq{K:PySem.W.Frag}{H:Hp}{a:Addr}{ns:List Int}(hl:ns.length≤63)(o:rQ H)(h:SqL K H a (ns.map V.int)):gJ K spL [.ref a] H (fun v _=>v=.bl true) fun _ _ _=>False:=by
 refine⟨[.fls (ns.map PV.int)],fun _=>none,fun v _=>v=.bl true,X0,?_,fun _ _ z=>(nomatch z),⟨ns,rfl,hl,rfl⟩,fun v' _ v _ q r _ _=>?_,fun _ _ _ _ z=>z.elim⟩
 ·refine RPs.cons _ ?_ (RPs.nil _);simp only[RP];exact⟨a,_,rfl,Dp o h,RPs.ints _ _⟩
 ·subst q;simpa[RP]using r
end
end
section
variable {B:Bs}
mutual
def deq:PV->PV->Bool
 | .non,.non=>true
 | .bl a,.bl b=>a==b
 | .int a,.int b=>a==b
 | .bl a,.int b=>(if a then 1 else 0)==b
 | .int a,.bl b=>a==(if b then 1 else 0)
 | .str a,.str b=>a==b
 | .tup l,.tup m=>dm l m
 | .fls l,.fls m=>dm l m
 | _,_=>false
def dm:List PV->List PV->Bool
 | [],[]=>true
 | x::l,y::m=>deq x y&&dm l m
 | _,_=>false
end
def flat:Nat->PV->Bool
 | _,.non=>true
 | _,.bl _=>true
 | _,.int _=>true
 | _,.str _=>true
 | n+1,.tup l=>l.all (flat n)
 | n+1,.fls l=>l.all (flat n)
 | _,_=>false
theorem cf:∀{n m:Nat} {x:PV},n≤m->flat n x=true->flat m x=true
 | n,m,.non,_,_=>by cases m<;>rfl
 | n,m,.bl _,_,_=>by cases m<;>rfl
 | n,m,.int _,_,_=>by cases m<;>rfl
 | n,m,.str _,_,_=>by cases m<;>rfl
 | 0,m,.tup _,_,h=>by cases h
 | 0,m,.fls _,_,h=>by cases h
 | n+1,0,_,h,_=>by omega
 | n+1,m+1,.tup l,h,q=>by
  simp only[flat,Ir]at q ⊢;exact fun x hx=>cf (by omega) (q x hx)
 | n+1,m+1,.fls l,h,q=>by
  simp only[flat,Ir]at q ⊢;exact fun x hx=>cf (by omega) (q x hx)
 | n,m,.ref _,_,h=>by cases n<;>cases h
 | n,m,.oth _,_,h=>by cases n<;>cases h
theorem cu:∀(l m:List PV),dm l m=((List.range (min l.length m.length)).all (fun i=>deq (l.getD i .non) (m.getD i .non))&&l.length==m.length)
 | [],[]=>by simp[dm]
 | [],_::_=>by simp[dm]
 | _::_,[]=>by simp[dm]
 | x::l,y::m=>by
  simp only[dm,cu l m,Ih];rw[show min (l.length+1) (m.length+1)=min l.length m.length+1 by omega,List.range_succ_eq_map,List.all_cons,List.all_map];simp only[List.getD_cons_zero,Bool.and_assoc];congr 1;congr 1;simp
theorem g6{n:Nat}:∀(l:List PV),(∀x∈l,deq x x=true)->dm l l=true
 | [],_=>rfl
 | x::l,h=>by
  have h1:=h x (by simp);have h2:=g6 (n:=n) l fun y hy=>h y (by simp[hy]);simp only[dm,h1,h2,Bool.and_self]
theorem eR:∀{n:Nat} {x:PV},flat n x=true->deq x x=true
 | _,.non,_=>by simp[deq]
 | _,.bl _,_=>by simp[deq]
 | _,.int _,_=>by simp[deq]
 | _,.str _,_=>by simp[deq]
 | n+1,.tup l,h=>by
  simp only[flat,Ir]at h;simp only[deq];exact g6 (n:=0) l fun x hx=>eR (h x hx)
 | n+1,.fls l,h=>by
  simp only[flat,Ir]at h;simp only[deq];exact g6 (n:=0) l fun x hx=>eR (h x hx)
 | 0,.tup _,h=>by cases h
 | 0,.fls _,h=>by cases h
 | n,.ref _,h=>by cases n<;>cases h
 | n,.oth _,h=>by cases n<;>cases h
section
variable {X:Cx}{pins:List (Addr×Obj)}{σ:L2.St}{H:Hp}{s:Shared}
def RR(K:PySem.W.Frag)(H:Hp)(x:PV)(u:Value):Prop:=∃v,RP K H x v/\RelV v u
def RL(K:PySem.W.Frag)(H:Hp)(l:List PV)(us:List Value):Prop:=∃vs,RPs K H l vs/\Vals vs us
def RD(K:PySem.W.Frag)(H:Hp)(x:PV)(u:Value):Prop:=match x with
 | .fls l=>∃a vs,u=.ref a/\SqL K H a vs/\RPs K H l vs
 | x=>RR K H x u
theorem RL.get{K:PySem.W.Frag}{l:List PV}{us:List Value}(r:RL K H l us){i:Nat}{u:Value}(e:us[i]?=some u):∃x,l[i]?=some x/\RR K H x u:=by
 obtain⟨vs,r1,r2⟩:=r;have hl:=r2.length;have hl2:=RPs.length _ r1;have hi:i<l.length:=by
  have:=(vM.mp e).1;omega
 obtain⟨v,e1,e2⟩:=RPs.get _ r1 (sH hi);obtain⟨w,e3,e4⟩:=r2.get e1;rw[e]at e3;cases e3;exact⟨_,sH hi,v,e2,e4⟩
theorem RL.length{K:PySem.W.Frag}{l:List PV}{us:List Value}(r:RL K H l us):us.length=l.length:=by
 obtain⟨vs,r1,r2⟩:=r;rw[←r2.length,RPs.length _ r1]
theorem RR.rd{K:PySem.W.Frag}{x:PV}{u:Value}(r:RR K H x u):RD K H x u:=by
 cases x with
 | fls l =>
  obtain⟨v,r1,r2⟩:=r;simp only[RP]at r1;obtain⟨a,us,rfl,q,rr⟩:=r1;cases r2;exact⟨a,us,rfl,q.sq,rr⟩
 | _=>exact r
theorem bX(I:Inv X pins σ H s){l:List PV}{u:Value}(r:RD X.K H (.tup l) u):∃a its,u=.ref a/\RL X.K H l its/\s.heap.IsTuple a its.toArray:=by
 obtain⟨v,r1,r2⟩:=r;simp only[RP]at r1;obtain⟨a,us,rfl,q,rr⟩:=r1;cases r2;obtain⟨its,rv,p,_⟩:=I.tuple q;exact⟨a,its,rfl,⟨us,rr,rv⟩,p⟩
theorem bY(I:Inv X pins σ H s){l:List PV}{u:Value}(r:RD X.K H (.fls l) u):∃a its,u=.ref a/\RL X.K H l its/\s.heap.IsList a its.toArray:=by
 obtain⟨a,us,rfl,q,rr⟩:=r;obtain⟨its,rv,p,_⟩:=I.list q;exact⟨a,its,rfl,⟨us,rr,rv⟩,p.isList⟩
theorem mi{a:Addr}{x y:Array Value}(h1:s.heap.IsTuple a x)(h2:s.heap.IsTuple a y):x=y:=by
 obtain⟨o,e,c,n,d⟩:=h1;obtain⟨o',e',c',n',d'⟩:=h2;rw[e]at e';cases e';rw[d]at d';cases d';rfl
theorem oQ{a:Addr}{x y:Array Value}(h1:s.heap.IsList a x)(h2:s.heap.IsList a y):x=y:=by
 obtain⟨o,e,c,n,d⟩:=h1;obtain⟨o',e',c',n',d'⟩:=h2;rw[e]at e';cases e';rw[d]at d';cases d';rfl
theorem nz{a:Addr}{x y:Array Value}(h1:s.heap.IsTuple a x)(h2:s.heap.IsList a y):False:=by
 obtain⟨o,e,c,n,d⟩:=h1;obtain⟨o',e',c',n',d'⟩:=h2;rw[e]at e';cases e';rw[c]at c';exact absurd c' (by decide)
theorem RL.list_inj{K:PySem.W.Frag}{n:Nat}(ih:∀{x y:PV} {u:Value},flat n x=true->flat n y=true->RD K H x u->RD K H y u->x=y){l m:List PV}{us:List Value}(h1:l.all (flat n)=true)(h2:m.all (flat n)=true)
  (r1:RL K H l us) (r2:RL K H m us):l=m:=by
 rw[Ir]at h1 h2;refine List.ext_getElem? fun i=>?_;cases e:us[i]? with
 | none =>
  have:=List.getElem?_eq_none_iff.mp e;rw[Jm (by rw[←r1.length];exact this),Jm (by rw[←r2.length];exact this)]
 | some u =>
  obtain⟨x,ex,rx⟩:=r1.get e;obtain⟨y,ey,ry⟩:=r2.get e;rw[ex,ey,ih (h1 x (Iw ex)) (h2 y (Iw ey)) rx.rd ry.rd]
theorem lP(I:Inv X pins σ H s):∀(n:Nat) {x y:PV} {u:Value},flat n x=true->flat n y=true->RD X.K H x u->RD X.K H y u->x=y:=by
 have sc:∀{x:PV} {u:Value},RD X.K H x u->(∀l,x≠.fls l)->RR X.K H x u:=fun {x u} r h=>by
  cases x with
  | fls l=>exact absurd rfl (h l)
  | _=>exact r
 intro n
 induction n with
 | zero =>
  intro x y u hx hy rx ry;cases x<;>first |(cases hx;done) | skip
  all_goals cases y<;>first |(cases hy;done) | skip
  all_goals
   obtain⟨v,r1,r2⟩:=sc rx (by intro l z;cases z);obtain⟨v',r1',r2'⟩:=sc ry (by intro l z;cases z);simp only[RP]at r1 r1';subst r1;subst r1';have:=RelV.inj r2 r2'
   first | rfl |(cases this;done) |(cases this;rfl)
 | succ n ih =>
  intro x y u hx hy rx ry;cases x with
  | tup l =>
   obtain⟨a,its,rfl,rl,p⟩:=bX I rx;cases y with
   | tup m =>
    obtain⟨b,its',e,rl',p'⟩:=bX I ry;cases e;have:=mi p p';have e2:its=its':=by simpa using this
    subst e2;rw[RL.list_inj (n:=n) ih hx hy rl rl']
   | fls m =>
    obtain⟨b,its',e,rl',p'⟩:=bY I ry;cases e;exact(nz p p').elim
   | ref a=>cases hy
   | oth a=>cases hy
   | _ =>
    obtain⟨v',r1',r2'⟩:=sc ry (by intro l z;cases z);simp only[RP]at r1';subst r1';simp[L2.RelV]at r2'
  | fls l =>
   obtain⟨a,its,rfl,rl,p⟩:=bY I rx;cases y with
   | tup m =>
    obtain⟨b,its',e,rl',p'⟩:=bX I ry;cases e;exact(nz p' p).elim
   | fls m =>
    obtain⟨b,its',e,rl',p'⟩:=bY I ry;cases e;have:=oQ p p';have e2:its=its':=by simpa using this
    subst e2;rw[RL.list_inj (n:=n) ih hx hy rl rl']
   | ref a=>cases hy
   | oth a=>cases hy
   | _ =>
    obtain⟨v',r1',r2'⟩:=sc ry (by intro l z;cases z);simp only[RP]at r1';subst r1';simp[L2.RelV]at r2'
  | ref a=>cases hx
  | oth a=>cases hx
  | _ =>
   cases y with
   | tup m =>
    obtain⟨b,its',e,rl',p'⟩:=bX I ry;subst e;obtain⟨v',r1',r2'⟩:=sc rx (by intro l z;cases z);simp only[RP]at r1';subst r1';simp[L2.RelV]at r2'
   | fls m =>
    obtain⟨b,its',e,rl',p'⟩:=bY I ry;subst e;obtain⟨v',r1',r2'⟩:=sc rx (by intro l z;cases z);simp only[RP]at r1';subst r1';simp[L2.RelV]at r2'
   | ref a=>cases hy
   | oth a=>cases hy
   | _ =>
    obtain⟨v,r1,r2⟩:=sc rx (by intro l z;cases z);obtain⟨v',r1',r2'⟩:=sc ry (by intro l z;cases z);simp only[RP]at r1 r1';subst r1;subst r1';have:=RelV.inj r2 r2'
    first | rfl |(cases this;done) |(cases this;rfl)
open SeqAt in
theorem gB(I:Inv X pins σ H s):∀(n:Nat) {A:Around} {x y:PV} {u w:Value},A.units+n<cLine->flat n x=true->flat n y=true->RD X.K H x u->RD X.K H y w->EqAt A s u w (deq x y)/\RcAt A s u w (deq x y):=by
 have sc:∀{x:PV} {u:Value},RD X.K H x u->(∀l,x≠.fls l)->RR X.K H x u:=fun {x u} r h=>by
  cases x with
  | fls l=>exact absurd rfl (h l)
  | _=>exact r
 have v_non:∀{u:Value},RD X.K H .non u->u=.none:=fun {u} r=>by
  obtain⟨v,r1,r2⟩:=sc r (by intro l z;cases z);simp only[RP]at r1;subst r1;exact r2
 have v_bl:∀{b:Bool} {u:Value},RD X.K H (.bl b) u->u=.bool b:=fun {b u} r=>by
  obtain⟨v,r1,r2⟩:=sc r (by intro l z;cases z);simp only[RP]at r1;subst r1;exact r2
 have v_int:∀{i:Int} {u:Value},RD X.K H (.int i) u->∃t,u=.int i t:=fun {b u} r=>by
  obtain⟨v,r1,r2⟩:=sc r (by intro l z;cases z);simp only[RP]at r1;subst r1;exact r2
 have v_str:∀{i:Str} {u:Value},RD X.K H (.str i) u->∃t,u=.str i t:=fun {b u} r=>by
  obtain⟨v,r1,r2⟩:=sc r (by intro l z;cases z);simp only[RP]at r1;subst r1;exact r2
 intro n
 induction n with
 | zero =>
  intro A x y u w hu hx hy rx ry;cases x with
  | non =>
   rw[v_non rx];cases y with
   | non=>rw[v_non ry];exact⟨EqAt.same _,RcAt.none_none⟩
   | bl b=>rw[v_bl ry];exact⟨EqAt.none_bool b,RcAt.none_bool b⟩
   | int b=>obtain⟨t,rfl⟩:=v_int ry;exact⟨EqAt.none_int b t,RcAt.none_int b t⟩
   | str b=>obtain⟨t,rfl⟩:=v_str ry;exact⟨EqAt.none_str b t,RcAt.none_str b t⟩
   | _=>cases hy
  | bl a =>
   rw[v_bl rx];cases y with
   | non=>rw[v_non ry];exact⟨EqAt.bool_none a,RcAt.bool_none a⟩
   | bl b=>rw[v_bl ry];exact⟨EqAt.bool_bool a b,RcAt.bool_bool a b⟩
   | int b=>obtain⟨t,rfl⟩:=v_int ry;exact⟨EqAt.bool_int a b t,RcAt.bool_int a b t⟩
   | str b=>obtain⟨t,rfl⟩:=v_str ry;exact⟨EqAt.bool_str a b t,RcAt.bool_str a b t⟩
   | _=>cases hy
  | int a =>
   obtain⟨t0,rfl⟩:=v_int rx;cases y with
   | non=>rw[v_non ry];exact⟨EqAt.int_none a t0,RcAt.int_none a t0⟩
   | bl b=>rw[v_bl ry];exact⟨EqAt.int_bool a t0 b,RcAt.int_bool a t0 b⟩
   | int b=>obtain⟨t,rfl⟩:=v_int ry;exact⟨EqAt.int_int a t0 b t,RcAt.int_int a t0 b t⟩
   | str b=>obtain⟨t,rfl⟩:=v_str ry;exact⟨EqAt.int_str a t0 b t,RcAt.int_str a t0 b t⟩
   | _=>cases hy
  | str a =>
   obtain⟨t0,rfl⟩:=v_str rx;cases y with
   | non=>rw[v_non ry];exact⟨EqAt.str_none a t0,RcAt.str_none a t0⟩
   | bl b=>rw[v_bl ry];exact⟨EqAt.str_bool a t0 b,RcAt.str_bool a t0 b⟩
   | int b=>obtain⟨t,rfl⟩:=v_int ry;exact⟨EqAt.str_int a t0 b t,RcAt.str_int a t0 b t⟩
   | str b=>obtain⟨t,rfl⟩:=v_str ry;exact⟨EqAt.str_str a t0 b t,RcAt.str_str a t0 b t⟩
   | _=>cases hy
  | _=>cases hx
 | succ n ih =>
  intro A x y u w hu hx hy rx ry;have hu0:A.units<cLine:=by omega
  have hu1:A.in1.units+n<cLine:=by show A.units+1+n<cLine;omega
  cases x with
  | tup l =>
   obtain⟨a,its,rfl,rl,p⟩:=bX I rx;cases y with
   | non=>rw[v_non ry];exact⟨EqAt.tuple_none p hu0,RcAt.tuple_none p hu0⟩
   | bl b=>rw[v_bl ry];exact⟨EqAt.tuple_bool b p hu0,RcAt.tuple_bool b p hu0⟩
   | int b=>obtain⟨t,rfl⟩:=v_int ry;exact⟨EqAt.tuple_int b t p hu0,RcAt.tuple_int b t p hu0⟩
   | str b=>obtain⟨t,rfl⟩:=v_str ry;exact⟨EqAt.tuple_str b t p hu0,RcAt.tuple_str b t p hu0⟩
   | tup m =>
    obtain⟨b,its',rfl,rl',p'⟩:=bX I ry;have key:RcAt A s (.ref a) (.ref b) (deq (.tup l) (.tup m)):=by
     have:=RcAt.tuples (e:=fun i=>deq (l.getD i .non) (m.getD i .non)) p p' hu0 fun j h1 h2=>by
      have h1':j<its.length:=by simpa using h1
      have h2':j<its'.length:=by simpa using h2
      obtain⟨x,ex,rx'⟩:=rl.get (sH h1');obtain⟨y,ey,ry'⟩:=rl'.get (sH h2');have q:=ih hu1 (Ir.mp hx x (Iw ex)) (Ir.mp hy y (Iw ey)) rx'.rd ry'.rd;have e1:l.getD j .non=x:=by rw[wJ,ex];rfl
      have e2:m.getD j .non=y:=by rw[wJ,ey];rfl
      rw[e1,e2];simpa using q.1
     have e:deq (.tup l) (.tup m)=((List.range (min its.toArray.size its'.toArray.size)).all (fun i=>deq (l.getD i .non) (m.getD i .non))&&its.toArray.size==its'.toArray.size):=by
      simp only[deq,cu,Br,rl.length,rl'.length]
     rw[e];exact this
    refine⟨?_,key⟩;by_cases hab:a=b
    ·subst hab;have:=lP I (n+1) hx hy rx ry;rw[←this,eR hx];exact EqAt.same _
    ·exact EqAt.of_refs hab key
   | fls m =>
    obtain⟨b,its',rfl,rl',p'⟩:=bY I ry;exact⟨EqAt.tuple_list p p' hu0,RcAt.tuple_list p p' hu0⟩
   | _=>cases hy
  | fls l =>
   obtain⟨a,its,rfl,rl,p⟩:=bY I rx;cases y with
   | non=>rw[v_non ry];exact⟨EqAt.list_none p hu0,RcAt.list_none p hu0⟩
   | bl b=>rw[v_bl ry];exact⟨EqAt.list_bool b p hu0,RcAt.list_bool b p hu0⟩
   | int b=>obtain⟨t,rfl⟩:=v_int ry;exact⟨EqAt.list_int b t p hu0,RcAt.list_int b t p hu0⟩
   | str b=>obtain⟨t,rfl⟩:=v_str ry;exact⟨EqAt.list_str b t p hu0,RcAt.list_str b t p hu0⟩
   | tup m =>
    obtain⟨b,its',rfl,rl',p'⟩:=bX I ry;exact⟨EqAt.list_tuple p p' hu0,RcAt.list_tuple p p' hu0⟩
   | fls m =>
    obtain⟨b,its',rfl,rl',p'⟩:=bY I ry;have key:RcAt A s (.ref a) (.ref b) (deq (.fls l) (.fls m)):=by
     by_cases hs:its.length=its'.length
     ·have:=RcAt.lists (e:=fun i=>deq (l.getD i .non) (m.getD i .non)) p p' (by simpa using hs) hu0 fun j h1 h2=>by
       have h1':j<its.length:=by simpa using h1
       have h2':j<its'.length:=by simpa using h2
       obtain⟨x,ex,rx'⟩:=rl.get (sH h1');obtain⟨y,ey,ry'⟩:=rl'.get (sH h2');have q:=ih hu1 (Ir.mp hx x (Iw ex)) (Ir.mp hy y (Iw ey)) rx'.rd ry'.rd;have e1:l.getD j .non=x:=by rw[wJ,ex];rfl
       have e2:m.getD j .non=y:=by rw[wJ,ey];rfl
       rw[e1,e2];simpa using q.1
      have e:deq (.fls l) (.fls m)=(List.range its.toArray.size).all (fun i=>deq (l.getD i .non) (m.getD i .non)):=by
       have e0:l.length=m.length:=by rw[←rl.length,← rl'.length];exact hs
       simp[deq,cu,rl.length,e0]
      rw[e];exact this
     ·have e:deq (.fls l) (.fls m)=false:=by
       have e0:l.length≠m.length:=by rw[←rl.length,← rl'.length];exact hs
       simp[deq,cu,e0]
      rw[e];exact RcAt.lists_lengths p p' (by simpa using hs) hu0
    refine⟨?_,key⟩;by_cases hab:a=b
    ·subst hab;have:=lP I (n+1) hx hy rx ry;rw[←this,eR hx];exact EqAt.same _
    ·exact EqAt.of_refs hab key
   | _=>cases hy
  | ref a=>cases hx
  | oth a=>cases hx
  | non =>
   cases y with
   | tup m=>obtain⟨b,its',rfl,rl',p'⟩:=bX I ry;rw[v_non rx];exact⟨EqAt.none_tuple p' hu0,RcAt.none_tuple p' hu0⟩
   | fls m=>obtain⟨b,its',rfl,rl',p'⟩:=bY I ry;rw[v_non rx];exact⟨EqAt.none_list p' hu0,RcAt.none_list p' hu0⟩
   | ref a=>cases hy
   | oth a=>cases hy
   | _=>exact ih (by omega) (by cases n<;>rfl) (by cases n<;>rfl) rx ry
  | bl i =>
   cases y with
   | tup m=>obtain⟨b,its',rfl,rl',p'⟩:=bX I ry;rw[v_bl rx];exact⟨EqAt.bool_tuple i p' hu0,RcAt.bool_tuple i p' hu0⟩
   | fls m=>obtain⟨b,its',rfl,rl',p'⟩:=bY I ry;rw[v_bl rx];exact⟨EqAt.bool_list i p' hu0,RcAt.bool_list i p' hu0⟩
   | ref a=>cases hy
   | oth a=>cases hy
   | _=>exact ih (by omega) (by cases n<;>rfl) (by cases n<;>rfl) rx ry
  | int i =>
   cases y with
   | tup m=>obtain⟨b,its',rfl,rl',p'⟩:=bX I ry;obtain⟨t,rfl⟩:=v_int rx;exact⟨EqAt.int_tuple i t p' hu0,RcAt.int_tuple i t p' hu0⟩
   | fls m=>obtain⟨b,its',rfl,rl',p'⟩:=bY I ry;obtain⟨t,rfl⟩:=v_int rx;exact⟨EqAt.int_list i t p' hu0,RcAt.int_list i t p' hu0⟩
   | ref a=>cases hy
   | oth a=>cases hy
   | _=>exact ih (by omega) (by cases n<;>rfl) (by cases n<;>rfl) rx ry
  | str i =>
   cases y with
   | tup m=>obtain⟨b,its',rfl,rl',p'⟩:=bX I ry;obtain⟨t,rfl⟩:=v_str rx;exact⟨EqAt.str_tuple i t p' hu0,RcAt.str_tuple i t p' hu0⟩
   | fls m=>obtain⟨b,its',rfl,rl',p'⟩:=bY I ry;obtain⟨t,rfl⟩:=v_str rx;exact⟨EqAt.str_list i t p' hu0,RcAt.str_list i t p' hu0⟩
   | ref a=>cases hy
   | oth a=>cases hy
   | _=>exact ih (by omega) (by cases n<;>rfl) (by cases n<;>rfl) rx ry
end
end
section
variable {B:Bs}
section
variable {X:Cx}{pins:List (Addr×Obj)}{σ:L2.St}{H:Hp}{s:Shared}
open SeqAt in
theorem zA(I:Inv X pins σ H s):∀(n:Nat) {A:Around} {x y:PV} {u w:Value},A.units+n<cLine->flat n x=true->flat n y=true->RD X.K H x u->RD X.K H y w->RcNeAt A s u w (!deq x y):=by
 have sc:∀{x:PV} {u:Value},RD X.K H x u->(∀l,x≠.fls l)->RR X.K H x u:=fun {x u} r h=>by
  cases x with
  | fls l=>exact absurd rfl (h l)
  | _=>exact r
 have v_non:∀{u:Value},RD X.K H .non u->u=.none:=fun {u} r=>by
  obtain⟨v,r1,r2⟩:=sc r (by intro l z;cases z);simp only[RP]at r1;subst r1;exact r2
 have v_bl:∀{b:Bool} {u:Value},RD X.K H (.bl b) u->u=.bool b:=fun {b u} r=>by
  obtain⟨v,r1,r2⟩:=sc r (by intro l z;cases z);simp only[RP]at r1;subst r1;exact r2
 have v_int:∀{i:Int} {u:Value},RD X.K H (.int i) u->∃t,u=.int i t:=fun {b u} r=>by
  obtain⟨v,r1,r2⟩:=sc r (by intro l z;cases z);simp only[RP]at r1;subst r1;exact r2
 have v_str:∀{i:Str} {u:Value},RD X.K H (.str i) u->∃t,u=.str i t:=fun {b u} r=>by
  obtain⟨v,r1,r2⟩:=sc r (by intro l z;cases z);simp only[RP]at r1;subst r1;exact r2
 intro n
 induction n with
 | zero =>
  intro A x y u w hu hx hy rx ry;cases x with
  | non =>
   rw[v_non rx];cases y with
   | non=>rw[v_non ry];exact RcNeAt.none_none
   | bl b=>rw[v_bl ry];exact RcNeAt.none_bool b
   | int b=>obtain⟨t,rfl⟩:=v_int ry;exact RcNeAt.none_int b t
   | str b=>obtain⟨t,rfl⟩:=v_str ry;exact RcNeAt.none_str b t
   | _=>cases hy
  | bl a =>
   rw[v_bl rx];cases y with
   | non=>rw[v_non ry];exact RcNeAt.bool_none a
   | bl b=>rw[v_bl ry];exact RcNeAt.bool_bool a b
   | int b=>obtain⟨t,rfl⟩:=v_int ry;exact RcNeAt.bool_int a b t
   | str b=>obtain⟨t,rfl⟩:=v_str ry;exact RcNeAt.bool_str a b t
   | _=>cases hy
  | int a =>
   obtain⟨t0,rfl⟩:=v_int rx;cases y with
   | non=>rw[v_non ry];exact RcNeAt.int_none a t0
   | bl b=>rw[v_bl ry];exact RcNeAt.int_bool a t0 b
   | int b=>obtain⟨t,rfl⟩:=v_int ry;exact RcNeAt.int_int a t0 b t
   | str b=>obtain⟨t,rfl⟩:=v_str ry;exact RcNeAt.int_str a t0 b t
   | _=>cases hy
  | str a =>
   obtain⟨t0,rfl⟩:=v_str rx;cases y with
   | non=>rw[v_non ry];exact RcNeAt.str_none a t0
   | bl b=>rw[v_bl ry];exact RcNeAt.str_bool a t0 b
   | int b=>obtain⟨t,rfl⟩:=v_int ry;exact RcNeAt.str_int a t0 b t
   | str b=>obtain⟨t,rfl⟩:=v_str ry;exact RcNeAt.str_str a t0 b t
   | _=>cases hy
  | _=>cases hx
 | succ n ih =>
  intro A x y u w hu hx hy rx ry;have hu0:A.units<cLine:=by omega
  have hu1:A.in1.units+n<cLine:=by show A.units+1+n<cLine;omega
  cases x with
  | tup l =>
   obtain⟨a,its,rfl,rl,p⟩:=bX I rx;cases y with
   | non=>rw[v_non ry];exact RcNeAt.tuple_none p hu0
   | bl b=>rw[v_bl ry];exact RcNeAt.tuple_bool b p hu0
   | int b=>obtain⟨t,rfl⟩:=v_int ry;exact RcNeAt.tuple_int b t p hu0
   | str b=>obtain⟨t,rfl⟩:=v_str ry;exact RcNeAt.tuple_str b t p hu0
   | tup m =>
    obtain⟨b,its',rfl,rl',p'⟩:=bX I ry;have key:RcNeAt A s (.ref a) (.ref b) (!deq (.tup l) (.tup m)):=by
     have:=RcNeAt.tuples (e:=fun i=>deq (l.getD i .non) (m.getD i .non)) p p' hu0 fun j h1 h2=>by
      have h1':j<its.length:=by simpa using h1
      have h2':j<its'.length:=by simpa using h2
      obtain⟨x,ex,rx'⟩:=rl.get (sH h1');obtain⟨y,ey,ry'⟩:=rl'.get (sH h2');have q:=gB I n hu1 (Ir.mp hx x (Iw ex)) (Ir.mp hy y (Iw ey)) rx'.rd ry'.rd;have e1:l.getD j .non=x:=by rw[wJ,ex];rfl
      have e2:m.getD j .non=y:=by rw[wJ,ey];rfl
      rw[e1,e2];simpa using q.1
     have e:deq (.tup l) (.tup m)=((List.range (min its.toArray.size its'.toArray.size)).all (fun i=>deq (l.getD i .non) (m.getD i .non))&&its.toArray.size==its'.toArray.size):=by
      simp only[deq,cu,Br,rl.length,rl'.length]
     rw[e];exact this
    exact key
   | fls m =>
    obtain⟨b,its',rfl,rl',p'⟩:=bY I ry;exact RcNeAt.tuple_list p p' hu0
   | _=>cases hy
  | fls l =>
   obtain⟨a,its,rfl,rl,p⟩:=bY I rx;cases y with
   | non=>rw[v_non ry];exact RcNeAt.list_none p hu0
   | bl b=>rw[v_bl ry];exact RcNeAt.list_bool b p hu0
   | int b=>obtain⟨t,rfl⟩:=v_int ry;exact RcNeAt.list_int b t p hu0
   | str b=>obtain⟨t,rfl⟩:=v_str ry;exact RcNeAt.list_str b t p hu0
   | tup m =>
    obtain⟨b,its',rfl,rl',p'⟩:=bX I ry;exact RcNeAt.list_tuple p p' hu0
   | fls m =>
    obtain⟨b,its',rfl,rl',p'⟩:=bY I ry;have key:RcNeAt A s (.ref a) (.ref b) (!deq (.fls l) (.fls m)):=by
     by_cases hs:its.length=its'.length
     ·have:=RcNeAt.lists (e:=fun i=>deq (l.getD i .non) (m.getD i .non)) p p' (by simpa using hs) hu0 fun j h1 h2=>by
       have h1':j<its.length:=by simpa using h1
       have h2':j<its'.length:=by simpa using h2
       obtain⟨x,ex,rx'⟩:=rl.get (sH h1');obtain⟨y,ey,ry'⟩:=rl'.get (sH h2');have q:=gB I n hu1 (Ir.mp hx x (Iw ex)) (Ir.mp hy y (Iw ey)) rx'.rd ry'.rd;have e1:l.getD j .non=x:=by rw[wJ,ex];rfl
       have e2:m.getD j .non=y:=by rw[wJ,ey];rfl
       rw[e1,e2];simpa using q.1
      have e:deq (.fls l) (.fls m)=(List.range its.toArray.size).all (fun i=>deq (l.getD i .non) (m.getD i .non)):=by
       have e0:l.length=m.length:=by rw[←rl.length,← rl'.length];exact hs
       simp[deq,cu,rl.length,e0]
      rw[e];exact this
     ·have e:deq (.fls l) (.fls m)=false:=by
       have e0:l.length≠m.length:=by rw[←rl.length,← rl'.length];exact hs
       simp[deq,cu,e0]
      rw[e];exact RcNeAt.lists_lengths p p' (by simpa using hs) hu0
    exact key
   | _=>cases hy
  | ref a=>cases hx
  | oth a=>cases hx
  | non =>
   cases y with
   | tup m=>obtain⟨b,its',rfl,rl',p'⟩:=bX I ry;rw[v_non rx];exact RcNeAt.none_tuple p' hu0
   | fls m=>obtain⟨b,its',rfl,rl',p'⟩:=bY I ry;rw[v_non rx];exact RcNeAt.none_list p' hu0
   | ref a=>cases hy
   | oth a=>cases hy
   | _=>exact ih (by omega) (by cases n<;>rfl) (by cases n<;>rfl) rx ry
  | bl i =>
   cases y with
   | tup m=>obtain⟨b,its',rfl,rl',p'⟩:=bX I ry;rw[v_bl rx];exact RcNeAt.bool_tuple i p' hu0
   | fls m=>obtain⟨b,its',rfl,rl',p'⟩:=bY I ry;rw[v_bl rx];exact RcNeAt.bool_list i p' hu0
   | ref a=>cases hy
   | oth a=>cases hy
   | _=>exact ih (by omega) (by cases n<;>rfl) (by cases n<;>rfl) rx ry
  | int i =>
   cases y with
   | tup m=>obtain⟨b,its',rfl,rl',p'⟩:=bX I ry;obtain⟨t,rfl⟩:=v_int rx;exact RcNeAt.int_tuple i t p' hu0
   | fls m=>obtain⟨b,its',rfl,rl',p'⟩:=bY I ry;obtain⟨t,rfl⟩:=v_int rx;exact RcNeAt.int_list i t p' hu0
   | ref a=>cases hy
   | oth a=>cases hy
   | _=>exact ih (by omega) (by cases n<;>rfl) (by cases n<;>rfl) rx ry
  | str i =>
   cases y with
   | tup m=>obtain⟨b,its',rfl,rl',p'⟩:=bX I ry;obtain⟨t,rfl⟩:=v_str rx;exact RcNeAt.str_tuple i t p' hu0
   | fls m=>obtain⟨b,its',rfl,rl',p'⟩:=bY I ry;obtain⟨t,rfl⟩:=v_str rx;exact RcNeAt.str_list i t p' hu0
   | ref a=>cases hy
   | oth a=>cases hy
   | _=>exact ih (by omega) (by cases n<;>rfl) (by cases n<;>rfl) rx ry
def RDv(K:PySem.W.Frag)(H:Hp)(d:PV)(x:V):Prop:=match d with
 | .fls l=>∃a vs,x=.ref a/\SqL K H a vs/\RPs K H l vs
 | d=>RP K H d x
theorem RDv.rd{K:PySem.W.Frag}{d:PV}{x:V}{u:Value}(h:RDv K H d x)(r:L2.RelV x u):RD K H d u:=by
 cases d with
 | fls l=>obtain⟨a,vs,rfl,q,rr⟩:=h;cases r;exact⟨a,vs,rfl,q,rr⟩
 | _=>exact⟨x,h,r⟩
def cy(x:PV)(H:PHp)(k:PV->Prop):Prop:=match x with
 | .ref a=>∃l,H a=some (.lst l)/\k (.fls l)
 | x=>k x
theorem cy.ex{K:PySem.W.Frag}{σ':St'}{x:PV}{v:V}{H':PHp}{k:PV->Prop}(h:cy x H' k)(s:SR K B σ' H' σ H)(r:RP K H x v):∃d,RDv K H d v/\k d:=by
 cases x with
 | ref a =>
  obtain⟨l,e,h⟩:=h;obtain⟨us,q,r2⟩:=s.hp _ _ e;simp only[RP]at r;exact⟨.fls l,⟨a,us,r,SqL.of q,r2⟩,h⟩
 | fls l =>
  simp only[RP]at r;obtain⟨a,us,e,q,r⟩:=r;exact⟨.fls l,⟨a,us,e,q.sq,r⟩,h⟩
 | non=>exact⟨.non,r,h⟩
 | bl b=>exact⟨.bl b,r,h⟩
 | int b=>exact⟨.int b,r,h⟩
 | str b=>exact⟨.str b,r,h⟩
 | tup b=>exact⟨.tup b,r,h⟩
 | oth b=>exact⟨.oth b,r,h⟩
def Cr(K:PySem.W.Frag)(g:Bool->Bool):R2:=fun x y H Q=>∃d1 d2,flat 9 d1=true/\flat 9 d2=true/\RDv K H d1 x/\RDv K H d2 y/\Q (.bl (g (deq d1 d2))) H
theorem aQ(hu:X.A.units+64<cLine):OpR X (compareOp .Eq) (Cr X.K fun b=>b):=by
 intro pins s σ H x y v u Q I rx ry h;obtain⟨d1,d2,f1,f2,r1,r2,q⟩:=h;exact(gB I 9 (by omega) f1 f2 (r1.rd rx) (r2.rd ry)).2 _ _ _ _ ⟨.bl _,H,I,rfl,q⟩
theorem c7(hu:X.A.units+64<cLine):OpR X (compareOp .NotEq) (Cr X.K fun b=>!b):=by
 intro pins s σ H x y v u Q I rx ry h;obtain⟨d1,d2,f1,f2,r1,r2,q⟩:=h;exact zA I 9 (by omega) f1 f2 (r1.rd rx) (r2.rd ry) _ _ _ _ ⟨.bl _,H,I,rfl,q⟩
def Dq(g:Bool->Bool):R2':=fun x y H Q=>cy x H fun d1=>cy y H fun d2=>flat 9 d1=true/\flat 9 d2=true/\Q (.bl (g (deq d1 d2))) H
theorem aU{K:PySem.W.Frag}{g:Bool->Bool}:VR K B (Dq g) (Cr K g):=by
 intro σ' σ H' H x' y' x y Q' Q s rx ry h k;obtain⟨d1,r1,h1⟩:=cy.ex h s rx;obtain⟨d2,r2,f1,f2,q⟩:=cy.ex h1 s ry;exact⟨d1,d2,f1,f2,r1,r2,k _ H' _ H q (by simp[RP]) s (Ev.refl _ _)⟩
def B0(K:PySem.W.Frag)(g:Bool->Bool):R2:=fun x y H Q=>∃d p l us,flat 8 d=true/\RDv K H d x/\y=.ref p/\l.all (flat 8)=true/\RPs K H l us/\(SqL K H p us∨SqT K H p us)/\Q (.bl (g (l.any fun z=>deq z d))) H
open Classical in
theorem gE(I:Inv X pins σ H s){A:Around}{d:PV}{v:Value}{l:List PV}{its:List Value}(hu:A.units+20<cLine)(fd:flat 8 d=true)(rd:RD X.K H d v)(fl:l.all (flat 8)=true)(rl:RL X.K H l its) :
  ∃e:Value->Bool,(∀y,y∈its.toArray->SeqAt.EqAt A.in1 s y v (e y))/\its.toArray.any e=l.any fun z=>deq z d:=by
 refine⟨fun u=>decide (∃z,flat 8 z=true/\RD X.K H z u/\deq z d=true),fun y hy=>?_,?_⟩
 ·have hy':y∈its:=by simpa using hy
  obtain⟨i,hi⟩:=List.mem_iff_getElem?.mp hy';obtain⟨z,ez,rz⟩:=rl.get hi;have fz:=Ir.mp fl z (Iw ez);have q:=(gB I 8 (A:=A.in1) (by show A.units+1+8<cLine;omega) fz fd rz.rd rd).1;have e:decide (∃z,flat 8 z=true/\RD X.K H z y/\deq z d=true)=deq z d:=by
   rw[Jv,decide_eq_true_iff];constructor
   ·rintro⟨z',f',r',e'⟩;rw[lP I 8 fz f' rz.rd r'];exact e'
   ·intro e;exact⟨z,fz,rz.rd,e⟩
  show SeqAt.EqAt A.in1 s y v (decide _);rw[e];exact q
 ·rw[Jv];simp only[List.any_toArray,List.any_eq_true,decide_eq_true_iff];constructor
  ·rintro⟨u,hu',z,fz,rz,ez⟩;obtain⟨i,hi⟩:=List.mem_iff_getElem?.mp hu';obtain⟨z2,ez2,rz2⟩:=rl.get hi;have fz2:=Ir.mp fl z2 (Iw ez2);refine⟨z2,Iw ez2,?_⟩;rw[lP I 8 fz2 fz rz2.rd rz];exact ez
  ·rintro⟨z,hz,ez⟩;obtain⟨i,hi⟩:=List.mem_iff_getElem?.mp hz;have hlt:i<its.length:=by
    have:=(vM.mp hi).1;rw[rl.length];exact this
   obtain⟨z2,ez2,rz2⟩:=rl.get (sH hlt);rw[hi]at ez2;cases ez2;exact⟨_,Ii hlt,z,Ir.mp fl z hz,rz2.rd,ez⟩
theorem bG(hu:X.A.units+64<cLine):OpR X (compareOp .In) (B0 X.K fun b=>b):=by
 intro pins s σ H x y v u Q I rx ry h;obtain⟨d,p,l,us,fd,rd,rfl,fl,rl,hq,q⟩:=h;cases ry;rcases hq with hq | hq
 ·obtain⟨its,rv,pl,_⟩:=I.list hq;obtain⟨e,h1,h2⟩:=gE I (A:=X.A) (by omega) fd (rd.rd rx) fl ⟨us,rl,rv⟩;exact SeqAt.in_listAt e pl.isList h1 (by rw[h2];exact⟨.bl _,H,I,rfl,q⟩)
 ·obtain⟨its,rv,pl,_⟩:=I.tuple hq;obtain⟨e,h1,h2⟩:=gE I (A:=X.A) (by omega) fd (rd.rd rx) fl ⟨us,rl,rv⟩;exact SeqAt.in_tupleAt e pl h1 (by rw[h2];exact⟨.bl _,H,I,rfl,q⟩)
theorem bP(hu:X.A.units+64<cLine):OpR X (compareOp .NotIn) (B0 X.K fun b=>!b):=by
 intro pins s σ H x y v u Q I rx ry h;obtain⟨d,p,l,us,fd,rd,rfl,fl,rl,hq,q⟩:=h;cases ry;rcases hq with hq | hq
 ·obtain⟨its,rv,pl,_⟩:=I.list hq;obtain⟨e,h1,h2⟩:=gE I (A:=X.A) (by omega) fd (rd.rd rx) fl ⟨us,rl,rv⟩;exact SeqAt.notIn_listAt e pl.isList h1 (by rw[h2];exact⟨.bl _,H,I,rfl,q⟩)
 ·obtain⟨its,rv,pl,_⟩:=I.tuple hq;obtain⟨e,h1,h2⟩:=gE I (A:=X.A) (by omega) fd (rd.rd rx) fl ⟨us,rl,rv⟩;exact SeqAt.notIn_tupleAt e pl h1 (by rw[h2];exact⟨.bl _,H,I,rfl,q⟩)
def EV(g:Bool->Bool):R2':=fun x y H Q=>cy x H fun d=>cK y H fun l=>flat 8 d=true/\l.all (flat 8)=true/\Q (.bl (g (l.any fun z=>deq z d))) H
theorem bC{K:PySem.W.Frag}{g:Bool->Bool}:VR K B (EV g) (B0 K g):=by
 intro σ' σ H' H x' y' x y Q' Q s rx ry h k;obtain⟨d1,r1,h1⟩:=cy.ex h s rx;obtain⟨l,us,p,rfl,r2,hq,f1,f2,q⟩:=cK.ex h1 s ry;exact⟨d1,p,l,us,f1,r1,rfl,f2,r2,hq,k _ H' _ H q (by simp[RP]) s (Ev.refl _ _)⟩
def pj(g:Bool->Bool):R2':=fun x y H Q=>match y,x with
 | .non,.non=>Q (.bl (g true)) H
 | .non,.oth _=>False
 | .non,_=>Q (.bl (g false)) H
 | _,_=>False
theorem C7{K:PySem.W.Frag}{g:Bool->Bool}{x y:PV}{v w:V}{H':PHp}{Q':VK'}(h:pj g x y H' Q')(rx:RP K H x v)(ry:RP K H y w):w=.non/\Q' (.bl (g (decide (v=.non)))) H':=by
 cases y with
 | non =>
  simp only[RP]at ry;refine⟨ry,?_⟩;cases x with
  | non=>simp only[RP]at rx;subst rx;exact h
  | oth _=>exact h.elim
  | tup l =>
   simp only[RP]at rx;obtain⟨a,us,rfl,_⟩:=rx;exact h
  | fls l =>
   simp only[RP]at rx;obtain⟨a,us,rfl,_⟩:=rx;exact h
  | _=>simp only[RP]at rx;subst rx;exact h
 | _=>cases x<;>exact h.elim
theorem Bi{K:PySem.W.Frag}:VR K B (pj fun b=>b) (fun x y H Q=>y=.non/\Q (.bl (decide (x=.non))) H):=by
 intro σ' σ H' H x' y' x y Q' Q s rx ry h k;obtain⟨e,q⟩:=C7 h rx ry;exact⟨e,k _ H' _ H q (by simp[RP]) s (Ev.refl _ _)⟩
inductive BT where | non | bool | int | str | list | tuple
def BT.nm:BT->String | .non=>"NoneType" | .bool=>"bool" | .int=>"int" | .str=>"str" | .list=>"list" | .tuple=>"tuple"
def BT.sub:BT->BT->Bool
 | .non,.non=>true | .bool,.bool=>true | .int,.int=>true | .str,.str=>true | .list,.list=>true | .tuple,.tuple=>true
 | .bool,.int=>true
 | _,_=>false
def d3(x:PV)(H:PHp)(k:BT->Prop):Prop:=match x with
 | .non=>k .non
 | .bl _=>k .bool
 | .int _=>k .int
 | .str _=>k .str
 | .tup _=>k .tuple
 | .fls _=>k .list
 | .ref a=>∃l,H a=some (.lst l)/\k .list
 | _=>False
def Hz(c:BT):List PV->PHp->VK'->Prop:=fun xs H Q=>match xs with
 | [x,.oth (.ty n)]=>n=c.nm/\d3 x H fun t=>Q (.bl (t.sub c)) H
 | _=>False
variable {e o:Expr}{es:List Expr}{to:TE'}{t:TA'}{name:Str}{apos cpos:Pos}
def isL(x:PV)(H1:PHp):Prop:=match x with
 | .ref a=>∃l,H1 a=some (.lst l)
 | _=>False
def uBM(r:PV->List PV->PHp->VK'->Prop)(to:TE')(t:TA'):TE':=fun σ H Q=>to σ H fun x H1=>isL x H1/\t σ H1 fun xs H2=>r x xs H2 Q
def Dt(r:PV->List PV->PHp->VK'->Prop)(to:TE'):TE':=fun σ H Q=>to σ H fun x H1=>r x [] H1 Q
def VM(K:PySem.W.Frag)(B:Bs)(r':PV->List PV->PHp->VK'->Prop)(r:V->List V->Hp->VK->Prop):Prop:=∀(σ':St') (σ:L2.St) (H':PHp) (H:Hp) x' xs' x xs (Q':VK') (Q:VK),SR K B σ' H' σ H->RP K H x' x->RPs K H xs' xs->r' x' xs' H' Q' ->
 (∀v' H1' v H1,Q' v' H1'->RP K H1 v' v->SR K B σ' H1' σ H1->Ev H' H H1' H1->Q v H1)->r x xs H Q
theorem AF{K:PySem.W.Frag}{r':PV->List PV->PHp->VK'->Prop}{r:V->List V->Hp->VK->Prop}(v:VM K B r' r){σ:L2.St}{H:Hp}{Q:VK}(h:low K B (uBM r' to t) σ H Q):tBM K "list" r (low K B to) (uP K B t) σ H Q:=by
 obtain⟨σ',H',Q',s,h,k⟩:=h;refine⟨σ',H',_,s,h,fun x' H1' x H1 h1 rx s1 e1=>?_⟩;obtain⟨ty,h1⟩:=h1;constructor
 ·cases x' with
  | ref a =>
   obtain⟨l,e⟩:=ty;obtain⟨us,q,_⟩:=s1.hp _ _ e;simp only[RP]at rx;subst rx;exact .inl ⟨rfl,us,SqL.of q⟩
  | _=>exact ty.elim
 ·refine⟨σ',H1',_,s1,h1,fun xs' H2' xs H2 h2 r2 s2 e2=>?_⟩;exact v σ' σ H2' H2 x' xs' x xs Q' Q s2 (RP.kp K (e2.kp s1.hp) rx) r2 h2 fun v' H3' v H3 q rv s3 e3=>k v' H3' v H3 q rv s3 (e1.trans (e2.trans e3))
theorem cH{id:String}{r':PV->List PV->PHp->VK'->Prop}{r:V->List V->Hp->VK->Prop}(slot:Slot "list" name id)(hty:typeOf (.builtin id)=pure (.type "method_descriptor"))(hm:MtR X id r)(v:VM X.K B r' r)(ho:PE' X B o to)(ha:PA' X B (e::es) t)
  (hbase:attributeBase o name X.env (eval o X.env)=eval o X.env:=by rfl)
  (hfew:((backTo cpos (starEach (e::es) X.env)).all (fun x=>!x.1)&&(backToKw cpos (keywordEach [] X.env)).all (fun x=>x.1.isSome)
   && decide ((e::es).length+([]:List Keyword).length+(if ([]:List Keyword).isEmpty then 0 else 1)<30))=true:=by rfl)
  (hline:(apos.endLine==cpos.line)=true:=by rfl) (hs:starEach (e::es) X.env=(false,eval e X.env)::starEach es X.env:=by rfl) (hplain:(backTo cpos (starEach es X.env)).any (·.1)=false:=by rfl) :
  PE' X B (.Call (.Attribute o name apos) (e::es) [] cpos) (uBM r' to t):=a6 (DH PySem.F.plainAttrs_list slot hty hm ho ha hbase hfew hline hs hplain) fun _ _ _ h=>AF v h
theorem CG{id:String}{r':PV->List PV->PHp->VK'->Prop}{r:V->List V->Hp->VK->Prop}(slot:Slot "list" name id)(hty:typeOf (.builtin id)=pure (.type "method_descriptor"))(hm:MtR X id r)(v:VM X.K B r' r)
  (hl:∀x H Q,r' x [] H Q->match x with | .ref a=>∃l,H a=some (.lst l) | _=>False) (ho:PE' X B o to)
  (hbase:attributeBase o name X.env (eval o X.env)=eval o X.env:=by rfl) (hline:(apos.endLine==cpos.line)=true:=by rfl) :
  PE' X B (.Call (.Attribute o name apos) [] [] cpos) (Dt r' to):=a6 (A0 PySem.F.plainAttrs_list slot hty hm ho hbase hline) fun σ H Q h=>by
 obtain⟨σ',H',Q',s,h,k⟩:=h;refine⟨σ',H',_,s,h,fun x' H1' x H1 h1 rx s1 e1=>?_⟩;constructor
 ·have ty:=hl _ _ _ h1;cases x' with
  | ref a =>
   obtain⟨l,e⟩:=ty;obtain⟨us,q,_⟩:=s1.hp _ _ e;simp only[RP]at rx;subst rx;exact .inl ⟨rfl,us,SqL.of q⟩
  | _=>exact ty.elim
 ·exact v σ' σ H1' H1 x' [] x [] Q' Q s1 rx (RPs.nil _) h1 fun v' H3' v H3 q rv s3 e3=>k v' H3' v H3 q rv s3 (e1.trans e3)
def me:PV->List PV->PHp->VK'->Prop:=fun x vs H Q=>match x,vs with
 | .ref a,[y]=>∃l,H a=some (.lst l)/\l.length<sizeLine/\Q .non (put H a (.lst (l++[y])))
 | _,_=>False
theorem bB{K:PySem.W.Frag}:VM K B me qr:=by
 intro σ' σ H' H x' xs' x xs Q' Q s rx r h k;unfold me at h;split at h
 ·rename_i a y;obtain⟨l,e,hl,h⟩:=h;obtain⟨us,q,r2⟩:=s.hp _ _ e;simp only[RP,RPs]at rx r;obtain⟨u,r1,rfl,ru,rfl⟩:=r;subst rx;exact⟨a,us,u,rfl,rfl,q,by rw[RPs.length _ r2];exact hl,k _ _ _ _ h (by simp[RP]) (s.wr e (wrL s.hp e (RPs.append _ r2 (RPs.cons _ ru (RPs.nil _))))) (Ev.wr e)⟩
 ·exact h.elim
def zr:PV->List PV->PHp->VK'->Prop:=fun x vs H Q=>match x,vs with
 | .ref a,[.ref b]=>∃l m,H a=some (.lst l)/\H b=some (.lst m)/\l.length+m.length≤sizeLine/\Q .non (put H a (.lst (l++m)))
 | _,_=>False
def yO:PV->List PV->PHp->VK'->Prop:=fun x vs H Q=>match x,vs with
 | .ref a,[]=>∃l y,H a=some (.lst l)/\l[l.length - 1]?=some y/\Q y (put H a (.lst l.dropLast))
 | _,_=>False
theorem Co{K:PySem.W.Frag}:VM K B yO EJ:=by
 intro σ' σ H' H x' xs' x xs Q' Q s rx r h k;unfold yO at h;split at h
 ·rename_i a;obtain⟨l,y,e,hl,h⟩:=h;obtain⟨us,q,r2⟩:=s.hp _ _ e;simp only[RP,RPs]at rx r;subst rx;subst r;obtain⟨u,e1,e2⟩:=RPs.get _ r2 hl;exact⟨a,us,u,rfl,rfl,q,by rw[RPs.length _ r2];exact e1,k _ _ _ _ h (RP.kp _ (s.hp.kpw e) e2) (s.wr e (wrL s.hp e (RPs.dropLast _ r2))) (Ev.wr e)⟩
 ·exact h.elim
end
end
section
variable {B:Bs}
theorem sY(lo:Int)(n i:Nat)(h:i<n):(b7 lo n).drop i=PV.int (lo+(i:Nat))::(b7 lo n).drop (i+1):=by
 have hl:i<(b7 lo n).length:=by simpa[b7]using h
 rw[Jj hl];simp[b7]
theorem vm(lo:Int)(n:Nat):(b7 lo n).drop n=[]:=by
 apply List.drop_of_length_le;simp[b7]
theorem fZ{ok:PHp->Prop}{g:TG'}{tb:TS'}{D:di}{lo:Int}{n:Nat}(Pv:Nat->St'->PHp->Prop)(hd:∀σ H,Pv n σ H->ok H/\D.nx σ H)
  (hs:∀(G:St'->PHp->Prop) i σ H,i<n->Pv i σ H->(∀σ' H',Pv (i+1) σ' H'->G σ' H')->ok H/\g (.int (lo+(i:Nat))) σ H fun σ2 H2=>tb { D with nx:=G,ct:=G,bk:=D.nx } σ2 H2)
  {σ:St'} {H:PHp} (h0:Pv 0 σ H):eU ok g tb D (b7 lo n) σ H:=by
 have key:∀(k i:Nat) {σ:St'} {H:PHp},i+k=n->Pv i σ H->eU ok g tb D ((b7 lo n).drop i) σ H:=by
  intro k
  induction k with
  | zero =>
   intro i σ H hk p;have:i=n:=hk;subst this;rw[vm];exact hd σ H p
  | succ k ih =>
   intro i σ H hk p;have hi:i<n:=hk▸Nat.lt_add_of_pos_right (Nat.succ_pos k);rw[sY lo n i hi];exact hs _ i σ H hi p fun σ' H' p'=>ih (i+1) ((Nat.succ_add_eq_add_succ i k).trans hk) p'
 exact key n 0 (Nat.zero_add n) h0
theorem bI{ok:PHp->Prop}{g:TG'}{tb:TS'}{D:di}{xs:List PV}(Pv:Nat->St'->PHp->Prop)(hd:∀σ H,Pv xs.length σ H->ok H/\D.nx σ H)
  (hs:∀(G:St'->PHp->Prop) i x σ H,xs[i]?=some x->Pv i σ H->(∀σ' H',Pv (i+1) σ' H'->G σ' H')->ok H/\g x σ H fun σ2 H2=>tb { D with nx:=G,ct:=G,bk:=D.nx } σ2 H2)
  {σ:St'} {H:PHp} (h0:Pv 0 σ H):eU ok g tb D xs σ H:=by
 have key:∀(k i:Nat) {σ:St'} {H:PHp},xs.length - i=k->i≤xs.length->Pv i σ H->eU ok g tb D (xs.drop i) σ H:=by
  intro k
  induction k with
  | zero =>
   intro i σ H hk hi p;have:i=xs.length:=by omega
   subst this;rw[JQ];exact hd σ H p
  | succ k ih =>
   intro i σ H hk hi p;have hl:i<xs.length:=by omega
   rw[Jj hl];exact hs _ i _ σ H (sH hl) p fun σ' H' p'=>ih (i+1) (by omega) (by omega) p'
 have:=key xs.length 0 (by omega) (by omega) h0;simpa using this
theorem xA{m:List Int}{z:Int}(h0:0≤z)(h1:z<m.length):atI (m.map PV.int) z=some (.int (m.getD z.toNat 0)):=by
 unfold atI ixN;rw[Ij h0,rS,Ij h1];show(m.map PV.int)[z.toNat]?=_;rw[II,wJ];have:z.toNat<m.length:=by omega
 rw[sH this];rfl
theorem oV(xs:List PV)(k:Nat):cz xs none (some (k:Int))=xs.take k:=by
 unfold cz;rw[HT.eW,HT.iY,List.drop_zero,Nat.sub_zero];rw[List.take_eq_take_iff];omega
theorem w_V{v:PV}{k:PV->Prop}:nq (some (some v)) k=k v:=rfl
theorem w_B{b:Bool}{k:Bool->Prop}:eQ (.bl b) k=k b:=rfl
theorem w_I{b:Int}{k:Int->Prop}:cF (.int b) k=k b:=rfl
theorem w_O{b:PV}{k:PV->Prop}:dJ (some b) k=k b:=rfl
theorem Gy{l:List PV}{H:PHp}{k:List PV->Prop}:cK (.tup l) H k=k l:=rfl
theorem FN{l:List PV}{H:PHp}{k:List PV->Prop}:cK (.fls l) H k=k l:=rfl
theorem Hu{a:Addr}{H:PHp}{k:List PV->Prop}:cK (.ref a) H k=∃l,H a=some (.lst l)/\k l:=rfl
theorem HQ{a:Addr}{H:PHp}{k:PV->Prop}:cy (.ref a) H k=∃l,H a=some (.lst l)/\k (.fls l):=rfl
theorem Fw{H:PHp}{k:PV->Prop}:cy .non H k=k .non:=rfl
theorem GS{b:Bool}{H:PHp}{k:PV->Prop}:cy (.bl b) H k=k (.bl b):=rfl
theorem Ga{b:Int}{H:PHp}{k:PV->Prop}:cy (.int b) H k=k (.int b):=rfl
theorem G2{b:Str}{H:PHp}{k:PV->Prop}:cy (.str b) H k=k (.str b):=rfl
theorem Gu{b:List PV}{H:PHp}{k:PV->Prop}:cy (.tup b) H k=k (.tup b):=rfl
theorem Hc{b:List PV}{H:PHp}{k:PV->Prop}:cy (.fls b) H k=k (.fls b):=rfl
theorem GP{H:PHp}{k:BT->Prop}:d3 .non H k=k .non:=rfl
theorem Gk{b:Bool}{H:PHp}{k:BT->Prop}:d3 (.bl b) H k=k .bool:=rfl
theorem Hx{b:Int}{H:PHp}{k:BT->Prop}:d3 (.int b) H k=k .int:=rfl
theorem GO{b:Str}{H:PHp}{k:BT->Prop}:d3 (.str b) H k=k .str:=rfl
theorem Fv{b:List PV}{H:PHp}{k:BT->Prop}:d3 (.tup b) H k=k .tuple:=rfl
theorem GI{b:List PV}{H:PHp}{k:BT->Prop}:d3 (.fls b) H k=k .list:=rfl
theorem F2{a:Addr}{H:PHp}{k:BT->Prop}:d3 (.ref a) H k=∃l,H a=some (.lst l)/\k .list:=rfl
theorem HZ{b:Int}{k:Int->Prop}:intOf (.int b) k=k b:=rfl
theorem GF{b:Bool}{k:Int->Prop}:intOf (.bl b) k=k (b2n b):=rfl
theorem Gr{l:List PV}{lo hi:Option Int}{H:PHp}{Q:VK'}:sliceOf (.fls l) lo hi H Q=∀p,H p=none->Q (.ref p) (put H p (.lst (cz l lo hi))):=rfl
theorem Gi{a:Addr}{lo hi:Option Int}{H:PHp}{Q:VK'}:sliceOf (.ref a) lo hi H Q=∃l,H a=some (.lst l)/\∀p,H p=none->Q (.ref p) (put H p (.lst (cz l lo hi))):=rfl
theorem HA{l:List PV}{lo hi:Option Int}{H:PHp}{Q:VK'}:sliceOf (.tup l) lo hi H Q=(¬(HT.sIx l.length 0 lo=0/\HT.sIx l.length l.length hi=l.length)/\Q (.tup (cz l lo hi)) H):=rfl
theorem Hf{l:List PV}{H:PHp}{R:It'->PHp->Prop}:vX (.tup l) H R=R ⟨l,fun _=>True⟩ H:=rfl
theorem HW{l:List PV}{H:PHp}{R:It'->PHp->Prop}:vX (.fls l) H R=R ⟨l,fun _=>True⟩ H:=rfl
theorem Hy{a:Addr}{H:PHp}{R:It'->PHp->Prop}:vX (.ref a) H R=∃l,H a=some (.lst l)/\R ⟨l,fun H=>H a=some (.lst l)⟩ H:=rfl
theorem w_1{f:PV->PHp->VK'->Prop}{x:PV}{H:PHp}{Q:VK'}:cP f [x] H Q=f x H Q:=rfl
theorem Fm{c:BT}{x:PV}{n:String}{H:PHp}{Q:VK'}:Hz c [x,.oth (.ty n)] H Q=(n=c.nm/\d3 x H fun t=>Q (.bl (t.sub c)) H):=rfl
theorem HN{g:Bool->Bool}{H:PHp}{Q:VK'}:pj g .non .non H Q=Q (.bl (g true)) H:=rfl
theorem G0{g:Bool->Bool}{a:Addr}{H:PHp}{Q:VK'}:pj g (.ref a) .non H Q=Q (.bl (g false)) H:=rfl
theorem GD{g:Bool->Bool}{l:List PV}{H:PHp}{Q:VK'}:pj g (.tup l) .non H Q=Q (.bl (g false)) H:=rfl
theorem HE{g:Bool->Bool}{l:Int}{H:PHp}{Q:VK'}:pj g (.int l) .non H Q=Q (.bl (g false)) H:=rfl
theorem Hl{g:Bool->Bool}{l:Bool}{H:PHp}{Q:VK'}:pj g (.bl l) .non H Q=Q (.bl (g false)) H:=rfl
theorem Bt{n:Nat}{t:ie}{l:List PV}{σ:St'}{H:PHp}{Q:St'->PHp->Prop}:Fd n t (.tup l) σ H Q=(l.length=n/\t l σ H Q):=rfl
theorem De{t:TG'}{u:ie}{v:PV}{r:List PV}{σ:St'}{H:PHp}{Q:St'->PHp->Prop}:Aq t u (v::r) σ H Q=t v σ H fun σ' H'=>u r σ' H' Q:=rfl
theorem Dg{σ:St'}{H:PHp}{Q:St'->PHp->Prop}:AO [] σ H Q=(True/\Q σ H):=by simp[AO]
theorem FV{t:TA'}{σ:St'}{H:PHp}{R:It'->PHp->Prop}:Ah t σ H R=t σ H fun vs H1=>zo vs H1 R:=rfl
theorem E3{j:Int}{H1:PHp}{R:It'->PHp->Prop}:zo [.int j] H1 R=((-(2 ^ 62)≤j/\j<2 ^ 62)/\R ⟨b7 0 j.toNat,fun _=>True⟩ H1):=rfl
theorem GU{t:TA'}{σ:St'}{H:PHp}{R:It'->PHp->Prop}:E9 t σ H R=t σ H fun vs H1=>By vs H1 R:=rfl
theorem DK{i j:Int}{H1:PHp}{R:It'->PHp->Prop}:By [.int i,.int j] H1 R=((-(2 ^ 62)≤i/\i<2 ^ 62/\-(2 ^ 62)≤j/\j<2 ^ 62)/\R ⟨b7 i (j - i).toNat,fun _=>True⟩ H1):=rfl
theorem HB{a:Addr}{y:PV}{H:PHp}{Q:VK'}:me (.ref a) [y] H Q=∃l,H a=some (.lst l)/\l.length<sizeLine/\Q .non (put H a (.lst (l++[y]))):=rfl
theorem FU{a b:Addr}{H:PHp}{Q:VK'}:zr (.ref a) [.ref b] H Q=∃l m,H a=some (.lst l)/\H b=some (.lst m)/\l.length+m.length≤sizeLine/\Q .non (put H a (.lst (l++m))):=rfl
theorem GH{a:Addr}{H:PHp}{Q:VK'}:yO (.ref a) [] H Q=∃l y,H a=some (.lst l)/\l[l.length - 1]?=some y/\Q y (put H a (.lst l.dropLast)):=rfl
theorem HG{r:PV->List PV->PHp->VK'->Prop}{to:TE'}{t:TA'}{σ:St'}{H:PHp}{Q:VK'}:uBM r to t σ H Q=to σ H fun x H1=>isL x H1/\t σ H1 fun xs H2=>r x xs H2 Q:=rfl
theorem Gz{a:Addr}{H:PHp}:isL (.ref a) H=∃l,H a=some (.lst l):=rfl
theorem ag{n:Nat}(h:n≤1000):n≤sizeLine:=J2 (aZ h)
end
section
theorem ao{t u:TS'}{D:di}{σ:St'}{H:PHp}(h:∀R:TS',R=u->qY t R D σ H):qY t u D σ H:=h u rfl
end
section
variable {B:Bs}
def Ae(h:Heap)(a C T:Addr)(fl:Value):Prop :=
 ∃(oe:Obj) (vs:Array Value) (oT:Obj) (ts:Array Value) (a0:Value),h.get? a=some oe/\oe.cls=.ref C/\vs[0]?=some a0/\oe.data=.fields vs/\vs[1]?=some (.ref T)/\T≠a/\h.get? T=some oT/\oT.data=.fields ts/\ts[3]?=some fl
theorem rR{P:Program}{w:World}{H:Hp}{h:Heap}{a:Addr}{o:HO}(k:bM P w H h a o):∃ob,h.get? a=some ob:=by
 cases o with
 | lst _=>obtain⟨_,_,_,_,e⟩:=k;exact⟨_,e⟩
 | tup _=>obtain⟨_,_,_,o,e,_⟩:=k;exact⟨o,e⟩
 | dK _=>obtain⟨_,_,_,_,o,_,_,e,_⟩:=k;exact⟨o,e⟩
 | dT _=>obtain⟨_,_,_,_,o,_,_,e,_⟩:=k;exact⟨o,e⟩
 | set _ _=>obtain⟨o,_,_,_,e,_⟩:=k;exact⟨o,e⟩
 | ins _ _ _=>obtain⟨_,_,_,e,_⟩:=k;exact⟨_,e⟩
 | own _=>obtain⟨o,e⟩:=k;exact⟨o,e⟩
 | xd _=>obtain⟨_,⟨o,_,_,e,_⟩,_⟩:=k;exact⟨o,e⟩
 | rng _ _=>obtain⟨_,_,_,e⟩:=k;exact⟨_,e⟩
 | frz o _=>obtain⟨e,_⟩:=k;exact⟨o,e⟩
 | tbl _=>exact⟨_,k⟩
 | met _ _=>exact⟨_,k⟩
 | ext _=>obtain⟨_,⟨o,e⟩,_⟩:=k;exact⟨o,e⟩
theorem m5{P:Program}{w:World}{H:Hp}{h:Heap}{a:Addr}(x:HOk P w H h)(e:h.get? a=none):H a=none:=by
 cases q:H a with
 | none=>rfl
 | some o=>obtain⟨ob,z⟩:=rR (x a o q);rw[e]at z;cases z
section
variable {X:Cx}{pins:List (Addr×Obj)}{σ:L2.St}{H H':Hp}{s:Shared}{h':Heap}{a C T:Addr}{fl:Value}
structure Plain (X:Cx):Prop where
 ex:X.ex=[]
 stk:X.stack=X.env::X.outer
 fr:X.env.frame=some X.env.locals
theorem Plain.frs(pl:Plain X):L2.frs X.stack=X.env.locals::X.fs:=by
 rw[pl.stk];show(X.env::X.outer).filterMap (·.frame)=_;rw[List.filterMap_cons,pl.fr];rfl
structure XAt (X:Cx) (pins:List (Addr × Obj)) (H:Hp) (s:Shared) (a C T:Addr) (fl:Value):Prop where
 fly:Ae s.heap a C T fl
 ha:H a=none
 hT:H T=none
 na:X.s₀.heap.get? a=none
 nT:X.s₀.heap.get? T=none
 pin:∀p∈X.pn++pins,p.1≠a/\p.1≠T
theorem d6(I:Inv X pins σ H s)(pl:Plain X){b:Addr}(e:s.heap.get? b=none):X.s₀.heap.get? b=none:=by
 cases q:X.s₀.heap.get? b with
 | none=>rfl
 | some o =>
  obtain⟨o',z⟩:=I.base.there b o q (by rw[pl.ex];simp);rw[e]at z;cases z
theorem CO(I:Inv X pins σ H s)(pl:Plain X)(ha:H a=none)(hT:H T=none)(na:X.s₀.heap.get? a=none)(nT:X.s₀.heap.get? T=none)(pin:∀p∈X.pn++pins,p.1≠a/\p.1≠T)
  (fa:∀o,s.heap.get? a=some o->∃vs,o.data=.fields vs) (fT:∀o,s.heap.get? T=some o->∃vs,o.data=.fields vs)
  (keep:∀b o,s.heap.get? b=some o->b∉L2.frs X.stack->b≠a->b≠T->h'.get? b=some o) (up:s.heap.UpToSlots h'):Inv X pins σ H { s with heap:=h' }:=by
 have frData:∀b o,b∈L2.frs X.stack->s.heap.get? b=some o->∀vs,o.data≠.fields vs:=fun b o hb e=>by
  obtain⟨_,o',e',hd⟩:=I.stack.mem (b:=b) hb;rw[e]at e';cases e';exact hd
 have inFr:∀b,b=X.env.locals∨b∈X.fs->b∈L2.frs X.stack:=fun b hb=>by
  rw[pl.frs];exact Ic.mpr hb
 have neA:∀b o,s.heap.get? b=some o->(∀vs,o.data≠.fields vs)->b≠a/\b≠T:=fun b o e hd=>by
  constructor
  ·rintro rfl;obtain⟨vs,z⟩:=fa o e;exact hd vs z
  ·rintro rfl;obtain⟨vs,z⟩:=fT o e;exact hd vs z
 have any:∀b o,b≠a->b≠T->s.heap.get? b=some o->∃sl,h'.get? b=some { o with slots:=sl }:=fun b o n1 n2 e=>by
  by_cases hb:b∈L2.frs X.stack
  ·exact up b o e (frData b o hb e)
  ·exact⟨o.slots,keep b o e hb n1 n2⟩
 have entry:∀b o,X.s₀.heap.get? b=some o->b≠a/\b≠T:=fun b o e=>⟨(fun z=>by subst z;rw[na]at e;cases e),(fun z=>by subst z;rw[nT]at e;cases e)⟩;have neL:∀b o,X.s₀.heap.get? b=some o->b≠X.env.locals:=fun b o e=>B6 (Iq (xV e) I.ok.above);have hx:∀b,b∉X.ex:=fun b=>by rw[pl.ex];simp
 have notFr:∀b o,X.s₀.heap.get? b=some o->b∉X.fs->b∉L2.frs X.stack:=fun b o e hb hm=>by
  rw[pl.frs]at hm;rcases Ic.mp hm with z | z
  ·exact neL b o e z
  ·exact hb z
 refine⟨I.ok,I.os,I.bare,⟨fun b o e n hb hx'=>?_,fun b o e n hb hx'=>?_,I.base.free,fun b o e hx'=>?_,I.base.tups,I.base.frzs,I.base.tbls⟩,?_,fun x c e=>?_,I.free,I.freeC,fun p hp=>?_,fun b u e=>?_,I.len⟩
 ·exact keep b o (I.base.keep b o e n hb hx') (notFr b o e hb) (entry b o e).1 (entry b o e).2
 ·obtain⟨sl,e1⟩:=I.base.slot b o e n hb hx';obtain⟨sl',e2⟩:=any b _ (entry b o e).1 (entry b o e).2 e1;exact⟨sl',e2⟩
 ·obtain⟨o',e1⟩:=I.base.there b o e hx';obtain⟨sl',e2⟩:=any b _ (entry b o e).1 (entry b o e).2 e1;exact⟨_,e2⟩
 ·obtain⟨m,hn,hl⟩:=I.loc;refine⟨m,up.ns hn,fun i x v e1 e2 e3=>?_⟩;obtain⟨u,r,l⟩:=hl i x v e1 e2 e3;refine⟨u,r,?_⟩;rcases l with l |⟨k,c,e,o,ho,hd⟩
  ·exact .inl l
  ·have nd:∀vs,o.data≠.fields vs:=fun vs z=>by rw[hd]at z;cases z
   obtain⟨sl,q⟩:=any c o (neA c o ho nd).1 (neA c o ho nd).2 ho;exact .inr ⟨k,c,e,_,q,hd⟩
 ·obtain⟨v,o,ho,hd⟩:=I.cell x c e;have nd:∀vs,o.data≠.fields vs:=fun vs z=>by rw[hd]at z;cases z
  obtain⟨sl,q⟩:=any c o (neA c o ho nd).1 (neA c o ho nd).2 ho;exact⟨v,_,q,hd⟩
 ·obtain⟨e,n,ne,nf,d⟩:=I.pin p hp;refine⟨keep p.1 p.2 e (fun z=>?_) (pin p hp).1 (pin p hp).2,n,ne,nf,d⟩;rw[pl.frs]at z;rcases Ic.mp z with z | z
  ·exact ne z
  ·exact nf z
 ·refine(I.hok b u e).stay (fun c v hc q=>?_) (fun _ q=>q) fun _ _ q=>q;have hc':∃o,H c=some o:=by
   rcases hc with rfl | hc
   ·exact⟨_,e⟩
   ·exact⟨_,hc⟩
  obtain⟨oc,ec⟩:=hc';refine keep c v q (fun z=>?_) (fun z=>by subst z;rw[ha]at ec;cases ec) (fun z=>by subst z;rw[hT]at ec;cases ec);rw[I.stkFree c z]at ec;cases ec
open PySem.W in
theorem ma(I:Inv X pins σ H s)(pl:Plain X)(ha:H a=none)(na:X.s₀.heap.get? a=none)(pa:∀p∈X.pn++pins,p.1≠a)(fa:∀o,s.heap.get? a=some o->∃vs,o.data=.fields vs)
  (T0:Addr) (hT0:H T0=none) (nT0:X.s₀.heap.get? T0=none) (pT0:∀p∈X.pn++pins,p.1≠T0) (fT0:∀o,s.heap.get? T0=some o->∃vs,o.data=.fields vs)
  (a0:Value) (st:(hideAll s.heap (L2.frs X.stack++[a,T0])).StaysIn h') (ff:h'.FunFrames (hideAll s.heap (L2.frs X.stack++[a,T0])) X.stack) (tr:h'.TracedAtW (hideAll s.heap (L2.frs X.stack++[a,T0])) a (.ref C) a0 fl) (up:s.heap.UpToSlots h') :
  Inv X pins σ H { s with heap:=h' }/\∃T,XAt X pins H { s with heap:=h' } a C T fl:=by
 have I':Inv X pins σ H { s with heap:=h' }:=CO I pl ha hT0 na nT0 (fun p hp=>⟨pa p hp,pT0 p hp⟩) fa fT0 (fun b o e n1 n2 n3=>st b o (hideAll_get _ e (by simp[n1,n2,n3]))) up;refine⟨I',?_⟩;obtain⟨oe,vs,T,oT,ts,e1,⟨e2,e3⟩,e4,e5,e6,e7,e8,e9,e10⟩:=tr;have key:T=T0∨s.heap.get? T=none:=by
  by_cases hT:T=T0
  ·exact .inl hT
  ·right;cases q:s.heap.get? T with
   | none=>rfl
   | some o =>
    have nfr:T∉L2.frs X.stack:=fun hm=>by
     obtain⟨_,o',e',hd⟩:=ff.mem (b:=T) hm;rw[e8]at e';cases e';exact hd ts e9
    have:=hideAll_get (L2.frs X.stack++[a,T0]) q (by simp[nfr,e7,hT]);rw[e6]at this;cases this
 refine⟨T,⟨oe,vs,oT,ts,a0,e1,e2,e3,e4,e5,e7,e8,e9,e10⟩,ha,?_,na,?_,fun p hp=>⟨pa p hp,?_⟩⟩
 ·rcases key with rfl | k
  ·exact hT0
  ·exact m5 I.hok k
 ·rcases key with rfl | k
  ·exact nT0
  ·exact d6 I pl k
 ·rcases key with rfl | k
  ·exact pT0 p hp
  ·intro z;have:=(I.pin p hp).1;rw[z,k]at this;cases this
open PySem.W in
theorem oO(I:Inv X pins σ H s)(as:List Addr):s.heap.FunFrames (hideAll s.heap (L2.frs X.stack++as)) X.stack :=
 funFrames_hide I.stack fun env he b hb=>IJ _ (List.mem_filterMap.mpr ⟨env,he,hb⟩)
theorem XAt.data(x:XAt X pins H s a C T fl):(∀o,s.heap.get? a=some o->∃vs,o.data=.fields vs)/\∀o,s.heap.get? T=some o->∃vs,o.data=.fields vs:=by
 obtain⟨oe,vs,oT,ts,a0,e1,e2,e3,e4,e5,e7,e8,e9,e10⟩:=x.fly;exact⟨fun o e=>by rw[e1]at e;cases e;exact⟨_,e4⟩,fun o e=>by rw[e8]at e;cases e;exact⟨_,e9⟩⟩
open PySem.W in
theorem XAt.traced(x:XAt X pins H s a C T fl):∃a0,s.heap.TracedAtW (hideAll s.heap (L2.frs X.stack++[a,T])) a (.ref C) a0 fl:=by
 obtain⟨oe,vs,oT,ts,a0,e1,e2,e3,e4,e5,e7,e8,e9,e10⟩:=x.fly;exact⟨a0,oe,vs,T,oT,ts,e1,⟨e2,e3⟩,e4,e5,hideAll_none _ (by simp),e7,e8,e9,e10⟩
variable {M:Model}{E:Value->Shared->Prop}{Q:Unit->Shared->Prop}
open PySem.W in
theorem CA(I:Inv X pins σ H s)(pl:Plain X)(x:XAt X pins H s a C T .none)
  (h:∀h' T',Inv X pins σ H { s with heap:=h' }->XAt X pins H { s with heap:=h' } a C T' (rawInt X.env.locals)->Q () { s with heap:=h' }):wpAny M X.A (noteFrame (.ref a) X.env) Q E s:=by
 obtain⟨a0,tr⟩:=x.traced;obtain⟨d1,d2⟩:=x.data;have ff:=oO I [a,T];have hfr:=I.ok.frames;rw[pl.stk]at ff tr hfr;refine wpAny_noteFrame_onW hfr ff pl.fr tr (fun b o e=>of_hideAll _ e) (hideAll_none _ (by simp)) fun h' y_=>?_;obtain⟨k1,k2,k3,k4⟩:=y_;rw[←pl.stk]at k1 k2 k3;obtain⟨I',T',x'⟩:=ma I pl x.ha x.na (fun p hp=>(x.pin p hp).1) d1 T x.hT x.nT (fun p hp=>(x.pin p hp).2) d2 a0 k1 k2 k3 k4;exact h h' T' I' x'
open PySem.W in
theorem tF{A:Around}(I:Inv X pins σ H s)(pl:Plain X)(x:XAt X pins H s a C T fl)
  (h:∀h' T',Inv X pins σ H { s with heap:=h' }->XAt X pins H { s with heap:=h' } a C T' .none->Q () { s with heap:=h' }):wpAny M A (setFlight (.ref a) none) Q E s:=by
 obtain⟨a0,tr⟩:=x.traced;obtain⟨d1,d2⟩:=x.data;refine wpAny_setFlight_noneW (fun b o e=>of_hideAll _ e) (oO I [a,T]) tr fun h' k1 k2 k3 k4=>?_;obtain⟨I',T',x'⟩:=ma I pl x.ha x.na (fun p hp=>(x.pin p hp).1) d1 T x.hT x.nT (fun p hp=>(x.pin p hp).2) d2 a0 k1 k2 k3 fun b o e hd=>⟨o.slots,k4 b o e hd⟩;exact h h' T' I' x'
def CXU(P:Program)(w:World):CXT:=fun outer H s E e s'=>∃(a C T:Addr) (H1:Hp),e=.ref a/\Ae s'.heap a C T .none/\(H1 a=none/\H1 T=none)/\(s.heap.get? a=none/\s.heap.get? T=none) /\
 s'.os=s.os/\AllBare s'.gens/\Un (L2.frs outer) [] H H1 s.heap s'.heap/\HOk P w H1 s'.heap/\E (.ref C) none H1
open PySem.W in
theorem oj{XE:XK}{h1:Heap}{args:List Value}(I:Inv X pins σ H s)(pl:Plain X)(mx:Heap.MadeExcOf s.heap h1 a (.ref C) args)(hE:XE (.ref C) none H) :
  wpAny M X.A (leaving X.env (.ref a)) (fun _ s''=>CXU X.prog X.w X.outer X.H₀ X.s₀ XE (.ref a) s'') E { s with heap:=h1 }:=by
 have I1:Inv X pins σ H { s with heap:=h1 }:=I.kept (t':=s.toks) mx.keeps;obtain⟨t,e1,e2,e3⟩:=mx.there;have ha:=m5 I.hok mx.new;have na:=d6 I pl mx.new;have pa:∀p∈X.pn++pins,p.1≠a:=fun p hp z=>by have:=(I.pin p hp).1;rw[z,mx.new]at this;cases this
 have fa:∀o,h1.get? a=some o->∃vs,o.data=.fields vs:=fun o e=>by rw[e1]at e;cases e;exact⟨_,rfl⟩
 have ff:=oO I1 [a,a];have hfr:=I1.ok.frames;rw[pl.stk]at ff hfr;refine wpAny_leaving_firstW hfr ff pl.fr e1 (fun b o e=>of_hideAll _ e) (hideAll_none _ (by simp)) rfl rfl rfl fun h' y_=>?_;obtain⟨k1,k2,k3,k4⟩:=y_;rw[←pl.stk]at k1 k2 k3;obtain⟨I',T',x'⟩:=ma I1 pl ha na pa fa a ha na pa fa _ k1 k2 k3 k4;have hu:=I'.base;rw[pl.ex]at hu;exact⟨a,C,T',H,rfl,x'.fly,⟨x'.ha,x'.hT⟩,⟨x'.na,x'.nT⟩,I'.os,I'.bare,hu,I'.hok,hE⟩
theorem sE{XE:XK}{e:Value}{s':Shared}(I:Inv X pins σ H s)(pl:Plain X)(c:CXU X.prog X.w X.stack H s XE e s') :
  ∃a C T H1,e=.ref a/\Inv X pins σ H1 s'/\XAt X pins H1 s' a C T .none/\XE (.ref C) none H1/\Kp H H1:=by
 obtain⟨a,C,T,H1,rfl,fl,⟨h1,h2⟩,⟨n1,n2⟩,os,ba,un,hok,hE⟩:=c;refine⟨a,C,T,H1,rfl,I.call' (ch:=[]) os un hok ba (fun _ z=>nomatch z),⟨fl,h1,h2,d6 I pl n1,d6 I pl n2,fun p hp=>⟨fun z=>?_,fun z=>?_⟩⟩,hE,⟨un.tups,un.frzs⟩⟩
 ·have:=(I.pin p hp).1;rw[z,n1]at this;cases this
 ·have:=(I.pin p hp).1;rw[z,n2]at this;cases this
end
end
end U
namespace U
open L2 PySem.W
theorem uQ:entryFor table "BaseException.__getattribute__"=some Builtin.«object.__getattribute__» :=
 entryFor_alias (id':="object.__getattribute__") (by kernel_rfl) (by first | rfl | decide +kernel) (by decide +kernel) (by kernel_rfl)
section
variable {prog:Program}{w:World}{A:Around}{E:Value->Shared->Prop}{h:Heap}{g:Array GenState}{d:Drawn}{t:Nat}{os:OsState}{a C:Addr}{o:Obj}{K:Frag}
theorem xH{R:Result->Shared->Prop}(X:K.In h)(hx:h.get? a=some o)(hc:o.cls=.ref C)(hm:mroIn K C (.type "object")=some true)(hq:R (.ok (.ret (.ref C))) ⟨h,g,d,t,os⟩) :
  codeAny (model prog w) A (.call (.builtin "getset_descriptor.__get__") ⟨[.builtin "object.__class__",.ref a,.ref C],[]⟩) R ⟨h,g,d,t,os⟩:=by
 have hT5:(⟨h,g,d,t,os⟩:Shared).TypeIs (.builtin "object.__class__") "getset_descriptor":=F.typeOf_object_class;have LS:Looks (model prog w) h (isSubtype (.ref C) (.type "object")) true:=looks_mroIn X hm;have f8:=F.owner_object_class;refine codeAny_call_builtin F.slot_gs_get.plain F.entry_gs_get (F.slot_gs_get.check _ _ _ _ _ _ _ _ hT5 (F.args_gs_get _ _ _) ?_)
 repeat (any_goals (first | assumption | wp_step))
 rw[hc,f8];refine LS.at ?_
 repeat (any_goals (first | assumption | wp_step))
 refine⟨Code.quiet_builtin _ (by decide +kernel),I0 F.entry_object_class ?_⟩
 repeat (any_goals (first | assumption | wp_step))
 all_goals (rw[hc];exact hq)
theorem rB{tk:Tok}{Q:Fin->Shared->Prop}(X:K.In h)(hx:h.get? a=some o)(hc:o.cls=.ref C)(hm:mroIn K C (.type "object")=some true)(hf:findIn K (.ref C) "__class__"=some (some (.builtin "object.__class__")))(hq:Q (.done (.ret (.ref C))) ⟨h,g,d,t,os⟩) :
  wpAny (model prog w) A (Builtin.«object.__getattribute__» ⟨[.ref a,.str "__class__" tk],[]⟩) Q E ⟨h,g,d,t,os⟩:=by
 have hT5:(⟨h,g,d,t,os⟩:Shared).TypeIs (.builtin "object.__class__") "getset_descriptor":=F.typeOf_object_class;have LF:Looks (model prog w) h (typeLookup (.ref C) "__class__") (some (.builtin "object.__class__")):=looks_findIn X hf;have f5:=F.typeOf_object_class;have f6:=F.slot_gs_get.lookup;have f7:=F.slot_gs_set.lookup
 repeat (any_goals (first | assumption | wp_step))
 rw[hc];refine LF.at ?_
 repeat (any_goals (first | assumption | wp_step))
 refine xH X hx hc hm ?_
 repeat (any_goals (first | assumption | wp_step))
theorem qB:builtinKind "BaseException.__getattribute__"=some .slot:=by decide +kernel
theorem uj:splitId "BaseException.__getattribute__"=some ("BaseException","__getattribute__"):=by decide +kernel
theorem qZ{M:Model}{tk:Tok}{Q:Unit->Shared->Prop}(X:K.In h)(hx:h.get? a=some o)(hc:o.cls=.ref C)(hm:mroIn K C (.type "BaseException")=some true)(hq:Q () ⟨h,g,d,t,os⟩) :
  wpAny M A (checkBuiltinCall "BaseException.__getattribute__" ⟨[.ref a,.str "__class__" tk],[]⟩) Q E ⟨h,g,d,t,os⟩:=by
 have LB:Looks M h (isSubtype (.ref C) (.type "BaseException")) true:=looks_mroIn X hm;simp only[checkBuiltinCall,qB,uj]
 repeat (first |(with_reducible refine wpAny_loadPart_at hx ?_;rw[hc]) | with_reducible refine LB.at ?_ | wp_step)
 exact hq
theorem ua{tk:Tok}{R:Result->Shared->Prop}(X:K.In h)(hx:h.get? a=some o)(hc:o.cls=.ref C)(hm:mroIn K C (.type "object")=some true)(hb:mroIn K C (.type "BaseException")=some true)
  (hf:findIn K (.ref C) "__class__"=some (some (.builtin "object.__class__"))) (hq:R (.ok (.ret (.ref C))) ⟨h,g,d,t,os⟩) :
  codeAny (model prog w) A (.call (.builtin "BaseException.__getattribute__") ⟨[.ref a,.str "__class__" tk],[]⟩) R ⟨h,g,d,t,os⟩ :=
 codeAny_call_builtin_at (Code.quiet_builtin _ (by decide +kernel)) uQ (qZ X hx hc hb (rB X hx hc hm hf hq))
theorem xG(self:Value):bindSpecial (.builtin "BaseException.__getattribute__") self=pure (.builtin "BaseException.__getattribute__",[self]):=by
 have hop:withoutEnding? "BaseException.__getattribute__" "#opaque"=none:=by decide +kernel
 have hdat:withoutEnding? "BaseException.__getattribute__" "#data"=none:=by decide +kernel
 simp only[bindSpecial,typeOf,builtinType,hop,hdat,qB];rfl
theorem Bb{tk:Tok}{Q:Value->Shared->Prop}(X:K.In h)(hx:h.get? a=some o)(hc:o.cls=.ref C)(hm:mroIn K C (.type "object")=some true)(hb:mroIn K C (.type "BaseException")=some true)
  (hf:findIn K (.ref C) "__class__"=some (some (.builtin "object.__class__"))) (hg:findIn K (.ref C) "__getattribute__"=some (some (.builtin "BaseException.__getattribute__"))) (hh:findIn K (.ref C) "__getattr__"=some none) (hq:Q (.ref C) ⟨h,g,d,t,os⟩) :
  wpAny (model prog w) A (getAttrBy (.ref a) (.str "__class__" tk) false) Q E ⟨h,g,d,t,os⟩:=by
 have LG:Looks (model prog w) h (typeLookup (.ref C) "__getattribute__") (some (.builtin "BaseException.__getattribute__")):=looks_findIn X hg;have LH:Looks (model prog w) h (typeLookup (.ref C) "__getattr__") none:=looks_findIn X hh;have f3:=xG (.ref a);unfold getAttrBy;refine Jr ?_
 repeat (first |(with_reducible refine wpAny_loadPart_at hx ?_;rw[hc]) | with_reducible refine LG.at ?_ | with_reducible refine LH.at ?_ | wp_step)
 refine ua X hx hc hm hb hf ?_;show wpAny (model prog w) A (handedOut (.ref C)) Q E _;exact handed_on rfl hq
theorem wd{Q:Option Value->Shared->Prop}(X:K.In h)(hx:h.get? a=some o)(hc:o.cls=.ref C)(hm:mroIn K C (.type "object")=some true)(hb:mroIn K C (.type "BaseException")=some true)
  (hf:findIn K (.ref C) "__class__"=some (some (.builtin "object.__class__"))) (hg:findIn K (.ref C) "__getattribute__"=some (some (.builtin "BaseException.__getattribute__"))) (hh:findIn K (.ref C) "__getattr__"=some none)
  (hq:Q (some (.ref C)) ⟨h,g,d,t+1,os⟩):wpAny (model prog w) A (getAttr? (.ref a) "__class__") Q E ⟨h,g,d,t,os⟩:=by
 unfold getAttr? getAttrBy?
 repeat (any_goals (first | assumption | with_reducible apply Bb X hx hc hm hb hf hg hh | wp_step))
end
structure gj (K:Frag) (C:Addr):Prop where
 ex:excIn K C [.type "ValueError",.type "Exception",.type "BaseException",.type "object"] "ValueError.__new__"=true
 ob:mroIn K C (.type "object")=some true
 be:mroIn K C (.type "BaseException")=some true
 ga:findIn K (.ref C) "__getattribute__"=some (some (.builtin "BaseException.__getattribute__"))
 gt:findIn K (.ref C) "__getattr__"=some none
 cl:findIn K (.ref C) "__class__"=some (some (.builtin "object.__class__"))
theorem gj.obj{K:Frag}{C:Addr}(c:gj K C):∃(dd:Option Addr) (cd:ClassData) (sl:Array (Option Value)),K.lookup C=some ⟨.type "type",dd,.cls cd,sl⟩:=by
 have q:=c.ex;unfold excIn at q;split at q
 ·rename_i dd cd sl ho;exact⟨dd,cd,sl,ho⟩
 ·cases q
theorem v5{K:Frag}{a C:Addr}(c:gj K C):KitX K (.ref a) (.ref C) (l8 a C) where
 ty:=fun M h _ ⟨o,h1,h2⟩=>h2▸(Looks.ld h1).andThen .now
 it:=fun M h X _=>by
  obtain⟨dd,cd,sl,ho⟩:=c.obj;intro A' Q' E' s' k q;unfold isType loadHead;exact uH (wpAny_loadPart (k _ _ (X _ _ ho)) (wa q))
 ne:=fun h tp dd its n sl X htp=>by
  obtain⟨dd,cd,sl,ho⟩:=c.obj;refine Bool.eq_false_iff.mpr fun q=>?_;have e:C=tp:=Value.ref.inj (JK.mp q);subst e;have z:=(X _ _ ho).symm.trans htp;exact absurd (congrArg Obj.cls (IH z)) (by show ¬Value.type "type"=Value.type "tuple";decide)
 ca:=fun {_ _ _ _ _ s} X y_ k=>by
  obtain⟨o,h1,h2⟩:=y_;obtain⟨h,g,d,t,os⟩:=s;exact wd X h1 h2 c.ob c.be c.cl c.ga c.gt k
end U
namespace U
open L2
section
variable {B:Bs}
def XL(K:PySem.W.Frag)(B:Bs)(E':XK')(E:XK):Prop:=∀c d H1' H1,E' c d H1'->HR K H1' H1->Ev B.1 B.2 H1' H1->E c d H1
section
variable {P:Program}{w:World}{K:PySem.W.Frag}{mg:Str->Option Value}{base:Heap}
theorem wb{CX:CXT}{N:List Str}{qual:Str}{sc:Scope}{f:Addr}{cdv:Value}{A:Around}{outer:List Env}{s:Shared}{H:Hp}{E:XK}:Plain (mf CX P w K mg base N qual sc f cdv A outer s H E):=⟨rfl,rfl,rfl⟩
theorem okX{x qual:Str}{st:Stmt}{f:Addr}{fd:FuncData}{N ps:List Str}{k:Nat}{sp:Sp'}(F:Fun K x qual st f fd)(S:aB N ps (ak st))(len:∀vs H Q E,sp vs H Q E->vs.length=ps.length)
  (hbody:∀(cdv:Value) (A:Around) (outer:List Env) (s:Shared) (H:Hp) (E:XK) (vs':List PV) (H':PHp) (Q':VK') (E':XK'),cq k (A.deeper (envOfC qual (ak st) s.heap.objs.size f cdv))->XL K (H',H) E' E->sp vs' H' Q' E' ->
   ∃t,iO (mf (CXU P w) P w K mg base N qual (ak st) f cdv A outer s H E) (H',H) (dS st) t/\t (ends Q') (fb N vs') H'):aO P w K mg base (CXU P w) (k+1) f fd ps sp:=by
 obtain⟨oc,od,kV,doc,pm,an,cdv,ct,osl,rfl,lk,hcd⟩:=F.ex;refine Aj lk hcd S (fun vs H Q E zz=>by obtain⟨vs',H',Q',E',r,hr,h,_⟩:=zz;rw[RPs.length _ r];exact len _ _ _ _ h) fun A outer s H vs Q E hr hsp=>?_;obtain⟨vs',H',Q',E',r,hh,h,k1,k2⟩:=hsp;obtain⟨t,ht,hq⟩:=hbody cdv A outer s H E vs' H' Q' E' hr k2 h;refine⟨_,ht,fb N vs',H',_,ml r hh,hq,?_,?_,?_,?_⟩
 ·rintro σ1' H1' σ1 H1 ⟨H3,sb,q⟩ s1 e1;exact k1 _ H3 _ H1 q (by simp[RP]) (s1.hp.sub sb) (e1.sub sb)
 ·rintro v' H1' v H1 ⟨H3,sb,q⟩ r1 s1 e1;exact k1 _ H3 _ H1 q r1 (s1.sub sb) (e1.sub sb)
 ·intro _ _ _ _ z;exact z.elim
 ·intro _ _ _ _ z;exact z.elim
end
section
variable {X:Cx}{k:Nat}{f C D:Addr}{fd:FuncData}{ps:List Str}{sp:Sp'}{E:XK}{E':XK'}{x m n:Str}{p np pos apos cpos:Pos}{e o:Expr}{es:List Expr}{ta:TE'}{t:TA'}
def Lv(X:Cx)(E:XK):Prop:=X.xe=fun e s'=>wpAny (model X.prog X.w) X.A (leaving X.env e) (fun _ s''=>CXU X.prog X.w X.outer X.H₀ X.s₀ E e s'') (fun e' s''=>CXU X.prog X.w X.outer X.H₀ X.s₀ E e' s'') s'
theorem wH{K:PySem.W.Frag}{h:Heap}(KX:K.In h)(c:gj K C):∃(bm:List Value) (N:Addr) (nm q:Str) (bs:List Value) (hdct:Bool) (sn:List Str) (sub:List Value) (ab:Bool) (col:Option Bool) (dd:Option Addr) (k0 k1 k2 k3 k5:Option Value) (mN:Str->Option Value),
  h.get? C=some (excClassObj nm q C N bs bm hdct sn sub ab col dd k0 k1 k2 k3 k5 "ValueError.__new__")/\h.Ns N mN/\mN "__init__"=none/\OwnTail h [.type "ValueError",.type "Exception",.type "BaseException",.type "object"] bm:=by
 have q:=c.ex;unfold PySem.W.excIn at q;split at q
 ·rename_i dd cd sl ho;split at q
  ·rename_i C' bm k0 k1 k2 k3 n k5 hm hs;simp only[Jq,JK,Bool.not_eq_true']at q;obtain⟨⟨⟨⟨⟨rfl,rfl⟩,hdel⟩,ht⟩,hok⟩,hni⟩:=q;obtain⟨nm,bs,mro,ns,qn,hd,sn,sub,ab,col,del⟩:=cd;dsimp only at hm hdel hok hni;subst hm hdel;have hsl:sl=#[k0,k1,k2,k3,some (.builtin "ValueError.__new__"),k5]:=by
    obtain⟨l⟩:=sl;simp only at hs;rw[hs]
   subst hsl;exact⟨bm,ns,nm,qn,bs,hd,sn,sub,ab,col,dd,k0,k1,k2,k3,k5,_,KX _ _ ho,.of_isNs (PySem.W.isNs_of_in KX hok),PySem.W.nsMap_none_of_in KX hok hni,PySem.W.tail_of_in KX ht⟩
  ·cases q
 ·cases q
def vq(C:Addr)(E':XK'):TS':=fun _ _ H=>E' (.ref C) none H
theorem uA{msg:Str}{j:Nat}{mp:Pos}(l:Lv X E)(pl:Plain X)(hE:XL X.K B E' E)(hc:X.calm=true)(c:gj X.K C)(hg:Gl X x)(hm:X.mg x=some (.ref C))(hdb:(x==("__debug__":Str))=false:=by decide) :
  PS' X B (.Raise (some (.Call (.Name x np) [.Constant (.str msg) j mp] [] cpos)) none pos) (vq C E'):=by
 intro pins s σ H Dn I ⟨σ',H',D',sr,h,dr⟩;have hE1:E (.ref C) none H:=hE _ _ H' H h sr.hp sr.ev;obtain⟨bm,N,nm,q,bs,hdct,sn,sub,ab,col,dd,k0,k1,k2,k3,k5,mN,hC,hN,hni,TL⟩:=wH I.mod.kin c;refine wpAny_Raise_call_subT (C:=C) (nm:=nm) (q:=q) (N:=N) (bs:=bs) (bm:=bm) (hdct:=hdct) (sn:=sn) (sub:=sub) (ab:=ab) (col:=col) (dd:=dd) (k0:=k0) (k1:=k1) (k2:=k2) (k3:=k3) (k5:=k5) PySem.F.excBase_ValueError (TL.hasType (by decide)) (I.ok.hd hc) rfl hni (fk I hg hm ⟨rfl,?_⟩ hdb);refine Calls.evalArgs_plain ?_;refine thn (bU (X:=X) uW cI rfl cpos pins s σ H (fun vs H1=>vs=[.str msg]/\H1=H) I ⟨rfl,rfl⟩) fun us s2 y_=>?_;obtain⟨vs,H1,I2,r,ev,eh⟩:=y_;subst ev;subst eh;have hl:us.length=1:=by rw[←r.length];rfl
 refine⟨rfl,by show us.length≤sizeLine;rw[hl];exact ag (by decide),I2.bk _ _ hC,hN.keeps I2.bk,TL.keeps I2.bk,fun h' a mx=>?_⟩;rw[l];exact oj I2 pl mx hE1
end
end
section
variable {B:Bs}
section
variable {X:Cx}{pins:List (Addr×Obj)}{σ:L2.St}{H:Hp}{s:Shared}{a C T:Addr}{fl:Value}
theorem name_goes{M:Model}{A:Around}{E:Value->Shared->Prop}{i:Nat}{n:Str}{pos:Pos}{Q:Unit->Shared->Prop}(I:Inv X pins σ H s)(hN:X.N.Nodup)(hi:X.N[i]?=some n)(hl:X.env.scope.names.lookup n=some .local)
  (h:∀s',Inv X pins (σ.set i none) H s'->Q () s'):wpAny M A (do bindName X.env n .none;unbindBehindTheSuite X.env n pos) Q E s:=by
 obtain⟨m,hn,hlo⟩:=id I.loc;have hcls:(X.env.scope.kind==.class||(X.env.scope.kind==.module&&X.env.locals !=X.env.globals))=false:=by rw[I.ok.kind];rfl
 refine wpAny_nameGoes_keeps hl hn hcls fun h' v hn' hs=>h _ ?_;obtain⟨oL,_,_,hoL,_⟩:=id hn;have cne:=I.cne;refine⟨I.ok,I.os,I.bare,⟨fun b o e n' hb hx=>?_,fun b o e n' hb hx=>?_,I.base.free,fun b o e hx=>?_,I.base.tups,I.base.frzs,I.base.tbls⟩,⟨_,hn',fun j y v' e1 e2 e3=>?_⟩,fun y c e=>?_,I.free,I.freeC,fun p hp=>?_,fun b ob e=>?_,by rw[List.length_set];exact I.len⟩
 ·exact(hs.2 b (B6 (Iq (xV e) I.ok.above))).trans (I.base.keep b o e n' hb hx)
 ·obtain⟨sl,e1⟩:=I.base.slot b o e n' hb hx;exact⟨sl,(hs.2 b (B6 (Iq (xV e) I.ok.above))).trans e1⟩
 ·obtain⟨o',e1⟩:=I.base.there b o e hx;exact⟨o',(hs.2 b (B6 (Iq (xV e) I.ok.above))).trans e1⟩
 ·by_cases hj:j=i
  ·subst hj;by_cases hlt:j<σ.length
   ·rw[Jw hlt]at e2;cases e2
   ·rw[Jm (by simpa using Nat.le_of_not_lt hlt)]at e2;cases e2
  ·rw[List.getElem?_set_ne (Ne.symm hj)]at e2;obtain⟨u',r',q⟩:=hlo j y v' e1 e2 e3;refine⟨u',r',?_⟩;rcases q with⟨k,e⟩ |⟨k,c,e,z⟩
   ·refine .inl ⟨k,?_⟩;have:y≠n:=fun e=>hj (jX hN e1 (e▸hi));simp[this,e]
   ·exact .inr ⟨k,c,e,z.sameBut hs (cne y c e)⟩
 ·obtain⟨w',z⟩:=I.cell y c e;exact⟨w',z.sameBut hs (cne y c e)⟩
 ·obtain⟨e,n',ne,nf,d⟩:=I.pin p hp;exact⟨(hs.2 p.1 ne).trans e,n',ne,nf,d⟩
 ·refine(I.hok b ob e).stay (fun c w' hc q=>(hs.2 c ?_).trans q) (fun _ q=>q) fun _ _ q=>q;rintro rfl;rcases hc with rfl | hc
  ·rw[I.free]at e;cases e
  ·rw[I.free]at hc;cases hc
theorem zL(I:Inv X pins σ H s)(x:XAt X pins H s a C T fl):Inv X pins σ (upd H a (.ext (l8 a C))) s:=by
 obtain⟨oe,vs,oT,ts,a0,e1,e2,e3,e4,e5,e7,e8,e9,e10⟩:=x.fly;have hL:X.env.locals≠a:=by
  rintro rfl;obtain⟨m,⟨o,es,ep,ho,hd,_⟩,_⟩:=I.loc;rw[e1]at ho;cases ho;rw[e4]at hd;cases hd
 refine⟨I.ok,I.os,I.bare,⟨I.base.keep,I.base.slot,fun b o e n hx=>?_,I.base.there,fun b xs e=>?_,fun b o u e=>?_,fun b ps e=>?_⟩,I.loc,I.cell,?_,fun y c e=>?_,fun p hp=>?_,fun b ob e=>?_,I.len⟩
 ·rw[aP (fun z=>by subst z;rw[x.na]at e;cases e)];exact I.base.free b o e n hx
 ·have:=I.base.tups b xs e;rw[aP (aY this x.ha)];exact this
 ·have:=I.base.frzs b o u e;rw[aP (aY this x.ha)];exact this
 ·obtain⟨more,this⟩:=I.base.tbls b ps e;exact⟨more,by rw[aP (aY this x.ha)];exact this⟩
 ·rw[aP hL];exact I.free
 ·refine(aP ?_).trans (I.freeC y c e);rintro rfl;obtain⟨v,o,ho,hd⟩:=I.cell y c e;rw[e1]at ho;cases ho;rw[e4]at hd;cases hd
 ·obtain⟨e,n,ne,nf,d⟩:=I.pin p hp;exact⟨e,by rw[aP (x.pin p hp).1];exact n,ne,nf,d⟩
 ·by_cases hb:b=a
  ·subst hb;rw[bc]at e;cases e;exact⟨⟨oe,e1,e2⟩,⟨oe,e1⟩,fun h1 h2 y_ k=>by obtain⟨o,q1,q2⟩:=y_;exact ⟨o,k o q1,q2⟩⟩
  ·rw[aP hb]at e;exact(I.hok b ob e).stay (fun _ _ _ q=>q) (fun c q=>by rw[aP (aY q x.ha)];exact q) fun c xs q=>by rw[aP (aY q x.ha)];exact q
abbrev mk(X:Cx)(e:Value):Cx:={ X with A:=X.A.mark (some e),calm:=false,xe:=fun _ _=>False }
theorem ur(I:Inv X pins σ H s)(e:Value):Inv (mk X e) pins σ H s :=
 ⟨⟨I.ok.mod,I.ok.kind,I.ok.glob,I.ok.blt,I.ok.above,I.ok.inj,I.ok.has,I.ok.cab,(fun z=>by cases z),I.ok.frames,I.ok.stk,I.ok.exf,I.ok.bs,I.ok.bsz,I.ok.noex,I.ok.exfs,I.ok.funs,I.ok.frf⟩,I.os,I.bare,I.base,I.loc,I.cell,I.free,I.freeC,I.pin,I.hok,I.len⟩
theorem uM{e:Value}(ok:X.Ok)(I:Inv (mk X e) pins σ H s):Inv X pins σ H s:=⟨ok,I.os,I.bare,I.base,I.loc,I.cell,I.free,I.freeC,I.pin,I.hok,I.len⟩
theorem uK(pl:Plain X)(e:Value):Plain (mk X e):=⟨pl.ex,pl.stk,pl.fr⟩
open PySem.W in
theorem jz{M:Model}{A:Around}{E:Value->Shared->Prop}{D:Addr}{b:Bool}{Q:Bool->Shared->Prop}(KX:X.K.In s.heap)(cD:gj X.K D)(hm:mroIn X.K C (.ref D)=some b)(x:∃o,s.heap.get? a=some o/\o.cls=.ref C)
  (h:Q b s):wpAny M A (excMatches (.ref a) (.ref D)) Q E s:=by
 obtain⟨oe,he,hcls⟩:=x;obtain⟨bm,N,nm,q,bs,hdct,sn,sub,ab,col,dd,k0,k1,k2,k3,k5,mN,hC,hN,hni,TL⟩:=wH KX cD;have hcB:(Value.ref D::bm).contains (.type "BaseException")=true:=by rw[List.contains_cons,TL.hasType (X:="BaseException") (b:=true) (by decide),Bool.or_true]
 have LS:Looks M s.heap (isSubtype (.ref C) (.ref D)) b:=looks_mroIn KX hm;have f:=tc_notTuple;obtain⟨hp,g,d,t,os⟩:=s;unfold excMatches
 repeat (first |(with_reducible refine wpAny_loadPart_at he ?_;rw[hcls]) | with_reducible refine wpAny_loadPart_at hC ?_ |(with_reducible refine wpAny_isSubtype_exc hC ?_;rw[hcB]) | with_reducible refine LS.at ?_ | wp_step)
 cases b with
 | true=>wp_walk;exact h
 | false=>wp_walk;exact h
end
end
section
variable {B:Bs}
abbrev TX':=St'->PHp->VK'->XK'->Prop
abbrev jh:=di->(St'->XK')->St'->PHp->Prop
structure pe (X:Cx) (B:Bs) (pins:List (Addr × Obj)) (σ':St') (H':PHp) (H:Hp) (E':XK') (σ1:L2.St) (a:Addr) (s1:Shared):Prop where
 ex:∃H1' H1 C T,Inv X pins σ1 H1 s1/\XAt X pins H1 s1 a C T .none/\SR X.K B σ' H1' σ1 H1/\Ev H' H H1' H1/\E' (.ref C) none H1'
def PXE(X:Cx)(B:Bs)(e:Expr)(t:TX'):Prop:=∀(Ex:Value->Shared->Prop) (pins:List (Addr×Obj)) (s:Shared) (σ:L2.St) (H:Hp) (Q:VK) (σ':St') (H':PHp) (Q':VK') (E':XK'),Inv X pins σ H s->SR X.K B σ' H' σ H->t σ' H' Q' E' ->
 (∀v' H1' v H1,Q' v' H1'->RP X.K H1 v' v->SR X.K B σ' H1' σ H1->Ev H' H H1' H1->Q v H1)->(∀a s1,pe X B pins σ' H' H E' σ a s1->Ex (.ref a) s1)->wpAny (model X.prog X.w) X.A (eval e X.env) (EP X pins σ Q) Ex s
def PSX(X:Cx)(B:Bs)(st:Stmt)(t:jh):Prop:=∀(Ex:Value->Shared->Prop) (pins:List (Addr×Obj)) (s:Shared) (σ:L2.St) (H:Hp) (D:Ends) (σ':St') (H':PHp) (D':di) (E':St'->XK'),Inv X pins σ H s->SR X.K B σ' H' σ H->t D' E' σ' H'->DR X.K B D' D H' H ->
 (∀σ1' σ1 a s1,pe X B pins σ1' H' H (E' σ1') σ1 a s1->Ex (.ref a) s1)->wpAny (model X.prog X.w) X.A (exec st X.env) (SP X pins D) Ex s
def Ey(X:Cx)(B:Bs)(sts:List Stmt)(t:jh):Prop:=∀(Ex:Value->Shared->Prop) (pins:List (Addr×Obj)) (s:Shared) (σ:L2.St) (H:Hp) (D:Ends) (σ':St') (H':PHp) (D':di) (E':St'->XK'),Inv X pins σ H s->SR X.K B σ' H' σ H->t D' E' σ' H'->DR X.K B D' D H' H ->
 (∀σ1' σ1 a s1,pe X B pins σ1' H' H (E' σ1') σ1 a s1->Ex (.ref a) s1)->wpAny (model X.prog X.w) X.A (execs sts X.env) (SP X pins D) Ex s
section
variable {X:Cx}{k:Nat}{f C D:Addr}{fd:FuncData}{ps:List Str}{sp:Sp'}{x m n:Str}{p np pos apos cpos:Pos}{e o:Expr}{es:List Expr}{ta:TE'}{t:TA'}
theorem z8{α:Type}{A:Around}{tr:Sem α}{Q:α->Shared->Prop}{Ex:Value->Shared->Prop}{M:Model}{s:Shared}(h:wpAny M A tr Q (fun _ _=>False) s):wpAny M A tr Q Ex s:=JJ h (fun _ _ q=>q) fun _ _ z=>z.elim
theorem pe.later{pins:List (Addr×Obj)}{σ':St'}{H' H1':PHp}{H H1:Hp}{E':XK'}{σ1:L2.St}{a:Addr}{s1:Shared}(c:pe X B pins σ' H1' H1 E' σ1 a s1)(e:Ev H' H H1' H1):pe X B pins σ' H' H E' σ1 a s1:=by
 obtain⟨H2',H2,C,T,i,x,s,v,q⟩:=c.ex;exact⟨H2',H2,C,T,i,x,s,e.trans v,q⟩
theorem HY{pins:List (Addr×Obj)}{σ:L2.St}{H:Hp}{s:Shared}{Q:VK}{us:List Value}{vs:List V}{Ex:Value->Shared->Prop}{σ':St'}{H':PHp}{vs':List PV}{Q':VK'}{E':XK'}(pl:Plain X)
  (F:aO X.prog X.w X.K X.mg X.base (CXU X.prog X.w) k f fd ps sp) (hr:cq k X.A) (hb:Binds X.K fd ps []) (I:Inv X pins σ H s) (sr:SR X.K B σ' H' σ H) (r:Vals vs us) (r':RPs X.K H vs' vs) (h:sp vs' H' Q' E')
  (hQ:∀v' H1' v H1,Q' v' H1'->RP X.K H1 v' v->SR X.K B σ' H1' σ H1->Ev H' H H1' H1->Q v H1) (hE:∀a s1,pe X B pins σ' H' H E' σ a s1->Ex (.ref a) s1) :
  wpAny (model X.prog X.w) X.A (call (.ref f) us) (EP X pins σ Q) Ex s:=by
 have hsp:gJ X.K sp vs H Q (fun c d H1=>∃H1',E' c d H1'/\HR X.K H1' H1/\Ev H' H H1' H1) :=
  ⟨vs',H',Q',E',r',sr.hp,h,fun v' H2' v H2 q r2 h2 e2=>hQ v' H2' v H2 q r2 (sr.kp e2 h2) e2,fun c d H2' H2 q h2 e2=>⟨H2',q,h2,e2⟩⟩
 have hl:(us++[]).length=ps.length:=by rw[IP,← r.length];exact F.len _ _ _ _ hsp
 have hb':=hb s us I.kIn hl;rw[IP]at hb';refine wpAny_call (JY (F.run X.A X.stack s H ⟨us,[]⟩ us vs Q _ hr I.env0 hb' r hsp) fun r s' hq=>?_);cases r with
 | error e =>
  have hq':CXU X.prog X.w X.stack H s (fun c d H1=>∃H1',E' c d H1'/\HR X.K H1' H1/\Ev H' H H1' H1) e s':=hq;obtain⟨a,C,T,H1,rfl,I1,x1,⟨H1',q,h1,e1⟩,_⟩:=sE I pl hq';exact hE a s' ⟨H1',H1,C,T,I1,x1,sr.kp e1 h1,e1,q⟩
 | ok fl =>
  cases fl with
  | ret u=>exact I.after hq
  | next=>exact False.elim hq
  | brk=>exact False.elim hq
  | cont=>exact False.elim hq
def z0(sp:Sp')(t:TA'):TX':=fun σ H Q E=>t σ H fun vs H1=>sp vs H1 Q E
theorem yp(pl:Plain X)(F:aO X.prog X.w X.K X.mg X.base (CXU X.prog X.w) k f fd ps sp)(hr:cq k X.A)(hg:Gl X x)(hm:X.mg x=some (.ref f))(hk:PySem.W.keepIn X.K (.ref f)=true)(hb:Binds X.K fd ps [])
  (ha:PA' X.nox B (e::es) t) (hdb:(x==("__debug__":Str))=false:=by decide) (he:starEach (e::es) X.env=(false,eval e X.env)::starEach es X.env:=by rfl) (hpl:(backTo pos (starEach es X.env)).any (·.1)=false:=by rfl) :
  PXE X B (.Call (.Name x p) (e::es) [] pos) (z0 sp t):=by
 intro Ex pins s σ H Q σ' H' Q' E' I sr h hQ hE;refine Jl (fk I hg hm ?_ hdb);have hA:=ha pos pins s σ H (fun vs H1=>∃vs' H1',RPs X.K H1 vs' vs/\SR X.K B σ' H1' σ H1/\Ev H' H H1' H1/\sp vs' H1' Q' E') (I.wish _) ⟨σ',H',_,sr,h,fun vs' H1' vs H1 q r s1 e1=>⟨vs',H1',r,s1,e1,q⟩⟩;refine PySem.W.callWith_K (h₀:=X.base) I.ok.mod.kin hk (thn (z8 hA) fun us s1 ⟨vs,H1,I1,r,vs',H1',r',s1',e1,q⟩=>⟨I1.kIn,?_⟩) he hpl;exact HY pl F hr hb I1.unwish s1' r r' q (fun v' H2' v H2 q r2 s2 e2=>hQ v' H2' v H2 q r2 s2 (e1.trans e2)) fun a s2 c=>hE a s2 (c.later e1)
def DD(i:Nat)(t:TX'):jh:=fun D E σ H=>t σ H (fun v H1=>D.nx (σ.set i (some v)) H1) (E σ)
def EW(t:TX'):jh:=fun D E σ H=>t σ H (fun _ H1=>D.nx σ H1) (E σ)
theorem Bq{i:Nat}{y:Str}{pos':Pos}{tx:TX'}(hN:X.N.Nodup)(hi:X.N[i]?=some y)(hy:Loc X.env.scope y)(he:PXE X B e tx)(hs:swapsWith e (some (.Name y pos')) pos.line X.env=pure false:=by rfl)
  (hf:X.fn y=true∨X.env.scope.names.lookup y=some .local:=by first | exact .inl rfl | exact .inr rfl | assumption):PSX X B (.Assign [.Name y pos'] e pos) (DD i tx):=by
 intro Ex pins s σ H D σ' H' D' E' I sr h dr hE;refine wpAny_Assign_Name (thn (he Ex pins s σ H (fun v H1=>∃v' H1',D'.nx (σ'.set i (some v')) H1'/\RP X.K H1 v' v/\SR X.K B σ' H1' σ H1/\Ev H' H H1' H1) σ' H' _ (E' σ') I sr h (fun v' H1' v H1 q r s1 e1=>⟨v',H1',q,r,s1,e1⟩) fun a s1 c=>hE σ' σ a s1 c) fun v s1 ⟨y,H1,I1,r1,v',H1',q,r,s1',e1⟩=>?_) hs;exact gL I1 hN hi hy r1 (fun s2 I2=>⟨_,H1,I2,dr.nx _ _ _ _ q (s1'.set r i) e1⟩) hf
def HP(t u:jh):jh:=fun D E σ H=>t { D with nx:=u D E } E σ H
theorem yj{st:Stmt}{ts:jh}(h:PSX X B st ts):Ey X B [st] ts:=by
 intro Ex pins s σ H D σ' H' D' E' I sr ht dr hE;refine wpAny_execs_cons (thn (h Ex pins s σ H D σ' H' D' E' I sr ht dr hE) fun f s1 q=>?_);cases f with
 | next=>exact wpAny_execs_nil q
 | _=>exact q
def xIf(c:TT')(t u:jh):jh:=fun D E σ H=>c σ H fun b H1=>cif b (t D E σ H1) (u D E σ H1)
def DY(K:PySem.W.Frag)(D:Addr)(t:jh)(i j:Nat):TS':=fun Dn σ H=>t Dn (fun σ1 c d H1=>∃C,c=.ref C/\(gj K C/\PySem.W.mroIn K C (.ref D)=some true)/\∀a,H1 a=none->Dn.nx (((σ1.set i (some (.ref a))).set j (some (.ref a))).set i none) (put H1 a (.exc C))) σ H
theorem AS{body:List Stmt}{tb:jh}{i j:Nat}{z:Str}{zp n2 ap hp:Pos}(pl:Plain X)(hN:X.N.Nodup)(hi:X.N[i]?=some n)(hj:X.N[j]?=some z)(hln:X.env.scope.names.lookup n=some .local)(hlz:X.env.scope.names.lookup z=some .local)
  (cD:gj X.K D) (hg:Gl X x) (hm:X.mg x=some (.ref D)) (hb:Ey X B body tb)
  (hdb:(x==("__debug__":Str))=false:=by decide) (hnd:(n==("__debug__":Str))=false:=by decide) (hncd:(n==("__classdict__":Str))=false:=by decide)
  (hsw:swapsWith (.Name n n2) (some (.Name z zp)) ap.line X.env=pure false:=by rfl) :
  PS' X B (.Try body [.ExceptHandler (some (.Name x np)) (some n) [.Assign [.Name z zp] (.Name n n2) ap] hp] [] [] pos) (DY X.K D tb i j):=by
 intro pins s σ H Dn I ⟨σ',H',D',sr,h,dr⟩;refine wpAny_Try_except (JJ (hb (fun e s₁=>wpAny (model X.prog X.w) X.A (noteFrame e X.env) (fun _ s₂=>wpAny (model X.prog X.w) X.A (setFlight e none) (fun _ s₃=>wpAny (model X.prog X.w) X.A (handleBy e X.env [.ExceptHandler (some (.Name x np)) (some n) [.Assign [.Name z zp] (.Name n n2) ap] hp]) (SP X pins Dn) X.xe s₃) X.xe s₂) X.xe s₁)
  pins s σ H Dn σ' H' D' _ I sr h dr ?_) (fun f s₁ q=>?_) fun _ _ q=>q)
 ·rintro σ1' σ1 a s1 ⟨H1',H1,C,T,I1,x1,sr1,e1,C',ec,⟨cC,hmC⟩,hn⟩;cases ec;refine CA I1 pl x1 fun h2 T2 I2 x2=>?_;refine tF I2 pl x2 fun h3 T3 I3 x3=>?_;obtain⟨oe,vs,oT,ts,a0,q1,q2,_⟩:=id x3.fly;refine wpAny_handleBy_cons (codeAny_handlers_test (fk (ur I3 (.ref a)) hg hm ?_ hdb)) (by intro q;cases q);refine jz (X:=X) I3.kIn cD hmC ⟨oe,q1,q2⟩ ?_;show codeAny _ _ (.handlers (.ref a) [.ExceptHandler none (some n) [.Assign [.Name z zp] (.Name n n2) ap] hp] X.env) _ _;refine codeAny_handlers_suite_as ?_;refine tF (X:=mk X (.ref a)) (ur I3 (.ref a)) (uK pl _) (T:=T3) (fl:=.none) ⟨x3.fly,x3.ha,x3.hT,x3.na,x3.nT,x3.pin⟩ fun h4 T4 I4 x4=>?_;have I5:=zL I4 x4;refine gL (X:=mk X (.ref a)) (v:=.ref a) I5 hN hi (Or.inl hln) rfl (fun s5 I6=>?_) (.inr hln);have ps:=qP (vE (X:=mk X (.ref a)) (pos:=ap) (i:=j) hN hj (Or.inl hlz) (vd (pos:=n2) hi (Or.inl hln) hnd hncd) hsw (.inr hlz));have hiσ:i<σ1.length:=by rw[I1.len];exact(vM.mp hi).1
  refine z8 (thn (ps pins s5 _ _ { nx:=fun σ6 H6=>σ6=(σ1.set i (some (.ref a))).set j (some (.ref a))/\H6=upd H1 a (.ext (l8 a C)),rt:=fun _ _=>False } I6 ⟨.ref a,Jw hiσ,rfl,rfl⟩) fun f s6 q=>?_);cases f with
  | next =>
   obtain⟨σ6,H6,I7,rfl,rfl⟩:=q;show wpAny _ X.A (do bindName X.env n .none;unbindBehindTheSuite X.env n hp) _ _ _;refine name_goes (uM I.ok I7) hN hi hln fun s7 I8=>?_;refine⟨_,_,I8,dr.nx _ _ _ _ (hn a (sr1.hp.free x1.ha)) ?_ (e1.trans (Ev.new x1.ha))⟩;have srn:SR X.K B σ1' (put H1' a (.exc C)) σ1 (upd H1 a (.ext (l8 a C))):=sr1.new x1.ha (bc);have r:RP X.K (upd H1 a (.ext (l8 a C))) (.ref a) (.ref a):=by simp[RP]
   have sr2:=(srn.set r i).set r j;refine⟨by simp[sr2.len],fun k v' ek=>?_,sr2.hp,sr2.ev⟩;by_cases hk:i=k
   ·subst hk;by_cases hlt:i<σ1'.length
    ·rw[Jw (by simpa using hlt)]at ek;cases ek
    ·rw[Jm (by simpa using Nat.le_of_not_lt hlt)]at ek;cases ek
   ·rw[List.getElem?_set_ne hk]at ek ⊢;exact sr2.loc k v' ek
  | ret v=>obtain⟨_,_,_,_,_,z⟩:=q;exact z.elim
  | brk=>obtain⟨_,_,_,z⟩:=q;exact z.elim
  | cont=>obtain⟨_,_,_,z⟩:=q;exact z.elim
 ·cases f with
  | next=>exact wpAny_execs_nil q
  | ret v=>exact q
  | brk=>exact q
  | cont=>exact q
def Ay(K:PySem.W.Frag)(D:Value)(x:PV)(H:PHp)(Q:VK'):Prop:=match x with
 | .ref a=>∃C b,H a=some (.exc C)/\gj K C/\PySem.W.kitOne K (.ref C) D=some b/\Q (.bl b) H
 | _=>False
def cY(K:PySem.W.Frag)(D:Value)(ta:TE'):TE':=fun σ H Q=>ta σ H fun x H1=>Ay K D x H1 Q
theorem mw{dv:V}(Dv:Value)(hD:∀u,RelV dv u->u=Dv):cv X (.builtin "isinstance") (fun xs H Q=>∃a C b,xs=[.ref a,dv]/\H a=some (.ext (l8 a C))/\gj X.K C/\PySem.W.kitOne X.K (.ref C) Dv=some b/\Q (.bl b) H):=by
 intro pins s σ H xs us Q I r h;obtain⟨a,C,b,rfl,ha,c,k,q⟩:=h;obtain⟨u,w',rfl,rx,rc⟩:=vals2 r;have e1:w'=Dv:=hD _ rc;subst e1;cases rx;obtain⟨ph,_,_⟩:=(show bM X.prog X.w H s.heap a (.ext (l8 a C))from I.hok a _ ha);exact PySem.W.kia_one (v5 c) I.kIn ph k (fun z=>nomatch z) fun tk=>⟨.bl b,H,I.tok _,rfl,q⟩
theorem qJ{K:PySem.W.Frag}{dv':PV}{dv:V}{Dv:Value}(rd:∀H,RP K H dv' dv){σ:L2.St}{H:Hp}{Q:VK}(h:low K B (cY K Dv ta) σ H Q) :
  tCB (fun xs H Q=>∃a C b,xs=[.ref a,dv]/\H a=some (.ext (l8 a C))/\gj K C/\PySem.W.kitOne K (.ref C) Dv=some b/\Q (.bl b) H) (uk (low K B ta) (uk (tC dv) EH)) σ H Q:=by
 obtain⟨σ',H',Q',s,h,k⟩:=h;refine⟨σ',H',_,s,h,fun x' H1' x H1 h1 rx s1 e1=>?_⟩;cases x' with
 | ref a =>
  obtain⟨C,b,ea,c,kk,q⟩:=h1;simp only[RP]at rx;subst rx;exact⟨a,C,b,rfl,s1.hp _ _ ea,c,kk,k _ _ _ _ q (by simp[RP]) s1 e1⟩
 | _=>exact h1.elim
theorem bL{pD:Pos}(hm:X.mg x=some (.ref D))(hgD:Gl X x)(hg:Gl X "isinstance")(hi:X.mg "isinstance"=none)(ha:PE' X B e ta)(hdb:(x==("__debug__":Str))=false:=by decide)
  (he:starEach [e,.Name x pD] X.env=(false,eval e X.env)::starEach [.Name x pD] X.env:=by rfl) (he2:starEach [.Name x pD] X.env=(false,eval (.Name x pD) X.env)::starEach [] X.env:=by rfl) (hpl:(backTo pos (starEach [.Name x pD] X.env)).any (·.1)=false:=by rfl) :
  PE' X B (.Call (.Name "isinstance" p) [e,.Name x pD] [] pos) (cY X.K (.ref D) ta) :=
 a6 (dI (mw (dv:=.ref D) (.ref D) fun u r=>r) hg hi boot_isinstance (bU ha (bU (qA hgD hm (v:=.ref D) rfl hdb) cI he2) he) (by decide) (by decide) he hpl) fun _ _ _ h=>qJ (dv':=.ref D) (fun _=>by simp[RP]) h
theorem yJ{pD:Pos}{T:String}(hm:X.mg x=none)(hv:bootBuiltins x=some (.type T))(hgD:Gl X x)(hg:Gl X "isinstance")(hi:X.mg "isinstance"=none)(ha:PE' X B e ta)(hdb:(x==("__debug__":Str))=false:=by decide)(hxn:x≠"__name__":=by decide)
  (he:starEach [e,.Name x pD] X.env=(false,eval e X.env)::starEach [.Name x pD] X.env:=by rfl) (he2:starEach [.Name x pD] X.env=(false,eval (.Name x pD) X.env)::starEach [] X.env:=by rfl) (hpl:(backTo pos (starEach [.Name x pD] X.env)).any (·.1)=false:=by rfl) :
  PE' X B (.Call (.Name "isinstance" p) [e,.Name x pD] [] pos) (cY X.K (.type T) ta) :=
 a6 (dI (mw (dv:=.ty T) (.type T) fun u r=>r) hg hi boot_isinstance (bU ha (bU (xr hgD hm hv (v:=.ty T) rfl hxn hdb) cI he2) he) (by decide) (by decide) he hpl) fun _ _ _ h=>qJ (dv':=.oth (.ty T)) (fun _=>by simp[RP]) h
end
end
section
def pr(p:Str×Bool):PV:=.tup [.str p.1,.bl p.2]
def told(xs:List (Str×Bool)):List PV:=(xs.filter (·.2)).map fun p=>PV.str p.1
end
section
def IsV(σ:St')(H:PHp)(te:TE')(b:Bool):Prop:=∀Q:VK',Q (.bl b) H->te σ H Q
theorem bt{K:PySem.W.Frag}{D:Value}{a C:Addr}{σ:St'}{H:PHp}{b:Bool}(ha:H a=some (.exc C))(c:gj K C)(k:PySem.W.kitOne K (.ref C) D=some b):IsV (some (.ref a)::σ) H (cY K D (cU 0)) b :=
 fun Q h=>(⟨C,b,ha,c,k,h⟩:Ay K D (.ref a) H Q)
def pairs:List (Str×TE')->List Bool->List PV
 |(n,_)::r,b::bs=>.tup [.str n,.bl b]::pairs r bs
 | _,_=>[]
end
end U
namespace U
theorem len0{P:List Value->Prop}(h:P [])(us:List Value)(hl:us.length=0):P us:=by
 cases us with
 | nil=>exact h
 | cons a r=>exact absurd hl (Nat.succ_ne_zero _)
theorem D6{P:List Value->Prop}(h:∀a,P [a])(us:List Value)(hl:us.length=1):P us:=by
 cases us with
 | nil=>exact absurd hl.symm (Nat.succ_ne_zero _)
 | cons a r=>exact len0 (P:=fun r=>P (a::r)) (h a) r (Nat.succ.inj hl)
theorem EZ{P:List Value->Prop}(h:∀a b,P [a,b])(us:List Value)(hl:us.length=2):P us:=by
 cases us with
 | nil=>exact absurd hl.symm (Nat.succ_ne_zero _)
 | cons a r=>exact D6 (P:=fun r=>P (a::r)) (h a) r (Nat.succ.inj hl)
theorem Ds{P:List Value->Prop}(h:∀a b c,P [a,b,c])(us:List Value)(hl:us.length=3):P us:=by
 cases us with
 | nil=>exact absurd hl.symm (Nat.succ_ne_zero _)
 | cons a r=>exact EZ (P:=fun r=>P (a::r)) (h a) r (Nat.succ.inj hl)
theorem HK{P:List Value->Prop}(h:∀a b c d,P [a,b,c,d])(us:List Value)(hl:us.length=4):P us:=by
 cases us with
 | nil=>exact absurd hl.symm (Nat.succ_ne_zero _)
 | cons a r=>exact Ds (P:=fun r=>P (a::r)) (h a) r (Nat.succ.inj hl)
end U
namespace U
open L2
variable {B:Bs}{X:Cx}
end U
namespace L2
section
def dj(X:Cx)(N2:List Str)(scope:Scope)(cl:List (Str×Addr))(s0:Shared)(H0:Hp)(fp:List Addr)(ps:List (Addr×Obj)):Cx :=
 { X with N:=N2,s₀:=s0,H₀:=H0,env:=compEnvC scope cl s0.heap.objs.size X.env,outer:=X.stack,stack:=X.stack,ex:=fp,fn:=fun x=>(cl.lookup x).isNone,pn:=ps,xe:=fun _ _=>False }
def mU(nt:Nat)(js:List Nat)(σ:St):St:=List.replicate nt none++js.map fun j=>(σ[j]?).join
theorem cS{env:Env}:∀{names:List (Str×NameKind)} {x:Str},names.lookup x=some .free ->
  (names.map fun(n,k)=>if (k==NameKind.free&&env.scope.kind==.function&&env.kindOf n==some .cell)then(n,NameKind.cell)else(n,k)).lookup x=some .cell ∨
  (names.map fun(n,k)=>if (k==NameKind.free&&env.scope.kind==.function&&env.kindOf n==some .cell)then(n,NameKind.cell)else(n,k)).lookup x=some .free
 | [],_,h=>by simp at h
 |(n,k)::r,x,h=>by
  have ih:=@cS env r x;show List.lookup x ((if (k==NameKind.free&&env.scope.kind==.function&&env.kindOf n==some .cell)=true then(n,NameKind.cell)else(n,k))::_)=_∨List.lookup x ((if (k==NameKind.free&&env.scope.kind==.function&&env.kindOf n==some .cell)=true then(n,NameKind.cell)else(n,k))::_)=_;cases hx:x==n with
  | true =>
   simp only[Jd,hx]at h;cases h;by_cases hc:(NameKind.free==NameKind.free&&env.scope.kind==.function&&env.kindOf n==some .cell)=true
   ·rw[Ij hc];simp[Jd,hx]
   ·rw[CI hc];simp[Jd,hx]
  | false =>
   simp only[Jd,hx]at h;by_cases hc:(k==NameKind.free&&env.scope.kind==.function&&env.kindOf n==some .cell)=true
   ·rw[Ij hc];simp only[Jd,hx];exact ih h
   ·rw[CI hc];simp only[Jd,hx];exact ih h
structure cJ (X:Cx) (N2:List Str) (nt:Nat) (js:List Nat) (scope:Scope) (cl:List (Str × Addr)) (sc:Scope):Prop where
 clos:closureFor scope X.env=pure cl
 sub:∀x c,cl.lookup x=some c->X.env.cells.lookup x=some c
 xsc:X.env.scope=sc
 kind:scope.kind=.function
 nocell:∀y∈scope.names,y.2≠.cell
 loc:∀y∈scope.names,y.2=.local->scope.names.lookup y.1=some .local
 has:∀y∈scope.names,y.2=.free->y.1∈cl.map (·.1)
 frs:∀x∈N2.drop nt,scope.names.lookup x=some .free/\sc.names.lookup x=some .cell
 len:N2.length=nt+js.length
 pl:∀(k j:Nat),js[k]?=some j->X.N[j]?=N2[nt+k]?
theorem mem_lookup{α:Type}:∀{l:List (Str×α)} {x:Str},x∈l.map (·.1)->∃c,l.lookup x=some c
 | [],_,h=>by simp at h
 |(n,k)::r,x,h=>by
  cases hx:x==n with
  | true=>exact⟨k,by simp[Jd,hx]⟩
  | false =>
   have h':x=n∨x∈r.map (·.1):=by simpa using h
   have hn:x≠n:=by intro e;subst e;simp at hx
   obtain⟨c,e⟩:=mem_lookup (h'.resolve_left hn);exact⟨c,by simp[Jd,hx,e]⟩
theorem lookup_mem{α:Type}:∀{l:List (Str×α)} {x:Str} {c:α},l.lookup x=some c->(x,c)∈l
 | [],_,_,h=>by simp at h
 |(n,k)::r,x,c,h=>by
  cases hx:x==n with
  | true =>
   simp only[Jd,hx]at h;have e:x=n:=by simpa using hx
   cases h;subst e;exact xP
  | false =>
   simp only[Jd,hx]at h;exact Bo _ (lookup_mem h)
section
variable {X:Cx}{pins:List (Addr×Obj)}{σ:St}{H:Hp}{s:Shared}{N2:List Str}{nt:Nat}{js:List Nat}{scope sc:Scope}{cl:List (Str×Addr)}{fp:List Addr}
theorem cJ.kindOf(O:cJ X N2 nt js scope cl sc){x:Str}{C:Addr}(h:(compEnvC scope cl C X.env).kindOf x=some .cell∨(compEnvC scope cl C X.env).kindOf x=some .free):∃c,cl.lookup x=some c:=by
 have h':(relabel scope X.env).names.lookup x=some .cell∨(relabel scope X.env).names.lookup x=some .free:=h;have key:∀(k:NameKind),(relabel scope X.env).names.lookup x=some k->(k=.cell∨k=.free)->∃y∈scope.names,y.1=x/\(y.2=.cell∨y.2=.free):=fun k e hk=>by
  have m:=lookup_mem e;obtain⟨⟨n,k'⟩,hm,e'⟩:=Bc.mp m;by_cases hc:(k'==NameKind.free&&X.env.scope.kind==.function&&X.env.kindOf n==some .cell)=true
  ·simp only[hc,if_true]at e';have e1:n=x:=congrArg Prod.fst e';refine⟨(n,k'),hm,e1,.inr ?_⟩;rw[Jq,Jq]at hc;exact JK.mp hc.1.1
  ·have e'':(n,k')=(x,k):=by
    dsimp only at e';rw[CI hc]at e';exact e'
   cases e'';exact⟨(x,k),hm,rfl,hk⟩
 obtain⟨y,hy,rfl,hk⟩:=h'.elim (fun e=>key _ e (.inl rfl)) fun e=>key _ e (.inr rfl);rcases hk with hk | hk
 ·exact absurd hk (O.nocell y hy)
 ·exact mem_lookup (O.has y hy hk)
theorem rX(O:cJ X N2 nt js scope cl sc)(I:Inv X pins σ H s)(hf:∀b∈fp,iK X pins H b)(hlt:∀b∈fp,b<s.heap.objs.size):(dj X N2 scope cl s H fp (X.pn++pins)).Ok where
 mod:=I.ok.mod
 kind:=O.kind
 glob:=I.ok.glob
 blt:=I.ok.blt
 above:=yi _
 inj:=fun x y c h1 h2=>I.ok.inj x y c (O.sub x c h1) (O.sub y c h2)
 has:=fun x h=>O.kindOf h
 cab:=fun x c h1 h2=>by
  have h1':(cl.lookup x).isNone=true:=h1;have h2':cl.lookup x=some c:=h2;rw[h2']at h1';cases h1'
 hd:=I.ok.hd
 frames:=I.ok.frames
 stk:=.inl rfl
 exf:=fun b hb=>⟨B6 (hlt b hb),fun x c e=>(hf b hb).2.2.2.2.1 x c (O.sub x c e)⟩
 bs:=I.bs
 bsz:=IC I.ok.bsz I.sz
 noex:=fun b o e hb=>by
  obtain⟨_,_,_,h3,_⟩:=hf b hb;rcases h3 with h3 | h3
  ·exact I.ok.noex b o e h3
  ·exact absurd (Iq (xV (I.ok.bs b o e).1) h3) (JM _)
 exfs:=fun b hb hs=>by
  obtain⟨_,h1,h2,_⟩:=hf b hb;rcases Ic.mp (I.stkSub b hs)with e | e
  ·exact h1 e
  ·exact h2 e
 funs:=I.stack
 frf:=I.stkFree
theorem oz(O:cJ X N2 nt js scope cl sc)(I:Inv X pins σ H s)(hf:∀b∈fp,iK X pins H b)(hlt:∀b∈fp,b<s.heap.objs.size){h4:Heap}{t4:Nat}(hn:h4.Ns s.heap.objs.size fun _=>none)
  (hk:∀b o,s.heap.get? b=some o->h4.get? b=some o):Inv (dj X N2 scope cl s H fp (X.pn++pins)) [] (mU nt js σ) H { s with heap:=h4,toks:=t4 }:=by
 refine⟨rX O I hf hlt,rfl,I.bare,Un.kept hk,⟨_,hn,fun i x v e1 e2 e3=>?_⟩,fun x c e=>?_,I.hok.fresh (yi _),fun x c e=>I.freeC x c (O.sub x c e),fun p hp=>?_,I.hok.kept hk,?_⟩
 ·unfold mU at e2;by_cases hi:i<nt
  ·rw[Ja (by simpa using hi),List.getElem?_replicate]at e2;split at e2<;>cases e2
  ·obtain⟨k,rfl⟩:∃k,i=nt+k:=⟨i - nt,by omega⟩;rw[Jf (by simp),List.length_replicate,Nat.add_sub_cancel_left,II]at e2;cases ej:js[k]? with
   | none=>rw[ej]at e2;cases e2
   | some j =>
    rw[ej]at e2;have e2':(σ[j]?).join=some v:=IH e2;have eσ:σ[j]?=some (some v):=by
     cases q:σ[j]? with
     | none=>rw[q]at e2';cases e2'
     | some o=>rw[q]at e2';exact congrArg some e2'
    have eN:X.N[j]?=some x:=(O.pl k j ej).trans e1;have hx:x∈N2.drop nt:=by
     have:(N2.drop nt)[k]?=some x:=by rw[List.getElem?_drop];exact e1
     exact Iw this
    obtain⟨f1,f2⟩:=O.frs x hx;have vis:Vis X.env.scope x:=.inr (.inl (by rw[O.xsc];exact f2));obtain⟨m,hnX,hl⟩:=I.loc;obtain⟨u,r,l⟩:=hl j x v eN eσ vis;refine⟨u,r,.inr ⟨?_,?_⟩⟩
    ·exact cS f1
    ·rcases l with⟨k1,_⟩ |⟨_,c,ec,ic⟩
     ·have k2:sc.names.lookup x=some .local:=by rw[←O.xsc];exact k1
      rw[f2]at k2;cases k2
     ·obtain⟨c',ec'⟩:=mem_lookup (O.has (x,.free) (lookup_mem f1) rfl);have:=O.sub x c' ec';rw[ec]at this;cases this;obtain⟨o,ho,hd⟩:=ic;exact⟨c,ec',o,hk _ _ ho,hd⟩
 ·obtain⟨v,o,ho,hd⟩:=I.cell x c (O.sub x c e);exact⟨v,o,hk _ _ ho,hd⟩
 ·have hp':p∈X.pn++pins:=by
   have hp2:p∈(X.pn++pins)++[]:=hp
   rwa [IP]at hp2
  obtain⟨e,n,ne,nf,d⟩:=I.pin p hp';refine⟨hk _ _ e,n,B6 (xV e),fun hb=>?_,d⟩;rcases Ic.mp (I.stkSub p.1 hb)with z | z
  ·exact ne z
  ·exact nf z
 ·unfold mU;show _=N2.length;rw[wW,List.length_replicate,rS,O.len]
theorem tu{σ':St}{H':Hp}{s':Shared}{pl:List (Addr×Obj)}(I:Inv X pins σ H s)(hf:∀b∈fp,iK X pins H b)(J:Inv (dj X N2 scope cl s H fp (X.pn++pins)) pl σ' H' s'):Inv X pins σ H' s' :=
 I.call' (ch:=fp) J.os J.base J.hok J.bare fun b hb=>by
  obtain⟨h0,h1,h2,h3,h4,h5⟩:=hf b hb;exact⟨h3,h1,h4,h5⟩
end
end
section
def PIf(Y:Cx)(ifs:List Expr)(t:TT):Prop :=
 ∀(pins:List (Addr×Obj)) (s:Shared) (σ:St) (H:Hp) (Q:Bool->Hp->Prop),Inv Y pins σ H s->t σ H Q ->
  wpAny (model Y.prog Y.w) Y.A (forIn ifs true fun c r=>if r=true then do let ok←isTrue c Y.env (eval c Y.env);pure (ForInStep.yield ok)else pure (ForInStep.yield r)) (TP Y pins σ Q) Y.xe s
def Gf:TT:=fun _ H Q=>Q true H
theorem xg{Y:Cx}:PIf Y [] Gf:=fun _ _ _ H _ I h=>wpAny_tests_nil ⟨H,I,h⟩
theorem xc{Y:Cx}{c:Expr}{t:TT}(h:PT Y c t):PIf Y [c] t:=fun pins s σ H Q I hw=>wpAny_tests_one (h pins s σ H Q I hw)
def Ax(acc:Addr)(J:It)(g:TG)(tt:TT)(te:TE)(W:Nat->Nat->L2.St->Hp->Prop)(i m:Nat)(σ0:L2.St)(H:Hp):Prop :=
 J.go i H/\∀x H',J.yld i H x H'->g x σ0 H' fun σ3 H2=>tt σ3 H2 fun b H3 =>
  if b=true then te σ3 H3 fun y H4=>∃ys,H4 acc=some (.lst ys)/\ys.length<sizeLine/\∃m',m'<m/\W (i+1) m' σ3 (upd H4 acc (.lst (ys++[y])))
  else ∃m',m'<m/\W (i+1) m' σ3 H3
def qN(nt:Nat)(js:List Nat)(wi:TI)(g:TG)(tt:TT)(te:TE):TE:=fun σ H Q=>wi σ H fun J H1=>∀acc,H1 acc=none ->
 ∃W:Nat->Nat->L2.St->Hp->Prop,(∃m,W 0 m (mU nt js σ) (upd H1 acc (.lst [])))/\∀i m σ0 H,W i m σ0 H->(J.stop i H/\Q (.ref acc) H)∨Ax acc J g tt te W i m σ0 H
structure uh (Y:Cx) (tg:Expr) (ifs:List Expr) (elt:Expr) (g:TG) (tt:TT) (te:TE):Prop where
 tgt:PG Y tg g
 tst:PIf Y ifs tt
 elt:PE Y elt te
theorem lX{prog:Program}{w:World}{A:Around}{R:Result->Shared->Prop}{s:Shared}{elt target iter:Expr}{ifs:List Expr}{scope:Scope}{pos:Pos}{it acc:Value}{env:Env}(I:Nat->Shared->Prop)
  (turn:∀n s,I n s->wpAny (model prog w) A (pyNext it) (fun r s₁=>match r with
   | none=>R (.ok .next) s₁
   | some v=>wpAny (model prog w) A (letOwnedTupleGo target it v) (fun _ s₀=>wpAny (model prog w) A (assign target env v) (fun _ s₂ =>
     wpAny (model prog w) A (forIn ifs true fun c r=>if r=true then do let ok←isTrue c env (eval c env);pure (ForInStep.yield ok)else pure (ForInStep.yield r)) (fun ok s₃ =>
      if ok=true then wpAny (model prog w) A (eval elt env) (fun x s₄ =>
       wpAny (model prog w) A (call (.builtin "list.append") [acc,x]) (fun _ s₅=>∃m,m<n/\I m s₅) (fun _ _=>False) s₄) (fun _ _=>False) s₃
      else ∃m,m<n/\I m s₃) (fun _ _=>False) s₂) (fun _ _=>False) s₀) (fun _ _=>False) s₁) (fun _ _=>False) s)
  (n:Nat) (h:I n s) :
  codeAny (model prog w) A (.compLoop (.ListComp elt [⟨target,iter,ifs,0⟩] scope pos) 0 it acc env) R s:=by
 refine codeAny_loop rfl I (fun n s hI=>?_) n h;show wpAny _ A ((compTurn (.ListComp elt [⟨target,iter,ifs,0⟩] scope pos) 0 it acc env).onRaise (fun x=>do noteFrame x env;theTreesLotGoes x)) _ _ s;refine wpAny_noted ?_;rw[compTurn_list];refine uH (wpAny_standAt (uH (JJ (turn n s hI) (fun r s₁ h₁=>?_) fun _ _ h'=>h'.elim)));cases r with
 | none=>exact wa h₁
 | some v =>
  refine uH (JJ h₁ (fun _ s₀ h₀=>?_) fun _ _ h'=>h'.elim);refine uH (JJ h₀ (fun _ s₂ h₂=>uH (JJ h₂ (fun ok s₃ h₃=>?_) fun _ _ h'=>h'.elim)) fun _ _ h'=>h'.elim);cases ok with
  | false=>exact wa ⟨rfl,h₃⟩
  | true =>
   exact uH (uH (JJ h₃ (fun x s₄ h₄=>uH (JJ h₄ (fun _ s₅ h₅=>wa (wa ⟨rfl,h₅⟩)) fun _ _ h'=>h'.elim)) fun _ _ h'=>h'.elim))
section
variable {X:Cx}{pins:List (Addr×Obj)}{σ:St}{H:Hp}{s:Shared}{N2:List Str}{nt:Nat}{js:List Nat}{scope sc:Scope}{cl:List (Str×Addr)}{fp:List Addr}{elt iter tg:Expr}{ifs:List Expr}{pos:Pos}
 {wi:TI} {g:TG} {tt:TT} {te:TE}
theorem nV(O:cJ X N2 nt js scope cl sc)(hc:X.calm=true)(B:∀(s0:Shared) (H0:Hp) (fp:List Addr) (ps:List (Addr×Obj)),uh (dj X N2 scope cl s0 H0 fp ps) tg ifs elt g tt te)
  {it:Addr} {tn:Nat->Heap->Prop} {J:It} {E:Value->Shared->Prop} {Q:VK} {RR:Value->Addr->Result->Shared->Prop}
  (I:Inv X pins σ H s) (T:Turn X.prog X.w X.K tg J fp it tn) (st:tn 0 s.heap) (hf:∀b∈fp,iK X pins H b)
  (h:∀acc,H acc=none->∃W:Nat->Nat->L2.St->Hp->Prop,(∃m,W 0 m (mU nt js σ) (upd H acc (.lst [])))/\∀i m σ0 H,W i m σ0 H->(J.stop i H/\Q (.ref acc) H)∨Ax acc J g tt te W i m σ0 H)
  (hRR:∀(acc C:Addr) (s':Shared) (H':Hp) (m:Str->Option Value),s'.heap.Ns C m->Inv X pins σ H' s'->H' C=none->C≠X.env.locals->X.s₀.heap.objs.size≤C->(∀x c,X.env.cells.lookup x=some c->c≠C)->(∀p∈X.pn++pins,p.1≠C)->Q (.ref acc) H'->RR (.ref acc) C (.ok .next) s') :
  wpAny (model X.prog X.w) X.A (newList []) (fun acc s₃=>wpAny (model X.prog X.w) X.A (newFunctionEnv scope X.env.globals cl [] X.env.qual none .none (some X.env)) (fun cenv s₄ =>
   codeAny (model X.prog X.w) X.A (.compStart (.ListComp elt [⟨tg,iter,ifs,0⟩] scope pos) 0 (.ref it) acc { cenv with scope:=relabel scope X.env }) (RR acc cenv.locals) s₄) E s₃) E s:=by
 have hlt:∀b∈fp,b<s.heap.objs.size:=fun b hb=>by
  obtain⟨o,e,_⟩:=T.obj _ _ st b hb;exact xV e
 have hnA:H s.heap.objs.size=none:=I.hok.fresh (yi _);obtain⟨W,⟨m0,w0⟩,turn⟩:=h s.heap.objs.size hnA;refine IF (wpAny_newFunctionEnv O.nocell (by intro y hy;simp at hy) (fun h₁ hns₁ hsb₁=>?_) O.kind);dsimp only at hns₁ hsb₁ ⊢;have I3:Inv X pins σ (upd H s.heap.objs.size (.lst [])) { s with heap:=s.heap.push { cls:=.type "list",dict:=none,data:=.seq ([]:List Value).toArray } } :=
  I.laid (t':=s.toks) (fun b u e=>va _ e) (yi _) ⟨by show 0≤sizeLine;exact Jk _,[],0,.nil,yf _ rfl⟩
 generalize hs3:({ s with heap:=s.heap.push { cls:=.type "list",dict:=none,data:=.seq ([]:List Value).toArray } }:Shared)=s3 at I3;have e3:s3.heap=s.heap.push { cls:=.type "list",dict:=none,data:=.seq ([]:List Value).toArray }:=by rw[←hs3]
 rw[←e3]at hns₁ hsb₁ ⊢;have et:s3.toks=s.toks:=by rw[←hs3]
 have hf3:∀b∈fp,iK X pins (upd H s.heap.objs.size (.lst [])) b:=fun b hb=>by
  obtain⟨f0,f⟩:=hf b hb;exact⟨by rw[aP (B6 (hlt b hb))];exact f0,f⟩
 have hlt3:∀b∈fp,b<s3.heap.objs.size:=fun b hb=>by rw[e3,Jz];exact Jx (hlt b hb)
 have hk4:∀b o,s3.heap.get? b=some o->h₁.get? b=some o:=fun b o e=>hsb₁.extBut b o (B6 (xV e)) (va _ e);have hns':h₁.Ns s3.heap.objs.size fun _=>none:=hns₁;have I4:=oz (t4:=s3.toks+([]:List (Str×Value)).length) O I3 hf3 hlt3 hns' hk4;have st4:tn 0 h₁:=T.keep _ _ _ st fun b hb o e=>hk4 b o (by rw[e3];exact va _ e);have B4:=B s3 (upd H s.heap.objs.size (.lst [])) fp (X.pn++pins);generalize hY:dj X N2 scope cl s3 (upd H s.heap.objs.size (.lst [])) fp (X.pn++pins)=Y at I4 B4;have yP:Y.prog=X.prog:=by rw[←hY];rfl
 have yw:Y.w=X.w:=by rw[←hY];rfl
 have yK:Y.K=X.K:=by rw[←hY];rfl
 have yA:Y.A=X.A:=by rw[←hY];rfl
 have yc:Y.calm=true:=by rw[←hY];exact hc
 have yx:Y.xe=fun _ _=>False:=by rw[←hY];rfl
 have ye:Y.env=compEnvC scope cl s3.heap.objs.size X.env:=by rw[←hY];rfl
 have fpY:∀{H':Hp},(∀b∈fp,H' b=none)->∀b∈fp,iK Y [] H' b:=fun hn b hb=>by
  obtain⟨f0,f1,f2,f3,f4,f5⟩:=hf3 b hb;rw[←hY];refine⟨hn b hb,B6 (hlt3 b hb),fun hs=>?_,.inl hb,fun x c e=>f4 x c (O.sub x c e),fun p hp=>?_⟩
  ·rcases Ic.mp (I3.stkSub b hs)with e | e
   ·exact f1 e
   ·exact f2 e
  ·have hp2:p∈(X.pn++pins)++[]:=hp;rw[IP]at hp2;exact f5 p hp2
 have fin:∀{σ':St} {H':Hp} {s':Shared} {pl:List (Addr×Obj)},Inv Y pl σ' H' s'->Q (.ref s.heap.objs.size) H'->RR (.ref s.heap.objs.size) s3.heap.objs.size (.ok .next) s':=fun {σ' H' s' pl} I' q=>by
  have J':Inv X pins σ H' s':=tu I3 hf3 (hY▸I');obtain⟨m,hn,_⟩:=I'.loc;have hfr:=I'.free;rw[ye]at hn hfr;refine hRR _ _ s' H' m hn J' hfr (JE I3.lt) I3.sz (fun x c e z=>?_) (fun p hp z=>?_) q
  ·obtain⟨v,q⟩:=I3.cell x c e;exact absurd (Iq q.lt (by rw[z];exact yi _)) (JM _)
  ·exact absurd (Iq (xV (I3.pin p hp).1) (by rw[z];exact yi _)) (JM _)
 have loop:∀s4:Shared,s4={ s3 with heap:=h₁,toks:=s3.toks+([]:List (Str×Value)).length } ->
   codeAny (model X.prog X.w) X.A (.compLoop (.ListComp elt [⟨tg,iter,ifs,0⟩] scope pos) 0 (.ref it) (.ref s.heap.objs.size) (compEnvC scope cl s3.heap.objs.size X.env)) (RR (.ref s.heap.objs.size) s3.heap.objs.size) s4:=by
  rintro s4 rfl;refine lX (fun n s'=>∃i σ0 H',Inv Y [] σ0 H' s'/\tn i s'.heap/\(∀b∈fp,H' b=none)/\W i n σ0 H') ?_ m0
   ⟨0,_,_,I4,st4,fun b hb=>(hf3 b hb).1,w0⟩
  rintro n s5 ⟨i,σ5,H5,I5,st5,fr5,w5⟩;rcases turn i n σ5 H5 w5 with⟨stop,q⟩ |⟨go,step⟩
  ·have r:=T.done Y yP yw yK yc i [] s5 _ H5 (fun _ _=>False) I5 (fpY fr5) st5 stop;rw[yA]at r;refine thn r fun r s6 y_=>?_;obtain⟨hr,I6⟩:=y_;subst hr;exact fin I6 q
  ·have r:=T.item Y yP yw yK yc i [] s5 _ H5 (fun _ _=>False) I5 (fpY fr5) st5 go;rw[yA]at r;refine thn r fun r s6 y_=>?_;obtain⟨u,hr,h6⟩:=y_;subst hr;refine thn h6 fun _ s7 y_=>?_;obtain⟨x,H7,I7,r7,y7,st7,fr7⟩:=y_;have I7':=I7.pinned (fpY fr7) (T.obj _ _ st7);have r:=B4.tgt _ s7 _ H7 x u _ I7' r7 (step x H7 y7);rw[yP,yw,yA,yx,ye]at r;refine thn r fun _ s8 y_=>?_;obtain⟨σ8,H8,I8,q8⟩:=y_;have r:=B4.tst _ s8 σ8 H8 _ I8 q8;rw[yP,yw,yA,yx,ye]at r;refine thn r fun ok s9 y_=>?_;obtain⟨H9,I9,q9⟩:=y_;have back:∀{s':Shared} {H':Hp},Inv Y ([]++jW fp s7.heap) σ8 H' s'->(Inv Y [] σ8 H' s'/\tn (i+1) s'.heap/\∀b∈fp,H' b=none):=fun {s' H'} I'=>by
    refine⟨I'.unpinned,T.keep _ _ _ st7 fun b hb o e=>(I'.pin (b,o) (IE _ (IE _ (d4 hb e)))).1,fun b hb=>?_⟩;obtain⟨o,e,d⟩:=T.obj _ _ st7 b hb;exact(I'.pin (b,o) (IE _ (IE _ (d4 hb e)))).2.1
   cases ok with
   | false =>
    have q9':∃m',m'<n/\W (i+1) m' σ8 H9:=q9;obtain⟨m',hm,w9⟩:=q9';obtain⟨b1,b2,b3⟩:=back I9;show ∃m,m<n/\_;exact⟨m',hm,i+1,σ8,H9,b1,b2,b3,w9⟩
   | true =>
    have q9':te σ8 H9 fun y H4=>∃ys,H4 s.heap.objs.size=some (.lst ys)/\ys.length<sizeLine/\∃m',m'<n/\W (i+1) m' σ8 (upd H4 s.heap.objs.size (.lst (ys++[y]))):=q9;have r:=B4.elt _ s9 σ8 H9 _ I9 q9';rw[yP,yw,yA,yx,ye]at r;show wpAny _ _ (eval elt _) _ _ s9;refine thn r fun y s10 y_=>?_;obtain⟨yv,H10,I10,r10,q10⟩:=y_;obtain⟨ys,a1,a2,m',hm,w10⟩:=q10;have r:=bz (X:=Y) _ s10 σ8 H10 (.ref s.heap.objs.size) [yv] (.ref s.heap.objs.size) [y] (fun _ H'=>H'=upd H10 s.heap.objs.size (.lst (ys++[yv]))) I10 rfl (.cons r10 .nil) ⟨_,ys,yv,rfl,rfl,a1,a2,rfl⟩;rw[yP,yw,yA,yx]at r;refine thn r fun _ s11 y_=>?_;obtain⟨_,H11,I11,_,e11⟩:=y_;subst e11;obtain⟨b1,b2,b3⟩:=back I11;exact⟨m',hm,i+1,σ8,_,b1,b2,b3,w10⟩
 have st4':tn 0 ({ s3 with heap:=h₁,toks:=s3.toks+([]:List (Str×Value)).length }:Shared).heap:=st4;have hs4:({ s with heap:=h₁,toks:=s.toks+([]:List (Str×Value)).length }:Shared)={ s3 with heap:=h₁,toks:=s3.toks+([]:List (Str×Value)).length }:=by rw[←hs3]
 exact codeAny_compStart_list (loop _ hs4) (T.self _ 0 _ _ _ st4 (loop _ hs4))
theorem mv(O:cJ X N2 nt js scope cl sc)(hc:X.calm=true)(hi:PI X tg iter wi)(B:∀(s0:Shared) (H0:Hp) (fp:List Addr) (ps:List (Addr×Obj)),uh (dj X N2 scope cl s0 H0 fp ps) tg ifs elt g tt te)
  (hs:∀x,foldedSetIterable iter X.env x=pure x:=by intro _;rfl):PE X (.ListComp elt [⟨tg,iter,ifs,0⟩] scope pos) (qN nt js wi g tt te):=by
 intro pins s σ H Q I h;rw[eval_ListComp];refine wpAny_comprehension_free (use:=none) rfl hs O.clos O.kind O.loc (thn (hi pins s σ H _ I h) fun xv s1 h1=>thn h1 fun itv s2 h2=>?_);obtain⟨it,fp,tn,J,H2,e,I2,T,st2,f2,q⟩:=h2;subst e;refine nV (RR:=fun acc C=>compPost (model X.prog X.w) X.A X.xe none (EP X pins σ Q) acc C) O hc B I2 T st2 f2 q ?_;intro acc C s' H' m hn J' c1 c2 c3 c4 c5 q';refine⟨m,hn,fun h' hsb=>⟨.ref acc,H',?_,rfl,q'⟩⟩;exact J'.turned (t':=s'.toks) (fun b o hb e=>hsb.extBut b o hb e) c1 (Ne.symm c2 |> fun z=>fun y=>z y.symm) (.inr c3) c4 c5
theorem n4{i:Nat}{y:Str}{py spos:Pos}(hN:X.N.Nodup)(hy:X.N[i]?=some y)(hl:Loc X.env.scope y)(O:cJ X N2 nt js scope cl sc)(hc:X.calm=true)(hi:PI X tg iter wi)
  (B:∀(s0:Shared) (H0:Hp) (fp:List Addr) (ps:List (Addr×Obj)),uh (dj X N2 scope cl s0 H0 fp ps) tg ifs elt g tt te)
  (hsw:swapsWith (.ListComp elt [⟨tg,iter,ifs,0⟩] scope pos) (some (.Name y py)) spos.line X.env=pure true:=by rfl)
  (hs:∀x,foldedSetIterable iter X.env x=pure x:=by intro _;rfl) (hfn:X.fn y=true∨X.env.scope.names.lookup y=some .local:=by first | exact .inl rfl | exact .inr rfl | assumption) :
  PS X (.Assign [.Name y py] (.ListComp elt [⟨tg,iter,ifs,0⟩] scope pos) spos) (zC (qN nt js wi g tt te) (qj i)):=by
 intro pins s σ H D I h;rw[exec_Assign_Name_used _ _ _ _ hsw];refine uH (wpAny_standAt (uH ?_));show wpAny _ X.A (do let _←comprehension (.ListComp elt [⟨tg,iter,ifs,0⟩] scope pos) scope X.env _ (newList []) false (eval iter X.env) (some (assign (.Name y py) X.env))) _ _ s;refine uH (JJ (wpAny_comprehension_free (use:=some (assign (.Name y py) X.env)) (Q:=fun _ s'=>SP X pins D .next s') rfl hs O.clos O.kind O.loc
  (thn (hi pins s σ H _ I h) fun xv s1 h1=>thn h1 fun itv s2 h2=>?_)) (fun _ s' hq=>wa (wa hq)) fun _ _ e=>e)
 obtain⟨it,fp,tn,J,H2,e,I2,T,st2,f2,q⟩:=h2;subst e;refine nV (Q:=fun v H1=>qj i v σ H1 D.nx) (RR:=fun acc C=>compPost (model X.prog X.w) X.A X.xe (some (assign (.Name y py) X.env)) (fun _ s'=>SP X pins D .next s') acc C) O hc B I2 T st2 f2 q ?_;intro acc C s' H' m hn J' c1 c2 c3 c4 c5 q';show wpAny _ X.A (assign (.Name y py) X.env (.ref acc)) _ _ _;refine wpAny_assign_Name (km (v:=.ref acc) J' hN hy hl rfl (fun s2 I2' ⟨a,sb,ha⟩=>?_) hfn);have hCa:C≠a:=by
  rcases ha with ha | ha
  ·rw[ha];exact c2
  ·exact fun z=>c4 y a ha z.symm
 refine⟨m,hn.sameBut sb hCa,fun h' hsb=>⟨_,H',?_,q'⟩⟩;exact I2'.turned (t':=s2.toks) (fun b o hb e=>hsb.extBut b o hb e) c1 c2 (.inr c3) c4 c5
end
end
end L2
namespace U
open L2
section
variable {B:Bs}{X:Cx}{pos:Pos}
def yr(nt:Nat)(js:List Nat)(σ:St'):St':=List.replicate nt none++js.map fun j=>(σ[j]?).join
theorem SR.sig{K:PySem.W.Frag}{σ':St'}{H':PHp}{σ:L2.St}{H:Hp}(s:SR K B σ' H' σ H)(nt:Nat)(js:List Nat):SR K B (yr nt js σ') H' (mU nt js σ) H:=by
 refine⟨by simp[yr,mU],fun i v' e=>?_,s.hp,s.ev⟩;unfold yr at e;unfold mU;by_cases hi:i<nt
 ·rw[Ja (by simpa using hi),List.getElem?_replicate]at e;split at e<;>cases e
 ·rw[Jf (by simp;omega),List.length_replicate,II]at e ⊢;cases ej:js[i - nt]? with
  | none=>rw[ej]at e;cases e
  | some j =>
   rw[ej]at e;have e2:(σ'[j]?).join=some v':=IH e;cases q:σ'[j]? with
   | none=>rw[q]at e2;cases e2
   | some o =>
    rw[q]at e2;have e3:σ'[j]?=some (some v'):=by rw[q];exact congrArg some e2
    obtain⟨v,a,b⟩:=s.loc j v' e3;exact⟨v,by show some ((σ[j]?).join)=_;rw[a];rfl,b⟩
def eo(ok:PHp->Prop)(g:TG')(tt:TT')(te:TE')(acc:Addr)(Q:VK'):List PV->St'->PHp->Prop
 | [],σ,H=>ok H/\Q (.ref acc) H
 | x::r,σ,H=>ok H/\g x σ H fun σ3 H2=>tt σ3 H2 fun b H3=>cif b (te σ3 H3 fun y H4=>∃l,H4 acc=some (.lst l)/\l.length<sizeLine/\eo ok g tt te acc Q r σ3 (put H4 acc (.lst (l++[y])))) (eo ok g tt te acc Q r σ3 H3)
def jt(nt:Nat)(js:List Nat)(wi:TI')(g:TG')(tt:TT')(te:TE'):TE':=fun σ H Q=>wi σ H fun J H1=>∀acc,H1 acc=none->eo J.ok g tt te acc Q J.items (yr nt js σ) (put H1 acc (.lst []))
def CD(Y:Cx)(B:Bs)(ifs:List Expr)(t:TT'):Prop:=PIf Y ifs (j2 Y.K B t)
def Ej:TT':=fun _ H Q=>Q true H
theorem bO{Y:Cx}:CD Y B [] Ej:=fun pins s σ H Q I ⟨σ',H',Q',sr,h,k⟩=>xg pins s σ H Q I (k true H' H h sr (Ev.refl _ _))
theorem bD{Y:Cx}{c:Expr}{t:TT'}(h:PT' Y B c t):CD Y B [c] t:=xc h
theorem mS{K:PySem.W.Frag}{nt:Nat}{js:List Nat}{wi:TI'}{g:TG'}{tt:TT'}{te:TE'}{σ:L2.St}{H:Hp}{Q:VK}(h:low K B (jt nt js wi g tt te) σ H Q) :
  qN nt js (DS K B wi) (lowG K B g) (j2 K B tt) (low K B te) σ H Q:=by
 obtain⟨σ',H',Q',s,h,k⟩:=h;refine⟨σ',H',_,s,h,fun J' H1' J H1 h1 wk s1 e1 acc ha=>?_⟩;have h1:=h1 acc (s1.hp.free ha);have sn:SR K B σ' (put H1' acc (.lst [])) σ (upd H1 acc (.lst [])):=s1.new ha ⟨[],bc,RPs.nil _⟩;have en:Ev H1' H1 (put H1' acc (.lst [])) (upd H1 acc (.lst [])):=Ev.new ha;refine⟨fun i m σ2 H2=>i≤J'.items.length/\m=J'.items.length - i/\∃σ2' H2',SR K B σ2' H2' σ2 H2/\SR K B σ' H2' σ H2/\Ev H1' H1 H2' H2/\eo J'.ok g tt te acc Q' (J'.items.drop i) σ2' H2',
  ⟨J'.items.length,Jk _,by simp,_,_,sn.sig nt js,sn,en,h1⟩,?_⟩
 rintro i m σ2 H2 ⟨hi,rfl,σ2',H2',s2,so,e2,h2⟩;have k2:=e2.kp s1.hp;by_cases hlt:i<J'.items.length
 ·obtain⟨x',hx⟩:∃x',J'.items[i]?=some x':=⟨_,sH hlt⟩;have hd:J'.items.drop i=x'::J'.items.drop (i+1):=by
   rw[Jj hlt];rw[sH hlt]at hx;cases hx;rfl
  rw[hd]at h2;obtain⟨ok2,h2⟩:=(show J'.ok H2'/\_ from h2);refine .inr ⟨wk.go H2' H2 i k2 s2.hp ok2 hlt,fun x H3 y=>?_⟩;obtain⟨rfl,rx⟩:=wk.yld H2' H2 i x H3 k2 s2.hp ok2 y;refine⟨x',σ2',H2',_,rx x' hx,s2,h2,fun σ3' H3' σ3 H3 h3 s3 e3=>⟨σ3',H3',_,s3,h3,fun b H4' H4 h4 s4 e4=>?_⟩⟩;cases b with
  | false =>
   have e24:=e3.trans e4;exact ka ⟨J'.items.length - (i+1),by omega,hlt,rfl,σ3',H4',s4,so.kp e24 s4.hp,e2.trans e24,h4⟩
  | true =>
   refine j6 ⟨σ3',H4',_,s4,h4,fun y' H5' y H5 h5 ry5 s5 e5=>?_⟩;obtain⟨l,a1,a2,h5⟩:=h5;have e25:=(e3.trans e4).trans e5;obtain⟨us,q1,q2⟩:=s5.hp _ _ a1;have wr:=wrL s5.hp a1 (RPs.append _ q2 (RPs.cons _ ry5 (RPs.nil _)));refine⟨us,q1,by rw[RPs.length _ q2];exact a2,J'.items.length - (i+1),by omega,hlt,rfl,σ3',_,s5.wr a1 wr,(so.kp e25 s5.hp).wr a1 wr,(e2.trans e25).trans (Ev.wr a1),h5⟩
 ·have hi':i=J'.items.length:=by omega
  subst hi';rw[JQ]at h2;obtain⟨ok2,h2⟩:=(show J'.ok H2'/\_ from h2);exact .inl ⟨wk.stop H2' H2 _ k2 s2.hp ok2 (yi _),k _ _ _ _ h2 (by simp[RP]) so (e1.trans e2)⟩
section
variable {N2:List Str}{nt:Nat}{js:List Nat}{scope sc:Scope}{cl:List (Str×Addr)}{elt iter tg:Expr}{ifs:List Expr}{wi:TI'}{g:TG'}{tt:TT'}{te:TE'}
structure lH (Y:Cx) (B:Bs) (tg:Expr) (ifs:List Expr) (elt:Expr) (g:TG') (tt:TT') (te:TE'):Prop where
 tgt:PG' Y B tg g
 tst:CD Y B ifs tt
 elt:PE' Y B elt te
theorem bx(O:cJ X N2 nt js scope cl sc)(hc:X.calm=true)(hi:PI' X B tg iter wi)(b:∀(s0:Shared) (H0:Hp) (fp:List Addr) (ps:List (Addr×Obj)),lH (dj X N2 scope cl s0 H0 fp ps) B tg ifs elt g tt te)
  (hs:∀x,foldedSetIterable iter X.env x=pure x:=by intro _;rfl):PE' X B (.ListComp elt [⟨tg,iter,ifs,0⟩] scope pos) (jt nt js wi g tt te) :=
 a6 (mv (g:=lowG X.K B g) (tt:=j2 X.K B tt) (te:=low X.K B te) O hc hi (fun s0 H0 fp ps=>⟨(b s0 H0 fp ps).tgt,(b s0 H0 fp ps).tst,(b s0 H0 fp ps).elt⟩) hs) fun _ _ _ h=>mS h
theorem cE{i:Nat}{y:Str}{py spos:Pos}(hN:X.N.Nodup)(hy:X.N[i]?=some y)(hl:Loc X.env.scope y)(O:cJ X N2 nt js scope cl sc)(hc:X.calm=true)(hi:PI' X B tg iter wi)
  (b:∀(s0:Shared) (H0:Hp) (fp:List Addr) (ps:List (Addr×Obj)),lH (dj X N2 scope cl s0 H0 fp ps) B tg ifs elt g tt te)
  (hsw:swapsWith (.ListComp elt [⟨tg,iter,ifs,0⟩] scope pos) (some (.Name y py)) spos.line X.env=pure true:=by rfl)
  (hs:∀x,foldedSetIterable iter X.env x=pure x:=by intro _;rfl) (hfn:X.fn y=true∨X.env.scope.names.lookup y=some .local:=by first | exact .inl rfl | exact .inr rfl | assumption) :
  PS' X B (.Assign [.Name y py] (.ListComp elt [⟨tg,iter,ifs,0⟩] scope pos) spos) (nF (jt nt js wi g tt te) (gi i)) :=
 cO (n4 (g:=lowG X.K B g) (tt:=j2 X.K B tt) (te:=low X.K B te) hN hy hl O hc hi (fun s0 H0 fp ps=>⟨(b s0 H0 fp ps).tgt,(b s0 H0 fp ps).tst,(b s0 H0 fp ps).elt⟩) hsw hs hfn) fun D σ H y_=>by
  obtain⟨σ',H',D',s,h,d⟩:=y_;refine mS ⟨σ',H',_,s,h,fun v' H1' v H1 q r s1 e1=>?_⟩;exact d.nx _ _ _ _ q (s1.set r i) e1
end
end
section
def ro(cs:List (Str×Addr)):List (Str×Addr)->Prop
 | []=>True
 | p::r=>cs.lookup p.1=some p.2/\ro cs r
theorem ro.mem{cs:List (Str×Addr)}:∀{l:List (Str×Addr)} {p:Str×Addr},ro cs l->p∈l->cs.lookup p.1=some p.2
 | q::r,p,h,m=>by
  rcases Ic.mp m with rfl | m
  ·exact h.1
  ·exact ro.mem h.2 m
theorem cok{X:Cx}{N2:List Str}{nt:Nat}{js:List Nat}{scope sc:Scope}{cl:List (Str×Addr)}(clos:closureFor scope X.env=pure cl)(sub:ro X.env.cells cl)(xsc:X.env.scope=sc)(kind:scope.kind=.function)
  (nocell:∀y∈scope.names,y.2≠.cell) (loc:∀y∈scope.names,y.2=.local->scope.names.lookup y.1=some .local) (names:cl.map (·.1)=((scope.names.filter (·.2==.free)).map (·.1)).reverse)
  (frs:∀x∈N2.drop nt,scope.names.lookup x=some .free/\sc.names.lookup x=some .cell) (len:N2.length=nt+js.length) (pl:js.map (fun j=>X.N[j]?)=(N2.drop nt).map some):cJ X N2 nt js scope cl sc :=
 ⟨clos,fun x c e=>sub.mem (lookup_mem e),xsc,kind,nocell,loc,fun y m f=>by rw[names];exact List.mem_reverse.mpr (List.mem_map_of_mem (Io.mpr ⟨m,by rw[f];rfl⟩)),frs,len,fun k j e=>by
  have h:(js.map (fun j=>X.N[j]?))[k]?=((N2.drop nt).map some)[k]?:=by rw[pl]
  rw[II,II,e,List.getElem?_drop]at h;cases q:N2[nt+k]? with
  | none=>rw[q]at h;cases h
  | some x=>rw[q]at h;exact IH h⟩
end
section
end
end U
namespace L2
variable {X:Cx}{a b c d:Expr}{pos:Pos}{ta tb tc td:TE}
def zM(r r' r'':R2)(ta tb tc td:TE):TE:=fun σ H Q=>ta σ H fun x H1=>tb σ H1 fun y H2=>r x y H2 fun z H3=>∃k,z=.bl k /\
 (if k=true then tc σ H3 fun w' H4=>r' y w' H4 fun z' H5=>∃k',z'=.bl k'/\(if k'=true then td σ H5 fun v' H6=>r'' w' v' H6 Q else Q (.bl false) H5)else Q (.bl false) H3)
theorem sP{op op' op'':CmpOp}{r r' r'':R2}(ho:OpR X (compareOp op) r)(ho':OpR X (compareOp op') r')(ho'':OpR X (compareOp op'') r'')(ha:PE X a ta)(hb:PE X b tb)(hc:PE X c tc)(hd:PE X d td)
  (hm:lastMarks [op,op',op''] [b,c,d]=false:=by with_unfolding_all rfl):PE X (.Compare a [op,op',op''] [b,c,d] pos) (zM r r' r'' ta tb tc td):=by
 intro pins s σ H Q I h;refine Compare_chain (thn (ha pins s σ H _ I h) fun v s1 ⟨x,H1,I1,r1,q1⟩=>chain_link (thn (hb pins s1 σ H1 _ I1 q1) fun u s2 ⟨y,H2,I2,r2,q2⟩ =>
  thn (ho pins s2 σ H2 x y v u _ I2 r1 r2 q2) fun d s3 ⟨z,H3,I3,r3,k,e,q3⟩=>?_)) hm
 subst e;cases r3;refine JD ?_;cases k with
 | false=>exact ite_ff ⟨.bl false,H3,I3,rfl,q3⟩
 | true =>
  refine ite_tt (chain_link (thn (hc pins s3 σ H3 _ I3 q3) fun w' s4 ⟨z',H4,I4,r4,q4⟩=>thn (ho' pins s4 σ H4 y z' u w' _ I4 r2 r4 q4) fun d' s5 y_=>?_));obtain⟨z5,H5,I5,r5,k5,e5,q5⟩:=y_;subst e5;cases r5;refine JD ?_;cases k5 with
  | false=>exact ite_ff ⟨.bl false,H5,I5,rfl,q5⟩
  | true=>exact ite_tt (chain_last (thn (hd pins s5 σ H5 _ I5 q5) fun w6 s6 y_=>by obtain⟨z6,H6,I6,r6,q6⟩:=y_;exact ho'' pins s6 σ H6 z' z6 w' w6 Q I6 r4 r6 q6))
end L2
namespace U
open L2
variable {B:Bs}{X:Cx}{a b c d e o value:Expr}{pos pos' apos p:Pos}{ta tb tc td tv:TE'}{f m x:Str}{C g:Addr}
def pY(r r' r'':R2')(ta tb tc td:TE'):TE':=fun σ H Q=>ta σ H fun x H1=>tb σ H1 fun y H2=>r x y H2 fun z H3=>eQ z fun k=>cif k (tc σ H3 fun w' H4=>r' y w' H4 fun z' H5=>eQ z' fun k'=>cif k' (td σ H5 fun v' H6=>r'' w' v' H6 Q) (Q (.bl false) H5)) (Q (.bl false) H3)
theorem rN{op op' op'':CmpOp}{r1' r2' r3':R2'}{r1 r2 r3:R2}(ho:OpR X (compareOp op) r1)(v1:VR X.K B r1' r1)(ho':OpR X (compareOp op') r2)(v2:VR X.K B r2' r2)(ho'':OpR X (compareOp op'') r3)(v3:VR X.K B r3' r3)
  (ha:PE' X B a ta) (hb:PE' X B b tb) (hc:PE' X B c tc) (hd:PE' X B d td)
  (hm:lastMarks [op,op',op''] [b,c,d]=false:=by with_unfolding_all rfl):PE' X B (.Compare a [op,op',op''] [b,c,d] pos) (pY r1' r2' r3' ta tb tc td):=a6 (sP ho ho' ho'' ha hb hc hd hm) fun σ H Q y_=>by
 obtain⟨σ',H',Q',s,h,k⟩:=y_;refine⟨σ',H',_,s,h,fun x' H1' x H1 h1 rx s1 e1=>⟨σ',H1',_,s1,h1,fun y' H2' y H2 h2 ry s2 e2=>?_⟩⟩;refine v1 σ' σ H2' H2 x' y' x y _ _ s2 (RP.kp X.K (e2.kp s1.hp) rx) ry h2 fun z' H3' z H3 q rz s3 e3=>?_;obtain⟨b,rfl,q⟩:=q.ex;simp only[RP]at rz;refine⟨b,rz,?_⟩;cases b with
 | false=>exact ka (k _ _ _ _ q (by simp[RP]) s3 ((e1.trans e2).trans e3))
 | true =>
  refine j6 ⟨σ',H3',_,s3,q,fun w' H4' w H4 h4 rw4 s4 e4=>?_⟩;refine v2 σ' σ H4' H4 y' w' y w _ _ s4 (RP.kp X.K ((e3.trans e4).kp s2.hp) ry) rw4 h4 fun z5' H5' z5 H5 q5 rz5 s5 e5=>?_;obtain⟨b5,rfl,q5⟩:=q5.ex;simp only[RP]at rz5;refine⟨b5,rz5,?_⟩;cases b5 with
  | false=>exact ka (k _ _ _ _ q5 (by simp[RP]) s5 ((((e1.trans e2).trans e3).trans e4).trans e5))
  | true =>
   refine j6 ⟨σ',H5',_,s5,q5,fun v' H6' v H6 h6 rv s6 e6=>?_⟩;exact v3 σ' σ H6' H6 w' v' w v _ _ s6 (RP.kp X.K ((e5.trans e6).kp s4.hp) rw4) rv h6 fun z7' H7' z7 H7 q7 rz7 s7 e7=>k _ _ _ _ q7 rz7 s7 ((((((e1.trans e2).trans e3).trans e4).trans e5).trans e6).trans e7)
def zW(C:Addr)(f:Str)(x:PV)(H:PHp)(Q:VK'):Prop:=match x with
 | .ref a=>∃dx fs v,H a=some (.ins C dx fs)/\fs.lookup f=some v/\Q v H
 | _=>False
def ED(C:Addr)(f:Str)(ta:TE'):TE':=fun σ H Q=>ta σ H fun x H1=>zW C f x H1 Q
theorem mP{K:PySem.W.Frag}{H:Hp}{f:Str}{v:PV}{fs:List (Str×PV)}{gs:List (Str×V)}(h:eX K H fs gs)(e:fs.lookup f=some v):∃u,gs.lookup f=some u/\RP K H v u:=by
 induction h with
 | nil=>simp at e
 | @cons a b _ _ h t ih =>
  obtain⟨n,y⟩:=a;obtain⟨m,z⟩:=b;obtain⟨rfl,hr⟩:=h;dsimp only at hr;cases hx:f==n with
  | true =>
   simp only[Jd,hx]at e ⊢;cases e;exact⟨z,rfl,hr⟩
  | false =>
   simp only[Jd,hx]at e ⊢;exact ih e
theorem rJ{K:PySem.W.Frag}{H:Hp}{f:Str}{fs:List (Str×PV)}{gs:List (Str×V)}(h:eX K H fs gs)(e:fs.lookup f=none):gs.lookup f=none:=by
 induction h with
 | nil=>rfl
 | @cons a b _ _ h t ih =>
  obtain⟨n,y⟩:=a;obtain⟨m,z⟩:=b;obtain⟨rfl,hr⟩:=h;cases hx:f==n with
  | true=>simp only[Jd,hx]at e;cases e
  | false =>
   simp only[Jd,hx]at e ⊢;exact ih e
theorem wz{K:PySem.W.Frag}{H:Hp}{fs:List (Str×PV)}{gs:List (Str×V)}(h:eX K H fs gs):gs.length=fs.length:=by
 induction h with
 | nil=>rfl
 | cons _ _ ih=>simp[ih]
theorem cQ(ha:PE' X B e ta)(cl:Cls X.K C)(n:dh X.K C f)(hb:attributeBase e f X.env (eval e X.env)=eval e X.env):PE' X B (.Attribute e f pos) (ED C f ta):=a6 (AU ha hb) fun σ H Q y_=>by
 obtain⟨σ',H',Q',s,h,k⟩:=y_;refine⟨σ',H',_,s,h,fun x' H1' x H1 h1 rx s1 e1=>?_⟩;cases x' with
 | ref a =>
  obtain⟨dx,fs,v,ea,l,q⟩:=h1;simp only[RP]at rx;subst rx;obtain⟨gs,eg,fr⟩:=s1.hp _ _ ea;obtain⟨u,lu,ru⟩:=mP fr l;exact⟨a,C,dx,gs,u,rfl,eg,cl,n,lu,k _ _ _ _ q ru s1 e1⟩
 | _=>exact h1.elim
def kd(f:Str)(v:PV):List (Str×PV)->List (Str×PV)
 | []=>[(f,v)]
 |(g,x)::r=>if g=f then(g,v)::r else(g,x)::kd f v r
theorem vh{K:PySem.W.Frag}{H:Hp}{f:Str}{v:PV}{u:V}(rv:RP K H v u){fs:List (Str×PV)}{gs:List (Str×V)}(h:eX K H fs gs):eX K H (kd f v fs) (dW f u gs):=by
 induction h with
 | nil=>exact .cons ⟨rfl,rv⟩ .nil
 | @cons a b _ _ h t ih =>
  obtain⟨n,y⟩:=a;obtain⟨m,z⟩:=b;obtain⟨rfl,hr⟩:=h;unfold kd dW;by_cases hn:n=f
  ·rw[Ij hn,Ij hn];exact .cons ⟨rfl,rv⟩ t
  ·rw[CI hn,CI hn];exact .cons ⟨rfl,hr⟩ ih
def Ao(C:Addr)(f:Str)(x y:PV)(H:PHp)(Q:PHp->Prop):Prop:=match x with
 | .ref a=>∃dx fs,H a=some (.ins C dx fs)/\fs.length<1000/\Q (put H a (.ins C dx (kd f y fs)))
 | _=>False
def ue(C:Addr)(f:Str)(ta tv:TE'):TS':=fun D σ H=>tv σ H fun y H1=>ta σ H1 fun x H2=>Ao C f x y H2 fun H3=>D.nx σ H3
theorem oJ(ha:PE' X B o ta)(hv:PE' X B value tv)(cl:Cls X.K C)(n:dh X.K C f)(hs:swapsWith value (some (.Attribute o f pos')) pos.line X.env=pure false):PS' X B (.Assign [.Attribute o f pos'] value pos) (ue C f ta tv):=cO (Bp ha hv hs) fun D σ H y_=>by
 obtain⟨σ',H',D',s,h,dd⟩:=y_;refine⟨σ',H',_,s,h,fun y' H1' y H1 h1 ry s1 e1=>⟨σ',H1',_,s1,h1,fun x' H2' x H2 h2 rx s2 e2=>?_⟩⟩;cases x' with
 | ref a =>
  obtain⟨dx,fs,ea,l,q⟩:=h2;simp only[RP]at rx;subst rx;obtain⟨gs,eg,fr⟩:=s2.hp _ _ ea;have ry2:=RP.kp X.K (e2.kp s1.hp) ry;have new:OAt X.K (upd H2 a (.ins C dx (dW f y gs))) a (.ins C dx (kd f y' fs)):=⟨_,bc,eX.kp (s2.hp.kpw ea) (vh ry2 fr)⟩;exact⟨a,C,dx,gs,rfl,eg,cl,n,by rw[wz fr];exact l,dd.nx _ _ _ _ q (s2.wr ea new) ((e1.trans e2).trans (Ev.wr ea))⟩
 | _=>exact h2.elim
def isIn(C:Addr)(m:Str)(x:PV)(H:PHp):Prop:=match x with
 | .ref a=>∃dx fs,H a=some (.ins C dx fs)/\fs.lookup m=none
 | _=>False
def vI(C:Addr)(m:Str)(sp:Sp')(E':XK')(ta:TE')(t:TA'):TE':=fun σ H Q=>ta σ H fun x H1=>isIn C m x H1/\t σ H1 fun vs H2=>sp (x::vs) H2 Q E'
section
variable {k:Nat}{fd:FuncData}{ps:List Str}{sp:Sp'}{es:List Expr}{t:TA'}
theorem rD{K:PySem.W.Frag}{σ:L2.St}{H:Hp}{Q:VK}(h:low K B (vI C m sp X0 ta t) σ H Q):Af C m (gJ K sp) [] E0 (low K B ta) (uP K B t) σ H Q:=by
 obtain⟨σ',H',Q',s,h,k⟩:=h;refine⟨σ',H',_,s,h,fun x' H1' x H1 h1 rx s1 e1=>?_⟩;obtain⟨hi,h1⟩:=h1;cases x' with
 | ref a =>
  obtain⟨dx,fs,ea,l⟩:=hi;simp only[RP]at rx;subst rx;obtain⟨gs,eg,fr⟩:=s1.hp _ _ ea;refine⟨a,dx,gs,rfl,eg,rJ fr l,σ',H1',_,s1,h1,fun vs' H2' vs H2 h2 r2 s2 e2=>?_⟩;show gJ K sp (V.ref a::(vs++[])) H2 Q E0;rw[IP];exact⟨.ref a::vs',H2',Q',X0,RPs.cons _ (by simp[RP]) r2,s2.hp,h2,fun v' H3' v H3 q r3 h3 e3=>k v' H3' v H3 q r3 (s2.kp e3 h3) ((e1.trans e2).trans e3),fun _ _ _ _ z=>z.elim⟩
 | _=>exact hi.elim
theorem bT{pl:Sem Bool}(he:PE' X B o ta)(cl:Cls X.K C)(hm:Meth X.K C m g)(F:aO X.prog X.w X.K X.mg X.base CX0 k g fd ps sp)(hr:cq k X.A)(hb:Binds X.K fd ps [])(ha:PA' X B (e::es) t)
  (hst:starEach (e::es) X.env=(false,eval e X.env)::starEach es X.env:=by rfl) (hpl:(backTo pos (starEach es X.env)).any (·.1)=false:=by rfl)
  (ht:eval (.Call (.Attribute o m apos) (e::es) [] pos) X.env=(do
   let ov←eval o X.env
   standAt apos.atName
   let (f,first)←holding [ov] (getMethod ov m pl)
   callWith pos f first (backTo pos (starEach (e::es) X.env)) (backToKw pos (keywordEach [] X.env))):=by rfl) :
  PE' X B (.Call (.Attribute o m apos) (e::es) [] pos) (vI C m sp X0 ta t):=a6 (xX he cl hm F hr hb .nil vL ha hst hpl ht) fun _ _ _ h=>rD h
def zY(C:Addr)(sp:Sp')(E':XK')(t:TA'):TE':=fun σ H Q=>t σ H fun vs H1=>∀x dx,H1 x=none->H1 dx=none->dx≠x->sp (.ref x::vs) (put H1 x (.ins C dx [])) (fun v H2=>v=.non/\Q (.ref x) H2) E'
theorem pP(M:Mk X.K C g)(F:aO X.prog X.w X.K X.mg X.base CX0 k g fd ps sp)(hr:cq (k+1) X.A)(hg:Gl X x)(hm:X.mg x=some (.ref C))(hb:Binds X.K fd ps [])
  (ha:PA' X B (e::es) t) (hdb:(x==("__debug__":Str))=false:=by decide) (he:starEach (e::es) X.env=(false,eval e X.env)::starEach es X.env:=by rfl) (hpl:(backTo pos (starEach es X.env)).any (·.1)=false:=by rfl) :
  PE' X B (.Call (.Name x p) (e::es) [] pos) (zY C sp X0 t):=a6 (wY M F hr hg hm hb .nil vL ha hdb he hpl) fun σ H Q y_=>by
 obtain⟨σ',H',Q',s,h,k⟩:=y_;refine⟨σ',H',_,s,h,fun vs' H1' vs H1 h1 r1 s1 e1=>?_⟩;intro x dx nx nd ne;have h2:=h1 x dx (s1.hp.free nx) (s1.hp.free nd) ne;have nx2:upd H1 dx (.own x) x=none:=by rw[aP (Ne.symm ne)];exact nx
 have sd:=s1.hid (o:=.own x) nd;have new:OAt X.K (upd (upd H1 dx (.own x)) x (.ins C dx [])) x (.ins C dx []):=⟨[],bc,.nil⟩;have s2:=sd.new nx2 new;have e2:Ev H1' H1 (put H1' x (.ins C dx [])) (upd (upd H1 dx (.own x)) x (.ins C dx [])):=(Ev.hid nd).trans (Ev.new nx2);show gJ X.K sp (.ref x::(vs++[])) _ _ E0;rw[IP];refine⟨.ref x::vs',_,_,X0,RPs.cons _ (by simp[RP]) (RPs.kp X.K (e2.kp s1.hp) r1),s2.hp,h2,fun v' H3' v H3 q r3 h3 e3=>?_,fun _ _ _ _ z=>z.elim⟩;obtain⟨rfl,q⟩:=q;simp only[RP]at r3;exact⟨r3,k _ _ _ _ q (by simp[RP]) (s2.kp e3 h3) ((e1.trans e2).trans e3)⟩
end
end U
namespace L2
variable {X:Cx}
def Fg(K:PySem.W.Frag):List V->Hp->VK->Prop:=fun xs H Q=>∃(p:Addr) (bs:List Bool),xs=[.ref p]/\SqL K H p (bs.map V.bl)/\Q (.bl (bs.all id)) H
theorem fR:∀{bs:List Bool} {us:List Value},Vals (bs.map V.bl) us->us=bs.map Value.bool
 | [],_,.nil=>rfl
 | b::bs,_,.cons r t=>by rw[fR t];cases r;rfl
theorem jP(hc:X.calm=true):cv X (.builtin "all") (Fg X.K):=by
 intro pins s σ H xs us Q I r h;obtain⟨a,bs,rfl,hq,q⟩:=h;obtain⟨u,rfl,ru⟩:=Vals.one r;cases ru;obtain⟨its,rv,p,hz⟩:=I.list hq;have e:=fR rv;subst e;have hl:s.heap.IsList a (bs.map Value.bool).toArray:=p.isList;have llt:a<s.heap.objs.size:=by obtain⟨o,e,_⟩:=hl;exact xV e
 have hne:a≠s.heap.objs.size:=B6 llt;refine call_all_walk (JZ hl ?_);refine⟨s.heap.objs.size,[s.heap.objs.size,a],[s.heap.objs.size],(bs.map Value.bool).toArray.size,_,_,fun i=>bs.getD i false,rfl,Walks.list (by simpa using I.ok.hd hc) _ a hne _,⟨⟨_,yf _ rfl,rfl,rfl⟩,hl.at fun o e=>va _ e⟩,?_,?_⟩
 ·intro i v s' Q' E' hv hQ;have:v=Value.bool (bs.getD i false):=by
   have hv':(bs.map Value.bool)[i]?=some v:=by simpa using hv
   rw[II]at hv';cases hb:bs[i]? with
   | none=>rw[hb]at hv';cases hv'
   | some b=>rw[hb]at hv';cases hv';rw[wJ,hb];rfl
  subst this;exact JD hQ
 ·intro h' tk kp;have e:(List.range (bs.map Value.bool).toArray.size).all (fun i=>bs.getD i false)=bs.all id:=by
   have hs:(bs.map Value.bool).toArray.size=bs.length:=by simp
   rw[hs];rw[Jv,Ir,Ir];constructor
   ·intro h b hb;obtain⟨i,hi,e⟩:=List.getElem_of_mem hb;have:=h i (ID.mpr hi);rw[wJ,sH hi,e]at this;exact this
   ·intro h i hi;have hi:=ID.mp hi;rw[wJ,sH hi];exact h _ (Ii hi)
  rw[e];refine⟨.bl (bs.all id),H,I.kept (t':=tk) fun b o e=>?_,rfl,q⟩;exact kp b o (by simpa using B6 (xV e)) (va _ e)
theorem kN:∀{ns:List Int} {us:List Value},Vals (ns.map V.int) us->IntsAre us ns
 | [],_,.nil=>.nil
 | n::ns,_,.cons r t=>by obtain⟨k,rfl⟩:=r;exact .cons n k (kN t)
def vf(K:PySem.W.Frag):List V->Hp->VK->Prop:=fun xs H Q=>∃(p:Addr) (ns:List Int),xs=[.ref p]/\SqL K H p (ns.map V.int)/\ns.length<64/\∀(r:Addr) (ms:List Int),H r=none->ms.Perm ns->ms.Pairwise (·≤·)->Q (.ref r) (upd H r (.lst (ms.map V.int)))
theorem fV:cv X (.builtin "sorted") (vf X.K):=by
 intro pins s σ H xs us Q I r h;obtain⟨a,ns,rfl,hq,h64,q⟩:=h;obtain⟨u,rfl,ru⟩:=Vals.one r;cases ru;obtain⟨its,rv,p,hz⟩:=I.list hq;have hl:its.length<64:=by have:=rv.length;rw[rS]at this;omega
 refine sorted_ints p.isList (kN rv) hl fun out ms h1 h2 h3=>?_;have hn:H (s.heap.objs.size+1)=none:=I.hok.fresh (Nat.le_succ _);obtain⟨e,he⟩:=sortedAll_at s.heap its out;have hv:=dG h1;have hz2:(ms.map V.int).length≤sizeLine:=by rw[rS,h2.length_eq,IT];omega
 refine⟨.ref (s.heap.objs.size+1),_,I.laid (t':=s.toks) (o:=.lst (ms.map V.int)) (fun b o e=>sortedAll_old e) (Nat.le_succ _) ?_,rfl,q _ ms hn h2 h3⟩;exact⟨hz2,out.toList,e,hv,he⟩
end L2
namespace U
open L2
variable {B:Bs}{X:Cx}
theorem h9{K:PySem.W.Frag}{H:Hp}:∀{bs:List Bool} {us:List V},RPs K H (bs.map PV.bl) us->us=bs.map V.bl
 | [],us,h=>by simpa[RPs]using h
 | b::bs,us,h=>by
  simp only[yd,RPs,RP]at h;obtain⟨u,r,rfl,rfl,h2⟩:=h;rw[h9 h2];rfl
theorem jZ{K:PySem.W.Frag}{H:Hp}:∀{bs:List Int} {us:List V},RPs K H (bs.map PV.int) us->us=bs.map V.int
 | [],us,h=>by simpa[RPs]using h
 | b::bs,us,h=>by
  simp only[yd,RPs,RP]at h;obtain⟨u,r,rfl,rfl,h2⟩:=h;rw[jZ h2];rfl
theorem gg{K:PySem.W.Frag}{H:Hp}:∀{bs:List Int},RPs K H (bs.map PV.int) (bs.map V.int)
 | []=>RPs.nil _
 | b::bs=>RPs.cons _ (by simp[RP]) gg
def Ea:List PV->PHp->VK'->Prop:=cP fun x H Q=>match x with
 | .ref a=>∃bs:List Bool,H a=some (.lst (bs.map PV.bl))/\Q (.bl (bs.all id)) H
 | _=>False
theorem o3{K:PySem.W.Frag}:VC K B Ea (Fg K):=by
 intro σ' σ H' H xs' xs Q' Q s r h k;obtain⟨x',x,rfl,rfl,rx,h⟩:=cP.ex h r;cases x' with
 | ref a =>
  obtain⟨bs,ea,q⟩:=h;simp only[RP]at rx;subst rx;obtain⟨us,e,r2⟩:=s.hp _ _ ea;rw[h9 r2]at e;exact⟨a,bs,rfl,.inl (.inl e),k _ _ _ _ q (by simp[RP]) s (Ev.refl _ _)⟩
 | _=>exact h.elim
def ux:List PV->PHp->VK'->Prop:=cP fun x H Q=>match x with
 | .ref a=>∃ns:List Int,H a=some (.lst (ns.map PV.int))/\ns.length<64/\∀(r:Addr) (ms:List Int),H r=none->ms.Perm ns->ms.Pairwise (·≤·)->Q (.ref r) (put H r (.lst (ms.map PV.int)))
 | _=>False
theorem jG{K:PySem.W.Frag}:VC K B ux (vf K):=by
 intro σ' σ H' H xs' xs Q' Q s r h k;obtain⟨x',x,rfl,rfl,rx,h⟩:=cP.ex h r;cases x' with
 | ref a =>
  obtain⟨ns,ea,h64,q⟩:=h;simp only[RP]at rx;subst rx;obtain⟨us,e,r2⟩:=s.hp _ _ ea;rw[jZ r2]at e;refine⟨a,ns,rfl,.inl (.inl e),h64,fun r ms hr h1 h2=>?_⟩;exact k _ _ _ _ (q r ms (s.hp.free hr) h1 h2) (by simp[RP]) (s.new hr (j9 hr gg)) (Ev.new hr)
 | _=>exact h.elim
end U
namespace SP
def hs:List Int:=[-1950498447580522560,7204814214171964562,-3550055125485641917,-4734289103435588629,-1440771752368011620,
 8409376899596376432,1773351652666409796,-6333845781340707986,3516302870623680066,1079245023883434373,
 -3119722376306286570,173794974761290439,-8422800446983873125,7586885779985432798,-1009709641759730766]
def prs:List (Int×Int):=[(0,1),(0,2),(1,2),(0,3),(1,3),(2,3),(0,4),(1,4),(2,4),(3,4),(0,5),(1,5),(2,5),(3,5),(4,5)]
def hp(p:Int×Int):Int:=reduceHash (Builtin.Tuple.tupleHashOf [p.1,p.2])
theorem ER:prs.map hp=hs:=by decide +kernel
theorem oN{p:Int×Int}(h:p∈prs):hp p∈hs:=by rw[←ER];exact Bc.mpr ⟨p,h,rfl⟩
theorem Be:∀p∈prs,∀q∈prs,hp p=hp q->p=q:=by decide +kernel
theorem yM{u v:Int}(h0:0≤u)(h1:u<v)(h2:v<6):(u,v)∈prs:=by
 have hv:v=1∨v=2∨v=3∨v=4∨v=5:=by omega
 have hu:u=0∨u=1∨u=2∨u=3∨u=4:=by omega
 rcases hv with rfl | rfl | rfl | rfl | rfl<;>rcases hu with rfl | rfl | rfl | rfl | rfl<;>first |(exfalso;omega) | decide
def rP(mask:Nat)(p:SetTable.Probe):SetTable.Probe :=
 if p.more>0 then { p with j:=p.j+1,more:=p.more - 1 }else
 let (i,perturb):=SetTable.leap mask p.i p.perturb
 { p with j:=i,more:=SetTable.runEnd mask i - i,i,perturb }
theorem CF(t:SetTable)(p:SetTable.Probe):t.advance p=rP t.mask p:=rfl
theorem rG(mask:Nat)(p:SetTable.Probe):(rP mask p).dummy=p.dummy:=by unfold rP;split<;>rfl
def visit(mask:Nat):Nat->SetTable.Probe->List Nat
 | 0,_=>[]
 | f+1,p=>p.j::visit mask f (rP mask p)
def startM(mask:Nat)(h:Int):SetTable.Probe :=
 let i:=SetTable.bits h % (mask+1)
 { j:=i,more:=SetTable.runEnd mask i - i,i,perturb:=SetTable.bits h,dummy:=none }
theorem tM(t:SetTable)(h:Int):t.probeStart h=startM t.mask h:=rfl
theorem AE:∀h∈hs,∀j∈List.range 8,j∈visit 7 220 (startM 7 h):=by decide +kernel
theorem za:∀h∈hs,∀j∈List.range 32,j∈visit 31 460 (startM 31 h):=by decide +kernel
theorem lh:∀(n:Nat) (l:List Nat),(∀j,j<n->j∈l)->n≤l.length
 | 0,_,_=>Jk _
 | n+1,l,h=>by
  have hm:=h n (JP n);have:=lh n (l.erase n) fun j hj=>(List.mem_erase_of_ne (by omega)).mpr (h j (by omega));rw[List.length_erase_of_mem hm]at this;have:0<l.length:=List.length_pos_of_mem hm;omega
theorem ui{n:Nat}{l:List Nat}(h:l.length<n):∃j,j<n/\j∉l :=
 Js fun c=>absurd (lh n l fun j hj=>Js fun q=>c ⟨j,hj,q⟩) (by omega)
theorem slot_of{t:SetTable}(hd:t.dummies=#[])(j:Nat):t.slot j=.empty∨∃i,t.slot j=.live i/\i<t.place.size/\j∈t.place.toList:=by
 unfold SetTable.slot;dsimp only;split
 ·rename_i h;have h':=JK.mp h;obtain⟨hi,e⟩:=Array.getElem?_eq_some_iff.mp h';refine .inr ⟨_,rfl,hi,?_⟩;rw[←e];exact Array.getElem_mem_toList hi
 ·left;have:SetTable.has t.dummies j=false:=by
   rw[hd];rfl
  rw[this];rfl
theorem nR{t:SetTable}{hashAt:Nat->Int}{h:Int}(hd:t.dummies=#[])(hn:∀i,i<t.place.size->hashAt i≠h):∀(fuel:Nat) (p:SetTable.Probe),p.dummy=none ->
  (∃j∈visit t.mask fuel p,j∉t.place.toList)->∃j,SetTable.probe.go t hashAt h fuel p=some (.empty j none)
 | 0,_,_,⟨_,hj,_⟩=>by simp[visit]at hj
 | f+1,p,hp,⟨j,hj,hjn⟩=>by
  unfold SetTable.probe.go;rcases slot_of hd p.j with e |⟨i,e,hi,hm⟩
  ·rw[e];dsimp only;exact⟨p.j,by rw[hp]⟩
  ·rw[e];dsimp only;rw[CI (by intro q;exact hn i hi (JK.mp q)),CF];refine nR hd hn f (rP t.mask p) (by rw[rG];exact hp) ⟨j,?_,hjn⟩;have hj':j=p.j∨j∈visit t.mask f (rP t.mask p):=Ic.mp hj;rcases hj' with rfl | hj'
   ·exact absurd hm hjn
   ·exact hj'
theorem vi{t:SetTable}{hashAt:Nat->Int}{h:Int}(hh:h∈hs)(hd:t.dummies=#[])(hn:∀i,i<t.place.size->hashAt i≠h)(hm:t.mask=7∨t.mask=31)(hsz:t.place.size≤t.mask) :
  ∃j,t.probe hashAt h (t.probeStart h)=some (.empty j none):=by
 unfold SetTable.probe;refine nR hd hn _ _ rfl ?_;obtain⟨j,hj,hjn⟩:=ui (n:=t.mask+1) (l:=t.place.toList) (by simpa using Nat.lt_succ_of_le hsz);refine⟨j,?_,hjn⟩;rw[tM];rcases hm with e | e
 ·rw[e]at hj ⊢;exact AE h hh j (ID.mpr hj)
 ·rw[e]at hj ⊢;exact za h hh j (ID.mpr hj)
theorem wg(t:SetTable)(j:Nat):(t.put j).1.place.size=t.place.size+1:=by
 unfold SetTable.put SetTable.insertAt;dsimp only;simp only[Array.size_append,Array.size_push,Array.size_extract];omega
theorem mL{t:SetTable}(hd:t.dummies=#[])(j:Nat):(t.put j).1.dummies=#[]:=by
 unfold SetTable.put;dsimp only;rw[hd];rfl
theorem uD(t:SetTable)(j:Nat):(t.put j).1.mask=t.mask/\(t.put j).1.plain=t.plain:=⟨rfl,rfl⟩
theorem insertAt_perm{α:Type}(xs:Array α)(p:Nat)(x:α):(SetTable.insertAt xs p x).toList.Perm (x::xs.toList):=by
 unfold SetTable.insertAt;rw[Array.toList_append,Array.toList_push,JI];have e:xs.toList=(xs.extract 0 p).toList++(xs.extract p xs.size).toList:=by
  rw[Array.toList_extract,Array.toList_extract];unfold List.extract;rw[List.drop_zero,Nat.sub_zero];have e2:(List.drop p xs.toList).take (xs.size - p)=List.drop p xs.toList:=List.take_of_length_le (by rw[Jc];simp);rw[e2,List.take_append_drop]
 rw[e];exact List.perm_middle
def runs(mask:Nat):Nat->Nat->Nat->List Nat
 | 0,_,_=>[]
 | f+1,i,pt=>((List.range (SetTable.runEnd mask i+1 - i)).map (i+·))++runs mask f (SetTable.leap mask i pt).1 (SetTable.leap mask i pt).2
theorem Cj:∀h∈hs,∀j∈List.range 32,j∈runs 31 46 (SetTable.bits h % 32) (SetTable.bits h):=by decide +kernel
theorem kL{mask:Nat}{owner:Array (Option Nat)}:∀(f i pt:Nat),(∃j∈runs mask f i pt,(owner.getD j (some 0)).isNone=true)->∃j,SetTable.layClean.free mask owner f i pt=some j/\(owner.getD j (some 0)).isNone=true
 | 0,_,_,⟨_,hj,_⟩=>by simp[runs]at hj
 | f+1,i,pt,⟨j,hj,hn⟩=>by
  unfold SetTable.layClean.free;cases e:(List.range (SetTable.runEnd mask i+1 - i)).find? fun k=>(owner.getD (i+k) (some 0)).isNone with
  | some k =>
   dsimp only;exact⟨i+k,rfl,by have:=List.find?_some e;exact this⟩
  | none =>
   dsimp only;rcases zi.mp hj with hj | hj
   ·obtain⟨k,hk,rfl⟩:=Bc.mp hj;have:=List.find?_eq_none.mp e k hk;exact absurd hn this
   ·exact kL f _ _ ⟨j,hj,hn⟩
theorem jD{α:Type}:∀(l:List (Option α)) (j:Nat) (k:α),l[j]?=some none->((l.set j (some k)).filterMap id).Perm (k::l.filterMap id)
 | [],_,_,h=>by simp at h
 | none::l,0,k,_=>by simp
 | some x::l,0,k,h=>by simp at h
 | none::l,j+1,k,h=>by
  have:=jD l j k (by simpa using h);simpa using this
 | some x::l,j+1,k,h=>by
  have:=jD l j k (by simpa using h);simp only[List.set_cons_succ,List.filterMap_cons_some (f:=id) rfl];exact(this.cons x).trans (List.Perm.swap k x _)
theorem dC{α:Type}:∀(l:List (Option α)),(l.filterMap id).length<l.length->∃j:Nat,l[j]?=some none
 | [],h=>by simp at h
 | none::l,_=>⟨0,rfl⟩
 | some x::l,h=>by
  have h':(l.filterMap id).length<l.length:=by simpa using h
  obtain⟨j,e⟩:=dC l h';exact⟨j+1,by simpa using e⟩
def i8(mask:Nat)(acc:Option (Array (Option Nat)×Nat))(h:Int):Option (Array (Option Nat)×Nat):=do
 let (owner,k)←acc
 let j←SetTable.layClean.free mask owner (SetTable.turns mask) (SetTable.bits h % (mask+1)) (SetTable.bits h)
 pure (owner.setIfInBounds j (some k),k+1)
theorem my:∀(l:List Int) (owner:Array (Option Nat)) (k:Nat),(∀h∈l,h∈hs)->owner.size=32->(owner.toList.filterMap id).Perm (List.range k)->k+l.length≤32 ->
  ∃ow',l.foldl (i8 31) (some (owner,k))=some (ow',k+l.length)/\ow'.size=32/\(ow'.toList.filterMap id).Perm (List.range (k+l.length))
 | [],owner,k,_,hs,hp,_=>⟨owner,rfl,hs,hp⟩
 | h::l,owner,k,hh,hsz,hp,hl=>by
  have hlen:(owner.toList.filterMap id).length=k:=by rw[hp.length_eq,IM]
  obtain⟨j,hj⟩:=dC owner.toList (by rw[hlen];simp only[Ih]at hl;rw[show owner.toList.length=32 by simpa using hsz];omega);have hjlt:j<32:=by
   have:=(vM.mp hj).1;simpa[hsz]using this
  have hnone:∀j,(owner.getD j (some 0)).isNone=true->owner.toList[j]?=some none:=fun j q=>by
   rw[IS];unfold Array.getD at q;split at q
   ·rename_i hlt;rw[Ig hlt];cases e:owner[j]with
    | none=>rfl
    | some x =>
     have q':(owner[j]).isNone=true:=q;rw[e]at q';cases q'
   ·cases q
  obtain⟨j',ej,hn⟩:=kL (mask:=31) (owner:=owner) 46 (SetTable.bits h % 32) (SetTable.bits h) ⟨j,Cj h (hh h xP) j (ID.mpr hjlt),by
   unfold Array.getD;rw[dif_pos (by rw[hsz];exact hjlt)];rw[IS,Ig (by rw[hsz];exact hjlt)]at hj;have:=IH hj;show(owner[j]).isNone=true;rw[this];rfl⟩
  have est:i8 31 (some (owner,k)) h=some (owner.setIfInBounds j' (some k),k+1):=by
   unfold i8;show(SetTable.layClean.free 31 owner (SetTable.turns 31) (SetTable.bits h % 32) (SetTable.bits h) >>= fun j=>pure (owner.setIfInBounds j (some k),k+1))=_;rw[show SetTable.turns 31=46 from rfl,ej];rfl
  have hp':((owner.setIfInBounds j' (some k)).toList.filterMap id).Perm (List.range (k+1)):=by
   rw[Array.toList_setIfInBounds];refine(jD _ _ _ (hnone j' hn)).trans ?_;rw[List.range_succ];exact(hp.cons k).trans (List.perm_append_singleton k _).symm
  obtain⟨ow',e1,e2,e3⟩:=my l (owner.setIfInBounds j' (some k)) (k+1) (fun x hx=>hh x (Bo _ hx)) (by simpa using hsz) hp' (by simp only[Ih]at hl;omega);refine⟨ow',?_,e2,?_⟩
  ·rw[List.foldl_cons,est,e1];simp only[Ih];congr 2;omega
  ·rw[Ih,show k+(l.length+1)=k+1+l.length by omega];exact e3
theorem rg{t:SetTable}{hashes:Array Int}{wanted:Nat}(hw:SetTable.sizeAbove wanted=32)(hh:∀h∈hashes.toList,h∈hs)(hl:hashes.size≤32) :
  ∃t' order,t.relaid hashes wanted=some (t',order)/\t'.mask=31/\t'.dummies=#[]/\t'.place.size=hashes.size/\order.toList.Perm (List.range hashes.size)/\t'.plain=t.plain:=by
 have e0:(Array.replicate 32 (none:Option Nat)).toList.filterMap id=[]:=by decide
 obtain⟨ow,e1,e2,e3⟩:=my hashes.toList (Array.replicate 32 none) 0 hh (by simp) (by rw[e0];exact JR _) (by simpa using hl);rw[Nat.zero_add]at e1 e3;have hlc:SetTable.layClean 31 hashes=some ow:=by
  unfold SetTable.layClean;rw[←Array.foldl_toList];show Option.map (·.1) (hashes.toList.foldl (i8 31) (some (Array.replicate 32 none,0)))=_;rw[e1];rfl
 have live2:((List.range 32).filterMap fun j=>(ow.getD j none).map ((j,·):Nat->Nat×Nat)).map (·.2)=ow.toList.filterMap id:=by
  have gen:∀(l:List (Option Nat)) (n:Nat),((l.zipIdx n).filterMap (fun q=>q.1.map ((q.2,·):Nat->Nat×Nat))).map (·.2)=l.filterMap id:=by
   intro l
   induction l with
   | nil=>intro n;rfl
   | cons a l ih =>
    intro n;rw[List.zipIdx_cons];cases a with
    | none=>simpa using ih (n+1)
    | some x=>simpa using ih (n+1)
  rw[←gen ow.toList 0];congr 1;have ez:ow.toList.zipIdx 0=(List.range 32).map fun j=>(ow.getD j none,j):=by
   apply List.ext_getElem?;intro j;rw[List.getElem?_zipIdx,II];by_cases hj:j<32
   ·rw[List.getElem?_range hj,IS,Ig (by rw[e2];exact hj)];simp[Array.getD,e2,hj]
   ·rw[Jm (show ow.toList.length≤j by simpa[e2]using Nat.le_of_not_lt hj),Jm (show(List.range 32).length≤j by simpa using Nat.le_of_not_lt hj)];rfl
  rw[ez,List.filterMap_map];rfl
 have hlen:(ow.toList.filterMap id).length=hashes.size:=by rw[e3.length_eq,IM];simp
 refine⟨{ mask:=31,place:=(((List.range 32).filterMap fun j=>(ow.getD j none).map ((j,·):Nat->Nat×Nat)).map (·.1)).toArray,dummies:=#[],finger:=t.finger,led:=t.led,moves:=t.movedTo 31,plain:=t.plain },
  (((List.range 32).filterMap fun j=>(ow.getD j none).map ((j,·):Nat->Nat×Nat)).map (·.2)).toArray,by
  unfold SetTable.relaid SetTable.laid;rw[hw];show(SetTable.layClean 31 hashes >>= _)=_;rw[hlc];rfl,rfl,rfl,?_,?_,rfl⟩
 ·show(((List.range 32).filterMap fun j=>(ow.getD j none).map ((j,·):Nat->Nat×Nat)).map (·.1)).toArray.size=_;rw[Br,rS,← hlen,← live2,rS]
 ·show((((List.range 32).filterMap fun j=>(ow.getD j none).map ((j,·):Nat->Nat×Nat)).map (·.2)).toArray).toList.Perm _;rw[live2];have:hashes.size=hashes.toList.length:=by simp
  rw[this];exact e3
theorem oh{α:Type}{es:Array α}{order:Array Nat}(h:order.toList.Perm (List.range es.size)):(order.filterMap (es[·]?)).toList.Perm es.toList:=by
 have e:(order.filterMap (es[·]?)).toList=order.toList.filterMap (es[·]?):=by simp
 rw[e];refine(h.filterMap _).trans ?_;have:(List.range es.size).filterMap (es[·]?)=es.toList:=by
  apply List.ext_getElem?;intro i;have gen:∀n,n≤es.size->(List.range n).filterMap (es[·]?)=es.toList.take n:=by
   intro n
   induction n with
   | zero=>intro _;simp
   | succ n ih =>
    intro hn;rw[List.range_succ,List.filterMap_append,ih (by omega),IG];simp[Ig (show n<es.size by omega)]
  rw[gen es.size (yi _),List.take_of_length_le (by simp)]
 rw[this]
end SP
namespace SP
section
variable {prog:Program}{w:World}{A:Around}{E:Value->Shared->Prop}{s:Shared}
structure nP (h:Heap) (S:Addr) (done:List (Int × Int)):Prop where
 is:∃es ep t,h.get? S=some { cls:=.type "set",dict:=none,data:=.set es ep t }/\t.dummies=#[]/\t.place.size=es.size/\es.size=done.length/\((t.mask=7/\es.size≤4)∨(t.mask=31/\es.size≤18)) /\
  ∀e∈es.toList,∃p∈done,e.1=hp p
theorem fits_of{t:SetTable}{n:Nat}(hd:t.dummies=#[])(h1:t.place.size=n)(h2:n≤t.mask):t.fits n=true:=by
 unfold SetTable.fits SetTable.fill;rw[hd];simp[h1,h2]
theorem rY(u v:Int)(h:(u,v)∈prs):tupleKeyHash (intKind prog w) [u,v]=hp (u,v):=by
 have key:∀p∈prs,hashInt p.1=p.1/\hashInt p.2=p.2:=by decide +kernel
 obtain⟨h1,h2⟩:=key _ h;show reduceHash (Builtin.Tuple.tupleHashOf [hashInt u,hashInt v])=reduceHash (Builtin.Tuple.tupleHashOf [u,v]);have h1':hashInt u=u:=h1;have h2':hashInt v=v:=h2;rw[h1',h2']
theorem yI{ks:List Int}{vs:List Value}(h:ItemsAre (intKind prog w) ks vs):∀x∈vs,∃i t,x=.int i t:=by
 induction h with
 | nil=>intro x hx;simp at hx
 | cons h1 _ ih =>
  intro x hx;rcases Ic.mp hx with rfl | hx
  ·obtain⟨t,rfl⟩:=Value.isInt_shape h1;exact⟨_,t,rfl⟩
  ·exact ih x hx
theorem iq{a:Addr}{u v:Int}{Q:Bool->Shared->Prop}(hk:IsTupleKey (intKind prog w) s.heap [u,v] a)(h:Q true s):wpAny (model prog w) A (hashByValue 8 (.ref a)) Q E s:=by
 have hT:=hk.typeIs;obtain⟨o,items,n,ho,hc,hd,hi⟩:=hk;unfold hashByValue;refine uH (JX hT F.slot_tuple_hash.lookup ?_);show wpAny _ _ (seqItems? (.ref a) >>= _) _ _ s;refine uH (wpAny_seqItems ho hd ?_);refine uH ?_;show wpAny _ _ (forIn items _ _) _ _ s;rw[←Array.forIn_toList];have hall:=yI hi;refine wpAny_forIn_list _ (fun rest r s'=>r.1=none/\s'=s/\∀v∈rest,∃i t,v=.int i t) _ ?_ ?_ _ _ ⟨rfl,rfl,hall⟩
 ·rintro v rest r s' ⟨hr,rfl,hall⟩;obtain⟨i,t,rfl⟩:=hall v xP;show wpAny _ _ (pure true >>= _) _ _ _;refine uH (wa ?_);simp only[Bool.not_true,JS,if_false];exact wa ⟨rfl,rfl,fun u hu'=>hall u (Bo _ hu')⟩
 ·rintro⟨r1,r2⟩ s' ⟨hr,rfl,_⟩;simp only at hr;subst hr;exact wa h
theorem mG{S a:Addr}{done:List (Int×Int)}{u v:Int}{Q:Bool->Shared->Prop}(hu:A.units<cLine)(hk:IsTupleKey (intKind prog w) s.heap [u,v] a)(hP:nP s.heap S done)(hin:(u,v)∈prs)(hd:∀p∈done,p∈prs)
  (hn:(u,v)∉done) (hlen:done.length<15)
  (h:∀h' tk,Heap.SameBut S s.heap h'->nP h' S (done++[(u,v)])->Q true { s with heap:=h',toks:=tk }):wpAny (model prog w) A (setAdd S (.ref a)) Q E s:=by
 obtain⟨es,ep,t,ho,htd,hts,hes,hm,hh⟩:=hP.is;have hsa:S≠a:=by
  rintro rfl;obtain⟨o,items,n,ho',hc,_⟩:=hk;rw[ho]at ho';cases ho';exact absurd (show Value.type "set"=Value.type "tuple" from hc) (by decide)
 unfold setAdd;refine Jr (uH (wpAny_pyHash_tuple hu hk ?_));rw[rY u v hin];generalize hs':({ s with toks:=s.toks+([u,v].length+1) }:Shared)=s1;have e1:s1.heap=s.heap:=by rw[←hs']
 have ho1:s1.heap.get? S=some { cls:=.type "set",dict:=none,data:=.set es ep t }:=by rw[e1];exact ho
 have hk1:IsTupleKey (intKind prog w) s1.heap [u,v] a:=by rw[e1];exact hk
 have hmk:es.size≤t.mask:=by omega
 have hf:t.fits es.size=true:=fits_of htd hts hmk;unfold setAddHashed;refine Jr ?_;show wpAny _ _ (setAddHashedIn S (.ref a) (hp (u,v)) (99999+1)) _ _ _;unfold setAddHashedIn;refine uH (JF ho1 rfl hf ?_);dsimp only;have hbs:byScan (.ref a) es=false:=rfl;rw[hbs];simp only[JS,if_false];obtain⟨j,hj⟩:=vi (t:=t) (hashAt:=fun i=>(es[i]?.map (·.1)).getD 0) (h:=hp (u,v)) (oN hin) htd (fun i hi q=>by
  rw[hts]at hi;rw[Ig hi]at q;have q':(es[i]).1=hp (u,v):=q;obtain⟨p,hpd,e⟩:=hh es[i] (Array.getElem_mem_toList hi);rw[e]at q';exact hn (Be p (hd p hpd) _ hin q'▸hpd)) (by omega) (by omega)
 unfold setSearch;show wpAny _ _ (setSearchFrom S (.ref a) (hp (u,v)) true (99999+1) none >>= _) _ _ _;unfold setSearchFrom;refine uH (uH (JF ho1 rfl hf ?_));dsimp only;have hgw:t.gaveWay=false:=by
  unfold SetTable.gaveWay;rcases hm with hm | hm<;>rw[hm.1]<;>rfl
 rw[hgw,CI (by decide)];generalize hX:t.probe _ (hp (u,v)) (none.getD (t.probeStart (hp (u,v))))=X0;have hX':X0=some (.empty j none):=by rw[←hX];exact hj
 subst hX';dsimp only;refine wa ?_;dsimp only;refine uH (JF ho1 rfl hf ?_);dsimp only;have hps:=wg t j;have hpd:=mL htd j;obtain⟨hpm,hpp⟩:=uD t j;have hip:=insertAt_perm es (t.put j).2 (hp (u,v),Value.ref a);have his:(SetTable.insertAt es (t.put j).2 (hp (u,v),Value.ref a)).size=es.size+1:=by
  have:=hip.length_eq;simpa using this
 have hash':∀e∈(SetTable.insertAt es (t.put j).2 (hp (u,v),Value.ref a)).toList,∃p∈done++[(u,v)],e.1=hp p:=fun e he=>by
  rcases Ic.mp (hip.mem_iff.mp he)with rfl | he
  ·exact⟨(u,v),by simp,rfl⟩
  ·obtain⟨p,h1,h2⟩:=hh e he;exact⟨p,IJ _ h1,h2⟩
 have last:wpAny (model prog w) A (do
   storeSet S (SetTable.insertAt es (t.put j).2 (hp (u,v),Value.ref a)) (t.put j).1
   if (!false&&(t.put j).1.tooFull)=true then do
    setRelay S (SetTable.grown (es.size+1))
    pure true
   else pure true) Q E s1:=by
  refine uH (wpAny_storeSet_of ho1 rfl ?_ (by rw[his,IT];omega));have hg:(s1.heap.update S (Obj.putSet (SetTable.insertAt es (t.put j).2 (hp (u,v),Value.ref a)) (t.put j).1)).get? S=some { cls:=.type "set",dict:=none,data:=.set (SetTable.insertAt es (t.put j).2 (hp (u,v),Value.ref a)) (ep+1) (t.put j).1 } :=
   IY _ ho1 rfl
  have sb1:Heap.SameBut S s.heap (s1.heap.update S (Obj.putSet (SetTable.insertAt es (t.put j).2 (hp (u,v),Value.ref a)) (t.put j).1)):=by rw[e1];exact Jb ..
  have hs1:∀hh':Heap,({ s1 with heap:=hh' }:Shared)={ s with heap:=hh',toks:=s1.toks }:=fun hh'=>by rw[←hs']
  by_cases hfull:(t.put j).1.tooFull=true
  ·rw[hfull,Ij (by rfl)];have hfu:((t.put j).1.place.size+(t.put j).1.dummies.size)*5≥(t.put j).1.mask*3:=by
    have q:=hfull;unfold SetTable.tooFull SetTable.fill at q;exact Jy q
   rw[hps,hpd,hpm,hts]at hfu;have hz:(#[]:Array Nat).size=0:=rfl;rw[hz]at hfu;have h5:t.mask=7/\es.size=4:=by omega
   have hw:SetTable.grown (es.size+1)=20:=by rw[h5.2];rfl
   rw[hw];have hf2:(t.put j).1.fits (SetTable.insertAt es (t.put j).2 (hp (u,v),Value.ref a)).size=true:=fits_of hpd (by rw[hps,his,hts]) (by rw[his,hpm];omega);obtain⟨t',order,r1,r2,r3,r4,r5,r6⟩:=rg (t:=(t.put j).1) (hashes:=(SetTable.insertAt es (t.put j).2 (hp (u,v),Value.ref a)).map (·.1)) (wanted:=20) rfl (fun h0 hm0=>by
    rw[Array.toList_map]at hm0;obtain⟨e,he,rfl⟩:=Bc.mp hm0;obtain⟨p,hp1,hp2⟩:=hash' e he;rw[hp2];rcases zi.mp hp1 with q | q
    ·exact oN (hd p q)
    ·rw[xI.mp q];exact oN hin) (by rw[Array.size_map,his];omega)
   rw[Array.size_map]at r4 r5;have op:=oh r5;have osz:(order.filterMap ((SetTable.insertAt es (t.put j).2 (hp (u,v),Value.ref a))[·]?)).size=(SetTable.insertAt es (t.put j).2 (hp (u,v),Value.ref a)).size:=by
    rw[←Jt,← Jt];exact op.length_eq
   unfold setRelay;refine uH (uH (JF hg rfl hf2 ?_));dsimp only;rw[CI (show ¬SetTable.sizeAbove 20>sizeLine by rw[IT];decide)];refine uH ?_;rw[r1];show wpAny _ _ (if (Array.size (order.filterMap ((SetTable.insertAt es (t.put j).2 (hp (u,v),Value.ref a))[·]?)) !=(SetTable.insertAt es (t.put j).2 (hp (u,v),Value.ref a)).size)=true then _ else _) _ _ _;rw[CI (by rw[osz];simp)];refine wa ?_;dsimp only;refine wpAny_storeSet_of hg rfl ?_ (by rw[osz,his,IT];omega);refine wa ?_;have hg3:=IY (Obj.putSet (order.filterMap ((SetTable.insertAt es (t.put j).2 (hp (u,v),Value.ref a))[·]?)) t') hg rfl;rw[hs1];refine h _ _ (sb1.trans (Jb ..)) ⟨_,_,_,hg3,r3,by rw[r4,osz],by rw[osz,his,hes];simp,.inr ⟨r2,by rw[osz,his];omega⟩,fun e he=>hash' e (op.mem_iff.mp he)⟩
  ·rw[Bool.not_eq_true]at hfull;rw[hfull,CI (by decide)];refine wa ?_;rw[hs1];refine h _ _ sb1 ⟨_,_,_,hg,hpd,by rw[hps,his,hts],by rw[his,hes];simp,?_,hash'⟩;have hfu:¬((t.put j).1.place.size+(t.put j).1.dummies.size)*5≥(t.put j).1.mask*3:=by
    have q:=hfull;unfold SetTable.tooFull SetTable.fill at q;exact of_decide_eq_false q
   rw[hps,hpd,hpm,hts]at hfu;have hz:(#[]:Array Nat).size=0:=rfl;rw[hz]at hfu;rw[his,hpm];omega
 by_cases hpl:(t.put j).1.plain=true
 ·rw[Ij hpl];refine uH (iq hk1 ?_);exact last
 ·rw[CI hpl];refine uH (wa ?_);exact last
def um(h:Heap)(vs:List Value)(ps:List (Int×Int)):Prop:=∀(i:Nat) (v:Value),vs[i]?=some v->∃a p,v=.ref a/\ps[i]?=some p/\IsTupleKey (intKind prog w) h [p.1,p.2] a
theorem wO{h h':Heap}{S a:Addr}{u v:Int}{es:Array (Int×Value)}{ep:Nat}{t:SetTable}(x:IsTupleKey (intKind prog w) h [u,v] a)(ho:h.get? S=some { cls:=.type "set",dict:=none,data:=.set es ep t })
  (sb:∀b o,b≠S->h.get? b=some o->h'.get? b=some o):IsTupleKey (intKind prog w) h' [u,v] a:=by
 obtain⟨o,items,n,e,c,d,i⟩:=x;refine⟨o,items,n,sb a o ?_ e,c,d,i⟩;rintro rfl;rw[ho]at e;cases e;cases d
theorem rA{S I l:Addr}{vs:List Value}{ps:List (Int×Int)}{R:Result->Shared->Prop}(hu:A.units+1<cLine)(hh:A.in1.handled=none)(hlen:vs.length=ps.length)(hl15:ps.length≤15)(hnd:ps.Nodup)(hin:∀p∈ps,p∈prs)
  (hSI:S≠I) (hSl:S≠l) (hlI:l≠I):∀(k i:Nat) (s:Shared),ps.length - i=k->i≤ps.length->s.heap.IsListIter I l i->s.heap.IsList l vs.toArray->um (prog:=prog) (w:=w) s.heap vs ps->nP s.heap S (ps.take i) ->
   (∀h' tk,(∀b o,b≠S->b≠I->s.heap.get? b=some o->h'.get? b=some o)->nP h' S ps->R (.ok (.ret .none)) { s with heap:=h',toks:=tk }) ->
   codeAny (model prog w) A (.builtin "set.update.loop" ⟨[.ref S,.ref I],[]⟩) R s:=by
 intro k
 induction k with
 | zero =>
  intro i s hk hi hit hl hT hP hR;have e:i=ps.length:=by omega
  subst e;rw[Iy]at hP;refine I0 F.entry_set_update_loop ?_;rw[IQ JC _];show wpAny _ A.in1 (pyNext (.ref I) >>= _) _ _ s;refine uH (wpAny_pyNext_list_end hh hit hl (by simp[hlen]) fun h' eb=>?_);show wpAny _ A.in1 (ret Value.none) _ _ _;refine wa (hR h' s.toks (fun b o _ hb e=>eb b o hb e) ?_);obtain⟨es,ep,t,ho,r⟩:=hP.is;exact⟨es,ep,t,eb S _ hSI ho,r⟩
 | succ k ih =>
  intro i s hk hi hit hl hT hP hR;have hlt:i<ps.length:=by omega
  have hvi:vs[i]?=some vs[i]:=sH (by omega);obtain⟨a,p,ev,ep,key⟩:=hT i _ hvi;refine I0 F.entry_set_update_loop ?_;rw[IQ JC _];show wpAny _ A.in1 (pyNext (.ref I) >>= _) _ _ s;refine uH (wpAny_pyNext_list_item hit hl (x:=.ref a) (by rw[←ev];simp) fun h1 hit1 sb1=>?_);have k1:∀b o,b≠I->s.heap.get? b=some o->h1.get? b=some o:=fun b o hb e=>sb1.extBut b o hb e;obtain⟨es,epo,t,ho,r⟩:=id hP.is;have hP1:nP h1 S (ps.take i):=⟨es,epo,t,k1 S _ hSI ho,r⟩;have key1:IsTupleKey (intKind prog w) h1 [p.1,p.2] a:=by
   obtain⟨o,items,n,e,c,d,ii⟩:=key;refine⟨o,items,n,k1 a o ?_ e,c,d,ii⟩;rintro rfl;obtain⟨oi,hoi,hci,_⟩:=hit;rw[hoi]at e;cases e;rw[hci]at c;exact absurd c (by decide)
  show wpAny _ A.in1 (holding [Value.ref a] (setAdd S (.ref a)) >>= _) _ _ _;have hmem:p∈ps:=Iw ep;have hnot:p∉ps.take i:=fun hm=>by
   obtain⟨j,hj,e⟩:=List.mem_iff_getElem.mp hm;rw[List.getElem_take]at e;rw[Iu]at hj;obtain⟨hi',e'⟩:=vM.mp ep;have:=(List.getElem_inj hnd (h₀:=by omega) (h₁:=hi')).mp (e.trans e'.symm);omega
  refine uH (Jr (mG (u:=p.1) (v:=p.2) (A:=A.in1) (by show A.units+1<cLine;exact hu) key1 hP1 (hin p hmem) (fun q hq=>hin q (List.mem_of_mem_take hq)) hnot (by rw[Iu];omega) fun h2 tk sb2 hP2=>?_));have k2:∀b o,b≠S->h1.get? b=some o->h2.get? b=some o:=fun b o hb e=>sb2.extBut b o hb e;have et:ps.take i++[p]=ps.take (i+1):=by rw[IG,ep];rfl
  refine wa ⟨JN JC _,ih (i+1) { s with heap:=h2,toks:=tk } (by omega) (by omega) (hit1.extBut (fun b o hb e=>k2 b o hb e) (Ne.symm hSI)) ?_ ?_ (by rw[←et];exact hP2) ?_⟩
  ·exact(hl.extBut (fun b o hb e=>k1 b o hb e) hlI).extBut (fun b o hb e=>k2 b o hb e) (Ne.symm hSl)
  ·intro j v hv;obtain⟨a',p',e1',e2',key'⟩:=hT j v hv;refine⟨a',p',e1',e2',wO ?_ (k1 S _ hSI ho) k2⟩;obtain⟨o,items,n,e,c,d,ii⟩:=key';refine⟨o,items,n,k1 a' o ?_ e,c,d,ii⟩;rintro rfl;obtain⟨oi,hoi,hci,_⟩:=hit;rw[hoi]at e;cases e;rw[hci]at c;exact absurd c (by decide)
  ·intro h3 tk3 kp hP3;exact hR h3 tk3 (fun b o hb hb' e=>kp b o hb hb' (k2 b o hb (k1 b o hb' e))) hP3
set_option maxHeartbeats 4000000 in
theorem jw{l:Addr}{vs:List Value}{ps:List (Int×Int)}{Q:Value->Shared->Prop}(hu:A.units+8<cLine)(hh:A.handled=none)(hl:s.heap.IsList l vs.toArray)(hlen:vs.length=ps.length)(hl15:ps.length≤15)
  (hnd:ps.Nodup) (hin:∀p∈ps,p∈prs) (hT:um (prog:=prog) (w:=w) s.heap vs ps)
  (h:∀h' tk,(∀b o,b<s.heap.objs.size->s.heap.get? b=some o->h'.get? b=some o)->nP h' s.heap.objs.size ps->Q (.ref s.heap.objs.size) { s with heap:=h',toks:=tk }) :
  wpAny (model prog w) A (call (.type "set") [.ref l]) Q E s:=by
 obtain⟨c0,tl0,mro0⟩:=F.called_set.mro;have made0:=F.called_set.made;have sub0:=F.called_set.sub;have nt0:=F.called_set.notType;have cc0:=F.called_set.canCreate;have tc0:=F.typeCall_set_1 (.ref l);refine wpAny_call (codeAny_of_tree ?_);show wpAny _ _ (callAny (.type "set") _) _ _ _;refine wa ⟨Code.quiet_builtin _ (by decide +kernel),I0 F.entry_type_call ?_⟩;rw[Around.under_plain (weight_type_call_type "set" [.ref l] []) rfl]
 repeat (any_goals (first | assumption | wp_step))
 refine JY (code_set_new_1 (.ref l) (E:=E) (Q₁:=fun obj s1=>∃led:Bool,obj=.ref s.heap.objs.size /\
  s1={ s with heap:=s.heap.push { cls:=.type "set",dict:=none,data:=.set #[] 0 (.fresh 0 0 led) } }) fun led=>⟨led,rfl,rfl⟩) fun r s1 hr=>?_
 cases r with
 | error e=>exact hr
 | ok fl =>
  cases fl with
  | ret obj =>
   obtain⟨led,rfl,rfl⟩:=hr;generalize hH:s.heap.push { cls:=.type "set",dict:=none,data:=.set #[] 0 (.fresh 0 0 led) }=H1;have hS:H1.get? s.heap.objs.size=some { cls:=.type "set",dict:=none,data:=.set #[] 0 (.fresh 0 0 led) }:=by rw[←hH];exact yf _ rfl
   have old:∀b o,s.heap.get? b=some o->H1.get? b=some o:=fun b o e=>by rw[←hH];exact va _ e
   have hsz:H1.objs.size=s.heap.objs.size+1:=by rw[←hH,Jz]
   have tyS:Shared.TypeIs { s with heap:=H1 } (.ref s.heap.objs.size) "set":=⟨_,hS,rfl⟩;have li0:=F.called_set.init.lookup;have bi0:=F.called_set.init.bind (.ref s.heap.objs.size)
   repeat (any_goals (first | assumption | wp_step))
   refine JY (codeAny_call_builtin (R:=wants (fun r s2=>r=.none/\∃h' tk,s2={ s with heap:=h',toks:=tk }/\nP h' s.heap.objs.size ps /\
    (∀b o,b<s.heap.objs.size->s.heap.get? b=some o->h'.get? b=some o)) E) F.called_set.init.plain F.entry_set_init (check_set_init_1 tyS ?_)) fun r2 s2 hr2=>?_
   ·obtain⟨ol,hol,hcl,nl,hdl⟩:=hl;obtain⟨oc,od,oda,osl⟩:=ol;simp only at hcl hdl;subst hcl;subst hdl;have hol1:H1.get? l=some { cls:=.type "list",dict:=od,data:=.seq vs.toArray nl,slots:=osl }:=old _ _ hol;have sls:=F.sub_list_set;have slf:=F.sub_list_frozenset;have nld:(Value.type "list"==Value.type "dict")=false:=by decide
    have hl1:H1.IsList l vs.toArray:=⟨_,hol1,rfl,nl,rfl⟩;have llt:l<s.heap.objs.size:=xV hol;unfold Builtin.«set.__init__» noKeywords Builtin.Frozenset.updateFrom;generalize hPI:pyIter=PI
    wp_walk
    subst hPI;refine JZ hl1 ?_;refine uH (wpAny_runValue ?_);generalize hH2:H1.push { cls:=.type "list_iterator",data:=.fields #[.ref l,.int 0 0] }=H2;have old2:∀b o,H1.get? b=some o->H2.get? b=some o:=fun b o e=>by rw[←hH2];exact va _ e
    refine rA (l:=l) (ps:=ps) (vs:=vs) (by show A.units+1+1+1<cLine;omega) (by simp[hh]) hlen hl15 hnd hin (by show s.heap.objs.size≠H1.objs.size;rw[hsz];exact B6 (JP _)) (JE llt) (by show l≠H1.objs.size;rw[hsz];exact B6 (Jx llt)) ps.length 0 _ (by omega) (Jk _) ?_ ?_ ?_ ?_ ?_
    ·rw[←hH2];exact⟨_,yf _ rfl,rfl,rfl⟩
    ·exact⟨_,old2 _ _ hol1,rfl,nl,rfl⟩
    ·intro i v hv;obtain⟨a,p,e1,e2,o,items,n,e,r⟩:=hT i v hv;exact⟨a,p,e1,e2,o,items,n,old2 _ _ (old _ _ e),r⟩
    ·exact⟨#[],0,.fresh 0 0 led,old2 _ _ hS,rfl,rfl,rfl,.inl ⟨rfl,by decide⟩,fun e he=>by simp at he⟩
    ·intro h' tk kp hP;show wpAny _ _ (pure ()) _ _ _;refine wa ?_;show wpAny _ _ (ret Value.none) _ _ _;refine wa ⟨rfl,h',tk,rfl,hP,fun b o hb e=>?_⟩;refine kp b o (B6 hb) ?_ (old2 _ _ (old _ _ e));show b≠H1.objs.size;rw[hsz];exact B6 (Jx hb)
   ·cases r2 with
    | error e=>exact hr2
    | ok f2 =>
     cases f2 with
     | ret r =>
      obtain⟨rfl,h',tk,rfl,hP,hk⟩:=hr2
      repeat (any_goals (first | assumption | wp_step))
      exact h _ _ hk hP
     | _=>exact hr2.elim
  | _=>exact hr.elim
end
end SP
namespace L2
variable {X:Cx}
def xf(S:Addr)(n:Nat):Heap->Prop:=fun h=>∃es ep t,h.get? S=some { cls:=.type "set",dict:=none,data:=.set es ep t }/\es.size=n/\t.fits es.size=true
def Prs(K:PySem.W.Frag)(H:Hp)(us:List V)(ps:List (Int×Int)):Prop:=Paired (fun(u:V) (p:Int×Int)=>∃t,u=.ref t/\SqT K H t [.int p.1,.int p.2]) us ps
theorem kY{K:PySem.W.Frag}{H:Hp}:∀{us:List V} {ps:List (Int×Int)} {i:Nat} {u:V},Prs K H us ps->us[i]?=some u->∃p t,ps[i]?=some p/\u=.ref t/\SqT K H t [.int p.1,.int p.2]
 | [],_,i,u,_,e=>by simp at e
 | _::_,_::_,0,u,.cons h _,e=>by
  obtain⟨t,h1,h2⟩:=h;simp at e;subst e;exact⟨_,t,by simp,h1,h2⟩
 | _::_,_::_,i+1,u,.cons _ t,e=>by
  obtain⟨p,a,e1,e2⟩:=kY (i:=i) (u:=u) t (by simpa using e);exact⟨p,a,by simpa using e1,e2⟩
theorem lQ{K:PySem.W.Frag}{H:Hp}{us:List V}{ps:List (Int×Int)}(h:Prs K H us ps):us.length=ps.length:=Paired.length h
theorem rF(hc:X.calm=true)(hu:X.A.units+64<cLine):cv X (.type "set") (fun xs H Q=>∃(a:Addr) (us:List V) (ps:List (Int×Int)),xs=[.ref a]/\SqL X.K H a us/\Prs X.K H us ps/\ps.Nodup/\(∀p∈ps,p∈SP.prs)/\ps.length≤15/\∀S,H S=none->Q (.ref S) (upd H S (.ext (xf S ps.length)))):=by
 intro pins s σ H xs us Q I r h;obtain⟨a,ws,ps,rfl,hq,hP,nd,hin,h15,q⟩:=h;obtain⟨u,rfl,ru⟩:=Vals.one r;cases ru;obtain⟨its,rv,p,hz⟩:=I.list hq;have hlen:its.length=ps.length:=rv.length.symm.trans (lQ hP);refine SP.jw (by omega) (I.ok.hd hc) p.isList hlen h15 nd hin ?_ fun h' tk kp P=>?_
 ·intro i v hv;have hi:i<ws.length:=by rw[rv.length];exact(vM.mp hv).1
  obtain⟨pr,t,e1,e2,hs⟩:=kY (i:=i) hP (sH hi);obtain⟨u,eu,ru⟩:=rv.get (sH hi);rw[hv]at eu;cases eu;rw[e2]at ru;cases ru;obtain⟨is,r2,⟨o,ho,hcl,n,hd⟩,_⟩:=I.tuple hs;obtain⟨x,y,rfl,rx,ry⟩:=vals2 r2;obtain⟨t1,rfl⟩:=rx;obtain⟨t2,rfl⟩:=ry;exact⟨t,pr,rfl,e1,o,_,n,ho,hcl,hd,.cons (by simp[intKind,Value.isInt]) (.cons (by simp[intKind,Value.isInt]) .nil)⟩
 ·have hn:H s.heap.objs.size=none:=I.hok.fresh (yi _);obtain⟨es,ep,t,ho,hd,hp,hl,hm,_⟩:=P.is;have hf:t.fits es.size=true:=SP.fits_of hd hp (by rcases hm with⟨e,k⟩ |⟨e,k⟩<;>omega);refine⟨.ref s.heap.objs.size,_,I.laid (t':=tk) (o:=.ext (xf s.heap.objs.size ps.length)) (fun b o e=>kp b o (xV e) e) (yi _) ?_,rfl,q _ hn⟩;exact⟨⟨es,ep,t,ho,hl,hf⟩,⟨_,ho⟩,fun h1 h2 y_ k=>by obtain⟨es,ep,t,e,l,f⟩:=y_;exact ⟨es,ep,t,k _ e,l,f⟩⟩
theorem qW:cv X (.builtin "len") (fun xs H Q=>∃(S:Addr) (n:Nat),xs=[.ref S]/\H S=some (.ext (xf S n))/\n<1000/\Q (.int n) H):=by
 intro pins s σ H xs us Q I r h;obtain⟨S,n,rfl,hS,hn,q⟩:=h;obtain⟨u,rfl,ru⟩:=Vals.one r;cases ru;obtain⟨⟨es,ep,t,ho,hl,hf⟩,_,_⟩:=(show bM X.prog X.w H s.heap S (.ext (xf S n))from I.hok S _ hS);subst hl;exact call_len_set ho ⟨rfl,rfl,rfl⟩ rfl hf (by omega) ⟨.int es.size,H,I.tok _,⟨_,rfl⟩,q⟩
end L2
namespace U
open L2
section
variable {B:Bs}{X:Cx}{e:Expr}{ta:TE'}{p p2 pos pos2:Pos}
def prV(p:Int×Int):PV:=.tup [.int p.1,.int p.2]
theorem oX{K:PySem.W.Frag}{H:Hp}:∀{ps:List (Int×Int)} {us:List V},RPs K H (ps.map prV) us->Prs K H us ps
 | [],us,h=>by
  have:us=[]:=by simpa[RPs]using h
  subst this;exact .nil
 | q::ps,us,h=>by
  simp only[yd,RPs,RP,prV]at h;obtain⟨u,r,rfl,⟨t,ws,rfl,hs,w1,r1,rfl,rfl,w2,r2,rfl,rfl,rfl⟩,h2⟩:=h;exact .cons ⟨t,rfl,hs⟩ (oX h2)
def tR(x:PV)(H:PHp)(Q:VK'):Prop:=match x with
 | .ref a=>∃ps:List (Int×Int),H a=some (.lst (ps.map prV))/\ps.Nodup/\(∀p∈ps,p∈SP.prs)/\ps.length≤15/\Q (.int ps.length) H
 | _=>False
def qm(ta:TE'):TE':=fun σ H Q=>ta σ H fun x H1=>tR x H1 Q
theorem oB(hc:X.calm=true)(hu:X.A.units+64<cLine)(hgl:Gl X "len")(hml:X.mg "len"=none)(hgs:Gl X "set")(hms:X.mg "set"=none)(bs:bootBuiltins "set"=some (.type "set"))(ha:PE' X B e ta)
  (he:starEach [.Call (.Name "set" p2) [e] [] pos2] X.env=[(false,eval (.Call (.Name "set" p2) [e] [] pos2) X.env)]:=by rfl) (he2:starEach [e] X.env=[(false,eval e X.env)]:=by rfl) :
  PE' X B (.Call (.Name "len" p) [.Call (.Name "set" p2) [e] [] pos2] [] pos) (qm ta) :=
 a6 (dI qW hgl hml Im (bU (fu (rF hc hu) hgs hms bs (bU ha cI he2) (by decide) (by decide) he2 rfl) cI he) (by decide) (by decide) he rfl) fun σ H Q h=>by
  obtain⟨σ',H',Q',s,h,k⟩:=h;refine⟨σ',H',_,s,h,fun x' H1' x H1 h1 rx s1 e1=>?_⟩;cases x' with
  | ref a =>
   obtain⟨ps,ea,nd,hin,h15,q⟩:=h1;simp only[RP]at rx;subst rx;obtain⟨us,eg,r2⟩:=s1.hp _ _ ea;refine⟨a,us,ps,rfl,.inl (.inl eg),oX r2,nd,hin,h15,fun S hS=>?_⟩;exact⟨S,ps.length,rfl,bc,by omega,k _ _ _ _ q (by simp[RP]) (s1.hid hS) (e1.trans (Ev.hid hS))⟩
  | _=>exact h1.elim
end
section
variable {B:Bs}{X:Cx}{a b:Expr}{ta tb:TE'}{pos:Pos}
def EA:R2':=uI (fun _ j=>0≤j) fun i j=>.int (i / 2 ^ j.toNat)
def El:R2':=uI0 fun i j=>.int (Builtin.bitAnd i j)
theorem n9(ha:PE' X B a ta)(hb:PE' X B b tb):PE' X B (.BinOp a .RShift b pos) (uOp EA ta tb):=fM Ck (sO fun _ _ _=>by simp[RP]) ha hb
end
end U
namespace ST
open PySem.W
def key(K:Nat->Int)(p:Array Nat)(i:Nat):Int:=K ((p[i]?).getD 0)
structure Ok (n:Nat) (p:Array Nat):Prop where
 perm:p.toList.Perm (List.range n)
def S(K:Nat->Int)(p:Array Nat)(m:Nat):Prop:=∀i j,i<j->j<m->key K p i<key K p j
theorem Ok.size{n:Nat}{p:Array Nat}(h:Ok n p):p.size=n:=by
 have:=h.perm.length_eq;simpa using this
theorem Ok.lt{n:Nat}{p:Array Nat}(h:Ok n p)(h0:0<n)(i:Nat):p.getD i 0<n:=by
 rw[Array.getD_eq_getD_getElem?];cases e:p[i]? with
 | none=>exact h0
 | some x =>
  have:x∈p.toList:=by
   obtain⟨hi,rfl⟩:=Array.getElem?_eq_some_iff.mp e;simp
  exact ID.mp (h.perm.mem_iff.mp this)
theorem Ok.of{n:Nat}{p q:Array Nat}(h:Ok n p)(r:q.Perm p):Ok n q:=⟨(Array.perm_iff_toList_perm.mp r).trans h.perm⟩
section
variable {cmp:Nat->Nat->(Bool->Shared->Prop)->Shared->Prop}{s:Shared}{n:Nat}{K:Nat->Int}{p:Array Nat}
theorem Ok.ne(hK:∀i j,i<n->j<n->K i=K j->i=j)(h:Ok n p){i j:Nat}(hi:i<n)(hj:j<n)(hne:i≠j):key K p i≠key K p j:=by
 intro e;have hs:=h.size;have h0:0<n:=by omega
 unfold key at e;rw[Ig (by omega),Ig (by omega)]at e;simp only[Option.getD_some]at e;have nd:p.toList.Nodup:=(h.perm.nodup_iff).mpr List.nodup_range;have l1:p[i]<n:=by have:=h.lt h0 i;rwa [Array.getD_eq_getD_getElem?,Ig (by omega)]at this
 have l2:p[j]<n:=by have:=h.lt h0 j;rwa [Array.getD_eq_getD_getElem?,Ig (by omega)]at this
 have q:=hK _ _ l1 l2 e;have:i=j:=by
  exact(List.getElem_inj nd (h₀:=by simpa[hs]using hi) (h₁:=by simpa[hs]using hj)).mp (by simpa using q)
 exact hne this
theorem nC(K:Nat->Int)(p:Array Nat)(i:Nat):K (p.getD i 0)=key K p i:=by
 unfold key;rw[Array.getD_eq_getD_getElem?]
variable (hc:∀i j C,i<n->j<n->C (decide (K i<K j)) s->cmp i j C s)(hK:∀i j,i<n->j<n->K i=K j->i=j)
include hc
theorem jJ{G:Bool->Shared->Prop}(h0:0<n)(ok:Ok n p){i j:Nat}(h:G (decide (key K p i<key K p j)) s):cmp (p.getD i 0) (p.getD j 0) G s:=by
 refine hc _ _ _ (ok.lt h0 i) (ok.lt h0 j) ?_;rw[nC K p i,nC K p j];exact h
include hK
theorem ib{i j:Nat}(ok:Ok n p)(hi:i<n)(hj:j<n)(hne:i≠j)(h:¬key K p i<key K p j):key K p j<key K p i:=by
 have:=ok.ne hK hi hj hne;omega
theorem asc(ok:Ok n p):∀(f m:Nat) {G:Nat->Shared->Prop},1≤m->m+f≤n->S K p m ->
  (∀m',m≤m'->m'≤m+f->S K p m'->(m'<m+f->key K p m'<key K p (m' - 1))->G m' s)->(kas_asc p f m).kasWp cmp G s
 | 0,m,G,_,_,hS,h=>h m (yi _) (yi _) hS fun q=>absurd q (JM _)
 | f+1,m,G,h1,hm,hS,h=>by
  refine jJ hc (by omega) ok (G:=fun c s'=>(if c=true then KasT.ret m else kas_asc p f (m+1)).kasWp cmp G s') ?_;by_cases q:key K p m<key K p (m - 1)
  ·rw[IL q];show G m s;exact h m (yi _) (by omega) hS fun _=>q
  ·rw[Jn q];show(kas_asc p f (m+1)).kasWp cmp G s;have q':=ib hc hK ok (by omega) (by omega) (by omega) q;refine asc ok f (m+1) (by omega) (by omega) ?_ fun m' a b c d=>h m' (by omega) (by omega) c fun e=>d (by omega);intro i j hij hj;by_cases hjm:j<m
   ·exact hS i j hij hjm
   ·have:j=m:=by omega
    subst this;by_cases him:i=j - 1
    ·subst him;exact q'
    ·have:=hS i (j - 1) (by omega) (by omega);omega
theorem desc(ok:Ok n p):∀(f m:Nat) {G:Array Nat×Nat×Nat->Shared->Prop},1≤m->m+f≤n->(∀i j,i<j->j<m->key K p j<key K p i) ->
  (∀m',m≤m'->m'≤m+f->(∀i j,i<j->j<m'->key K p j<key K p i)->G (p,m',0) s)->(kas_desc f p m 0).kasWp cmp G s
 | 0,m,G,_,_,hS,h=>h m (yi _) (yi _) hS
 | f+1,m,G,h1,hm,hS,h=>by
  refine jJ hc (by omega) ok (G:=fun c s'=>(if c=true then(if 0>0 then kas_desc f (kas_rev p (m - (0+1)) m) (m+1) 0 else kas_desc f p (m+1) 0)
   else KasT.ask (p.getD (m - 1) 0) (p.getD m 0) fun d=>if d=true then KasT.ret (p,m,0)else kas_desc f p (m+1) (0+1)).kasWp cmp G s') ?_
  by_cases q:key K p m<key K p (m - 1)
  ·rw[IL q,Ij rfl,CI (by omega)];refine desc ok f (m+1) (by omega) (by omega) ?_ fun m' a b c=>h m' (by omega) (by omega) c;intro i j hij hj;by_cases hjm:j<m
   ·exact hS i j hij hjm
   ·have:j=m:=by omega
    subst this;by_cases him:i=j - 1
    ·subst him;exact q
    ·have:=hS i (j - 1) (by omega) (by omega);omega
  ·rw[Jn q];have q':=ib hc hK ok (by omega) (by omega) (by omega) q;refine jJ hc (by omega) ok (G:=fun d s'=>(if d=true then KasT.ret (p,m,0)else kas_desc f p (m+1) (0+1)).kasWp cmp G s') ?_;rw[IL q',Ij rfl];exact h m (yi _) (by omega) hS
theorem pS{m:Nat}(ok:Ok n p)(hm:m≤n)(i:Nat):key K (kas_rev p 0 m) i=if i<m then key K p (m - 1 - i)else key K p i:=by
 unfold key kas_rev;rw[getElem?_mirror_all (by rw[ok.size];exact hm)];by_cases h:i<m
 ·rw[Ij ⟨Jk _,h⟩,Ij h];congr 3;omega
 ·rw[CI (by omega),CI h]
theorem count{G:Nat×Array Nat->Shared->Prop}(ok:Ok n p)(h1:1≤n)(h:∀m p',Ok n p'->1≤m->m≤n->S K p' m->G (m,p') s):(kas_count n p).kasWp cmp G s:=by
 unfold kas_count;rw[KasT.kasWp_bind];refine asc hc hK ok (n - 1) 1 (yi _) (by omega) (fun i j a b=>by omega) fun m' a b hS st=>?_;by_cases e:m'=n
 ·subst e;rw[Ij (by simp)];exact h _ _ ok (by omega) (yi _) hS
 ·rw[CI (by simpa using e)];by_cases e1:m'>1
  ·rw[Ij e1];refine jJ hc (by omega) ok (G:=fun c s'=>(if c=true then KasT.ret (m',p)else kas_descPart m' n (kas_rev p 0 m')).kasWp cmp G s') ?_;rw[IL (hS 0 (m' - 1) (by omega) (by omega)),Ij rfl];exact h _ _ ok (by omega) (by omega) hS
  ·rw[CI e1];have:m'=1:=by omega
   subst this;unfold kas_descPart;rw[KasT.kasWp_bind];have st1:=st (by omega);refine desc hc hK ok (n - (1+1)) (1+1) (by omega) (by omega) (fun i j hij hj=>?_) fun m' a b hD=>?_
   ·have h1:j=1:=by omega
    have h2:i=0:=by omega
    subst h1;subst h2;exact st1
   ·rw[CI (by simp)];unfold kas_tail3;rw[KasT.kasWp_bind];have ok2:Ok n (kas_rev p 0 m'):=ok.of (mirror_perm _ _ _ _);refine asc hc hK ok2 (n - m') m' (by omega) (by omega) (fun i j hij hj=>?_) fun m2 a2 b2 hS2 _=>?_
    ·rw[pS hc hK ok (by omega),pS hc hK ok (by omega),Ij (by omega),Ij hj];exact hD _ _ (by omega) (by omega)
    ·exact h m2 _ ok2 (by omega) (by omega) hS2
theorem place(ok:Ok n p){k:Nat}(hk:k<n)(hS:S K p k):∀(f l r:Nat) {G:Nat->Shared->Prop},l≤r->r≤k->r - l≤f->(∀i,i<l->key K p i<key K p k)->(∀i,r≤i->i<k->key K p k<key K p i) ->
  (∀l',l'≤k->(∀i,i<l'->key K p i<key K p k)->(∀i,l'≤i->i<k->key K p k<key K p i)->G l' s)->(kas_place p k f l r).kasWp cmp G s
 | 0,l,r,G,h1,h2,h3,ha,hb,h=>h l (by omega) ha fun i x y=>hb i (by omega) y
 | f+1,l,r,G,h1,h2,h3,ha,hb,h=>by
  unfold kas_place;by_cases e:l≥r
  ·rw[Ij e];exact h l (by omega) ha fun i x y=>hb i (by omega) y
  ·rw[CI e];refine jJ hc (by omega) ok (G:=fun c s'=>(if c=true then kas_place p k f l ((l+r) / 2)else kas_place p k f ((l+r) / 2+1) r).kasWp cmp G s') ?_;have hmid:(l+r) / 2<k:=by omega
   generalize hm:(l+r) / 2=mid at *;by_cases q:key K p k<key K p mid
   ·rw[IL q,Ij rfl];refine place ok hk hS f l mid (by omega) (by omega) (by omega) ha (fun i x y=>?_) h;by_cases z:i=mid
    ·subst z;exact q
    ·have:=hS mid i (by omega) y;omega
   ·rw[Jn q,CI (by simp)];have q':=ib hc hK ok hk (by omega) (by omega) q;refine place ok hk hS f (mid+1) r (by omega) h2 (by omega) (fun i x=>?_) hb h;by_cases z:i=mid
    ·subst z;exact q'
    ·have:=hS i mid (by omega) hmid;omega
theorem p9{k l:Nat}(ok:Ok n p)(hk:k<n)(hl:l≤k)(i:Nat):key K (bubble p k (k - l)) i=if i=l then key K p k else if l<i/\i≤k then key K p (i - 1)else key K p i:=by
 unfold key;rw[getElem?_bubble (by rw[ok.size];exact hk) _ (Nat.sub_le _ _)];rw[show k - (k - l)=l by omega];split
 ·rfl
 ·split<;>rfl
theorem bin:∀(f k:Nat) (p:Array Nat) {G:Array Nat->Shared->Prop},Ok n p->1≤k->k+f=n->S K p k->(∀p',Ok n p'->S K p' n->G p' s)->(kas_bin f p k).kasWp cmp G s
 | 0, k, p, G, ok, h1, h2, hS, h => h p ok (by have : k = n := by omega
                                               subst this; exact hS)
 | f+1,k,p,G,ok,h1,h2,hS,h=>by
  unfold kas_bin;rw[KasT.kasWp_bind];refine place hc hK ok (by omega) hS k 0 k (by omega) (yi _) (by omega) (fun i x=>by omega) (fun i x y=>by omega) fun l hl ha hb=>?_;refine bin f (k+1) _ (ok.of (bubble_perm _ _ _)) (by omega) (by omega) (fun i j hij hj=>?_) h;rw[p9 hc hK ok (by omega) hl,p9 hc hK ok (by omega) hl];by_cases c1:i=l
  ·rw[Ij c1];rw[CI (by omega),Ij (by omega)];exact hb _ (by omega) (by omega)
  ·rw[CI c1];by_cases c2:j=l
   ·rw[Ij c2,CI (by omega)];exact ha _ (by omega)
   ·rw[CI c2];by_cases c3:l<i/\i≤k
    ·rw[Ij c3,Ij (by omega)];exact hS _ _ (by omega) (by omega)
    ·rw[CI c3];by_cases c4:l<j/\j≤k
     ·rw[Ij c4];by_cases c5:i=j - 1
      ·omega
      ·exact hS _ _ (by omega) (by omega)
     ·rw[CI c4];exact hS _ _ hij (by omega)
theorem sorts{G:Array Nat->Shared->Prop}(h1:1≤n)(h:∀p,Ok n p->S K p n->G p s):(kas_sort n).kasWp cmp G s:=by
 unfold kas_sort;rw[KasT.kasWp_bind];refine count hc hK (p:=(List.range n).toArray) ⟨by simp⟩ h1 fun m p' ok a b hS=>?_;show(if m<n then kas_bin (n - max m 1) p' (max m 1)else KasT.ret p').kasWp cmp G s;by_cases e:m<n
 ·rw[Ij e,show max m 1=m by omega];exact bin hc hK (n - m) m p' ok a (by omega) hS h
 ·rw[CI e];have:m=n:=by omega
  subst this;exact h p' ok hS
end
end ST
namespace ST
open PySem.W
def pk(p:Int×Int):Int:=6*p.1+p.2
def Tp(h:Heap)(v:Value)(p:Int×Int):Prop:=∃t o k u1 u2,v=.ref t/\h.get? t=some o/\o.cls=.type "tuple"/\o.data=.seq #[.int p.1 u1,.int p.2 u2] k
def Tps(h:Heap)(vs:List Value)(ps:List (Int×Int)):Prop:=vs.length=ps.length/\∀i v,vs[i]?=some v->Tp h v (ps.getD i (0,0))
theorem Tp.kp{h h':Heap}{v:Value}{p:Int×Int}(x:Tp h v p)(k:∀b o,o.cls=.type "tuple"->h.get? b=some o->h'.get? b=some o):Tp h' v p:=by
 obtain⟨t,o,n,u1,u2,e,ho,hc,hd⟩:=x;exact⟨t,o,n,u1,u2,e,k _ _ hc ho,hc,hd⟩
section
variable {prog:Program}{w:World}{A:Around}{E:Value->Shared->Prop}{s:Shared}
theorem zI{x y:Value}{p q:Int×Int}{C:Bool->Shared->Prop}(hx:Tp s.heap x p)(hy:Tp s.heap y q)(bp:0≤p.2/\p.2<6)(bq:0≤q.2/\q.2<6)(h:C (decide (pk p<pk q)) s) :
  wpAny (model prog w) A (keyLt' (tuples' true) x y) C E s:=by
 obtain⟨t,o,n,u1,u2,rfl,ho,hc,hd⟩:=hx;obtain⟨t',o',n',w1,w2,rfl,ho',hc',hd'⟩:=hy;refine kat_lt ho hd ho' hd' ?_;show KatLex prog w A true (decide (2<2)) C [(.int p.1 u1,.int q.1 w1),(.int p.2 u2,.int q.2 w2)] 0 s;refine kat_cons (wpAny_eqBool_int ?_);refine kat_go (fun e1=>kat_yes (kat_cons (wpAny_eqBool_int ?_))) (fun e1=>kat_no ?_)
 ·have e1:p.1=q.1:=by simpa using e1
  refine kat_go (fun e2=>kat_yes (kat_nil ?_)) (fun e2=>kat_no ?_)
  ·have e2:p.2=q.2:=by simpa using e2
   have:decide (pk p<pk q)=decide (2<2):=by unfold pk;rw[e1,e2];simp
   rw[←this];exact h
  ·refine kat_one _ _ (PyProof.Rows.lt_int ?_);have:decide (pk p<pk q)=decide (p.2<q.2):=by
    rw[decide_eq_decide];unfold pk;omega
   show C (decide (p.2<q.2)) s;rw[←this];exact h
 ·have e1:¬p.1=q.1:=by simpa using e1
  refine oneLt_int ?_;have:decide (pk p<pk q)=decide (p.1<q.1):=by
   rw[decide_eq_decide];unfold pk;omega
  rw[←this];exact h
theorem qb{h:Heap}:∀{vs:List Value} {ps:List (Int×Int)},Tps h vs ps->∃fs,KatTups h vs fs/\fs.length=vs.length/\∀v∈fs,∃i t,v=.int i t
 | [],ps,_=>⟨[],KatTups.nil,rfl,by simp⟩
 | v::vs,[],x=>by have:=x.1;simp at this
 | v::vs,p::ps,x=>by
  obtain⟨fs,t,l,q⟩:=qb (h:=h) (vs:=vs) (ps:=ps) ⟨by have:=x.1;simpa using this,fun i v e=>by simpa using x.2 (i+1) v (by simpa using e)⟩;obtain⟨t0,o,n,u1,u2,rfl,ho,hc,hd⟩:=x.2 0 v (by simp);refine⟨.int _ u1::fs,KatTups.cons ho hc hd rfl t,by simp[l],?_⟩;intro z hz;rcases Ic.mp hz with rfl | hz
  ·exact⟨_,_,rfl⟩
  ·exact q z hz
theorem iN{a:Addr}{vs:List Value}{ps:List (Int×Int)}{n:Nat}{P:PySem.Fin->Shared->Prop}(ho:s.heap.get? a=some (seqObj "list" vs.toArray n))(hT:Tps s.heap vs ps)(nd:ps.Nodup)
  (hb:∀p∈ps,0≤p.2/\p.2<6) (h64:vs.length<64)
  (h:∀q:List Nat,q.Perm (List.range vs.length)->(q.map fun i=>ps.getD i (0,0)).Pairwise (fun x y=>pk x<pk y)->P (.done (.ret .none)) { s with heap:=sortedHeap s.heap a vs (q.map fun i=>vs.getD i Value.none).toArray }) :
  wpAny (model prog w) A (Builtin.«list.sort» ⟨[.ref a],[]⟩) P E s:=by
 rw[list_sort_plain];have hls:vs.length≤sizeLine:=by rw[IT];omega
 refine uH (listItems_at ho rfl (uH ?_));refine(listUpdate_at ho rfl ?_ (by rw[Br];omega) (Jk _));obtain⟨ea0,oa0⟩:∃ea0,(s.heap.update a (Obj.mapSeq fun _=>#[])).get? a=some (seqObj "list" #[] ea0):=⟨_,get?_update_seq ho (fun _=>#[])⟩;refine uH (seqEpoch_at oa0 rfl ?_);refine uH (wpAny_newTuple ?_ (by show vs.length≤_;omega));refine uH (wpAny_newList ?_ (Jk _));refine Jr ?_;have kq0:∀b o,b≠a->s.heap.get? b=some o->(((s.heap.update a (Obj.mapSeq fun _=>#[])).push (seqObj "tuple" vs.toArray 0)).push (seqObj "list" #[] 0)).get? b=some o:=fun b o hne q =>
  va _ (va _ (by rw[Heap.get?_update_ne _ _ _ _ hne];exact q))
 have og0:(((s.heap.update a (Obj.mapSeq fun _=>#[])).push (seqObj "tuple" vs.toArray 0)).push (seqObj "list" #[] 0)).get? a=some (seqObj "list" #[] ea0) :=
  va _ (va _ oa0)
 have hT6:Tps (((s.heap.update a (Obj.mapSeq fun _=>#[])).push (seqObj "tuple" vs.toArray 0)).push (seqObj "list" #[] 0)) vs ps:=⟨hT.1,fun i v e=>(hT.2 i v e).kp fun b o hcl q=>kq0 b o (fun z=>by
  subst z;rw[ho]at q;cases q;exact absurd hcl (by simp[seqObj])) q⟩
 show wpAny (model prog w) _ _ P _ { s with heap:=((s.heap.update a (Obj.mapSeq fun _=>#[])).push (seqObj "tuple" vs.toArray 0)).push (seqObj "list" #[] 0) };dsimp only;have zq0:vs.toArray.size=vs.length:=by simp
 by_cases hq2:vs.toArray.size<2
 ·rw[Ij hq2,Ij hq2];refine uH (wa ?_);rw[StateT.run_pure];refine uH (wa ?_);dsimp only;refine uH (seqEpoch_at og0 rfl ?_);refine uH (listUpdate_at og0 rfl ?_ (Jk _) (by rw[Array.size_map];show(pairsOf vs).size≤_;rw[pairsOf_size];omega));simp only[bne_self_eq_false,JS,if_false];have hq:=h (List.range vs.length) (JR _) ?_
  ·have e:(arrOf (SortSt.mk' general' (vs.toArray.zip vs.toArray) #[] 7 none)).map (·.2)=((List.range vs.length).map fun i=>vs.getD i Value.none).toArray:=by
    show(vs.toArray.zip vs.toArray).map (·.2)=_
    match vs,hq2 with
    | [],_=>apply Array.toList_inj.mp;simp
    | [v],_=>apply Array.toList_inj.mp;simp[List.range_succ]
    | _::_::_,hq2=>exact absurd hq2 (by simp)
   refine wa ?_;rw[e];exact hq
  ·match vs,hq2 with
   | [],_=>exact List.Pairwise.nil
   | [v],_=>exact List.pairwise_singleton _ _
   | _::_::_,hq2=>exact absurd hq2 (by simp)
 ·rw[CI hq2,CI hq2];obtain⟨fs,hfs,hfl,hfi⟩:=qb hT6;rw[zq0]at hq2;refine uH (kat_kind hfs (by omega) (T:=.type "int") (fun v hv=>?_) rfl ?_)
  ·obtain⟨i,t,rfl⟩:=hfi v hv;exact Looks.of_pure rfl
  ·show wpAny (model prog w) A _ P E _;have hinj:∀i j,i<vs.length->j<vs.length->pk (ps.getD i (0,0))=pk (ps.getD j (0,0))->i=j:=by
    intro i j hi hj e;have hi':i<ps.length:=by rw[←hT.1];exact hi
    have hj':j<ps.length:=by rw[←hT.1];exact hj
    have g1:ps.getD i (0,0)=ps[i]:=by rw[wJ,sH hi'];rfl
    have g2:ps.getD j (0,0)=ps[j]:=by rw[wJ,sH hj'];rfl
    rw[g1,g2]at e;have b1:=hb _ (Ii hi');have b2:=hb _ (Ii hj');unfold pk at e;have e2:ps[i]=ps[j]:=Prod.ext (by omega) (by omega);exact(List.getElem_inj nd).mp e2
   refine uH (JJ (kat_run (ks:=vs) (vs:=vs) (κ:=tuples' true)
    (Q:=fun st' s'=>s'={ s with heap:=((s.heap.update a (Obj.mapSeq fun _=>#[])).push (seqObj "tuple" vs.toArray 0)).push (seqObj "list" #[] 0) }/\∃p:Array Nat,Ok vs.length p/\S (fun i=>pk (ps.getD i (0,0))) p vs.length/\arrOf st'=p.map (kas_item (vs.toArray.zip vs.toArray))/\failedOf st'=none)
    (G:=fun p s'=>s'={ s with heap:=((s.heap.update a (Obj.mapSeq fun _=>#[])).push (seqObj "tuple" vs.toArray 0)).push (seqObj "list" #[] 0) }/\Ok vs.length p/\S (fun i=>pk (ps.getD i (0,0))) p vs.length)
    rfl (by omega) h64 (fun p st' s' a1 a2 a3 a4=>⟨a4.1,p,a4.2.1,a4.2.2,a2,a3⟩) ?run) ?post fun _ _ e=>e)
   case run =>
    refine sorts (n:=vs.length) (K:=fun i=>pk (ps.getD i (0,0))) (fun i j C hi hj hC=>?_) hinj (by omega) fun p ok sS=>⟨rfl,ok,sS⟩;unfold kas_ask;have hi':i<ps.length:=by rw[←hT.1];exact hi
    have hj':j<ps.length:=by rw[←hT.1];exact hj
    refine zI (hT6.2 i _ ?_) (hT6.2 j _ ?_) (hb _ ?_) (hb _ ?_) hC
    ·rw[wJ,sH hi];rfl
    ·rw[wJ,sH hj];rfl
    ·rw[wJ,sH hi'];exact Ii hi'
    ·rw[wJ,sH hj'];exact Ii hj'
   case post =>
    rintro⟨⟨⟩,st'⟩ s' ⟨rfl,p,ok,sS,har,hf⟩;dsimp only;have hout:=kat_snds (ks:=vs) (vs:=vs) rfl har;have hpz:(List.toArray (p.toList.map fun i=>vs.getD i Value.none)).size=vs.length:=by rw[Br,rS,Jt,ok.size]
    rw[hout];refine uH (seqEpoch_at og0 rfl ?_);refine uH (listUpdate_at og0 rfl ?_ (Jk _) (by omega));rw[hf];simp only[bne_self_eq_false,JS,if_false];refine wa (h p.toList ok.perm ?_);rw[J0,List.pairwise_iff_getElem];intro i j hi hj hij;have:=sS i j hij (by rw[←ok.size];simpa using hj);unfold key at this;have hi2:i<p.size:=by simpa using hi
    have hj2:j<p.size:=by simpa using hj
    rw[Ig hi2,Ig hj2]at this;simpa using this
theorem k8{l:Addr}{vs:List Value}{ps:List (Int×Int)}{Q:Value->Shared->Prop}(hl:s.heap.IsList l vs.toArray)(hT:Tps s.heap vs ps)(nd:ps.Nodup)(hb:∀p∈ps,0≤p.2/\p.2<6)(h64:vs.length<64)
  (h:∀q:List Nat,q.Perm (List.range vs.length)->(q.map fun i=>ps.getD i (0,0)).Pairwise (fun x y=>pk x<pk y)->Q (.ref (s.heap.objs.size+1)) { s with heap:=sortedAll s.heap vs (q.map fun i=>vs.getD i Value.none).toArray }) :
  wpAny (model prog w) A (call (.builtin "sorted") [.ref l]) Q E s:=by
 refine Calls.call_function_entry kind_sorted plain_sorted entry_sorted (args_sorted1 _) ?_;unfold Builtin.«sorted»;refine uH (m:=checkCount "sorted" 1 1 _) (wa (uH (collect_list hl (uH (wpAny_newList ?_ (by rw[IT];omega))) (by rw[IT];omega))));have zq0:((s.heap.push (seqObj "list" #[] 0)).update s.heap.objs.size (Obj.mapSeq (·++vs.toArray))).objs.size=s.heap.objs.size+1:=by
  rw[Heap.size_update,size_push']
 have oq0:(((s.heap.push (seqObj "list" #[] 0)).update s.heap.objs.size (Obj.mapSeq (·++vs.toArray))).push (seqObj "list" vs.toArray 0)).get? (s.heap.objs.size+1)=some (seqObj "list" vs.toArray 0):=by
  rw[←zq0];exact yf _ rfl
 have kq0:∀b o,s.heap.get? b=some o->(((s.heap.push (seqObj "list" #[] 0)).update s.heap.objs.size (Obj.mapSeq (·++vs.toArray))).push (seqObj "list" vs.toArray 0)).get? b=some o:=fun b o q=>by
  have lq0:b<s.heap.objs.size:=xV q;rw[Heap.get?_push_ne _ _ _ (by rw[zq0];exact B6 (Jx lq0)),Heap.get?_update_ne _ _ _ _ (B6 lq0),Heap.get?_push_ne _ _ _ (B6 lq0)];exact q
 show wpAny (model prog w) _ _ _ _ { s with heap:=((s.heap.push (seqObj "list" #[] 0)).update s.heap.objs.size (Obj.mapSeq (·++vs.toArray))).push (seqObj "list" vs.toArray 0) };rw[zq0];refine uH (Jr (IU slot_list_sort ⟨_,oq0,rfl⟩ entry_list_sort (iN (ps:=ps) oq0 ⟨hT.1,fun i v e=>(hT.2 i v e).kp fun b o _ q=>kq0 b o q⟩ nd hb h64 fun q a1 a2=>⟨_,rfl,?_⟩) (args_list_sort _)));exact wa ⟨_,rfl,h q a1 a2⟩
end
end ST
namespace L2
variable {X:Cx}
def tX(K:PySem.W.Frag):List V->Hp->VK->Prop:=fun xs H Q=>∃(a:Addr) (us:List V) (ps:List (Int×Int)),xs=[.ref a]/\SqL K H a us/\Prs K H us ps/\ps.Nodup/\(∀p∈ps,0≤p.2/\p.2<6)/\ps.length<64 /\
 ∀(r:Addr) (q:List Nat),H r=none->q.Perm (List.range ps.length)->(q.map fun i=>ps.getD i (0,0)).Pairwise (fun x y=>ST.pk x<ST.pk y)->Q (.ref r) (upd H r (.lst (q.map fun i=>us.getD i .non)))
theorem kI{us:List V}{vs:List Value}(r:Vals us vs):∀(q:List Nat),(∀i∈q,i<us.length)->Vals (q.map fun i=>us.getD i .non) (q.map fun i=>vs.getD i Value.none)
 | [],_=>.nil
 | i::q,h=>by
  have hi:=h i xP;obtain⟨u,eu,ru⟩:=r.get (sH hi);refine .cons ?_ (kI r q fun j hj=>h j (Bo _ hj));dsimp only;rw[wJ,sH hi,wJ,eu];exact ru
theorem d8:cv X (.builtin "sorted") (tX X.K):=by
 intro pins s σ H xs us Q I r h;obtain⟨a,ws,ps,rfl,hq,hP,nd,hb,h64,q⟩:=h;obtain⟨u,rfl,ru⟩:=Vals.one r;cases ru;obtain⟨its,rv,p,hz⟩:=I.list hq;have hlen:its.length=ps.length:=rv.length.symm.trans (lQ hP);refine ST.k8 (ps:=ps) p.isList ⟨hlen,fun i v hv=>?_⟩ nd hb (by omega) fun qs h1 h2=>?_
 ·have hi:i<ws.length:=by rw[rv.length];exact(vM.mp hv).1
  obtain⟨pr,t,e1,e2,hs⟩:=kY (i:=i) hP (sH hi);obtain⟨u,eu,ru⟩:=rv.get (sH hi);rw[hv]at eu;cases eu;rw[e2]at ru;cases ru;obtain⟨is,r2,⟨o,ho,hcl,n,hd⟩,_⟩:=I.tuple hs;obtain⟨x,y,rfl,rx,ry⟩:=vals2 r2;obtain⟨t1,rfl⟩:=rx;obtain⟨t2,rfl⟩:=ry;refine⟨t,o,n,t1,t2,rfl,ho,hcl,?_⟩;rw[wJ,e1];exact hd
 ·have hn:H (s.heap.objs.size+1)=none:=I.hok.fresh (Nat.le_succ _);obtain⟨e,he⟩:=sortedAll_at s.heap its (qs.map fun i=>its.getD i Value.none).toArray;rw[hlen]at h1;have hin:∀i∈qs,i<ws.length:=fun i hi=>by
   have:=ID.mp (h1.mem_iff.mp hi);rw[lQ hP];exact this
  have hv:=kI rv qs hin;have hz2:(qs.map fun i=>ws.getD i V.non).length≤sizeLine:=by rw[rS,h1.length_eq,IM,IT];omega
  refine⟨.ref (s.heap.objs.size+1),_,I.laid (t':=s.toks) (o:=.lst (qs.map fun i=>ws.getD i V.non)) (fun b o e=>sortedAll_old e) (Nat.le_succ _) ?_,rfl,q _ qs hn h1 h2⟩;exact⟨hz2,_,e,hv,he⟩
end L2
namespace U
open L2
section
variable {B:Bs}{X:Cx}{a b:Expr}{ta tb:TE'}{pos:Pos}
def ti:List PV->PHp->VK'->Prop:=cP fun x H Q=>match x with
 | .ref a=>∃ps:List (Int×Int),H a=some (.lst (ps.map prV))/\ps.Nodup/\(∀p∈ps,0≤p.2/\p.2<6)/\ps.length<64/\∀(r:Addr) (qs:List (Int×Int)),H r=none->qs.Perm ps->qs.Pairwise (fun x y=>ST.pk x<ST.pk y)->Q (.ref r) (put H r (.lst (qs.map prV)))
 | _=>False
theorem nK{K:PySem.W.Frag}{H:Hp}{ps:List (Int×Int)}{us:List V}(r:RPs K H (ps.map prV) us):∀(q:List Nat),(∀i∈q,i<ps.length)->RPs K H ((q.map fun i=>ps.getD i (0,0)).map prV) (q.map fun i=>us.getD i V.non)
 | [],_=>RPs.nil _
 | i::q,h=>by
  have hi:=h i xP;obtain⟨u,eu,ru⟩:=RPs.get _ (i:=i) (x:=prV ps[i]) r (by rw[II,sH hi];rfl);refine RPs.cons _ ?_ (nK r q fun j hj=>h j (Bo _ hj));dsimp only;rw[wJ,sH hi,wJ,eu];exact ru
theorem fH{α:Type}(l:List α)(d:α){q:List Nat}(h:q.Perm (List.range l.length)):(q.map fun i=>l.getD i d).Perm l:=by
 refine(h.map _).trans ?_;have:(List.range l.length).map (fun i=>l.getD i d)=l:=by
  apply List.ext_getElem
  ·simp
  ·intro i h1 h2;simp[wJ,sH h2]
 rw[this]
theorem gU{K:PySem.W.Frag}:VC K B ti (tX K):=by
 intro σ' σ H' H xs' xs Q' Q s r h k;obtain⟨x',x,rfl,rfl,rx,h⟩:=cP.ex h r;cases x' with
 | ref a =>
  obtain⟨ps,ea,nd,hb,h64,q⟩:=h;simp only[RP]at rx;subst rx;obtain⟨us,e,r2⟩:=s.hp _ _ ea;refine⟨a,us,ps,rfl,.inl (.inl e),oX r2,nd,hb,h64,fun r qs hr h1 h2=>?_⟩;have hin:∀i∈qs,i<ps.length:=fun i hi=>ID.mp (h1.mem_iff.mp hi);exact k _ _ _ _ (q r _ (s.hp.free hr) (fH ps (0,0) h1) h2) (by simp[RP]) (s.new hr (j9 hr (nK r2 qs hin))) (Ev.new hr)
 | _=>exact h.elim
def tZ:PV->List PV->PHp->VK'->Prop:=fun x vs H Q=>match x,vs with
 | .ref a,[]=>∃l,H a=some (.lst l)/\Q .non (put H a (.lst l.reverse))
 | _,_=>False
def BQ:PV->List PV->PHp->VK'->Prop:=fun x vs H Q=>match x,vs with
 | .ref a,[]=>∃l,H a=some (.lst l)/\Q .non (put H a (.lst []))
 | _,_=>False
def yH:PV->List PV->PHp->VK'->Prop:=fun x vs H Q=>match x,vs with
 | .ref a,[.int i,y]=>∃l,H a=some (.lst l)/\0≤i/\i.toNat≤l.length/\l.length<1000/\Q .non (put H a (.lst (l.take i.toNat++y::l.drop i.toNat)))
 | _,_=>False
theorem HH{a:Addr}{H:PHp}{Q:VK'}:tZ (.ref a) [] H Q=∃l,H a=some (.lst l)/\Q .non (put H a (.lst l.reverse)):=rfl
theorem Gj{a:Addr}{H:PHp}{Q:VK'}:BQ (.ref a) [] H Q=∃l,H a=some (.lst l)/\Q .non (put H a (.lst [])):=rfl
theorem FC{a:Addr}{i:Int}{y:PV}{H:PHp}{Q:VK'}:yH (.ref a) [.int i,y] H Q=∃l,H a=some (.lst l)/\0≤i/\i.toNat≤l.length/\l.length<1000/\Q .non (put H a (.lst (l.take i.toNat++y::l.drop i.toNat))):=rfl
end
section
theorem mW{B:Bs}{X:Cx}{x:Str}{v':PV}{v:V}{pos:Pos}(hg:Gl X x)(h:∃u,X.mg x=some u/\RelV v u)(r':∀H,RP X.K H v' v)(hd:(x==("__debug__":Str))=false:=by decide):PE' X B (.Name x pos) (uC v'):=by
 obtain⟨u,hm,r⟩:=h;exact xo hg hm r r' hd
theorem aJ{ok:PHp->Prop}{g:TG'}{tt:TT'}{te:TE'}{acc:Addr}{Q:VK'}{H1:PHp}{xs:List PV}(f:PV->PV)(pz:PV->Bool)(Iv:St'->Prop)(hlen:xs.length≤1000)(hok:∀l,ok (put H1 acc (.lst l)))
  (hs:∀x∈xs,∀(l:List PV) (σ:St') (R:St'->PHp->Prop),Iv σ->l.length<sizeLine->(pz x=true->∀σ3,Iv σ3->R σ3 (put H1 acc (.lst (l++[f x]))))->(pz x=false->∀σ3,Iv σ3->R σ3 (put H1 acc (.lst l))) ->
   g x σ (put H1 acc (.lst l)) fun σ3 H2=>tt σ3 H2 fun b H3=>cif b (te σ3 H3 fun y H4=>∃l',H4 acc=some (.lst l')/\l'.length<sizeLine/\R σ3 (put H4 acc (.lst (l'++[y])))) (R σ3 H3))
  (hq:Q (.ref acc) (put H1 acc (.lst ((xs.filter pz).map f)))) {σ:St'} (h0:Iv σ):eo ok g tt te acc Q xs σ (put H1 acc (.lst [])):=by
 have key:∀(r d:List PV) (σ:St'),xs=d++r->Iv σ->eo ok g tt te acc Q r σ (put H1 acc (.lst ((d.filter pz).map f))):=by
  intro r
  induction r with
  | nil =>
   intro d σ e hv;have:d=xs:=by rw[e,IP]
   subst this;exact⟨hok _,hq⟩
  | cons x r ih =>
   intro d σ e hv;have hd:((d.filter pz).map f).length<sizeLine:=by
    have h1:d.length+(r.length+1)=xs.length:=by rw[e,wW,Ih]
    have h2:=IZ pz d;have:=aZ (n:=1000) (by decide);rw[rS];omega
   refine⟨hok _,hs x (by rw[e];simp) _ σ _ hv hd (fun hp σ3 h3=>?_) (fun hp σ3 h3=>?_)⟩
   ·have:=ih (d++[x]) σ3 (by rw[e];simp) h3;rw[List.filter_append,Ie]at this;simpa[hp]using this
   ·have:=ih (d++[x]) σ3 (by rw[e];simp) h3;rw[List.filter_append,Ie]at this;simpa[hp]using this
 exact key xs [] σ rfl h0
end
section
theorem FY{C:Addr}{f:Str}{a:Addr}{H:PHp}{Q:VK'}:zW C f (.ref a) H Q=∃dx fs v,H a=some (.ins C dx fs)/\fs.lookup f=some v/\Q v H:=rfl
theorem G4{C:Addr}{f:Str}{a:Addr}{y:PV}{H:PHp}{Q:PHp->Prop}:Ao C f (.ref a) y H Q=∃dx fs,H a=some (.ins C dx fs)/\fs.length<1000/\Q (put H a (.ins C dx (kd f y fs))):=rfl
theorem FE{C:Addr}{m:Str}{a:Addr}{H:PHp}:isIn C m (.ref a) H=∃dx fs,H a=some (.ins C dx fs)/\fs.lookup m=none:=rfl
theorem GB{a:Addr}{H:PHp}{Q:VK'}:Ea [.ref a] H Q=∃bs:List Bool,H a=some (.lst (bs.map PV.bl))/\Q (.bl (bs.all id)) H:=rfl
theorem FL{a:Addr}{H:PHp}{Q:VK'}:tR (.ref a) H Q=∃ps:List (Int×Int),H a=some (.lst (ps.map prV))/\ps.Nodup/\(∀p∈ps,p∈SP.prs)/\ps.length≤15/\Q (.int ps.length) H:=rfl
theorem He{a:Addr}{H:PHp}{Q:VK'}:ti [.ref a] H Q=∃ps:List (Int×Int),H a=some (.lst (ps.map prV))/\ps.Nodup/\(∀p∈ps,0≤p.2/\p.2<6)/\ps.length<64/\∀(r:Addr) (qs:List (Int×Int)),H r=none->qs.Perm ps->qs.Pairwise (fun x y=>ST.pk x<ST.pk y)->Q (.ref r) (put H r (.lst (qs.map prV))):=rfl
end
end U
namespace SI
def subs:List (List Nat):=(List.range 64).map fun b=>(List.range 6).filter fun i=>b / 2 ^ i % 2==1
def tb(led:Bool)(L:List Nat):SetTable:={ mask:=if L.length≤4 then 7 else 31,place:=L.toArray,dummies:=#[],finger:=0,led:=led,moves:=if L.length≤4 then 0 else 1,plain:=true }
def pos(L:List Nat)(x:Nat):Nat:=(L.filter (·<x)).length
def ins(L:List Nat)(x:Nat):List Nat:=L.take (pos L x)++x::L.drop (pos L x)
def tp(led:Bool)(L:List Nat)(x:Nat):SetTable:={ tb led L with place:=(ins L x).toArray }
theorem F1:∀led∈[true,false],∀L∈subs,∀x∈List.range 6,x∉L->(tb led L).freeSlot x=some (x,false)/\(tb led L).put x=(tp led L x,pos L x):=by decide +kernel
theorem G3:∀led∈[true,false],∀L∈subs,∀x∈List.range 6,x∉L->(tp led L x).fits (ins L x).length=true/\(if L.length=4 then(tp led L x).tooFull=true/\(tp led L x).relaid ((ins L x).map Int.ofNat).toArray 20=some (tb led (ins L x),#[0,1,2,3,4])else(tp led L x).tooFull=false/\tp led L x=tb led (ins L x)):=by decide +kernel
theorem j0:∀L∈subs,(∀x∈L,x<6)/\L.length≤6/\L.Nodup/\(∀x∈List.range 6,x∉L->ins L x∈subs):=by decide +kernel
theorem mq:∀L∈subs,∀led∈[true,false],(tb led L).fits L.length=true/\SetTable.below L.toArray 0=0/\∀i∈List.range L.length,SetTable.below L.toArray (L.getD i 0+1)=i+1:=by decide +kernel
def ent(i:Nat)(tk:Tok):Int×Value:=((i:Int),.int (i:Int) tk)
def dn(es:Array (Int×Value))(L:List Nat):Prop:=∃tks:List Tok,tks.length=L.length/\es.toList=List.zipWith ent L tks
theorem dn.size{es:Array (Int×Value)}{L:List Nat}(h:dn es L):es.size=L.length:=by
 obtain⟨tks,hl,e⟩:=h;rw[←Jt,e,List.length_zipWith,hl,Nat.min_self]
theorem dn.get{es:Array (Int×Value)}{L:List Nat}(h:dn es L){i:Nat}(hi:i<L.length):∃tk,es[i]?=some (ent (L.getD i 0) tk):=by
 obtain⟨tks,hl,e⟩:=h;refine⟨tks[i],?_⟩;rw[←IS,e,List.getElem?_zipWith,sH hi,sH (by omega),wJ,sH hi];rfl
theorem dn.mem{es:Array (Int×Value)}{L:List Nat}(h:dn es L){e:Int×Value}(he:e∈es.toList):∃x∈L,∃tk,e=ent x tk:=by
 obtain⟨i,hi,rfl⟩:=List.mem_iff_getElem.mp he;have hi':i<L.length:=by rw[←h.size];simpa using hi
 obtain⟨tk,e⟩:=h.get hi';refine⟨L.getD i 0,by rw[wJ,sH hi'];exact Ii hi',tk,?_⟩;rw[Ig (by simpa using hi)]at e;simpa using IH e
theorem dn.of{es:Array (Int×Value)}{L:List Nat}(h:dn es L){x:Nat}(hx:x∈L):∃tk,ent x tk∈es.toList:=by
 obtain⟨i,hi,rfl⟩:=List.mem_iff_getElem.mp hx;obtain⟨tk,e⟩:=h.get hi;refine⟨tk,?_⟩;rw[wJ,sH hi]at e;rw[←IS]at e;exact Iw e
theorem dn.ins{es:Array (Int×Value)}{L:List Nat}(h:dn es L)(x:Nat)(tk:Tok):dn (SetTable.insertAt es (pos L x) (ent x tk)) (SI.ins L x):=by
 obtain⟨tks,hl,e⟩:=h;refine⟨tks.take (pos L x)++tk::tks.drop (pos L x),?_,?_⟩
 ·unfold SI.ins;simp only[wW,Ih,Iu,Jc];omega
 ·rw[SetTable.toList_insertAt,e];unfold SI.ins;rw[List.zipWith_append (by simp only[Iu];omega),List.zipWith_cons_cons,List.take_zipWith,List.drop_zipWith]
structure j8 (h:Heap) (S:Addr) (led:Bool) (L:List Nat):Prop where
 is:L∈subs/\∃es ep,h.get? S=some { cls:=.type "set",dict:=none,data:=.set es ep (tb led L) }/\dn es L
theorem dP(led:Bool):led∈[true,false]:=by cases led<;>simp
theorem pf{α:Type}(es:Array α)(h:es.size=5):(#[0,1,2,3,4]:Array Nat).filterMap (es[·]?)=es:=by
 have e:=PySem.filterMap_getElem?_range es;rw[h]at e;apply Array.toList_inj.mp;rw[Array.toList_filterMap];exact e
section
variable {prog:Program}{w:World}{A:Around}{E:Value->Shared->Prop}{s:Shared}
theorem dn.elems{es:Array (Int×Value)}{L:List Nat}(h:dn es L)(hL:L∈subs):ElemsOf (intKind prog w) es.toList:=fun e he=>by
 obtain⟨x,hx,tk,rfl⟩:=h.mem he;refine⟨⟨(x:Int),intKind_is _ _ _ _,?_⟩,rfl⟩;have:x<6:=(j0 L hL).1 x hx;have hh:∀y∈List.range 6,((y:Nat):Int)=(intKind prog w).hash ((y:Nat):Int):=by
  intro y hy;have:y=0∨y=1∨y=2∨y=3∨y=4∨y=5:=by have:=ID.mp hy;omega
  rcases this with rfl | rfl | rfl | rfl | rfl | rfl<;>rfl
 exact hh x (ID.mpr this)
theorem nc{x:Nat}(hx:x<6):(intKind prog w).hash ((x:Nat):Int)=((x:Nat):Int):=by
 have:x=0∨x=1∨x=2∨x=3∨x=4∨x=5:=by omega
 rcases this with rfl | rfl | rfl | rfl | rfl | rfl<;>rfl
theorem oK{S:Addr}{led:Bool}{L:List Nat}{x:Nat}{tk:Tok}{Q:Bool->Shared->Prop}(hP:j8 s.heap S led L)(hx:x<6)
  (h:∀b h' tks,Heap.SameBut S s.heap h'->j8 h' S led (if x∈L then L else ins L x)->Q b { s with heap:=h',toks:=tks }):wpAny (model prog w) A (setAdd S (.int (x:Int) tk)) Q E s:=by
 obtain⟨hL,es,ep,ho,he⟩:=hP.is;unfold setAdd;refine Jr ?_;refine uH ((intKind prog w).pyHash (k:=(x:Int)) (intKind_is _ _ _ _) ?_);rw[nc hx];generalize hs':({ s with toks:=s.toks+1 }:Shared)=s1;have e1:s1.heap=s.heap:=by rw[←hs']
 have hs1:∀hh':Heap,({ s1 with heap:=hh' }:Shared)={ s with heap:=hh',toks:=s1.toks }:=fun hh'=>by rw[←hs']
 have ho1:s1.heap.get? S=some { cls:=.type "set",dict:=none,data:=.set es ep (tb led L) }:=by rw[e1];exact ho
 have hf:(tb led L).fits es.size=true:=by rw[he.size];exact(mq L hL led (dP led)).1
 have hel:=he.elems (prog:=prog) (w:=w) hL;have h6:=(j0 L hL).2.1;have hbd:es.size<scanBound:=by rw[he.size];unfold scanBound;omega
 have scan:∀{Q':ScanMet->Shared->Prop},Q' (match es.toList.findIdx? (fun e=>(intKind prog w).is ((x:Nat):Int) e.2)with | some j=>.found (0+j) | none=>.absent) s1->wpAny (model prog w) A (setScan S (.int ((x:Nat):Int) tk) ((x:Nat):Int) true es) Q' E s1:=by
  intro Q' hq;have:=wpAny_setScan_of (knd:=intKind prog w) (adding:=true) (x:=.int ((x:Nat):Int) tk) (k:=((x:Nat):Int)) (A:=A) (E:=E) (Q:=Q') (intKind_is _ _ _ _) ho1 rfl hf hel hq
  rwa [nc hx]at this
 unfold setAddHashed setAddHashedIn;refine Jr (uH (JF ho1 rfl hf ?_));dsimp only;rw[byScan_of (knd:=intKind prog w) rfl hbd hel];simp only[↓reduceIte];unfold setAddByScan;refine uH ?_;refine uH (wpAny_rule ?_);refine uH (scan ?_);cases hr:List.findIdx? (fun e=>(intKind prog w).is ((x:Nat):Int) e.2) es.toList with
 | some j =>
  dsimp only;obtain⟨hj,hpj,_⟩:=List.findIdx?_eq_some_iff_getElem.mp hr;obtain⟨y,hy,tk',ee⟩:=he.mem (Ii hj);have hxy:x=y:=by
   rw[ee]at hpj;have q:(intKind prog w).is ((x:Nat):Int) (.int ((y:Nat):Int) tk')=true:=hpj;have:=(intKind prog w).inj _ _ _ q (intKind_is _ _ _ _);omega
  subst hxy;refine wa (wa ?_);have:=h false s.heap s1.toks (Heap.SameBut.refl S s.heap) (by rw[Ij hy];exact hP);have e:s1={ s with heap:=s.heap,toks:=s1.toks }:=by rw[←hs1];cases s1;simp only at e1;rw[e1]
  rw[e];exact this
 | none =>
  dsimp only;have hn:x∉L:=fun hm=>by
   obtain⟨tk',hm'⟩:=he.of hm;have:=List.findIdx?_eq_none_iff.mp hr _ hm';have q:(intKind prog w).is ((x:Nat):Int) (.int ((x:Nat):Int) tk')=true:=intKind_is _ _ _ _;have this':(intKind prog w).is ((x:Nat):Int) (.int ((x:Nat):Int) tk')=false:=this;rw[q]at this';cases this'
  obtain⟨f1,f2⟩:=F1 led (dP led) L hL x (ID.mpr hx) hn;obtain⟨f3,f4⟩:=G3 led (dP led) L hL x (ID.mpr hx) hn;have hins:=(j0 L hL).2.2.2 x (ID.mpr hx) hn;have hin2:=he.ins x tk;have hsz2:=hin2.size;have hln:(ins L x).length=L.length+1:=by unfold ins;simp only[wW,Ih,Iu,Jc];omega
  have hlay:layNew (tb led L) es ((x:Nat):Int) (.int ((x:Nat):Int) tk)=(SetTable.insertAt es (pos L x) (ent x tk),tp led L x,false,false):=by
   unfold layNew;rw[f1];dsimp only;rw[f2];dsimp only;have e2:(tp led L x).fits (SetTable.insertAt es (pos L x) (ent x tk)).size=true:=by rw[hsz2];exact f3
   show(SetTable.insertAt es (pos L x) (ent x tk),(tp led L x).orStandIn (SetTable.insertAt es (pos L x) (ent x tk)).size,false,!(tp led L x).fits (SetTable.insertAt es (pos L x) (ent x tk)).size)=_;unfold SetTable.orStandIn;rw[Ij e2,e2];rfl
  rw[hlay];dsimp only;refine uH (wa ?_);have hpl:(tp led L x).plain=true:=rfl;rw[hpl];simp only[↓reduceIte];refine uH ?_;rw[hashByValue_scannable 8 (x:=.int ((x:Nat):Int) tk) rfl];refine wa ?_;have hpk:plainKind (.int ((x:Nat):Int) tk)=true:=rfl;rw[hpk];simp only[↓reduceIte];have hz:(SetTable.insertAt es (pos L x) (ent x tk)).size≤sizeLine:=by rw[hsz2,hln,IT];omega
  refine uH (wpAny_storeSet_of ho1 rfl ?_ hz);have hg:(s1.heap.update S (Obj.putSet (SetTable.insertAt es (pos L x) (ent x tk)) (tp led L x))).get? S=some { cls:=.type "set",dict:=none,data:=.set (SetTable.insertAt es (pos L x) (ent x tk)) (ep+1) (tp led L x) } :=
   IY _ ho1 rfl
  have sb1:Heap.SameBut S s.heap (s1.heap.update S (Obj.putSet (SetTable.insertAt es (pos L x) (ent x tk)) (tp led L x))):=by rw[e1];exact Jb ..
  by_cases h4:L.length=4
  ·rw[Ij h4]at f4;rw[f4.1];simp only[Bool.not_false,Bool.and_self,↓reduceIte];have hw:SetTable.grown (SetTable.insertAt es (pos L x) (ent x tk)).size=20:=by rw[hsz2,hln,h4];rfl
   have hmp:(SetTable.insertAt es (pos L x) (ent x tk)).map (·.1)=((ins L x).map Int.ofNat).toArray:=by
    obtain⟨tks,q1,q2⟩:=hin2;apply Array.toList_inj.mp;rw[Array.toList_map,q2];have gen:∀(L:List Nat) (tks:List Tok),tks.length=L.length->(List.zipWith ent L tks).map (·.1)=L.map Int.ofNat:=by
     intro L
     induction L with
     | nil=>intro tks _;rfl
     | cons a L ih =>
      intro tks hl;cases tks with
      | nil=>simp at hl
      | cons b tks=>simp only[List.zipWith_cons_cons,yd,ih tks (by simpa using hl)];rfl
    exact gen _ _ q1
   have h5:(SetTable.insertAt es (pos L x) (ent x tk)).size=5:=by rw[hsz2,hln,h4]
   have hrl:relayAll (tp led L x) (SetTable.insertAt es (pos L x) (ent x tk)) (SetTable.grown (SetTable.insertAt es (pos L x) (ent x tk)).size)=(SetTable.insertAt es (pos L x) (ent x tk),tb led (ins L x),false):=by
    unfold relayAll;rw[hw,hmp,f4.2];dsimp only;rw[pf _ h5];have c1:coversAll #[0,1,2,3,4] (SetTable.insertAt es (pos L x) (ent x tk)).size=true:=by rw[h5];decide +kernel
    have c2:(tb led (ins L x)).fits (SetTable.insertAt es (pos L x) (ent x tk)).size=true:=by rw[hsz2];exact(mq _ hins led (dP led)).1
    rw[c1,c2];rfl
   rw[hrl];dsimp only;refine uH (wa ?_);refine uH (wpAny_storeSet_of hg rfl ?_ hz);have hg3:=IY (Obj.putSet (SetTable.insertAt es (pos L x) (ent x tk)) (tb led (ins L x))) hg rfl;refine wa (wa ?_);rw[hs1];refine h true _ _ (sb1.trans (Jb ..)) ?_;rw[CI hn];exact⟨hins,_,_,hg3,hin2⟩
  ·rw[CI h4]at f4;rw[f4.1];simp only[Bool.not_false,Bool.and_false,JS,↓reduceIte];refine wa (wa ?_);rw[hs1];refine h true _ _ sb1 ?_;rw[CI hn];rw[f4.2]at hg;rw[f4.2];exact⟨hins,_,_,hg,hin2⟩
end
end SI
namespace SI
theorem slot_next:Slot "set_iterator" "__next__" "set_iterator.__next__":=.of (owner:="set_iterator") (n:="__next__") (by rw[JL,Ju];kernel_rfl) (by decide +kernel) (by decide +kernel) (by decide +kernel) (by first | exact .inl (by decide +kernel) | exact .inr (by decide +kernel)) (by rw[JH];kernel_rfl)
theorem qc:Slot "set_iterator" "__iter__" "set_iterator.__iter__":=.of (owner:="set_iterator") (n:="__iter__") (by rw[JL,Ju];kernel_rfl) (by decide +kernel) (by decide +kernel) (by decide +kernel) (by first | exact .inl (by decide +kernel) | exact .inr (by decide +kernel)) (by rw[JH];kernel_rfl)
theorem entry_next:entryFor table "set_iterator.__next__"=some Builtin.«set_iterator.__next__»:=entryFor_of_tree (by kernel_rfl)
theorem t9:entryFor table "set_iterator.__iter__"=some Builtin.«dict_keyiterator.__iter__»:=entryFor_alias (id':="dict_keyiterator.__iter__") (by kernel_rfl) rfl (by decide +kernel) (by kernel_rfl)
theorem ou:entryFor table "set.__iter__"=some Builtin.«frozenset.__iter__»:=entryFor_alias (id':="frozenset.__iter__") (by kernel_rfl) rfl (by decide +kernel) (by kernel_rfl)
theorem jE{α:Type}:∀(l:List α) (i:Nat) (h:i<l.length),(l[i]::l.eraseIdx i).Perm l
 | x::l,0,_=>JR _
 | x::l,i+1,h=>by
  have ih:=jE l i (by simpa using h);have h':i<l.length:=by simpa using h
  show(l[i]::x::l.eraseIdx i).Perm (x::l);exact(List.Perm.swap _ _ _).trans (ih.cons x)
theorem args_next(a:Value):argsOk "set_iterator.__next__" ⟨[a],[]⟩:=by unfold argsOk;kernel_rfl
theorem x8(a:Value):argsOk "set_iterator.__iter__" ⟨[a],[]⟩:=by unfold argsOk;kernel_rfl
def oC(h:Heap)(it S:Addr)(k i n ep:Nat):Prop:=h.get? it=some { cls:=.type "set_iterator",data:=.fields #[.int k 0,.int i 0,.ref S,.int n 0,.int ep 0] }
theorem oC.ty{s:Shared}{it S:Addr}{k i n ep:Nat}(h:oC s.heap it S k i n ep):s.TypeIs (.ref it) "set_iterator":=⟨_,h,rfl⟩
theorem fH{α:Type}(next:Nat->Nat):∀(f k:Nat) (l:List α) (out:Array α),f=l.length->(pickOrder.go next f k l out).toList.Perm (out.toList++l)
 | 0,k,l,out,h=>by
  have:l=[]:=IW.mp h.symm;subst this;show out.toList.Perm _;rw[IP]
 | f+1,k,l,out,h=>by
  have hlt:next k % l.length<l.length:=Nat.mod_lt _ (by omega)
  unfold pickOrder.go;rw[sH hlt];dsimp only;refine(fH next f (k+1) _ _ (by rw[List.length_eraseIdx_of_lt hlt];omega)).trans ?_;rw[Array.toList_push,JI];refine List.Perm.append_left _ ?_;exact jE l _ hlt
def walk(w:World)(S:Addr)(es:Array (Int×Value))(ep:Nat):Array (Int×Value):=if w.params.followText "set-order"=true then pickOrder (w.params.setOrder S ep) es else es
theorem kr(w:World)(S:Addr)(es:Array (Int×Value))(ep:Nat):(walk w S es ep).toList.Perm es.toList:=by
 unfold walk;split
 ·have:=fH (w.params.setOrder S ep) es.size 0 es.toList #[] (by simp);simpa[pickOrder]using this
 ·exact JR _
theorem fq(w:World)(S:Addr)(es:Array (Int×Value))(ep:Nat):(walk w S es ep).size=es.size:=by
 have:=(kr w S es ep).length_eq;simpa using this
def slotAt(w:World)(L:List Nat)(i:Nat):Nat:=if w.params.followText "set-order"=true then 0 else if i=0 then 0 else L.getD (i - 1) 0+1
section
variable {prog:Program}{w:World}{A:Around}{E:Value->Shared->Prop}{s:Shared}
def bH(w:World):Bool:=!w.params.followText "set-order"
theorem below_at{w:World}{L:List Nat}(hL:L∈subs)(hb:¬w.params.followText "set-order"=true){i:Nat}(hi:i≤L.length):SetTable.below L.toArray (slotAt w L i)=i:=by
 unfold slotAt;rw[CI hb];obtain⟨_,a,b⟩:=mq L hL true (by simp);cases i with
 | zero=>exact a
 | succ i =>
  rw[CI (by omega)];exact b i (ID.mpr (by omega))
theorem vy{S:Addr}{L:List Nat}{es:Array (Int×Value)}{ep:Nat}{Q:Value->Shared->Prop}(hL:L∈subs)(ho:s.heap.get? S=some { cls:=.type "set",dict:=none,data:=.set es ep (tb (bH w) L) })(he:dn es L)
  (hQ:Q (.ref s.heap.objs.size) { s with heap:=s.heap.push { cls:=.type "set_iterator",data:=.fields #[.int 0 0,.int 0 0,.ref S,.int es.size 0,.int ep 0] } }):wpAny (model prog w) A (pyIter (.ref S)) Q E s:=by
 have ty:s.TypeIs (.ref S) "set":=⟨_,ho,rfl⟩;have hf:(tb (bH w) L).fits es.size=true:=by rw[he.size];exact(mq L hL _ (dP _)).1
 refine wpAny_pyIter_slot ty F.slot_set_iter (IU F.slot_set_iter ty ou ?_ (F.args_set_iter_1 _));unfold Builtin.«frozenset.__iter__» Builtin.Frozenset.slot0;refine uH (uH (wa (wa ?_)));unfold Builtin.Frozenset.sizeOf;refine uH (uH (wpAny_setEntries_of ho rfl hf (wa ?_)));unfold setDrawn setsByText;refine uH (uH (JF ho rfl hf ?_));dsimp only;refine uH (uH (wpAny_askSetting (wa (wa ?_))));refine Jo (fun hx=>?_) (fun _=>uH (wa ?_))
 ·exfalso;have hx':(!(w.params.followText "set-order")&&(!(tb (bH w) L).plain&&decide (es.size>1)))=true:=hx;have hp:(tb (bH w) L).plain=true:=rfl;rw[hp]at hx';simp at hx'
 ·refine uH (wpAny_setEpoch_of ho rfl hf ?_);simp only[newFields];refine uH (IF (wa ⟨_,rfl,"set_iterator",_,⟨_,yf _ rfl,rfl⟩,slot_next.lookup,?_⟩));exact hQ
theorem nr{S:Addr}{L:List Nat}{es:Array (Int×Value)}{ep i:Nat}{Q':Option (Value×Nat)->Shared->Prop}(hL:L∈subs)(ho:s.heap.get? S=some { cls:=.type "set",dict:=none,data:=.set es ep (tb (bH w) L) })(he:dn es L)(hi:i≤es.size)
  (hq:Q' (((walk w S es ep)[i]?).map fun e=>(e.2,slotAt w L (i+1))) s):wpAny (model prog w) A (setNext S (slotAt w L i) i ep) Q' E s:=by
 have hf:(tb (bH w) L).fits es.size=true:=by rw[he.size];exact(mq L hL _ (dP _)).1
 unfold setNext;refine uH (JF ho rfl hf ?_);dsimp only;unfold setsByText;refine uH (uH (wpAny_askSetting (wa ?_)));refine Jo (fun hb=>?_) (fun hb=>?_)
 ·have hb':w.params.followText "set-order"=true:=hb;refine Jo (fun hx=>absurd hx (by simp)) (fun _=>?_);unfold setWalk setsByText;refine uH (uH (JF ho rfl hf ?_));dsimp only;refine uH (uH (wpAny_askSetting (wa ?_)));refine Jo (fun _=>?_) (fun hc=>absurd hb hc);refine uH (wpAny_askSetting (wa (wa ?_)));unfold walk slotAt at hq;rw[Ij hb',Ij hb']at hq;unfold slotAt;rw[Ij hb'];exact hq
 ·have hb':¬w.params.followText "set-order"=true:=hb;refine Jo (fun hx=>?_) (fun _=>?_)
  ·exfalso;have hx':(!(tb (bH w) L).plain&&decide (es.size>1))=true:=hx;have hp:(tb (bH w) L).plain=true:=rfl;rw[hp]at hx';simp at hx'
  ·have hled:bH w=true:=by unfold bH;simpa using hb'
   refine uH ?_;refine(show wpAny (model prog w) A (if (!(tb (bH w) L).led&&!es.isEmpty)=true then unsupported "set:maker-not-led" else pure ()) _ E s from ?_);refine Jo (fun hx=>?_) (fun _=>wa (wa ?_))
   ·exfalso;have hl2:(tb (bH w) L).led=true:=hled;rw[hl2]at hx;simp at hx
   ·have hbl:=below_at (w:=w) hL hb' (i:=i) (by rw[←he.size];exact hi);have hpl:(tb (bH w) L).place=L.toArray:=rfl;rw[hpl,hbl];unfold walk at hq;rw[CI hb']at hq;by_cases hlt:i<es.size
    ·have hlt2:i<L.length:=by rw[←he.size];exact hlt
     rw[Ig hlt]at hq ⊢;have e2:L.toArray[i]?=some L[i]:=by simp[hlt2]
     rw[e2];unfold slotAt at hq;rw[CI hb',CI (by omega),Nat.add_sub_cancel,wJ,sH hlt2]at hq;exact hq
    ·rw[JG (by omega)]at hq ⊢;exact hq
theorem next_item{it S:Addr}{L:List Nat}{es:Array (Int×Value)}{ep i:Nat}{e:Int×Value}{Q:Option Value->Shared->Prop}(hL:L∈subs)(ho:s.heap.get? S=some { cls:=.type "set",dict:=none,data:=.set es ep (tb (bH w) L) })(he:dn es L)
  (hit:oC s.heap it S (slotAt w L i) i es.size ep) (hx:(walk w S es ep)[i]?=some e)
  (hQ:∀h',oC h' it S (slotAt w L (i+1)) (i+1) es.size ep->Heap.SameBut it s.heap h'->Q (some e.2) { s with heap:=h' }):wpAny (model prog w) A (pyNext (.ref it)) Q E s:=by
 have hf:(tb (bH w) L).fits es.size=true:=by rw[he.size];exact(mq L hL _ (dP _)).1
 have hi:i<es.size:=by
  rw[←fq w S es ep];exact(Array.getElem?_eq_some_iff.mp hx).1
 unfold pyNext;refine uH (wpAny_attempt (Jp (name:=Str.ofString "__next__") hit.ty slot_next (IU slot_next hit.ty entry_next ?_ (args_next _))));unfold Builtin.«set_iterator.__next__»;refine uH (wa ?_);refine uH (wpAny_fieldsOf hit rfl ?_);dsimp only;refine uH (wpAny_setEntries_of ho rfl hf ?_);rw[CI (by simp)];simp only[Je];refine uH (nr hL ho he (by omega) ?_);rw[hx];dsimp only[Option.map_some];refine uH (JT hit rfl (by simp) ?_);have h1:=IY (Obj.mapFields (·.setIfInBounds 0 (rawInt ((slotAt w L (i+1):Nat):Int)))) hit rfl;refine uH (JT h1 rfl (by simp[Obj.mapFields]) ?_);have h2:=IY (Obj.mapFields (·.setIfInBounds 1 (rawInt ((i:Nat)+1:Int)))) h1 rfl;refine wa ⟨_,rfl,wa (hQ _ ?_ ((Jb ..).trans (Jb ..)))⟩;exact h2
theorem next_end{it S:Addr}{L:List Nat}{es:Array (Int×Value)}{ep:Nat}{Q:Option Value->Shared->Prop}(hh:A.handled=none)(hL:L∈subs)(ho:s.heap.get? S=some { cls:=.type "set",dict:=none,data:=.set es ep (tb (bH w) L) })(he:dn es L)
  (hit:oC s.heap it S (slotAt w L es.size) es.size es.size ep) (hQ:∀h',Heap.ExtBut it s.heap h'->Q none { s with heap:=h' }):wpAny (model prog w) A (pyNext (.ref it)) Q E s:=by
 have hf:(tb (bH w) L).fits es.size=true:=by rw[he.size];exact(mq L hL _ (dP _)).1
 unfold pyNext;refine uH (wpAny_attempt (Jp (name:=Str.ofString "__next__") hit.ty slot_next (IU slot_next hit.ty entry_next ?_ (args_next _))));unfold Builtin.«set_iterator.__next__»;refine uH (wa ?_);refine uH (wpAny_fieldsOf hit rfl ?_);dsimp only;refine uH (wpAny_setEntries_of ho rfl hf ?_);rw[CI (by simp)];simp only[Je];refine uH (nr hL ho he (yi _) ?_);rw[JG (by rw[fq];exact yi _)];dsimp only[Option.map_none];refine uH (JT hit rfl (by simp) ?_);refine uH ?_;simp only[newExc,newTuple];refine uH (IF (uH (m:=firstArgMember _ _) (JO (a:=Value.none) (by first | rfl |(simp only[firstArgMember];rfl)) (IF ?_ (by size_fits)))) (by size_fits));simp only[raiseNew];refine uH (wpAny_handled ?_);have hh1:A.in1.handled=none:=hh;rw[hh1];refine uH (wa (wpAny_throw ?_));refine uH (wpAny_isInstance (T:="StopIteration") (b:=true) ⟨_,yf _ rfl,rfl⟩ isSubtype_stop (wa (hQ _ (((Jb ..).extBut.push _).push _))))
theorem sD(hh:A.handled=none){I S:Addr}{L:List Nat}{es:Array (Int×Value)}{ep:Nat}(hne:S≠I)(hL:L∈subs)(he:dn es L) :
  Walks prog w A I [I,S] [I] es.size (fun i v=>∃e,(walk w S es ep)[i]?=some e/\v=e.2) (fun i h=>oC h I S (slotAt w L i) i es.size ep/\h.get? S=some { cls:=.type "set",dict:=none,data:=.set es ep (tb (bH w) L) }) where
 sub:=fun b hb=>by simp at hb;simp[hb]
 frame:=fun _ _ _ st hk=>⟨hk I (by simp) _ st.1,hk S (by simp) _ st.2⟩
 item:=fun i s Q E hi st hQ=>by
  have hw:i<(walk w S es ep).size:=by rw[fq];exact hi
  have hx:(walk w S es ep)[i]?=some (walk w S es ep)[i]:=Ig hw;refine next_item hL st.2 he st.1 hx fun h' it' sb=>?_;exact hQ _ h' s.toks ⟨_,hx,rfl⟩ ⟨it',sb.extBut S _ hne st.2⟩ fun b o hb e=>sb.extBut b o (fun h=>hb (by simp[h])) e
 done:=fun s Q E st hQ=>next_end hh hL st.2 he st.1 fun h' eb=>hQ h' s.toks fun b o hb e=>eb b o (fun h=>hb (by simp[h])) e
 self:=fun i s Q E st hQ=>by
  refine wpAny_pyIter_slot st.1.ty qc (IU qc st.1.ty t9 ?_ (x8 _));show wpAny _ _ (ret (.ref I)) _ _ s;exact wa ⟨_,rfl,"set_iterator",_,st.1.ty,slot_next.lookup,hQ⟩
def add(L:List Nat)(x:Nat):List Nat:=if x∈L then L else ins L x
def lof(ns:List Nat):List Nat:=ns.foldl add []
theorem zG{L:List Nat}{x y:Nat}:y∈ins L x↔y=x∨y∈L:=by
 unfold ins;rw[zi,Ic];have:y∈L↔y∈L.take (pos L x)∨y∈L.drop (pos L x):=by
  rw[←zi,List.take_append_drop]
 rw[this];constructor
 ·rintro(h | h | h)
  ·exact .inr (.inl h)
  ·exact .inl h
  ·exact .inr (.inr h)
 ·rintro(h | h | h)
  ·exact .inr (.inl h)
  ·exact .inl h
  ·exact .inr (.inr h)
theorem yY{L:List Nat}{x y:Nat}:y∈add L x↔y=x∨y∈L:=by
 unfold add;split
 ·rename_i h;exact⟨.inr,fun q=>q.elim (fun e=>e▸h) id⟩
 ·exact zG
theorem vV{L:List Nat}{x:Nat}(hL:L∈subs)(hx:x<6):add L x∈subs:=by
 unfold add;split
 ·exact hL
 ·rename_i h;exact(j0 L hL).2.2.2 x (ID.mpr hx) h
theorem mY{y:Nat}:∀(ns L:List Nat),y∈ns.foldl add L↔y∈ns∨y∈L
 | [],L=>by simp
 | n::ns,L=>by
  rw[List.foldl_cons,mY ns,yY,Ic];constructor
  ·rintro(h | h | h)
   ·exact .inl (.inr h)
   ·exact .inl (.inl h)
   ·exact .inr h
  ·rintro((h | h) | h)
   ·exact .inr (.inl h)
   ·exact .inl h
   ·exact .inr (.inr h)
theorem kh:∀(ns L:List Nat),L∈subs->(∀n∈ns,n<6)->ns.foldl add L∈subs
 | [],L,h,_=>h
 | n::ns,L,h,hn=>kh ns _ (vV h (hn n xP)) fun m hm=>hn m (Bo _ hm)
theorem mM:[]∈subs:=by decide +kernel
theorem m7{ns:List Nat}(h:∀n∈ns,n<6):lof ns∈subs:=kh ns [] mM h
theorem qw{ns:List Nat}{y:Nat}:y∈lof ns↔y∈ns:=by
 unfold lof;rw[mY];simp
theorem wA{ns:List Nat}{i:Nat}(h:i<ns.length):lof (ns.take (i+1))=add (lof (ns.take i)) ns[i]:=by
 unfold lof;rw[IG,sH h,List.foldl_append];rfl
end
end SI
namespace SI
section
variable {prog:Program}{w:World}{A:Around}{E:Value->Shared->Prop}{s:Shared}
def vC(vs:List Value)(ns:List Nat):Prop:=vs.length=ns.length/\∀(i:Nat) (v:Value),vs[i]?=some v->∃tk,v=Value.int ((ns.getD i 0:Nat):Int) tk
theorem DW{S I l:Addr}{vs:List Value}{ns:List Nat}{led:Bool}{R:Result->Shared->Prop}(hh:A.in1.handled=none)(hT:vC vs ns)(hin:∀n∈ns,n<6)(hSI:S≠I)(hSl:S≠l)(hlI:l≠I) :
  ∀(k i:Nat) (s:Shared),ns.length - i=k->i≤ns.length->s.heap.IsListIter I l i->s.heap.IsList l vs.toArray->j8 s.heap S led (lof (ns.take i)) ->
   (∀h' tk,(∀b o,b≠S->b≠I->s.heap.get? b=some o->h'.get? b=some o)->j8 h' S led (lof ns)->R (.ok (.ret .none)) { s with heap:=h',toks:=tk }) ->
   codeAny (model prog w) A (.builtin "set.update.loop" ⟨[.ref S,.ref I],[]⟩) R s:=by
 intro k
 induction k with
 | zero =>
  intro i s hk hi hit hl hP hR;have e:i=ns.length:=by omega
  subst e;rw[Iy]at hP;refine I0 F.entry_set_update_loop ?_;rw[IQ JC _];show wpAny _ A.in1 (pyNext (.ref I) >>= _) _ _ s;refine uH (wpAny_pyNext_list_end hh hit hl (by simp[hT.1]) fun h' eb=>?_);show wpAny _ A.in1 (ret Value.none) _ _ _;refine wa (hR h' s.toks (fun b o _ hb e=>eb b o hb e) ?_);obtain⟨hL,es,ep,ho,r⟩:=hP.is;exact⟨hL,es,ep,eb S _ hSI ho,r⟩
 | succ k ih =>
  intro i s hk hi hit hl hP hR;have hlt:i<ns.length:=by omega
  have hvl:i<vs.length:=by rw[hT.1];exact hlt
  have hvi:vs[i]?=some vs[i]:=sH hvl;obtain⟨tk,ev⟩:=hT.2 i _ hvi;have en:ns.getD i 0=ns[i]:=by rw[wJ,sH hlt];rfl
  rw[en]at ev;refine I0 F.entry_set_update_loop ?_;rw[IQ JC _];show wpAny _ A.in1 (pyNext (.ref I) >>= _) _ _ s;refine uH (wpAny_pyNext_list_item hit hl (x:=Value.int ((ns[i]:Nat):Int) tk) (by rw[←ev];simp) fun h1 hit1 sb1=>?_);have k1:∀b o,b≠I->s.heap.get? b=some o->h1.get? b=some o:=fun b o hb e=>sb1.extBut b o hb e;have hP1:j8 h1 S led (lof (ns.take i)):=by
   obtain⟨hL,es,epo,ho,r⟩:=hP.is;exact⟨hL,es,epo,k1 S _ hSI ho,r⟩
  show wpAny _ A.in1 (holding [Value.int ((ns[i]:Nat):Int) tk] (setAdd S (Value.int ((ns[i]:Nat):Int) tk)) >>= _) _ _ _;refine uH (Jr (oK (A:=A.in1) hP1 (hin _ (Ii hlt)) fun b h2 tk2 sb2 hP2=>?_));have k2:∀b o,b≠S->h1.get? b=some o->h2.get? b=some o:=fun b o hb e=>sb2.extBut b o hb e;have hP3:j8 h2 S led (lof (ns.take (i+1))):=by rw[wA hlt];exact hP2
  refine wa ⟨JN JC _,ih (i+1) { s with heap:=h2,toks:=tk2 } (by omega) (by omega) (hit1.extBut (fun b o hb e=>k2 b o hb e) (Ne.symm hSI)) ?_ hP3 ?_⟩
  ·exact(hl.extBut (fun b o hb e=>k1 b o hb e) hlI).extBut (fun b o hb e=>k2 b o hb e) (Ne.symm hSl)
  ·intro h3 tk3 kp hP4;exact hR h3 tk3 (fun b o hb hb' e=>kp b o hb hb' (k2 b o hb (k1 b o hb' e))) hP4
theorem xD(a:Value){Q₁:Value->Shared->Prop}(h:Q₁ (.ref s.heap.objs.size) { s with heap:=s.heap.push { cls:=.type "set",dict:=none,data:=.set #[] 0 (.fresh 0 0 (bH w)) } }) :
  codeAny (model prog w) A (.call (.builtin "set.__new__") ⟨[.type "set",a],[]⟩) (wants Q₁ E) s:=by
 refine codeAny_of_tree ?_;show wpAny (model prog w) A.in1 (do checkBuiltinCall "set.__new__" ⟨[.type "set",a],[]⟩;again (.builtin "set.__new__" ⟨[.type "set",a],[]⟩)) _ _ _;refine uH (JO (F.newCall_set_1 a) (wa ⟨JN F.plain_set_new _,?_⟩));refine I0 F.entry_set_new ?_;rw[IQ F.plain_set_new _];unfold Builtin.«set.__new__»;unfold Builtin.Frozenset.newClass;have sub1:=sub_set_self;obtain⟨hp,g,d,tk,os⟩:=s;dsimp only
 wp_walk
 refine wpAny_askSetting (wa ?_);dsimp only;simp only[newObj];refine uH (wpAny_alloc (wa (wa ?_)));exact h
set_option maxHeartbeats 4000000 in
theorem j4{l:Addr}{vs:List Value}{ns:List Nat}{Q:Value->Shared->Prop}(hh:A.handled=none)(hl:s.heap.IsList l vs.toArray)(hT:vC vs ns)(hin:∀n∈ns,n<6)
  (h:∀h' tk,(∀b o,b<s.heap.objs.size->s.heap.get? b=some o->h'.get? b=some o)->j8 h' s.heap.objs.size (bH w) (lof ns)->Q (.ref s.heap.objs.size) { s with heap:=h',toks:=tk }) :
  wpAny (model prog w) A (call (.type "set") [.ref l]) Q E s:=by
 obtain⟨c0,tl0,mro0⟩:=F.called_set.mro;have made0:=F.called_set.made;have sub0:=F.called_set.sub;have nt0:=F.called_set.notType;have cc0:=F.called_set.canCreate;have tc0:=F.typeCall_set_1 (.ref l);refine wpAny_call (codeAny_of_tree ?_);show wpAny (model prog w) _ (callAny (.type "set") _) _ _ _;refine wa ⟨Code.quiet_builtin _ (by decide +kernel),I0 F.entry_type_call ?_⟩;rw[Around.under_plain (weight_type_call_type "set" [.ref l] []) rfl]
 repeat (any_goals (first | assumption | wp_step))
 refine JY (xD (.ref l) (E:=E) (Q₁:=fun obj s1=>obj=.ref s.heap.objs.size /\
  s1={ s with heap:=s.heap.push { cls:=.type "set",dict:=none,data:=.set #[] 0 (.fresh 0 0 (bH w)) } }) ⟨rfl,rfl⟩) fun r s1 hr=>?_
 cases r with
 | error e=>exact hr
 | ok fl =>
  cases fl with
  | ret obj =>
   obtain⟨rfl,rfl⟩:=hr;generalize hH:s.heap.push { cls:=.type "set",dict:=none,data:=.set #[] 0 (.fresh 0 0 (bH w)) }=H1;have hS:H1.get? s.heap.objs.size=some { cls:=.type "set",dict:=none,data:=.set #[] 0 (.fresh 0 0 (bH w)) }:=by rw[←hH];exact yf _ rfl
   have old:∀b o,s.heap.get? b=some o->H1.get? b=some o:=fun b o e=>by rw[←hH];exact va _ e
   have hsz:H1.objs.size=s.heap.objs.size+1:=by rw[←hH,Jz]
   have tyS:Shared.TypeIs { s with heap:=H1 } (.ref s.heap.objs.size) "set":=⟨_,hS,rfl⟩;have li0:=F.called_set.init.lookup;have bi0:=F.called_set.init.bind (.ref s.heap.objs.size)
   repeat (any_goals (first | assumption | wp_step))
   refine JY (codeAny_call_builtin (R:=wants (fun r s2=>r=.none/\∃h' tk,s2={ s with heap:=h',toks:=tk }/\j8 h' s.heap.objs.size (bH w) (lof ns) /\
    (∀b o,b<s.heap.objs.size->s.heap.get? b=some o->h'.get? b=some o)) E) F.called_set.init.plain F.entry_set_init (check_set_init_1 tyS ?_)) fun r2 s2 hr2=>?_
   ·obtain⟨ol,hol,hcl,nl,hdl⟩:=hl;obtain⟨oc,od,oda,osl⟩:=ol;simp only at hcl hdl;subst hcl;subst hdl;have hol1:H1.get? l=some { cls:=.type "list",dict:=od,data:=.seq vs.toArray nl,slots:=osl }:=old _ _ hol;have sls:=F.sub_list_set;have slf:=F.sub_list_frozenset;have nld:(Value.type "list"==Value.type "dict")=false:=by decide
    have hl1:H1.IsList l vs.toArray:=⟨_,hol1,rfl,nl,rfl⟩;have llt:l<s.heap.objs.size:=xV hol;unfold Builtin.«set.__init__» noKeywords Builtin.Frozenset.updateFrom;generalize hPI:pyIter=PI
    wp_walk
    subst hPI;refine JZ hl1 ?_;refine uH (wpAny_runValue ?_);generalize hH2:H1.push { cls:=.type "list_iterator",data:=.fields #[.ref l,.int 0 0] }=H2;have old2:∀b o,H1.get? b=some o->H2.get? b=some o:=fun b o e=>by rw[←hH2];exact va _ e
    refine DW (l:=l) (ns:=ns) (vs:=vs) (led:=bH w) (by simp[hh]) hT hin (by show s.heap.objs.size≠H1.objs.size;rw[hsz];exact B6 (JP _)) (JE llt) (by show l≠H1.objs.size;rw[hsz];exact B6 (Jx llt)) ns.length 0 _ (by omega) (Jk _) ?_ ?_ ?_ ?_
    ·rw[←hH2];exact⟨_,yf _ rfl,rfl,rfl⟩
    ·exact⟨_,old2 _ _ hol1,rfl,nl,rfl⟩
    ·refine⟨mM,#[],0,old2 _ _ hS,[],rfl,rfl⟩
    ·intro h' tk kp hP;show wpAny _ _ (pure ()) _ _ _;refine wa ?_;show wpAny _ _ (ret Value.none) _ _ _;refine wa ⟨rfl,h',tk,rfl,hP,fun b o hb e=>?_⟩;refine kp b o (B6 hb) ?_ (old2 _ _ (old _ _ e));show b≠H1.objs.size;rw[hsz];exact B6 (Jx hb)
   ·cases r2 with
    | error e=>exact hr2
    | ok f2 =>
     cases f2 with
     | ret r =>
      obtain⟨rfl,h',tk,rfl,hP,hk⟩:=hr2
      repeat (any_goals (first | assumption | wp_step))
      exact h _ _ hk hP
     | _=>exact hr2.elim
  | _=>exact hr.elim
theorem vk{r:Addr}{Q:Bool->Shared->Prop}(hT:s.TypeIs (.ref r) "set")(h:Q false s):wpAny (model prog w) A (Builtin.List.listLengthHint (.ref r)) Q E s:=by
 unfold Builtin.List.listLengthHint;refine uH (JX hT PySem.F.slot_set_len.lookup ?_);generalize hid:("set.__len__":String)=id0
 wp_delta
 rw[show splitId id0=some ("set","__len__")from by subst hid;decide +kernel];subst hid;refine uH (wpAny_isInstance (T:="set") (b:=true) hT (by rw[JH];kernel_rfl) (Jo (fun hab=>absurd hab (by decide)) (fun _=>Jo (fun _=>?_) (fun hab=>absurd (by decide +kernel) hab))));exact uH (wpAny_typeOf hT (wa h))
theorem xk{S:Addr}{L:List Nat}{es:Array (Int×Value)}{ep:Nat}(hL:L∈subs)(he:dn es L) :
  PySem.W.KdlSrc prog w "set" S S es.size (fun i v=>∃e,(walk w S es ep)[i]?=some e/\v=e.2) (fun h=>h.get? S=some { cls:=.type "set",dict:=none,data:=.set es ep (tb (bH w) L) }) where
 type:=fun s ho=>⟨_,ho,rfl⟩
 there:=fun h ho=>⟨xV ho,xV ho⟩
 keep:=fun h h' ho k=>k S (.inl rfl) _ ho
 notList:=by decide
 notTuple:=by decide
 hint:=fun A E s Q ho q=>vk ⟨_,ho,rfl⟩ q
 iter:=fun A s hh ho=>⟨_,_,fun E Q q=>vy hL ho he q,sD hh (B6 (xV ho)) hL he,⟨by
  show oC _ _ _ (slotAt w L 0) 0 _ _;have:slotAt w L 0=0:=by unfold slotAt;split<;>rfl
  rw[this];exact yf _ rfl,va _ ho⟩⟩
theorem mX{S:Addr}{L:List Nat}{es:Array (Int×Value)}{ep:Nat}{Q:List Value->Shared->Prop}(hh:A.handled=none)(hL:L∈subs)(he:dn es L)(ho:s.heap.get? S=some { cls:=.type "set",dict:=none,data:=.set es ep (tb (bH w) L) })
  (h:∀h' tk,s.heap.objs.size<h'.objs.size->(∀b o,s.heap.get? b=some o->h'.get? b=some o)->Q ((walk w S es ep).toList.map (·.2)) { s with heap:=h',toks:=tk }):wpAny (model prog w) A (collect (.ref S)) Q E s:=by
 have hlt:S<s.heap.objs.size:=xV ho;have h6:=(j0 L hL).2.1;generalize hN:s.heap.objs.size=N;have hNS:N≠S:=by rw[←hN];exact JE hlt
 have key:∀R:Result->Shared->Prop,(∀h' tk acc c,(∀b o,s.heap.get? b=some o->h'.get? b=some o)->h'.get? N=some { cls:=.type "list",dict:=none,data:=.seq acc c,slots:=#[] } ->
   ItemsOf (fun i v=>∃e,(walk w S es ep)[i]?=some e/\v=e.2) acc es.size->R (.ok (.ret (.ref N))) { s with heap:=h',toks:=tk })->codeAny (model prog w) A (.builtin "proto.collect" ⟨[.ref S],[]⟩) R s:=by
  intro R hR;refine I0 PyProof.Rows.entry_proto_collect' ?_;rw[IQ PySem.F.plain_proto_collect _];show wpAny (model prog w) A.in1 (newList [] >>= fun l=>again (.builtin "list.__iadd__" ⟨[l,.ref S],[]⟩)) _ _ s;refine uH (IF ?_);refine wa ⟨JN PySem.F.plain_list_iadd _,I0 PySem.F.entry_list_iadd ?_⟩;rw[IQ PySem.F.plain_list_iadd _];rw[hN];show wpAny (model prog w) A.in1 (Builtin.List.listExtendWith (.ref N) (.ref S) (.ref N)) _ _ _;have hS:(s.heap.push { cls:=.type "list",data:=.seq ([]:List Value).toArray }).get? N=some { cls:=.type "list",data:=.seq #[] 0 }:=by rw[←hN];exact yf _ rfl
  refine PySem.W.kdl_extend (s:={ s with heap:=s.heap.push { cls:=.type "list",data:=.seq ([]:List Value).toArray } }) (xk (ep:=ep) hL he) (by simpa using hh) (va _ ho) N hNS hNS (.ref N) 0 hS (fun h' tk acc c kp hS' hacc=>?_) (by rw[he.size,IT];omega);exact hR h' tk acc c (fun b o q=>kp b o (by rw[←hN];exact B6 (xV q)) (va _ q)) hS' hacc
 unfold collect;refine uH (wpAny_runValue (key _ fun h' tk acc c kp hS' hacc=>?_));show wpAny (model prog w) A (load N >>= _) _ _ _;refine uH (wpAny_load hS' ?_);refine wa ?_;have e:acc.toList=(walk w S es ep).toList.map (·.2):=by
  apply List.ext_getElem?;intro j;by_cases hj:j<acc.size
  ·obtain⟨e,e1,e2⟩:=hacc.2 j _ (Ig hj);rw[IS,Ig hj,II,IS,e1,e2];rfl
  ·have hz:(walk w S es ep).size≤j:=by rw[fq];have:=hacc.1;omega
   rw[IS,JG (by omega),II,IS,JG hz];rfl
 show Q acc.toList _;rw[e];exact h h' tk (by rw[hN];exact xV hS') kp
theorem og{S:Addr}{L:List Nat}{Q:Value->Shared->Prop}(hh:A.handled=none)(hP:j8 s.heap S (bH w) L)
  (h:∀(r:Addr) (h':Heap) (tk n:Nat) (out:List Value) (ms:List Int),s.heap.objs.size≤r->(∀b o,s.heap.get? b=some o->h'.get? b=some o)->h'.get? r=some (seqObj "list" out.toArray n)->IntsAre out ms->ms.Pairwise (·≤·)->ms.Perm (L.map fun(i:Nat)=>(i:Int))->Q (.ref r) { s with heap:=h',toks:=tk }) :
  wpAny (model prog w) A (call (.builtin "sorted") [.ref S]) Q E s:=by
 obtain⟨hL,es,ep,ho,he⟩:=hP.is;have h6:=(j0 L hL).2.1;refine Calls.call_function_entry kind_sorted plain_sorted entry_sorted (args_sorted1 _) ?_;unfold Builtin.«sorted»;refine uH (m:=checkCount "sorted" 1 1 _) (wa ?_);refine uH (mX (by simpa using hh) hL he ho fun h1 tk1 hgt k1=>?_);have hil:∃ns:List Int,IntsAre ((walk w S es ep).toList.map (·.2)) ns/\ns.Perm (L.map fun(i:Nat)=>(i:Int)):=by
  have hp:=kr w S es ep;obtain⟨tks,q1,q2⟩:=he;have gen:∀(l:List (Int×Value)),(∀e∈l,∃x tk,e=ent x tk)->IntsAre (l.map (·.2)) (l.map (·.1)):=by
   intro l
   induction l with
   | nil=>intro _;exact .nil
   | cons e l ih =>
    intro hm;obtain⟨x,tk,rfl⟩:=hm e xP;exact .cons _ _ (ih fun e he=>hm e (Bo _ he))
  refine⟨(walk w S es ep).toList.map (·.1),gen _ fun e hm=>?_,?_⟩
  ·obtain⟨x,_,tk,e⟩:=dn.mem ⟨tks,q1,q2⟩ (hp.mem_iff.mp hm);exact⟨x,tk,e⟩
  ·refine(hp.map _).trans ?_;rw[q2];have gen2:∀(L:List Nat) (tks:List Tok),tks.length=L.length->(List.zipWith ent L tks).map (·.1)=L.map fun(i:Nat)=>(i:Int):=by
    intro L
    induction L with
    | nil=>intro tks _;rfl
    | cons a L ih =>
     intro tks hl;cases tks with
     | nil=>simp at hl
     | cons b tks=>simp only[List.zipWith_cons_cons,yd,ih tks (by simpa using hl)];rfl
   rw[gen2 L tks q1]
 obtain⟨ns,hi,hpm⟩:=hil;generalize (walk w S es ep).toList.map (·.2)=vs at hi ⊢;have hlen:vs.length=L.length:=by
  have a:=hpm.length_eq;have b:=IntsAre.length hi;rw[rS]at a;omega
 refine uH (wpAny_newList ?_ (by rw[hlen,IT];omega));have hoL:(h1.push (seqObj "list" vs.toArray 0)).get? h1.objs.size=some (seqObj "list" vs.toArray 0):=yf _ rfl;show wpAny (model prog w) _ _ _ _ { s with heap:=h1.push (seqObj "list" vs.toArray 0),toks:=tk1 };refine uH (Jr (IU slot_list_sort ⟨_,hoL,rfl⟩ entry_list_sort (list_sort_tree hoL hi (by omega) fun out ms a1 a2 a3=>⟨_,rfl,?_⟩) (args_list_sort _)));refine wa ⟨_,rfl,?_⟩;obtain⟨e,he2⟩:=sortedHeap_at (out:=out) hoL;have hge:s.heap.objs.size≤h1.objs.size:=J2 hgt;refine h h1.objs.size (sortedHeap (h1.push (seqObj "list" vs.toArray 0)) h1.objs.size vs out) tk1 e out.toList ms hge (fun b o q=>?_) (by simpa using he2) a1 a3 (a2.trans hpm);rw[sortedHeap_old (B6 (xV (k1 b o q))) (by rw[Jz];exact Jx (xV (k1 b o q)))];exact va _ (k1 b o q)
end
end SI
namespace L2
variable {X:Cx}
def kW(w:World)(S:Addr)(L:List Nat):Heap->Prop:=fun h=>SI.j8 h S (SI.bH w) L
def B7(n:Nat):V:=.int (n:Int)
theorem kR:∀{ns:List Nat} {us:List Value},Vals (ns.map B7) us->SI.vC us ns
 | [],_,.nil=>⟨rfl,fun i v h=>by simp at h⟩
 | n::ns,_,.cons r t=>by
  obtain⟨tk,rfl⟩:=r;obtain⟨a,b⟩:=kR t;refine⟨by simp[a],fun i v h=>?_⟩;cases i with
  | zero=>simp at h;exact⟨tk,h.symm⟩
  | succ i=>simpa using b i v (by simpa using h)
theorem kO(hc:X.calm=true):cv X (.type "set") (fun xs H Q=>∃(a:Addr) (ns:List Nat),xs=[.ref a]/\SqL X.K H a (ns.map B7)/\(∀n∈ns,n<6)/\∀S,H S=none->Q (.ref S) (upd H S (.ext (kW X.w S (SI.lof ns))))):=by
 intro pins s σ H xs us Q I r h;obtain⟨a,ns,rfl,hq,hin,q⟩:=h;obtain⟨u,rfl,ru⟩:=Vals.one r;cases ru;obtain⟨its,rv,p,hz⟩:=I.list hq;refine SI.j4 (ns:=ns) (I.ok.hd hc) p.isList (kR rv) hin fun h' tk kp P=>?_;have hn:H s.heap.objs.size=none:=I.hok.fresh (yi _);refine⟨.ref s.heap.objs.size,_,I.laid (t':=tk) (o:=.ext (kW X.w s.heap.objs.size (SI.lof ns))) (fun b o e=>kp b o (xV e) e) (yi _) ?_,rfl,q _ hn⟩;obtain⟨hL,es,ep,ho,he⟩:=P.is;exact⟨P,⟨_,ho⟩,fun h1 h2 x k=>by obtain⟨a,es,ep,e,l⟩:=x.is;exact⟨a,es,ep,k _ e,l⟩⟩
theorem pH(hc:X.calm=true):cv X (.builtin "sorted") (fun xs H Q=>∃(S:Addr) (L:List Nat),xs=[.ref S]/\H S=some (.ext (kW X.w S L))/\∀(r:Addr) (ms:List Int),H r=none->ms.Pairwise (·≤·)->ms.Perm (L.map fun(i:Nat)=>(i:Int))->Q (.ref r) (upd H r (.lst (ms.map V.int)))):=by
 intro pins s σ H xs us Q I r h;obtain⟨S,L,rfl,hS,q⟩:=h;obtain⟨u,rfl,ru⟩:=Vals.one r;cases ru;obtain⟨P,_,_⟩:=(show bM X.prog X.w H s.heap S (.ext (kW X.w S L))from I.hok S _ hS);have h6:=(SI.j0 L P.is.1).2.1;refine SI.og (I.ok.hd hc) P fun r h' tk n out ms hge kp ho hi hs hp=>?_;have hn:H r=none:=I.hok.fresh hge;have hl:ms.length≤6:=by have:=hp.length_eq;rw[rS]at this;omega
 refine⟨.ref r,_,I.laid (t':=tk) (o:=.lst (ms.map V.int)) (fun b o e=>kp b o e) hge ?_,rfl,q r ms hn hs hp⟩;exact⟨by rw[rS,IT];omega,out,n,dG hi,ho⟩
def mI(K:PySem.W.Frag):V->List V->Hp->VK->Prop:=fun x vs H Q=>∃l b xs zs,x=.ref l/\vs=[.ref b]/\H l=some (.lst xs)/\SqT K H b zs/\xs.length+zs.length≤sizeLine/\Q .non (upd H l (.lst (xs++zs)))
end L2
namespace U
open L2
variable {B:Bs}{X:Cx}{e:Expr}{ta:TE'}{p p2 pos pos2:Pos}
def jr(n:Nat):PV:=.int (n:Int)
theorem ji{K:PySem.W.Frag}{H:Hp}:∀{ns:List Nat} {us:List V},RPs K H (ns.map jr) us->us=ns.map B7
 | [],us,h=>by simpa[RPs]using h
 | b::bs,us,h=>by
  simp only[yd,RPs,RP,jr]at h;obtain⟨u,r,rfl,rfl,h2⟩:=h;rw[ji h2];rfl
def qf(x:PV)(H:PHp)(Q:VK'):Prop:=match x with
 | .ref a=>∃ns:List Nat,H a=some (.lst (ns.map jr))/\(∀n∈ns,n<6)/\∀(r:Addr) (ms:List Nat),H r=none->ms.Pairwise (·<·)->(∀x,x∈ms↔x∈ns)->Q (.ref r) (put H r (.lst (ms.map jr)))
 | _=>False
theorem GG{a:Addr}{H:PHp}{Q:VK'}:qf (.ref a) H Q=∃ns:List Nat,H a=some (.lst (ns.map jr))/\(∀n∈ns,n<6)/\∀(r:Addr) (ms:List Nat),H r=none->ms.Pairwise (·<·)->(∀x,x∈ms↔x∈ns)->Q (.ref r) (put H r (.lst (ms.map jr))):=rfl
def nE(ta:TE'):TE':=fun σ H Q=>ta σ H fun x H1=>qf x H1 Q
theorem nj{L:List Nat}:∀{ms:List Int},(∀x∈ms,∃n∈L,x=((n:Nat):Int))->ms=(ms.map Int.toNat).map fun(n:Nat)=>(n:Int)
 | [],_=>rfl
 | x::ms,h=>by
  obtain⟨n,_,rfl⟩:=h x xP;rw[yd,yd,← nj (ms:=ms) fun y hy=>h y (Bo _ hy)];rfl
theorem j3(hc:X.calm=true)(hu:X.A.units+64<cLine)(hgl:Gl X "sorted")(hml:X.mg "sorted"=none)(hgs:Gl X "set")(hms:X.mg "set"=none)(bs:bootBuiltins "set"=some (.type "set"))(ha:PE' X B e ta)(bo:bootBuiltins "sorted"=some (.builtin "sorted"):=by decide +kernel)
  (he:starEach [.Call (.Name "set" p2) [e] [] pos2] X.env=[(false,eval (.Call (.Name "set" p2) [e] [] pos2) X.env)]:=by rfl) (he2:starEach [e] X.env=[(false,eval e X.env)]:=by rfl) :
  PE' X B (.Call (.Name "sorted" p) [.Call (.Name "set" p2) [e] [] pos2] [] pos) (nE ta) :=
 a6 (dI (pH hc) hgl hml bo (bU (fu (kO hc) hgs hms bs (bU ha cI he2) (by decide) (by decide) he2 rfl) cI he) (by decide) (by decide) he rfl) fun σ H Q h=>by
  obtain⟨σ',H',Q',s,h,k⟩:=h;refine⟨σ',H',_,s,h,fun x' H1' x H1 h1 rx s1 e1=>?_⟩;cases x' with
  | ref a =>
   obtain⟨ns,ea,hin,q⟩:=h1;simp only[RP]at rx;subst rx;obtain⟨us,eg,r2⟩:=s1.hp _ _ ea;rw[ji r2]at eg;refine⟨a,ns,rfl,.inl (.inl eg),hin,fun S hS=>⟨S,SI.lof ns,rfl,bc,fun r ms hr hs hp=>?_⟩⟩;have s2:=s1.hid (o:=.ext (kW X.w S (SI.lof ns))) hS;have e2:Ev H1' H1 H1' (upd H1 S (.ext (kW X.w S (SI.lof ns)))):=Ev.hid hS;have nd:=(SI.j0 _ (SI.m7 hin)).2.2.1;have hm:∀x∈ms,∃n∈SI.lof ns,x=((n:Nat):Int):=fun x hx=>by
    obtain⟨n,h1,h2⟩:=Bc.mp (hp.mem_iff.mp hx);exact⟨n,h1,h2.symm⟩
   have em:=nj hm;generalize ms.map Int.toNat=ks at em;subst em;have pk:ks.Perm (SI.lof ns):=by
    have:=hp.map Int.toNat
    simpa[IV,Function.comp_def]using this
   have ndk:ks.Nodup:=pk.nodup_iff.mpr nd;have hsk:ks.Pairwise (·<·):=by
    rw[J0]at hs;refine List.Pairwise.imp₂ (fun a b h1 h2=>?_) hs ndk;have:a≠b:=h2;omega
   have hq:=q r ks (s2.hp.free hr) hsk fun x=>pk.mem_iff.trans SI.qw;have rr:RPs X.K (upd H1 S (.ext (kW X.w S (SI.lof ns)))) (ks.map jr) ((ks.map fun(n:Nat)=>(n:Int)).map V.int):=by
    have e3:ks.map jr=(ks.map fun(n:Nat)=>(n:Int)).map PV.int:=by rw[IV];rfl
    rw[e3];exact gg
   exact k _ _ _ _ hq (by simp[RP]) (s2.new hr (j9 hr rr)) ((e1.trans e2).trans (Ev.new hr))
  | _=>exact h1.elim
end U
namespace L2
variable {X:Cx}{tg:Expr}
theorem fW:MtM X "list.extend" (mI X.K):=by
 intro pins s σ H x vs v us Q I rx rv h;obtain⟨l,b,xs,zs,rfl,rfl,hH,hB,hz,q⟩:=h;cases rx;obtain⟨u,rfl,ru⟩:=rv.one;cases ru;obtain⟨z,its,n,r,hl,e⟩:=I.lstM hH;obtain⟨is2,r2,⟨o2,ho2,hc2,n2,hd2⟩,hz2⟩:=I.tuple hB;have hne:l≠b:=by
  rintro rfl;rw[e]at ho2;cases ho2;exact absurd (show Value.type "list"=Value.type "tuple" from hc2) (by decide)
 have hlen2:=r2.length;refine IU F.slot_list_extend ⟨_,e,rfl⟩ F.entry_list_extend ?_ (F.args_list_extend_2 _ _);show wpAny _ _ (Builtin.List.listExtendWith (.ref l) (.ref b) .none) _ _ _;unfold Builtin.List.listExtendWith;refine uH (wpAny_typeOf (T:="tuple") ⟨o2,ho2,hc2⟩ ?_);rw[Ij (by rw[show(Value.type "tuple"==Value.type "tuple")=true from rfl];simp)];refine uH (listItems_at ho2 hd2 ?_);refine uH (listItems_at (xs:=its.toArray) (n:=n) e rfl ?_);have hsz:its.toArray.size+is2.toArray.size≤sizeLine:=by rw[Br,Br];omega
 rw[CI (by rw[mr hsz,Bool.and_false];exact JA)];refine uH (listUpdate_at (xs:=its.toArray) (n:=n) e rfl ?_ (by rw[Br];omega) (by show(its.toArray++is2.toArray).size≤_;rw[Array.size_append];omega));refine wa ⟨_,rfl,?_⟩;refine⟨.non,_,I.lset (its':=its++is2) hH e (by simp) (r.append r2) ?_,rfl,q⟩;rw[wW];omega
def Itd(lo:Int)(n:Nat):It:=⟨fun i _=>i<n,fun i H x H'=>H'=H/\x=.int (lo - i),fun i _=>n≤i⟩
theorem sG{P:Program}{w:World}{K:PySem.W.Frag}(it:Addr)(lo:Int)(n:Nat):Turn P w K tg (Itd lo n) [it] it (fun i h=>IsRangeIter h it (lo+(i:Nat)*(-1)) ((n:Int) - (i:Nat)) (-1)) where
 mem:=by simp
 obj:=fun i h st b hb=>by
  have q:b=it:=by simpa using hb
  subst q;exact⟨_,st,fun v z=>by
   have z':Data.fields _=Data.cell v:=z;cases z'⟩
 keep:=fun i h h' st k=>k it (by simp) _ st
 item:=by
  intro X hP hw hK hc i pins s σ H E I hf st hg;subst hP hw hK;obtain⟨f0,f1,f2,f3,f4,f5⟩:=hf it (by simp);have W:=Walks.range (prog:=X.prog) (w:=X.w) (I.ok.hd hc) it lo (-1) n;refine W.item i s _ _ hg st fun v h' tk hv st' kk=>?_;obtain⟨t,rfl⟩:=hv;have J:Inv X pins σ H { s with heap:=h',toks:=tk }:=I.turned (fun b o hb e=>kk b o (by simpa using hb) e) f0 f1 f3 f4 f5;refine⟨_,rfl,qI (s:={ s with heap:=h',toks:=tk }) (n:="range_iterator") st' rfl rfl (by decide) ⟨.int (lo - i),H,J,⟨t,?_⟩,⟨rfl,rfl⟩,st',fun b hb=>(hf b hb).1⟩⟩;congr 1;omega
 done:=by
  intro X hP hw hK hc i pins s σ H E I hf st hg;subst hP hw hK;obtain⟨f0,f1,f2,f3,f4,f5⟩:=hf it (by simp);exact wpAny_pyNext_range_end (I.ok.hd hc) st (by have q:n≤i:=hg;omega) fun h' eb=>⟨rfl,I.turned (t':=s.toks) (fun b o hb e=>eb b o hb e) f0 f1 f3 f4 f5⟩
 self:=fun _ _ _ _ _ st h=>wpAny_pyIter_rangeiter st h
def EX(ta:TA):TI:=fun σ H R=>ta σ H fun vs H1=>∃j:Int,vs=[.int j,.int (-1),.int (-1)]/\-1≤j/\j<1000/\R (Itd j (j+1).toNat) H1
theorem kM{j:Int}(h:-1≤j):Builtin.Range.rangeSize j (-1) (-1)=j+1:=by
 unfold Builtin.Range.rangeSize;rw[CI (by decide)];have e:-(-1:Int)=1:=rfl;rw[e,Int.ediv_one];split<;>omega
theorem oH{j:Int}(h:-1≤j)(h2:j<1000):Builtin.Range.small j (-1) (-1)=true:=by
 unfold Builtin.Range.small;rw[kM h];simp only[Builtin.Range.rangeFitsLong,Jq,Bool.or_eq_true,IX,JK];refine⟨⟨⟨⟨by omega,by decide⟩,by decide⟩,by omega⟩,.inr (by decide)⟩
theorem xE{a b c:Expr}{ta:TA}{p pos:Pos}(hg:Gl X "range")(hm:X.mg "range"=none)(ha:PA X [a,b,c] ta)(hs:starEach [a,b,c] X.env=[(false,eval a X.env),(false,eval b X.env),(false,eval c X.env)]:=by rfl)
  (hs2:starEach [b,c] X.env=[(false,eval b X.env),(false,eval c X.env)]:=by rfl):PI X tg (.Call (.Name "range" p) [a,b,c] [] pos) (EX ta):=by
 intro pins s σ H R I h;refine Call_ (cN I hg hm boot_range (IK (thn (ha pos pins s σ H _ I h) fun us s1 ⟨vs,H1,I1,r1,q1⟩=>?_) (by rw[hs,hs2]) (by rw[hs2];rfl)));obtain⟨j,e,q1,q2,q⟩:=q1;subst e;cases r1 with
 | cons r rr =>
  cases rr with
  | cons r' rr =>
   cases rr with
   | cons r'' rr =>
    cases rr;obtain⟨t,rfl⟩:=r;obtain⟨t',rfl⟩:=r';obtain⟨t'',rfl⟩:=r'';refine call_range_3 (by decide) ?_ (Or.inl (PyProof.noPylong_of_log2 (by decide +kernel)));generalize hh:s1.heap.push { cls:=.type "range",data:=.fields #[.int j t,.int (-1) t',.int (-1) t''] }=h2;have I2:Inv X pins σ H1 { s1 with heap:=h2 }:=by rw[←hh];exact I1.kept (t':=s1.toks) fun b o e=>va _ e
    refine wpAny_pyIter_range (s:={ s1 with heap:=h2,toks:=s1.toks }) (by rw[←hh];exact IsRange.new ..) (oH q1 q2) ?_;refine⟨h2.objs.size,[h2.objs.size],_,_,H1,rfl,I2.kept (t':=s1.toks) fun b o e=>va _ e,sG _ j (j+1).toNat,?_,fun b hb=>?_,q⟩
    ·show IsRangeIter _ _ (j+((0:Nat):Int)*(-1)) ((((j+1).toNat:Nat):Int) - ((0:Nat):Int)) (-1);have e1:j+((0:Nat):Int)*(-1)=j:=by simp
     have e2:(((j+1).toNat:Nat):Int) - ((0:Nat):Int)=Builtin.Range.rangeSize j (-1) (-1):=by rw[kM q1];omega
     rw[e1,e2];exact yf _ rfl
    ·have e:b=h2.objs.size:=by simpa using hb
     subst e;exact I2.fpOk (yi _) (I2.hok.fresh (yi _))
end L2
namespace U
open L2
section
variable {B:Bs}{X:Cx}{a b c:Expr}{pos:Pos}
def ug:PV->List PV->PHp->VK'->Prop:=fun x vs H Q=>match x,vs with
 | .ref a,[.tup m]=>∃l,H a=some (.lst l)/\l.length+m.length≤sizeLine/\Q .non (put H a (.lst (l++m)))
 | _,_=>False
theorem Gq{a:Addr}{m:List PV}{H:PHp}{Q:VK'}:ug (.ref a) [.tup m] H Q=∃l,H a=some (.lst l)/\l.length+m.length≤sizeLine/\Q .non (put H a (.lst (l++m))):=rfl
theorem lW{K:PySem.W.Frag}:VM K B ug (mI K):=by
 intro σ' σ H' H x' xs' x xs Q' Q s rx r h k;unfold ug at h;split at h
 ·rename_i a m;obtain⟨l,e,hl,h⟩:=h;obtain⟨us,q,r2⟩:=s.hp _ _ e;simp only[RP,RPs]at rx r;obtain⟨u,r1,rfl,⟨b,ws,rfl,hb,r3⟩,rfl⟩:=r;subst rx;exact⟨a,b,us,ws,rfl,rfl,q,hb,by rw[RPs.length _ r2,RPs.length _ r3];exact hl,k _ _ _ _ h (by simp[RP]) (s.wr e (wrL s.hp e (RPs.append _ r2 r3))) (Ev.wr e)⟩
 ·exact h.elim
def mB(lo:Int)(n:Nat):List PV:=(List.range n).map fun k=>PV.int (lo - (k:Nat))
theorem rh{K:PySem.W.Frag}{H1:Hp}{lo:Int}{n:Nat}:Walks K H1 (Itd lo n) ⟨mB lo n,fun _=>True⟩ where
 go:=fun H' H i _ _ _ hi=>by
  have q:i<n:=by simpa[mB]using hi
  exact q
 yld:=fun H' H i x H2 _ _ _ y=>by
  obtain⟨rfl,rfl⟩:=y;refine⟨rfl,fun x' hx=>?_⟩;unfold mB at hx;rw[II]at hx;cases q:(List.range n)[i]? with
  | none=>rw[q]at hx;cases hx
  | some j =>
   rw[q]at hx;have:j=i:=by
    have:=(vM.mp q).2;simpa using this.symm
   subst this;cases hx;simp[RP]
 stop:=fun H' H i _ _ _ hi=>by
  have q:n≤i:=by simpa[mB]using hi
  exact q
def vU(vs:List PV)(H1:PHp)(R:It'->PHp->Prop):Prop:=match vs with
 | [.int j,.int e,.int f]=>e=-1/\f=-1/\-1≤j/\j<1000/\R ⟨mB j (j+1).toNat,fun _=>True⟩ H1
 | _=>False
theorem GL{j e f:Int}{H1:PHp}{R:It'->PHp->Prop}:vU [.int j,.int e,.int f] H1 R=(e=-1/\f=-1/\-1≤j/\j<1000/\R ⟨mB j (j+1).toNat,fun _=>True⟩ H1):=rfl
def Aw(t:TA'):TI':=fun σ H R=>t σ H fun vs H1=>vU vs H1 R
theorem sV{tg:Expr}{t:TA'}{p:Pos}(hg:Gl X "range")(hm:X.mg "range"=none)(ha:PA' X B [a,b,c] t)(hs:starEach [a,b,c] X.env=[(false,eval a X.env),(false,eval b X.env),(false,eval c X.env)]:=by rfl)
  (hs2:starEach [b,c] X.env=[(false,eval b X.env),(false,eval c X.env)]:=by rfl):PI' X B tg (.Call (.Name "range" p) [a,b,c] [] pos) (Aw t) :=
 k9 (xE hg hm ha hs hs2) fun σ H R y_=>by
  obtain⟨σ',H',R',s,h,k⟩:=y_;refine⟨σ',H',_,s,h,fun vs' H1' vs H1 h1 r1 s1 e1=>?_⟩;unfold vU at h1;split at h1
  ·rename_i j e f;obtain⟨rfl,rfl,h2,h3,q⟩:=h1;simp only[RPs,RP]at r1;obtain⟨u,r,rfl,rfl,u2,r2,rfl,rfl,u3,r3,rfl,rfl,rfl⟩:=r1;exact⟨j,rfl,h2,h3,k _ _ _ _ q rh s1 e1⟩
  ·exact h1.elim
end
section
variable {B:Bs}{X:Cx}{a b:Expr}{ta tb:TE'}{pos:Pos}
def rZ:R2':=fun x y H Q=>match x,y with
 | .ref a,.ref b=>∃l m,H a=some (.lst l)/\H b=some (.lst m)/\l.length+m.length≤sizeLine/\∀p,H p=none->Q (.ref p) (put H p (.lst (l++m)))
 | _,_=>False
theorem Hh{a b:Addr}{H:PHp}{Q:VK'}:rZ (.ref a) (.ref b) H Q=∃l m,H a=some (.lst l)/\H b=some (.lst m)/\l.length+m.length≤sizeLine/\∀p,H p=none->Q (.ref p) (put H p (.lst (l++m))):=rfl
theorem CN{K:PySem.W.Frag}:VR K B rZ D0:=by
 intro σ' σ H' H x' y' x y Q' Q s rx ry h k;unfold rZ at h;split at h
 ·rename_i a b;obtain⟨l,m,e1,e2,hl,h⟩:=h;simp only[RP]at rx ry;subst rx;subst ry;obtain⟨us,q1,r1⟩:=s.hp _ _ e1;obtain⟨ws,q2,r2⟩:=s.hp _ _ e2;refine⟨a,b,us,ws,rfl,rfl,q1,q2,by rw[RPs.length _ r1,RPs.length _ r2];exact hl,fun p hp=>?_⟩;exact k _ _ _ _ (h p (s.hp.free hp)) (by simp[RP]) (s.new hp (j9 hp (RPs.append _ r1 r2))) (Ev.new hp)
 ·exact h.elim
theorem de(ha:PE' X B a ta)(hb:PE' X B b tb):PE' X B (.BinOp a .Add b pos) (uOp rZ ta tb):=fM BC CN ha hb
theorem Hk{a:Addr}{H:PHp}{Q:VK'}:ux [.ref a] H Q=∃ns:List Int,H a=some (.lst (ns.map PV.int))/\ns.length<64/\∀(r:Addr) (ms:List Int),H r=none->ms.Perm ns->ms.Pairwise (·≤·)->Q (.ref r) (put H r (.lst (ms.map PV.int))):=rfl
theorem cL(xs:List PV)(k:Nat):cz xs (some (k:Int)) none=xs.drop k:=by
 unfold cz;rw[HT.iY,HT.eW];rw[List.take_of_length_le (by rw[Jc];omega)];by_cases h:k≤xs.length
 ·rw[Nat.min_eq_left h]
 ·rw[Nat.min_eq_right (by omega),JQ,List.drop_eq_nil_of_le (by omega)]
theorem pU{F:List Int}(h:∀x∈F,0≤x/\x<6):F.map PV.int=(F.map Int.toNat).map jr:=by
 rw[IV];refine List.map_congr_left fun x hx=>?_;have:=h x hx;show PV.int x=PV.int ((x.toNat:Nat):Int);congr 1;omega
end
end U
set_option Elab.async false
namespace L2
section
variable {κ:Type}[DecidableEq κ]
def fP(kvs:List (κ×V))(k:κ):Option V:=(kvs.find? fun kv=>decide (kv.1=k)).map (·.2)
def putK(kvs:List (κ×V))(k:κ)(v:V):List (κ×V) :=
 if (kvs.any fun kv=>decide (kv.1=k))=true then kvs.map (fun kv=>if kv.1=k then(kv.1,v)else kv)else kvs++[(k,v)]
theorem gP{p:κ×V}{r:List (κ×V)}{k:κ}(e:p.1=k):fP (p::r) k=some p.2:=by simp[fP,List.find?_cons,e]
theorem gO{p:κ×V}{r:List (κ×V)}{k:κ}(e:¬p.1=k):fP (p::r) k=fP r k:=by simp[fP,List.find?_cons,e]
theorem jo(k:κ):∀kvs:List (κ×V),(kvs.any fun kv=>decide (kv.1=k))=(fP kvs k).isSome
 | []=>rfl
 | p::r=>by
  rw[List.any_cons];by_cases e:p.1=k
  ·simp only[gP e,IL e,Bool.true_or,Option.isSome_some]
  ·rw[gO e,Jn e,Bool.false_or];exact jo k r
theorem eK(kvs:List (κ×V))(k:κ)(v:V):(putK kvs k v).length≤kvs.length+1:=by
 unfold putK;split
 ·rw[rS];omega
 ·rw[wW,Ih,List.length_nil];omega
theorem vJ{kvs:List (κ×V)}{k:κ}(v:V)(h:fP kvs k=none):putK kvs k v=kvs++[(k,v)]:=by
 unfold putK;rw[jo,h];exact CI (by decide)
theorem gH.isSome_eq{o:Option V}{u:Option Value}(r:gH o u):o.isSome=u.isSome:=by
 cases o with
 | none=>cases u with
  | none=>rfl
  | some _=>exact(show False from r).elim
 | some _=>cases u with
  | none=>exact(show False from r).elim
  | some _=>rfl
theorem KV.val{kvs:List (κ×V)}{vs:List (κ×Value)}(r:KV kvs vs)(k:κ):gH (fP kvs k) (valueAt vs k):=by
 unfold KV at r
 induction r with
 | nil=>exact True.intro
 | @cons p q ps qs h t ih =>
  obtain⟨h1,h2⟩:=h;by_cases e:p.1=k
  ·have e':q.1=k:=h1.symm.trans e;have b:valueAt (q::qs) k=some q.2:=by simp[valueAt,List.find?_cons,e']
   rw[gP e,b];exact h2
  ·have e':¬q.1=k:=fun z=>e (h1.trans z);have b:valueAt (q::qs) k=valueAt qs k:=by simp[valueAt,List.find?_cons,e']
   rw[gO e,b];exact ih
theorem KV.any{kvs:List (κ×V)}{vs:List (κ×Value)}(r:KV kvs vs)(k:κ):(kvs.any fun kv=>decide (kv.1=k))=vs.any fun kv=>decide (kv.1=k):=by
 unfold KV at r
 induction r with
 | nil=>rfl
 | cons h t ih=>rw[List.any_cons,List.any_cons,ih,h.1]
theorem KV.repl{kvs:List (κ×V)}{vs:List (κ×Value)}(r:KV kvs vs)(k:κ){y:V}{u:Value}(ry:RelV y u) :
  KV (kvs.map fun kv=>if kv.1=k then(kv.1,y)else kv) (vs.map fun kv=>if kv.1=k then(kv.1,u)else kv):=by
 unfold KV at r ⊢
 induction r with
 | nil=>exact .nil
 | @cons p q ps qs h t ih =>
  rw[yd,yd];refine .cons ?_ ih;obtain⟨h1,h2⟩:=h;by_cases e:p.1=k
  ·rw[Ij e,Ij (h1.symm.trans e)];exact⟨h1,ry⟩
  ·rw[CI e,CI (fun z=>e (h1.trans z))];exact⟨h1,h2⟩
theorem KV.put{kvs:List (κ×V)}{vs:List (κ×Value)}(r:KV kvs vs)(k:κ){y:V}{u:Value}(ry:RelV y u):KV (putK kvs k y) (stored vs k u):=by
 unfold putK stored;rw[r.any k];by_cases e:(vs.any fun kv=>decide (kv.1=k))=true
 ·rw[Ij e,Ij e];exact r.repl k ry
 ·rw[CI e,CI e];exact Paired.snoc r ⟨rfl,ry⟩
theorem KV.length{kvs:List (κ×V)}{vs:List (κ×Value)}(r:KV kvs vs):kvs.length=vs.length:=Paired.length r
end
theorem qD{P:Program}{w:World}{k:Key}{u:Value}(r:RelV (kV k) u):(bS P w).is k u=true:=by
 cases k with
 | inl i=>obtain⟨t,e⟩:=(show ∃t,u=Value.int i t from r);subst e;exact mF P w i t
 | inr x=>obtain⟨t,e⟩:=(show ∃t,u=Value.str x t from r);subst e;exact mJ P w x t
theorem kP{P:Program}{w:World}:∀{ks:List Key} {us:List Value},Vals (ks.map kV) us->ItemsAre (bS P w) ks us
 | [],_,r=>by rw[List.map_nil]at r;cases r;exact .nil
 | k::ks,_,r=>by
  rw[yd]at r;cases r with
  | cons h t=>exact .cons (qD h) (kP t)
abbrev KT(H:Hp):List (List Key×V)->List (List Key×Addr×Value)->Prop:=Paired fun p q=>p.1=q.1/\H q.2.1=some (.tup (p.1.map kV))/\RelV p.2 q.2.2
theorem KT.val{H:Hp}{kvs:List (List Key×V)}{xs:List (List Key×Addr×Value)}(r:KT H kvs xs)(k:List Key):gH (fP kvs k) ((atKey xs k).map (·.2)):=by
 induction r with
 | nil=>exact True.intro
 | @cons p q ps qs h t ih =>
  obtain⟨h1,_,h2⟩:=h;by_cases e:p.1=k
  ·have e':q.1=k:=h1.symm.trans e;have b:atKey (q::qs) k=some q.2:=by simp[atKey,List.find?_cons,e']
   rw[gP e,b];exact h2
  ·have e':¬q.1=k:=fun z=>e (h1.trans z);have b:atKey (q::qs) k=atKey qs k:=by simp[atKey,List.find?_cons,e']
   rw[gO e,b];exact ih
theorem KT.repl{H:Hp}{kvs:List (List Key×V)}{xs:List (List Key×Addr×Value)}(r:KT H kvs xs)(k:List Key){y:V}{u:Value}(ry:RelV y u) :
  KT H (kvs.map fun kv=>if kv.1=k then(kv.1,y)else kv) (xs.map (putAt k u)):=by
 induction r with
 | nil=>exact .nil
 | @cons p q ps qs h t ih =>
  rw[yd,yd];refine .cons ?_ ih;obtain⟨h1,h2,h3⟩:=h;unfold putAt;by_cases e:p.1=k
  ·rw[Ij e,Ij (h1.symm.trans e)];exact⟨h1,h2,ry⟩
  ·rw[CI e,CI (fun z=>e (h1.trans z))];exact⟨h1,h2,h3⟩
theorem KT.put{H:Hp}{kvs:List (List Key×V)}{xs:List (List Key×Addr×Value)}(r:KT H kvs xs)(k:List Key){b:Addr}{y:V}{u:Value}(hb:H b=some (.tup (k.map kV)))(ry:RelV y u) :
  KT H (putK kvs k y) (storedH xs k b u):=by
 have e:(kvs.any fun kv=>decide (kv.1=k))=(atKey xs k).isSome:=by
  rw[jo,(r.val k).isSome_eq,Option.isSome_map]
 unfold putK storedH;rw[e];by_cases q:(atKey xs k).isSome=true
 ·rw[Ij q,Ij q];exact r.repl k ry
 ·rw[CI q,CI q];exact Paired.snoc r ⟨rfl,hb,ry⟩
theorem KT.keeps{H H':Hp}{kvs:List (List Key×V)}{xs:List (List Key×Addr×Value)}(r:KT H kvs xs)(ht:∀b ys,H b=some (.tup ys)->H' b=some (.tup ys)):KT H' kvs xs :=
 Paired.mapP r fun _ _ z=>⟨z.1,ht _ _ z.2.1,z.2.2⟩
section
variable {P:Program}{w:World}{H:Hp}{h:Heap}{a:Addr}
theorem An{u:HO}(ok:HOk P w H h)(e:Rd H a u):bM P w H h a u:=e.ok ok
theorem Al{kvs:List (Key×V)}(ok:HOk P w H h)(e:Rd H a (.dK kvs)):kvs.length≤sizeLine/\(a==sysModules)=false/\∃vs,KV kvs vs/\h.DictOf (bS P w) a vs :=
 show bM P w H h a (.dK kvs)from An ok e
theorem zU{kvs:List (Key×V)}(ok:HOk P w H h)(e:H a=some (.dK kvs)):kvs.length≤sizeLine/\(a==sysModules)=false/\∃vs,KV kvs vs/\h.DictOf (bS P w) a vs:=Al ok (.inl e)
theorem pI{ks:List Key}(ok:HOk P w H h)(e:H a=some (.tup (ks.map kV))):(tupleKind (bS P w)).is h ks a:=by
 obtain⟨_,its,r,o,h1,h2,n,h3⟩:=(show bM P w H h a (.tup (ks.map kV))from ok a _ e);exact⟨o,its.toArray,n,h1,h2,h3,by simpa using kP r⟩
theorem z3{kvs:List (List Key×V)}(ok:HOk P w H h)(e:Rd H a (.dT kvs)):kvs.length≤sizeLine/\(a==sysModules)=false /\
  ∃xs,KT H kvs xs/\h.DictOfH (tupleKind (bS P w)) a xs:=by
 obtain⟨z,y,xs,r,o,es,ep,h1,h2,h3,h4,h5⟩:=(show bM P w H h a (.dT kvs)from An ok e);refine⟨z,y,xs,r,o,es,ep,h1,h2,h3,h4,fun x hx=>?_,h5⟩;have all:∀{l:List (List Key×V)} {m:List (List Key×Addr×Value)},KT H l m->∀x∈m,(tupleKind (bS P w)).is h x.1 x.2.1:=by
  intro l m q
  induction q with
  | nil=>intro x hx;exact nomatch hx
  | @cons p q ps qs hq t ih =>
   intro x hx;rcases Ic.mp hx with e | hx
   ·subst e;exact pI ok (by rw[←hq.1];exact hq.2.1)
   ·exact ih x hx
 exact all r x hx
theorem Fj{kvs:List (List Key×V)}(ok:HOk P w H h)(e:H a=some (.dT kvs)):kvs.length≤sizeLine/\(a==sysModules)=false /\
  ∃xs,KT H kvs xs/\h.DictOfH (tupleKind (bS P w)) a xs:=z3 ok (.inl e)
end
def tE(H:Hp)(a:Addr)(y:V)(r:Option V):Prop :=
 (∃kvs k,Rd H a (.dK kvs)/\y=kV k/\r=fP kvs k)∨∃kvs k b,Rd H a (.dT kvs)/\y=.ref b/\H b=some (.tup (k.map kV))/\r=fP kvs k
def uq(H:Hp)(a:Addr)(y v:V)(H':Hp):Prop :=
 (∃kvs k,H a=some (.dK kvs)/\y=kV k/\kvs.length<sizeLine/\H'=upd H a (.dK (putK kvs k v))) ∨
 ∃kvs k b,H a=some (.dT kvs)/\y=.ref b/\H b=some (.tup (k.map kV))/\kvs.length<sizeLine/\H'=upd H a (.dT (putK kvs k v))
theorem tE.k{H:Hp}{a:Addr}{kvs:List (Key×V)}{k:Key}(e:H a=some (.dK kvs)):tE H a (kV k) (fP kvs k):=.inl ⟨kvs,k,.inl e,rfl,rfl⟩
theorem uq.k{H:Hp}{a:Addr}{kvs:List (Key×V)}{k:Key}{v:V}(e:H a=some (.dK kvs))(hl:kvs.length<sizeLine):uq H a (kV k) v (upd H a (.dK (putK kvs k v))):=.inl ⟨kvs,k,e,rfl,hl,rfl⟩
section
variable {X:Cx}{pins:List (Addr×Obj)}{σ:St}{H:Hp}{s:Shared}{a:Addr}{y v:V}{u r:Value}{o:Option V}{A:Around}{E:Value->Shared->Prop}
theorem Inv.big(I:Inv X pins σ H s):sysModules<s.heap.objs.size:=by
 have h:mainGlobals<s.heap.objs.size:=(I.mod.glob.keeps I.bk).lt;exact Nat.lt_trans (by decide) h
theorem yn{Q:Value->Shared->Prop}(hu:A.units+1<cLine)(I:Inv X pins σ H s)(g:tE H a y o)(ry:RelV y u)(h:∀s',Inv X pins σ H s'->Q (.bool (!o.isSome)) s') :
  wpAny (model X.prog X.w) A (compareOp .NotIn u (.ref a)) Q E s:=by
 rcases g with⟨kvs,k,e,ey,l⟩ |⟨kvs,k,b,e,ey,eb,l⟩
 ·subst ey;obtain⟨z,hd,vs,rel,dd⟩:=Al I.hok e;refine wpAny_notIn_of (qD ry) hd dd.mapOf ?_;rw[←(rel.val k).isSome_eq,← l];exact h _ (I.tok _)
 ·subst ey;cases (show u=Value.ref b from ry);obtain⟨z,hd,xs,rel,dd⟩:=z3 I.hok e;refine wpAny_notIn_heap (tupleKind_room_in1 hu) (pI I.hok eb) hd dd ?_;have q:=(rel.val k).isSome_eq;rw[Option.isSome_map]at q;rw[←q,← l];exact h _ (I.tok _)
theorem l9{h':Heap}{t':Nat}{ob:HO}(I:Inv X pins σ H s)(mu:Mut (H a))(hs:Heap.SameBut a s.heap h')(he:∃q,h'.get? a=some q)(new:bM X.prog X.w (upd H a ob) h' a ob) :
  Inv X pins σ (upd H a ob) { s with heap:=h',toks:=t' } :=
 I.write (x:=a) (e:=a) mu (.inl rfl) (fun b q hb z=>(hs.2 b hb).trans z) he new
theorem tS{P:Program}{w:World}{H':Hp}{h':Heap}{kvs:List (Key×V)}{vs:List (Key×Value)}(z:kvs.length≤sizeLine)(hd:(a==sysModules)=false)(rel:KV kvs vs)(dd:h'.DictOf (bS P w) a vs) :
  bM P w H' h' a (.dK kvs):=⟨z,hd,vs,rel,dd⟩
theorem rn{H':Hp}{Q:Unit->Shared->Prop}(hu:A.units+1<cLine)(I:Inv X pins σ H s)(g:uq H a y v H')(ry:RelV y u)(rv:RelV v r)(h:∀s',Inv X pins σ H' s'->Q () s') :
  wpAny (model X.prog X.w) A (setItem (.ref a) u r) Q E s:=by
 rcases g with⟨kvs,k,e,ey,l,eH⟩ |⟨kvs,k,b,e,ey,eb,l,eH⟩
 ·subst ey eH;obtain⟨z,hd,vs,rel,dd⟩:=zU I.hok e;have hz:vs.length≤sizeLine:=by rw[←rel.length];exact z
  have hl:(putK kvs k v).length≤sizeLine:=by have:=eK kvs k v;omega
  refine wpAny_setItem_pairs (hsz:=hz) (qD ry) dd fun h' dd' hs=>h _ ?_;have he:∃q,h'.get? a=some q:=let ⟨q,_,_,hq,_⟩:=dd';⟨q,hq⟩
  exact l9 I (by rw[e];exact True.intro) hs he (tS hl hd (rel.put k rv) dd')
 ·subst ey eH;cases (show u=Value.ref b from ry);obtain⟨z,hd,xs,rel,dd⟩:=Fj I.hok e;have hz:xs.length≤sizeLine:=by rw[←Paired.length rel];exact z
  have hl:(putK kvs k v).length≤sizeLine:=by have:=eK kvs k v;omega
  refine wpAny_setItem_heap (hsz:=hz) (tupleKind_room_in1 hu) (pI I.hok eb) dd fun h' dd' hs=>h _ ?_;obtain⟨q,es,ep,hq,h2,h3,h4,_,h5⟩:=dd';refine l9 I (by rw[e];exact True.intro) hs ⟨q,hq⟩ ⟨hl,hd,_,(rel.put k eb rv).keeps fun c ys ec=>?_,q,es,ep,hq,h2,h3,h4,h5⟩;rw[aP (u9 ec e (fun z=>nomatch z))];exact ec
end
section
variable {X:Cx}{pins:List (Addr×Obj)}{σ:St}{H:Hp}{s:Shared}{a:Addr}{kvs:List (Key×V)}{k:Key}{u:Value}{A:Around}{E:Value->Shared->Prop}
end
def yt(ty td:TE):TE:=fun σ H Q=>ty σ H fun y H1=>td σ H1 fun x H2=>∃a o,x=.ref a/\tE H2 a y o/\Q (.bl (!o.isSome)) H2
def EE(td ty tv:TE):TS:=fun D σ H=>tv σ H fun v H1=>td σ H1 fun x H2=>ty σ H2 fun y H3=>∃a H4,x=.ref a/\uq H3 a y v H4/\D.nx σ H4
section
variable {X:Cx}{o i e value:Expr}{pos pos' tpos:Pos}{td ty tv:TE}
theorem qR(hu:X.A.units+1<cLine)(hi:PE X i ty)(ho:PE X o td):PC X .NotIn i o (yt ty td):=by
 intro pins s σ H Q I h;refine thn (hi pins s σ H _ I h) fun iv s1 ⟨y,H1,I1,ry,q1⟩=>thn (ho pins s1 σ H1 _ I1 q1) fun u s2 y_=>?_;obtain⟨x,H2,I2,rx,a,ov,ex,g,q2⟩:=y_;subst ex;obtain rfl:u=Value.ref a:=rx;exact yn hu I2 g ry fun s3 I3=>⟨.bl (!ov.isSome),H2,I3,rfl,q2⟩
theorem zh(hu:X.A.units+1<cLine)(ho:PE X o td)(hi:PE X i ty)(hv:PE X value tv)(hs:swapsWith value (some (.Subscript o i pos')) pos.line X.env=pure false) :
  PS X (.Assign [.Subscript o i pos'] value pos) (EE td ty tv):=by
 intro pins s σ H D I h;refine wpAny_Assign_Subscript (thn (hv pins s σ H _ I h) fun r s1 ⟨v,H1,I1,rv,q1⟩=>thn (ho pins s1 σ H1 _ I1 q1) fun u s2 ⟨x,H2,I2,rx,q2⟩=>thn (hi pins s2 σ H2 _ I2 q2) fun iv s3 ⟨y,H3,I3,ry,a,H4,ex,g,q3⟩=>?_) hs;subst ex;obtain rfl:u=Value.ref a:=rx;exact rn hu I3 g ry rv fun s4 I4=>⟨σ,H4,I4,q3⟩
end
theorem vj{P:Program}{w:World}{H:Hp}(h:Heap)(hb:sysModules<h.objs.size):bM P w H (h.push { cls:=.type "dict",data:=.dict #[] }) h.objs.size (.dK []) :=
 ⟨Jk _,beq_eq_false_iff_ne.mpr (Ne.symm (B6 hb)),[],.nil,Heap.DictOf.new h⟩
section
variable {X:Cx}{pos:Pos}
end
def oM:List (TE×TE)->St->Hp->(List (V×V)->Hp->Prop)->Prop
 | [],_,H,Q=>Q [] H
 |(tk,tv)::r,σ,H,Q=>tk σ H fun x H1=>tv σ H1 fun y H2=>oM r σ H2 fun ps H3=>Q ((x,y)::ps) H3
abbrev VV:List (V×V)->List (Value×Value)->Prop:=Paired fun p q=>RelV p.1 q.1/\RelV p.2 q.2
def PPs(X:Cx)(pos:Pos)(keys:List (Option Expr))(values:List Expr)(trs:List (TE×TE)):Prop :=
 ∀(pins:List (Addr×Obj)) (s:Shared) (σ:St) (H:Hp) (Q:List (V×V)->Hp->Prop),Inv X pins σ H s->oM trs σ H Q ->
  wpAny (model X.prog X.w) X.A (evalPairs (pairTrees keys values X.env pos)) (fun vs s'=>∃ps H',Inv X pins σ H' s'/\VV ps vs/\Q ps H') X.xe s
theorem xn{X:Cx}{pos:Pos}:PPs X pos [] [] []:=fun pins s σ H Q I h=>pairTrees_nil_walk ⟨[],H,I,.nil,h⟩
theorem vG{X:Cx}{pos:Pos}{k v:Expr}{ks:List (Option Expr)}{vs:List Expr}{tk tv:TE}{trs:List (TE×TE)}(hk:PE X k tk)(hv:PE X v tv)(hr:PPs X pos ks vs trs) :
  PPs X pos (some k::ks) (v::vs) ((tk,tv)::trs):=fun pins s σ H Q I h =>
 pairTrees_cons_walk (thn (hk pins s σ H _ I h) fun u s1 ⟨x,H1,I1,rx,q1⟩=>thn (hv pins s1 σ H1 _ I1 q1) fun w2 s2 ⟨y,H2,I2,ry,q2⟩ =>
  thn (hr pins s2 σ H2 _ I2 q2) fun ws s3 y_=>by obtain⟨ps,H3,I3,rel,q3⟩:=y_;exact ⟨(x,y)::ps,H3,I3,.cons ⟨rx,ry⟩ rel,q3⟩)
def jY(kvs more:List (Key×V)):List (Key×V):=more.foldl (fun acc kv=>putK acc kv.1 kv.2) kvs
theorem KV.merge:∀{more:List (Key×V)} {rs:List (Key×Value)} {kvs:List (Key×V)} {vs:List (Key×Value)},KV more rs->KV kvs vs->KV (jY kvs more) (merged vs rs):=by
 intro more rs kvs vs r;unfold KV at r
 induction r generalizing kvs vs with
 | nil=>intro q;exact q
 | @cons p q ps qs h t ih =>
  intro r0;have e:KV (putK kvs p.1 p.2) (stored vs q.1 q.2):=by
   have:=r0.put p.1 h.2;rw[←h.1];exact this
  exact ih e
theorem fN:∀(more kvs:List (Key×V)),(jY kvs more).length≤kvs.length+more.length
 | [],kvs=>by show kvs.length≤kvs.length+0;omega
 | p::r,kvs=>by
  have h1:=fN r (putK kvs p.1 p.2);have h2:=eK kvs p.1 p.2;show(jY (putK kvs p.1 p.2) r).length≤_;rw[Ih];omega
theorem jy{P:Program}{w:World}:∀{kvs:List (Key×V)} {ws:List (Value×Value)},VV (kvs.map fun kv=>(kV kv.1,kv.2)) ws->∃rs,Carries (bS P w) ws rs/\KV kvs rs
 | [],_,r=>by rw[List.map_nil]at r;cases r;exact⟨[],True.intro,.nil⟩
 | p::kvs,_,r=>by
  rw[yd]at r;cases r with
  | @cons a b as bs h t =>
   obtain⟨rs,c,q⟩:=jy (P:=P) (w:=w) t;obtain⟨b1,b2⟩:=b;exact⟨(p.1,b2)::rs,⟨qD h.1,rfl,c⟩,.cons ⟨rfl,h.2⟩ q⟩
def Ez(trs:List (TE×TE)):TE:=fun σ H Q=>∀p,H p=none->oM trs σ (upd H p (.dK [])) fun ps H2=>H2 p=some (.dK [])/\∃kvs:List (Key×V),ps=kvs.map (fun kv=>(kV kv.1,kv.2))/\kvs.length≤15/\Q (.ref p) (upd H2 p (.dK (jY [] kvs)))
theorem xb{X:Cx}{pos:Pos}{keys:List (Option Expr)}{values:List Expr}{trs:List (TE×TE)}(h:PPs X pos keys values trs)(hall:keys.all (·.isSome)=true)(hl:keys.length=values.length)(h0:keys≠[])
  (h15:keys.length≤15):PE X (.Dict keys values pos) (Ez trs):=by
 intro pins s σ H Q I q;have hn:=I.hok.fresh (yi s.heap.objs.size);have I1:=I.laid (a:=s.heap.objs.size) (o:=.dK []) (h':=s.heap.push { cls:=.type "dict",data:=.dict #[] }) (t':=s.toks) (fun _ _ q=>va _ q) (yi _) (vj s.heap I.big);refine wpAny_Dict_walk (knd:=bS X.prog X.w) hall hl h0 h15 (thn (h pins _ σ _ _ I1 (q _ hn)) fun ws s2 y_=>?_);obtain⟨ps,H2,I2,rel,e,kvs,ep,lk,q2⟩:=y_;subst ep;obtain⟨rs,c,rk⟩:=jy (P:=X.prog) (w:=X.w) rel;obtain⟨z,hd,vs0,r0,dd⟩:=zU I2.hok e;cases r0;refine⟨rs,c,dd,fun h' dd' hs=>⟨.ref s.heap.objs.size,_,?_,rfl,q2⟩⟩;have hz:(jY [] kvs).length≤sizeLine:=by
  have h1:=fN kvs [];rw[List.length_nil]at h1;rw[IT];omega
 have he:∃q,h'.get? s.heap.objs.size=some q:=let ⟨q,_,_,hq,_⟩:=dd';⟨q,hq⟩
 exact l9 I2 (by rw[e];exact True.intro) hs he (tS hz hd (rk.merge .nil) dd')
end L2
namespace SI
section
variable {prog:Program}{w:World}{A:Around}{E:Value->Shared->Prop}{s:Shared}{T:String}{r d:Addr}{n:Nat}{P:Nat->Value->Prop}{OK:Heap->Prop}
theorem nX{Q:List Value->Shared->Prop}(K:PySem.W.KdlSrc prog w T r d n P OK)(hh:A.handled=none)(ho:OK s.heap)(hn:n≤sizeLine)
  (h:∀h' tk vs,s.heap.objs.size<h'.objs.size->(∀b o,s.heap.get? b=some o->h'.get? b=some o)->vs.length=n->(∀(j:Nat) (v:Value),vs[j]?=some v->P j v)->Q vs { s with heap:=h',toks:=tk }):wpAny (model prog w) A (collect (.ref r)) Q E s:=by
 obtain⟨hr,hd⟩:=K.there _ ho;generalize hN:s.heap.objs.size=N;have n1:N≠r:=by rw[←hN];exact JE hr
 have n2:N≠d:=by rw[←hN];exact JE hd
 have key:∀R:Result->Shared->Prop,(∀h' tk acc c,(∀b o,s.heap.get? b=some o->h'.get? b=some o)->h'.get? N=some { cls:=.type "list",dict:=none,data:=.seq acc c,slots:=#[] } ->
   ItemsOf P acc n->R (.ok (.ret (.ref N))) { s with heap:=h',toks:=tk })->codeAny (model prog w) A (.builtin "proto.collect" ⟨[.ref r],[]⟩) R s:=by
  intro R hR;refine I0 PyProof.Rows.entry_proto_collect' ?_;rw[IQ PySem.F.plain_proto_collect _];show wpAny (model prog w) A.in1 (newList [] >>= fun l=>again (.builtin "list.__iadd__" ⟨[l,.ref r],[]⟩)) _ _ s;refine uH (IF (wa ⟨JN PySem.F.plain_list_iadd _,I0 PySem.F.entry_list_iadd ?_⟩));rw[IQ PySem.F.plain_list_iadd _,hN];show wpAny (model prog w) A.in1 (Builtin.List.listExtendWith (.ref N) (.ref r) (.ref N)) _ _ _;have hS:(s.heap.push { cls:=.type "list",data:=.seq ([]:List Value).toArray }).get? N=some { cls:=.type "list",data:=.seq #[] 0 }:=by rw[←hN];exact yf _ rfl
  refine PySem.W.kdl_extend (s:={ s with heap:=s.heap.push { cls:=.type "list",data:=.seq ([]:List Value).toArray } }) K (by simpa using hh) (K.keep _ _ ho fun b _ o e=>va _ e) N n1 n2 (.ref N) 0 hS (fun h' tk acc c kp hS' hacc=>?_) hn;exact hR h' tk acc c (fun b o q=>kp b o (by rw[←hN];exact B6 (xV q)) (va _ q)) hS' hacc
 unfold collect;refine uH (wpAny_runValue (key _ fun h' tk acc c kp hS' hacc=>?_));show wpAny (model prog w) A (load N >>= _) _ _ _;refine uH (wpAny_load hS' (wa ?_));exact h h' tk acc.toList (by rw[hN];exact xV hS') kp (by rw[Jt];exact hacc.1) fun j v e=>hacc.2 j v (by rw[←IS];exact e)
theorem pw{ks:List Int}{Q:Value->Shared->Prop}(K:PySem.W.KdlSrc prog w T r d n P OK)(hh:A.handled=none)(ho:OK s.heap)(hn:n<64)(hk:∀vs:List Value,vs.length=n->(∀(j:Nat) (v:Value),vs[j]?=some v->P j v)->IntsAre vs ks)
  (h:∀(q:Addr) (h':Heap) (tk m:Nat) (out:List Value) (ms:List Int),s.heap.objs.size≤q->(∀b o,s.heap.get? b=some o->h'.get? b=some o)->h'.get? q=some (seqObj "list" out.toArray m)->IntsAre out ms->ms.Pairwise (·≤·)->ms.Perm ks->Q (.ref q) { s with heap:=h',toks:=tk }) :
  wpAny (model prog w) A (call (.builtin "sorted") [.ref r]) Q E s:=by
 refine Calls.call_function_entry kind_sorted plain_sorted entry_sorted (args_sorted1 _) ?_;unfold Builtin.«sorted»;refine uH (m:=checkCount "sorted" 1 1 _) (wa (uH (nX K (by simpa using hh) ho (by rw[IT];omega) fun h1 tk1 vs hgt k1 hlen hP=>?_)));have hi:=hk vs hlen hP;refine uH (wpAny_newList ?_ (by rw[hlen,IT];omega));have hoL:(h1.push (seqObj "list" vs.toArray 0)).get? h1.objs.size=some (seqObj "list" vs.toArray 0):=yf _ rfl;show wpAny (model prog w) _ _ _ _ { s with heap:=h1.push (seqObj "list" vs.toArray 0),toks:=tk1 };refine uH (Jr (IU slot_list_sort ⟨_,hoL,rfl⟩ entry_list_sort (list_sort_tree hoL hi (by omega) fun out ms a1 a2 a3=>⟨_,rfl,?_⟩) (args_list_sort _)));obtain⟨e,he2⟩:=sortedHeap_at (out:=out) hoL;refine wa ⟨_,rfl,h h1.objs.size (sortedHeap (h1.push (seqObj "list" vs.toArray 0)) h1.objs.size vs out) tk1 e out.toList ms (J2 hgt) (fun b o q=>?_) (by simpa using he2) a1 a3 a2⟩;rw[sortedHeap_old (B6 (xV (k1 b o q))) (by rw[Jz];exact Jx (xV (k1 b o q)))];exact va _ (k1 b o q)
end
end SI
namespace L2
variable {X:Cx}
def dkV(ks:List Int):List (Key×V):=ks.map fun n=>(Sum.inl n,V.bl true)
theorem lU{n:Int}:∀{ks:List Int},(fP (dkV ks) (Sum.inl n)).isSome=decide (n∈ks)
 | []=>rfl
 | k::ks=>by
  have ih:=lU (n:=n) (ks:=ks);by_cases h:k=n
  ·subst h;rw[show dkV (k::ks)=(Sum.inl k,V.bl true)::dkV ks from rfl,gP rfl];simp
  ·rw[show dkV (k::ks)=(Sum.inl k,V.bl true)::dkV ks from rfl,gO (by simpa using h),ih];have:n≠k:=fun e=>h e.symm;simp[this]
theorem ya{n:Int}{ks:List Int}(h:n∉ks):putK (dkV ks) (Sum.inl n) (V.bl true)=dkV (ks++[n]):=by
 have hn:fP (dkV ks) (Sum.inl n)=none:=by
  have:=lU (n:=n) (ks:=ks);cases q:fP (dkV ks) (Sum.inl n)with
  | none=>rfl
  | some v=>rw[q]at this;simp[h]at this
 rw[vJ _ hn];unfold dkV;rw[Ie];rfl
theorem oP(hc:X.calm=true):cv X (.builtin "sorted") (fun xs H Q=>∃(a:Addr) (ks:List Int),xs=[.ref a]/\H a=some (.dK (dkV ks))/\ks.length<64/\∀(r:Addr) (ms:List Int),H r=none->ms.Pairwise (·≤·)->ms.Perm ks->Q (.ref r) (upd H r (.lst (ms.map V.int)))):=by
 intro pins s σ H xs us Q I r h;obtain⟨a,ks,rfl,ha,hl,q⟩:=h;obtain⟨u,rfl,ru⟩:=Vals.one r;cases ru;obtain⟨hz,hd,vs,rk,dd⟩:=(show bM X.prog X.w H s.heap a (.dK (dkV ks))from I.hok a _ ha);obtain⟨ep,da⟩:=dd.dictAt;have hlen:vs.length=ks.length:=by
  have:=Paired.length rk;unfold dkV at this;rw[rS]at this;exact this.symm
 have hkey:∀(j:Nat) (k:Key) (x:Value),vs[j]?=some (k,x)->k=Sum.inl (ks.getD j 0):=by
  have gen:∀(ks:List Int) (vs:List (Key×Value)),KV (dkV ks) vs->∀(j:Nat) (k:Key) (x:Value),vs[j]?=some (k,x)->k=Sum.inl (ks.getD j 0):=by
   intro ks
   induction ks with
   | nil=>intro vs h j k x e;cases h;simp at e
   | cons n ks ih =>
    intro vs h j k x e;cases h with
    | cons h t =>
     cases j with
     | zero=>simp at e;subst e;exact h.1.symm
     | succ j=>simpa using ih _ t j k x (by simpa using e)
  exact gen ks vs rk
 refine SI.pw (ks:=ks) (PySem.W.kdl_dict hd) (I.ok.hd hc) da (by omega) (fun ws hw hP=>?_) fun r h' tk m out ms hge kp ho hi hs hp=>?_
 ·have gen:∀(ks:List Int) (ws:List Value),ws.length=ks.length->(∀(j:Nat) (v:Value),ws[j]?=some v->∃t,v=Value.int (ks.getD j 0) t)->IntsAre ws ks:=by
   intro ks
   induction ks with
   | nil=>intro ws h _;have:ws=[]:=IW.mp h;subst this;exact .nil
   | cons n ks ih =>
    intro ws h hv;cases ws with
    | nil=>simp at h
    | cons v ws =>
     obtain⟨t,e⟩:=hv 0 v rfl;have e':v=Value.int n t:=by simpa using e
     subst e';exact .cons _ _ (ih ws (by simpa using h) fun j u hu=>by simpa using hv (j+1) u (by simpa using hu))
  refine gen ks ws (by omega) fun j v e=>?_;obtain⟨k,x,e1,e2⟩:=hP j v e;rw[hkey j k x e1]at e2;have e3:Value.isInt (ks.getD j 0) v=true:=e2;cases v with
  | int i t =>
   have:i=ks.getD j 0:=by simpa[Value.isInt]using e3
   exact⟨t,by rw[this]⟩
  | _=>simp[Value.isInt]at e3
 ·have hn:H r=none:=I.hok.fresh hge;have hlm:ms.length=ks.length:=hp.length_eq;refine⟨.ref r,_,I.laid (t':=tk) (o:=.lst (ms.map V.int)) (fun b o e=>kp b o e) hge ?_,rfl,q r ms hn hs hp⟩;exact⟨by rw[rS,IT];omega,out,m,dG hi,ho⟩
end L2
namespace U
open L2
section
variable {B:Bs}{X:Cx}{a b o i value:Expr}{ta tb td ty:TE'}{pos pos':Pos}
def dkP(ks:List Int):PO:=.dK (ks.map fun n=>(Sum.inl n,PV.bl true))
theorem i0{K:PySem.W.Frag}{H:Hp}:∀{ks:List Int} {ws:List (Key×V)},eX K H (ks.map fun n=>((Sum.inl n:Key),PV.bl true)) ws->ws=dkV ks
 | [],_,.nil=>rfl
 | n::ks,(k,v)::ws,.cons h t=>by
  obtain⟨h1,h2⟩:=h;simp only[RP]at h2;dsimp only at h1 h2;subst h1;subst h2;rw[i0 t];rfl
theorem lE{K:PySem.W.Frag}{H:Hp}:∀{ks:List Int},eX K H (ks.map fun n=>((Sum.inl n:Key),PV.bl true)) (dkV ks)
 | []=>.nil
 | n::ks=>.cons ⟨rfl,by simp[RP]⟩ lE
def vb(p:Addr)(x:PV)(H:PHp)(Q:VK'):Prop:=match x with
 | .int n=>H p=some (.dK [])/\Q (.ref p) (put H p (dkP [n]))
 | _=>False
def vp(ta:TE'):TE':=fun σ H Q=>∀p,H p=none->ta σ (put H p (.dK [])) fun x H1=>vb p x H1 Q
theorem HL{p:Addr}{n:Int}{H:PHp}{Q:VK'}:vb p (.int n) H Q=(H p=some (.dK [])/\Q (.ref p) (put H p (dkP [n]))):=rfl
theorem vP{j:Nat}{bpos:Pos}(ha:PE' X B a ta):PE' X B (.Dict [some a] [.Constant (.bool true) j bpos] pos) (vp ta) :=
 a6 (xb (vG ha wU xn) rfl rfl (by simp) (by simp)) fun σ H Q y_=>by
  obtain⟨σ',H',Q',s,h,k⟩:=y_;intro p hp;have h1:=h p (s.hp.free hp);have new:OAt X.K (upd H p (.dK [])) p (.dK []):=⟨[],bc,.nil⟩;have s1:=s.new hp new;refine⟨σ',_,_,s1,h1,fun x' H1' x H1 h2 rx s2 e2=>?_⟩;show _/\_;unfold vb at h2;split at h2
  ·rename_i n;obtain⟨e,q⟩:=h2;simp only[RP]at rx;subst rx;obtain⟨ws,e3,fr⟩:=s2.hp _ _ e;cases fr;refine⟨e3,[(Sum.inl n,V.bl true)],rfl,by simp,?_⟩;have new2:OAt X.K (upd H1 p (.dK (dkV [n]))) p (dkP [n]):=⟨_,bc,lE⟩;exact k _ _ _ _ q (by simp[RP]) (s2.wr e new2) ((Ev.new hp).trans (e2.trans (Ev.wr e)))
  ·exact h2.elim
def om(y x:PV)(H:PHp)(Q:VK'):Prop:=match y,x with
 | .int n,.ref a=>∃ks,H a=some (dkP ks)/\Q (.bl (!decide (n∈ks))) H
 | _,_=>False
def qL(ty td:TE'):TE':=fun σ H Q=>ty σ H fun y H1=>td σ H1 fun x H2=>om y x H2 Q
theorem Fq{n:Int}{a:Addr}{H:PHp}{Q:VK'}:om (.int n) (.ref a) H Q=∃ks,H a=some (dkP ks)/\Q (.bl (!decide (n∈ks))) H:=rfl
theorem rW(hu:X.A.units+64<cLine)(hi:PE' X B i ty)(ho:PE' X B o td)(hm:behindInMarks .NotIn o=false:=by with_unfolding_all rfl):PT' X B (.Compare i [.NotIn] [o] pos) (m6 (qL ty td)) :=
 kX (CB (qR (by omega) hi ho) hm) fun σ H Q h=>by
  obtain⟨σ',H',Q',s,h,k⟩:=jI h;refine⟨σ',H',_,s,h,fun y' H1' y H1 h1 ry s1 e1=>⟨σ',H1',_,s1,h1,fun x' H2' x H2 h2 rx s2 e2=>?_⟩⟩;unfold om at h2;split at h2
  ·rename_i n a;obtain⟨ks,ea,q⟩:=h2;have ry2:=RP.kp X.K (e2.kp s1.hp) ry;simp only[RP]at rx ry2;subst rx;subst ry2;obtain⟨ws,ew,fr⟩:=s2.hp _ _ ea;rw[i0 fr]at ew;have:=tE.k (k:=Sum.inl n) ew;refine⟨a,_,rfl,this,?_⟩;rw[lU];exact k _ _ _ _ q (by simp[RP]) s2 (e1.trans e2)
  ·exact h2.elim
def putD(y x:PV)(H:PHp)(Q:PHp->Prop):Prop:=match y,x with
 | .int n,.ref a=>∃ks,H a=some (dkP ks)/\n∉ks/\ks.length<1000/\Q (put H a (dkP (ks++[n])))
 | _,_=>False
def Av(td ty:TE'):TS':=fun D σ H=>td σ H fun x H1=>ty σ H1 fun y H2=>putD y x H2 fun H3=>D.nx σ H3
theorem Fx{n:Int}{a:Addr}{H:PHp}{Q:PHp->Prop}:putD (.int n) (.ref a) H Q=∃ks,H a=some (dkP ks)/\n∉ks/\ks.length<1000/\Q (put H a (dkP (ks++[n]))):=rfl
theorem y6{j:Nat}{bpos:Pos}(hu:X.A.units+64<cLine)(ho:PE' X B o td)(hi:PE' X B i ty)(hs:swapsWith (.Constant (.bool true) j bpos) (some (.Subscript o i pos')) pos.line X.env=pure false:=by rfl) :
  PS' X B (.Assign [.Subscript o i pos'] (.Constant (.bool true) j bpos) pos) (Av td ty) :=
 cO (zh (by omega) ho hi wU hs) fun D σ H y_=>by
  obtain⟨σ',H',D',s,h,dd⟩:=y_;show(fun _=>_) _;refine⟨σ',H',_,s,h,fun x' H1' x H1 h1 rx s1 e1=>⟨σ',H1',_,s1,h1,fun y' H2' y H2 h2 ry s2 e2=>?_⟩⟩;unfold putD at h2;split at h2
  ·rename_i n a;obtain⟨ks,ea,hn,hl,q⟩:=h2;have rx2:=RP.kp X.K (e2.kp s1.hp) rx;simp only[RP]at rx2 ry;subst rx2;subst ry;obtain⟨ws,ew,fr⟩:=s2.hp _ _ ea;rw[i0 fr]at ew;have hlw:(dkV ks).length<sizeLine:=by unfold dkV;rw[rS];exact aZ (by omega)
   refine⟨a,_,rfl,uq.k (k:=Sum.inl n) ew hlw,?_⟩;rw[ya hn];have new:OAt X.K (upd H2 a (.dK (dkV (ks++[n])))) a (dkP (ks++[n])):=⟨_,bc,lE⟩;exact dd.nx _ _ _ _ q (s2.wr ea new) ((e1.trans e2).trans (Ev.wr ea))
  ·exact h2.elim
def ud:List PV->PHp->VK'->Prop:=cP fun x H Q=>match x with
 | .ref a=>∃ks:List Int,H a=some (dkP ks)/\ks.length<64/\∀(r:Addr) (ms:List Int),H r=none->ms.Pairwise (·≤·)->ms.Perm ks->Q (.ref r) (put H r (.lst (ms.map PV.int)))
 | _=>False
theorem FK{a:Addr}{H:PHp}{Q:VK'}:ud [.ref a] H Q=∃ks:List Int,H a=some (dkP ks)/\ks.length<64/\∀(r:Addr) (ms:List Int),H r=none->ms.Pairwise (·≤·)->ms.Perm ks->Q (.ref r) (put H r (.lst (ms.map PV.int))):=rfl
theorem wK{K:PySem.W.Frag}:VC K B ud (fun xs H Q=>∃(a:Addr) (ks:List Int),xs=[.ref a]/\H a=some (.dK (dkV ks))/\ks.length<64/\∀(r:Addr) (ms:List Int),H r=none->ms.Pairwise (·≤·)->ms.Perm ks->Q (.ref r) (upd H r (.lst (ms.map V.int)))):=by
 intro σ' σ H' H xs' xs Q' Q s r h k;obtain⟨x',x,rfl,rfl,rx,h⟩:=cP.ex h r;cases x' with
 | ref a =>
  obtain⟨ks,ea,hl,q⟩:=h;simp only[RP]at rx;subst rx;obtain⟨ws,ew,fr⟩:=s.hp _ _ ea;rw[i0 fr]at ew;refine⟨a,ks,rfl,ew,hl,fun r ms hr h1 h2=>?_⟩;exact k _ _ _ _ (q r ms (s.hp.free hr) h1 h2) (by simp[RP]) (s.new hr (j9 hr gg)) (Ev.new hr)
 | _=>exact h.elim
end
section
theorem A5:∀x H Q,yO x [] H Q->match x with | .ref a=>∃l,H a=some (.lst l) | _=>False:=by
 intro x H Q h;cases x with
 | ref a=>obtain⟨l,y,e,_⟩:=h;exact⟨l,e⟩
 | _=>exact h
end
end U
namespace L2
variable {X:Cx}
def Eg(K:PySem.W.Frag):List V->Hp->VK->Prop:=fun xs H Q=>∃(p:Addr) (bs:List Bool),xs=[.ref p]/\SqL K H p (bs.map V.bl)/\Q (.bl (bs.any id)) H
theorem vz(hc:X.calm=true):cv X (.builtin "any") (Eg X.K):=by
 intro pins s σ H xs us Q I r h;obtain⟨a,bs,rfl,hq,q⟩:=h;obtain⟨u,rfl,ru⟩:=Vals.one r;cases ru;obtain⟨its,rv,p,hz⟩:=I.list hq;have e:=fR rv;subst e;have hl:s.heap.IsList a (bs.map Value.bool).toArray:=p.isList;have llt:a<s.heap.objs.size:=by obtain⟨o,e,_⟩:=hl;exact xV e
 have hne:a≠s.heap.objs.size:=B6 llt;refine call_any_walk (JZ hl ?_);refine⟨s.heap.objs.size,[s.heap.objs.size,a],[s.heap.objs.size],(bs.map Value.bool).toArray.size,_,_,fun i=>bs.getD i false,rfl,Walks.list (by simpa using I.ok.hd hc) _ a hne _,⟨⟨_,yf _ rfl,rfl,rfl⟩,hl.at fun o e=>va _ e⟩,?_,?_⟩
 ·intro i v s' Q' E' hv hQ;have:v=Value.bool (bs.getD i false):=by
   have hv':(bs.map Value.bool)[i]?=some v:=by simpa using hv
   rw[II]at hv';cases hb:bs[i]? with
   | none=>rw[hb]at hv';cases hv'
   | some b=>rw[hb]at hv';cases hv';rw[wJ,hb];rfl
  subst this;exact JD hQ
 ·intro h' tk kp;have e:(List.range (bs.map Value.bool).toArray.size).any (fun i=>bs.getD i false)=bs.any id:=by
   have hs:(bs.map Value.bool).toArray.size=bs.length:=by simp
   rw[hs];rw[Jv,List.any_eq_true,List.any_eq_true];constructor
   ·rintro⟨i,hi,h⟩;have hi:=ID.mp hi;rw[wJ,sH hi]at h;exact⟨_,Ii hi,h⟩
   ·rintro⟨b,hb,h⟩;obtain⟨i,hi,e⟩:=List.getElem_of_mem hb;refine⟨i,ID.mpr hi,?_⟩;rw[wJ,sH hi,e];exact h
  rw[e];refine⟨.bl (bs.any id),H,I.kept (t':=tk) fun b o e=>?_,rfl,q⟩;exact kp b o (by simpa using B6 (xV e)) (va _ e)
theorem yQ{ns:List Nat}(hin:∀n∈ns,n<6)(nd:ns.Nodup):(SI.lof ns).length=ns.length:=by
 have h1:=(SI.j0 _ (SI.m7 hin)).2.2.1;exact((List.perm_ext_iff_of_nodup h1 nd).mpr fun x=>SI.qw).length_eq
theorem rE:cv X (.builtin "len") (fun xs H Q=>∃(S:Addr) (L:List Nat),xs=[.ref S]/\H S=some (.ext (kW X.w S L))/\Q (.int L.length) H):=by
 intro pins s σ H xs us Q I r h;obtain⟨S,L,rfl,hS,q⟩:=h;obtain⟨u,rfl,ru⟩:=Vals.one r;cases ru;obtain⟨P,_,_⟩:=(show bM X.prog X.w H s.heap S (.ext (kW X.w S L))from I.hok S _ hS);obtain⟨hL,es,ep,ho,he⟩:=P.is;have h6:=(SI.j0 L hL).2.1;have hz:=he.size;have hf:=(SI.mq L hL _ (SI.dP (SI.bH X.w))).1;rw[←hz]at hf q h6;exact call_len_set ho ⟨rfl,rfl,rfl⟩ rfl hf (by omega) ⟨.int es.size,H,I.tok _,⟨_,rfl⟩,q⟩
end L2
namespace U
open L2
variable {B:Bs}{X:Cx}{a b e:Expr}{ta tb:TE'}{p p2 pos pos2:Pos}
def Eo:R2':=uI uB fun i j=>.int (i*2 ^ j.toNat)
theorem AY(ha:PE' X B a ta)(hb:PE' X B b tb):PE' X B (.BinOp a .LShift b pos) (uOp Eo ta tb):=fM A3 (sO fun _ _ _=>by simp[RP]) ha hb
def D5:List PV->PHp->VK'->Prop:=cP fun x H Q=>match x with
 | .ref a=>∃bs:List Bool,H a=some (.lst (bs.map PV.bl))/\Q (.bl (bs.any id)) H
 | _=>False
theorem Ge{a:Addr}{H:PHp}{Q:VK'}:D5 [.ref a] H Q=∃bs:List Bool,H a=some (.lst (bs.map PV.bl))/\Q (.bl (bs.any id)) H:=rfl
theorem AH{K:PySem.W.Frag}:VC K B D5 (Eg K):=by
 intro σ' σ H' H xs' xs Q' Q s r h k;obtain⟨x',x,rfl,rfl,rx,h⟩:=cP.ex h r;cases x' with
 | ref a =>
  obtain⟨bs,ea,q⟩:=h;simp only[RP]at rx;subst rx;obtain⟨us,e,r2⟩:=s.hp _ _ ea;rw[h9 r2]at e;exact⟨a,bs,rfl,.inl (.inl e),k _ _ _ _ q (by simp[RP]) s (Ev.refl _ _)⟩
 | _=>exact h.elim
def qO(x:PV)(H:PHp)(Q:VK'):Prop:=match x with
 | .ref a=>∃ns:List Nat,H a=some (.lst (ns.map jr))/\(∀n∈ns,n<6)/\ns.Nodup/\Q (.int ns.length) H
 | _=>False
theorem Gh{a:Addr}{H:PHp}{Q:VK'}:qO (.ref a) H Q=∃ns:List Nat,H a=some (.lst (ns.map jr))/\(∀n∈ns,n<6)/\ns.Nodup/\Q (.int ns.length) H:=rfl
def mQ(ta:TE'):TE':=fun σ H Q=>ta σ H fun x H1=>qO x H1 Q
theorem nh(hc:X.calm=true)(hgl:Gl X "len")(hml:X.mg "len"=none)(hgs:Gl X "set")(hms:X.mg "set"=none)(bs:bootBuiltins "set"=some (.type "set"))(ha:PE' X B e ta)
  (he:starEach [.Call (.Name "set" p2) [e] [] pos2] X.env=[(false,eval (.Call (.Name "set" p2) [e] [] pos2) X.env)]:=by rfl) (he2:starEach [e] X.env=[(false,eval e X.env)]:=by rfl) :
  PE' X B (.Call (.Name "len" p) [.Call (.Name "set" p2) [e] [] pos2] [] pos) (mQ ta) :=
 a6 (dI rE hgl hml Im (bU (fu (kO hc) hgs hms bs (bU ha cI he2) (by decide) (by decide) he2 rfl) cI he) (by decide) (by decide) he rfl) fun σ H Q h=>by
  obtain⟨σ',H',Q',s,h,k⟩:=h;refine⟨σ',H',_,s,h,fun x' H1' x H1 h1 rx s1 e1=>?_⟩;cases x' with
  | ref a =>
   obtain⟨ns,ea,hin,nd,q⟩:=h1;simp only[RP]at rx;subst rx;obtain⟨us,eg,r2⟩:=s1.hp _ _ ea;rw[ji r2]at eg;refine⟨a,ns,rfl,.inl (.inl eg),hin,fun S hS=>⟨S,SI.lof ns,rfl,bc,?_⟩⟩;rw[←yQ hin nd]at q;exact k _ _ _ _ q (by simp[RP]) (s1.hid hS) (e1.trans (Ev.hid hS))
  | _=>exact h1.elim
end U
namespace TR
section
variable {prog:Program}{w:World}{A:Around}{E:Value->Shared->Prop}{s:Shared}
theorem j7{Q:List Value->Shared->Prop}{r:Addr}{a b c:Int}{t u v:Tok}{n:Nat}(hh:A.handled=none)(hr:IsRange s.heap r a b c t u v)(hs:Builtin.Range.small a b c=true)(hn:Builtin.Range.rangeSize a b c=n)(hl:n≤2 ^ 24)
  (q:∀(h':Heap) tk acc,(∀b o,s.heap.get? b=some o->h'.get? b=some o)->ItemsOf (fun i v=>∃t,v=.int (a+i*c) t) acc n->Q acc.toList { s with heap:=h',toks:=tk }):wpAny (model prog w) A (collect (.ref r)) Q E s:=by
 unfold collect;refine uH (wpAny_runValue (I0 F.entry_proto_collect ?go))
 case go =>
  rw[IQ F.plain_proto_collect _];show wpAny _ A.in1 (newList [] >>= fun l=>again (.builtin "list.__iadd__" ⟨[l,.ref r],[]⟩)) _ _ s;refine uH (IF (wa ⟨JN F.plain_list_iadd _,I0 F.entry_list_iadd ?_⟩));rw[IQ F.plain_list_iadd _];show wpAny _ A.in1 (Builtin.List.listExtendWith (.ref s.heap.objs.size) (.ref r) (.ref s.heap.objs.size)) _ _ _;have hS0:(s.heap.push { cls:=.type "list",data:=.seq ([]:List Value).toArray }).get? s.heap.objs.size=some { cls:=.type "list",data:=.seq #[] }:=yf _ rfl;refine wpAny_extend_range (R:=fun r s'=>match r with | .ok (.ret v)=>wpAny (model prog w) A (match v with | .ref a=>(do match (← load a).data with | .seq xs _=>pure xs.toList | _=>unsupported "internal:collect") | _=>unsupported "internal:collect") Q E s' | .ok _=>False | .error e=>E e s') (s:={ s with heap:=s.heap.push { cls:=.type "list",data:=.seq ([]:List Value).toArray } }) hh (va _ hr) hs hn hl _ _ 0 hS0 fun h' tk acc c' hk hS hacc=>?_;show wpAny _ A (load s.heap.objs.size >>= _) _ _ _;exact uH (wpAny_load hS (wa (q h' tk acc (fun b o e=>hk b o (B6 (xV e)) (va _ e)) hacc)))
end
open AutoSeq1 (wpAny_loadPart')
theorem iy{r:Addr}{a b c:Int}{t u v:Tok}{n:Nat}(hs:Builtin.Range.small a b c=true)(hn:Builtin.Range.rangeSize a b c=n)(hl:n≤2 ^ 24) :
  Meets (Builtin.«tuple.__new__» ⟨[.type "tuple",.ref r],[]⟩)
   (fun A R s=>A.handled=none/\IsRange s.heap r a b c t u v/\∀(h':Heap) tk acc,(∀b o,s.heap.get? b=some o->h'.get? b=some o)->ItemsOf (fun i v=>∃t,v=.int (a+i*c) t) acc n ->
    R (.ok (.ret (.ref h'.objs.size))) { s with heap:=h'.push { cls:=.type "tuple",data:=.seq acc },toks:=tk }) :=
 .of_wp fun prog w A R s h=>by
  obtain⟨hh,hr,h⟩:=h;have hsub:=sub_tuple_self;have hinit:=init_tuple_lookup;have hmh:=madeHere_tuple;have hT:s.TypeIs (.ref r) "range":=⟨_,hr,rfl⟩;have hh1:A.in1.handled=none:=hh
  wp_walk using wpAny_typeOf hT,j7 hh1 hr hs hn hl
  intro h' tk acc hk hacc;show wpAny _ _ (Builtin.Tuple.tupleExact acc.toList.toArray >>= fun v=>ret v) _ _ _;unfold Builtin.Tuple.tupleExact;have e:acc.toList.toArray=acc:=by simp
  rw[e];refine uH (IF (wa ⟨_,rfl,h h' tk acc hk hacc⟩) (show acc.size≤sizeLine by rw[hacc.1,IT];omega))
section
variable {prog:Program}{w:World}{A:Around}{E:Value->Shared->Prop}{s:Shared}
theorem iu{Q:Value->Shared->Prop}{r:Addr}{a b c:Int}{t u v:Tok}{n:Nat}(hh:A.handled=none)(hr:IsRange s.heap r a b c t u v)(hs:Builtin.Range.small a b c=true)(hn:Builtin.Range.rangeSize a b c=n)(hl:n≤2 ^ 24)
  (q:∀(h':Heap) tk acc,(∀b o,s.heap.get? b=some o->h'.get? b=some o)->ItemsOf (fun i v=>∃t,v=.int (a+i*c) t) acc n->Q (.ref h'.objs.size) { s with heap:=h'.push { cls:=.type "tuple",data:=.seq acc },toks:=tk }) :
  wpAny (model prog w) A (call (.type "tuple") [.ref r]) Q E s :=
 callType_new F.called_tuple (by decide) (F.typeCall_tuple_1 _) (F.newCall_tuple_1 _) (fun obj=>F.args_object_init_2 obj _) F.entry_tuple_new
  (iy (r:=r) (t:=t) (u:=u) (v:=v) hs hn hl) ⟨hh,hr,fun h' tk acc hk hacc=>⟨⟨_,yf _ rfl,rfl⟩,q h' tk acc hk hacc⟩⟩
end
end TR
namespace L2
variable {X:Cx}{a:Expr}{ta:TE}{p p2 pos pos2:Pos}
def hG(n:Nat):List V:=(List.range n).map fun k=>V.int ((k:Nat):Int)
theorem mO{n:Nat}(h:n<1000):Builtin.Range.rangeSize 0 (n:Int) 1=(n:Nat)/\Builtin.Range.small 0 (n:Int) 1=true:=by
 have e:Builtin.Range.rangeSize 0 (n:Int) 1=(n:Nat):=by
  unfold Builtin.Range.rangeSize;rw[Ij (by decide)];split<;>omega
 refine⟨e,?_⟩;unfold Builtin.Range.small;rw[e];have hn:((n:Nat):Int)≤1000:=by omega
 have h0:(0:Int)≤((n:Nat):Int):=by omega
 generalize ((n:Nat):Int)=m at *;simp only[Builtin.Range.rangeFitsLong,Jq,Bool.or_eq_true,IX,JK];refine⟨⟨⟨⟨by omega,by omega⟩,by decide⟩,by omega⟩,?_⟩;refine .inr ?_;rw[Ij (by decide),Jq,IX,IX];exact⟨by omega,by omega⟩
theorem mD{n:Nat}{acc:Array Value}(h:ItemsOf (fun i v=>∃t,v=Value.int (0+i*1) t) acc n):Vals (hG n) acc.toList:=by
 obtain⟨h1,h2⟩:=h;have key:∀(l:List Value) (k:Nat),(∀j v,l[j]?=some v->∃t,v=Value.int ((k+j:Nat):Int) t)->Vals ((List.range l.length).map fun j=>V.int ((k+j:Nat):Int)) l:=by
  intro l
  induction l with
  | nil=>intro k _;exact .nil
  | cons v l ih =>
   intro k hh;rw[Ih,List.range_succ_eq_map,yd,IV];obtain⟨t,e⟩:=hh 0 v rfl;have:=ih (k+1) fun j v hj=>by
    have:=hh (j+1) v (by simpa using hj);rw[show k+1+j=k+(j+1) by omega];exact this
   refine .cons ⟨t,e⟩ ?_;have ee:((fun j=>V.int ((k+j:Nat):Int)) ∘ Nat.succ)=fun j=>V.int ((k+1+j:Nat):Int):=by
    funext j;show V.int ((k+(j+1):Nat):Int)=_;rw[show k+(j+1)=k+1+j by omega]
   rw[ee];exact this
 have:=key acc.toList 0 fun j v hj=>by
  obtain⟨t,e⟩:=h2 j v (by simpa using hj);exact⟨t,by rw[e];congr 1;omega⟩
 rw[Jt,h1]at this;unfold hG;simpa using this
def DQ(ta:TE):TE:=fun σ H Q=>ta σ H fun x H1=>∃n:Nat,[x]=[V.int (n:Nat)]/\n<1000/\∀q,H1 q=none->Q (.ref q) (upd H1 q (.tup (hG n)))
theorem yW(hc:X.calm=true)(hg:Gl X "tuple")(hm:X.mg "tuple"=none)(hg2:Gl X "range")(hm2:X.mg "range"=none)(b1:bootBuiltins "tuple"=some (.type "tuple"))(ha:PE X a ta)
  (he:starEach [.Call (.Name "range" p2) [a] [] pos2] X.env=[(false,eval (.Call (.Name "range" p2) [a] [] pos2) X.env)]:=by rfl) (he2:starEach [a] X.env=[(false,eval a X.env)]:=by rfl) (hpl:(backTo pos (starEach [] X.env)).any (·.1)=false:=by rfl) (hpl2:(backTo pos2 (starEach [] X.env)).any (·.1)=false:=by rfl) :
  PE X (.Call (.Name "tuple" p) [.Call (.Name "range" p2) [a] [] pos2] [] pos) (DQ ta):=by
 intro pins s σ H Q I h;refine Jl (cN I hg hm b1 ?_ (by decide) (by decide));refine IK ?_ he hpl;rw[he];show wpAny _ _ (spliced ((false,eval (.Call (.Name "range" p2) [a] [] pos2) X.env)::[])) _ _ s;refine Calls.spliced_cons ?_;refine Jl (cN I hg2 hm2 boot_range ?_ (by decide) (by decide));refine IK ?_ he2 hpl2;refine thn (bU ha cI he2 pos2 pins s σ H (fun xs H1=>∃n:Nat,xs=[.int (n:Nat)]/\n<1000/\∀q,H1 q=none->Q (.ref q) (upd H1 q (.tup (hG n)))) I h) fun us s1 y_=>?_;obtain⟨vs,H1,I1,r1,q1⟩:=y_;obtain⟨n,rfl,hn,q⟩:=q1;obtain⟨u,rfl,t,rfl⟩:=vals1 r1;obtain⟨e1,e2⟩:=mO hn;refine call_range_1 ?_;refine Calls.spliced_nil ?_;refine TR.iu (I.ok.hd hc) (IsRange.new ..) e2 e1 (by omega) fun h' tk acc kp hacc=>?_;have k2:∀b o,s1.heap.get? b=some o->h'.get? b=some o:=fun b o e=>kp b o (va _ e);have I2:Inv X pins σ H1 { s1 with heap:=h',toks:=tk }:=I1.kept (t':=tk) k2;refine⟨.ref _,_,I2.laid (t':=tk) (o:=.tup (hG n)) (fun b o e=>va _ e) (yi _) ?_,rfl,q _ (I2.hok.fresh (yi _))⟩;refine⟨by unfold hG;rw[rS,IM,IT];omega,acc.toList,mD hacc,?_⟩;have e:acc.toList.toArray=acc:=by simp
 rw[e];exact IsTup.new _ _
end L2
namespace U
open L2
variable {B:Bs}{X:Cx}{a:Expr}{ta:TE'}{p p2 pos pos2:Pos}
def DN(x:PV)(H:PHp)(Q:VK'):Prop:=match x with
 | .int i=>0≤i/\i<1000/\Q (.tup (b7 0 i.toNat)) H
 | _=>False
theorem GX{i:Int}{H:PHp}{Q:VK'}:DN (.int i) H Q=(0≤i/\i<1000/\Q (.tup (b7 0 i.toNat)) H):=rfl
def Ak(ta:TE'):TE':=fun σ H Q=>ta σ H fun x H1=>DN x H1 Q
theorem qy{K:PySem.W.Frag}{H:Hp}{n:Nat}:RPs K H (b7 0 n) (hG n):=by
 have e1:b7 0 n=((List.range n).map fun k=>((k:Nat):Int)).map PV.int:=by
  unfold b7;rw[IV];refine List.map_congr_left fun k _=>?_;show PV.int (0+((k:Nat):Int))=PV.int ((k:Nat):Int);rw[Int.zero_add]
 have e2:hG n=((List.range n).map fun k=>((k:Nat):Int)).map V.int:=by unfold hG;rw[IV];rfl
 rw[e1,e2];exact RPs.ints K _
theorem lJ(hc:X.calm=true)(hg:Gl X "tuple")(hm:X.mg "tuple"=none)(hg2:Gl X "range")(hm2:X.mg "range"=none)(b1:bootBuiltins "tuple"=some (.type "tuple"))(ha:PE' X B a ta)
  (he:starEach [.Call (.Name "range" p2) [a] [] pos2] X.env=[(false,eval (.Call (.Name "range" p2) [a] [] pos2) X.env)]:=by rfl) (he2:starEach [a] X.env=[(false,eval a X.env)]:=by rfl) (hpl:(backTo pos (starEach [] X.env)).any (·.1)=false:=by rfl) (hpl2:(backTo pos2 (starEach [] X.env)).any (·.1)=false:=by rfl) :
  PE' X B (.Call (.Name "tuple" p) [.Call (.Name "range" p2) [a] [] pos2] [] pos) (Ak ta) :=
 a6 (yW hc hg hm hg2 hm2 b1 ha he he2 hpl hpl2) fun σ H Q h=>by
  obtain⟨σ',H',Q',s,h,k⟩:=h;refine⟨σ',H',_,s,h,fun x' H1' x H1 h1 rx s1 e1=>?_⟩;cases x' with
  | int i =>
   obtain⟨h0,h3,q⟩:=h1;simp only[RP]at rx;refine⟨i.toNat,by rw[rx,Int.toNat_of_nonneg h0],by omega,fun q' hq=>?_⟩;exact k _ _ _ _ q (mm hq qy) (s1.hid hq) (e1.trans (Ev.hid hq))
  | _=>exact h1.elim
end U
namespace L2
variable {X:Cx}{a:Expr}{ta:TE}{p p2 pos pos2:Pos}
def FH(ta:TE):TE:=fun σ H Q=>ta σ H fun x H1=>∃n:Nat,[x]=[V.int (n:Nat)]/\n<1000/\∀q,H1 q=none->Q (.ref q) (upd H1 q (.lst (hG n)))
theorem A9(hc:X.calm=true)(hg:Gl X "list")(hm:X.mg "list"=none)(hg2:Gl X "range")(hm2:X.mg "range"=none)(b1:bootBuiltins "list"=some (.type "list"))(ha:PE X a ta)
  (he:starEach [.Call (.Name "range" p2) [a] [] pos2] X.env=[(false,eval (.Call (.Name "range" p2) [a] [] pos2) X.env)]:=by rfl) (he2:starEach [a] X.env=[(false,eval a X.env)]:=by rfl) (hpl:(backTo pos (starEach [] X.env)).any (·.1)=false:=by rfl) (hpl2:(backTo pos2 (starEach [] X.env)).any (·.1)=false:=by rfl) :
  PE X (.Call (.Name "list" p) [.Call (.Name "range" p2) [a] [] pos2] [] pos) (FH ta):=by
 intro pins s σ H Q I h;refine Jl (cN I hg hm b1 ?_ (by decide) (by decide));refine IK ?_ he hpl;rw[he];show wpAny _ _ (spliced ((false,eval (.Call (.Name "range" p2) [a] [] pos2) X.env)::[])) _ _ s;refine Calls.spliced_cons ?_;refine Jl (cN I hg2 hm2 boot_range ?_ (by decide) (by decide));refine IK ?_ he2 hpl2;refine thn (bU ha cI he2 pos2 pins s σ H (fun xs H1=>∃n:Nat,xs=[.int (n:Nat)]/\n<1000/\∀q,H1 q=none->Q (.ref q) (upd H1 q (.lst (hG n)))) I h) fun us s1 y_=>?_;obtain⟨vs,H1,I1,r1,q1⟩:=y_;obtain⟨n,rfl,hn,q⟩:=q1;obtain⟨u,rfl,t,rfl⟩:=vals1 r1;obtain⟨e1,e2⟩:=mO hn;refine call_range_1 ?_;refine Calls.spliced_nil ?_;refine call_list_range (I.ok.hd hc) (IsRange.new ..) e2 e1 (by omega) fun h' tk acc c' kp hS hacc=>?_;have k2:∀b o,s1.heap.get? b=some o->h'.get? b=some o:=fun b o e=>kp b o (va _ e);have hp:s1.heap.objs.size≤(s1.heap.push { cls:=.type "range",data:=.fields #[.int 0 s1.toks,.int (n:Nat) t,.int 1 (s1.toks+1)] }).objs.size:=by rw[Jz];exact Nat.le_succ _
 refine⟨.ref _,_,I1.laid (t':=tk) (o:=.lst (hG n)) k2 hp ?_,rfl,q _ (I1.hok.fresh hp)⟩;refine⟨by unfold hG;rw[rS,IM,IT];omega,acc.toList,c',mD hacc,?_⟩;have e:acc.toList.toArray=acc:=by simp
 rw[e];exact hS
end L2
namespace U
open L2
variable {B:Bs}{X:Cx}{a:Expr}{ta:TE'}{p p2 pos pos2:Pos}
def lsR(x:PV)(H:PHp)(Q:VK'):Prop:=match x with
 | .int i=>0≤i/\i<1000/\∀r,H r=none->Q (.ref r) (put H r (.lst (b7 0 i.toNat)))
 | _=>False
theorem FZ{i:Int}{H:PHp}{Q:VK'}:lsR (.int i) H Q=(0≤i/\i<1000/\∀r,H r=none->Q (.ref r) (put H r (.lst (b7 0 i.toNat)))):=rfl
def E4(ta:TE'):TE':=fun σ H Q=>ta σ H fun x H1=>lsR x H1 Q
theorem px(hc:X.calm=true)(hg:Gl X "list")(hm:X.mg "list"=none)(hg2:Gl X "range")(hm2:X.mg "range"=none)(b1:bootBuiltins "list"=some (.type "list"))(ha:PE' X B a ta)
  (he:starEach [.Call (.Name "range" p2) [a] [] pos2] X.env=[(false,eval (.Call (.Name "range" p2) [a] [] pos2) X.env)]:=by rfl) (he2:starEach [a] X.env=[(false,eval a X.env)]:=by rfl) (hpl:(backTo pos (starEach [] X.env)).any (·.1)=false:=by rfl) (hpl2:(backTo pos2 (starEach [] X.env)).any (·.1)=false:=by rfl) :
  PE' X B (.Call (.Name "list" p) [.Call (.Name "range" p2) [a] [] pos2] [] pos) (E4 ta) :=
 a6 (A9 hc hg hm hg2 hm2 b1 ha he he2 hpl hpl2) fun σ H Q h=>by
  obtain⟨σ',H',Q',s,h,k⟩:=h;refine⟨σ',H',_,s,h,fun x' H1' x H1 h1 rx s1 e1=>?_⟩;cases x' with
  | int i =>
   obtain⟨h0,h3,q⟩:=h1;simp only[RP]at rx;refine⟨i.toNat,by rw[rx,Int.toNat_of_nonneg h0],by omega,fun r hr=>?_⟩;exact k _ _ _ _ (q r (s1.hp.free hr)) (by simp[RP]) (s1.new hr (j9 hr qy)) (e1.trans (Ev.new hr))
  | _=>exact h1.elim
end U
namespace L2
variable {X:Cx}{pos:Pos}
def F7(K:PySem.W.Frag)(n:Nat)(t:TGs):TG:=fun v σ H Q=>∃a xs,v=.ref a/\SqL K H a xs/\xs.length=n/\t xs σ H Q
theorem A4{es:List Expr}{k:Nat}{t:TGs}{n:Nat}(hc:X.calm=true)(h:PGs X es t)(hn:(assignEach es X.env).length=n:=by rfl)(hst:(assignEach es X.env).findIdx? (·.1)=none:=by rfl) :
  PG X (.Tuple es k pos) (F7 X.K n t):=by
 intro pins s σ H v u Q I r hw;obtain⟨a,xs,e1,hq,hl,hw⟩:=hw;subst e1;cases r;obtain⟨its,rv,p,hz⟩:=I.list hq;rw[assign_Tuple];refine uH (wpAny_standAt ?_);unfold unpack;rw[hst,show(assignEach es X.env).length=its.toArray.size by simp[hn,← hl,rv.length]];refine uH (Jr (PySem.W.kun_itemsOf (I.ok.hd hc) p.isList fun h' hx=>?_));have I1:Inv X pins σ H { s with heap:=h' }:=I.kept (t':=s.toks) fun b o e=>hx b o (B6 (xV e)) e;exact h pins _ σ H xs _ Q I1 (by simpa using rv) hw
end L2
namespace U
open L2
variable {B:Bs}{X:Cx}{es:List Expr}{pos:Pos}
def D4(n:Nat)(t:ie):TG':=fun v σ H Q=>match v with
 | .ref a=>∃l,H a=some (.lst l)/\l.length=n/\t l σ H Q
 | _=>False
theorem Hq{n:Nat}{t:ie}{a:Addr}{σ:St'}{H:PHp}{Q:St'->PHp->Prop}:D4 n t (.ref a) σ H Q=∃l,H a=some (.lst l)/\l.length=n/\t l σ H Q:=rfl
theorem wC{k:Nat}{t:ie}{n:Nat}(hc:X.calm=true)(h:we X B es t)(hn:(assignEach es X.env).length=n:=by rfl)(hst:(assignEach es X.env).findIdx? (·.1)=none:=by rfl):PG' X B (.Tuple es k pos) (D4 n t) :=
 pG (A4 hc h hn hst) fun v σ H Q y_=>by
 obtain⟨v',σ',H',Q',r,s,h,k⟩:=y_;cases v' with
 | ref a =>
  obtain⟨l,e,hl,h⟩:=h;simp only[RP]at r;subst r;obtain⟨us,q,r⟩:=s.hp _ _ e;exact⟨a,us,rfl,.inl (.inl q),by rw[RPs.length _ r];exact hl,l,σ',H',Q',r,s,h,k⟩
 | _=>exact h.elim
end U
namespace EN
section
variable {prog:Program}{w:World}{A:Around}{E:Value->Shared->Prop}{s:Shared}
theorem CY{it a:Addr}{j:Nat}{its:Array Value}{x:Value}{Q:Value->Shared->Prop}(hi:s.heap.IsTupleIter it a j)(ht:s.heap.IsTuple a its)(hx:its[j]?=some x)
  (q:∀h1,h1.IsTupleIter it a (j+1)->Heap.SameBut it s.heap h1->Q x { s with heap:=h1 }):wpAny (model prog w) A (Builtin.SmallTypes.nextOf (.ref it)) Q E s:=by
 obtain⟨u,hu,k1,k2⟩:=id hi;obtain⟨v,hv,_,m,k3⟩:=ht;unfold Builtin.SmallTypes.nextOf;refine uH (Jp (name:=Str.ofString "__next__") hi.typeIs F.slot_tuple_iterator_next (IU F.slot_tuple_iterator_next hi.typeIs F.entry_tuple_iterator_next ?_ (F.args_tuple_iterator_next_1 _)));show wpAny _ _ (field (Value.ref it) 0 >>= _) _ _ s;refine uH (JB hu k2 (x:=.ref a) rfl ?_);show wpAny _ _ (if (Value.ref a==Value.none)=true then _ else _) _ _ s;rw[CI (show ¬(Value.ref a==Value.none)=true from JA)];show wpAny _ _ (field (Value.ref it) 1 >>= _) _ _ s;refine uH (JB hu k2 (x:=.int j 0) rfl ?_);show wpAny _ _ (seqItems? (Value.ref a) >>= _) _ _ s;refine uH (wpAny_seqItems hv k3 ?_);simp only[Je,hx];refine uH (JT hu k2 (by simp) (wa ⟨x,rfl,wa (q _ ?_ (Jb ..))⟩));refine⟨_,IY _ hu (Obj.isFreed_of_fields (Obj.data_mapFields k2 _)),(Obj.cls_mapFields ..).trans k1,?_⟩;rw[Obj.data_mapFields k2];simp[rawInt]
theorem Er{it a:Addr}{j:Nat}{its:Array Value}{Q:Value->Shared->Prop}(hA:A.handled=none)(hi:s.heap.IsTupleIter it a j)(ht:s.heap.IsTuple a its)(hx:its[j]?=none)
  (q:∀h1 e,Heap.ExtBut it s.heap h1->(∃o,h1.get? e=some o/\o.cls=.type "StopIteration")->E (.ref e) { s with heap:=h1 }):wpAny (model prog w) A (Builtin.SmallTypes.nextOf (.ref it)) Q E s:=by
 obtain⟨u,hu,k1,k2⟩:=id hi;obtain⟨v,hv,_,m,k3⟩:=ht;unfold Builtin.SmallTypes.nextOf;refine uH (Jp (name:=Str.ofString "__next__") hi.typeIs F.slot_tuple_iterator_next (IU F.slot_tuple_iterator_next hi.typeIs F.entry_tuple_iterator_next ?_ (F.args_tuple_iterator_next_1 _)));show wpAny _ _ (field (Value.ref it) 0 >>= _) _ _ s;refine uH (JB hu k2 (x:=.ref a) rfl ?_);show wpAny _ _ (if (Value.ref a==Value.none)=true then _ else _) _ _ s;rw[CI (show ¬(Value.ref a==Value.none)=true from JA)];show wpAny _ _ (field (Value.ref it) 1 >>= _) _ _ s;refine uH (JB hu k2 (x:=.int j 0) rfl ?_);show wpAny _ _ (seqItems? (Value.ref a) >>= _) _ _ s;refine uH (wpAny_seqItems hv k3 ?_);simp only[Je,hx];refine uH (wpAny_rule (uH (JT hu k2 (by simp) ?_)));show wpAny _ _ (newExc (Value.type "StopIteration") [] >>= _) _ _ _;refine uH (?_);simp only[newTuple,newExc];refine uH (IF (?_) (by size_fits));refine uH (m:=firstArgMember _ _) (JO (a:=Value.none) (by first | rfl |(simp only[firstArgMember];rfl)) (?_));refine IF (?_) (by size_fits);simp only[raiseNew,bind_assoc];refine uH (wpAny_handled (?_))
 first | rw[show A.in1.handled=none from hA] | rw[hA]
 refine uH (wa (wpAny_throw (?_)));exact q _ _ (((Jb ..).extBut.push _).push _) ⟨_,yf _ rfl,rfl⟩
end
theorem qC{prog:Program}{w:World}{A:Around}(hA:A.handled=none)(it a:Addr)(ne:a≠it)(its:Array Value) :
  Draws prog w A it [it,a] its.size (fun i v=>its[i]?=some v) (fun i h=>h.IsTupleIter it a i/\h.IsTuple a its) where
 live:=fun _ _ st=>let ⟨o,ho,_⟩:=st.1;⟨o,ho⟩
 frame:=fun _ _ _ st hk=>⟨st.1.at fun o e=>hk it (by simp) o e,st.2.at fun o e=>hk a (by simp) o e⟩
 item:=fun i s Q E hi st q=>CY st.1 st.2 (x:=its[i]) (by simp[hi]) fun h1 t1 b1=>q _ h1 s.toks (by simp[hi]) ⟨t1,st.2.extBut b1.extBut ne⟩ b1
 done:=fun s Q E st q=>Er hA st.1 st.2 (by simp) q
theorem xj(a:Addr)(its:Array Value) :
  Meets (Builtin.«enumerate.__new__» ⟨[.type "enumerate",.ref a],[]⟩) (fun _ R s=>s.heap.IsTuple a its /\
   R (.ok (.ret (.ref (s.heap.push { cls:=.type "tuple_iterator",data:=.fields #[.ref a,.int 0 0] }).objs.size)))
    { s with heap:=(s.heap.push { cls:=.type "tuple_iterator",data:=.fields #[.ref a,.int 0 0] }).push { cls:=.type "enumerate",data:=.fields #[.none,.bool false,.ref s.heap.objs.size,rawInt 0,.none,.none] } }) :=
 .of_wp fun prog w A R s h=>by
  obtain⟨hp,g,d,tk,os⟩:=s;obtain⟨ht,h⟩:=h;have hsub:=sub_enumerate;obtain⟨o,ho,hc,n,hd⟩:=id ht
  wp_walk using AutoSeq1.wpAny_loadPart' ho
  refine wpAny_stack_any fun st=>wa ?_;split
  ·rename_i c _ _ _ _ _;cases (c==Value.type "enumerate") <;>
    (wp_walk using AutoSeq1.wpAny_loadPart' ho,wpAny_pyIter_tuple ht
     exact ⟨_,rfl,h⟩)
  ·wp_walk using AutoSeq1.wpAny_loadPart' ho,wpAny_pyIter_tuple ht
   exact⟨_,rfl,h⟩
theorem A6{prog:Program}{w:World}{A:Around}{E:Value->Shared->Prop}{s:Shared}{a:Addr}{its:Array Value}{Q:Value->Shared->Prop}(ht:s.heap.IsTuple a its)
  (h:∀h1,IsEnum h1 (s.heap.objs.size+1) s.heap.objs.size 0 .none->h1.IsTupleIter s.heap.objs.size a 0->(∀b o,s.heap.get? b=some o->h1.get? b=some o)->Q (.ref (s.heap.objs.size+1)) { s with heap:=h1 }) :
  wpAny (model prog w) A (call (.type "enumerate") [.ref a]) Q E s:=by
 refine callType_new F.called_enumerate (by decide) (F.typeCall_enumerate_1 _) (F.newCall_enumerate_1 _) (fun obj=>F.args_object_init_2 obj _) F.entry_enumerate_new (xj a its) ⟨ht,?_⟩;have hz:(s.heap.push { cls:=.type "tuple_iterator",data:=.fields #[.ref a,.int 0 0] }).objs.size=s.heap.objs.size+1:=Jz ..;show _/\_;rw[hz];have he:IsEnum ((s.heap.push { cls:=.type "tuple_iterator",data:=.fields #[.ref a,.int 0 0] }).push { cls:=.type "enumerate",data:=.fields #[.none,.bool false,.ref s.heap.objs.size,rawInt 0,.none,.none] }) (s.heap.objs.size+1) s.heap.objs.size 0 .none:=by
  have q:=yf (s.heap.push { cls:=.type "tuple_iterator",data:=.fields #[.ref a,.int 0 0] }) (o:={ cls:=.type "enumerate",data:=.fields #[.none,.bool false,.ref s.heap.objs.size,rawInt 0,.none,.none] }) rfl;rw[hz]at q;exact q
 exact⟨⟨_,he,rfl⟩,h _ he ⟨_,va _ (yf _ rfl),rfl,rfl⟩ fun b o x=>va _ (va _ x)⟩
end EN
namespace RT
theorem k7:Manifest.owners.lookup (String.ofList ['d','e','s','r','e','v','e','r'].reverse)=some Manifest.sig_reversed:=by kernel_rfl
theorem jm:Slot "reversed" "__next__" "reversed.__next__" :=
 .of (owner:="reversed") (n:="__next__") (by rw[JL,Ju];kernel_rfl) (by decide +kernel) (by decide +kernel) (by decide +kernel) (by first | exact .inl (by decide +kernel) | exact .inr (by decide +kernel)) (by rw[JH];kernel_rfl)
theorem qd:entryFor table "reversed.__next__"=some Builtin.«reversed.__next__»:=entryFor_of_tree (by kernel_rfl)
theorem vg(a:Value):argsOk "reversed.__next__" ⟨[a],[]⟩:=by
 unfold argsOk;rw[signature?_of (id:="reversed.__next__") (n:=['_','_','t','x','e','n','_','_']) (o:=['d','e','s','r','e','v','e','r']) (by kernel_rfl) k7]
 kernel_rfl
theorem vw:Slot "reversed" "__iter__" "reversed.__iter__" :=
 .of (owner:="reversed") (n:="__iter__") (by rw[JL,Ju];kernel_rfl) (by decide +kernel) (by decide +kernel) (by decide +kernel) (by first | exact .inl (by decide +kernel) | exact .inr (by decide +kernel)) (by rw[JH];kernel_rfl)
theorem Cs(a:Value):argsOk "reversed.__iter__" ⟨[a],[]⟩:=by
 unfold argsOk;rw[signature?_of (id:="reversed.__iter__") (n:=['_','_','r','e','t','i','_','_']) (o:=['d','e','s','r','e','v','e','r']) (by kernel_rfl) k7]
 kernel_rfl
theorem o9:Slot "reversed" "__length_hint__" "reversed.__length_hint__" :=
 .of (owner:="reversed") (n:="__length_hint__") (by rw[JL,Ju];kernel_rfl) (by decide +kernel) (by decide +kernel) (by decide +kernel) (by first | exact .inl (by decide +kernel) | exact .inr (by decide +kernel)) (by rw[JH];kernel_rfl)
theorem zy:entryFor table "reversed.__length_hint__"=some Builtin.«reversed.__length_hint__»:=entryFor_of_tree (by kernel_rfl)
theorem BK(a:Value):argsOk "reversed.__length_hint__" ⟨[a],[]⟩:=by
 unfold argsOk;rw[signature?_of (id:="reversed.__length_hint__") (n:=['_','_','t','n','i','h','_','h','t','g','n','e','l','_','_']) (o:=['d','e','s','r','e','v','e','r']) (by kernel_rfl) k7]
 kernel_rfl
theorem Ce:typeLookup (.type "reversed") "__len__"=pure none:=by rw[JL,Ju];kernel_rfl
theorem AJ:typeLookup (.type "tuple") "__reversed__"=pure none:=by rw[JL,Ju];kernel_rfl
theorem zj:entryFor table "reversed.__iter__"=some Builtin.«dict_keyiterator.__iter__» :=
 entryFor_alias (id':="dict_keyiterator.__iter__") (by kernel_rfl) (by first | rfl | decide +kernel |(unfold String.splitOn;simp +decide [String.splitOnAux])) (by decide +kernel) (by kernel_rfl)
theorem sf:Slot "reversed" "__init__" "object.__init__" :=
 .of (owner:="object") (n:="__init__") (by rw[JL,Ju];kernel_rfl) (by decide +kernel) (by decide +kernel) (by decide +kernel) (by first | exact .inl (by decide +kernel) | exact .inr (by decide +kernel)) (by rw[JH];kernel_rfl)
theorem called:TypeCalled "reversed" "reversed.__new__" "object.__init__" :=
 ⟨by decide +kernel,by decide +kernel,⟨_,_,F.mro_reversed⟩,F.made_reversed,by decide +kernel,by rw[JH];kernel_rfl,sf⟩
def rv(t:Addr)(i:Int):Obj:={ cls:=.type "reversed",data:=.fields #[.ref t,rawInt i] }
theorem yZ:isSubtype (.type "tuple") (.type "dict")=pure false:=by rw[JH];kernel_rfl
theorem iy(t:Addr)(its:Array Value):Meets (Builtin.«reversed.__new__» ⟨[.type "reversed",.ref t],[]⟩) (fun A R s=>IsTup s.heap t its/\(its.size:Int)<2 ^ 63/\R (.ok (.ret (.ref s.heap.objs.size))) { s with heap:=s.heap.push (rv t ((its.size:Int) - 1)),toks:=s.toks+1+1 }) :=
 .of_wp fun prog w A R s h=>by
  obtain⟨ht,hz,h⟩:=h;unfold Builtin.«reversed.__new__»;refine uH (JO (newClass_reversed _) ?_)
  try dsimp only
  refine uH (JO (a:=()) (by first | rfl | kernel_rfl) ?_);refine uH (JO (a:=()) (by first | rfl | kernel_rfl) ?_)
  try dsimp only
  refine uH (JX ht.typeIs AJ ?_)
  try dsimp only
  refine uH ?_
  wp_delta
  refine uH (wpAny_isInstance (T:="tuple") (b:=false) ht.typeIs yZ ?_);rw[CI (by decide)];refine uH (JX ht.typeIs slot_tuple_getitem.lookup ?_);dsimp only;rw[Ij (by decide +kernel)];refine wa ?_;rw[CI (by decide)];refine uH (len_tuple ht hz ?_);refine uH (m:=asInt? _) (wa ?_);dsimp only;refine uH ?_;unfold Builtin.SmallTypes.newRecord;exact IF (wa ⟨_,rfl,h⟩)
def eG(h:Heap)(a t:Addr)(i:Int):Prop:=∃o,h.get? a=some o/\o.cls=.type "reversed"/\o.data=.fields #[.ref t,rawInt i]
theorem eG.at{h h':Heap}{a t:Addr}{i:Int}(x:eG h a t i)(e:∀o,h.get? a=some o->h'.get? a=some o):eG h' a t i:=let ⟨o,ho,r⟩:=x;⟨o,e _ ho,r⟩
section
variable {prog:Program}{w:World}{A:Around}{E:Value->Shared->Prop}{s:Shared}{it t:Addr}{its:Array Value}
theorem eG.ty{i:Int}(x:eG s.heap it t i):s.TypeIs (.ref it) "reversed":=let ⟨o,ho,hc,_⟩:=x;⟨o,ho,hc⟩
theorem tN{Q:Value->Shared->Prop}(ht:IsTup s.heap t its)(hz:(its.size:Int)<2 ^ 63)(h:Q (.ref s.heap.objs.size) { s with heap:=s.heap.push (rv t ((its.size:Int) - 1)),toks:=s.toks+1+1 }) :
  wpAny (model prog w) A (call (.type "reversed") [.ref t]) Q E s :=
 callType_new called (by decide) (F.typeCall_reversed_1 _) (F.newCall_reversed_1 _) (fun obj=>F.args_object_init_2 obj _) F.entry_reversed_new (iy t its) ⟨ht,hz,⟨⟨_,yf _ rfl,rfl⟩,h⟩⟩
theorem Cw{i n:Nat}(h:i<n):seqIndex? ((i:Nat):Int) n=some i:=by
 unfold seqIndex?;simp only[show ¬(((i:Nat):Int)<0) by omega,if_false];rw[Ij (by simp;omega),Je]
theorem next_item{i:Nat}{x:Value}{Q:Option Value->Shared->Prop}(hit:eG s.heap it t ((i:Nat):Int))(ht:IsTup s.heap t its)(hx:its[i]?=some x)(hz:its.size<2 ^ 62)
  (hQ:∀h' tk,eG h' it t (((i:Nat):Int) - 1)->Heap.SameBut it s.heap h'->Q (some x) { s with heap:=h',toks:=tk }):wpAny (model prog w) A (pyNext (.ref it)) Q E s:=by
 obtain⟨o,ho,hc,hd⟩:=id hit;have hi:i<its.size:=by
  rcases Nat.lt_or_ge i its.size with q | q
  ·exact q
  ·rw[JG q]at hx;cases hx
 unfold pyNext;refine uH (wpAny_attempt (Jp (name:=Str.ofString "__next__") hit.ty jm (IU jm hit.ty qd ?_ (vg _))));unfold Builtin.«reversed.__next__»;refine uH (JO (a:=(Value.ref it,[])) rfl ?_);dsimp only;refine uH (JB ho hd (x:=.ref t) rfl ?_);refine uH (JB ho hd (x:=rawInt ((i:Nat):Int)) rfl ?_);show wpAny _ _ (if ((i:Nat):Int)<0 then _ else _) _ _ s;rw[CI (by omega)];refine uH (JX ht.typeIs slot_tuple_getitem.lookup ?_);rw[CI (by decide)];refine uH (wpAny_mkInt ?_);refine uH (wpAny_attempt (getItem_tuple (j:=i) (x:=x) (s:={ s with toks:=s.toks+1 }) ht (by omega) (by omega) (Cw hi) hx ?_));dsimp only;refine uH (JB ho hd (x:=rawInt ((i:Nat):Int)) rfl ?_);refine uH (JT (s:={ s with toks:=s.toks+1 }) ho hd (by simp) ?_);refine wa ⟨x,rfl,wa (hQ _ _ ?_ (Jb ..))⟩;refine⟨_,IY _ ho (Obj.isFreed_of_fields (Obj.data_mapFields hd _)),(Obj.cls_mapFields ..).trans hc,?_⟩;rw[Obj.data_mapFields hd];simp
theorem next_end{Q:Option Value->Shared->Prop}(hA:A.handled=none)(hit:eG s.heap it t (-1))(hQ:∀h',Heap.ExtBut it s.heap h'->Q none { s with heap:=h' }):wpAny (model prog w) A (pyNext (.ref it)) Q E s:=by
 obtain⟨o,ho,hc,hd⟩:=id hit;unfold pyNext;refine uH (wpAny_attempt (Jp (name:=Str.ofString "__next__") hit.ty jm (IU jm hit.ty qd ?_ (vg _))));unfold Builtin.«reversed.__next__»;refine uH (JO (a:=(Value.ref it,[])) rfl ?_);dsimp only;refine uH (JB ho hd (x:=.ref t) rfl ?_);refine uH (JB ho hd (x:=rawInt (-1)) rfl ?_);show wpAny _ _ (if (-1:Int)<0 then _ else _) _ _ s;rw[Ij (by decide)];refine uH (wpAny_rule ?_);refine uH ?_
 wp_delta
 refine uH (JT ho hd (by simp) ?_);have d2:=Obj.data_mapFields hd fun vs=>vs.set! 1 (rawInt (-1));have o2:=IY _ ho (Obj.isFreed_of_fields d2);refine JT (s:={ s with heap:=s.heap.update it _ }) o2 d2 (by simp) ?_;show wpAny _ _ (Builtin.SmallTypes.stopIteration >>= _) _ _ _;refine uH ?_;show wpAny _ _ (newExc (Value.type "StopIteration") [] >>= _) _ _ _;refine uH (?_);simp only[newTuple,newExc];refine uH (IF (?_) (by size_fits));refine uH (m:=firstArgMember _ _) (JO (a:=Value.none) (by first | rfl |(simp only[firstArgMember];rfl)) (?_));refine IF (?_) (by size_fits);simp only[raiseNew,bind_assoc];refine uH (wpAny_handled (?_))
 first | rw[show A.in1.handled=none from hA] | rw[hA]
 refine uH (wa (wpAny_throw (?_)));refine uH (wpAny_isInstance (T:="StopIteration") (b:=true) ⟨_,yf _ rfl,rfl⟩ isSubtype_stop ?_);exact wa (hQ _ ((((Jb ..).trans (Jb ..)).extBut.push _).push _))
theorem ku{i:Int}{Q:Value->Shared->Prop}(hit:eG s.heap it t i)(h:Q (.ref it) s):wpAny (model prog w) A (pyIter (.ref it)) Q E s:=by
 refine wpAny_pyIter_slot hit.ty vw (IU vw hit.ty zj ?_ (Cs _));show wpAny _ _ (ret (Value.ref it)) _ _ s;exact wa ⟨_,rfl,"reversed",_,hit.ty,jm.lookup,h⟩
theorem rM{Q:Value->Shared->Prop}(hit:eG s.heap it t ((its.size:Int) - 1))(ht:IsTup s.heap t its)(hz:its.size<2 ^ 62)(h:∀u tk,s.toks≤tk->Q (.int (its.size:Int) u) { s with toks:=tk }):wpAny (model prog w) A (call (.builtin "reversed.__length_hint__") [.ref it]) Q E s:=by
 obtain⟨o,ho,hc,hd⟩:=id hit;refine IU o9 hit.ty zy ?_ (BK _);unfold Builtin.«reversed.__length_hint__»;refine uH (JO (a:=Value.ref it) rfl ?_);refine uH (JB ho hd (x:=.ref t) rfl ?_);show wpAny _ _ (if (Value.ref t==Value.none)=true then _ else _) _ _ s;rw[CI (show ¬(Value.ref t==Value.none)=true from JA)];refine uH (len_tuple ht (by omega) ?_);refine uH (m:=asInt? _) (wa ?_);dsimp only;refine uH (JB (s:={ s with toks:=s.toks+1+1 }) ho hd (x:=rawInt ((its.size:Int) - 1)) rfl ?_);show wpAny _ _ (if ((its.size:Nat):Int)<((its.size:Int) - 1)+1 then _ else _) _ _ _;rw[CI (by omega),show((its.size:Int) - 1)+1=(its.size:Int) by omega];exact uH (wpAny_mkInt (wa ⟨_,rfl,h _ _ (by show s.toks≤s.toks+1+1+1;omega)⟩))
end
theorem walks{prog:Program}{w:World}{A:Around}(hA:A.handled=none)(it t:Addr)(ne:t≠it)(its:Array Value)(hz:its.size<2 ^ 62) :
  Walks prog w A it [it,t] [it] its.size (fun i v=>its[its.size - 1 - i]?=some v) (fun i h=>i≤its.size/\eG h it t ((its.size:Int) - 1 - (i:Int))/\h.IsTuple t its) where
 sub:=fun b hb=>by simp at hb;simp[hb]
 frame:=fun _ _ _ x hk=>⟨x.1,x.2.1.at fun o e=>hk it (by simp) o e,x.2.2.at fun o e=>hk t (by simp) o e⟩
 item:=fun i s Q E hi x hQ=>by
  have e:(its.size:Int) - 1 - (i:Int)=((its.size - 1 - i:Nat):Int):=by omega
  have hit:=x.2.1;rw[e]at hit;have hx:its[its.size - 1 - i]?=some (its[its.size - 1 - i]'(by omega)):=Ig (by omega);refine next_item hit x.2.2 hx hz fun h1 tk hit1 sb=>?_;have e2:((its.size - 1 - i:Nat):Int) - 1=(its.size:Int) - 1 - ((i+1:Nat):Int):=by omega
  rw[e2]at hit1;exact hQ _ h1 tk hx ⟨hi,hit1,x.2.2.at fun o q=>(sb.2 t ne).trans q⟩ fun b o hb q=>sb.extBut b o (fun z=>hb (by simp[z])) q
 done:=fun s Q E x hQ=>by
  have hit:=x.2.1;rw[show(its.size:Int) - 1 - (its.size:Int)=-1 by omega]at hit;exact next_end hA hit fun h1 eb=>hQ h1 s.toks fun b o hb q=>eb b o (fun z=>hb (by simp[z])) q
 self:=fun _ _ _ _ x hQ=>ku x.2.1 hQ
section
variable {prog:Program}{w:World}{A:Around}{E:Value->Shared->Prop}{s:Shared}{it t:Addr}{its:Array Value}
theorem as_int(n:Int)(u:Tok):asInt? (.int n u)=pure (some n):=rfl
theorem Cb{Q:Bool->Shared->Prop}(hit:eG s.heap it t ((its.size:Int) - 1))(ht:IsTup s.heap t its)(hz:its.size<2 ^ 20)(h:∀tk,s.toks≤tk->Q ((its.size:Int) !=0) { s with toks:=tk }):wpAny (model prog w) A (Builtin.List.listLengthHint (.ref it)) Q E s:=by
 unfold Builtin.List.listLengthHint;refine uH (JX hit.ty Ce ?_);dsimp only;refine Jo (fun hab=>absurd hab (by decide +kernel)) (fun _=>?_);refine Jo (fun hab=>absurd hab (by decide +kernel)) (fun _=>?_);refine uH (JX hit.ty o9.lookup ?_);generalize hid:("reversed.__length_hint__":String)=id0
 wp_delta
 rw[show splitId id0=some ("reversed","__length_hint__")from by subst hid;decide +kernel];subst hid;refine uH (wpAny_isInstance (T:="reversed") (b:=true) hit.ty F.sub_reversed_self ?_);refine Jo (fun hab=>absurd hab (by decide)) (fun _=>?_);refine Jo (fun hab=>absurd hab (by decide +kernel)) (fun _=>?_);refine uH (wpAny_rule ?_);refine uH (JO (o9.bind _) ?_);dsimp only;refine uH (wpAny_attempt (rM hit ht (by omega) fun u tk htk=>?_));have f1:Builtin.List.listFitsIndex ((its.size:Nat):Int)=true:=by
  have a:-(2 ^ 63:Int)≤((its.size:Nat):Int):=Int.le_trans (by decide) (Int.natCast_nonneg _);have b:((its.size:Nat):Int)<2 ^ 63:=Int.lt_trans (Int.ofNat_lt.mpr hz) (by decide);unfold Builtin.List.listFitsIndex;rw[IL a,IL b];rfl
 have f2:Builtin.List.listTooLong ((its.size:Nat):Int).toNat=false:=by
  have hs:its.size≤sizeLine:=by rw[IT];omega
  unfold Builtin.List.listTooLong;rw[Je];exact Jn (Nat.not_lt.mpr hs)
 have f3:¬((its.size:Nat):Int)<0:=Int.not_lt.mpr (Int.natCast_nonneg _);have hq:=h tk htk;clear h;generalize ((its.size:Nat):Int)=n at *;show wpAny _ A (asInt? (.int n u) >>= _) _ _ _;rw[as_int,pure_bind];dsimp only;rw[CI (by rw[f1];decide),CI f3,CI (by rw[f2];decide)];exact wa hq
theorem mV{Q:List Value->Shared->Prop}(hA:A.handled=none)(hit:eG s.heap it t ((its.size:Int) - 1))(ht:s.heap.IsTuple t its)(ne:t≠it)(hz:its.size<2 ^ 20)
  (hQ:∀(h1:Heap) tk acc,(∀b o,b≠it->s.heap.get? b=some o->h1.get? b=some o)->ItemsOf (fun i v=>its[its.size - 1 - i]?=some v) acc its.size->Q acc.toList { s with heap:=h1,toks:=tk }):wpAny (model prog w) A (collect (.ref it)) Q E s:=by
 have W:=walks (prog:=prog) (w:=w) (A:=A.in1) hA it t ne its (by omega);obtain⟨o,ho,_⟩:=id hit;obtain⟨ot,hot,_⟩:=id ht;have l1:it<s.heap.objs.size:=xV ho;have l2:t<s.heap.objs.size:=xV hot;have hSf:s.heap.objs.size∉[it,t]:=by simp only[Ic,List.not_mem_nil,or_false,not_or];exact⟨JE l1,JE l2⟩
 have hSI:s.heap.objs.size≠it:=JE l1;unfold collect;refine uH (wpAny_runValue (I0 F.entry_proto_collect ?_));rw[IQ F.plain_proto_collect _];show wpAny _ A.in1 (newList [] >>= fun l=>again (.builtin "list.__iadd__" ⟨[l,Value.ref it],[]⟩)) _ _ s;refine uH (IF (wa ⟨JN F.plain_list_iadd _,I0 F.entry_list_iadd ?_⟩));rw[IQ F.plain_list_iadd _];have S1:(s.heap.push { cls:=.type "list",data:=.seq ([]:List Value).toArray }).get? s.heap.objs.size=some { cls:=.type "list",data:=.seq ([]:List Value).toArray }:=yf _ rfl;have it1:eG (s.heap.push { cls:=.type "list",data:=.seq ([]:List Value).toArray }) it t ((its.size:Int) - 1):=hit.at fun o e=>va _ e;have t1:(s.heap.push { cls:=.type "list",data:=.seq ([]:List Value).toArray }).IsTuple t its:=ht.at fun o e=>va _ e;have k1:∀b o,s.heap.get? b=some o->(s.heap.push { cls:=.type "list",data:=.seq ([]:List Value).toArray }).get? b=some o:=fun b o e=>va _ e;generalize s.heap.push { cls:=.type "list",data:=.seq ([]:List Value).toArray }=g at *;show wpAny _ A.in1 (Builtin.List.listExtendWith (Value.ref s.heap.objs.size) (.ref it) (.ref s.heap.objs.size)) _ _ _;have h1:Builtin.List.listSameRef (.ref s.heap.objs.size) (.ref it)=false:=by simp[Builtin.List.listSameRef,hSI]
 have key:∀(h:Heap) (c₁ tk:Nat),(∀b o,b≠s.heap.objs.size->g.get? b=some o->h.get? b=some o)->h.get? s.heap.objs.size=some { cls:=.type "list",data:=.seq #[] c₁ } ->
   codeAny (model prog w) A (.builtin "list.extend.loop" ⟨[.ref s.heap.objs.size,.ref it,.ref s.heap.objs.size],[]⟩) (fun r s'=>match r with | .ok (.ret v)=>wpAny (model prog w) A (match v with | .ref a=>(do match (← load a).data with | .seq xs _=>pure xs.toList | _=>unsupported "internal:collect") | _=>unsupported "internal:collect") Q E s' | .ok _=>False | .error e=>E e s') { s with heap:=h,toks:=tk }:=by
  intro h c₁ tk hk hS₁;have st:(0:Nat)≤its.size/\eG h it t ((its.size:Int) - 1 - ((0:Nat):Int))/\h.IsTuple t its:=⟨Jk _,by simpa using it1.at fun o e=>hk it o hSI.symm e,t1.at fun o e=>hk t o (B6 l2) e⟩;refine codeAny_extend_loopS W.toS (by rw[IT];omega) _ hSf _ its.size 0 { s with heap:=h,toks:=tk } #[] c₁ rfl (Jk _) st hS₁ (ItemsOf.nil _) fun s' acc' c' hm hS' hacc=>?_;rw[Moved.eq_with hm]at hS' ⊢;show wpAny _ A (load s.heap.objs.size >>= _) _ _ _;refine uH (wpAny_load hS' (wa (hQ s'.heap s'.toks acc' (fun b o hb e=>hm.heap b o (fun hmem=>?_) (hk b o (B6 (xV e)) (k1 b o e))) hacc)));rcases Ic.mp hmem with q | q
  ·exact B6 (xV e) q
  ·exact hb (xI.mp q)
 unfold Builtin.List.listExtendWith;have it2:eG ({ s with heap:=g }:Shared).heap it t ((its.size:Int) - 1):=it1;refine uH (wpAny_typeOf (T:="reversed") it2.ty ?_);simp only[h1,show(Value.type "reversed"==Value.type "list")=false by decide,show(Value.type "reversed"==Value.type "tuple")=false by decide,Bool.or_false,JS,if_false];refine uH (ku it2 ?_);refine uH (Jr (Cb it2 t1 hz fun tk htk=>?_));refine Jo (fun _=>?_) (fun _=>wa ⟨JN PySem.F.plain_extend_loop _,key g 0 tk (fun b o _ e=>e) S1⟩);refine uH (wpAny_rule ?_);refine uH ?_;show wpAny _ A.in1 (updateSeq s.heap.objs.size (·.push .none) >>= fun _=>updateSeq s.heap.objs.size (·.pop)) _ _ _;refine uH (wpAny_updateSeq S1 rfl ?_);have S2:=IY (Obj.mapSeq (·.push Value.none)) S1 rfl;refine wpAny_updateSeq S2 rfl ?_;have S3:=IY (Obj.mapSeq (·.pop)) S2 rfl;refine wa ⟨JN PySem.F.plain_extend_loop _,key _ _ tk (fun b o hb e=>(Heap.get?_update_other _ _ (Ne.symm hb)).trans ((Heap.get?_update_other _ _ (Ne.symm hb)).trans e)) S3⟩
end
end RT
namespace RT
theorem tP{r t:Addr}{its:Array Value}(ne:t≠r)(hz:its.size<2 ^ 20) :
  Meets (Builtin.«tuple.__new__» ⟨[.type "tuple",.ref r],[]⟩)
   (fun A R s=>A.handled=none/\eG s.heap r t ((its.size:Int) - 1)/\s.heap.IsTuple t its/\∀(h1:Heap) tk acc,(∀b o,b≠r->s.heap.get? b=some o->h1.get? b=some o)->ItemsOf (fun i v=>its[its.size - 1 - i]?=some v) acc its.size ->
    R (.ok (.ret (.ref h1.objs.size))) { s with heap:=h1.push { cls:=.type "tuple",data:=.seq acc },toks:=tk }) :=
 .of_wp fun prog w A R s h=>by
  obtain⟨hA,hr,ht,h⟩:=h;have hsub:=sub_tuple_self;have hinit:=init_tuple_lookup;have hmh:=madeHere_tuple;have hT:s.TypeIs (.ref r) "reversed":=hr.ty;have hA1:A.in1.handled=none:=hA
  wp_walk using wpAny_typeOf hT,mV hA1 hr ht ne hz
  intro h1 tk acc hk hacc;show wpAny _ _ (Builtin.Tuple.tupleExact acc.toList.toArray >>= fun v=>ret v) _ _ _;unfold Builtin.Tuple.tupleExact;rw[show acc.toList.toArray=acc by simp];refine uH (IF (wa ⟨_,rfl,h h1 tk acc hk hacc⟩) (show acc.size≤sizeLine by rw[hacc.1,IT];omega))
theorem jN{prog:Program}{w:World}{A:Around}{E:Value->Shared->Prop}{s:Shared}{Q:Value->Shared->Prop}{r t:Addr}{its:Array Value}(ne:t≠r)(hz:its.size<2 ^ 20)(hA:A.handled=none)(hr:eG s.heap r t ((its.size:Int) - 1))(ht:s.heap.IsTuple t its)
  (q:∀(h1:Heap) tk acc,(∀b o,b≠r->s.heap.get? b=some o->h1.get? b=some o)->ItemsOf (fun i v=>its[its.size - 1 - i]?=some v) acc its.size->Q (.ref h1.objs.size) { s with heap:=h1.push { cls:=.type "tuple",data:=.seq acc },toks:=tk }) :
  wpAny (model prog w) A (call (.type "tuple") [.ref r]) Q E s :=
 callType_new F.called_tuple (by decide) (F.typeCall_tuple_1 _) (F.newCall_tuple_1 _) (fun obj=>F.args_object_init_2 obj _) F.entry_tuple_new
  (tP (t:=t) (its:=its) ne hz) ⟨hA,hr,ht,fun h1 tk acc hk hacc=>⟨⟨_,yf _ rfl,rfl⟩,q h1 tk acc hk hacc⟩⟩
end RT
namespace L2
variable {X:Cx}{a:Expr}{ta:TE}{p p2 pos pos2:Pos}
theorem Dh{α β:Type}{R:α->β->Prop}{l l2:List α}{m m2:List β}(h:Paired R l m)(h2:Paired R l2 m2):Paired R (l++l2) (m++m2):=by
 induction h with
 | nil=>exact h2
 | cons a _ ih=>exact .cons a ih
theorem wN{us:List V}{its:List Value}(h:Vals us its):Vals us.reverse its.reverse:=by
 induction h with
 | nil=>exact .nil
 | cons h t ih =>
  rw[List.reverse_cons,List.reverse_cons];exact Dh ih (.cons h .nil)
theorem si{its:List Value}{acc:Array Value}(h:ItemsOf (fun i v=>its.toArray[its.toArray.size - 1 - i]?=some v) acc its.toArray.size):acc.toList=its.reverse:=by
 have h2:=h.2;have h1:acc.size=its.length:=by have:=h.1;simpa using this
 apply List.ext_getElem?;intro j;rw[IS];by_cases hj:j<acc.size
 ·have e:=h2 j _ (Ig hj);rw[Ig hj,List.getElem?_reverse (by omega),← e,Br];simp
 ·rw[JG (by omega),Jm (by rw[List.length_reverse];omega)]
def G8(K:PySem.W.Frag)(ta:TE):TE:=fun σ H Q=>ta σ H fun x H1=>∃b us,[x]=[V.ref b]/\SqT K H1 b us/\us.length≤1000/\∀r,H1 r=none->Q (.ref r) (upd H1 r (.tup us.reverse))
theorem CL(hc:X.calm=true)(hg:Gl X "tuple")(hm:X.mg "tuple"=none)(hg2:Gl X "reversed")(hm2:X.mg "reversed"=none)(b1:bootBuiltins "tuple"=some (.type "tuple"))(b2:bootBuiltins "reversed"=some (.type "reversed"))(ha:PE X a ta)
  (he:starEach [.Call (.Name "reversed" p2) [a] [] pos2] X.env=[(false,eval (.Call (.Name "reversed" p2) [a] [] pos2) X.env)]:=by rfl) (he2:starEach [a] X.env=[(false,eval a X.env)]:=by rfl) (hpl:(backTo pos (starEach [] X.env)).any (·.1)=false:=by rfl) (hpl2:(backTo pos2 (starEach [] X.env)).any (·.1)=false:=by rfl) :
  PE X (.Call (.Name "tuple" p) [.Call (.Name "reversed" p2) [a] [] pos2] [] pos) (G8 X.K ta):=by
 intro pins s σ H Q I h;refine Jl (cN I hg hm b1 ?_ (by decide) (by decide));refine IK ?_ he hpl;rw[he];show wpAny _ _ (spliced ((false,eval (.Call (.Name "reversed" p2) [a] [] pos2) X.env)::[])) _ _ s;refine Calls.spliced_cons ?_;refine Jl (cN I hg2 hm2 b2 ?_ (by decide) (by decide));refine IK ?_ he2 hpl2;refine thn (bU ha cI he2 pos2 pins s σ H (fun xs H1=>∃b us,xs=[.ref b]/\SqT X.K H1 b us/\us.length≤1000/\∀r,H1 r=none->Q (.ref r) (upd H1 r (.tup us.reverse))) I ?_) fun us s1 ⟨vs,H1,I1,r1,q1⟩=>?_
 ·exact h
 obtain⟨b,ws,rfl,hq,hl,q⟩:=q1;obtain⟨u,rfl,ru⟩:=vals1 r1;cases ru;obtain⟨its,rv,pl,hz⟩:=I1.tuple hq;have ht:s1.heap.IsTuple b its.toArray:=pl;have hb:b<s1.heap.objs.size:=by obtain⟨o,e,_⟩:=ht;exact xV e
 have hlen:=rv.length;have hs:its.toArray.size=ws.length:=by simp;omega
 refine RT.tN pl (by rw[hs];omega) ?_;refine Calls.spliced_nil ?_;have lt:s1.heap.objs.size<(s1.heap.push (RT.rv b ((its.toArray.size:Int) - 1))).objs.size:=by rw[Jz];exact JP _
 refine RT.jN (s:={ s1 with heap:=s1.heap.push (RT.rv b ((its.toArray.size:Int) - 1)),toks:=s1.toks+1+1 }) (r:=s1.heap.objs.size) (t:=b) (its:=its.toArray) (B6 hb) (by rw[hs];omega) (I.ok.hd hc) ⟨_,yf _ rfl,rfl,rfl⟩ (ht.at fun o e=>va _ e) fun h1 tk acc kp hacc=>?_;have k2:∀b o,s1.heap.get? b=some o->h1.get? b=some o:=fun b o e=>kp b o (B6 (xV e)) (va _ e);have I2:Inv X pins σ H1 { s1 with heap:=h1,toks:=tk }:=I1.kept (t':=tk) k2;refine⟨.ref _,_,I2.laid (t':=tk) (o:=.tup ws.reverse) (fun b o e=>va _ e) (yi _) ?_,rfl,q _ (I2.hok.fresh (yi _))⟩;refine⟨by rw[List.length_reverse];exact hz,its.reverse,wN rv,?_⟩;have e:its.reverse.toArray=acc:=by rw[←si hacc]
 rw[e];exact IsTup.new _ _
end L2
namespace U
open L2
variable {B:Bs}{X:Cx}{a:Expr}{ta:TE'}{p p2 pos pos2:Pos}
def rvT(x:PV)(H:PHp)(Q:VK'):Prop:=match x with
 | .tup l=>l.length≤1000/\Q (.tup l.reverse) H
 | _=>False
theorem F9{l:List PV}{H:PHp}{Q:VK'}:rvT (.tup l) H Q=(l.length≤1000/\Q (.tup l.reverse) H):=rfl
def EM(ta:TE'):TE':=fun σ H Q=>ta σ H fun x H1=>rvT x H1 Q
theorem qi{K:PySem.W.Frag}{H:Hp}:∀{l:List PV} {us:List V},RPs K H l us->RPs K H l.reverse us.reverse
 | [],_,h=>by simp only[RPs]at h;subst h;simp[RPs]
 | x::l,_,h=>by
  simp only[RPs]at h;obtain⟨u,r,rfl,a,b⟩:=h;rw[List.reverse_cons,List.reverse_cons];exact RPs.append K (qi b) (RPs.cons K a (RPs.nil K))
theorem uw:bootBuiltins "reversed"=some (.type "reversed"):=by decide +kernel
theorem CP(hc:X.calm=true)(hg:Gl X "tuple")(hm:X.mg "tuple"=none)(hg2:Gl X "reversed")(hm2:X.mg "reversed"=none)(b1:bootBuiltins "tuple"=some (.type "tuple"))(ha:PE' X B a ta)
  (he:starEach [.Call (.Name "reversed" p2) [a] [] pos2] X.env=[(false,eval (.Call (.Name "reversed" p2) [a] [] pos2) X.env)]:=by rfl) (he2:starEach [a] X.env=[(false,eval a X.env)]:=by rfl) (hpl:(backTo pos (starEach [] X.env)).any (·.1)=false:=by rfl) (hpl2:(backTo pos2 (starEach [] X.env)).any (·.1)=false:=by rfl) :
  PE' X B (.Call (.Name "tuple" p) [.Call (.Name "reversed" p2) [a] [] pos2] [] pos) (EM ta) :=
 a6 (CL hc hg hm hg2 hm2 b1 uw ha he he2 hpl hpl2) fun σ H Q h=>by
  obtain⟨σ',H',Q',s,h,k⟩:=h;refine⟨σ',H',_,s,h,fun x' H1' x H1 h1 rx s1 e1=>?_⟩;cases x' with
  | tup l =>
   obtain⟨h0,q⟩:=h1;simp only[RP]at rx;obtain⟨b,us,rfl,hq,r⟩:=rx;refine⟨b,us,rfl,hq,by rw[RPs.length _ r];exact h0,fun r' hr=>?_⟩;exact k _ H1' _ _ q (mm hr (qi r)) (s1.hid hr) (e1.trans (Ev.hid hr))
  | _=>exact h1.elim
end U
namespace L2
section
variable {prog:Program}{w:World}{A:Around}{E:Value->Shared->Prop}{s:Shared}
theorem fJ{t sl:Addr}{items:Array Value}{vl vu:Value}{lo hi:Option Int}{Q:Value->Shared->Prop}(tA:IsTup s.heap t items)(sA:s.heap.IsSliceOf sl vl vu .none)(pA:IsPart vl lo)(pB:IsPart vu hi)
  (hw:HT.sIx items.size 0 lo=0/\HT.sIx items.size items.size hi=items.size) (h:Q (.ref t) s):wpAny (model prog w) A (getItem (.ref t) (.ref sl)) Q E s:=by
 obtain⟨os,hos,hcs,hds⟩:=id sA;have tB:s.TypeIs (.ref sl) "slice":=⟨os,hos,hcs⟩;unfold getItem
 try with_reducible refine Jr ?_
 first | refine uH (wa ?_) | skip
 refine uH (wpAny_sequenceKey tA.typeIs (by decide) ?_);refine uH (Jp (name:=Str.ofString "__getitem__") tA.typeIs PyProof.Rows.slot_tuple_getitem
  (IU PyProof.Rows.slot_tuple_getitem tA.typeIs entry_tuple_getitem ?_ (args_tuple_getitem _ _)))
 show wpAny _ _ (Builtin.Tuple.tupleItemsOf (.ref t) >>= _) _ _ s;refine uH (tupleItemsOf_ tA ?_);refine uH (wpAny_typeOf tB ?_);rw[Ij (by decide)];refine uH (HT.dM sA pA pB ?_);have hyes:(((HT.sIx items.size 0 lo:Nat):Int)==0&&(1:Int)==1&&(HT.sIx items.size items.size hi - HT.sIx items.size 0 lo)==items.size)=true:=by
  rw[hw.1,hw.2];simp
 show wpAny _ _ (if (((HT.sIx items.size 0 lo:Nat):Int)==0&&(1:Int)==1&&(HT.sIx items.size items.size hi - HT.sIx items.size 0 lo)==items.size)=true then _ else _) _ _ s;rw[Ij hyes];unfold Builtin.Tuple.tupleIsExact;have hT:=tA.typeIs
 wp_walk
 exact⟨_,rfl,wa h⟩
end
variable {X:Cx}
def G6(K:PySem.W.Frag):V->Option Int->Option Int->Hp->VK->Prop:=fun x lo hi H Q=>∃a xs,x=.ref a/\SqT K H a xs /\
 ((HT.sIx xs.length 0 lo=0/\HT.sIx xs.length xs.length hi=xs.length)->Q (.ref a) H)/\(¬(HT.sIx xs.length 0 lo=0/\HT.sIx xs.length xs.length hi=xs.length)->∀p,H p=none->Q (.ref p) (upd H p (.tup (aT xs lo hi))))
theorem xO:SlR X (G6 X.K):=by
 intro pins s σ H x v vl vu lo hi sl Q I rx hs pl pu h;obtain⟨a,xs,rfl,hx,q1,q2⟩:=h;by_cases hw:HT.sIx xs.length 0 lo=0/\HT.sIx xs.length xs.length hi=xs.length
 ·cases rx;obtain⟨its,r,ht,hz⟩:=I.tuple hx;have hlen:its.toArray.size=xs.length:=by rw[Br];exact r.length.symm
  refine⟨"tuple",_,PyProof.Rows.slot_tuple_getitem.lookup,ht.typeIs,?_⟩;exact fJ ht hs pl pu (by rw[hlen];exact hw) ⟨.ref a,H,I,rfl,q1 hw⟩
 ·exact uZ pins s σ H _ v vl vu lo hi sl Q I rx hs pl pu ⟨a,xs,rfl,hx,hw,q2 hw⟩
end L2
namespace U
open L2
variable {B:Bs}{X:Cx}{e:Expr}{ta:TE'}{pos:Pos}
def vD(x:PV)(lo hi:Option Int)(H3:PHp)(Q:VK'):Prop:=match x with
 | .tup l=>Q (.tup (cz l lo hi)) H3
 | _=>False
theorem GY{l:List PV}{lo hi:Option Int}{H:PHp}{Q:VK'}:vD (.tup l) lo hi H Q=Q (.tup (cz l lo hi)) H:=rfl
def qa(ta:TE')(tl th:TO'):TE':=fun σ H Q=>ta σ H fun x H1=>tl σ H1 fun lo H2=>th σ H2 fun hi H3=>vD x lo hi H3 Q
theorem a5{lo hi:Option Expr}{tl th:TO'}{p2:Pos}(he:PE' X B e ta)(hl:PO' X B lo tl)(hu:PO' X B hi th):PE' X B (.Subscript e (.Slice lo hi none p2) pos) (qa ta tl th) :=
 a6 (nY xO he hl hu) fun σ H Q y_=>by
 obtain⟨σ',H',Q',s,h,k⟩:=y_;refine⟨σ',H',_,s,h,fun x H1' v H1 h1 r1 s1 e1=>⟨σ',H1',_,s1,h1,fun l H2' H2 h2 s2 e2=>⟨σ',H2',_,s2,h2,fun u H3' H3 h3 s3 e3=>?_⟩⟩⟩;have r3:=RP.kp _ (e3.kp s2.hp) (RP.kp _ (e2.kp s1.hp) r1);have e123:=e1.trans (e2.trans e3);cases x with
 | tup xs =>
  have r3':=r3;simp only[RP]at r3;obtain⟨a,us,e,q,r⟩:=r3;refine⟨a,us,e,q,fun hw=>?_,fun _ p n=>?_⟩
  ·have ex:cz xs l u=xs:=by
    unfold cz;rw[RPs.length _ r]at hw;rw[hw.1,hw.2,List.drop_zero,Nat.sub_zero,Iy]
   have h4:Q' (.tup (cz xs l u)) H3':=h3;rw[ex]at h4;rw[←e];exact k _ _ _ _ h4 r3' s3 e123
  ·exact k _ _ _ _ h3 (mm n (ly r)) (s3.hid n) (e123.trans (Ev.hid n))
 | _=>exact h3.elim
end U
namespace L2
variable {X:Cx}
theorem pre_take(ns:List Int):∀i,i≤ns.length->preSum (fun j=>ns.getD j 0) i=(ns.take i).sum
 | 0,_=>by simp[preSum]
 | i+1,h=>by
  have hi:i<ns.length:=by omega
  rw[preSum,pre_take ns i (by omega),List.take_succ,sH hi,List.sum_append];simp[wJ,sH hi]
theorem rm(hc:X.calm=true):cv X (.builtin "sum") (fun xs H Q=>∃(a:Addr) (ns:List Int),xs=[.ref a]/\SqL X.K H a (ns.map V.int)/\Q (.int ns.sum) H):=by
 intro pins s σ H xs us Q I r h;obtain⟨a,ns,rfl,hq,q⟩:=h;obtain⟨u,rfl,ru⟩:=Vals.one r;cases ru;obtain⟨its,rv,p,hz⟩:=I.list hq;have hl:s.heap.IsList a its.toArray:=p.isList;have llt:a<s.heap.objs.size:=by obtain⟨o,e,_⟩:=hl;exact xV e
 have hne:a≠s.heap.objs.size:=B6 llt;have hlen:its.length=ns.length:=by have:=Paired.length rv;rw[rS]at this;exact this.symm
 refine call_sum_walkAnyS (JZ hl ?_);refine⟨s.heap.objs.size,[s.heap.objs.size,a],[s.heap.objs.size],_,its.toArray.size,_,_,fun i=>ns.getD i 0,rfl,(Walks.list (by simpa using I.ok.hd hc) _ a hne _).toS,⟨⟨_,yf _ rfl,rfl,rfl⟩,hl.at fun o e=>va _ e⟩,fun b hb=>?_,fun i v hv=>?_,fun s' t' hm=>?_⟩
 ·rw[Jz];simp only[Ic,List.not_mem_nil,or_false]at hb;rcases hb with e | e
  ·rw[e];exact JP _
  ·rw[e];exact Jx llt
 ·have hv':its[i]?=some v:=by simpa using hv
  have hi:i<ns.length:=by rw[←hlen];exact(vM.mp hv').1
  obtain⟨u,eu,ru⟩:=rv.get (sH (by rw[rS];exact hi));rw[hv']at eu;cases eu;rw[Il]at ru;obtain⟨tk,rfl⟩:=ru;refine⟨tk,?_⟩;show _=Value.int (ns.getD i 0) tk;rw[wJ,sH hi];rfl
 ·have e:preSum (fun i=>ns.getD i 0) its.toArray.size=ns.sum:=by
   rw[Br,hlen,pre_take ns ns.length (yi _),Iy]
  rw[e,Moved.eq_with hm];refine⟨.int ns.sum,H,I.kept (t':=s'.toks) fun b o e=>?_,⟨_,rfl⟩,q⟩;exact hm.heap b o (by simpa using B6 (xV e)) (va _ e)
end L2
namespace U
open L2
variable {B:Bs}{X:Cx}{a b:Expr}{ta tb:TE'}{pos:Pos}
def BZ:List PV->PHp->VK'->Prop:=cP fun x H Q=>match x with
 | .ref a=>∃ns:List Int,H a=some (.lst (ns.map PV.int))/\Q (.int ns.sum) H
 | _=>False
theorem F4{a:Addr}{H:PHp}{Q:VK'}:BZ [.ref a] H Q=∃ns:List Int,H a=some (.lst (ns.map PV.int))/\Q (.int ns.sum) H:=rfl
theorem CQ{K:PySem.W.Frag}:VC K B BZ (fun xs H Q=>∃(a:Addr) (ns:List Int),xs=[.ref a]/\SqL K H a (ns.map V.int)/\Q (.int ns.sum) H):=by
 intro σ' σ H' H xs' xs Q' Q s r h k;obtain⟨x',x,rfl,rfl,rx,h⟩:=cP.ex h r;cases x' with
 | ref a =>
  obtain⟨ns,ea,q⟩:=h;simp only[RP]at rx;subst rx;obtain⟨us,e,r2⟩:=s.hp _ _ ea;rw[jZ r2]at e;exact⟨a,ns,rfl,.inl (.inl e),k _ _ _ _ q (by simp[RP]) s (Ev.refl _ _)⟩
 | _=>exact h.elim
end U
namespace L2
variable {X:Cx}
theorem wL{prog:Program}{w:World}{A:Around}{E:Value->Shared->Prop}{s:Shared}{t b:Addr}{ws:List Value}{Q:Value->Shared->Prop}(ht:IsTup s.heap t ([]:List Value).toArray)(hb:IsTup s.heap b ws.toArray)(h:Q (.ref b) s):wpAny (model prog w) A (binaryOp .Add (.ref t) (.ref b)) Q E s:=by
 obtain⟨⟨cls,dd,data,sl⟩,g,hc,n,g2⟩:=id ht;obtain⟨⟨cls2,dd2,data2,sl2⟩,k,hc2,n2,k2⟩:=id hb;simp only at hc g2 hc2 k2;subst hc g2 hc2 k2;exact concat_meets ⟨_,g,rfl⟩ ⟨_,k,rfl⟩ noFill_tuple_add seq_tuple_add PySem.F.slot_tuple_add PySem.F.entry_tuple_add (PySem.F.args_tuple_add_2 _ _) (tuple_addW0 t b _ ws.toArray n n2 dd dd2 sl sl2 rfl) ⟨g,k,h⟩
def As(K:PySem.W.Frag):R2:=fun x y H Q=>∃a b xs ys,x=.ref a/\y=.ref b/\SqT K H a xs/\SqT K H b ys/\xs.length+ys.length≤sizeLine/\(xs=[]->Q (.ref b) H)/\(ys=[]->Q (.ref a) H)/\(ys≠[]->∀p,H p=none->Q (.ref p) (upd H p (.tup (xs++ys))))
theorem zm:OpR X (binaryOp .Add) (As X.K):=by
 intro pins s σ H x y v u Q I rx ry h;obtain⟨a,b,xs,ys,rfl,rfl,ha,hb,hz,q0,q1,q2⟩:=h;by_cases e:xs=[]
 ·cases rx;cases ry;subst e;obtain⟨its,r1,p1,_⟩:=I.tuple ha;obtain⟨its2,r2,p2,_⟩:=I.tuple hb;cases r1;exact wL p1 p2 ⟨.ref b,H,I,rfl,q0 rfl⟩
 ·exact zD pins s σ H _ _ v u Q I rx ry ⟨a,b,xs,ys,rfl,rfl,ha,hb,e,hz,q1,q2⟩
end L2
namespace U
open L2
variable {B:Bs}{X:Cx}{a b:Expr}{ta tb:TE'}{pos:Pos}
def mH:R2':=fun x y H Q=>match x,y with
 | .tup l,.tup m=>l.length+m.length≤sizeLine/\Q (.tup (l++m)) H
 | _,_=>False
theorem Fz{l m:List PV}{H:PHp}{Q:VK'}:mH (.tup l) (.tup m) H Q=(l.length+m.length≤sizeLine/\Q (.tup (l++m)) H):=rfl
theorem zK{K:PySem.W.Frag}:VR K B mH (As K):=by
 intro σ' σ H' H x' y' x y Q' Q s rx ry h k;unfold mH at h;split at h
 ·rename_i l m;obtain⟨hl,q⟩:=h;have rx':=rx;have ry':=ry;simp only[RP]at rx ry;obtain⟨a,us,rfl,ha,r1⟩:=rx;obtain⟨b,ws,rfl,hb,r2⟩:=ry;have l1:=RPs.length _ r1;have l2:=RPs.length _ r2;refine⟨a,b,us,ws,rfl,rfl,ha,hb,by rw[l1,l2];exact hl,fun e=>?_,fun e=>?_,fun e p hp=>?_⟩
  ·have:l=[]:=IW.mp (by rw[←l1,e];rfl);rw[this,List.nil_append]at q;exact k _ _ _ _ q ry' s (Ev.refl _ _)
  ·have:m=[]:=IW.mp (by rw[←l2,e];rfl);rw[this,IP]at q;exact k _ _ _ _ q rx' s (Ev.refl _ _)
  ·exact k _ _ _ _ q (mm hp (RPs.append _ r1 r2)) (s.hid hp) (Ev.hid hp)
 ·exact h.elim
theorem bR(ha:PE' X B a ta)(hb:PE' X B b tb):PE' X B (.BinOp a .Add b pos) (uOp mH ta tb):=fM zm zK ha hb
end U
namespace L2
def Ite(K:PySem.W.Frag)(a:Addr):It :=
 ⟨fun i H=>∃xs x,SqT K H a xs/\xs[i]?=some x,fun i H x H'=>∃T y,H T=none/\x=.ref T/\H'=upd H T (.tup [.int (i:Nat),y])/\∀xs,SqT K H a xs->xs[i]?=some y,fun i H=>∃xs,SqT K H a xs/\xs.length=i⟩
theorem l5{h:Heap}{a b:Addr}{n m:String}{o u:Obj}(ha:h.get? a=some o)(hb:h.get? b=some u)(ca:o.cls=.type n)(cb:u.cls=.type m)(ne:(Value.type n:Value)≠.type m):a≠b:=by
 rintro rfl;rw[ha]at hb;cases hb;exact ne (ca.symm.trans cb)
theorem zv{P:Program}{w:World}{K:PySem.W.Frag}{elts:List Expr}{k1}{tpos:Pos}(a it e:Addr):Turn P w K (.Tuple elts k1 tpos) (Ite K a) [e,it] e (fun i h=>(∃old,IsEnum h e it (i:Nat) old)/\h.IsTupleIter it a i) where
 mem:=by simp
 obj:=fun i h st b hb=>by
  obtain⟨⟨old,he⟩,o,ho,hc,hd⟩:=st;rcases Ic.mp hb with rfl | hb
  ·exact⟨_,he,fun v z=>by
    have z':Data.fields _=Data.cell v:=z;cases z'⟩
  ·rw[xI.mp hb];exact⟨o,ho,fun v z=>by rw[hd]at z;cases z⟩
 keep:=fun i h h' st k=>by
  obtain⟨⟨old,he⟩,hi⟩:=st;exact⟨⟨old,k e (by simp) _ he⟩,hi.at fun o x=>k it (by simp) o x⟩
 item:=by
  intro X hP hw hK hc i pins s σ H E I hf st hg;subst hP hw hK;obtain⟨xs,x,hq,hx⟩:=hg;obtain⟨its,rv,p,hz⟩:=I.tuple hq;obtain⟨u,hu,ru⟩:=rv.get hx;obtain⟨⟨old,he⟩,hi⟩:=st;have p':s.heap.IsTuple a its.toArray:=p;obtain⟨oa,ha,ca,_⟩:=id p';obtain⟨oi,hoi,ci,_⟩:=id hi;have nai:a≠it:=l5 ha hoi ca ci (by decide);have nei:e≠it:=l5 he hoi rfl ci (by decide);have nea:e≠a:=l5 he ha rfl ca (by decide);have hlt:i<its.toArray.size:=by
   have:=(vM.mp hu).1;simpa using this
  refine wpAny_pyNext_enum_itemD (EN.qC (A:=X.A.in1) (I.ok.hd hc) it a nai its.toArray) he ⟨hi,p'⟩ hlt nei (by simp[nei,nea]) fun y h1 tk hy ho hs1 hT hsz hk=>?_;have ey:y=u:=by
   have:its.toArray[i]?=some u:=by simpa using hu
   rw[this]at hy;exact(IH hy).symm
  subst ey;refine⟨_,rfl,wpAny_letOwnedTupleGo_enum (s:={ s with heap:=h1,toks:=tk+1 }) ho fun h2 he2 sb=>?_⟩;have sb2:Heap.SameBut e h1 h2:=sb;have hlte:e<s.heap.objs.size:=xV he;have hT2:h2.get? s.heap.objs.size=some { cls:=.type "tuple",data:=.seq #[.int i tk,y] }:=(sb2.2 _ (JE hlte)).trans hT;have kk:∀b o,b≠e->b≠it->s.heap.get? b=some o->h2.get? b=some o:=fun b o n1 n2 q=>(sb2.2 b n1).trans (hk b o n1 n2 q);have hn:H s.heap.objs.size=none:=I.hok.fresh (yi _);have fe:=hf e (by simp);have fi:=hf it (by simp);have nit:∀b v,H b=some v->b≠e/\b≠it:=fun b v q=>⟨fun z=>(by rw[z,fe.1]at q;cases q),fun z=>(by rw[z,fi.1]at q;cases q)⟩;refine⟨.ref s.heap.objs.size,upd H s.heap.objs.size (.tup [.int (i:Nat),x]),?_,rfl,⟨_,x,hn,rfl,rfl,fun ys hy'=>by rw[I.tuple_inj hy' hq];exact hx⟩,⟨⟨y,by simpa using he2⟩,?_⟩,fun b hb=>?_⟩
  ·show Inv X pins σ _ { s with heap:=h2,toks:=tk+1 };refine I.step (h':=h2) (g':=s.gens) (d':=s.drawn) (t':=tk+1) (ch:=[e,it]) (fun b hb=>?_) (fun b o _ _ hc q _=>kk b o (fun z=>hc (by simp[z])) (fun z=>hc (by simp[z])) q) (fun b o _ _ hc q _=>⟨o.slots,kk b o (fun z=>hc (by simp[z])) (fun z=>hc (by simp[z])) q⟩)
    (fun b o _ q n=>by rw[aP (B6 (xV q))];exact n) (fun b o hc q=>⟨o,kk b o (fun z=>hc (by simp[z])) (fun z=>hc (by simp[z])) q⟩) (fun b ys q=>by rw[aP (aY q hn)];exact q) (fun b o v q=>by rw[aP (aY q hn)];exact q)
    (fun b ps q=>⟨#[],by rw[aP (aY q hn),q];simp⟩) (fun m hm=>?_) (fun b v q=>?_) I.bare
   ·rcases Ic.mp hb with rfl | hb
    ·exact⟨fe.2.2.2.1,fe.2.1,fe.2.2.2.2.1,fe.2.2.2.2.2⟩
    ·rw[xI.mp hb];exact⟨fi.2.2.2.1,fi.2.1,fi.2.2.2.2.1,fi.2.2.2.2.2⟩
   ·obtain⟨o,es,ep,q,r⟩:=hm;exact⟨o,es,ep,kk _ o (Ne.symm fe.2.1) (Ne.symm fi.2.1) q,r⟩
   ·by_cases hb:b=s.heap.objs.size
    ·subst hb;rw[bc]at q;cases q;exact⟨by show 2≤sizeLine;rw[IT];omega,[.int i tk,y],.cons ⟨tk,rfl⟩ (.cons ru .nil),⟨_,hT2,rfl,_,rfl⟩⟩
    ·rw[aP hb]at q;refine(I.hok b v q).stay (fun c z hc q2=>?_) (fun c q2=>by rw[aP (aY q2 hn)];exact q2) fun c ys q2=>by rw[aP (aY q2 hn)];exact q2
     have nn:c≠e/\c≠it:=by
      rcases hc with z | z
      ·rw[z];exact nit b v q
      ·exact nit c _ z
     exact kk c z nn.1 nn.2 q2
  ·obtain⟨o,q,r⟩:=hs1.1;exact⟨o,(sb2.2 _ (Ne.symm nei)).trans q,r⟩
  ·have hb2:b<s.heap.objs.size:=by
    rcases Ic.mp hb with rfl | hb
    ·exact hlte
    ·rw[xI.mp hb];exact xV hoi
   rw[aP (B6 hb2)];exact(hf b hb).1
 done:=by
  intro X hP hw hK hc i pins s σ H E I hf st hg;subst hP hw hK;obtain⟨xs,hq,rfl⟩:=hg;obtain⟨its,rv,p,hz⟩:=I.tuple hq;obtain⟨⟨old,he⟩,hi⟩:=st;have p':s.heap.IsTuple a its.toArray:=p;obtain⟨oa,ha,ca,_⟩:=id p';obtain⟨oi,hoi,ci,_⟩:=id hi;have nai:a≠it:=l5 ha hoi ca ci (by decide);have hl:=rv.length;have es:xs.length=its.toArray.size:=by simp;omega
  obtain⟨f0,f1,f2,f3,f4,f5⟩:=hf it (by simp);refine wpAny_pyNext_enum_endD (EN.qC (A:=X.A.in1) (I.ok.hd hc) it a nai its.toArray) he ⟨by rw[←es];exact hi,p'⟩ fun h1 eb=>⟨rfl,I.turned (t':=s.toks) (fun b o hb q=>eb b o hb q) f0 f1 f3 f4 f5⟩
 self:=fun _ _ _ _ _ st h=>let ⟨⟨_,he⟩,_⟩:=st;wpAny_pyIter_enum he h
section
variable {X:Cx}
theorem zt:bootBuiltins "enumerate"=some (.type "enumerate"):=by decide +kernel
def iEn(K:PySem.W.Frag)(ta:TA):TI:=fun σ H R=>ta σ H fun vs H1=>∃a,vs=[.ref a]/\(∃xs,SqT K H1 a xs)/\R (Ite K a) H1
theorem DT{elts:List Expr}{k1}{tpos:Pos}{c:Expr}{ta:TA}{p pos:Pos}(hg:Gl X "enumerate")(hm:X.mg "enumerate"=none)(ha:PA X [c] ta)(hs:starEach [c] X.env=[(false,eval c X.env)]:=by rfl) :
  PI X (.Tuple elts k1 tpos) (.Call (.Name "enumerate" p) [c] [] pos) (iEn X.K ta):=by
 intro pins s σ H R I h;refine Call_ (cN I hg hm zt (IK (thn (ha pos pins s σ H _ I h) fun us s1 ⟨vs,H1,I1,r1,q1⟩=>?_) hs rfl));obtain⟨a,e,⟨xs,hq⟩,q⟩:=q1;subst e;cases r1 with
 | cons r rr =>
  cases rr;cases r;obtain⟨its,rv,p,hz⟩:=I1.tuple hq;refine EN.A6 (show s1.heap.IsTuple a its.toArray from p) fun h1 he hi kk=>wpAny_pyIter_enum he ?_;refine⟨s1.heap.objs.size+1,[s1.heap.objs.size+1,s1.heap.objs.size],_,_,H1,rfl,I1.kept (t':=s1.toks) kk,zv a _ _,⟨⟨_,he⟩,hi⟩,fun b hb=>?_,q⟩;have hb2:s1.heap.objs.size≤b:=by
   rcases Ic.mp hb with rfl | hb
   ·exact Nat.le_succ _
   ·rw[xI.mp hb];exact yi _
  exact I1.fpOk hb2 (I1.hok.fresh hb2)
end
end L2
namespace U
open L2
variable {B:Bs}{X:Cx}{pos:Pos}
structure BI (K:PySem.W.Frag) (H1:Hp) (J:It) (J':It'):Prop where
 go:∀H' H i,Kp H1 H->HR K H' H->J'.ok H'->i<J'.items.length->J.go i H
 yld:∀H' H i x H2,Kp H1 H->HR K H' H->J'.ok H'->J.yld i H x H2->HR K H' H2/\Ev H' H H' H2/\∀x',J'.items[i]?=some x'->RP K H2 x' x
 stop:∀H' H,Kp H1 H->HR K H' H->J'.ok H'->J.stop J'.items.length H
def Ai(K:PySem.W.Frag)(B:Bs)(t:TI'):TI:=fun σ H R=>∃σ' H' R',SR K B σ' H' σ H/\t σ' H' R'/\∀J' H1' J H1,R' J' H1'->BI K H1 J J'->SR K B σ' H1' σ H1->Ev H' H H1' H1->R J H1
abbrev PIH(X:Cx)(B:Bs)(tg e:Expr)(t:TI'):Prop:=PI X tg e (Ai X.K B t)
theorem kB{K:PySem.W.Frag}{nt:Nat}{js:List Nat}{wi:TI'}{g:TG'}{tt:TT'}{te:TE'}{σ:L2.St}{H:Hp}{Q:VK}(h:low K B (jt nt js wi g tt te) σ H Q) :
  qN nt js (Ai K B wi) (lowG K B g) (j2 K B tt) (low K B te) σ H Q:=by
 obtain⟨σ',H',Q',s,h,k⟩:=h;refine⟨σ',H',_,s,h,fun J' H1' J H1 h1 wk s1 e1 acc ha=>?_⟩;have h1:=h1 acc (s1.hp.free ha);have sn:SR K B σ' (put H1' acc (.lst [])) σ (upd H1 acc (.lst [])):=s1.new ha ⟨[],bc,RPs.nil _⟩;have en:Ev H1' H1 (put H1' acc (.lst [])) (upd H1 acc (.lst [])):=Ev.new ha;refine⟨fun i m σ2 H2=>i≤J'.items.length/\m=J'.items.length - i/\∃σ2' H2',SR K B σ2' H2' σ2 H2/\SR K B σ' H2' σ H2/\Ev H1' H1 H2' H2/\eo J'.ok g tt te acc Q' (J'.items.drop i) σ2' H2',
  ⟨J'.items.length,Jk _,by simp,_,_,sn.sig nt js,sn,en,h1⟩,?_⟩
 rintro i m σ2 H2 ⟨hi,rfl,σ2',H2',s2,so,e2,h2⟩;have k2:=e2.kp s1.hp;by_cases hlt:i<J'.items.length
 ·obtain⟨x',hx⟩:∃x',J'.items[i]?=some x':=⟨_,sH hlt⟩;have hd:J'.items.drop i=x'::J'.items.drop (i+1):=by
   rw[Jj hlt];rw[sH hlt]at hx;cases hx;rfl
  rw[hd]at h2;obtain⟨ok2,h2⟩:=(show J'.ok H2'/\_ from h2);refine .inr ⟨wk.go H2' H2 i k2 s2.hp ok2 hlt,fun x H3 y=>?_⟩;obtain⟨hr3,ev3,rx⟩:=wk.yld H2' H2 i x H3 k2 s2.hp ok2 y;have s2b:=s2.kp ev3 hr3;have sob:=so.kp ev3 hr3;have e2b:=e2.trans ev3;refine⟨x',σ2',H2',_,rx x' hx,s2b,h2,fun σ3' H3' σ3 H3 h3 s3 e3=>⟨σ3',H3',_,s3,h3,fun b H4' H4 h4 s4 e4=>?_⟩⟩;cases b with
  | false =>
   have e24:=e3.trans e4;exact ka ⟨J'.items.length - (i+1),by omega,hlt,rfl,σ3',H4',s4,sob.kp e24 s4.hp,e2b.trans e24,h4⟩
  | true =>
   refine j6 ⟨σ3',H4',_,s4,h4,fun y' H5' y H5 h5 ry5 s5 e5=>?_⟩;obtain⟨l,a1,a2,h5⟩:=h5;have e25:=(e3.trans e4).trans e5;obtain⟨us,q1,q2⟩:=s5.hp _ _ a1;have wr:=wrL s5.hp a1 (RPs.append _ q2 (RPs.cons _ ry5 (RPs.nil _)));refine⟨us,q1,by rw[RPs.length _ q2];exact a2,J'.items.length - (i+1),by omega,hlt,rfl,σ3',_,s5.wr a1 wr,(sob.kp e25 s5.hp).wr a1 wr,(e2b.trans e25).trans (Ev.wr a1),h5⟩
 ·have hi':i=J'.items.length:=by omega
  subst hi';rw[JQ]at h2;obtain⟨ok2,h2⟩:=(show J'.ok H2'/\_ from h2);exact .inl ⟨wk.stop H2' H2 k2 s2.hp ok2,k _ _ _ _ h2 (by simp[RP]) so (e1.trans e2)⟩
section
variable {N2:List Str}{nt:Nat}{js:List Nat}{scope sc:Scope}{cl:List (Str×Addr)}{elt iter tg:Expr}{ifs:List Expr}{wi:TI'}{g:TG'}{tt:TT'}{te:TE'}
theorem vT(O:cJ X N2 nt js scope cl sc)(hc:X.calm=true)(hi:PIH X B tg iter wi)(b:∀(s0:Shared) (H0:Hp) (fp:List Addr) (ps:List (Addr×Obj)),lH (dj X N2 scope cl s0 H0 fp ps) B tg ifs elt g tt te)
  (hs:∀x,foldedSetIterable iter X.env x=pure x:=by intro _;rfl):PE' X B (.ListComp elt [⟨tg,iter,ifs,0⟩] scope pos) (jt nt js wi g tt te) :=
 a6 (mv (g:=lowG X.K B g) (tt:=j2 X.K B tt) (te:=low X.K B te) O hc hi (fun s0 H0 fp ps=>⟨(b s0 H0 fp ps).tgt,(b s0 H0 fp ps).tst,(b s0 H0 fp ps).elt⟩) hs) fun _ _ _ h=>kB h
end
def iw(l:List PV):List PV:=l.mapIdx fun i x=>.tup [.int (i:Nat),x]
def en1(vs:List PV)(H1:PHp)(R:It'->PHp->Prop):Prop:=match vs with
 | [.tup l]=>R ⟨iw l,fun _=>True⟩ H1
 | _=>False
theorem FA{l:List PV}{H:PHp}{R:It'->PHp->Prop}:en1 [.tup l] H R=R ⟨iw l,fun _=>True⟩ H:=rfl
def uEn(t:TA'):TI':=fun σ H R=>t σ H fun vs H1=>en1 vs H1 R
theorem uN{elts:List Expr}{k1}{tpos:Pos}{c:Expr}{t:TA'}{p:Pos}(hg:Gl X "enumerate")(hm:X.mg "enumerate"=none)(ha:PA' X B [c] t)(hs:starEach [c] X.env=[(false,eval c X.env)]:=by rfl) :
  PIH X B (.Tuple elts k1 tpos) (.Call (.Name "enumerate" p) [c] [] pos) (uEn t):=k9 (DT hg hm ha hs) fun σ H R y_=>by
 obtain⟨σ',H',R',s,h,k⟩:=y_;refine⟨σ',H',_,s,h,fun vs' H1' vs H1 h1 r1 s1 e1=>?_⟩;unfold en1 at h1;split at h1
 ·rename_i l;simp only[RPs,RP]at r1;obtain⟨u,r,rfl,⟨a,us,rfl,q,rl⟩,rfl⟩:=r1;refine⟨a,rfl,⟨us,q⟩,k _ H1' _ H1 h1 ⟨fun H2' H2 i k2 hr _ hi=>?_,fun H2' H2 i x H3 k2 hr _ y=>?_,fun H2' H2 k2 hr _=>?_⟩ s1 e1⟩
  ·have hi':i<l.length:=by simpa[iw]using hi
   obtain⟨u,e,_⟩:=RPs.get _ rl (sH hi');exact⟨us,u,k2.sqT q,e⟩
  ·obtain⟨T,y1,hT,rfl,rfl,hy⟩:=y;refine⟨hr.hid hT,Ev.hid hT,fun x' hx=>?_⟩;obtain⟨z,hz,rfl⟩:∃z,l[i]?=some z/\x'=.tup [.int (i:Nat),z]:=by
    unfold iw at hx;rw[List.getElem?_mapIdx]at hx;cases e:l[i]? with
    | none=>rw[e]at hx;cases hx
    | some z=>rw[e]at hx;exact⟨z,rfl,(IH hx).symm⟩
   obtain⟨u,e,ru⟩:=RPs.get _ (RPs.kp _ k2 rl) hz;have ey:=hy us (k2.sqT q);rw[e]at ey;cases ey;exact mm hT (RPs.cons _ (by simp[RP]) (RPs.cons _ ru (RPs.nil _)))
  ·refine⟨us,k2.sqT q,?_⟩;rw[RPs.length _ rl];simp[iw]
 ·exact h1.elim
end U
namespace L2
section
variable {X:Cx}{pins:List (Addr×Obj)}{σ:St}{H:Hp}{s:Shared}{h':Heap}
end
section
variable {X:Cx}
end
end L2
namespace U
open L2
variable {B:Bs}{X:Cx}{pos:Pos}
theorem yE{t:TS'}{iter tg:Expr}{body:List Stmt}{wi:TI'}{g:TG'}(hp:PassesOwn (model X.prog X.w) X.A X.env X.xe)(hc:X.calm=true)(hi:PIH X B tg iter wi)(hg:PG' X B tg g)(hb:iO X B body t)
  (hs:∀x,foldedSetIterable iter X.env x=pure x:=by intro _;rfl):PS' X B (.For tg iter body [] pos) (BX wi g t):=cO (vY hp hc hi hg hb hs) fun D σ H y_=>by
 obtain⟨σ',H',D',s,h,d⟩:=y_;refine⟨σ',H',_,s,h,fun J' H1' J H1 h1 wk s1 e1=>?_⟩;refine⟨fun i m σ2 H2=>i≤J'.items.length/\m=J'.items.length - i/\∃σ2' H2',SR X.K B σ2' H2' σ2 H2/\Ev H1' H1 H2' H2/\eU J'.ok g t D' (J'.items.drop i) σ2' H2',⟨J'.items.length,Jk _,by simp,σ',H1',s1,Ev.refl _ _,h1⟩,?_⟩;rintro i m σ2 H2 ⟨hi,rfl,σ2',H2',s2,e2,h2⟩;have k2:=e2.kp s1.hp;by_cases hlt:i<J'.items.length
 ·obtain⟨x',hx⟩:∃x',J'.items[i]?=some x':=⟨_,sH hlt⟩;have hd:J'.items.drop i=x'::J'.items.drop (i+1):=by
   rw[Jj hlt];rw[sH hlt]at hx;cases hx;rfl
  rw[hd]at h2;obtain⟨ok2,h2⟩:=(show J'.ok H2'/\_ from h2);refine .inr ⟨wk.go H2' H2 i k2 s2.hp ok2 hlt,fun σ3 H3=>∃σ3' H3',SR X.K B σ3' H3' σ3 H3/\Ev H1' H1 H3' H3/\eU J'.ok g t D' (J'.items.drop (i+1)) σ3' H3',?_,fun x H3 y=>?_⟩
  ·rintro σ3 H3 ⟨σ3',H3',s3,e3,h3⟩;exact⟨J'.items.length - (i+1),by omega,hlt,rfl,σ3',H3',s3,e3,h3⟩
  ·obtain⟨hr3,ev3,rx⟩:=wk.yld H2' H2 i x H3 k2 s2.hp ok2 y;have s2b:=s2.kp ev3 hr3;have e2b:=e2.trans ev3;refine⟨x',σ2',H2',_,rx x' hx,s2b,h2,fun σ3' H3' σ3 H3 h3 s3 e3=>⟨σ3',H3',_,s3,h3,?_,?_,?_,?_⟩⟩
   ·intro σ4' H4' σ4 H4 h4 s4 e4;exact⟨σ4',H4',s4,e2b.trans (e3.trans e4),h4⟩
   ·intro v' H4' v H4 h4 r4 s4 e4;exact d.rt _ _ _ _ h4 r4 s4 (e1.trans (e2b.trans (e3.trans e4)))
   ·intro σ4' H4' σ4 H4 h4 s4 e4;exact d.nx _ _ _ _ h4 s4 (e1.trans (e2b.trans (e3.trans e4)))
   ·intro σ4' H4' σ4 H4 h4 s4 e4;exact⟨σ4',H4',s4,e2b.trans (e3.trans e4),h4⟩
 ·have hi':i=J'.items.length:=by omega
  subst hi';rw[JQ]at h2;obtain⟨ok2,h2⟩:=(show J'.ok H2'/\_ from h2);exact .inl ⟨wk.stop H2' H2 k2 s2.hp ok2,d.nx _ _ _ _ h2 s2 (e1.trans e2)⟩
end U
namespace L2
variable {X:Cx}
def C1(b:Bool)(v:Value):Bool:=match v with
 | .bool c=>c==b
 | _=>false
theorem qq:∀{bs:List Bool} {us:List Value},Vals (bs.map V.bl) us->∀y∈us,∃c,y=Value.bool c
 | [],_,r,y,hy=>by cases r;cases hy
 | b::bs,_,r,y,hy=>by
  cases r with
  | cons h r =>
   rcases Ic.mp hy with e | e
   ·exact⟨b,e.trans h⟩
   ·exact qq r y e
theorem mh:∀{bs:List Bool} {us:List Value},Vals (bs.map V.bl) us->∀(j:Nat) (h1:j<us.length) (h2:j<bs.length),us[j]=Value.bool bs[j]
 | b::bs,_,r,0,h1,h2=>by cases r with | cons h r=>exact h
 | b::bs,_,r,j+1,h1,h2=>by
  cases r with
  | cons h r=>exact mh r j (Nat.lt_of_succ_lt_succ h1) (Nat.lt_of_succ_lt_succ h2)
theorem gF:∀{bs:List Bool} {j:Nat},j<bs.idxOf true->∀h:j<bs.length,bs[j]=false
 | b::bs,0,h,_=>by cases b<;>simp_all
 | b::bs,j+1,h,h2=>by
  cases b with
  | true=>simp at h
  | false =>
   have h':j<bs.idxOf true:=by
    rw[List.idxOf_cons]at h;exact Nat.lt_of_succ_lt_succ h
   exact gF h' (Nat.lt_of_succ_lt_succ h2)
theorem rH:MtR X "list.index" (fun x xs H Q=>∃(a:Addr) (bs:List Bool),x=.ref a/\xs=[.bl true]/\SqL X.K H a (bs.map V.bl)/\true∈bs/\Q (.int (bs.idxOf true:Nat)) H):=by
 intro pins s σ H x xs v us Q I rx rv h;obtain⟨a,bs,rfl,rfl,hq,ht,q⟩:=h;cases rx;obtain⟨u,rfl,ru⟩:=rv.one;cases ru;obtain⟨its,r,p,hz⟩:=I.list hq;obtain⟨⟨cls,dd,data,sl⟩,ho,hc,n,hd⟩:=id p.isList;simp only at hc hd;subst hc hd;have hl:bs.length=its.length:=by have:=Paired.length r;rwa [rS]at this
 have hj:bs.idxOf true<bs.length:=List.idxOf_lt_length_iff.mpr ht;have h63:=lI;rw[rS]at hz;refine call_meets PySem.F.slot_list_index ⟨_,ho,rfl⟩ PySem.F.entry_list_index (PySem.F.args_list_index_2 _ _)
  (PySem.SeqAt.list_indexAt a its.toArray n dd sl (.bool true) (C1 true) (bs.idxOf true) (by simpa[←hl]using hj) (by omega) ?_ ?_) ⟨ho,fun y hy=>?_,?_⟩
 ·show C1 true its[bs.idxOf true]=true;rw[mh r _ (by omega) hj];show(bs[bs.idxOf true]==true)=true;have e:=List.getElem_idxOf hj;simpa using e
 ·intro j hjs hlt;show C1 true its[j]=false;rw[mh r j (by simpa using hjs) (by omega)];show(bs[j]==true)=false;rw[gF hlt (by omega)];rfl
 ·obtain⟨c,rfl⟩:=qq r y (by simpa using hy);exact SeqAt.EqAt.bool_bool c true
 ·exact⟨.int (bs.idxOf true:Nat),H,I.kept fun b o e=>e,⟨_,rfl⟩,q⟩
end L2
namespace U
open L2
section
variable {B:Bs}
def lO:PV->List PV->PHp->VK'->Prop:=fun x vs H Q=>match x,vs with
 | .ref a,[.bl true]=>∃bs:List Bool,H a=some (.lst (bs.map PV.bl))/\true∈bs/\Q (.int (bs.idxOf true:Nat)) H
 | _,_=>False
theorem EK{a:Addr}{H:PHp}{Q:VK'}:lO (.ref a) [.bl true] H Q=∃bs:List Bool,H a=some (.lst (bs.map PV.bl))/\true∈bs/\Q (.int (bs.idxOf true:Nat)) H:=rfl
theorem qF{K:PySem.W.Frag}{H:Hp}:∀{bs:List Bool} {us:List V},RPs K H (bs.map PV.bl) us->us=bs.map V.bl
 | [],_,r=>by simpa[RPs]using r
 | b::bs,_,r=>by
  simp only[yd,RPs]at r;obtain⟨u,r1,e,ru,r2⟩:=r;simp only[RP]at ru;rw[e,ru,qF r2];rfl
theorem rT{K:PySem.W.Frag}:VM K B lO (fun x xs H Q=>∃(a:Addr) (bs:List Bool),x=.ref a/\xs=[.bl true]/\SqL K H a (bs.map V.bl)/\true∈bs/\Q (.int (bs.idxOf true:Nat)) H):=by
 intro σ' σ H' H x' xs' x xs Q' Q s rx r h k;unfold lO at h;split at h
 ·rename_i a;obtain⟨bs,e,ht,h⟩:=h;obtain⟨us,q,r2⟩:=s.hp _ _ e;simp only[RP,RPs]at rx r;obtain⟨u,r1,rfl,ru,rfl⟩:=r;subst rx;subst ru;rw[qF r2]at q;exact⟨a,bs,rfl,rfl,.inl (.inl q),ht,k _ _ _ _ h (by simp[RP]) s (Ev.refl _ _)⟩
 ·exact h.elim
end
section
variable {B:Bs}
section
variable {X:Cx}{k:Nat}{f C:Addr}{fd:FuncData}{ps:List Str}{sp:Sp'}{E:XK}{E':XK'}{x m:Str}{p pos apos:Pos}{e o:Expr}{es:List Expr}{ta:TE'}{t:TA'}
def Ef(C:Addr)(m:Str)(sp:Sp')(ta:TE')(t:TA'):TX':=fun σ H Q E=>ta σ H fun x H1=>isIn C m x H1/\t σ H1 fun vs H2=>sp (x::vs) H2 Q E
end
end
section
variable {B:Bs}{X:Cx}
end
section
variable {B:Bs}{X:Cx}
def Ep(K:PySem.W.Frag):R2:=fun x y H Q=>∃d1 d2,flat 60 d1=true/\flat 60 d2=true/\RDv K H d1 x/\RDv K H d2 y/\Q (.bl (deq d1 d2)) H
theorem C9(hu:X.A.units+64<cLine):OpR X (compareOp .Eq) (Ep X.K):=by
 intro pins s σ H x y v u Q I rx ry h;obtain⟨d1,d2,f1,f2,r1,r2,q⟩:=h;exact(gB I 60 (by omega) f1 f2 (r1.rd rx) (r2.rd ry)).2 _ _ _ _ ⟨.bl _,H,I,rfl,q⟩
def Ew:R2':=fun x y H Q=>cy x H fun d1=>cy y H fun d2=>flat 60 d1=true/\flat 60 d2=true/\Q (.bl (deq d1 d2)) H
theorem Bn{K:PySem.W.Frag}:VR K B Ew (Ep K):=by
 intro σ' σ H' H x' y' x y Q' Q s rx ry h k;obtain⟨d1,r1,h1⟩:=cy.ex h s rx;obtain⟨d2,r2,f1,f2,q⟩:=cy.ex h1 s ry;exact⟨d1,d2,f1,f2,r1,r2,k _ H' _ H q (by simp[RP]) s (Ev.refl _ _)⟩
section
variable {pos:Pos}{N2:List Str}{nt:Nat}{js:List Nat}{scope sc:Scope}{cl:List (Str×Addr)}{elt iter tg:Expr}{ifs:List Expr}{wi:TI'}{g:TG'}{tt:TT'}{te:TE'}
theorem tK{i:Nat}{y:Str}{py spos:Pos}(hN:X.N.Nodup)(hy:X.N[i]?=some y)(hl:Loc X.env.scope y)(O:cJ X N2 nt js scope cl sc)(hc:X.calm=true)(hi:PIH X B tg iter wi)
  (b:∀(s0:Shared) (H0:Hp) (fp:List Addr) (ps:List (Addr×Obj)),lH (dj X N2 scope cl s0 H0 fp ps) B tg ifs elt g tt te)
  (hsw:swapsWith (.ListComp elt [⟨tg,iter,ifs,0⟩] scope pos) (some (.Name y py)) spos.line X.env=pure true:=by rfl)
  (hs:∀x,foldedSetIterable iter X.env x=pure x:=by intro _;rfl) (hfn:X.fn y=true∨X.env.scope.names.lookup y=some .local:=by first | exact .inl rfl | exact .inr rfl | assumption) :
  PS' X B (.Assign [.Name y py] (.ListComp elt [⟨tg,iter,ifs,0⟩] scope pos) spos) (nF (jt nt js wi g tt te) (gi i)) :=
 cO (n4 (g:=lowG X.K B g) (tt:=j2 X.K B tt) (te:=low X.K B te) hN hy hl O hc hi (fun s0 H0 fp ps=>⟨(b s0 H0 fp ps).tgt,(b s0 H0 fp ps).tst,(b s0 H0 fp ps).elt⟩) hsw hs hfn) fun D σ H y_=>by
  obtain⟨σ',H',D',s,h,d⟩:=y_;refine kB ⟨σ',H',_,s,h,fun v' H1' v H1 q r s1 e1=>?_⟩;exact d.nx _ _ _ _ q (s1.set r i) e1
end
end
end U
namespace DM
abbrev P2:=Int×Int
def pk(p:P2):Int:=6*p.1+p.2
structure Good (c:Int) (l:List P2):Prop where
 nd:l.Nodup
 lo:∀p∈l,0≤p.1/\p.1<p.2/\p.2<c
theorem kK{α:Type}(k:α->Int):∀{a b:List α},a.Pairwise (fun x y=>k x<k y)->b.Pairwise (fun x y=>k x<k y)->(∀x,x∈a↔x∈b)->a=b
 | [],[],_,_,_=>rfl
 | [],y::b,_,_,h=>by have:=(h y).mpr xP;simp at this
 | x::a,[],_,_,h=>by have:=(h x).mp xP;simp at this
 | x::a,y::b,ha,hb,h=>by
  obtain⟨h1,h2⟩:=JU.mp ha;obtain⟨g1,g2⟩:=JU.mp hb;have e:x=y:=by
   rcases Ic.mp ((h x).mp xP)with e | m
   ·exact e
   ·rcases Ic.mp ((h y).mpr xP)with e | m'
    ·exact e.symm
    ·have a1:=g1 x m;have a2:=h1 y m';omega
  subst e;congr 1;refine kK k h2 g2 fun z=>⟨fun m=>?_,fun m=>?_⟩
  ·rcases Ic.mp ((h z).mp (Bo _ m))with e | m'
   ·subst e;have:=h1 z m;omega
   ·exact m'
  ·rcases Ic.mp ((h z).mpr (Bo _ m))with e | m'
   ·subst e;have:=g1 z m;omega
   ·exact m'
theorem jb{a b l:List P2}(ha:a.Perm l)(sa:a.Pairwise (fun x y=>pk x<pk y))(hb:b.Perm l)(sb:b.Pairwise (fun x y=>pk x<pk y)):a=b :=
 kK pk sa sb fun x=>ha.mem_iff.trans hb.mem_iff.symm
theorem Good.prs{c:Int}{l:List P2}(g:Good c l)(hc:c≤6):∀p∈l,p∈SP.prs:=fun p hp=>by
 have:=g.lo p hp;exact SP.yM (u:=p.1) (v:=p.2) this.1 this.2.1 (by omega)
theorem dE{α:Type}[BEq α][LawfulBEq α]{l m:List α}(nd:l.Nodup)(h:∀x∈l,x∈m):l.length≤m.length:=by
 induction l generalizing m with
 | nil=>simp
 | cons x l ih =>
  obtain⟨h1,h2⟩:=JW.mp nd;have hx:=h x xP;have:=ih (m:=m.erase x) h2 fun y hy=>(List.mem_erase_of_ne (by rintro rfl;exact h1 hy)).mpr (h y (Bo _ hy));have e:=List.length_erase_of_mem hx;have:0<m.length:=List.length_pos_of_mem hx;simp only[Ih];omega
theorem Good.len{c:Int}{l:List P2}(g:Good c l)(hc:c≤6):l.length≤15:=dE g.nd (g.prs hc)
end DM
namespace My
def gd(a b:Int):Int:=(Int.gcd a b:Nat)
abbrev ab(x:Int):Int:=if x<0 then -x else x
end My
namespace My
open U
def BN(n:Nat)(i:Int):Prop:=i.natAbs<2 ^ n
theorem BN.fit{n:Nat}{i:Int}(h:BN n i)(hn:n≤9000):Fit i:=by
 unfold Fit;unfold BN at h;rcases Nat.eq_zero_or_pos i.natAbs with h0 | hp
 ·rw[h0,Nat.log2_zero];omega
 ·have:=(Nat.log2_lt (JE hp)).mpr h;omega
theorem BN.mul{n m:Nat}{i j:Int}(h:BN n i)(g:BN m j):BN (n+m) (i*j):=by
 unfold BN at *;rw[Int.natAbs_mul,Nat.pow_add];exact Nat.mul_lt_mul'' h g
theorem BN.add{n:Nat}{i j:Int}(h:BN n i)(g:BN n j):BN (n+1) (i+j):=by
 unfold BN at *;rw[Nat.pow_succ];omega
theorem BN.of_le{n:Nat}{i j:Int}(h:BN n i)(g:j.natAbs≤i.natAbs):BN n j:=Nat.lt_of_le_of_lt g h
def num(c:Int):Int:=if c.fmod 4=0 then(c.fdiv 4*982451653).fmod (2*10 ^ 60 - 1) - 10 ^ 60+1 else if c.fmod 4=1 then(c.fdiv 4).fmod 2001 - 1000 else(c.fdiv 4).fmod 25 - 12
end My
namespace My
abbrev P2:=Int×Int
inductive Reach (E:List P2) (S:List Int):Int→Prop where
 | base {x:Int} (h:x∈S):Reach E S x
 | step {a b:Int} (h:Reach E S a) (e:(a,b)∈E):Reach E S b
def outs(E:List P2)(a:Int):List Int:=(E.filter fun p=>decide (p.1=a)).map (·.2)
theorem gG{E:List P2}{a b:Int}:b∈outs E a↔(a,b)∈E:=by
 unfold outs;rw[Bc];constructor
 ·rintro⟨⟨x,y⟩,h,rfl⟩;rw[Io]at h;have:x=a:=Jy h.2;subst this;exact h.1
 ·intro h;exact⟨(a,b),Io.mpr ⟨h,IL rfl⟩,rfl⟩
def cm(E:List P2)(f:List Int)(n:Int):List Int:=if n∈f then f++outs E n else f
theorem sy{E:List P2}{f:List Int}{n x:Int}(h:x∈f):x∈cm E f n:=by
 unfold cm;split
 ·exact IJ _ h
 ·exact h
theorem kJ{E:List P2}:∀(L:List Int) {f:List Int} {x:Int},x∈f->x∈L.foldl (cm E) f
 | [],_,_,h=>h
 | _::L,_,_,h=>kJ L (sy h)
theorem iI{E:List P2}{S:List Int}:∀(L:List Int) {f:List Int},(∀x∈f,Reach E S x)->∀x∈L.foldl (cm E) f,Reach E S x
 | [],_,h,x,hx=>h x hx
 | n::L,f,h,x,hx=>by
  refine iI L (f:=cm E f n) (fun y hy=>?_) x hx;unfold cm at hy;split at hy
  ·rename_i hn;rcases zi.mp hy with hy | hy
   ·exact h y hy
   ·exact .step (h n hn) (gG.mp hy)
  ·exact h y hy
def Fwd(E:List P2)(L:List Int):Prop:=∀a b,(a,b)∈E->∀L1 L2,L=L1++L2->b∈L1->a∈L1
theorem gr{E:List P2}:∀(L1 L2:List Int) {f:List Int},(∀a b,(a,b)∈E->a∈L1++L2)->(∀a b,(a,b)∈E->∀M1 M2,L1++L2=M1++M2->b∈M1->a∈M1)->(L1++L2).Nodup ->
  (∀a b,(a,b)∈E->a∈L1->a∈f->b∈f)->∀a b,(a,b)∈E->a∈L2.foldl (cm E) f->b∈L2.foldl (cm E) f
 | L1,[],f,hA,hF,hN,hc,a,b,e,ha=>by
  have:=hA a b e;rw[IP]at this;exact hc a b e this ha
 | L1,n::L2,f,hA,hF,hN,hc,a,b,e,ha=>by
  have eq:L1++n::L2=(L1++[n])++L2:=by simp
  refine gr (L1++[n]) L2 (f:=cm E f n) (by rw[←eq];exact hA) (by rw[←eq];exact hF) (by rw[←eq];exact hN) (fun a b e ha1 ha2=>?_) a b e ha;unfold cm at ha2 ⊢;split
  ·rename_i hn;rw[Ij hn]at ha2;rcases zi.mp ha2 with hf | ho
   ·rcases zi.mp ha1 with h1 | h1
    ·exact IJ _ (hc a b e h1 hf)
    ·have:a=n:=by simpa using h1
     subst this;exact IE _ (gG.mpr e)
   ·-- a is an out of n,so it stands behind n
    have en:=gG.mp ho;rcases zi.mp ha1 with h1 | h1
    ·have q:=hF n a en L1 (n::L2) rfl h1;rw[List.nodup_append]at hN;exact absurd rfl (hN.2.2 n q n (xP))
    ·have:a=n:=by simpa using h1
     subst this;exact IE _ (gG.mpr e)
  ·rename_i hn;rw[CI hn]at ha2;rcases zi.mp ha1 with h1 | h1
   ·exact hc a b e h1 ha2
   ·have:a=n:=by simpa using h1
    subst this;exact absurd ha2 hn
theorem qT{E:List P2}{L S:List Int}(hA:∀a b,(a,b)∈E->a∈L)(hF:Fwd E L)(hN:L.Nodup)(x:Int):x∈L.foldl (cm E) S↔Reach E S x:=by
 constructor
 ·exact iI L (fun y hy=>.base hy) x
 ·intro h
  induction h with
  | base h=>exact kJ L h
  | step h e ih=>exact gr [] L hA hF hN (fun a b e h=>absurd h (by simp)) _ _ e ih
def cB(f:List Int)(p:P2):List Int:=if p.1∈f/\p.2∉f then f++[p.2]else f
def cw(E:List P2)(f:List Int):List Int:=E.foldl cB f
theorem nJ{f:List Int}{p:P2}(h:f.Nodup):(cB f p).Nodup:=by
 unfold cB;split
 ·rename_i c;rw[List.nodup_append];refine⟨h,by simp,fun a ha b hb e=>?_⟩;have:b=p.2:=by simpa using hb
  subst this;subst e;exact c.2 ha
 ·exact h
theorem dz:∀(E:List P2) {f:List Int},f.Nodup->(cw E f).Nodup
 | [],_,h=>h
 | p::E,f,h=>dz E (f:=cB f p) (nJ h)
theorem kq(f:List Int)(p:P2):∃g,cB f p=f++g:=by
 unfold cB;split
 ·exact⟨_,rfl⟩
 ·exact⟨[],by simp⟩
theorem fv:∀(E:List P2) (f:List Int),∃g,cw E f=f++g
 | [],f=>⟨[],by simp[cw]⟩
 | p::E,f=>by
  obtain⟨g,hg⟩:=kq f p;obtain⟨k,hk⟩:=fv E (cB f p);refine⟨g++k,?_⟩;show cw E (cB f p)=_;rw[hk,hg,JI]
theorem fh{E0:List P2}{S:List Int}:∀(E:List P2) {f:List Int},(∀p∈E,p∈E0)->(∀x∈f,Reach E0 S x)->∀x∈cw E f,Reach E0 S x
 | [],_,_,h,x,hx=>h x hx
 | p::E,f,hE,h,x,hx=>by
  refine fh E (f:=cB f p) (fun q hq=>hE q (Bo _ hq)) (fun y hy=>?_) x hx;unfold cB at hy;split at hy
  ·rename_i c;rcases zi.mp hy with hy | hy
   ·exact h y hy
   ·have:y=p.2:=by simpa using hy
    subst this;exact .step (h p.1 c.1) (hE p xP)
  ·exact h y hy
theorem jV:∀(E:List P2) {f:List Int},cw E f=f->∀a b,(a,b)∈E->a∈f->b∈f
 | [],_,_,_,_,h,_=>absurd h (by simp)
 | p::E,f,hs,a,b,e,ha=>by
  have hs':cw E (cB f p)=f:=hs;obtain⟨g,hg⟩:=kq f p;obtain⟨k,hk⟩:=fv E (cB f p);have gn:g=[]:=by
   rw[hk,hg,JI]at hs';have:=congrArg List.length hs';rw[wW,wW]at this;exact IW.mp (by omega)
  have es:cB f p=f:=by rw[hg,gn,IP]
  rw[es]at hs';rcases Ic.mp e with e | e
  ·subst e;unfold cB at es;split at es
   ·have:=congrArg List.length es;rw[wW]at this;simp at this
   ·rename_i c;exact Js fun hb=>c ⟨ha,hb⟩
  ·exact jV E hs' a b e ha
theorem kS{E:List P2}{f:List Int}(h:cw E f≠f):f.length<(cw E f).length:=by
 obtain⟨g,hg⟩:=fv E f;rw[hg]at h ⊢;cases g with
 | nil=>simp at h
 | cons x g=>simp
def bZ(E:List P2):Nat->List Int->List Int
 | 0,f=>f
 | n+1,f=>bZ E n (cw E f)
theorem iB{E:List P2}:∀(n:Nat) {f:List Int},cw E f=f->bZ E n f=f
 | 0,_,_=>rfl
 | n+1,f,h=>by rw[bZ,h];exact iB n h
theorem dX{E:List P2}:∀(n:Nat) {f:List Int},f.Nodup->(bZ E n f).Nodup
 | 0,_,h=>h
 | n+1,_,h=>dX n (dz E h)
theorem gQ{E:List P2}{S:List Int}:∀(n:Nat) {f:List Int},(∀x∈f,Reach E S x)->∀x∈bZ E n f,Reach E S x
 | 0,_,h=>h
 | n+1,_,h=>gQ n (fh E (fun _ hp=>hp) h)
theorem jk{E:List P2}:∀(n:Nat) (f:List Int),∃g,bZ E n f=f++g
 | 0,f=>⟨[],by simp[bZ]⟩
 | n+1,f=>by
  obtain⟨g,hg⟩:=fv E f;obtain⟨k,hk⟩:=jk (E:=E) n (cw E f);exact⟨g++k,by rw[bZ,hk,hg,JI]⟩
theorem dE:∀(m:Nat) (f:List Int),f.Nodup->(∀x∈f,0≤x/\x<(m:Int))->f.length≤m
 | 0,f,_,h=>by
  cases f with
  | nil=>exact yi _
  | cons x f=>have:=h x xP;omega
 | m+1,f,hn,h=>by
  have q:=dE m (f.erase (m:Int)) (hn.erase _) (fun x hx=>by
   have hx':=List.mem_of_mem_erase hx;have:=h x hx';have ne:x≠(m:Int):=(List.Nodup.mem_erase_iff hn).mp hx |>.1
   omega)
  by_cases hm:(m:Int)∈f
  ·rw[List.length_erase_of_mem hm]at q;omega
  ·rw[List.erase_of_not_mem hm]at q;omega
theorem b8:∀{xs ys:List Int},xs.Pairwise (·<·)->ys.Pairwise (·<·)->(∀x,x∈xs↔x∈ys)->xs=ys
 | [],[],_,_,_=>rfl
 | [],y::ys,_,_,h=>absurd ((h y).mpr xP) (by simp)
 | x::xs,[],_,_,h=>absurd ((h x).mp xP) (by simp)
 | x::xs,y::ys,hx,hy,h=>by
  rw[JU]at hx hy;have e:x=y:=by
   have h1:=(h x).mp xP;have h2:=(h y).mpr xP;rcases Ic.mp h1 with h1 | h1
   ·exact h1
   ·rcases Ic.mp h2 with h2 | h2
    ·exact h2.symm
    ·have:=hx.1 y h2;have:=hy.1 x h1;omega
  subst e;rw[b8 hx.2 hy.2 fun z=>?_];constructor
  ·intro hz;rcases Ic.mp ((h z).mp (Bo _ hz))with q | q
   ·have:=hx.1 z hz;omega
   ·exact q
  ·intro hz;rcases Ic.mp ((h z).mpr (Bo _ hz))with q | q
   ·have:=hy.1 z hz;omega
   ·exact q
theorem ix{xs:List Int}(h:xs.Pairwise (·≤·))(n:xs.Nodup):xs.Pairwise (·<·):=by
 have:xs.Pairwise (fun a b=>a≤b/\a≠b):=List.Pairwise.and h n;exact this.imp fun y_=>by obtain⟨a,b⟩:=y_;omega
end My
namespace Lw
open L2 U
theorem boot_all:bootBuiltins "all"=some (.builtin "all"):=by decide +kernel
theorem boot_sorted:bootBuiltins "sorted"=some (.builtin "sorted"):=by decide +kernel
theorem boot_set:bootBuiltins "set"=some (.type "set"):=by decide +kernel
theorem iM:bootBuiltins "ValueError"=some (.type "ValueError"):=by decide +kernel
theorem boot_sum:bootBuiltins "sum"=some (.builtin "sum"):=by decide +kernel
theorem v8{x y:PV}:atI [x,y] 0=some x:=rfl
theorem wR{x y:PV}:atI [x,y] 1=some y:=rfl
theorem ck{X:Cx}{N2:List Str}{nt:Nat}{js:List Nat}{scope sc:Scope}{cl:List (Str×Addr)}(clos:closureFor scope X.env=pure cl:=by exact rfl)(sub:ro X.env.cells cl:=by repeat (first | exact trivial | refine⟨rfl,?_⟩))(xsc:X.env.scope=sc:=by rfl)(kind:scope.kind=.function:=by rfl)
  (nocell:∀y∈scope.names,y.2≠.cell:=by decide +kernel) (loc:∀y∈scope.names,y.2=.local->scope.names.lookup y.1=some .local:=by decide +kernel) (names:cl.map (·.1)=((scope.names.filter (·.2==.free)).map (·.1)).reverse:=by rfl)
  (frs:∀x∈N2.drop nt,scope.names.lookup x=some .free/\sc.names.lookup x=some .cell:=by decide +kernel) (len:N2.length=nt+js.length:=by rfl) (pl:js.map (fun j=>X.N[j]?)=(N2.drop nt).map some:=by rfl):cJ X N2 nt js scope cl sc:=cok clos sub xsc kind nocell loc names frs len pl
def top(i:Nat):Stmt:=PySem.Challenge.pw_doingbook_k43_formulas_of_papers.main.body.getD i (.Pass ⟨0,0,0,0⟩)
abbrev BO:Stmt:=top 26
local macro_rules | `(tactic| walk_at "q") => `(tactic| exact ⟨rfl, rfl, rfl, by decide +kernel, rfl, by decide +kernel, by decide +kernel⟩)
theorem Em:aB ["count","pair"] ["count","pair"] (ak BO):=by walk_at "q"
abbrev xQ:Stmt:=top 27
theorem E5:aB ["count","pairs"] ["count","pairs"] (ak xQ):=by walk_at "q"
abbrev AK:Stmt:=top 28
theorem pL:aB ["count","names","ahead","name"] ["count","names"] (ak AK):=by walk_at "q"
abbrev Dc:Stmt:=top 29
theorem Ff:aB ["count"] ["count"] (ak Dc):=by walk_at "q"
abbrev xT:Stmt:=top 30
theorem Fe:aB ["names","others"] ["names","others"] (ak xT):=by walk_at "q"
abbrev uE:Stmt:=inClass (top 31) 0
theorem uF:aB ["self","count","ties","bows","own_ties","own_bows"] ["self","count","ties","bows"] (ak uE):=by walk_at "q"
abbrev BH:Stmt:=inClass (top 31) 2
theorem D2:aB ["self","name"] ["self","name"] (ak BH):=by walk_at "q"
abbrev Cz:Stmt:=inClass (top 31) 3
theorem Eu:aB ["self","names"] ["self","names"] (ak Cz):=by walk_at "q"
abbrev xi:Stmt:=inClass (top 31) 4
theorem E8:aB ["self","name"] ["self","name"] (ak xi):=by walk_at "q"
abbrev Bm:Stmt:=inClass (top 31) 6
theorem v9:aB ["self","names","found","name"] ["self","names"] (ak Bm):=by walk_at "q"
abbrev tD:Stmt:=inClass (top 31) 8
theorem tT:aB ["self","name","ahead","behind"] ["self","name"] (ak tD):=by walk_at "q"
abbrev BA:Stmt:=inClass (top 31) 9
theorem nI:aB ["self","start","names","reached","waiting","name","other"] ["self","start","names"] (ak BA):=by walk_at "q"
abbrev BF:Stmt:=inClass (top 31) 10
theorem mR:aB ["self","names","told","placed","name","lump"] ["self","names"] (ak BF):=by walk_at "q"
abbrev vF:Stmt:=inClass (top 31) 11
theorem vW:aB ["self","names","ties","bows"] ["self","names"] (ak vF):=by walk_at "q"
abbrev Bg:Stmt:=top 32
theorem zP:aB ["drawing","sets","names"] ["drawing","sets"] (ak Bg):=by walk_at "q"
abbrev CS:Stmt:=top 33
theorem vZ:aB ["sets","named","names"] ["sets"] (ak CS):=by walk_at "q"
abbrev AI:Stmt:=top 35
theorem EG:aB ["drawing","question"] ["drawing","question"] (ak AI):=by walk_at "q"
abbrev Df:Stmt:=top 36
theorem Ac:aB ["drawing","question","left"] ["drawing","question"] (ak Df):=by walk_at "q"
abbrev Dj:Stmt:=top 37
theorem zT:aB ["drawing","question","names"] ["drawing","question"] (ak Dj):=by walk_at "q"
abbrev xR:Stmt:=top 38
theorem DL:aB ["names","stands"] ["names","stands"] (ak xR):=by walk_at "q"
abbrev xp:Stmt:=top 39
theorem AB:aB ["drawing","names","stands","name"] ["drawing","names","stands"] (ak xp):=by walk_at "q"
abbrev Cq:Stmt:=top 40
theorem Du:aB ["drawing","stands","names"] ["drawing","stands","names"] (ak Cq):=by walk_at "q"
abbrev AV:Stmt:=top 41
theorem DC:aB ["drawing","stands","names"] ["drawing","stands","names"] (ak AV):=by walk_at "q"
abbrev Bz:Stmt:=top 42
theorem DJ:aB ["drawing","stands","cut"] ["drawing","stands","cut"] (ak Bz):=by walk_at "q"
abbrev yy:Stmt:=top 43
theorem Eb:aB ["drawing","names","lump"] ["drawing","names","lump"] (ak yy):=by walk_at "q"
abbrev Bl:Stmt:=top 44
theorem Fc:aB ["drawing","lump"] ["drawing","lump"] (ak Bl):=by walk_at "q"
abbrev A1:Stmt:=top 45
theorem qK:aB ["drawing","lump","cuts","stands","cut"] ["drawing","lump","cuts"] (ak A1):=by walk_at "q"
abbrev tm:Stmt:=top 46
theorem Az:aB ["drawing","question","paper","lumps"] ["drawing","question","paper"] (ak tm):=by walk_at "q"
abbrev AR:Stmt:=top 47
theorem pM:aB ["formulas","told","formula"] ["formulas"] (ak AR):=by walk_at "q"
abbrev CZ:Stmt:=top 48
theorem D9:aB ["names","formula"] ["names","formula"] (ak CZ):=by walk_at "q"
abbrev ve:Stmt:=top 49
theorem AD:aB ["stands","seen"] ["stands"] (ak ve):=by walk_at "q"
abbrev Ca:Stmt:=top 50
theorem EI:aB ["stands","count","ahead"] ["stands","count","ahead"] (ak Ca):=by walk_at "q"
abbrev sF:Stmt:=top 51
theorem uo:aB ["stands","names","ahead","begins","places"] ["stands","names","ahead"] (ak sF):=by walk_at "q"
abbrev BP:Stmt:=top 52
theorem jT:aB ["drawing","lump","cuts","stands","told","cut"] ["drawing","lump","cuts"] (ak BP):=by walk_at "q"
abbrev zB:Stmt:=top 53
theorem Am:aB ["drawing","question","paper","told"] ["drawing","question","paper"] (ak zB):=by walk_at "q"
abbrev BB:Stmt:=top 55
theorem Fi:aB ["_law_script","_law_k"] ["_law_script","_law_k"] (ak BB):=by walk_at "q"
abbrev Ct:Stmt:=top 56
theorem wF:aB ["_law_unit","_law_k","_law_number"] ["_law_unit","_law_k"] (ak Ct):=by walk_at "q"
abbrev Cm:Stmt:=top 57
theorem iF:aB ["_law_number","_law_least","_law_most","_law_count","_law_ties","_law_bows","_law_v","_law_u"] ["_law_number","_law_least","_law_most"] (ak Cm):=by walk_at "q"
abbrev zd:Stmt:=top 58
theorem iz:aB ["_law_number","_law_count","_law_ones","_law_asked","_law_name","_law_way"] ["_law_number","_law_count"] (ak zd):=by walk_at "q"
abbrev xa:Stmt:=top 59
theorem mz:aB ["_law_shape","_law_names","_law_ends","_law_got","_law_turn","_law_u","_law_v"] ["_law_shape","_law_names","_law_ends"] (ak xa):=by walk_at "q"
abbrev xU:Stmt:=top 60
theorem iA:aB ["_law_shape","_law_names","_law_lumps_here","_law_left","_law_lump","_law_turn","_law_u","_law_v"] ["_law_shape","_law_names"] (ak xU):=by walk_at "q"
abbrev zE:Stmt:=top 61
theorem z4:aB ["_law_shape","_law_question_here","_law_names"] ["_law_shape","_law_question_here"] (ak zE):=by walk_at "q"
abbrev AX:Stmt:=top 62
theorem zN:aB ["_law_shape","_law_names","_law_inner","_law_lump"] ["_law_shape","_law_names","_law_inner"] (ak AX):=by walk_at "q"
abbrev CH:Stmt:=top 63
theorem Au:aB ["_law_shape","_law_names","_law_k"] ["_law_shape","_law_names"] (ak CH):=by walk_at "q"
abbrev uT:Stmt:=top 64
theorem qt:aB ["_law_shape","_law_stands","_law_cut_here","_law_word","_law_names","_law_lacks"] ["_law_shape","_law_stands","_law_cut_here"] (ak uT):=by walk_at "q"
abbrev wX:Stmt:=top 65
theorem jM:aB ["_law_shape","_law_question_here","_law_paper_here","_law_lumps_here","_law_lump","_law_cuts_here","_law_stands","_law_cut_here"] ["_law_shape","_law_question_here","_law_paper_here"] (ak wX):=by walk_at "q"
abbrev vB:Stmt:=top 66
theorem p0:aB ["_law_shape","_law_stands","_law_lump","_law_got","_law_bits","_law_names"] ["_law_shape","_law_stands","_law_lump"] (ak vB):=by walk_at "q"
abbrev Cy:Stmt:=top 67
theorem iH:aB ["_law_shape","_law_lump","_law_number","_law_stands","_law_cuts_here","_law_ways","_law_held"] ["_law_shape","_law_lump","_law_number"] (ak Cy):=by walk_at "q"
abbrev A7:Stmt:=top 68
theorem kg:aB ["_law_shape","_law_question_here","_law_number","_law_rows","_law_lump","_law_cuts_here","_law_stands"] ["_law_shape","_law_question_here","_law_number"] (ak A7):=by walk_at "q"
abbrev yo:Stmt:=top 69
theorem uS:aB ["_law_names","_law_number","_law_count","_law_way"] ["_law_names","_law_number","_law_count"] (ak yo):=by walk_at "q"
abbrev wV:Stmt:=top 70
theorem cG:aB ["_law_paper_here","_law_number","_law_count","_law_more","_law_at","_law_lump","_law_cuts_here","_law_way","_law_spot","_law_names","_law_cut_here"] ["_law_paper_here","_law_number","_law_count"] (ak wV):=by walk_at "q"
abbrev BE:Stmt:=top 71
theorem qH:aB ["_law_formulas","_law_grown","_law_formula_here"] ["_law_formulas"] (ak BE):=by walk_at "q"
abbrev BV:Stmt:=top 72
theorem EU:aB ["_law_names","_law_formula_here"] ["_law_names","_law_formula_here"] (ak BV):=by walk_at "q"
abbrev xw:Stmt:=top 73
theorem dA:aB ["_law_shape","_law_lump","_law_cuts_here","_law_stands","_law_rows","_law_name","_law_formula_here","_law_word","_law_names","_law_k","_law_less"] ["_law_shape","_law_lump","_law_cuts_here"] (ak xw):=by walk_at "q"
abbrev wB:Stmt:=top 74
theorem zX:aB ["_law_shape","_law_question_here","_law_paper_here","_law_formula_here"] ["_law_shape","_law_question_here","_law_paper_here"] (ak wB):=by walk_at "q"
abbrev y4:Stmt:=top 75
theorem fL:aB ["_law_kept","_law_got","_law_words"] ["_law_kept"] (ak y4):=by walk_at "q"
abbrev Bu:Stmt:=top 76
theorem dF:aB ["_law_script","_law_head","_law_shape","_law_question_here","_law_word","_law_paper_here","_law_outer","_law_told","_law_kept","e"] ["_law_script"] (ak Bu):=by walk_at "q"
set_option genInjectivity false
structure Ad where
 a_zZ:Addr
 d_zZ:FuncData
 a_zQ:Addr
 d_zQ:FuncData
 a_yc:Addr
 d_yc:FuncData
 a_zB:Addr
 d_zB:FuncData
 a_zX:Addr
 d_zX:FuncData
 a_zq:Addr
 d_zq:FuncData
 a_za:Addr
 d_za:FuncData
 a_zc:Addr
 d_zc:FuncData
 a_zf:Addr
 d_zf:FuncData
 a_zb:Addr
 d_zb:FuncData
 a_zo:Addr
 d_zo:FuncData
 a_ze:Addr
 d_ze:FuncData
 a_zm:Addr
 d_zm:FuncData
 a_zp:Addr
 d_zp:FuncData
 a_zP:Addr
 d_zP:FuncData
 a_zG:Addr
 d_zG:FuncData
 a_zk:Addr
 d_zk:FuncData
 a_zu:Addr
 d_zu:FuncData
 a_yb:Addr
 d_yb:FuncData
 a_zM:Addr
 d_zM:FuncData
 a_zg:Addr
 d_zg:FuncData
 a_zS:Addr
 d_zS:FuncData
 a_zy:Addr
 d_zy:FuncData
 a_yd:Addr
 d_yd:FuncData
 a_zx:Addr
 d_zx:FuncData
 a_zF:Addr
 d_zF:FuncData
 a_zY:Addr
 d_zY:FuncData
 a_ye:Addr
 d_ye:FuncData
 a_zh:Addr
 d_zh:FuncData
 a_zA:Addr
 d_zA:FuncData
 a_zj:Addr
 d_zj:FuncData
 a_zl:Addr
 d_zl:FuncData
 a_zr:Addr
 d_zr:FuncData
 a_zz:Addr
 d_zz:FuncData
 a_zK:Addr
 d_zK:FuncData
 a_zv:Addr
 d_zv:FuncData
 a_zV:Addr
 d_zV:FuncData
 a_zw:Addr
 d_zw:FuncData
 a_zt:Addr
 d_zt:FuncData
 a_zL:Addr
 d_zL:FuncData
 a_zO:Addr
 d_zO:FuncData
 a_zI:Addr
 d_zI:FuncData
 a_zn:Addr
 d_zn:FuncData
 a_zJ:Addr
 d_zJ:FuncData
 a_ya:Addr
 d_ya:FuncData
 a_zU:Addr
 d_zU:FuncData
 a_zd:Addr
 d_zd:FuncData
 a_zT:Addr
 d_zT:FuncData
 a_zN:Addr
 d_zN:FuncData
 a_zs:Addr
 d_zs:FuncData
 a_zi:Addr
 d_zi:FuncData
 a_zD:Addr
 d_zD:FuncData
 a_zW:Addr
 d_zW:FuncData
 a_zH:Addr
 d_zH:FuncData
 a_zE:Addr
 d_zE:FuncData
 a_zR:Addr
 d_zR:FuncData
 a_yf:Addr
 d_yf:FuncData
 a_A:Addr
 a_B:Addr
 a_C:Addr
 a_D:Addr
 a_E:Addr
 a_F:Addr
 a_G:Addr
 a_H:Addr
 a_I:Addr
 a_J:Addr
 a_K:Addr
 a_L:Addr
 a_M:Addr
 a_N:Addr
 a_O:Addr
 a_P:Addr
 a_Q:Addr
 a_R:Addr
 a_S:Addr
 a_T:Addr
 a_U:Addr
 a_V:Addr
abbrev kX1(K:PySem.W.Frag)(a b:Addr):=PySem.W.kitOne K (.ref a) (.ref b)=some false
abbrev nX1(K:PySem.W.Frag)(x:Str)(a:Addr):=PySem.W.nsIn K mainGlobals x=some (some (.ref a))
abbrev nX2(K:PySem.W.Frag)(x:Str):=PySem.W.nsIn K mainGlobals x=some none
abbrev fX1(K:PySem.W.Frag)(c:Addr)(x:Str)(a:Addr):=PySem.W.findIn K (.ref c) x=some (some (.ref a))
structure Tx (K:PySem.W.Frag) (mg:Str→Option Value) (t:Ad):Prop where
 F_zZ:Fun K "is_pair" "is_pair" BO t.a_zZ t.d_zZ
 B_zZ:Binds K t.d_zZ ["count","pair"] []
 g_zZ:mg "is_pair"=some (.ref t.a_zZ)
 F_zQ:Fun K "are_pairs" "are_pairs" xQ t.a_zQ t.d_zQ
 B_zQ:Binds K t.d_zQ ["count","pairs"] []
 g_zQ:mg "are_pairs"=some (.ref t.a_zQ)
 F_yc:Fun K "is_set" "is_set" AK t.a_yc t.d_yc
 B_yc:Binds K t.d_yc ["count","names"] []
 g_yc:mg "is_set"=some (.ref t.a_yc)
 F_zB:Fun K "names_up_to" "names_up_to" Dc t.a_zB t.d_zB
 B_zB:Binds K t.d_zB ["count"] []
 g_zB:mg "names_up_to"=some (.ref t.a_zB)
 F_zX:Fun K "without" "without" xT t.a_zX t.d_zX
 B_zX:Binds K t.d_zX ["names","others"] []
 g_zX:mg "without"=some (.ref t.a_zX)
 F_zq:Fun K "__init__" "Drawing.__init__" uE t.a_zq t.d_zq
 B_zq:Binds K t.d_zq ["self","count","ties","bows"] []
 F_za:Fun K "need_name" "Drawing.need_name" BH t.a_za t.d_za
 B_za:Binds K t.d_za ["self","name"] []
 m_za:Meth K t.a_D "need_name" t.a_za
 F_zc:Fun K "need_set" "Drawing.need_set" Cz t.a_zc t.d_zc
 B_zc:Binds K t.d_zc ["self","names"] []
 m_zc:Meth K t.a_D "need_set" t.a_zc
 F_zf:Fun K "sources" "Drawing.sources" xi t.a_zf t.d_zf
 B_zf:Binds K t.d_zf ["self","name"] []
 m_zf:Meth K t.a_D "sources" t.a_zf
 F_zb:Fun K "ancestors" "Drawing.ancestors" Bm t.a_zb t.d_zb
 B_zb:Binds K t.d_zb ["self","names"] []
 m_zb:Meth K t.a_D "ancestors" t.a_zb
 F_zo:Fun K "bowed" "Drawing.bowed" tD t.a_zo t.d_zo
 B_zo:Binds K t.d_zo ["self","name"] []
 m_zo:Meth K t.a_D "bowed" t.a_zo
 F_ze:Fun K "lump_of" "Drawing.lump_of" BA t.a_ze t.d_ze
 B_ze:Binds K t.d_ze ["self","start","names"] []
 m_ze:Meth K t.a_D "lump_of" t.a_ze
 F_zm:Fun K "lumps" "Drawing.lumps" BF t.a_zm t.d_zm
 B_zm:Binds K t.d_zm ["self","names"] []
 m_zm:Meth K t.a_D "lumps" t.a_zm
 F_zp:Fun K "part" "Drawing.part" vF t.a_zp t.d_zp
 B_zp:Binds K t.d_zp ["self","names"] []
 m_zp:Meth K t.a_D "part" t.a_zp
 F_zP:Fun K "need_sets" "need_sets" Bg t.a_zP t.d_zP
 B_zP:Binds K t.d_zP ["drawing","sets"] []
 g_zP:mg "need_sets"=some (.ref t.a_zP)
 F_zG:Fun K "need_apart" "need_apart" CS t.a_zG t.d_zG
 B_zG:Binds K t.d_zG ["sets"] []
 g_zG:mg "need_apart"=some (.ref t.a_zG)
 F_zk:Fun K "need_question" "need_question" AI t.a_zk t.d_zk
 B_zk:Binds K t.d_zk ["drawing","question"] []
 g_zk:mg "need_question"=some (.ref t.a_zk)
 F_zu:Fun K "wanted_names" "wanted_names" Df t.a_zu t.d_zu
 B_zu:Binds K t.d_zu ["drawing","question"] []
 g_zu:mg "wanted_names"=some (.ref t.a_zu)
 F_yb:Fun K "wanted" "wanted" Dj t.a_yb t.d_yb
 B_yb:Binds K t.d_yb ["drawing","question"] []
 g_yb:mg "wanted"=some (.ref t.a_yb)
 F_zM:Fun K "is_within" "is_within" xR t.a_zM t.d_zM
 B_zM:Binds K t.d_zM ["names","stands"] []
 g_zM:mg "is_within"=some (.ref t.a_zM)
 F_zg:Fun K "has_its_sources" "has_its_sources" xp t.a_zg t.d_zg
 B_zg:Binds K t.d_zg ["drawing","names","stands"] []
 g_zg:mg "has_its_sources"=some (.ref t.a_zg)
 F_zS:Fun K "is_up_cut" "is_up_cut" Cq t.a_zS t.d_zS
 B_zS:Binds K t.d_zS ["drawing","stands","names"] []
 g_zS:mg "is_up_cut"=some (.ref t.a_zS)
 F_zy:Fun K "is_lump_cut" "is_lump_cut" AV t.a_zy t.d_zy
 B_zy:Binds K t.d_zy ["drawing","stands","names"] []
 g_zy:mg "is_lump_cut"=some (.ref t.a_zy)
 F_yd:Fun K "is_cut" "is_cut" Bz t.a_yd t.d_yd
 B_yd:Binds K t.d_yd ["drawing","stands","cut"] []
 g_yd:mg "is_cut"=some (.ref t.a_yd)
 F_zx:Fun K "lump_around" "lump_around" yy t.a_zx t.d_zx
 B_zx:Binds K t.d_zx ["drawing","names","lump"] []
 g_zx:mg "lump_around"=some (.ref t.a_zx)
 F_zF:Fun K "first_lump" "first_lump" Bl t.a_zF t.d_zF
 B_zF:Binds K t.d_zF ["drawing","lump"] []
 g_zF:mg "first_lump"=some (.ref t.a_zF)
 F_zY:Fun K "lead_to" "lead_to" A1 t.a_zY t.d_zY
 B_zY:Binds K t.d_zY ["drawing","lump","cuts"] []
 g_zY:mg "lead_to"=some (.ref t.a_zY)
 F_ye:Fun K "lets" "lets" tm t.a_ye t.d_ye
 B_ye:Binds K t.d_ye ["drawing","question","paper"] []
 g_ye:mg "lets"=some (.ref t.a_ye)
 F_zh:Fun K "product_formula" "product_formula" AR t.a_zh t.d_zh
 B_zh:Binds K t.d_zh ["formulas"] []
 g_zh:mg "product_formula"=some (.ref t.a_zh)
 F_zA:Fun K "sum_formula" "sum_formula" CZ t.a_zA t.d_zA
 B_zA:Binds K t.d_zA ["names","formula"] []
 g_zA:mg "sum_formula"=some (.ref t.a_zA)
 F_zj:Fun K "first_formula" "first_formula" ve t.a_zj t.d_zj
 B_zj:Binds K t.d_zj ["stands"] []
 g_zj:mg "first_formula"=some (.ref t.a_zj)
 F_zl:Fun K "begin_formula" "begin_formula" Ca t.a_zl t.d_zl
 B_zl:Binds K t.d_zl ["stands","count","ahead"] []
 g_zl:mg "begin_formula"=some (.ref t.a_zl)
 F_zr:Fun K "lump_formula" "lump_formula" sF t.a_zr t.d_zr
 B_zr:Binds K t.d_zr ["stands","names","ahead"] []
 g_zr:mg "lump_formula"=some (.ref t.a_zr)
 F_zz:Fun K "cut_formula" "cut_formula" BP t.a_zz t.d_zz
 B_zz:Binds K t.d_zz ["drawing","lump","cuts"] []
 g_zz:mg "cut_formula"=some (.ref t.a_zz)
 F_zK:Fun K "formula_of" "formula_of" zB t.a_zK t.d_zK
 B_zK:Binds K t.d_zK ["drawing","question","paper"] []
 g_zK:mg "formula_of"=some (.ref t.a_zK)
 F_zv:Fun K "_law_cell_at" "_law_cell_at" BB t.a_zv t.d_zv
 B_zv:Binds K t.d_zv ["_law_script","_law_k"] []
 g_zv:mg "_law_cell_at"=some (.ref t.a_zv)
 F_zV:Fun K "_law_mix" "_law_mix" Ct t.a_zV t.d_zV
 B_zV:Binds K t.d_zV ["_law_unit","_law_k"] []
 g_zV:mg "_law_mix"=some (.ref t.a_zV)
 F_zw:Fun K "_law_drawing" "_law_drawing" Cm t.a_zw t.d_zw
 B_zw:Binds K t.d_zw ["_law_number","_law_least","_law_most"] []
 g_zw:mg "_law_drawing"=some (.ref t.a_zw)
 F_zt:Fun K "_law_question" "_law_question" zd t.a_zt t.d_zt
 B_zt:Binds K t.d_zt ["_law_number","_law_count"] []
 g_zt:mg "_law_question"=some (.ref t.a_zt)
 F_zL:Fun K "_law_upper" "_law_upper" xa t.a_zL t.d_zL
 B_zL:Binds K t.d_zL ["_law_shape","_law_names","_law_ends"] []
 g_zL:mg "_law_upper"=some (.ref t.a_zL)
 F_zO:Fun K "_law_lumps" "_law_lumps" xU t.a_zO t.d_zO
 B_zO:Binds K t.d_zO ["_law_shape","_law_names"] []
 g_zO:mg "_law_lumps"=some (.ref t.a_zO)
 F_zI:Fun K "_law_wanted" "_law_wanted" zE t.a_zI t.d_zI
 B_zI:Binds K t.d_zI ["_law_shape","_law_question_here"] []
 g_zI:mg "_law_wanted"=some (.ref t.a_zI)
 F_zn:Fun K "_law_lump_with" "_law_lump_with" AX t.a_zn t.d_zn
 B_zn:Binds K t.d_zn ["_law_shape","_law_names","_law_inner"] []
 g_zn:mg "_law_lump_with"=some (.ref t.a_zn)
 F_zJ:Fun K "_law_is_set" "_law_is_set" CH t.a_zJ t.d_zJ
 B_zJ:Binds K t.d_zJ ["_law_shape","_law_names"] []
 g_zJ:mg "_law_is_set"=some (.ref t.a_zJ)
 F_ya:Fun K "_law_cut" "_law_cut" uT t.a_ya t.d_ya
 B_ya:Binds K t.d_ya ["_law_shape","_law_stands","_law_cut_here"] []
 g_ya:mg "_law_cut"=some (.ref t.a_ya)
 F_zU:Fun K "_law_lets" "_law_lets" wX t.a_zU t.d_zU
 B_zU:Binds K t.d_zU ["_law_shape","_law_question_here","_law_paper_here"] []
 g_zU:mg "_law_lets"=some (.ref t.a_zU)
 F_zd:Fun K "_law_closed_sets" "_law_closed_sets" vB t.a_zd t.d_zd
 B_zd:Binds K t.d_zd ["_law_shape","_law_stands","_law_lump"] []
 g_zd:mg "_law_closed_sets"=some (.ref t.a_zd)
 F_zT:Fun K "_law_cuts" "_law_cuts" Cy t.a_zT t.d_zT
 B_zT:Binds K t.d_zT ["_law_shape","_law_lump","_law_number"] []
 g_zT:mg "_law_cuts"=some (.ref t.a_zT)
 F_zN:Fun K "_law_paper" "_law_paper" A7 t.a_zN t.d_zN
 B_zN:Binds K t.d_zN ["_law_shape","_law_question_here","_law_number"] []
 g_zN:mg "_law_paper"=some (.ref t.a_zN)
 F_zs:Fun K "_law_bent_set" "_law_bent_set" yo t.a_zs t.d_zs
 B_zs:Binds K t.d_zs ["_law_names","_law_number","_law_count"] []
 g_zs:mg "_law_bent_set"=some (.ref t.a_zs)
 F_zi:Fun K "_law_bent_paper" "_law_bent_paper" wV t.a_zi t.d_zi
 B_zi:Binds K t.d_zi ["_law_paper_here","_law_number","_law_count"] []
 g_zi:mg "_law_bent_paper"=some (.ref t.a_zi)
 F_zD:Fun K "_law_product" "_law_product" BE t.a_zD t.d_zD
 B_zD:Binds K t.d_zD ["_law_formulas"] []
 g_zD:mg "_law_product"=some (.ref t.a_zD)
 F_zW:Fun K "_law_sum" "_law_sum" BV t.a_zW t.d_zW
 B_zW:Binds K t.d_zW ["_law_names","_law_formula_here"] []
 g_zW:mg "_law_sum"=some (.ref t.a_zW)
 F_zH:Fun K "_law_shares" "_law_shares" xw t.a_zH t.d_zH
 B_zH:Binds K t.d_zH ["_law_shape","_law_lump","_law_cuts_here"] []
 g_zH:mg "_law_shares"=some (.ref t.a_zH)
 F_zE:Fun K "_law_formula" "_law_formula" wB t.a_zE t.d_zE
 B_zE:Binds K t.d_zE ["_law_shape","_law_question_here","_law_paper_here"] []
 g_zE:mg "_law_formula"=some (.ref t.a_zE)
 F_zR:Fun K "_law_class" "_law_class" y4 t.a_zR t.d_zR
 B_zR:Binds K t.d_zR ["_law_kept"] []
 g_zR:mg "_law_class"=some (.ref t.a_zR)
 F_yf:Fun K "law" "law" Bu t.a_yf t.d_yf
 B_yf:Binds K t.d_yf ["_law_script"] []
 g_yf:mg "law"=some (.ref t.a_yf)
 g_A:mg "BadPaper"=some (.ref t.a_A)
 g_B:mg "BadStep"=some (.ref t.a_B)
 g_C:mg "DoingError"=some (.ref t.a_C)
 g_D:mg "Drawing"=some (.ref t.a_D)
 cl_D:Cls K t.a_D
 mk_D:Mk K t.a_D t.a_zq
 g_E:mg "NoAnswer"=some (.ref t.a_E)
 g_F:mg "NoBow"=some (.ref t.a_F)
 g_G:mg "NoCount"=some (.ref t.a_G)
 g_H:mg "NoDoor"=some (.ref t.a_H)
 g_I:mg "NoFormula"=some (.ref t.a_I)
 g_J:mg "NoFraction"=some (.ref t.a_J)
 g_K:mg "NoName"=some (.ref t.a_K)
 g_L:mg "NoNest"=some (.ref t.a_L)
 g_M:mg "NoQuestion"=some (.ref t.a_M)
 g_N:mg "NoRoad"=some (.ref t.a_N)
 g_O:mg "NoRule"=some (.ref t.a_O)
 g_P:mg "NoSets"=some (.ref t.a_P)
 g_Q:mg "NoShare"=some (.ref t.a_Q)
 g_R:mg "NoText"=some (.ref t.a_R)
 g_S:mg "NoThinning"=some (.ref t.a_S)
 g_T:mg "NoTie"=some (.ref t.a_T)
 g_U:mg "NoValue"=some (.ref t.a_U)
 g_V:mg "NoWorld"=some (.ref t.a_V)
 x_A:gj K t.a_A
 x_C:gj K t.a_C
 s_A:PySem.W.mroIn K t.a_A (.ref t.a_C)=some true
 kA_:PySem.W.kitOne K (.ref t.a_A) (.type "ValueError")=some true
 kAC:PySem.W.kitOne K (.ref t.a_A) (.ref t.a_C)=some true
 kAV:kX1 K t.a_A t.a_V
 kAU:kX1 K t.a_A t.a_U
 kAT:kX1 K t.a_A t.a_T
 kAS:kX1 K t.a_A t.a_S
 kAR:kX1 K t.a_A t.a_R
 kAQ:kX1 K t.a_A t.a_Q
 kAP:kX1 K t.a_A t.a_P
 kAO:kX1 K t.a_A t.a_O
 kAN:kX1 K t.a_A t.a_N
 kAM:kX1 K t.a_A t.a_M
 kAL:kX1 K t.a_A t.a_L
 kAK:kX1 K t.a_A t.a_K
 kAJ:kX1 K t.a_A t.a_J
 kAI:kX1 K t.a_A t.a_I
 kAH:kX1 K t.a_A t.a_H
 kAG:kX1 K t.a_A t.a_G
 kAF:kX1 K t.a_A t.a_F
 kAE:kX1 K t.a_A t.a_E
 kAB:kX1 K t.a_A t.a_B
 kAA:PySem.W.kitOne K (.ref t.a_A) (.ref t.a_A)=some true
 b_ValueError:mg "ValueError"=none
 b_all:mg "all"=none
 b_any:mg "any"=none
 b_enumerate:mg "enumerate"=none
 b_int:mg "int"=none
 b_isinstance:mg "isinstance"=none
 b_len:mg "len"=none
 b_list:mg "list"=none
 b_range:mg "range"=none
 b_reversed:mg "reversed"=none
 b_set:mg "set"=none
 b_sorted:mg "sorted"=none
 b_sum:mg "sum"=none
 b_tuple:mg "tuple"=none
 c_MOST_BOWS:∃u,mg "MOST_BOWS"=some u/\RelV (.int 6) u
 c_MOST_NAMES:∃u,mg "MOST_NAMES"=some u/\RelV (.int 6) u
 nfD_bows:dh K t.a_D "bows"
 nfD_count:dh K t.a_D "count"
 nfD_ties:dh K t.a_D "ties"
section
variable {P:Program}{w:World}{K:PySem.W.Frag}{mg:Str->Option Value}{base:Heap}{t:Ad}
open DM (P2 Good)
def DF(c:Int)(ts bs:List P2):List (Str×PV):=[("count",.int c),("ties",.tup (ts.map prV)),("bows",.tup (bs.map prV))]
def Srt(l:List P2):Prop:=l.Pairwise (fun x y=>ST.pk x<ST.pk y)
def Row(H:PHp)(y:PV)(p:P2):Prop:=y=prV p∨∃r,y=.ref r/\H r=some (.lst [.int p.1,.int p.2])
abbrev Rows(H:PHp):List PV->List P2->Prop:=Paired (Row H)
def fw:Sp':=fun vs H Q _=>match vs with
 | [.int c,.tup [.int u,.int v]]=>(0≤u/\u<v/\v<c)/\Q (.bl true) H
 | _=>False
theorem uX{c u v:Int}{H:PHp}{Q:VK'}{E:XK'}:fw [.int c,.tup [.int u,.int v]] H Q E=((0≤u/\u<v/\v<c)/\Q (.bl true) H):=rfl
def dw:Sp':=fun vs H Q _=>match vs with
 | [.int c,.ref a]=>∃ps,H a=some (.lst (ps.map prV))/\Good c ps/\c≤6/\Q (.bl true) H
 | _=>False
theorem oq{c:Int}{a:Addr}{H:PHp}{Q:VK'}{E:XK'}:dw [.int c,.ref a] H Q E=∃ps,H a=some (.lst (ps.map prV))/\Good c ps/\c≤6/\Q (.bl true) H:=rfl
def i6(t:Ad):Sp':=fun vs H Q _=>match vs with
 | [.ref x,.int c,.ref a,.ref b]=>∃dx ys zs ps qs,H x=some (.ins t.a_D dx [])/\H a=some (.lst ys)/\H b=some (.lst zs)/\Rows H ys ps/\Rows H zs qs/\Good c ps/\Good c qs/\(1≤c/\c≤6/\qs.length≤6) /\
  ∀ts bs,ts.Perm ps->Srt ts->bs.Perm qs->Srt bs->Q .non (put H x (.ins t.a_D dx (DF c ts bs)))
 | _=>False
theorem Di{x a b:Addr}{c:Int}{H:PHp}{Q:VK'}{E:XK'}:i6 t [.ref x,.int c,.ref a,.ref b] H Q E=∃dx ys zs ps qs,H x=some (.ins t.a_D dx [])/\H a=some (.lst ys)/\H b=some (.lst zs)/\Rows H ys ps/\Rows H zs qs/\Good c ps/\Good c qs/\(1≤c/\c≤6/\qs.length≤6) /\
  ∀ts bs,ts.Perm ps->Srt ts->bs.Perm qs->Srt bs->Q .non (put H x (.ins t.a_D dx (DF c ts bs))):=rfl
def dB(t:Ad):Sp':=fun vs H Q _=>match vs with
 | [.ref x,.int n]=>∃dx c ts bs,H x=some (.ins t.a_D dx (DF c ts bs))/\(0≤n/\n<c)/\Q .non H
 | _=>False
theorem pJ{x:Addr}{n:Int}{H:PHp}{Q:VK'}{E:XK'}:dB t [.ref x,.int n] H Q E=∃dx c ts bs,H x=some (.ins t.a_D dx (DF c ts bs))/\(0≤n/\n<c)/\Q .non H:=rfl
def d9(t:Ad):Sp':=fun vs H Q _=>match vs with
 | [.ref x,.int n]=>∃dx c ts bs,H x=some (.ins t.a_D dx (DF c ts bs))/\(0≤n/\n<c)/\ts.length≤15/\Q (.tup (((ts.filter (fun p=>decide (p.2=n))).map (·.1)).map PV.int)) H
 | _=>False
theorem ra{x:Addr}{n:Int}{H:PHp}{Q:VK'}{E:XK'}:d9 t [.ref x,.int n] H Q E=∃dx c ts bs,H x=some (.ins t.a_D dx (DF c ts bs))/\(0≤n/\n<c)/\ts.length≤15/\Q (.tup (((ts.filter (fun p=>decide (p.2=n))).map (·.1)).map PV.int)) H:=rfl
def iS:Sp':=fun vs H Q _=>match vs with
 | [.fls l,.int k]=>(0≤k/\k<100)/\∃ns:List Int,l=ns.map PV.int/\Q (.int (ns.getD k.toNat 0)) H
 | _=>False
theorem C2{l:List PV}{k:Int}{H:PHp}{Q:VK'}{E:XK'}:iS [.fls l,.int k] H Q E=((0≤k/\k<100)/\∃ns:List Int,l=ns.map PV.int/\Q (.int (ns.getD k.toNat 0)) H):=rfl
theorem eC{l:List PV}{i:Nat}(h:i<l.length):atI l ((i:Nat):Int)=some l[i]:=by
 unfold atI ixN;rw[Ij (by omega),Ij (by omega)];show l[((i:Nat):Int).toNat]?=_;rw[Je,sH h]
theorem wt{α β:Type}{R:α->β->Prop}{x:α}{l:List α}{m:List β}(h:Paired R l m)(hx:x∈l):∃y∈m,R x y:=by
 induction h with
 | nil=>cases hx
 | cons h t ih =>
  rcases Ic.mp hx with rfl | hx
  ·exact⟨_,xP,h⟩
  ·obtain⟨y,hy,r⟩:=ih hx;exact⟨y,Bo _ hy,r⟩
theorem fm{a b:Int}(h:0<b):0≤a.fmod b/\a.fmod b<b:=by
 rw[Int.fmod_eq_emod_of_nonneg _ (by omega)];exact⟨Int.emod_nonneg _ (by omega),Int.emod_lt_of_pos _ h⟩
theorem tG{A B:PHp}{x:Addr}{o:PO}(s:∀a u,a≠x->A a=some u->B a=some u)(h:B x=some o):U.Sub (put A x o) B:=fun a u e=>by
 by_cases q:a=x
 ·subst q;rw[aj]at e;cases e;exact h
 ·rw[aq q]at e;exact s a u q e
theorem jL{f:Str}{v:PV}:∀{fs:List (Str×PV)},(kd f v fs).length≤fs.length+1
 | []=>by simp[kd]
 |(g,y)::r=>by
  unfold kd;split
  ·simp
  ·have:=jL (f:=f) (v:=v) (fs:=r);simp only[Ih];omega
theorem eE{i j:Int}(h:j≠0)(f:j.natAbs<2 ^ 64):wQ i j:=⟨h,(show My.BN 64 j from f).fit (by decide)⟩
def vH(H:PHp)(y:PV):PV:=match y with
 | .ref r=>(match H r with | some (.lst l)=>.tup l | _=>.non)
 | y=>y
theorem jQ{H:PHp}{r:Addr}{l:List PV}(h:H r=some (.lst l)):vH H (.ref r)=.tup l:=by
 unfold vH;dsimp only;rw[h]
theorem nH{H:PHp}{ys:List PV}{ps:List P2}(h:Rows H ys ps):ys.map (vH H)=ps.map prV:=by
 induction h with
 | nil=>rfl
 | cons h t ih =>
  rw[yd,yd,ih];congr 1;rcases h with rfl |⟨r,rfl,hr⟩
  ·rfl
  ·exact jQ hr
theorem Rows.up{H H1:PHp}{ys:List PV}{ps:List P2}(h:Rows H ys ps)(s:U.Sub H H1):Rows H1 ys ps:=Paired.mapP h fun y p r=>r.elim .inl fun⟨q,e,hq⟩=>.inr ⟨q,e,s _ _ hq⟩
theorem fj{H:PHp}:∀{ps:List P2},Rows H (ps.map prV) ps
 | []=>.nil
 | _::_=>.cons (.inl rfl) fj
def at1(n:Int)(y:PV):Bool:=match y with | .tup [.int _,.int v]=>decide (v=n) | _=>false
def at0(n:Int)(y:PV):Bool:=match y with | .tup [.int u,.int _]=>decide (u=n) | _=>false
def g0(y:PV):PV:=match y with | .tup [u,_]=>u | _=>.non
def g1(y:PV):PV:=match y with | .tup [_,v]=>v | _=>.non
theorem src_list{n:Int}:∀{ts:List P2},((ts.map prV).filter (at1 n)).map g0=((ts.filter (fun p=>decide (p.2=n))).map (·.1)).map PV.int
 | []=>rfl
 | p::ts=>by
  have e:at1 n (prV p)=decide (p.2=n):=rfl;rw[yd,Iz,Iz,e];by_cases q:decide (p.2=n)=true
  ·rw[Ij q,Ij q,yd,yd,yd,src_list];rfl
  ·rw[CI q,CI q,src_list]
theorem jg{n:Int}:∀{ts:List P2},((ts.map prV).filter (at0 n)).map g1=((ts.filter (fun p=>decide (p.1=n))).map (·.2)).map PV.int
 | []=>rfl
 | p::ts=>by
  have e:at0 n (prV p)=decide (p.1=n):=rfl;rw[yd,Iz,Iz,e];by_cases q:decide (p.1=n)=true
  ·rw[Ij q,Ij q,yd,yd,yd,jg];rfl
  ·rw[CI q,CI q,jg]
structure GJ (v j:Int) (l:List P2):Prop where
 nd:l.Nodup
 lo:∀p∈l,0≤p.1/\p.1<p.2/\(p.2<v∨(p.2=v/\p.1<j))
theorem GJ.app{v j:Int}{l:List P2}(h:GJ v j l)(h0:0≤j)(hj:j<v):GJ v (j+1) (l++[(j,v)]):=by
 refine⟨List.nodup_append.mpr ⟨h.nd,by simp,?_⟩,fun p hp=>?_⟩
 ·intro a ha b hb e;rw[xI]at hb;subst hb;subst e;have:=h.lo _ ha;simp only at this;omega
 ·rcases zi.mp hp with hp | hp
  ·have:=h.lo p hp;omega
  ·rw[xI]at hp;subst hp;exact⟨h0,hj,.inr ⟨rfl,Int.lt_succ j⟩⟩
theorem GJ.up{v j:Int}{l:List P2}(h:GJ v j l):GJ v (j+1) l:=⟨h.nd,fun p hp=>by have:=h.lo p hp;omega⟩
theorem GJ.of{v:Int}{l:List P2}(h:Good v l):GJ v 0 l:=⟨h.nd,fun p hp=>by have:=h.lo p hp;omega⟩
theorem GJ.good{v:Int}{l:List P2}(h:GJ v v l):Good (v+1) l:=⟨h.nd,fun p hp=>by have:=h.lo p hp;omega⟩
theorem ay{l:List Int}:(l.map PV.int).all (flat 8)=true:=by
 rw[Ir];intro z hz;obtain⟨p,_,rfl⟩:=Bc.mp hz;rfl
theorem aX{l:List Int}{n:Int}:((l.map PV.int).any fun z=>deq z (.int n))=decide (n∈l):=by
 rw[Jv,List.any_eq_true,IX];constructor
 ·rintro⟨z,hz,e⟩;obtain⟨p,hp,rfl⟩:=Bc.mp hz;have:p=n:=by simpa[deq]using e
  rw[←this];exact hp
 ·intro h;exact⟨_,Bc.mpr ⟨_,h,rfl⟩,by simp[deq]⟩
def swp(p:P2):P2:=(p.2,p.1)
structure Nms (c:Int) (L:List Int):Prop where
 up:L.Pairwise (·<·)
 lo:∀x∈L,0≤x/\x<c
theorem Nms.nd{c:Int}{L:List Int}(h:Nms c L):L.Nodup:=h.up.imp fun h=>by omega
theorem Nms.len{c:Int}{L:List Int}(h:Nms c L)(hc:c≤6):L.length≤6:=My.dE 6 L h.nd fun x hx=>by have:=h.lo x hx;omega
def Ins(t:Ad)(H:PHp)(x:Addr)(c:Int)(ts:List P2):Prop:=∃dx bs,H x=some (.ins t.a_D dx (DF c ts bs))
theorem Ins.up{t:Ad}{H H1:PHp}{x:Addr}{c:Int}{ts:List P2}(h:Ins t H x c ts)(s:U.Sub H H1):Ins t H1 x c ts:=by
 obtain⟨dx,bs,e⟩:=h;exact⟨dx,bs,s _ _ e⟩
def dO(t:Ad):Sp':=fun vs H Q _=>match vs with
 | [.ref x,.tup l]=>∃c ts,∃L:List Int,Ins t H x c ts/\l=L.map PV.int/\Nms c L/\Q .non H
 | _=>False
theorem qQ{x:Addr}{l:List PV}{H:PHp}{Q:VK'}{E:XK'}:dO t [.ref x,.tup l] H Q E=∃c ts,∃L:List Int,Ins t H x c ts/\l=L.map PV.int/\Nms c L/\Q .non H:=rfl
def lD(t:Ad)(f:P2->P2):Sp':=fun vs H Q _=>match vs with
 | [.ref x,.tup l]=>∃c ts,∃L:List Int,Ins t H x c ts/\l=L.map PV.int/\Nms c L/\(1≤c/\c≤6)/\Good c ts/\∀M:List Int,M.Pairwise (·<·)->(∀y,y∈M↔My.Reach (ts.map f) L y)->Q (.tup (M.map PV.int)) H
 | _=>False
theorem Dm{f:P2->P2}{x:Addr}{l:List PV}{H:PHp}{Q:VK'}{E:XK'}:lD t f [.ref x,.tup l] H Q E=∃c ts,∃L:List Int,Ins t H x c ts/\l=L.map PV.int/\Nms c L/\(1≤c/\c≤6)/\Good c ts/\∀M:List Int,M.Pairwise (·<·)->(∀y,y∈M↔My.Reach (ts.map f) L y)->Q (.tup (M.map PV.int)) H:=rfl
def Fy(b:Bool):P2->P2:=if b then swp else fun p=>p
theorem nQ{c:Int}{E:List P2}{S:List Int}(hE:∀a b,(a,b)∈E->0≤b/\b<c)(hS:∀x∈S,0≤x/\x<c){y:Int}(r:My.Reach E S y):0≤y/\y<c:=by
 cases r with
 | base h=>exact hS _ h
 | step _ e=>exact hE _ _ e
def onI(q:Int->Bool)(y:PV):Bool:=match y with | .int u=>q u | _=>false
theorem jH{m:Nat}{q:Int->Bool}:((b7 0 m).filter (onI q)).map (fun x=>x)=(((List.range m).map fun k=>((k:Nat):Int)).filter q).map PV.int:=by
 unfold b7;rw[List.map_id'' (fun _=>rfl)];generalize List.range m=l
 induction l with
 | nil=>rfl
 | cons k l ih =>
  rw[yd,yd,Iz,Iz];simp only[Int.zero_add]at ih ⊢;have e:onI q (PV.int ((k:Nat):Int))=q k:=rfl;rw[e];by_cases h:q (k:Int)=true
  ·rw[Ij h,Ij h,yd,ih]
  ·rw[CI h,CI h,ih]
theorem iV{m:Nat}{y:PV}(h:y∈b7 0 m):∃u,y=.int u/\0≤u:=by
 unfold b7 at h;obtain⟨k,_,rfl⟩:=Bc.mp h;exact⟨_,rfl,by omega⟩
theorem gT{m:Nat}:(b7 0 m).length=m:=by unfold b7;simp
def ulN(c:Int):List Int:=(List.range c.toNat).map fun k=>((k:Nat):Int)
def dlN(c:Int):List Int:=(List.range c.toNat).map fun k=>c - 1 - ((k:Nat):Int)
theorem zS(c:Int):(ulN c).Pairwise (·<·):=by
 unfold ulN;rw[J0];exact List.pairwise_lt_range.imp fun h=>by omega
theorem qx(c:Int):(dlN c).Pairwise (·>·):=by
 unfold dlN;rw[J0];refine List.Pairwise.imp (fun {a b} h=>?_) (List.pairwise_lt_range (n:=c.toNat));show c - 1 - ((a:Nat):Int)>c - 1 - ((b:Nat):Int);omega
theorem b0{c x:Int}:x∈ulN c↔0≤x/\x<c:=by
 unfold ulN;simp only[Bc,ID];constructor
 ·rintro⟨k,hk,rfl⟩;omega
 ·intro h;exact⟨x.toNat,by omega,by omega⟩
theorem ll{c x:Int}:x∈dlN c↔0≤x/\x<c:=by
 unfold dlN;simp only[Bc,ID];constructor
 ·rintro⟨k,hk,rfl⟩;omega
 ·intro h;exact⟨(c - 1 - x).toNat,by omega,by omega⟩
theorem Bx{R:Int->Int->Prop}{E:List P2}{L:List Int}(hp:L.Pairwise R)(as:∀a b,R a b->¬R b a)(hE:∀a b,(a,b)∈E->a∈L/\R a b):My.Fwd E L:=by
 intro a b e L1 L2 hl hb;obtain⟨ha,hr⟩:=hE a b e;rw[hl]at ha hp;rcases zi.mp ha with h | h
 ·exact h
 ·exact absurd ((List.pairwise_append.mp hp).2.2 b hb a h) (as _ _ hr)
theorem fC{ts:List P2}{a b:Int}:(a,b)∈ts.map swp↔(b,a)∈ts:=by
 rw[Bc];constructor
 ·rintro⟨p,hp,e⟩;unfold swp at e;cases e;exact hp
 ·intro h;exact⟨_,h,rfl⟩
theorem uv{c:Int}{ts:List P2}{L:List Int}(g:Good c ts)(y:Int):y∈(dlN c).foldl (My.cm (ts.map swp)) L↔My.Reach (ts.map swp) L y:=by
 refine My.qT (fun a b e=>?_) (Bx (qx c) (fun a b h=>by omega) fun a b e=>?_) ((qx c).imp fun h=>by omega) y
 ·have:=g.lo _ (fC.mp e);simp only at this;exact ll.mpr ⟨by omega,by omega⟩
 ·have:=g.lo _ (fC.mp e);simp only at this;exact⟨ll.mpr ⟨by omega,by omega⟩,by omega⟩
theorem mj{n:Int}:∀{ts:List P2},My.outs (ts.map swp) n=(ts.filter (fun p=>decide (p.2=n))).map (·.1)
 | []=>rfl
 | p::ts=>by
  have ih:=mj (n:=n) (ts:=ts);unfold My.outs at ih ⊢;rw[yd,Iz,Iz];by_cases h:decide (p.2=n)=true
  ·have h':decide ((swp p).1=n)=true:=h;rw[Ij h,Ij h',yd,yd,ih];rfl
  ·have h':¬decide ((swp p).1=n)=true:=h;rw[CI h,CI h',ih]
theorem tw{E:List P2}{n:Int}:(My.outs E n).length≤E.length:=by
 unfold My.outs;rw[rS];exact IZ _ _
theorem rO{E:List P2}{f:List Int}{n:Int}:(My.cm E f n).length≤f.length+E.length:=by
 unfold My.cm;split
 ·rw[wW];have:=tw (E:=E) (n:=n);omega
 ·omega
theorem hZ{α β:Type}{f:β->α->β}{l:List α}{i:Nat}{b:β}{x:α}(h:l[i]?=some x):(l.take (i+1)).foldl f b=f ((l.take i).foldl f b) x:=by
 rw[IG,h,List.foldl_append];rfl
theorem eV{E:List P2}:∀(n:Nat) (f:List Int),My.bZ E (n+1) f=My.cw E (My.bZ E n f)
 | 0,f=>rfl
 | n+1,f=>by
  show My.bZ E (n+1) (My.cw E f)=_;rw[eV n];rfl
theorem tf{c:Int}{ps:List P2}(g:Good c ps)(b:Bool):∀x y,(x,y)∈ps.map (Fy b)->0≤y/\y<c:=by
 intro x y h;obtain⟨p,hp,e⟩:=Bc.mp h;have:=g.lo p hp;cases b with
 | true=>have e':swp p=(x,y):=e;unfold swp at e';cases e';omega
 | false=>have e':p=(x,y):=e;subst e';simp only at this;omega
theorem r8{c:Int}{F:List Int}{ms:List Nat}{R:Int->Prop}(hc:c≤6)(hF:∀x∈F,0≤x/\x<c)(hR:∀y,y∈F↔R y)(hs:ms.Pairwise (·<·))(hm:∀x,x∈ms↔x∈F.map Int.toNat) :
  ((ms.map fun(n:Nat)=>(n:Int)).Pairwise (·<·))/\∀y,y∈(ms.map fun(n:Nat)=>(n:Int))↔R y:=by
 constructor
 ·rw[J0];exact hs.imp fun h=>by omega
 ·intro y;rw[←hR,Bc];constructor
  ·rintro⟨n,hn,rfl⟩;obtain⟨z,hz,e⟩:=Bc.mp ((hm n).mp hn);have:=hF z hz;have:((n:Nat):Int)=z:=by omega
   rw[this];exact hz
  ·intro h;have:=hF y h;exact⟨y.toNat,(hm _).mpr (Bc.mpr ⟨y,h,rfl⟩),by omega⟩
def gh(t:Ad):Sp':=fun vs H Q _=>match vs with
 | [.ref x,.int n]=>∃dx c ts bs,H x=some (.ins t.a_D dx (DF c ts bs))/\(0≤n/\n<c)/\bs.length≤15/\Q (.tup (((bs.filter (fun p=>decide (p.2=n))).map (·.1)++(bs.filter (fun p=>decide (p.1=n))).map (·.2)).map PV.int)) H
 | _=>False
theorem pN{x:Addr}{n:Int}{H:PHp}{Q:VK'}{E:XK'}:gh t [.ref x,.int n] H Q E=∃dx c ts bs,H x=some (.ins t.a_D dx (DF c ts bs))/\(0≤n/\n<c)/\bs.length≤15/\Q (.tup (((bs.filter (fun p=>decide (p.2=n))).map (·.1)++(bs.filter (fun p=>decide (p.1=n))).map (·.2)).map PV.int)) H:=rfl
def uY(bs:List P2)(L:List Int):List P2:=bs.filter fun p=>decide (p.1∈L)&&decide (p.2∈L)
def both(bs:List P2)(L:List Int):List P2:=uY bs L++(uY bs L).map swp
theorem b4{bs:List P2}{L:List Int}{a b:Int}:(a,b)∈both bs L↔a∈L/\b∈L/\((a,b)∈bs∨(b,a)∈bs):=by
 unfold both uY;rw[zi,fC,Io,Io];simp only[Jq,IX];constructor
 ·rintro(⟨h1,h2,h3⟩ |⟨h1,h2,h3⟩)
  ·exact⟨h2,h3,.inl h1⟩
  ·exact⟨h3,h2,.inr h1⟩
 ·rintro⟨h1,h2,h3 | h3⟩
  ·exact .inl ⟨h3,h1,h2⟩
  ·exact .inr ⟨h3,h2,h1⟩
def fF(t:Ad):Sp':=fun vs H Q _=>match vs with
 | [.ref x,.int n,.tup l]=>∃dx c ts bs,∃L:List Int,H x=some (.ins t.a_D dx (DF c ts bs))/\l=L.map PV.int/\Nms c L/\(1≤c/\c≤6)/\Good c bs/\n∈L/\∀M:List Int,M.Pairwise (·<·)->(∀y,y∈M↔My.Reach (both bs L) [n] y)->Q (.tup (M.map PV.int)) H
 | _=>False
inductive dk (E:List P2):List Int→List (List Int)→Prop where
 | nil:dk E [] []
 | cons {x:Int} {R:List Int} {M:List Int} {Ls:List (List Int)} (up:M.Pairwise (·<·)) (iff:∀y,y∈M↔My.Reach E [x] y) (h:dk E (R.filter fun y=>!decide (y∈M)) Ls):dk E (x::R) (M::Ls)
theorem dk.one{E:List P2}{L:List Int}{A:List (List Int)}(h:dk E L A):∀{B:List (List Int)},dk E L B->A=B:=by
 induction h with
 | nil=>intro B hB;cases hB;rfl
 | cons up iff h ih =>
  intro B hB;cases hB with
  | cons up2 iff2 h2 =>
   have e:=My.b8 up up2 fun y=>(iff y).trans (iff2 y).symm;subst e;rw[ih h2]
def tupI(M:List Int):PV:=.tup (M.map PV.int)
def gz(t:Ad):Sp':=fun vs H Q _=>match vs with
 | [.ref x,.tup l]=>∃dx c ts bs,∃L:List Int,H x=some (.ins t.a_D dx (DF c ts bs))/\l=L.map PV.int/\Nms c L/\(1≤c/\c≤6)/\Good c bs/\∀r Ls,H r=none->dk (both bs L) L Ls->Ls.length≤6->(∀M∈Ls,M.length≤6)->Q (.ref r) (put H r (.lst (Ls.map tupI)))
 | _=>False
def inL(L:List Int)(y:PV):Bool:=match y with | .tup [.int u,.int v]=>decide (u∈L)&&decide (v∈L) | _=>false
theorem yT{c:Int}{bs:List P2}{L:List Int}(hL:Nms c L):∀x y,(x,y)∈both bs L->0≤y/\y<c:=fun x y h=>hL.lo y (b4.mp h).2.1
structure Iv (E:List P2) (L:List Int) (n:Int) (open':List Int) (ks ws:List Int):Prop where
 st:n∈ks
 nd:ks.Nodup
 re:∀y∈ks,My.Reach E [n] y
 inl:∀y∈ks,y∈L
 sub:∀y∈ws,y∈ks
 cl:∀a∈ks,a∉ws->a∉open'->∀b,(a,b)∈E->b∈ks
theorem Iv.add{E:List P2}{L:List Int}{n y z:Int}{ks ws:List Int}(h:Iv E L n [y] ks ws)(hy:y∈ks)(e:(y,z)∈E)(hz:z∈L)(hn:z∉ks):Iv E L n [y] (ks++[z]) (ws++[z]):=by
 refine⟨IJ _ h.st,?_,fun a ha=>?_,fun a ha=>?_,fun a ha=>?_,fun a ha hw ho b hb=>?_⟩
 ·rw[List.nodup_append];refine⟨h.nd,by simp,fun a ha b hb e2=>?_⟩;rw[xI]at hb;rw[e2,hb]at ha;exact hn ha
 ·rcases zi.mp ha with ha | ha
  ·exact h.re a ha
  ·rw[xI]at ha;subst ha;exact .step (h.re y hy) e
 ·rcases zi.mp ha with ha | ha
  ·exact h.inl a ha
  ·rw[xI]at ha;subst ha;exact hz
 ·rcases zi.mp ha with ha | ha
  ·exact IJ _ (h.sub a ha)
  ·exact IE _ ha
 ·rcases zi.mp ha with ha | ha
  ·exact IJ _ (h.cl a ha (fun q=>hw (IJ _ q)) ho b hb)
  ·exact absurd (IE _ ha) hw
theorem Iv.done{E:List P2}{L:List Int}{n:Int}{ks:List Int}(h:Iv E L n [] ks [])(y:Int):y∈ks↔My.Reach E [n] y:=by
 constructor
 ·exact h.re y
 ·intro r
  induction r with
  | base hb=>rw[xI]at hb;subst hb;exact h.st
  | step _ e ih=>exact h.cl _ ih (by simp) (by simp) _ e
theorem ox{placed:List Int}{l:List Int}{i:Nat}{x:Int}(hi:l[i]?=some x)(hx:x∈placed):(l.drop i).filter (fun y=>!decide (y∈placed))=(l.drop (i+1)).filter fun y=>!decide (y∈placed):=by
 obtain⟨h,e⟩:=vM.mp hi;rw[Jj h,Iz,e,CI (by simp[hx])]
theorem oF{placed M:List Int}{l:List Int}{i:Nat}{x:Int}(hi:l[i]?=some x)(hx:x∉placed) :
  (l.drop i).filter (fun y=>!decide (y∈placed))=x::(l.drop (i+1)).filter (fun y=>!decide (y∈placed))/\((l.drop (i+1)).filter (fun y=>!decide (y∈placed))).filter (fun y=>!decide (y∈M))=(l.drop (i+1)).filter fun y=>!decide (y∈placed++M):=by
 obtain⟨h,e⟩:=vM.mp hi;constructor
 ·rw[Jj h,Iz,e,Ij (by simp[hx])]
 ·rw[List.filter_filter];refine List.filter_congr fun y _=>?_;rw[Jv];simp only[Jq,Bool.not_eq_true',decide_eq_false_iff_not,zi,not_or];exact⟨fun h=>⟨h.2,h.1⟩,fun h=>⟨h.2,h.1⟩⟩
theorem Iv.opn{E:List P2}{L:List Int}{n y:Int}{ks w:List Int}(h:Iv E L n [] ks (w++[y])):Iv E L n [y] ks w :=
 ⟨h.st,h.nd,h.re,h.inl,fun a ha=>h.sub a (IJ _ ha),fun a ha hw ho=>h.cl a ha (fun q=>(zi.mp q).elim hw ho) (by simp)⟩
theorem Iv.close{E:List P2}{L:List Int}{n y:Int}{ks ws:List Int}(h:Iv E L n [y] ks ws)(hy:∀b,(y,b)∈E->b∈ks):Iv E L n [] ks ws :=
 ⟨h.st,h.nd,h.re,h.inl,h.sub,fun a ha hw _ b hb=>by
  by_cases e:a=y
  ·subst e;exact hy b hb
  ·exact h.cl a ha hw (by simp[e]) b hb⟩
theorem r9{bs:List P2}{n b:Int}:b∈(bs.filter (fun p=>decide (p.2=n))).map (·.1)++(bs.filter (fun p=>decide (p.1=n))).map (·.2)↔((n,b)∈bs∨(b,n)∈bs):=by
 rw[zi,Bc,Bc];constructor
 ·rintro(⟨⟨u,v⟩,h,rfl⟩ |⟨⟨u,v⟩,h,rfl⟩)
  ·rw[Io]at h;have e:v=n:=Jy h.2;subst e;exact .inr h.1
  ·rw[Io]at h;have e:u=n:=Jy h.2;subst e;exact .inl h.1
 ·rintro(h | h)
  ·exact .inr ⟨_,Io.mpr ⟨h,IL rfl⟩,rfl⟩
  ·exact .inl ⟨_,Io.mpr ⟨h,IL rfl⟩,rfl⟩
theorem dQ{E F:List P2}{S:List Int}(h:∀a b,(a,b)∈E->(a,b)∈F){y:Int}(r:My.Reach E S y):My.Reach F S y:=by
 induction r with
 | base h=>exact .base h
 | step _ e ih=>exact .step ih (h _ _ e)
theorem mK{H:PHp}{a b:Addr}{o u:PO}(h:a≠b):put (put H a o) b u=put (put H b u) a o:=by
 funext z;by_cases e:z=a
 ·subst e;rw[aq h,aj,aj]
 ·by_cases e2:z=b
  ·subst e2;rw[aj,aq e,aj]
  ·rw[aq e2,aq e,aq e,aq e2]
structure OkD (c:Int) (ts bs:List P2):Prop where
 c1:1≤c
 c6:c≤6
 gt:Good c ts
 gb:Good c bs
 st:Srt ts
 sb:Srt bs
 b6:bs.length≤6
def FT(k:Nat)(L:List Int)(p:P2):Bool:=match k with
 | 0=>decide (p.1∈L)&&decide (p.2∈L)
 | 1=>!decide (p.2∈L)
 | _=>!decide (p.1∈L)
def FB(k:Nat)(L:List Int)(p:P2):Bool:=match k with
 | 0=>decide (p.1∈L)&&decide (p.2∈L)
 | 1=>!decide (p.1∈L)&&!decide (p.2∈L)
 | _=>true
theorem iC{c:Int}{ps:List P2}(g:Good c ps)(f:P2->Bool):Good c (ps.filter f):=⟨g.nd.sublist List.filter_sublist,fun p hp=>g.lo p (Io.mp hp).1⟩
theorem OkD.filter{c:Int}{ts bs:List P2}(h:OkD c ts bs)(f g:P2->Bool):OkD c (ts.filter f) (bs.filter g) :=
 ⟨h.c1,h.c6,iC h.gt f,iC h.gb g,List.Pairwise.sublist List.filter_sublist h.st,List.Pairwise.sublist List.filter_sublist h.sb,IC (IZ _ _) h.b6⟩
def Dr(t:Ad)(H:PHp)(x:Addr)(c:Int)(ts bs:List P2):Prop:=∃dx,H x=some (.ins t.a_D dx (DF c ts bs))
theorem Dr.up{t:Ad}{H H1:PHp}{x:Addr}{c:Int}{ts bs:List P2}(h:Dr t H x c ts bs)(s:U.Sub H H1):Dr t H1 x c ts bs:=by
 obtain⟨dx,e⟩:=h;exact⟨dx,s _ _ e⟩
def onP(f:P2->Bool)(y:PV):Bool:=match y with | .tup [.int u,.int v]=>f (u,v) | _=>false
theorem gM{f:P2->Bool}{p:P2}:onP f (prV p)=f p:=rfl
theorem fS{f:P2->Bool}:∀{ts:List P2},((ts.map prV).filter (onP f)).map (fun y=>y)=(ts.filter f).map prV
 | []=>rfl
 | p::ts=>by
  have ih:=fS (f:=f) (ts:=ts);rw[yd,Iz,Iz,gM];by_cases h:f p=true
  ·rw[Ij h,Ij h,yd,yd,ih]
  ·rw[CI h,CI h,ih]
theorem boot_any:bootBuiltins "any"=some (.builtin "any"):=by decide +kernel
theorem iD{x y z:PV}:atI [x,y,z] 0=some x:=rfl
theorem wG{x y z:PV}:atI [x,y,z] 1=some y:=rfl
theorem zR{x y z:PV}:atI [x,y,z] 2=some z:=rfl
theorem lx{x:PV}{l:List PV}:atI (x::l) 0=some x:=eC (l:=x::l) (i:=0) (by simp)
def uL(n:Int)(y:PV):Bool:=match y with | .tup [.int k,.int _]=>(n / 2 ^ k.toNat).fmod 2==1 | _=>false
theorem yR{l:List PV}:(iw l).length=l.length:=by simp[iw]
theorem xy{O:List Int}{y:PV}(h:y∈iw (O.map PV.int)):∃(k:Nat) (x:Int),y=.tup [.int (k:Nat),.int x]:=by
 unfold iw at h;obtain⟨i,hi,e⟩:=List.mem_mapIdx.mp h;rw[Il]at e;exact⟨i,_,e.symm⟩
theorem Ar{a b:Int}{n:Nat}(h:0<b)(hb:My.BN n b):My.BN n (a.fmod b):=by
 have:=fm (a:=a) h;exact hb.of_le (by omega)
theorem sub_len:∀(f L:List Int),f.Nodup->(∀x∈f,x∈L)->f.length≤L.length
 | [],_,_,_=>Jk _
 | x::f,L,hn,h=>by
  rw[JW]at hn;have hx:=h x xP;have ih:=sub_len f (L.erase x) hn.2 fun y hy=>(List.mem_erase_of_ne (fun(e:y=x)=>hn.1 (e▸hy))).mpr (h y (Bo _ hy));rw[List.length_erase_of_mem hx]at ih;have:=List.length_pos_of_mem hx;rw[Ih];omega
theorem xh{A B:List Int}(hA:A.Pairwise (·<·))(hB:B.Pairwise (·<·))(h:∀x∈A,x∈B)(hl:B.length≤A.length):A=B:=by
 refine My.b8 hA hB fun x=>⟨h x,fun hx=>Js fun hn=>?_⟩;have nA:A.Nodup:=hA.imp fun h=>by omega
 have q:=sub_len (x::A) B (JW.mpr ⟨hn,nA⟩) fun y hy=>(Ic.mp hy).elim (fun e=>e▸hx) (h y);rw[Ih]at q;omega
theorem DA{E:List P2}{P:Int->Prop}{m:Nat}(hb:∀f:List Int,f.Nodup->(∀x∈f,P x)->f.length≤m)(hE:∀a b,(a,b)∈E->P b) :
  ∀(n:Nat) {f:List Int},f.Nodup->(∀x∈f,P x)->m≤f.length+n->My.cw E (My.bZ E n f)=My.bZ E n f:=by
 have r:∀f:List Int,(∀x∈f,P x)->∀x∈My.cw E f,P x:=fun f hf x hx=>by
  cases My.fh (E0:=E) (S:=f) E (fun _ hp=>hp) (fun y hy=>.base hy) x hx with
  | base h=>exact hf x h
  | step h e=>exact hE _ _ e
 intro n
 induction n with
 | zero =>
  intro f hn hf hl;show My.cw E f=f;apply Js;intro h;have l:=My.kS h;have:=hb _ (My.dz E hn) (r f hf);omega
 | succ n ih =>
  intro f hn hf hl;by_cases h:My.cw E f=f
  ·rw[My.iB (n+1) h,h]
  ·have l:=My.kS h;exact ih (My.dz E hn) (r f hf) (by omega)
theorem n8{E:List P2}{S L:List Int}(hE:∀a b,(a,b)∈E->b∈L)(hS:∀x∈S,x∈L)(hn:S.Nodup)(y:Int):y∈My.bZ E L.length S↔My.Reach E S y:=by
 constructor
 ·exact My.gQ _ (fun y hy=>.base hy) y
 ·have sh:=DA (E:=E) (P:=fun x=>x∈L) (m:=L.length) (fun f h1 h2=>sub_len f L h1 h2) hE L.length hn hS (by omega);intro h
  induction h with
  | base h=>obtain⟨g,hg⟩:=My.jk (E:=E) L.length S;rw[hg];exact IJ _ h
  | step h e ih=>exact My.jV E sh _ _ e ih
theorem bF{q:Int->Bool}:∀{l:List Int},((l.map PV.int).filter (onI q)).map (fun y=>y)=(l.filter q).map PV.int
 | []=>rfl
 | k::l=>by
  have e:onI q (PV.int k)=q k:=rfl;rw[yd,Iz,Iz,e];by_cases h:q k=true
  ·rw[Ij h,Ij h,yd,yd,bF]
  ·rw[CI h,CI h,bF]
theorem vx{l:List Int}:((l.map PV.int).filter (fun _=>true)).map (fun y=>y)=l.map PV.int:=by
 rw[Ji.mpr (fun _ _=>rfl),List.map_id'' (fun _=>rfl)]
theorem fO{c:Int}:b7 0 c.toNat=(ulN c).map PV.int:=by
 unfold b7 ulN;rw[IV];refine List.map_congr_left fun k _=>?_;show PV.int (0+(k:Int))=PV.int (k:Int);rw[Int.zero_add]
theorem bV:∀{A B:List Int},dm (A.map PV.int) (B.map PV.int)=decide (A=B)
 | [],[]=>by simp[dm]
 | [],_::_=>by simp[dm]
 | _::_,[]=>by simp[dm]
 | a::A,b::B=>by
  rw[yd,yd,dm,bV,deq,Jv];simp
theorem ig:∀{A B:List (List Int)},dm (A.map tupI) (B.map tupI)=decide (A=B)
 | [],[]=>by simp[dm]
 | [],_::_=>by simp[dm]
 | _::_,[]=>by simp[dm]
 | a::A,b::B=>by
  rw[yd,yd,dm,ig,tupI,tupI,deq,bV,Jv];simp
theorem eZ{A:List Int}:dm (A.map PV.int) []=decide (A=[]):=bV (B:=[])
theorem cZ{A:List (List Int)}:(A.map tupI).all (flat 8)=true:=by
 rw[Ir];intro z hz;obtain⟨M,_,rfl⟩:=Bc.mp hz;unfold tupI flat
 rw[Ir];intro y hy;obtain⟨k,_,rfl⟩:=Bc.mp hy;rfl
theorem jO{l:List Int}:(l.map PV.int).all (flat 7)=true:=by
 rw[Ir];intro z hz;obtain⟨p,_,rfl⟩:=Bc.mp hz;rfl
def onB(W:List Int)(y:PV):PV:=match y with | .int u=>.bl (decide (u∈W)) | _=>.non
theorem vn{W l:List Int}:((l.map PV.int).filter (fun _=>true)).map (onB W)=(l.map fun x=>decide (x∈W)).map PV.bl:=by
 rw[Ji.mpr (fun _ _=>rfl),IV,IV];rfl
theorem lh{W l:List Int}:(l.map fun x=>decide (x∈W)).all id=true↔∀x∈l,x∈W:=by
 rw[List.all_map,Ir];simp
def nin(c:Int)(A:List Int):List Int:=(ulN c).filter fun y=>!decide (y∈A)
theorem pQ{c:Int}{A:List Int}:Nms c (nin c A):=⟨(zS c).filter _,fun x hx=>b0.mp (Io.mp hx).1⟩
theorem qp{c:Int}{A:List Int}{x:Int}:x∈nin c A↔(0≤x/\x<c)/\x∉A:=by
 unfold nin;rw[Io,b0];simp
def up1(ts:List P2)(L:List Int):List P2:=(ts.filter fun p=>decide (p.1∈L)).map swp
def up2(ts:List P2)(L:List Int):List P2:=(ts.filter (FT 0 L)).map swp
theorem ja{ts:List P2}{L:List Int}{a b:Int}:(a,b)∈up1 ts L↔(b,a)∈ts/\b∈L:=by
 unfold up1;rw[fC,Io];simp
theorem cW{ts:List P2}{L:List Int}{a b:Int}:(a,b)∈up2 ts L↔(b,a)∈ts/\b∈L/\a∈L:=by
 unfold up2;rw[fC,Io];simp[FT]
theorem zx{ts:List P2}{L S:List Int}(hS:∀x∈S,x∈L){y:Int}:My.Reach (up1 ts L) S y↔My.Reach (up2 ts L) S y:=by
 constructor
 ·intro h;have:My.Reach (up2 ts L) S y/\y∈L:=by
   induction h with
   | base h=>exact⟨.base h,hS _ h⟩
   | step _ e ih =>
    have q:=ja.mp e;exact⟨.step ih.1 (cW.mpr ⟨q.1,q.2,ih.2⟩),q.2⟩
  exact this.1
 ·exact dQ fun a b e=>ja.mpr ⟨(cW.mp e).1,(cW.mp e).2.1⟩
def gW(L:List Int)(f:List Int)(p:P2):List Int:=if p.2∈f/\p.1∈L/\p.1∉f then f++[p.1]else f
theorem qh{L:List Int}:∀(ts:List P2) (f:List Int),ts.foldl (gW L) f=My.cw (up1 ts L) f
 | [],f=>rfl
 | p::ts,f=>by
  rw[List.foldl_cons,qh ts];unfold up1;rw[Iz];by_cases h:decide (p.1∈L)=true
  ·rw[Ij h,yd];have h':p.1∈L:=Jy h;have e:gW L f p=My.cB f (swp p):=by
    unfold gW My.cB swp;by_cases q:p.2∈f/\p.1∉f
    ·rw[Ij ⟨q.1,h',q.2⟩,Ij q]
    ·rw[CI (fun z=>q ⟨z.1,z.2.2⟩),CI q]
   rw[e];rfl
  ·rw[CI h];have h':p.1∉L:=fun z=>h (IL z);have e:gW L f p=f:=by unfold gW;rw[CI fun z=>h' z.2.1]
   rw[e]
def cT(L:List Int)(f:List Int)(p:P2):List Int:=if p.1∈L/\p.2∈L then(if p.1∈f then(if p.2∈f then f else f++[p.2])else(if p.2∈f then f++[p.1]else f))else f
def E2(bs:List P2)(L:List Int):List P2:=(uY bs L).flatMap fun p=>[p,swp p]
theorem pC{bs:List P2}{L:List Int}{a b:Int}:(a,b)∈E2 bs L↔(a,b)∈both bs L:=by
 unfold E2 both;rw[List.mem_flatMap,zi,fC];constructor
 ·rintro⟨p,hp,h⟩;rcases Ic.mp h with h | h
  ·subst h;exact .inl hp
  ·rw[xI]at h;unfold swp at h;cases h;exact .inr hp
 ·rintro(h | h)
  ·exact⟨_,h,xP⟩
  ·exact⟨_,h,Bo _ (xI.mpr rfl)⟩
theorem ri{L f:List Int}{p:P2}(h:p.1∈L/\p.2∈L):cT L f p=My.cB (My.cB f p) (swp p):=by
 unfold cT My.cB swp;rw[Ij h];by_cases h1:p.1∈f
 ·by_cases h2:p.2∈f
  ·simp[h1,h2]
  ·simp[h1,h2]
 ·by_cases h2:p.2∈f
  ·simp[h1,h2]
  ·simp[h1,h2]
theorem kC{L:List Int}:∀(bs:List P2) (f:List Int),bs.foldl (cT L) f=My.cw (E2 bs L) f
 | [],f=>rfl
 | p::bs,f=>by
  rw[List.foldl_cons,kC bs];unfold E2 uY;rw[Iz];by_cases h:(decide (p.1∈L)&&decide (p.2∈L))=true
  ·rw[Ij h,List.flatMap_cons];have h':p.1∈L/\p.2∈L:=by simpa using h
   rw[ri h'];rfl
  ·rw[CI h];have h':¬(p.1∈L/\p.2∈L):=fun z=>h (by simpa using z);have e:cT L f p=f:=by unfold cT;rw[CI h']
   rw[e]
theorem o4{bs:List P2}{L:List Int}{x:Int}(hx:x∈L)(y:Int):y∈My.bZ (E2 bs L) L.length [x]↔My.Reach (both bs L) [x] y:=by
 refine(n8 (fun a b e=>(b4.mp (pC.mp e)).2.1) (fun z hz=>by rw[xI]at hz;rw[hz];exact hx) (by simp) y).trans ⟨dQ fun a b=>pC.mp,dQ fun a b=>pC.mpr⟩
structure Qn (c:Int) (A B:List Int):Prop where
 a:Nms c A
 b:Nms c B
 ap:∀x∈A,x∉B
 ne:B≠[]
theorem Qn.sub{c:Int}{A B:List Int}(h:Qn c A B):∀x∈B,x∈nin c A:=fun x hx=>qp.mpr ⟨h.b.lo x hx,fun z=>h.ap x z hx⟩
abbrev qV(A B:List Int):PV:=.tup [.tup (A.map PV.int),.tup (B.map PV.int)]
structure Ia (c:Int) (ts bs:List P2) (A B I O:List Int):Prop where
 ne:I≠[]
 want:∀x∈I,My.Reach (up2 ts (nin c A)) B x
 li:dk (both bs I) I [I]
 lo:dk (both bs O) O [O]
 io:I≠O
 sub:∀x∈I,x∈O
 anc:∀y,y∈O↔My.Reach (up2 ts O) I y
 set:∃x∈O,x∈A
def Shp(H:PHp)(a:Addr)(c:Int)(ts bs:List P2):Prop:=∃p q,H a=some (.lst [.int c,.ref p,.ref q])/\H p=some (.lst (ts.map prV))/\H q=some (.lst (bs.map prV))
theorem Shp.up{H H1:PHp}{a:Addr}{c:Int}{ts bs:List P2}(h:Shp H a c ts bs)(s:U.Sub H H1):Shp H1 a c ts bs:=by
 obtain⟨p,q,e1,e2,e3⟩:=h;exact⟨p,q,s _ _ e1,s _ _ e2,s _ _ e3⟩
structure OkS (c:Int) (ts bs:List P2):Prop where
 c1:1≤c
 c6:c≤6
 gt:Good c ts
 gb:Good c bs
 b6:bs.length≤6
theorem Dr.ins{t:Ad}{H:PHp}{x:Addr}{c:Int}{ts bs:List P2}(h:Dr t H x c ts bs):Ins t H x c ts:=by
 obtain⟨dx,e⟩:=h;exact⟨dx,bs,e⟩
def iZ(t:Ad):Sp':=fun vs H Q _=>match vs with
 | [.ref x,.tup l]=>∃c ts bs,∃L:List Int,Dr t H x c ts bs/\l=L.map PV.int/\OkD c ts bs/\Nms c L/\∀y H1,U.Sub H H1->Dr t H1 y c (ts.filter (FT 0 L)) (bs.filter (FB 0 L))->Q (.ref y) H1
 | _=>False
theorem Cv{x:Addr}{l:List PV}{H:PHp}{Q:VK'}{E:XK'}:iZ t [.ref x,.tup l] H Q E=(∃c ts bs,∃L:List Int,Dr t H x c ts bs/\l=L.map PV.int/\OkD c ts bs/\Nms c L/\∀y H1,U.Sub H H1->Dr t H1 y c (ts.filter (FT 0 L)) (bs.filter (FB 0 L))->Q (.ref y) H1):=rfl
def i7:Sp':=fun vs H Q _=>match vs with
 | [.int c]=>(0≤c/\c<1000)/\Q (.tup ((ulN c).map PV.int)) H
 | _=>False
theorem B9{c:Int}{H:PHp}{Q:VK'}{E:XK'}:i7 [.int c] H Q E=((0≤c/\c<1000)/\Q (.tup ((ulN c).map PV.int)) H):=rfl
def dY:Sp':=fun vs H Q _=>match vs with
 | [.tup l,.tup m]=>∃A B:List Int,l=A.map PV.int/\m=B.map PV.int/\A.length≤1000/\Q (.tup ((A.filter fun y=>!decide (y∈B)).map PV.int)) H
 | _=>False
theorem rj{l m:List PV}{H:PHp}{Q:VK'}{E:XK'}:dY [.tup l,.tup m] H Q E=(∃A B:List Int,l=A.map PV.int/\m=B.map PV.int/\A.length≤1000/\Q (.tup ((A.filter fun y=>!decide (y∈B)).map PV.int)) H):=rfl
def du(t:Ad):Sp':=fun vs H Q _=>match vs with
 | [.ref x,.ref a]=>∃c ts,∃A B:List Int,Ins t H x c ts/\H a=some (.lst [.tup (A.map PV.int),.tup (B.map PV.int)])/\Nms c A/\Nms c B/\Q .non H
 | _=>False
theorem n5{x a:Addr}{H:PHp}{Q:VK'}{E:XK'}:du t [.ref x,.ref a] H Q E=(∃c ts,∃A B:List Int,Ins t H x c ts/\H a=some (.lst [.tup (A.map PV.int),.tup (B.map PV.int)])/\Nms c A/\Nms c B/\Q .non H):=rfl
def cV:Sp':=fun vs H Q _=>match vs with
 | [.ref a]=>∃c,∃A B:List Int,H a=some (.lst [.tup (A.map PV.int),.tup (B.map PV.int)])/\Nms c A/\Nms c B/\c≤6/\(∀x∈A,x∉B)/\Q .non H
 | _=>False
theorem m9{a:Addr}{H:PHp}{Q:VK'}{E:XK'}:cV [.ref a] H Q E=(∃c,∃A B:List Int,H a=some (.lst [.tup (A.map PV.int),.tup (B.map PV.int)])/\Nms c A/\Nms c B/\c≤6/\(∀x∈A,x∉B)/\Q .non H):=rfl
def gR(t:Ad):Sp':=fun vs H Q _=>match vs with
 | [.ref x,v]=>∃c ts,∃A B:List Int,v=qV A B/\Ins t H x c ts/\Qn c A B/\c≤6/\Q .non H
 | _=>False
theorem x5{x:Addr}{v:PV}{H:PHp}{Q:VK'}{E:XK'}:gR t [.ref x,v] H Q E=(∃c ts,∃A B:List Int,v=qV A B/\Ins t H x c ts/\Qn c A B/\c≤6/\Q .non H):=rfl
def gY(t:Ad):Sp':=fun vs H Q _=>match vs with
 | [.ref x,v]=>∃c ts bs,∃A B:List Int,v=qV A B/\Dr t H x c ts bs/\OkD c ts bs/\Qn c A B/\∀M:List Int,M.Pairwise (·<·)->(∀y,y∈M↔My.Reach (up2 ts (nin c A)) B y)->Q (.tup (M.map PV.int)) H
 | _=>False
theorem yS{x:Addr}{v:PV}{H:PHp}{Q:VK'}{E:XK'}:gY t [.ref x,v] H Q E=(∃c ts bs,∃A B:List Int,v=qV A B/\Dr t H x c ts bs/\OkD c ts bs/\Qn c A B/\∀M:List Int,M.Pairwise (·<·)->(∀y,y∈M↔My.Reach (up2 ts (nin c A)) B y)->Q (.tup (M.map PV.int)) H):=rfl
def kZ:Sp':=fun vs H Q _=>match vs with
 | [.int u,.int k]=>(0≤k/\k<100)/\∀n:Int,Q (.int n) H
 | _=>False
theorem Dx{u k:Int}{H:PHp}{Q:VK'}{E:XK'}:kZ [.int u,.int k] H Q E=((0≤k/\k<100)/\∀n:Int,Q (.int n) H):=rfl
def dt:Sp':=fun vs H Q _=>match vs with
 | [.int n,.int c]=>(1≤c/\c≤6)/\∀A B:List Int,Qn c A B->Q (qV A B) H
 | _=>False
theorem oo{n c:Int}{H:PHp}{Q:VK'}{E:XK'}:dt [.int n,.int c] H Q E=((1≤c/\c≤6)/\∀A B:List Int,Qn c A B->Q (qV A B) H):=rfl
def NmV(H:PHp)(v:PV)(L:List Int):Prop:=v=.tup (L.map PV.int)∨∃r,v=.ref r/\H r=some (.lst (L.map PV.int))
theorem NmV.up{H H1:PHp}{v:PV}{L:List Int}(h:NmV H v L)(s:U.Sub H H1):NmV H1 v L:=h.imp id fun⟨r,e,q⟩=>⟨r,e,s _ _ q⟩
theorem NmV.it{H:PHp}{v:PV}{L:List Int}{R:It'->PHp->Prop}(h:NmV H v L)(k:∀ok:PHp->Prop,(∀H',NmV H' v L->ok H')->R ⟨L.map PV.int,ok⟩ H):vX v H R:=by
 rcases h with rfl |⟨r,rfl,q⟩
 ·exact k _ fun _ _=>trivial
 ·refine⟨_,q,k _ fun H' h'=>?_⟩;rcases h' with e |⟨r2,e,q2⟩
  ·cases e
  ·cases e;exact q2
theorem NmV.s{H:PHp}{v:PV}{L:List Int}{k:List PV->Prop}(h:NmV H v L)(q:k (L.map PV.int)):cK v H k:=by
 rcases h with rfl |⟨r,rfl,e⟩
 ·exact q
 ·exact⟨_,e,q⟩
theorem uy{bs:List P2}{L:List Int}{a b:Int}(h:(a,b)∈both bs L):(b,a)∈both bs L:=by
 rw[b4]at h ⊢;exact⟨h.2.1,h.1,h.2.2.symm⟩
theorem fc{E:List P2}{x y z:Int}(h1:My.Reach E [x] y)(h2:My.Reach E [y] z):My.Reach E [x] z:=by
 induction h2 with
 | base h=>rw[xI]at h;rw[h];exact h1
 | step _ e ih=>exact .step ih e
theorem se{bs:List P2}{L:List Int}{x y:Int}(h:My.Reach (both bs L) [x] y):My.Reach (both bs L) [y] x:=by
 induction h with
 | base h=>rw[xI]at h;rw[h];exact .base (by simp)
 | step _ e ih=>exact fc (.step (.base (by simp)) (uy e)) ih
theorem lZ{E:List P2}{L:List Int}{Ls:List (List Int)}(h:dk E L Ls):∀x∈L,∃M∈Ls,x∈M:=by
 induction h with
 | nil=>intro x hx;cases hx
 | cons up iff h ih =>
  rename_i x R M Ls;intro y hy;by_cases q:y∈M
  ·exact⟨M,xP,q⟩
  ·rcases Ic.mp hy with e | e
   ·subst e;exact absurd ((iff y).mpr (.base (by simp))) q
   ·obtain⟨N,hN,yN⟩:=ih y (Io.mpr ⟨e,by simp[q]⟩);exact⟨N,Bo _ hN,yN⟩
theorem vR{E:List P2}{L:List Int}{Ls:List (List Int)}(h:dk E L Ls):∀M∈Ls,M.Pairwise (·<·)/\∃x∈L,∀y,y∈M↔My.Reach E [x] y:=by
 induction h with
 | nil=>intro M hM;cases hM
 | cons up iff h ih =>
  rename_i x R M Ls;intro N hN;rcases Ic.mp hN with e | e
  ·subst e;exact⟨up,x,xP,iff⟩
  ·obtain⟨h1,z,hz,h2⟩:=ih N e;exact⟨h1,z,Bo _ (Io.mp hz).1,h2⟩
structure LA (bs:List P2) (L:List Int) (x:Int) (M:List Int):Prop where
 up:M.Pairwise (·<·)
 iff:∀y,y∈M↔My.Reach (both bs L) [x] y
theorem LA.self{bs:List P2}{L M:List Int}{x:Int}(h:LA bs L x M):x∈M:=(h.iff x).mpr (.base (by simp))
theorem LA.one{bs:List P2}{L M N:List Int}{x:Int}(h:LA bs L x M)(g:LA bs L x N):M=N:=My.b8 h.up g.up fun y=>(h.iff y).trans (g.iff y).symm
theorem LA.move{bs:List P2}{L M:List Int}{x z:Int}(h:LA bs L x M)(hz:z∈M):LA bs L z M :=
 ⟨h.up,fun y=>(h.iff y).trans ⟨fun q=>fc (se ((h.iff z).mp hz)) q,fun q=>fc ((h.iff z).mp hz) q⟩⟩
theorem LA.sub{bs:List P2}{L M:List Int}{x:Int}(h:LA bs L x M)(hx:x∈L):∀y∈M,y∈L:=fun y hy=>by
 cases (h.iff y).mp hy with
 | base h=>rw[xI]at h;rw[h];exact hx
 | step _ e=>exact(b4.mp e).2.1
theorem qk{bs:List P2}{L:List Int}{Ls:List (List Int)}(h:dk (both bs L) L Ls){M:List Int}(hM:M∈Ls){x:Int}(hx:x∈M):LA bs L x M:=by
 obtain⟨up,z,_,iff⟩:=vR h M hM;exact LA.move ⟨up,iff⟩ hx
theorem gZ{bs:List P2}{L:List Int}{Ls:List (List Int)}(h:dk (both bs L) L Ls){M:List Int}:M∈Ls↔∃x∈L,LA bs L x M:=by
 constructor
 ·intro hM;obtain⟨up,z,hz,iff⟩:=vR h M hM;exact⟨z,hz,up,iff⟩
 ·rintro⟨x,hx,la⟩;obtain⟨N,hN,xN⟩:=lZ h x hx;rw[la.one (qk h hN xN)];exact hN
theorem jC{bs:List P2}{X S:List Int}(h:∀y∈X,y∈S){x y:Int}(r:My.Reach (both bs X) [x] y):My.Reach (both bs S) [x] y :=
 dQ (fun a b e=>by rw[b4]at e ⊢;exact⟨h a e.1,h b e.2.1,e.2.2⟩) r
structure Cn (c:Int) (bs:List P2) (L0:List Int) (x0:Int):Prop where
 nms:Nms c L0
 hd:x0∈L0
 con:∀y∈L0,My.Reach (both bs L0) [x0] y
theorem LA.cn{c:Int}{bs:List P2}{W M:List Int}{x:Int}(h:LA bs W x M)(hW:Nms c W)(hx:x∈W):Cn c bs M x:=by
 refine⟨⟨h.up,fun y hy=>hW.lo y (h.sub hx y hy)⟩,h.self,fun y hy=>?_⟩;have r:=(h.iff y).mp hy;have:My.Reach (both bs M) [x] y/\y∈M:=by
  clear hy
  induction r with
  | base q=>rw[xI]at q;rw[q];exact⟨.base (by simp),h.self⟩
  | step r e ih =>
   have hm:=(h.iff _).mpr (.step r e);exact⟨.step ih.1 (b4.mpr ⟨ih.2,hm,(b4.mp e).2.2⟩),hm⟩
 exact this.1
structure Stk (ts bs:List P2) (L0:List Int) (x0:Int) (S:List Int):Prop where
 sub:∀y∈L0,y∈S
 an:∀y∈S,My.Reach (up2 ts S) L0 y
 ln:∀y∈S,My.Reach (both bs S) [x0] y
theorem Cn.stk{c:Int}{ts bs:List P2}{L0:List Int}{x0:Int}(h:Cn c bs L0 x0):Stk ts bs L0 x0 L0:=⟨fun _ h=>h,fun _ h=>.base h,h.con⟩
def iL(ts bs:List P2)(L0:List Int)(x0:Int)(S:List Int):Prop:=∀X,Stk ts bs L0 x0 X->∀y∈X,y∈S
def sI(ts:List P2)(S N:List Int):Prop:=∀u v,(u,v)∈ts->v∈N->u∈S->u∈N
theorem iL.up{ts bs:List P2}{L0 S N:List Int}{x0:Int}(h:iL ts bs L0 x0 S)(hl:∀y∈L0,y∈N)(sh:sI ts S N):iL ts bs L0 x0 N:=fun X hX y hy=>by
 have r:=hX.an y hy;clear hy
 induction r with
 | base q=>exact hl _ q
 | step _ e ih =>
  obtain⟨e1,e2,_⟩:=cW.mp e;exact sh _ _ e1 ih (h X hX _ e2)
theorem iL.lump{ts bs:List P2}{L0 S N:List Int}{x0:Int}(h:iL ts bs L0 x0 S)(la:LA bs S x0 N):iL ts bs L0 x0 N:=fun X hX y hy=>(la.iff y).mpr (jC (h X hX) (hX.ln y hy))
structure Fin (c:Int) (ts bs:List P2) (L0:List Int) (x0:Int) (T:List Int):Prop where
 nms:Nms c T
 stk:Stk ts bs L0 x0 T
 hold:iL ts bs L0 x0 T
theorem Fin.one{c:Int}{ts bs:List P2}{L0 T U:List Int}{x0:Int}(h:Fin c ts bs L0 x0 T)(g:Fin c ts bs L0 x0 U):T=U :=
 My.b8 h.nms.up g.nms.up fun y=>⟨g.hold T h.stk y,h.hold U g.stk y⟩
structure UpS (ts:List P2) (S L0 M:List Int):Prop where
 up:M.Pairwise (·<·)
 iff:∀y,y∈M↔My.Reach (up2 ts S) L0 y
theorem UpS.sub{ts:List P2}{S L0 M:List Int}(h:UpS ts S L0 M)(hl:∀y∈L0,y∈S):∀y∈M,y∈S:=fun y hy=>by
 cases (h.iff y).mp hy with
 | base q=>exact hl _ q
 | step _ e=>exact(cW.mp e).2.1
theorem UpS.bas{ts:List P2}{S L0 M:List Int}(h:UpS ts S L0 M):∀y∈L0,y∈M:=fun y hy=>(h.iff y).mpr (.base hy)
theorem UpS.shut{ts:List P2}{S L0 M:List Int}(h:UpS ts S L0 M)(hl:∀y∈L0,y∈S):sI ts S M:=fun u v e hv hu=>(h.iff u).mpr (.step ((h.iff v).mp hv) (cW.mpr ⟨e,hu,h.sub hl v hv⟩))
structure Vc (c:Int) (ts bs:List P2) (S:List Int) (w:Str) (N:List Int):Prop where
 nms:Nms c N
 ne:N≠[]
 lt:N.length<S.length
 sub:∀y∈N,y∈S
 ok:(w="lump"/\∃x∈S,LA bs S x N)∨(w="up"/\sI ts S N)
theorem kx{c:Int}{N S:List Int}(hN:Nms c N)(hS:Nms c S)(h:∀y∈N,y∈S)(ne:N≠S):N.length<S.length:=by
 have h1:=sub_len N S hN.nd h;rcases Nat.lt_or_ge N.length S.length with h2 | h2
 ·exact h2
 ·exact absurd (xh hN.up hS.up h h2) ne
abbrev Cu:=Str×List Int
abbrev upC(N:List Int):Cu:=("up",N)
abbrev lpC(N:List Int):Cu:=("lump",N)
def aT(p:Cu):PV:=.tup [.str p.1,.tup (p.2.map PV.int)]
def stA(S:List Int)(cs:List Cu):List Int:=(cs.getLast?.map (·.2)).getD S
theorem dc{S:List Int}{cs:List Cu}{p:Cu}:stA S (cs++[p])=p.2:=by simp[stA]
def dq(c:Int)(ts bs:List P2)(S:List Int)(cs:List Cu):Prop:=∀(i:Nat) (p:Cu),cs[i]?=some p->Vc c ts bs (stA S (cs.take i)) p.1 p.2
theorem dq.nil{c:Int}{ts bs:List P2}{S:List Int}:dq c ts bs S []:=fun i p h=>by simp at h
theorem dq.snoc{c:Int}{ts bs:List P2}{S:List Int}{cs:List Cu}{p:Cu}(h:dq c ts bs S cs)(v:Vc c ts bs (stA S cs) p.1 p.2):dq c ts bs S (cs++[p]):=fun i q e=>by
 rcases Nat.lt_or_ge i cs.length with hi | hi
 ·rw[Ja hi]at e;rw[List.take_append_of_le_length (J2 hi)];exact h i q e
 ·rw[Jf hi]at e;have hz:i - cs.length=0:=by
   cases k:i - cs.length with
   | zero=>rfl
   | succ n=>rw[k]at e;simp at e
  rw[hz]at e;simp at e;subst e;have ei:i=cs.length:=by omega
  rw[ei,List.take_left']
  ·exact v
  ·rfl
structure Wnt (c:Int) (ts bs:List P2) (A B W:List Int) (Ls:List (List Int)):Prop where
 nms:Nms c W
 iff:∀y,y∈W↔My.Reach (up2 ts (nin c A)) B y
 lm:dk (both bs W) W Ls
theorem Wnt.one{c:Int}{ts bs:List P2}{A B W V:List Int}{Ls Ms:List (List Int)}(h:Wnt c ts bs A B W Ls)(g:Wnt c ts bs A B V Ms):W=V/\Ls=Ms:=by
 have e:W=V:=My.b8 h.nms.up g.nms.up fun y=>(h.iff y).trans (g.iff y).symm;subst e;exact⟨rfl,h.lm.one g.lm⟩
theorem Wnt.cn{c:Int}{ts bs:List P2}{A B W:List Int}{Ls:List (List Int)}(h:Wnt c ts bs A B W Ls){L0:List Int}(hL:L0∈Ls){x0:Int}(hx:x0∈L0):Cn c bs L0 x0:=by
 have la:=qk h.lm hL hx;obtain⟨z,hz,lz⟩:=(gZ h.lm).mp hL;exact la.cn h.nms (lz.sub hz x0 hx)
theorem Wnt.ne{c:Int}{ts bs:List P2}{A B W:List Int}{Ls:List (List Int)}(h:Wnt c ts bs A B W Ls){L0:List Int}(hL:L0∈Ls):∃x0 R0,L0=x0::R0:=by
 obtain⟨z,hz,lz⟩:=(gZ h.lm).mp hL;cases L0 with
 | nil=>exact absurd lz.self (by simp)
 | cons x R=>exact⟨x,R,rfl⟩
def fK:Nat->List Int->List Int
 | _,[]=>[]
 | b,x::S=>if b % 2=1 then x::fK (b / 2) S else fK (b / 2) S
theorem lV:∀(S:List Int) (b:Nat),(fK b S).Sublist S
 | [],_=>.slnil
 | x::S,b=>by
  unfold fK;split
  ·exact(lV S _).cons_cons x
  ·exact(lV S _).cons x
theorem lT:∀{S N:List Int},N.Sublist S->∃b,b<2 ^ S.length/\fK b S=N
 | [],_,.slnil=>⟨0,by simp,rfl⟩
 | x::S,_,.cons _ h=>by
  obtain⟨b,hb,e⟩:=lT h;refine⟨2*b,by rw[Ih,Nat.pow_succ];omega,?_⟩;unfold fK;rw[CI (by omega),show 2*b / 2=b by omega,e]
 | x::S,_,.cons₂ _ h=>by
  obtain⟨b,hb,e⟩:=lT h;refine⟨2*b+1,by rw[Ih,Nat.pow_succ];omega,?_⟩;unfold fK;rw[Ij (by omega),show(2*b+1) / 2=b by omega,e]
theorem jF:∀{S N:List Int},N.Pairwise (·<·)->S.Pairwise (·<·)->(∀y∈N,y∈S)->N.Sublist S
 | [],[],_,_,_=>.slnil
 | [],n::N,_,_,h=>absurd (h n xP) (by simp)
 | s::S,[],_,_,_=>List.nil_sublist _
 | s::S,n::N,hN,hS,h=>by
  rw[JU]at hN hS;by_cases e:n=s
  ·subst e;refine(jF hN.2 hS.2 fun y hy=>?_).cons_cons n;rcases Ic.mp (h y (Bo _ hy))with q | q
   ·have:=hN.1 y hy;omega
   ·exact q
  ·have ns:n∈S:=(Ic.mp (h n xP)).resolve_left e;refine(jF (JU.mpr hN) hS.2 fun y hy=>?_).cons s;rcases Ic.mp (h y hy)with q | q
   ·have h1:=hS.1 n ns;rcases Ic.mp hy with z | z
    ·omega
    ·have:=hN.1 y z;omega
   ·exact q
theorem xx{b k:Nat}:((((b:Nat):Int) / 2 ^ k).fmod 2==1)=decide (b / 2 ^ k % 2=1):=by
 have e:((b:Nat):Int) / 2 ^ k=((b / 2 ^ k:Nat):Int):=by rw[Int.natCast_ediv,Int.natCast_pow];rfl
 rw[e,Int.fmod_eq_emod_of_nonneg _ (by decide),Jv];simp only[JK,IX];omega
theorem mZ:∀(S:List Int) (k b:Nat),(((S.map PV.int).mapIdx fun i x=>PV.tup [.int ((i+k:Nat):Int),x]).filter (uL (b:Nat))).map g1=(fK (b / 2 ^ k) S).map PV.int
 | [],_,_=>by simp[fK]
 | x::S,k,b=>by
  have ih:=mZ S (k+1) b;have ef:(fun(i:Nat) (x:PV)=>PV.tup [.int ((i+1+k:Nat):Int),x])=fun(i:Nat) (x:PV)=>PV.tup [.int ((i+(k+1):Nat):Int),x]:=by
   funext i x;rw[show i+1+k=i+(k+1) by omega]
  rw[yd,List.mapIdx_cons,ef,Iz,Nat.zero_add];have eb:uL (b:Nat) (.tup [.int (k:Nat),.int x])=decide (b / 2 ^ k % 2=1):=by
   show((((b:Nat):Int) / 2 ^ ((k:Nat):Int).toNat).fmod 2==1)=_;rw[Je,xx]
  rw[eb,Nat.pow_succ,← Nat.div_div_eq_div_mul]at *;unfold fK;by_cases q:b / 2 ^ k % 2=1
  ·rw[Ij (IL q),Ij q,yd,yd,ih];rfl
  ·rw[CI (by simpa using q),CI q,ih]
theorem yV{S:List Int}{b:Nat}:((iw (S.map PV.int)).filter (uL (b:Nat))).map g1=(fK b S).map PV.int:=by
 have:=mZ S 0 b;simpa[iw]using this
theorem v7{c:Int}{ts bs:List P2}{L0:List Int}{x0:Int}(gb:Good c bs)(hx:0≤x0/\x0<c):iL ts bs L0 x0 (ulN c):=fun X hX y hy=>by
 cases hX.ln y hy with
 | base q=>rw[xI]at q;rw[q];exact b0.mpr hx
 | step _ e =>
  rcases (b4.mp e).2.2 with z | z
  ·have:=gb.lo _ z;simp only at this;exact b0.mpr ⟨by omega,by omega⟩
  ·have:=gb.lo _ z;simp only at this;exact b0.mpr ⟨by omega,by omega⟩
theorem dD{c:Int}:Nms c (ulN c):=⟨zS c,fun x hx=>b0.mp hx⟩
theorem dN{c:Int}{ts:List P2}{A B W:List Int}(hq:Qn c A B)(up:W.Pairwise (·<·))(iff:∀y,y∈W↔My.Reach (up2 ts (nin c A)) B y):Nms c W:=⟨up,fun y hy=>by
 cases (iff y).mp hy with
 | base q=>exact hq.b.lo _ q
 | step _ e=>exact(qp.mp (cW.mp e).2.1).1⟩
def inT(x0:Int)(y:PV):Bool:=match y with | .tup l=>l.any (fun z=>deq z (.int x0)) | _=>false
theorem pV{x0:Int}{M:List Int}:inT x0 (.tup (M.map PV.int))=decide (x0∈M):=aX
theorem eP{x0:Int}:∀{Ls:List (List Int)},((Ls.map tupI).filter (inT x0)).map (fun y=>y)=(Ls.filter fun M=>decide (x0∈M)).map tupI
 | []=>rfl
 | M::Ls=>by
  have e:inT x0 (tupI M)=decide (x0∈M):=pV;rw[yd,Iz,Iz,e];by_cases h:decide (x0∈M)=true
  ·rw[Ij h,Ij h,yd,yd,eP]
  ·rw[CI h,CI h,eP]
theorem wI{bs:List P2}{L:List Int}{Ls:List (List Int)}(h:dk (both bs L) L Ls){x0:Int}(hx:x0∈L):∃M r,Ls.filter (fun M=>decide (x0∈M))=M::r/\LA bs L x0 M:=by
 obtain⟨N,hN,xN⟩:=lZ h x0 hx;cases q:Ls.filter (fun M=>decide (x0∈M))with
 | nil =>
  rw[List.filter_eq_nil_iff]at q;exact absurd (IL xN) (q N hN)
 | cons M r =>
  have hm:M∈Ls.filter (fun M=>decide (x0∈M)):=by rw[q];exact xP
  have:=Io.mp hm;exact⟨M,r,rfl,qk h this.1 (Jy this.2)⟩
theorem LA.nms{c:Int}{bs:List P2}{L M:List Int}{x:Int}(h:LA bs L x M)(hL:Nms c L)(hx:x∈L):Nms c M:=⟨h.up,fun y hy=>hL.lo y (h.sub hx y hy)⟩
theorem Cn.into{c:Int}{bs:List P2}{L0 S N:List Int}{x0:Int}(h:Cn c bs L0 x0)(hs:∀y∈L0,y∈S)(la:LA bs S x0 N):∀y∈L0,y∈N:=fun y hy=>(la.iff y).mpr (jC hs (h.con y hy))
theorem pX{Ls:List (List Int)}{N:List Int}:((Ls.map tupI).any fun z=>deq z (.tup (N.map PV.int)))=decide (N∈Ls):=by
 rw[Jv,List.any_eq_true,IX];constructor
 ·rintro⟨z,hz,e⟩;obtain⟨M,hM,rfl⟩:=Bc.mp hz;unfold tupI at e;rw[deq,bV,IX]at e;rw[←e];exact hM
 ·intro h;refine⟨_,Bc.mpr ⟨_,h,rfl⟩,?_⟩;unfold tupI;rw[deq,bV,IX]
theorem ko{f:P2->Bool}:∀{ts:List P2},((ts.map prV).filter (onP f)).map g0=((ts.filter f).map (·.1)).map PV.int
 | []=>rfl
 | p::ts=>by
  have ih:=ko (f:=f) (ts:=ts);rw[yd,Iz,Iz,gM];by_cases h:f p=true
  ·rw[Ij h,Ij h,yd,yd,yd,ih];rfl
  ·rw[CI h,CI h,ih]
def eD(S N:List Int)(p:P2):Bool:=decide (p.2∈N)&&(decide (p.1∈S)&&!decide (p.1∈N))
theorem nU{ts:List P2}{S N:List Int}:(ts.filter (eD S N)).map (·.1)=[]↔sI ts S N:=by
 rw[List.map_eq_nil_iff,List.filter_eq_nil_iff];constructor
 ·intro h u v e hv hu;apply Js;intro hn;exact h _ e (by simp[eD,hv,hu,hn])
 ·intro h p hp q;simp only[eD,Jq,IX,Bool.not_eq_true',decide_eq_false_iff_not]at q;exact q.2.2 (h p.1 p.2 hp q.1 q.2.1)
theorem rV{c:TT'}{tb:TS'}{D:di}{σ:St'}{H:PHp}(h:∀R:TS',R=tb->md c R D σ H):md c tb D σ H:=h tb rfl
theorem GN{tb:TS'}{rt:VK'}{bk:St'->PHp->Prop}{σ:St'}{H1:PHp}{m:Nat}{Pv:Nat->St'->PHp->Prop}(h:∀(N bk:St'->PHp->Prop),(∀σ' H',(∃m',m'<m/\Pv m' σ' H')->N σ' H')->tb { nx:=N,rt:=rt,bk:=bk,ct:=N } σ H1) :
  ∃N:St'->PHp->Prop,(∀σ' H',N σ' H'->∃m',m'<m/\Pv m' σ' H')/\tb { nx:=N,rt:=rt,bk:=bk,ct:=N } σ H1:=⟨fun σ' H'=>∃m',m'<m/\Pv m' σ' H',fun _ _ h=>h,h _ _ fun _ _ h=>h⟩
theorem Vc.keep{c:Int}{ts bs:List P2}{L0 S N:List Int}{x0:Int}{w:Str}(v:Vc c ts bs S w N)(hold:iL ts bs L0 x0 S)(hx:x0∈L0)(hl:∀y∈L0,y∈N):iL ts bs L0 x0 N:=by
 rcases v.ok with⟨_,x,hxS,la⟩ |⟨_,sh⟩
 ·exact hold.lump (la.move (hl x0 hx))
 ·exact hold.up hl sh
theorem tL{c:Int}{ts bs:List P2}{L0 S:List Int}{x0:Int}(cn:Cn c bs L0 x0)(nS:Nms c S)(lS:∀y∈L0,y∈S)(hold:iL ts bs L0 x0 S)(no:∀N,¬(Vc c ts bs S "up" N/\∀y∈L0,y∈N))(la:LA bs S x0 S)(up:∃M,UpS ts S L0 M):Fin c ts bs L0 x0 S:=by
 refine⟨nS,⟨lS,fun y hy=>?_,fun y hy=>(la.iff y).mp hy⟩,hold⟩;obtain⟨M,u⟩:=up;have nM:Nms c M:=⟨u.up,fun y hy=>nS.lo y (u.sub lS y hy)⟩;by_cases e:M=S
 ·exact(u.iff y).mp (e▸hy)
 ·exact absurd ⟨⟨nM,fun z=>(by have:=u.bas _ cn.hd;rw[z]at this;cases this),kx nM nS (u.sub lS) e,u.sub lS,.inr ⟨rfl,u.shut lS⟩⟩,u.bas⟩ (no M)
theorem Cd{c:Int}{ts:List P2}{S L0:List Int}(nL:Nms c L0)(nS:Nms c S)(lS:∀y∈L0,y∈S):∃M,UpS ts S L0 M:=by
 refine⟨S.filter fun y=>decide (y∈My.bZ (up2 ts S) S.length L0),nS.up.filter _,fun y=>?_⟩;have q:=n8 (E:=up2 ts S) (S:=L0) (L:=S) (fun a b e=>(cW.mp e).2.1) lS nL.nd y;rw[Io,IX,q];refine⟨fun z=>z.2,fun z=>⟨?_,z⟩⟩;cases z with
 | base h=>exact lS _ h
 | step _ e=>exact(cW.mp e).2.1
theorem mn{l:List PV}{y:PV}:atI (l++[y]) (-1)=some y:=by
 unfold atI ixN;rw[CI (by omega),wW,Ip,Ij (by omega),show(-1+((l.length+1:Nat):Int)).toNat=l.length by omega];simp
abbrev Ro:=List Int×List Cu
def br(p:Ro):PV:=.tup [.tup (p.1.map PV.int),.tup (p.2.map aT)]
def wj(y:PV):PV:=match y with | .tup [u,_]=>u | _=>.non
theorem kH{rows:List Ro}:((rows.map br).filter (fun _=>true)).map wj=(rows.map (·.1)).map tupI:=by
 rw[Ji.mpr (fun _ _=>rfl),IV,IV];rfl
def gk(c:Int)(ts bs:List P2)(p:Ro):Prop:=∀x0 S0,p.1.head?=some x0->LA bs (ulN c) x0 S0->dq c ts bs S0 p.2/\stA S0 p.2=p.1
def Lets(c:Int)(ts bs:List P2)(Ls:List (List Int))(rows:List Ro):Prop:=rows.map (·.1)=Ls/\∀p∈rows,gk c ts bs p
def Sz6(rows:List Ro):Prop:=rows.length≤6/\∀p∈rows,p.1.length≤6/\p.2.length≤6/\∀q∈p.2,q.2.length≤6
def Ppr(Wd:Str)(x:PV):Prop:=(Wd="formula"/\∃rows:List Ro,x=.tup (rows.map br)/\Sz6 rows)∨(Wd="nest"/\∃M:List Int,x=.tup (M.map PV.int)/\M.length≤6)
def d7:Sp':=fun vs H Q _=>match vs with
 | [.int n,.int a,.int b]=>a=1/\(1≤b/\b≤6)/\∀c ts bs r H1,OkS c ts bs->c≤b->Srt ts->Srt bs->U.Sub H H1->Shp H1 r c ts bs->Q (.ref r) H1
 | _=>False
theorem sJ{n a b:Int}{H:PHp}{Q:VK'}{E:XK'}:d7 [.int n,.int a,.int b] H Q E=(a=1/\(1≤b/\b≤6)/\∀c ts bs r H1,OkS c ts bs->c≤b->Srt ts->Srt bs->U.Sub H H1->Shp H1 r c ts bs->Q (.ref r) H1):=rfl
def gX:Sp':=fun vs H Q _=>match vs with
 | [.ref a,v,.tup l]=>∃c ts bs,∃L S:List Int,Shp H a c ts bs/\OkS c ts bs/\NmV H v L/\l=S.map PV.int/\Nms c L/\S.Nodup/\(∀x∈S,x∈L)/\∀M:List Int,UpS ts L S M->Q (.tup (M.map PV.int)) H
 | _=>False
def fI:Sp':=fun vs H Q _=>match vs with
 | [.ref a,v]=>∃c ts bs,∃L:List Int,Shp H a c ts bs/\OkS c ts bs/\NmV H v L/\Nms c L/\∀r Ls H1,U.Sub H H1->H1 r=some (.lst (Ls.map tupI))->dk (both bs L) L Ls->Ls.length≤6->Q (.ref r) H1
 | _=>False
theorem uV{a:Addr}{v:PV}{H:PHp}{Q:VK'}{E:XK'}:fI [.ref a,v] H Q E=(∃c ts bs,∃L:List Int,Shp H a c ts bs/\OkS c ts bs/\NmV H v L/\Nms c L/\∀r Ls H1,U.Sub H H1->H1 r=some (.lst (Ls.map tupI))->dk (both bs L) L Ls->Ls.length≤6->Q (.ref r) H1):=rfl
def gC:Sp':=fun vs H Q _=>match vs with
 | [.ref a,v,.tup l]=>∃c ts bs,∃L:List Int,∃x0 R0,Shp H a c ts bs/\OkS c ts bs/\NmV H v L/\l=(x0::R0).map PV.int/\Nms c L/\x0∈L/\∀M:List Int,LA bs L x0 M->Q (.tup (M.map PV.int)) H
 | _=>False
def ft:Sp':=fun vs H Q _=>match vs with
 | [.ref a,.tup l]=>∃c ts bs,∃L:List Int,Shp H a c ts bs/\l=L.map PV.int/\L.length≤1000/\(Nms c L->Q (.bl true) H)/\(¬Nms c L->Q (.bl false) H)
 | _=>False
theorem vo{a:Addr}{l:List PV}{H:PHp}{Q:VK'}{E:XK'}:ft [.ref a,.tup l] H Q E=(∃c ts bs,∃L:List Int,Shp H a c ts bs/\l=L.map PV.int/\L.length≤1000/\(Nms c L->Q (.bl true) H)/\(¬Nms c L->Q (.bl false) H)):=rfl
def iT:Sp':=fun vs H Q _=>match vs with
 | [.ref a,.tup s,v]=>∃c ts bs,∃S:List Int,∃p:Cu,Shp H a c ts bs/\OkS c ts bs/\s=S.map PV.int/\v=aT p/\Nms c S/\p.2.length≤1000/\(Vc c ts bs S p.1 p.2->Q (.tup (p.2.map PV.int)) H)/\(¬Vc c ts bs S p.1 p.2->Q (.tup []) H)
 | _=>False
def fA:Sp':=fun vs H Q _=>match vs with
 | [.ref a,.tup s,.tup l]=>∃c ts bs,∃S L:List Int,Shp H a c ts bs/\OkS c ts bs/\s=S.map PV.int/\l=L.map PV.int/\Nms c S/\L.length≤6/\∀r H1,∀Ns:List (List Int),H r=none->U.Sub H H1->H1 r=some (.lst (Ns.map fun N=>aT ("up",N)))->(∀N,N∈Ns↔(Vc c ts bs S "up" N/\∀y∈L,y∈N))->Ns.length≤64->Q (.ref r) H1
 | _=>False
def jf:Sp':=fun vs H Q _=>match vs with
 | [.ref a,.tup l,.int n]=>∃c ts bs,∃x0 R0,Shp H a c ts bs/\OkS c ts bs/\l=(x0::R0).map PV.int/\Cn c bs (x0::R0) x0/\∀r r2 H1,∀cs:List Cu,∀T:List Int,U.Sub H H1->H1 r=some (.lst [.ref r2,.tup (T.map PV.int)])->H1 r2=some (.lst (cs.map aT))->cs.length≤6->(∀q∈cs,q.2.length≤6)->Fin c ts bs (x0::R0) x0 T->Q (.ref r) H1
 | _=>False
def gI:Sp':=fun vs H Q _=>match vs with
 | [.ref a,v,.int n]=>∃c ts bs,∃A B:List Int,Shp H a c ts bs/\OkS c ts bs/\v=qV A B/\Qn c A B/\∀W Ls r H1 Wd x y,Wnt c ts bs A B W Ls->U.Sub H H1->H1 r=some (.lst [.str Wd,x,y])->Ppr Wd x->Q (.ref r) H1
 | _=>False
def dZ:Sp':=fun vs H Q _=>match vs with
 | [.ref a,v]=>∃c ts bs,∃A B:List Int,Shp H a c ts bs/\OkS c ts bs/\v=qV A B/\Qn c A B/\∀M:List Int,M.Pairwise (·<·)->(∀y,y∈M↔My.Reach (up2 ts (nin c A)) B y)->Q (.tup (M.map PV.int)) H
 | _=>False
theorem qU{a:Addr}{v:PV}{H:PHp}{Q:VK'}{E:XK'}:dZ [.ref a,v] H Q E=(∃c ts bs,∃A B:List Int,Shp H a c ts bs/\OkS c ts bs/\v=qV A B/\Qn c A B/\∀M:List Int,M.Pairwise (·<·)->(∀y,y∈M↔My.Reach (up2 ts (nin c A)) B y)->Q (.tup (M.map PV.int)) H):=rfl
def fY:Sp':=fun vs H Q _=>match vs with
 | [.ref a,v,.tup l]=>∃c ts bs,∃A B:List Int,∃rows:List Ro,Shp H a c ts bs/\OkS c ts bs/\v=qV A B/\l=rows.map br/\Qn c A B/\rows.length≤100/\(∀p∈rows,p.2.length≤100/\∀q∈p.2,q.2.length≤100)/\∀W Ls,∀b:Bool,Wnt c ts bs A B W Ls->(b=true↔Lets c ts bs Ls rows)->Q (.bl b) H
 | _=>False
def fo(t:Ad):Sp':=fun vs H Q _=>match vs with
 | [.ref x,v]=>∃c ts bs,∃A B:List Int,v=qV A B/\Dr t H x c ts bs/\OkD c ts bs/\Qn c A B/\∀W Ls r H1,U.Sub H H1->Wnt c ts bs A B W Ls->H1 r=some (.lst (Ls.map tupI))->Ls.length≤6->Q (.tup [.tup (W.map PV.int),.ref r]) H1
 | _=>False
def fy(t:Ad):Sp':=fun vs H Q _=>match vs with
 | [.ref x,.tup l,.tup m]=>∃c ts bs,∃L:List Int,∃x0 R0,Dr t H x c ts bs/\OkD c ts bs/\l=L.map PV.int/\m=(x0::R0).map PV.int/\Nms c L/\x0∈L/\∀M:List Int,LA bs L x0 M->Q (.tup (M.map PV.int)) H
 | _=>False
def gA(t:Ad):Sp':=fun vs H Q _=>match vs with
 | [.ref x,.tup m]=>∃c ts bs,∃x0 R0,Dr t H x c ts bs/\OkD c ts bs/\m=(x0::R0).map PV.int/\(0≤x0/\x0<c)/\∀M:List Int,LA bs (ulN c) x0 M->Q (.tup (M.map PV.int)) H
 | _=>False
theorem yq{x:Addr}{m:List PV}{H:PHp}{Q:VK'}{E:XK'}:gA t [.ref x,.tup m] H Q E=(∃c ts bs,∃x0 R0,Dr t H x c ts bs/\OkD c ts bs/\m=(x0::R0).map PV.int/\(0≤x0/\x0<c)/\∀M:List Int,LA bs (ulN c) x0 M->Q (.tup (M.map PV.int)) H):=rfl
theorem jK{ok:PHp->Prop}{g:TG'}{tt:TT'}{te:TE'}{acc:Addr}{Q:VK'}{xs:List PV}(I:Nat->St'->PHp->Prop)
  (hs:∀(i:Nat) (x:PV) (σ:St') (H:PHp) (R:St'->PHp->Prop),xs[i]?=some x->I i σ H->(∀σ' H',I (i+1) σ' H'->R σ' H') ->
   ok H/\g x σ H fun σ3 H2=>tt σ3 H2 fun b H3=>cif b (te σ3 H3 fun y H4=>∃l',H4 acc=some (.lst l')/\l'.length<sizeLine/\R σ3 (put H4 acc (.lst (l'++[y])))) (R σ3 H3))
  (hq:∀σ H,I xs.length σ H->ok H/\Q (.ref acc) H) {σ:St'} {H:PHp} (h0:I 0 σ H):eo ok g tt te acc Q xs σ H:=by
 have key:∀(r d:List PV) (σ:St') (H:PHp),xs=d++r->I d.length σ H->eo ok g tt te acc Q r σ H:=by
  intro r
  induction r with
  | nil =>
   intro d σ H e hv;rw[IP]at e;subst e;exact hq σ H hv
  | cons x r ih =>
   intro d σ H e hv;refine hs d.length x σ H _ (by rw[e];simp) hv fun σ' H' h'=>?_;exact ih (d++[x]) σ' H' (by rw[e];simp) (by rw[wW];exact h')
 exact key xs [] σ H rfl h0
def Bv(S N:List Int)(y:PV):PV:=match y with | .int u=>.bl (decide (u∈S)&&!decide (u∈N)) | _=>.non
theorem rL{S N l:List Int}:((l.map PV.int).filter (fun _=>true)).map (Bv S N)=(l.map fun u=>decide (u∈S)&&!decide (u∈N)).map PV.bl:=by
 rw[Ji.mpr (fun _ _=>rfl),IV,IV];rfl
theorem qM{ts:List P2}{S N:List Int}{n:Int}:((((ts.filter fun p=>decide (p.2=n)).map (·.1)).map fun u=>decide (u∈S)&&!decide (u∈N)).any id)=true↔∃u,(u,n)∈ts/\u∈S/\u∉N:=by
 rw[List.any_map,List.any_map,List.any_eq_true];constructor
 ·rintro⟨p,hp,e⟩;have h:=Io.mp hp;have e2:p.2=n:=Jy h.2;simp only[Function.comp,id,Jq,IX,Bool.not_eq_true',decide_eq_false_iff_not]at e;exact⟨p.1,by rw[←e2];exact h.1,e.1,e.2⟩
 ·rintro⟨u,h,hu,nu⟩;refine⟨(u,n),Io.mpr ⟨h,IL rfl⟩,?_⟩;simp[hu,nu]
structure Sz (k:Nat) (rows:List Ro):Prop where
 n:rows.length≤k
 a:∀p∈rows,p.1.length≤k
 b:∀p∈rows,p.2.length≤k
 c:∀p∈rows,∀q∈p.2,q.2.length≤k
theorem Sz.sub{k:Nat}{rows rows2:List Ro}(sz:Sz k rows)(hl:rows2.length≤k+6)(hm:∀p∈rows2,p∈rows):Sz (k+6) rows2 :=
 ⟨hl,fun p hp=>IC (sz.a p (hm p hp)) (by omega),fun p hp=>IC (sz.b p (hm p hp)) (by omega),fun p hp q hq=>IC (sz.c p (hm p hp) q hq) (by omega)⟩
theorem Gx{a b:PV}{i:Int}{P:PV->Prop}(h0:0≤i)(h4:i<2)(pa:P a)(pb:P b):dJ (atI [a,b] i) P:=by
 have:i=0∨i=1:=by omega
 rcases this with rfl | rfl
 ·exact pa
 ·exact pb
theorem Gd{a b c:PV}{i:Int}{P:PV->Prop}(h0:0≤i)(h4:i<3)(pa:P a)(pb:P b)(pc:P c):dJ (atI [a,b,c] i) P:=by
 have:i=0∨i=1∨i=2:=by omega
 rcases this with rfl | rfl | rfl
 ·exact pa
 ·exact pb
 ·exact pc
theorem HD{a b c d:PV}{i:Int}{P:PV->Prop}(h0:0≤i)(h4:i<4)(pa:P a)(pb:P b)(pc:P c)(pd:P d):dJ (atI [a,b,c,d] i) P:=by
 have:i=0∨i=1∨i=2∨i=3:=by omega
 rcases this with rfl | rfl | rfl | rfl
 ·exact pa
 ·exact pb
 ·exact pc
 ·exact pd
theorem oV{xs:List PV}{k:Nat}(h:k≤xs.length):cz xs none (some ((k:Nat):Int))=xs.take k:=by
 unfold cz;rw[HT.eW,HT.iY,List.drop_zero,Nat.sub_zero,Nat.min_eq_left h]
theorem yb{α:Type}{l:List α}{n:Nat}{j:Nat}{x:α}(hn:l.length≤n)(hj:j≤l.length):(l.take j++[x]++l.drop j).length≤n+1/\(l.take j++[x]++l.drop (j+1)).length≤n+1/\(l.take j++l.drop (j+1)).length≤n:=by
 simp only[wW,Iu,Jc,Ip];omega
theorem gw{α:Type}{l:List α}{j i:Nat}{x:α}{P:α->Prop}(hl:∀y∈l,P y)(hx:P x):(∀y∈l.take j++[x]++l.drop i,P y)/\∀y∈l.take j++l.drop i,P y:=by
 constructor
 ·intro y hy;rcases zi.mp hy with hy | hy
  ·rcases zi.mp hy with hy | hy
   ·exact hl y (List.mem_of_mem_take hy)
   ·rw[xI]at hy;rw[hy];exact hx
  ·exact hl y (List.mem_of_mem_drop hy)
 ·intro y hy;rcases zi.mp hy with hy | hy
  ·exact hl y (List.mem_of_mem_take hy)
  ·exact hl y (List.mem_of_mem_drop hy)
theorem l7{α:Type}(f:α->PV)(l:List α)(lo hi:Option Int):∃m:List α,cz (l.map f) lo hi=m.map f/\m.length≤l.length/\∀x∈m,x∈l:=by
 refine⟨(l.drop (HT.sIx (l.map f).length 0 lo)).take (HT.sIx (l.map f).length (l.map f).length hi - HT.sIx (l.map f).length 0 lo),?_,?_,fun x hx=>List.mem_of_mem_drop (List.mem_of_mem_take hx)⟩
 ·unfold cz;rw[List.map_take,J1]
 ·rw[Iu,Jc];omega
theorem mE{α:Type}(f:α->PV)(l:List α):∃m:List α,cz (l.map f) (some (-1)) none=m.map f/\m.length≤1/\∀x∈m,x∈l:=by
 refine⟨l.drop (l.length - 1),?_,by rw[Jc];omega,fun x hx=>List.mem_of_mem_drop hx⟩;have e:HT.sIx (l.map f).length 0 (some (-1))=l.length - 1:=by
  unfold HT.sIx;rw[rS];simp;omega
 unfold cz;rw[e,HT.eW,rS,J1];exact List.take_of_length_le (by rw[Jc,rS];omega)
theorem sW{α:Type}(f:α->PV)(l:List α):∃m:List α,cz (l.map f) none (some 1)=m.map f/\m.length≤1/\∀x∈m,x∈l:=by
 refine⟨l.take 1,?_,by rw[Iu];omega,fun x hx=>List.mem_of_mem_take hx⟩;unfold cz;rw[HT.eW,show(1:Int)=((1:Nat):Int)from rfl,HT.iY,List.drop_zero,rS,List.map_take,Nat.sub_zero];rcases Nat.lt_or_ge l.length 1 with h | h
 ·have:l=[]:=IW.mp (by omega);subst this;rfl
 ·rw[Nat.min_eq_left h]
def gy:Sp':=fun vs H Q _=>match vs with
 | [.int c,.tup l]=>∃L:List Int,l=L.map PV.int/\(Nms c L->Q (.bl true) H)/\(¬Nms c L->Q (.bl false) H)
 | _=>False
theorem yB{c:Int}{l:List PV}{H:PHp}{Q:VK'}{E:XK'}:gy [.int c,.tup l] H Q E=(∃L:List Int,l=L.map PV.int/\(Nms c L->Q (.bl true) H)/\(¬Nms c L->Q (.bl false) H)):=rfl
def fG:Sp':=fun vs H Q _=>match vs with
 | [.tup l,.tup m]=>∃A B:List Int,l=A.map PV.int/\m=B.map PV.int/\A.length≤1000/\∀b:Bool,(b=true↔(A.length<B.length/\∀x∈A,x∈B))->Q (.bl b) H
 | _=>False
theorem wm{l m:List PV}{H:PHp}{Q:VK'}{E:XK'}:fG [.tup l,.tup m] H Q E=(∃A B:List Int,l=A.map PV.int/\m=B.map PV.int/\A.length≤1000/\∀b:Bool,(b=true↔(A.length<B.length/\∀x∈A,x∈B))->Q (.bl b) H):=rfl
def fx(t:Ad):Sp':=fun vs H Q _=>match vs with
 | [.ref x,.tup l,.tup m]=>∃c ts bs,∃N S:List Int,Dr t H x c ts bs/\OkD c ts bs/\l=N.map PV.int/\m=S.map PV.int/\Nms c N/\∀b:Bool,(b=true↔sI ts S N)->Q (.bl b) H
 | _=>False
theorem uO{x:Addr}{l m:List PV}{H:PHp}{Q:VK'}{E:XK'}:fx t [.ref x,.tup l,.tup m] H Q E=(∃c ts bs,∃N S:List Int,Dr t H x c ts bs/\OkD c ts bs/\l=N.map PV.int/\m=S.map PV.int/\Nms c N/\∀b:Bool,(b=true↔sI ts S N)->Q (.bl b) H):=rfl
def gN(t:Ad):Sp':=fun vs H Q _=>match vs with
 | [.ref x,.tup s,.tup l]=>∃c ts bs,∃S N:List Int,Dr t H x c ts bs/\OkD c ts bs/\s=S.map PV.int/\l=N.map PV.int/\Nms c S/\N.length≤1000/\∀b:Bool,(b=true↔Vc c ts bs S "up" N)->Q (.bl b) H
 | _=>False
def d5(t:Ad):Sp':=fun vs H Q _=>match vs with
 | [.ref x,.tup s,.tup l]=>∃c ts bs,∃S N:List Int,Dr t H x c ts bs/\OkD c ts bs/\s=S.map PV.int/\l=N.map PV.int/\Nms c S/\N.length≤1000/\∀b:Bool,(b=true↔Vc c ts bs S "lump" N)->Q (.bl b) H
 | _=>False
def gS(t:Ad):Sp':=fun vs H Q _=>match vs with
 | [.ref x,.tup s,v]=>∃c ts bs,∃S:List Int,∃p:Cu,Dr t H x c ts bs/\OkD c ts bs/\s=S.map PV.int/\v=aT p/\Nms c S/\p.2.length≤1000/\∀b:Bool,(b=true↔Vc c ts bs S p.1 p.2)->Q (.bl b) H
 | _=>False
def fB(t:Ad):Sp':=fun vs H Q _=>match vs with
 | [.ref x,.tup l,.tup m]=>∃c ts bs,∃x0 R0,∃cs:List Cu,Dr t H x c ts bs/\OkD c ts bs/\l=(x0::R0).map PV.int/\m=cs.map aT/\(0≤x0/\x0<c)/\cs.length≤100/\(∀q∈cs,q.2.length≤100)/\∀b:Bool,(b=true↔gk c ts bs (x0::R0,cs))->Q (.bl b) H
 | _=>False
def iX(t:Ad):Sp':=fun vs H Q _=>match vs with
 | [.ref x,v,.tup l]=>∃c ts bs,∃A B:List Int,∃rows:List Ro,Dr t H x c ts bs/\OkD c ts bs/\v=qV A B/\l=rows.map br/\Qn c A B/\rows.length≤100/\(∀p∈rows,p.2.length≤100/\∀q∈p.2,q.2.length≤100)/\∀W Ls,∀b:Bool,Wnt c ts bs A B W Ls->Ls.length≤6->(b=true↔Lets c ts bs Ls rows)->Q (.bl b) H
 | _=>False
def dR:Sp':=fun vs H Q _=>match vs with
 | [.tup l,.int n,.int c]=>∃L:List Int,l=L.map PV.int/\L.length≤40/\(1≤c/\c≤6)/\∀M:List Int,M.length≤L.length+6->Q (.tup (M.map PV.int)) H
 | _=>False
theorem sj{l:List PV}{n c:Int}{H:PHp}{Q:VK'}{E:XK'}:dR [.tup l,.int n,.int c] H Q E=(∃L:List Int,l=L.map PV.int/\L.length≤40/\(1≤c/\c≤6)/\∀M:List Int,M.length≤L.length+6->Q (.tup (M.map PV.int)) H):=rfl
def jc:Sp':=fun vs H Q _=>match vs with
 | [.tup l,.int n,.int c]=>∃(rows:List Ro) (k:Nat),l=rows.map br/\Sz k rows/\k≤34/\(1≤c/\c≤6)/\∀rows2:List Ro,Sz (k+6) rows2->Q (.tup (rows2.map br)) H
 | _=>False
theorem Bk{l:List PV}{n c:Int}{H:PHp}{Q:VK'}{E:XK'}:jc [.tup l,.int n,.int c] H Q E=(∃(rows:List Ro) (k:Nat),l=rows.map br/\Sz k rows/\k≤34/\(1≤c/\c≤6)/\∀rows2:List Ro,Sz (k+6) rows2->Q (.tup (rows2.map br)) H):=rfl
def sumF(N:List Int)(f:PV):PV:=if N=[]then f else .tup [.str "sum",.tup (N.map PV.int),f]
def prodF(l:List PV):PV:=match l with
 | []=>.non
 | f::fs=>fs.foldl (fun a b=>.tup [.str "times",a,b]) f
def c8(n:Int):PV:=.tup [.str "seen",.tup ((ulN n).map PV.int)]
def overF(a b:PV):PV:=.tup [.str "over",a,b]
def jB(n:Int):PV:=overF (c8 (n+1)) (c8 n)
def fU(S:List Int):PV:=prodF (S.map jB)
def eI(S:List Int)(k:Nat)(f:PV):PV:=if k=0 then .tup [.str "one"]else sumF (S.drop k) f
def ir(S:List Int)(f:PV)(k:Nat):PV:=overF (eI S (k+1) f) (eI S k f)
def fX(S N:List Int):List Nat:=(List.range S.length).filter fun k=>decide (S.getD k 0∈N)
def kE(S N:List Int)(f:PV):PV:=prodF ((fX S N).map (ir S f))
def jn(S:List Int)(q:Cu)(f:PV):PV:=if q.1="up" then sumF (S.filter fun y=>!decide (y∈q.2)) f else kE S q.2 f
def yD(p:List Int×PV)(cs:List Cu):List Int×PV:=cs.foldl (fun p q=>(q.2,jn p.1 q p.2)) p
def fQ(S0:List Int)(cs:List Cu):PV:=(yD (S0,fU S0) cs).2
theorem ni:∀(cs:List Cu) (S:List Int) (f:PV),(yD (S,f) cs).1=stA S cs
 | [],S,f=>rfl
 | q::cs,S,f=>by
  show(yD (q.2,jn S q f) cs).1=_;rw[ni cs];unfold stA;rw[List.getLast?_cons];cases cs.getLast?<;>rfl
theorem ia{S0:List Int}{cs:List Cu}{q:Cu}:fQ S0 (cs++[q])=jn (stA S0 cs) q (fQ S0 cs):=by
 unfold fQ;rw[←ni cs S0 (fU S0)];unfold yD;rw[List.foldl_append];rfl
theorem jv{f:PV}{fs:List PV}{g:PV}:prodF (f::(fs++[g]))=.tup [.str "times",prodF (f::fs),g]:=by
 show List.foldl _ f (fs++[g])=_;rw[List.foldl_append];rfl
theorem qg{L:List Int}{n:Nat}:flat (n+1) (.tup (L.map PV.int))=true:=by
 simp only[flat];rw[Ir];intro z hz;obtain⟨p,_,rfl⟩:=Bc.mp hz;simp only[flat]
theorem ju{N:List Int}{f:PV}{n:Nat}(h:flat (n+1) f=true):flat (n+2) (sumF N f)=true:=by
 unfold sumF;split
 ·exact cf (by omega) h
 ·simp only[flat,List.all_cons,List.all_nil,h,Bool.and_true,Bool.true_and];exact qg (n:=n)
theorem ky{a b:PV}{n:Nat}(ha:flat n a=true)(hb:flat n b=true):flat (n+1) (overF a b)=true:=by
 unfold overF;simp only[flat,List.all_cons,List.all_nil,ha,hb,Bool.and_true]
theorem kQ{n:Nat}:∀(fs:List PV) (a:PV) (k:Nat),n≤k->flat k a=true->(∀f∈fs,flat n f=true)->flat (k+fs.length) (fs.foldl (fun a b=>PV.tup [.str "times",a,b]) a)=true
 | [],a,k,_,h,_=>h
 | f::fs,a,k,nk,h,hf=>by
  have:=kQ fs (PV.tup [.str "times",a,f]) (k+1) (by omega) (by
   have h2:=cf nk (hf f xP);simp only[flat,List.all_cons,List.all_nil,h,h2,Bool.and_true]) fun g hg=>hf g (Bo _ hg)
  rw[Ih,show k+(fs.length+1)=k+1+fs.length by omega];exact this
theorem hV{l:List PV}{n m:Nat}(h:∀f∈l,flat n f=true)(hm:l.length≤m):flat (n+m) (prodF l)=true:=by
 cases l with
 | nil=>exact cf (Jk _) (show flat 0 PV.non=true by simp only[flat])
 | cons f fs=>exact cf (by rw[Ih]at hm;omega) (kQ fs f n (yi _) (h f xP) fun g hg=>h g (Bo _ hg))
theorem ki{n:Int}{k:Nat}:flat (k+2) (c8 n)=true:=by
 unfold c8;simp only[flat,List.all_cons,List.all_nil,Bool.and_true,Bool.true_and];exact qg (n:=k)
theorem oY{S:List Int}(h:S.length≤6):flat 9 (fU S)=true:=by
 refine hV (n:=3) (m:=6) (fun f hf=>?_) (by rw[rS];exact h);obtain⟨n,_,rfl⟩:=Bc.mp hf;exact ky ki ki
theorem nB{S:List Int}{k n:Nat}{f:PV}(h:flat (n+1) f=true):flat (n+2) (eI S k f)=true:=by
 unfold eI;split
 ·simp only[flat,List.all_cons,List.all_nil,Bool.and_true]
 ·exact ju h
theorem sv{S:List Int}{q:Cu}{f:PV}{n:Nat}(hS:S.length≤6)(h:flat (n+1) f=true):flat (n+9) (jn S q f)=true:=by
 unfold jn;split
 ·exact cf (by omega) (ju h)
 ·refine hV (n:=n+3) (m:=6) (fun g hg=>?_) ?_
  ·obtain⟨k,_,rfl⟩:=Bc.mp hg;exact ky (nB h) (nB h)
  ·rw[rS];exact IC (IZ _ _) (by rw[IM];exact hS)
theorem iQ{c:Int}{ts bs:List P2}{S0:List Int}{cs:List Cu}(h:dq c ts bs S0 cs)(h0:S0.length≤6):∀j,j≤cs.length->j+(stA S0 (cs.take j)).length≤6/\flat (9+8*j) (fQ S0 (cs.take j))=true
 | 0,_=>⟨by rw[List.take_zero];show 0+S0.length≤6;omega,by rw[List.take_zero];exact oY h0⟩
 | j+1,hj=>by
  have hx:cs[j]?=some cs[j]:=sH (by omega);have v:=h j _ hx;obtain⟨l,f⟩:=iQ h h0 j (by omega);have lt:=v.lt;rw[IG,hx];show j+1+(stA S0 (cs.take j++[cs[j]])).length≤6/\flat (9+8*(j+1)) (fQ S0 (cs.take j++[cs[j]]))=true;rw[dc,ia];refine⟨by omega,?_⟩;have:=sv (S:=stA S0 (cs.take j)) (q:=cs[j]) (n:=8+8*j) (by omega) (by rw[show 8+8*j+1=9+8*j by omega];exact f);rw[show 9+8*(j+1)=8+8*j+9 by omega];exact this
theorem vc{c:Int}{ts bs:List P2}{S0:List Int}{cs:List Cu}(h:dq c ts bs S0 cs)(h0:S0.length≤6):flat 49 (fQ S0 cs)=true:=by
 obtain⟨l,f⟩:=iQ h h0 cs.length (yi _);rw[Iy]at l f;refine cf ?_ f;rcases Nat.eq_zero_or_pos cs.length with e | e
 ·omega
 ·have hx:cs[cs.length - 1]?=some cs[cs.length - 1]:=sH (by omega);have v:=h _ _ hx;have ne:(stA S0 cs).length≠0:=by
   unfold stA;rw[List.getLast?_eq_getElem?,hx];exact fun z=>v.ne (IW.mp z)
  omega
def RF(c:Int)(bs:List P2)(p:Ro)(f:PV):Prop:=∃x0 S0,p.1.head?=some x0/\LA bs (ulN c) x0 S0/\f=fQ S0 p.2
structure RFs (c:Int) (bs:List P2) (rows:List Ro) (Fs:List PV):Prop where
 len:Fs.length=rows.length
 rf:∀(i:Nat) (p:Ro) (f:PV),rows[i]?=some p->Fs[i]?=some f->RF c bs p f
theorem RFs.one{c:Int}{bs:List P2}{rows:List Ro}{Fs Gs:List PV}(h:RFs c bs rows Fs)(g:RFs c bs rows Gs):Fs=Gs:=by
 refine List.ext_getElem (h.len.trans g.len.symm) fun i h1 h2=>?_;have hi:i<rows.length:=by rw[←h.len];exact h1
 obtain⟨x,S,a1,a2,a3⟩:=h.rf i _ _ (sH hi) (sH h1);obtain⟨y,T,b1,b2,b3⟩:=g.rf i _ _ (sH hi) (sH h2);rw[a1]at b1;cases b1;rw[a3,b3,a2.one b2]
theorem RFs.snoc{c:Int}{bs:List P2}{rows:List Ro}{Fs:List PV}{i:Nat}{p:Ro}{f:PV}(h:RFs c bs (rows.take i) Fs)(hp:rows[i]?=some p)(hf:RF c bs p f):RFs c bs (rows.take (i+1)) (Fs++[f]):=by
 have e:rows.take (i+1)=rows.take i++[p]:=by rw[IG,hp];rfl
 have li:=h.len;refine⟨by rw[e,wW,wW,li];rfl,fun j q g hq hg=>?_⟩;rw[e]at hq;rcases Nat.lt_or_ge j Fs.length with hj | hj
 ·rw[Ja hj]at hg;rw[Ja (by omega)]at hq;exact h.rf j q g hq hg
 ·rw[Jf hj]at hg;rw[Jf (by omega)]at hq;rw[←li]at hq;cases k:j - Fs.length with
  | zero =>
   rw[k]at hq hg;cases hq;cases hg;exact hf
  | succ n=>rw[k]at hg;simp at hg
theorem RFs.flat{c:Int}{ts bs:List P2}{A B W:List Int}{Ls:List (List Int)}{rows:List Ro}{Fs:List PV}{N:List Int}(h:RFs c bs rows Fs)(wn:Wnt c ts bs A B W Ls)(le:Lets c ts bs Ls rows)(l6:Ls.length≤6)(c6:c≤6):U.flat 60 (sumF N (prodF Fs))=true:=by
 refine cf (show 56≤60 by omega) (ju (n:=54) (hV (n:=49) (m:=6) (fun f hf=>?_) ?_))
 ·obtain⟨i,hi⟩:=List.getElem?_of_mem hf;have hil:i<rows.length:=by have:=(vM.mp hi).1;rw[h.len]at this;exact this
  have hm:rows[i]∈rows:=Ii hil;obtain⟨x,S,a1,a2,rfl⟩:=h.rf i _ _ (sH hil) hi;have hL:rows[i].1∈Ls:=by rw[←le.1];exact Bc.mpr ⟨_,hm,rfl⟩
  have hx:x∈rows[i].1:=List.mem_of_mem_head? (by rw[a1];rfl);have xu:=b0.mpr ((wn.cn hL hx).nms.lo x hx);exact vc (le.2 _ hm x S a1 a2).1 ((a2.nms dD xu).len c6)
 ·rw[h.len];have:=congrArg List.length le.1;rw[rS]at this;omega
theorem Wnt.nn{c:Int}{ts bs:List P2}{A B W:List Int}{Ls:List (List Int)}(wn:Wnt c ts bs A B W Ls)(ne:B≠[]):Ls≠[]:=by
 obtain⟨b,B',rfl⟩:=Jg ne;have hb:b∈W:=(wn.iff b).mpr (.base xP);intro e;obtain⟨M,hM,_⟩:=lZ wn.lm b hb;rw[e]at hM;cases hM
theorem pW{m:Nat}{g:PV->PV}:((b7 0 m).filter (fun _=>true)).map g=(List.range m).map fun k=>g (.int ((k:Nat):Int)):=by
 rw[Ji.mpr (fun _ _=>rfl)];unfold b7;rw[IV];refine List.map_congr_left fun k _=>?_;show g (.int (0+((k:Nat):Int)))=_;rw[Int.zero_add]
def jS(f:Int->PV)(y:PV):PV:=match y with | .int n=>f n | _=>.non
theorem jd{m:Nat}{f:Nat->PV}{n:Int}(h0:0≤n)(h1:n<m):atI ((List.range m).map f) n=some (f n.toNat):=by
 obtain⟨k,rfl⟩:∃k:Nat,n=(k:Nat):=⟨n.toNat,by omega⟩;rw[eC (by rw[rS,IM];omega),Il,List.getElem_range];rfl
theorem ints_map{L:List Int}{f:Int->PV}:((L.map PV.int).filter (fun _=>true)).map (jS f)=L.map f:=by
 rw[Ji.mpr (fun _ _=>rfl),IV];rfl
def kc(S:List Int):List PV:=(List.range S.length).map fun k:Nat=>.tup [.int ((k:Nat):Int),.int (S.getD k 0)]
theorem tW{S:List Int}:iw (S.map PV.int)=kc S:=by
 unfold iw kc;refine List.ext_getElem (by simp) fun i h1 h2=>?_;have hi:i<S.length:=by simpa using h1
 rw[List.getElem_mapIdx,Il,Il,List.getElem_range,wJ,sH hi];rfl
theorem uf{S:List Int}{y:PV}(h:y∈kc S):∃k:Nat,k<S.length/\y=.tup [.int ((k:Nat):Int),.int (S.getD k 0)]:=by
 obtain⟨k,hk,rfl⟩:=Bc.mp h;exact⟨k,ID.mp hk,rfl⟩
def ifP(N:List Int)(y:PV):Bool:=match y with | .tup [_,.int n]=>decide (n∈N) | _=>false
def fsP(y:PV):PV:=match y with | .tup [k,_]=>k | _=>.non
theorem zk{S N:List Int}:((kc S).filter (ifP N)).map fsP=(fX S N).map fun k:Nat=>PV.int ((k:Nat):Int):=by
 unfold kc fX;rw[List.filter_map,IV];rfl
theorem pZ{S N:List Int}{x:Int}(hx:x∈S)(hN:x∈N):∃k ks,fX S N=k::ks:=by
 obtain⟨i,hi⟩:=List.getElem?_of_mem hx;have hl:=(vM.mp hi).1;refine Jg (List.ne_nil_of_mem (a:=i) ?_);unfold fX;refine Io.mpr ⟨ID.mpr hl,IL ?_⟩;rw[wJ,hi];exact hN
theorem zf{S N:List Int}{k:Nat}(h:k∈fX S N):k<S.length:=ID.mp (Io.mp h).1
theorem nO{S N:List Int}:(fX S N).length≤S.length:=IC (IZ _ _) (by rw[IM];exact yi _)
def lC(S N:List Int)(i:Nat):List Nat:=(List.range i).filter fun k=>decide (S.getD k 0∈N)
theorem uU{S N:List Int}{i:Nat}(h:S.getD i 0∈N):lC S N (i+1)=lC S N i++[i]:=by
 unfold lC;rw[List.range_succ,List.filter_append,List.filter_cons_of_pos (p:=fun k=>decide (S.getD k 0∈N)) (IL h)];rfl
theorem xt{S N:List Int}{i:Nat}(h:S.getD i 0∉N):lC S N (i+1)=lC S N i:=by
 unfold lC;rw[List.range_succ,List.filter_append,List.filter_cons_of_neg (p:=fun k=>decide (S.getD k 0∈N)) (fun q=>h (Jy q)),List.filter_nil,IP]
theorem uz{S N:List Int}{i:Nat}:(lC S N i).length≤i:=IC (IZ _ _) (by rw[IM];exact yi _)
theorem sZ{S:List Int}:(kc S).length=S.length:=by unfold kc;rw[rS,IM]
theorem tV{S:List Int}{i:Nat}{y:PV}(h:(kc S)[i]?=some y):i<S.length/\y=.tup [.int ((i:Nat):Int),.int (S.getD i 0)]:=by
 unfold kc at h;rw[II]at h;obtain⟨k,hk,rfl⟩:=Option.map_eq_some_iff.mp h;obtain⟨hi,e⟩:=vM.mp hk;rw[List.getElem_range]at e;rw[IM]at hi;subst e;exact⟨hi,rfl⟩
theorem ym{S:List Int}{f:PV}{i:Nat}{P:PV->Prop}(h:P (eI S i f)):dJ (atI [sumF (S.drop i) f,.tup [.str "one"]] (b2n (((i:Nat):Int)==0))) P:=by
 unfold eI at h;by_cases e:i=0
 ·subst e;exact h
 ·rw[CI e]at h;rw[show(((i:Nat):Int)==0)=false by simp;omega];exact h
theorem jR{n:Nat}{x:PV}{H:PHp}{k:PV->Prop}(h:flat n x=true):cy x H k=k x:=by
 cases x<;>first | rfl |(cases n<;>simp[flat]at h)
def gu:Sp':=fun vs H Q _=>match vs with
 | [.ref a]=>∃f fs,H a=some (.lst (f::fs))/\fs.length≤100/\Q (prodF (f::fs)) H
 | _=>False
theorem xC{a:Addr}{H:PHp}{Q:VK'}{E:XK'}:gu [.ref a] H Q E=(∃f fs,H a=some (.lst (f::fs))/\fs.length≤100/\Q (prodF (f::fs)) H):=rfl
def gf:Sp':=fun vs H Q _=>match vs with
 | [.ref a]=>∃f fs,H a=some (.lst (f::fs))/\fs.length≤100/\Q (prodF (f::fs)) H
 | _=>False
theorem zl{a:Addr}{H:PHp}{Q:VK'}{E:XK'}:gf [.ref a] H Q E=(∃f fs,H a=some (.lst (f::fs))/\fs.length≤100/\Q (prodF (f::fs)) H):=rfl
def je:Sp':=fun vs H Q _=>match vs with
 | [.tup l,f]=>∃N:List Int,l=N.map PV.int/\Q (sumF N f) H
 | _=>False
theorem C6{l:List PV}{f:PV}{H:PHp}{Q:VK'}{E:XK'}:je [.tup l,f] H Q E=(∃N:List Int,l=N.map PV.int/\Q (sumF N f) H):=rfl
def i5:Sp':=fun vs H Q _=>match vs with
 | [v,f]=>∃N:List Int,NmV H v N/\Q (sumF N f) H
 | _=>False
theorem AM{v f:PV}{H:PHp}{Q:VK'}{E:XK'}:i5 [v,f] H Q E=(∃N:List Int,NmV H v N/\Q (sumF N f) H):=rfl
def fD:Sp':=fun vs H Q _=>match vs with
 | [.tup l]=>∃(c:Int) (S:List Int),l=S.map PV.int/\Nms c S/\S≠[]/\c≤6/\Q (fU S) H
 | _=>False
theorem tQ{l:List PV}{H:PHp}{Q:VK'}{E:XK'}:fD [.tup l] H Q E=(∃(c:Int) (S:List Int),l=S.map PV.int/\Nms c S/\S≠[]/\c≤6/\Q (fU S) H):=rfl
def iU:Sp':=fun vs H Q _=>match vs with
 | [.tup l,.int k,f]=>∃(S:List Int) (n:Nat),l=S.map PV.int/\k=(n:Nat)/\Q (eI S n f) H
 | _=>False
theorem Cc{l:List PV}{k:Int}{f:PV}{H:PHp}{Q:VK'}{E:XK'}:iU [.tup l,.int k,f] H Q E=(∃(S:List Int) (n:Nat),l=S.map PV.int/\k=(n:Nat)/\Q (eI S n f) H):=rfl
def gc:Sp':=fun vs H Q _=>match vs with
 | [.tup l,.tup m,f]=>∃S N:List Int,l=S.map PV.int/\m=N.map PV.int/\S.length≤6/\N.length≤6/\(∃x∈S,x∈N)/\Q (kE S N f) H
 | _=>False
theorem y8{l m:List PV}{f:PV}{H:PHp}{Q:VK'}{E:XK'}:gc [.tup l,.tup m,f] H Q E=(∃S N:List Int,l=S.map PV.int/\m=N.map PV.int/\S.length≤6/\N.length≤6/\(∃x∈S,x∈N)/\Q (kE S N f) H):=rfl
def iW(t:Ad):Sp':=fun vs H Q _=>match vs with
 | [.ref x,.tup l,.tup m]=>∃c ts bs,∃x0 R0,∃cs:List Cu,Dr t H x c ts bs/\OkD c ts bs/\l=(x0::R0).map PV.int/\m=cs.map aT/\(0≤x0/\x0<c)/\gk c ts bs (x0::R0,cs)/\∀S0:List Int,LA bs (ulN c) x0 S0->Q (fQ S0 cs) H
 | _=>False
def d0:Sp':=fun vs H Q _=>match vs with
 | [.ref a,.tup l,.tup m]=>∃c ts bs,∃x0 R0,∃cs:List Cu,Shp H a c ts bs/\OkS c ts bs/\l=(x0::R0).map PV.int/\m=cs.map aT/\(0≤x0/\x0<c)/\gk c ts bs (x0::R0,cs)/\∀S0:List Int,LA bs (ulN c) x0 S0->Q (fQ S0 cs) H
 | _=>False
def iR(t:Ad):Sp':=fun vs H Q E=>match vs with
 | [.ref x,v,.tup l]=>∃c ts bs,∃A B:List Int,∃rows:List Ro,Dr t H x c ts bs/\OkD c ts bs/\v=qV A B/\l=rows.map br/\Qn c A B/\rows.length≤100/\(∀p∈rows,p.2.length≤100/\∀q∈p.2,q.2.length≤100)/\∀W Ls,Wnt c ts bs A B W Ls->Ls.length≤6->(Lets c ts bs Ls rows->∀Fs,RFs c bs rows Fs->Q (sumF (W.filter fun y=>!decide (y∈B)) (prodF Fs)) H)/\(¬Lets c ts bs Ls rows->∀H1,U.Sub H H1->E (.ref t.a_A) none H1)
 | _=>False
def f9:Sp':=fun vs H Q _=>match vs with
 | [.ref a,v,.tup l]=>∃c ts bs,∃A B W Ls,∃rows:List Ro,Shp H a c ts bs/\OkS c ts bs/\v=qV A B/\l=rows.map br/\Qn c A B/\rows.length≤100/\(∀p∈rows,p.2.length≤100/\∀q∈p.2,q.2.length≤100)/\Wnt c ts bs A B W Ls/\Lets c ts bs Ls rows/\∀Fs,RFs c bs rows Fs->Q (sumF (W.filter fun y=>!decide (y∈B)) (prodF Fs)) H
 | _=>False
def gm(t:Ad):Sp':=fun vs H Q _=>match vs with
 | [.ref a]=>H a=some (.exc t.a_A)/\Q (.str "BadPaper") H
 | _=>False
theorem zu{a:Addr}{H:PHp}{Q:VK'}{E:XK'}:gm t [.ref a] H Q E=(H a=some (.exc t.a_A)/\Q (.str "BadPaper") H):=rfl
def uBs:List TE'->TA'
 | []=>B8
 | te::r=>tq te (uBs r)
def AllB(σ:St')(H:PHp):List TE'->List Bool->Prop
 | [],[]=>True
 | te::r,b::bs=>IsV σ H te b/\AllB σ H r bs
 | _,_=>False
theorem tY{σ:St'}{H:PHp}:∀{l:List TE'} {bs:List Bool} {Q:List PV->PHp->Prop},AllB σ H l bs->Q (bs.map PV.bl) H->uBs l σ H Q
 | [],[],Q,_,q=>q
 | te::r,b::bs,Q,⟨h,hr⟩,q=>by
  show te σ H fun v H1=>_;refine h _ ?_;exact tY (Q:=fun vs H'=>Q (.bl b::vs) H') hr q
theorem y9{H:PHp}{a:Addr}{l:List TE'}{bs:List Bool}{R:TS'}{D:di}{o x:Option PV}(hv:AllB [some (.ref a),o,x] H l bs)(hl:bs.length≤30)
  (h:∀q H',U.Sub H H'->H' q=some (.lst (bs.map PV.bl))->R D [some (.ref a),some (.ref q),x] H'):qY (nF (xB (uBs l)) (gi 1)) R D [some (.ref a),o,x] H:=by
 show uBs l _ H fun xs H1=>_;exact tY hv ⟨ag (by rw[rS];omega),fun q hq=>h q _ ((Sub.refl H).put hq) aj⟩
theorem ik{H:PHp}{a q:Addr}{l:List TE'}{cs bs:List Bool}{R:TS'}{D:di}{x:Option PV}(hq:H q=some (.lst (cs.map PV.bl)))(hv:AllB [some (.ref a),some (.ref q),x] H l bs)(hl:bs.length≤30/\cs.length≤30)
  (h:∀r H',U.Sub H H'->H' r=some (.lst ((cs++bs).map PV.bl))->R D [some (.ref a),some (.ref r),x] H'):qY (nF (uOp rZ (cU 1) (xB (uBs l))) (gi 1)) R D [some (.ref a),some (.ref q),x] H:=by
 show uBs l _ H fun xs H1=>_;refine tY hv ⟨ag (by rw[rS];omega),fun p hp=>?_⟩;refine⟨_,_,(aq (ax hq hp)).trans hq,aj,ag (by rw[rS,rS];omega),fun r hr=>?_⟩;have sa:=(Sub.refl H).put (o:=.lst (bs.map PV.bl)) hp;refine h r _ (sa.put (sa.free hr)) ?_;rw[Ie];exact aj
def b01(y:PV):PV:=match y with
 | .bl b=>.int (if b then 1 else 0)
 | z=>z
end
section
variable {P:Program}{w:World}{K:PySem.W.Frag}{mg:Str->Option Value}{base:Heap}{t:Ad}
local macro_rules | `(tactic| ac_rfl) => `(tactic| simp only [Dz,Eh,uOp,uI,uI0,uIx,cU,uC,qY,nF,gi,DZ,AA,zQ,m6,CV,Dy,uOr,Ek,Ab,FJ,EY,uIf,uUn,B8,tq,DG,xB,uCB,DP,Fp,DI,Ap,vt,wq,qe,zO,tI,jt,Ej,pY,ED,FY,ue,G4,vI,FE,zY,GB,FL,He,qm,HH,Gj,FC,rZ,Hh,Hk,nE,GG,Gq,Aw,GL,EA,El,vp,HL,qL,Fq,Av,Fx,FK,Ak,GX,E4,FZ,Hq,EM,F9,qa,GY,mH,Fz,Eo,Ge,mQ,Gh,uEn,FA,EK,BZ,F4,vq,z0,DD,EW,HP,xIf,Ef,DY,Ew,BX,zV,Dq,EV,BT.sub,BT.nm,HG,Gz,Dt,ends,Ci,E7,fb,flat,deq,dm,w_V,w_B,w_I,w_O,Gy,FN,Hu,HQ,Fw,GS,Ga,G2,Gu,Hc,GP,Gk,Hx,GO,Fv,GI,F2,HZ,GF,Gr,Gi,HA,Hf,HW,Hy,w_1,Fm,HN,G0,GD,HE,Hl,Bt,De,Dg,FV,E3,GU,DK,HB,FU,GH,EO,DO,yd,List.map_nil,Ih,List.length_nil,Nat.reduceAdd,Nat.reduceSub,Nat.add_sub_cancel,Nat.sub_self,Nat.zero_add,List.replicate_succ,List.replicate_zero,List.cons_append,List.nil_append,IP,List.getElem?_cons_zero,List.getElem?_cons_succ,List.set_cons_zero,List.set_cons_succ,v8,wR,List.all_cons,List.all_nil,Bool.and_self,Bool.and_true,Bool.true_and,Bool.not_true,Bool.not_false,true_and,and_true,aj,Option.some.injEq,PO.lst.injEq,exists_eq_left',Int.zero_add,uX,oq,Di,pJ,ra,C2,qQ,Dm,pN,fF,gz,Cv,B9,rj,n5,m9,x5,yS,Dx,oo,sJ,gX,uV,gC,vo,iT,fA,jf,gI,qU,fY,fo,fy,yq,yB,wm,uO,gN,d5,gS,fB,iX,sj,Bk,xC,zl,C6,AM,tQ,Cc,y8,iW,d0,iR,f9,zu])
local macro_rules | `(tactic| eq_refl) => `(tactic| first | exact Or.inl rfl | exact Or.inr rfl)
theorem Hi(T:Tx K mg t):aO P w K mg base CX0 1 t.a_zZ t.d_zZ ["count","pair"] fw:=by
 refine okU (k:=0) T.F_zZ Em (fun vs H Q E h=>by
  unfold fw at h;split at h
  ·rfl
  ·exact h.elim) (fun cdv A outer s H E B hr=>⟨_,(ai (aA (ip (cg (aQ hr.units) aU (aH aD bh rfl T.b_len Im (aa (qv 1) ae)) ah (az _)) (ij (rN vQ vS fg eO fg eO ah (aG (qv 1) ah (fun _ _=>rfl)) (aG (qv 1) ah (fun _ _=>rfl)) (qv 0)))))),?_⟩)
 intro vs H Q E h;unfold fw at h;split at h
 ·rename_i c u v;obtain⟨⟨h1,h2,h3⟩,h⟩:=h;ac_rfl;exact aE rfl (aE (by simpa using h1) (aE (by simpa using h2) ⟨H,Sub.refl _,by rw[IL h3];exact h⟩))
 ·exact h.elim
theorem Dw(T:Tx K mg t):aO P w K mg base CX0 2 t.a_zQ t.d_zQ ["count","pairs"] dw:=by
 refine okU (k:=1) T.F_zQ E5 (fun vs H Q E h=>by
  unfold dw at h;split at h
  ·rfl
  ·exact h.elim) (fun cdv A outer s H E B hr=>⟨_,(ai (aA (ip (aH (jP rfl) o3 rfl T.b_all boot_all (aa (bx (N2:=["pair","count"]) (nt:=1) (js:=[0]) (ck (sc:=ak xQ)) rfl (aN (qv 1)) (fun s0 H0 fp ps=>⟨(au (i:=0) (show List.Nodup (["pair","count"]:List Str) by decide +kernel) rfl (by eq_refl)),bO,(ar (Hi T) (hr.mono (by decide)) rfl T.g_zZ T.F_zZ.kp T.B_zZ (aa (qv 1) (aa (qv 0) ae)))⟩)) ae)) (ij (cg (aQ hr.units) aU (oB rfl hr.units rfl T.b_len rfl T.b_set boot_set (qv 1)) (aH aD bh rfl T.b_len Im (aa (qv 1) ae)) (az _)))))),?_⟩)
 intro vs H Q E h;unfold dw at h;split at h
 ·rename_i c a;obtain⟨ps,ha,gd,hc,h⟩:=h;have h15:=gd.len hc;ac_rfl;refine⟨_,ha,fun acc hacc=>?_⟩;have hna:=ax ha hacc;refine aJ (fun _=>.bl true) (fun _=>true) (fun σ=>∃x,σ=[x,some (.int c)]) (by rw[rS];omega) (fun l=>(aq hna).trans ha) ?step ?fin ⟨_,rfl⟩
  case step =>
   rintro y hy l σ R ⟨x,rfl⟩ hl kT kF;obtain⟨p,hp,rfl⟩:=Bc.mp hy;have b:=gd.lo p hp;unfold prV;ac_rfl;exact⟨b,hl,by rw[aI];exact kT rfl _ ⟨_,rfl⟩⟩
  case fin =>
   ac_rfl;refine⟨ps.map fun _=>true,by rw[Ji.mpr (fun _ _=>rfl),IV,IV];rfl,aE (by simp) ⟨ps,(aq hna).trans ha,gd.nd,gd.prs hc,h15,_,(aq hna).trans ha,H,Sub.put (Sub.refl _) hacc,?_⟩⟩;rw[rS,beq_self_eq_true];exact h
 ·exact h.elim
theorem Dl(T:Tx K mg t):aO P w K mg base CX0 3 t.a_zq t.d_zq ["self","count","ties","bows"] (i6 t):=by
 refine okU (k:=2) T.F_zq uF (fun vs H Q E h=>by
  unfold i6 at h;split at h
  ·rfl
  ·exact h.elim) (fun cdv A outer s H E B hr=>⟨_,(af (aS (bu (dH (av fg eO (qv 1) ah (az _)) (dU (av kG kf (qv 1) (mW (v':=.int 6) rfl T.c_MOST_NAMES (fun _=>by simp[RP])) (az _)))))
  cx
  aF)
  (af (cE (i:=4) uF.nd rfl (by eq_refl) (N2:=["tie"]) (nt:=1) (js:=[]) (ck (sc:=ak uE)) rfl (aN (qv 2)) (fun s0 H0 fp ps=>⟨(au (i:=0) (show List.Nodup (["tie"]:List Str) by decide +kernel) rfl (by eq_refl)),bO,(aM aK a9 rfl T.b_tuple Jh (aa (qv 0) ae))⟩))
  (af (aS (dg (cM (ar (Dw T) (hr.mono (by decide)) rfl T.g_zQ T.F_zQ.kp T.B_zQ (aa (qv 1) (aa (qv 4) ae)))))
  cx
  aF)
  (af (cE (i:=5) uF.nd rfl (by eq_refl) (N2:=["bow"]) (nt:=1) (js:=[]) (ck (sc:=ak uE)) rfl (aN (qv 3)) (fun s0 H0 fp ps=>⟨(au (i:=0) (show List.Nodup (["bow"]:List Str) by decide +kernel) rfl (by eq_refl)),bO,(aM aK a9 rfl T.b_tuple Jh (aa (qv 0) ae))⟩))
  (af (aS (dg (cM (ar (Dw T) (hr.mono (by decide)) rfl T.g_zQ T.F_zQ.kp T.B_zQ (aa (qv 1) (aa (qv 5) ae)))))
  cx
  aF)
  (af (aS (av kG kf (aH aD bh rfl T.b_len Im (aa (qv 5) ae)) (mW (v':=.int 6) rfl T.c_MOST_BOWS (fun _=>by simp[RP])) (az _))
  cx
  aF)
  (af (oJ (qv 0) (qv 1) T.cl_D T.nfD_count rfl)
  (af (oJ (qv 0) (aM aK a9 rfl T.b_tuple Jh (aa (aH d8 gU rfl T.b_sorted boot_sorted (aa (qv 4) ae)) ae)) T.cl_D T.nfD_ties rfl)
  (ai (oJ (qv 0) (aM aK a9 rfl T.b_tuple Jh (aa (aH d8 gU rfl T.b_sorted boot_sorted (aa (qv 5) ae)) ae)) T.cl_D T.nfD_bows rfl)))))))))),?_⟩)
 intro vs H Q E h;unfold i6 at h;split at h
 ·rename_i x c a b;obtain⟨dx,ys,zs,ps,qs,hx,ha,hb,ry,rz,gp,gq,⟨c1,c6,q6⟩,h⟩:=h;have hp15:=gp.len c6;have hq15:=gq.len c6;refine ao fun R hR=>?_;ac_rfl;refine aC (by simp;omega) (aC (by simp;omega) ?_);subst hR;refine ao fun R hR=>?_;ac_rfl;refine⟨_,ha,fun p1 hp1=>?_⟩;refine aJ (vH H) (fun _=>true) (fun σ=>∃z,σ=[z]) (by rw[ry.length];omega) (fun l=>(aq (ax ha hp1)).trans ha) ?_ ?_ ⟨_,rfl⟩
  ·rintro y hy l σ R' ⟨z,rfl⟩ hl kT kF;obtain⟨p,hp,row⟩:=wt ry hy;rcases row with rfl |⟨r,rfl,hr⟩
   ·unfold prV;ac_rfl;exact⟨hl,by rw[aI];exact kT rfl _ ⟨_,rfl⟩⟩
   ·rw[jQ hr]at kT;ac_rfl;exact⟨_,(aq (ax hr hp1)).trans hr,hl,by rw[aI];exact kT rfl _ ⟨_,rfl⟩⟩
  rw[Ji.mpr (fun _ _=>rfl),nH ry];subst hR;have sb1:U.Sub H (put H p1 (.lst (ps.map prV))):=Sub.put (Sub.refl _) hp1;refine ao fun R hR=>?_;ac_rfl;refine⟨ps,rfl,gp,c6,?_⟩
  try ac_rfl
  subst hR;have hp1s:put H p1 (.lst (ps.map prV)) p1=some (.lst (ps.map prV)):=aj;have hx1:=sb1 _ _ hx;have hb1:=sb1 _ _ hb;have rz1:=rz.up sb1;generalize put H p1 (.lst (ps.map prV))=H1 at *;refine ao fun R hR=>?_;ac_rfl;refine⟨_,hb1,fun p2 hp2=>?_⟩;refine aJ (vH H1) (fun _=>true) (fun σ=>∃z,σ=[z]) (by rw[rz1.length];omega) (fun l=>(aq (ax hb1 hp2)).trans hb1) ?_ ?_ ⟨_,rfl⟩
  ·rintro y hy l σ R' ⟨z,rfl⟩ hl kT kF;obtain⟨p,hp,row⟩:=wt rz1 hy;rcases row with rfl |⟨r,rfl,hr⟩
   ·unfold prV;ac_rfl;exact⟨hl,by rw[aI];exact kT rfl _ ⟨_,rfl⟩⟩
   ·rw[jQ hr]at kT;ac_rfl;exact⟨_,(aq (ax hr hp2)).trans hr,hl,by rw[aI];exact kT rfl _ ⟨_,rfl⟩⟩
  rw[Ji.mpr (fun _ _=>rfl),nH rz1];subst hR;have sb2:U.Sub H1 (put H1 p2 (.lst (qs.map prV))):=Sub.put (Sub.refl _) hp2;have hp1t:=sb2 _ _ hp1s;have hx2:=sb2 _ _ hx1;have hp2s:put H1 p2 (.lst (qs.map prV)) p2=some (.lst (qs.map prV)):=aj;refine ao fun R hR=>?_;ac_rfl;refine⟨qs,rfl,gq,c6,?_⟩
  try ac_rfl
  subst hR;have sb3:=sb1.trans sb2;generalize put H1 p2 (.lst (qs.map prV))=H2 at *;refine ao fun R hR=>?_;ac_rfl;refine⟨_,hp2s,aC (by rw[rS];simp;omega) ?_⟩;subst hR;refine ao fun R hR=>?_;ac_rfl;refine⟨_,_,hx2,by simp,?_⟩;subst hR;have n1:p1≠x:=fun e=>by subst e;rw[hx2]at hp1t;cases hp1t
  have n2:p2≠x:=fun e=>by subst e;rw[hx2]at hp2s;cases hp2s
  refine ao fun R hR=>?_;ac_rfl;refine⟨ps,(aq n1).trans hp1t,gp.nd,fun p hp=>?_,by omega,fun r1 ts hr1 pt st=>?_⟩
  ·have:=gp.lo p hp;omega
  try ac_rfl
  have nx1:x≠r1:=fun e=>by subst e;rw[aj]at hr1;cases hr1
  refine⟨_,_,(aq nx1).trans aj,Nat.lt_of_le_of_lt jL (by decide),?_⟩;subst hR;have n3:p2≠r1:=fun e=>by subst e;rw[aq n2,hp2s]at hr1;cases hr1
  ac_rfl;refine⟨qs,(aq n2).trans ((aq n3).trans ((aq n2).trans hp2s)),gq.nd,fun p hp=>?_,by omega,fun r2 bs hr2 pb sb=>?_⟩
  ·have:=gq.lo p hp;omega
  try ac_rfl
  have nx2:x≠r2:=fun e=>by subst e;rw[aj]at hr2;cases hr2
  have ul:=fun f v fs=>@jL f v fs;refine⟨_,_,(aq nx2).trans aj,?_,put H x (.ins t.a_D dx (DF c ts bs)),tG ?_ aj,h ts bs pt st pb sb⟩
  ·have l1:=ul "ties" (.tup (ts.map prV)) (kd "count" (.int c) []);have l2:=ul "count" (.int c) [];simp only[List.length_nil]at l2;omega
  ·intro z o hzx hz;have hz2:=sb3 _ _ hz;have z1:z≠r1:=fun e=>by subst e;rw[aq hzx,hz2]at hr1;cases hr1
   have z2:z≠r2:=fun e=>by subst e;rw[aq hzx,aq z1,aq hzx,hz2]at hr2;cases hr2
   rw[aq hzx,aq z2,aq hzx,aq z1,aq hzx];exact hz2
 ·exact h.elim
theorem DE(T:Tx K mg t):aO P w K mg base CX0 1 t.a_za t.d_za ["self","name"] (dB t):=by
 refine okU (k:=0) T.F_za D2 (fun vs H Q E h=>by
  unfold dB at h;split at h
  ·rfl
  ·exact h.elim) (fun cdv A outer s H E B hr=>⟨_,(ai (aS (bu (dH (av fg eO (qv 1) ah (az _)) (dU (av mT nZ (qv 1) (cQ (qv 0) T.cl_D T.nfD_count rfl) (az _)))))
  cx
  aF)),?_⟩)
 intro vs H Q E h;unfold dB at h;split at h
 ·rename_i x n;obtain⟨dx,c,ts,bs,hx,⟨h0,h1⟩,h⟩:=h;ac_rfl;exact aC (by simpa using h0) ⟨_,_,_,hx,rfl,aC (by simpa using h1) ⟨H,Sub.refl _,h⟩⟩
 ·exact h.elim
theorem D1(T:Tx K mg t):aO P w K mg base CX0 2 t.a_zf t.d_zf ["self","name"] (d9 t):=by
 refine okU (k:=1) T.F_zf E8 (fun vs H Q E h=>by
  unfold d9 at h;split at h
  ·rfl
  ·exact h.elim) (fun cdv A outer s H E B hr=>⟨_,(af (a7 (bT (qv 0) T.cl_D T.m_za (DE T) (hr.mono (by decide)) T.B_za (aa (qv 1) ae)))
  (ai (aA (aM aK a9 rfl T.b_tuple Jh (aa (bx (N2:=["tie","name"]) (nt:=1) (js:=[1]) (ck (sc:=ak xi)) rfl (aN (cQ (qv 0) T.cl_D T.nfD_ties rfl)) (fun s0 H0 fp ps=>⟨(au (i:=0) (show List.Nodup (["tie","name"]:List Str) by decide +kernel) rfl (by eq_refl)),(bD (av (aQ hr.units) aU (aG (qv 0) ah (fun _ _=>rfl)) (qv 1) (az _))),(aG (qv 0) ah (fun _ _=>rfl))⟩)) ae))))),?_⟩)
 intro vs H Q E h;unfold d9 at h;split at h
 ·rename_i x n;obtain⟨dx,c,ts,bs,hx,⟨h0,h1⟩,h15,h⟩:=h;ac_rfl;refine⟨⟨_,_,hx,rfl⟩,_,_,_,_,hx,⟨h0,h1⟩,_,_,_,hx,rfl,?_⟩;show ∀acc,H acc=none->_;intro acc hacc;refine aJ g0 (at1 n) (fun σ=>∃z,σ=[z,some (.int n)]) (by rw[rS];omega) (fun _=>trivial) ?step ?fin ⟨_,rfl⟩
  case step =>
   rintro y hy l σ R ⟨z,rfl⟩ hl kT kF;obtain⟨p,hp,rfl⟩:=Bc.mp hy;have e:at1 n (prV p)=decide (p.2=n):=rfl;rw[e]at kT kF;unfold prV at *;ac_rfl;refine a8 (fun q=>?_) (fun q=>?_)
   ·exact⟨hl,by rw[aI];exact kT (by simpa using q) _ ⟨_,rfl⟩⟩
   ·exact kF (by simpa using q) _ ⟨_,rfl⟩
  case fin =>
   refine⟨_,aj,H,Sub.put (Sub.refl _) hacc,?_⟩;rw[src_list];exact h
 ·exact h.elim
theorem uc(T:Tx K mg t):aO P w K mg base CX0 1 t.a_zv t.d_zv ["_law_script","_law_k"] iS:=by
 refine okU (k:=0) T.F_zv Fi (fun vs H Q E h=>by
  unfold iS at h;split at h
  ·rfl
  ·exact h.elim) (fun cdv A outer s H E B hr=>⟨_,(af (aS (av fg eO (qv 1) (aH aD bh rfl T.b_len Im (aa (qv 0) ae)) (az _))
  (ai (aA (aG (qv 0) (qv 1) (fun _ _=>rfl))))
  aF)
  (ai (aA ah))),?_⟩)
 intro vs H Q E h;unfold iS at h;split at h
 ·rename_i l k;obtain⟨⟨h0,h1⟩,ns,rfl,h⟩:=h;ac_rfl;by_cases hk:k<ns.length
  ·refine aE (by rw[rS];simpa using hk) ?_;rw[xA h0 hk];exact⟨H,Sub.refl _,h⟩
  ·refine aC (by rw[rS];simpa using hk) ⟨H,Sub.refl _,?_⟩;rw[wJ,Jm (by omega)]at h;exact h
 ·exact h.elim
theorem E1(T:Tx K mg t):aO P w K mg base CX0 1 t.a_yc t.d_yc ["count","names"] gy:=by
 refine okU (k:=0) T.F_yc pL (fun vs H Q E h=>by
  unfold gy at h;split at h
  ·rfl
  ·exact h.elim) (fun cdv A outer s H E B hr=>⟨_,(af (aw (i:=2) pL.nd rfl (by eq_refl) (eY ah))
  (af (bA Ik rfl (aN (qv 1)) (au (i:=3) pL.nd rfl (by eq_refl))
  (af (aS (bu (dH (av vQ vS (qv 3) (qv 2) (az _)) (dU (av mT nZ (qv 3) (qv 0) (az _)))))
   (ai (aA df))
   aF)
   (ai (aw (i:=2) pL.nd rfl (by eq_refl) (qv 3)))))
  (ai (aA df)))),?_⟩)
 intro vs H Q E h;unfold gy at h;split at h
 ·rename_i c l;obtain⟨L,rfl,hY,hN⟩:=h;ac_rfl;refine bI (fun i σ H2=>∃z k,σ=[some (.int c),some (.tup (L.map PV.int)),some (.int z),k]/\H2=H/\Nms c (L.take i)/\(∀x∈L.take i,x≤z)/\(z=-1∨z∈L.take i)/\-1≤z) ?_ ?_ ⟨-1,none,rfl,rfl,⟨List.Pairwise.nil,by simp⟩,by simp,.inl rfl,by decide⟩
  ·rintro σ H2 ⟨z,k,rfl,rfl,hn,_,_⟩;rw[rS,Iy]at hn;exact⟨trivial,H2,Sub.refl _,hY hn⟩
  ·rintro G i y σ H2 hy ⟨z,k,rfl,rfl,hn,hz,hm,z1⟩ kk;refine⟨trivial,?_⟩;obtain⟨hi,e⟩:=vM.mp hy;rw[rS]at hi;rw[Il]at e;subst e;have tk:L.take (i+1)=L.take i++[L[i]]:=by rw[IG,sH hi];rfl
   have stop:(L[i]≤z∨c≤L[i])->¬Nms c L:=fun h n=>by
    have lo:=n.lo _ (Ii hi);have hzl:z<L[i]:=by
     rcases hm with rfl | hm
     ·omega
     ·obtain⟨j,hj,e⟩:=List.mem_iff_getElem.mp hm;rw[List.getElem_take]at e;rw[Iu]at hj;rw[←e];exact List.pairwise_iff_getElem.mp n.up j i (by omega) hi (by omega)
    omega
   generalize L[i]=y at *;ac_rfl;by_cases h1:y≤z
   ·exact aE (by simp;omega) ⟨H2,Sub.refl _,hN (stop (.inl h1))⟩
   ·refine aC (by simp;omega) ?_;by_cases h2:c≤y
    ·exact aE (by simp;omega) ⟨H2,Sub.refl _,hN (stop (.inr h2))⟩
    ·refine aC (by simp;omega) (kk _ _ ⟨_,_,rfl,rfl,?_,?_,?_,by omega⟩)
     ·rw[tk];refine⟨List.pairwise_append.mpr ⟨hn.up,List.pairwise_singleton _ _,fun a ha b hb=>?_⟩,fun x hx=>?_⟩
      ·rw[xI]at hb;have:=hz a ha;omega
      ·rcases zi.mp hx with hx | hx
       ·exact hn.lo x hx
       ·rw[xI]at hx;omega
     ·intro x hx;rw[tk]at hx;rcases zi.mp hx with hx | hx
      ·have:=hz x hx;omega
      ·rw[xI]at hx;omega
     ·rw[tk];exact .inr (IE _ (xI.mpr rfl))
 ·exact h.elim
theorem ze(T:Tx K mg t):aO P w K mg base CX0 2 t.a_zc t.d_zc ["self","names"] (dO t):=by
 refine okU (k:=1) T.F_zc Eu (fun vs H Q E h=>by
  unfold dO at h;split at h
  ·rfl
  ·exact h.elim) (fun cdv A outer s H E B hr=>⟨_,(ai (aS (dg (cM (ar (E1 T) (hr.mono (by decide)) rfl T.g_yc T.F_yc.kp T.B_yc (aa (cQ (qv 0) T.cl_D T.nfD_count rfl) (aa (qv 1) ae)))))
  cx
  aF)),?_⟩)
 intro vs H Q E h;unfold dO at h;split at h
 ·rename_i x l;obtain⟨c,ts,L,⟨dx,bs,hx⟩,rfl,hL,h⟩:=h;ac_rfl;exact⟨_,_,_,hx,rfl,L,rfl,fun _=>⟨H,Sub.refl _,h⟩,fun n=>absurd hL n⟩
 ·exact h.elim
theorem Ha(T:Tx K mg t):aO P w K mg base CX0 3 t.a_zb t.d_zb ["self","names"] (lD t swp):=by
 refine okU (k:=2) T.F_zb v9 (fun vs H Q E h=>by
  unfold lD at h;split at h
  ·rfl
  ·exact h.elim) (fun cdv A outer s H E B hr=>⟨_,(af (a7 (bT (qv 0) T.cl_D T.m_zc (ze T) (hr.mono (by decide)) T.B_zc (aa (qv 1) ae)))
  (af (aw (i:=2) v9.nd rfl (by eq_refl) (aM cA gx rfl T.b_list boot_list (aa (qv 1) ae)))
  (af (bA Ik rfl (sV rfl T.b_range (aa (eJ (cQ (qv 0) T.cl_D T.nfD_count rfl) ah) (aa (eY ah) (aa (eY ah) ae)))) (au (i:=3) v9.nd rfl (by eq_refl))
  (ai (aS (av (bG hr.units) bC (qv 3) (qv 2) (by with_unfolding_all rfl))
   (ai (a7 (cH PySem.F.slot_list_extend PySem.F.type_list_extend fW lW (qv 2) (aa (bT (qv 0) T.cl_D T.m_zf (D1 T) (hr.mono (by decide)) T.B_zf (aa (qv 3) ae)) ae))))
   aF)))
  (ai (aA (aM aK a9 rfl T.b_tuple Jh (aa (j3 rfl hr.units rfl T.b_sorted rfl T.b_set boot_set (qv 2)) ae))))))),?_⟩)
 intro vs H Q E h;unfold lD at h;split at h
 ·rename_i x l;obtain⟨c,ts,L,⟨dx,bs,hx⟩,rfl,hL,hc,gt,h⟩:=h;have t15:=gt.len hc.2;have l6:=hL.len hc.2;ac_rfl;refine⟨⟨_,_,hx,rfl⟩,c,ts,L,⟨_,_,hx⟩,rfl,hL,fun p hp=>?_⟩;have nxp:=ax hx hp;refine⟨_,_,_,(aq nxp).trans hx,rfl,?_⟩;show -1≤c - 1/\c - 1<1000/\_;refine⟨by omega,by omega,?_⟩;have ei:mB (c - 1) (c - 1+1).toNat=(dlN c).map PV.int:=by
   unfold mB dlN;rw[IV,show c - 1+1=c by omega];rfl
  rw[ei];refine bI (fun i σ H2=>∃k F,σ=[some (.ref x),some (.tup (L.map PV.int)),some (.ref p),k]/\H2=put H p (.lst (F.map PV.int))/\F=((dlN c).take i).foldl (My.cm (ts.map swp)) L/\F.length≤6+15*i) ?_ ?_ ⟨none,L,rfl,rfl,rfl,by omega⟩
  ·rintro σ H2 ⟨k,F,rfl,rfl,hF,hlen⟩;rw[rS,Iy]at hF;refine⟨trivial,?_⟩;ac_rfl;have iff:∀y,y∈F↔My.Reach (ts.map swp) L y:=fun y=>by rw[hF];exact uv gt y
   have lo:∀y∈F,0≤y/\y<c:=fun y hy=>nQ (fun a b e=>tf gt true a b e) hL.lo ((iff y).mp hy);refine⟨F.map Int.toNat,by rw[pU fun y hy=>(by have:=lo y hy;omega)],fun n hn=>?_,fun r ms hr hs hm=>?_⟩
   ·obtain⟨z,hz,rfl⟩:=Bc.mp hn;have:=lo z hz;omega
   ·obtain⟨q1,q2⟩:=r8 hc.2 lo iff hs hm
    try ac_rfl
    refine⟨H,((Sub.refl H).put hp).put (((Sub.refl H).put hp).free hr),?_⟩;have:=h _ q1 q2;rw[IV]at this;exact this
  ·rintro G i y σ H2 hy ⟨k,F,rfl,rfl,hF,hlen⟩ kk;refine⟨trivial,?_⟩;rw[II]at hy;cases hn:(dlN c)[i]? with
   | none=>rw[hn]at hy;cases hy
   | some n =>
    rw[hn]at hy;cases hy;have hnm:=ll.mp (Iw hn);have hil:i<(dlN c).length:=(vM.mp hn).1;have hi6:i<6:=by unfold dlN at hil;rw[rS,IM]at hil;omega
    have hnx:((dlN c).take (i+1)).foldl (My.cm (ts.map swp)) L=My.cm (ts.map swp) F n:=by rw[hZ hn,← hF]
    have hpl:=rO (E:=ts.map swp) (f:=F) (n:=n);rw[rS]at hpl;ac_rfl;refine⟨ay,?_⟩;rw[aX];refine bK (fun hm=>?_) (fun hm=>?_)
    ·have e:My.cm (ts.map swp) F n=F++(ts.filter (fun p=>decide (p.2=n))).map (·.1):=by
      unfold My.cm;rw[Ij hm,mj]
     rw[e]at hnx hpl;refine⟨⟨_,rfl⟩,⟨_,_,(aq nxp).trans hx,rfl⟩,_,_,_,_,(aq nxp).trans hx,hnm,t15,?_⟩
     try ac_rfl
     rw[wW]at hpl;refine⟨ag (by rw[rS,rS];omega),kk _ _ ⟨_,F++(ts.filter (fun p=>decide (p.2=n))).map (·.1),rfl,?_,hnx.symm,?_⟩⟩
     ·rw[aI,Ie]
     ·rw[wW];omega
    ·have e:My.cm (ts.map swp) F n=F:=by
      unfold My.cm;rw[CI hm]
     rw[e]at hnx;exact kk _ _ ⟨_,F,rfl,rfl,hnx.symm,by omega⟩
 ·exact h.elim
theorem HX(T:Tx K mg t):aO P w K mg base CX0 2 t.a_zo t.d_zo ["self","name"] (gh t):=by
 refine okU (k:=1) T.F_zo tT (fun vs H Q E h=>by
  unfold gh at h;split at h
  ·rfl
  ·exact h.elim) (fun cdv A outer s H E B hr=>⟨_,(af (a7 (bT (qv 0) T.cl_D T.m_za (DE T) (hr.mono (by decide)) T.B_za (aa (qv 1) ae)))
  (af (cE (i:=2) tT.nd rfl (by eq_refl) (N2:=["bow","name"]) (nt:=1) (js:=[1]) (ck (sc:=ak tD)) rfl (aN (cQ (qv 0) T.cl_D T.nfD_bows rfl)) (fun s0 H0 fp ps=>⟨(au (i:=0) (show List.Nodup (["bow","name"]:List Str) by decide +kernel) rfl (by eq_refl)),(bD (av (aQ hr.units) aU (aG (qv 0) ah (fun _ _=>rfl)) (qv 1) (az _))),(aG (qv 0) ah (fun _ _=>rfl))⟩))
  (af (cE (i:=3) tT.nd rfl (by eq_refl) (N2:=["bow","name"]) (nt:=1) (js:=[1]) (ck (sc:=ak tD)) rfl (aN (cQ (qv 0) T.cl_D T.nfD_bows rfl)) (fun s0 H0 fp ps=>⟨(au (i:=0) (show List.Nodup (["bow","name"]:List Str) by decide +kernel) rfl (by eq_refl)),(bD (av (aQ hr.units) aU (aG (qv 0) ah (fun _ _=>rfl)) (qv 1) (az _))),(aG (qv 0) ah (fun _ _=>rfl))⟩))
  (ai (aA (aM aK a9 rfl T.b_tuple Jh (aa (de (qv 2) (qv 3)) ae))))))),?_⟩)
 intro vs H Q E h;unfold gh at h;split at h
 ·rename_i x n;obtain⟨dx,c,ts,bs,hx,⟨h0,h1⟩,h15,h⟩:=h;have lf:∀(q:DM.P2->Bool) (g:DM.P2->Int),(((bs.filter q).map g).map PV.int).length≤15:=fun q g=>by
   rw[rS,rS];exact IC (IZ _ _) h15
  ac_rfl;refine⟨⟨_,_,hx,rfl⟩,_,_,_,_,hx,⟨h0,h1⟩,_,_,_,hx,rfl,?_⟩;show ∀acc,H acc=none->_;intro p1 hp1;refine aJ g0 (at1 n) (fun σ=>∃z,σ=[z,some (.int n)]) (by rw[rS];omega) (fun _=>trivial) ?_ ?_ ⟨_,rfl⟩
  ·rintro y hy l σ R ⟨z,rfl⟩ hl kT kF;obtain⟨p,hp,rfl⟩:=Bc.mp hy;have e:at1 n (prV p)=decide (p.2=n):=rfl;rw[e]at kT kF;unfold prV at *;ac_rfl;refine a8 (fun q=>?_) (fun q=>?_)
   ·exact⟨hl,by rw[aI];exact kT (by simpa using q) _ ⟨_,rfl⟩⟩
   ·exact kF (by simpa using q) _ ⟨_,rfl⟩
  rw[src_list];refine⟨_,_,_,(aq (ax hx hp1)).trans hx,rfl,?_⟩;show ∀acc,put H p1 _ acc=none->_;intro p2 hp2;have n12:p1≠p2:=fun e=>by subst e;rw[aj]at hp2;cases hp2
  have sa:=(Sub.refl H).put (o:=.lst (((bs.filter (fun p=>decide (p.2=n))).map (·.1)).map PV.int)) hp1;refine aJ g1 (at0 n) (fun σ=>∃z,σ=[z,some (.int n)]) (by rw[rS];omega) (fun _=>trivial) ?_ ?_ ⟨_,rfl⟩
  ·rintro y hy l σ R ⟨z,rfl⟩ hl kT kF;obtain⟨p,hp,rfl⟩:=Bc.mp hy;have e:at0 n (prV p)=decide (p.1=n):=rfl;rw[e]at kT kF;unfold prV at *;ac_rfl;refine a8 (fun q=>?_) (fun q=>?_)
   ·exact⟨hl,by rw[aI];exact kT (by simpa using q) _ ⟨_,rfl⟩⟩
   ·exact kF (by simpa using q) _ ⟨_,rfl⟩
  rw[jg];have sb:=sa.put (o:=.lst (((bs.filter (fun p=>decide (p.1=n))).map (·.2)).map PV.int)) (sa.free hp2);refine⟨_,_,(aq n12).trans aj,aj,ag (by have a1:=lf (fun p=>decide (p.2=n)) (·.1);have a2:=lf (fun p=>decide (p.1=n)) (·.2);omega),fun p3 hp3=>?_⟩
  try ac_rfl
  refine⟨H,sb.put (sb.free hp3),?_⟩;rw[←Ie];exact h
 ·exact h.elim
theorem HI(T:Tx K mg t):aO P w K mg base CX0 3 t.a_ze t.d_ze ["self","start","names"] (fF t):=by
 refine okU (k:=2) T.F_ze nI (fun vs H Q E h=>by
  unfold fF at h;split at h
  ·rfl
  ·exact h.elim) (fun cdv A outer s H E B hr=>⟨_,(af (aw (i:=3) nI.nd rfl (by eq_refl) (vP (qv 1)))
  (af (aw (i:=4) nI.nd rfl (by eq_refl) (aR (aa (qv 1) ae)))
  (af (jx Ik (av kG kf (aH aD bh rfl T.b_len Im (aa (qv 4) ae)) ah (az _))
  (af (aw (i:=5) nI.nd rfl (by eq_refl) (CG PySem.F.slot_list_pop PySem.F.type_list_pop C0 Co A5 (qv 4)))
   (ai (bA Ik rfl (aN (bT (qv 0) T.cl_D T.m_zo (HX T) (hr.mono (by decide)) T.B_zo (aa (qv 5) ae))) (au (i:=6) nI.nd rfl (by eq_refl))
   (ai (aS (bu (cj (av (bG hr.units) bC (qv 6) (qv 2) (by with_unfolding_all rfl)) (cc (rW hr.units (qv 6) (qv 3)))))
    (af (y6 hr.units (qv 3) (qv 6))
     (ai (a7 (cH IA IB bz bB (qv 4) (aa (qv 6) ae)))))
    aF))))))
  (ai (aA (aM aK a9 rfl T.b_tuple Jh (aa (aH (oP rfl) wK rfl T.b_sorted boot_sorted (aa (qv 3) ae)) ae))))))),?_⟩)
 intro vs H Q E h;unfold fF at h;split at h
 ·rename_i x n l;obtain⟨dx,c,ts,bs,L,hx,rfl,hL,hc,gb,hn,h⟩:=h;have b15:=gb.len hc.2;ac_rfl;intro p hp;rw[aI];refine⟨ag (by decide),fun q hq=>?_⟩;have nxp:=ax hx hp;have npq:p≠q:=fun e=>by subst e;rw[aj]at hq;cases hq
  have nxq:x≠q:=ax ((aq nxp).trans hx) hq;have hq0:H q=none:=((Sub.refl H).put hp).free hq;have kl:∀ks:List Int,ks.Nodup->(∀y∈ks,y∈L)->ks.length≤6:=fun ks h1 h2=>My.dE 6 ks h1 fun y hy=>by have:=hL.lo y (h2 y hy);omega
  refine gD (fun m σ H2=>∃ks ws u v,σ=[some (.ref x),some (.int n),some (.tup (L.map PV.int)),some (.ref p),some (.ref q),u,v]/\H2=put (put H p (dkP ks)) q (.lst (ws.map PV.int))/\Iv (both bs L) L n [] ks ws/\m=2*(6 - ks.length)+ws.length/\m≤11) _ ⟨[n],[n],none,none,rfl,rfl,⟨by simp,by simp,fun y hy=>.base hy,fun y hy=>by rw[xI]at hy;rw[hy];exact hn,fun y hy=>hy,fun a ha hw=>absurd ha hw⟩,rfl,by simp⟩ ?_;rintro m σ H2 ⟨ks,ws,u,v,rfl,rfl,iv,rfl,m11⟩;ac_rfl;rcases List.eq_nil_or_concat ws with rfl |⟨w',y,rfl⟩
  ·refine aC (by simp) ?_;refine⟨ks,(aq npq).trans aj,by have:=kl ks iv.nd iv.inl;omega,fun r ms hr hs hp2=>?_⟩
   try ac_rfl
   have sz:=((Sub.refl H).put (o:=dkP ks) hp).put (o:=.lst (([]:List Int).map PV.int)) hq0;refine⟨H,sz.put (sz.free hr),h ms (My.ix hs (hp2.nodup_iff.mpr iv.nd)) fun y=>hp2.mem_iff.trans (iv.done y)⟩
  ·rw[List.concat_eq_append]at *;have yk:y∈ks:=iv.sub y (by simp);have yl:=hL.lo y (iv.inl y yk);have hxx:∀A B,put (put H p A) q B x=some (.ins t.a_D dx (DF c ts bs)):=fun A B=>(aq nxq).trans ((aq nxp).trans hx);have dl:((w'++[y]).map PV.int).dropLast=w'.map PV.int:=by simp
   refine aE (by simp) ⟨fun σ' H'=>∃ks' ws' u v,σ'=[some (.ref x),some (.int n),some (.tup (L.map PV.int)),some (.ref p),some (.ref q),u,v]/\H'=put (put H p (dkP ks')) q (.lst (ws'.map PV.int))/\Iv (both bs L) L n [] ks' ws'/\2*(6 - ks'.length)+ws'.length<2*(6 - ks.length)+(w'++[y]).length,fun σ' H' y_=>by obtain⟨ks',ws',u,v,e1,e2,e3,e4⟩:=y_;exact ⟨_,e4,ks',ws',u,v,e1,e2,e3,rfl,by omega⟩,(w'++[y]).map PV.int,.int y,rfl,by simp,?_⟩;rw[dl,aI,pN];refine⟨⟨_,_,hxx _ _,rfl⟩,_,_,_,_,hxx _ _,yl,b15,?_⟩;have mb:∀b,b∈(bs.filter (fun p=>decide (p.2=y))).map (·.1)++(bs.filter (fun p=>decide (p.1=y))).map (·.2)↔((y,b)∈bs∨(b,y)∈bs):=fun b=>r9;generalize (bs.filter (fun p=>decide (p.2=y))).map (·.1)++(bs.filter (fun p=>decide (p.1=y))).map (·.2)=Bw at *
   try ac_rfl
   refine bI (fun j σ H3=>∃ks' ws' v,σ=[some (.ref x),some (.int n),some (.tup (L.map PV.int)),some (.ref p),some (.ref q),some (.int y),v]/\H3=put (put H p (dkP ks')) q (.lst (ws'.map PV.int))/\Iv (both bs L) L n [y] ks' ws'/\y∈ks'/\(∀b∈Bw.take j,b∈L->b∈ks')/\2*(6 - ks'.length)+ws'.length≤2*(6 - ks.length)+w'.length) ?_ ?_ ⟨ks,w',v,rfl,rfl,iv.opn,yk,by simp,yi _⟩
   ·rintro σ H3 ⟨ks',ws',v,rfl,rfl,iv',yk',hb,hm⟩;rw[rS,Iy]at hb;refine⟨trivial,ks',ws',_,_,rfl,rfl,iv'.close fun b hb'=>?_,by rw[wW,Ip];omega⟩;have:=b4.mp hb';exact hb b ((mb b).mpr this.2.2) this.2.1
   ·rintro G j y' σ H3 hy ⟨ks',ws',v,rfl,rfl,iv',yk',hb,hm⟩ kk;refine⟨trivial,?_⟩;obtain⟨hj,e⟩:=vM.mp hy;rw[rS]at hj;rw[Il]at e;subst e;have tk:∀b,b∈Bw.take (j+1)->b∈Bw.take j∨b=Bw[j]:=fun b hb=>by
     rw[List.take_succ,sH hj,zi]at hb;exact hb.imp id fun q=>by simpa using q
    have zb:Bw[j]∈Bw:=Ii hj;generalize Bw[j]=z at *;ac_rfl;refine⟨ay,?_⟩;simp only[aX];have pp:put (put H p (dkP ks')) q (.lst (ws'.map PV.int)) p=some (dkP ks'):=(aq npq).trans aj;refine bK (fun m1=>⟨ks',pp,?_⟩) (fun m1=>kk _ _ ⟨ks',ws',_,rfl,rfl,iv',yk',fun b hb' bl=>(tk b hb').elim (fun q=>hb b q bl) (fun q=>absurd (q▸bl) m1),hm⟩);by_cases m2:z∈ks'
    ·exact aC (by simp[m2]) (kk _ _ ⟨ks',ws',_,rfl,rfl,iv',yk',fun b hb' bl=>(tk b hb').elim (fun q=>hb b q bl) (fun q=>q▸m2),hm⟩)
    ·have yz:(y,z)∈both bs L:=b4.mpr ⟨iv'.inl y yk',m1,(mb z).mp zb⟩;have ivn:=iv'.add yk' yz m1 m2;have kn:=kl _ ivn.nd ivn.inl;rw[wW,Ip]at kn;rw[wW,Ip]at m11;have wl:ws'.length≤1000 - 1:=by omega
     have ql:∀A,put (put (put H p (dkP ks')) q (.lst (ws'.map PV.int))) p A q=some (.lst (ws'.map PV.int)):=fun A=>(aq npq.symm).trans aj;refine aE (by simp[m2]) ⟨ks',pp,m2,by omega,⟨_,ql _⟩,_,ql _,aZ (by rw[rS];omega),kk _ _ ⟨ks'++[z],ws'++[z],_,rfl,?_,ivn,IJ _ yk',fun b hb' bl=>(tk b hb').elim (fun q=>IJ _ (hb b q bl)) (fun q=>by rw[q];simp),by rw[wW,wW,Ip];omega⟩⟩;rw[mK npq.symm,aI,aI,Ie];rfl
 ·exact h.elim
theorem Dd(T:Tx K mg t):aO P w K mg base CX0 4 t.a_zm t.d_zm ["self","names"] (gz t):=by
 refine okU (k:=3) T.F_zm mR (fun vs H Q E h=>by
  unfold gz at h;split at h
  ·rfl
  ·exact h.elim) (fun cdv A outer s H E B hr=>⟨_,(af (a7 (bT (qv 0) T.cl_D T.m_zc (ze T) (hr.mono (by decide)) T.B_zc (aa (qv 1) ae)))
  (af (aw (i:=2) mR.nd rfl (by eq_refl) (aR ae))
  (af (aw (i:=3) mR.nd rfl (by eq_refl) (aR ae))
  (af (bA Ik rfl (aN (qv 1)) (au (i:=4) mR.nd rfl (by eq_refl))
  (ai (aS (av (bP hr.units) bC (qv 4) (qv 3) (by with_unfolding_all rfl))
   (af (aw (i:=5) mR.nd rfl (by eq_refl) (bT (qv 0) T.cl_D T.m_ze (HI T) (hr.mono (by decide)) T.B_ze (aa (qv 4) (aa (qv 1) ae))))
    (af (a7 (cH PySem.F.slot_list_extend PySem.F.type_list_extend fW lW (qv 3) (aa (qv 5) ae)))
    (ai (a7 (cH IA IB bz bB (qv 2) (aa (qv 5) ae))))))
   aF)))
  (ai (aA (qv 2))))))),?_⟩)
 intro vs H Q E h;unfold gz at h;split at h
 ·rename_i x l;obtain⟨dx,c,ts,bs,L,hx,rfl,hL,hc,gb,h⟩:=h;have l6:=hL.len hc.2;ac_rfl;refine⟨⟨_,_,hx,rfl⟩,c,ts,L,⟨_,_,hx⟩,rfl,hL,ag (by decide),fun p hp=>⟨ag (by decide),fun q hq=>?_⟩⟩;have nxp:=ax hx hp;have npq:p≠q:=fun e=>by subst e;rw[aj]at hq;cases hq
  have nxq:x≠q:=ax ((aq nxp).trans hx) hq;have hq0:H q=none:=((Sub.refl H).put hp).free hq;refine bI (fun i σ H2=>∃k u told placed,σ=[some (.ref x),some (.tup (L.map PV.int)),some (.ref p),some (.ref q),k,u]/\H2=put (put H p (.lst (told.map tupI))) q (.lst (placed.map PV.int))/\(∀rest,dk (both bs L) ((L.drop i).filter fun y=>!decide (y∈placed)) rest->dk (both bs L) L (told++rest))/\told.length≤i/\(∀M∈told,M.length≤6)/\placed.length≤6*i) ?_ ?_ ⟨none,none,[],[],rfl,rfl,fun rest hr=>by rw[List.drop_zero,Ji.mpr (fun _ _=>by simp)]at hr;exact hr,by simp,by simp,by simp⟩
  ·rintro σ H2 ⟨k,u,told,placed,rfl,rfl,hi,hl,hM,hp6⟩;refine⟨trivial,?_⟩;rw[rS]at hl hi;ac_rfl;rw[JQ]at hi;have:=hi [] .nil;rw[IP]at this;exact⟨_,(Sub.refl _).put ((aq npq.symm).trans hq0),h p told hp this (by omega) hM⟩
  ·rintro G i y σ H2 hy ⟨k,u,told,placed,rfl,rfl,hi,hl,hM,hp6⟩ kk;refine⟨trivial,?_⟩;obtain⟨hil,e⟩:=vM.mp hy;rw[rS]at hil;rw[Il]at e;subst e;have hix:L[i]?=some L[i]:=sH hil;have hmem:L[i]∈L:=Ii hil;generalize L[i]=z at *;ac_rfl;refine⟨ay,?_⟩;simp only[aX];have hxx:put (put H p (.lst (told.map tupI))) q (.lst (placed.map PV.int)) x=some (.ins t.a_D dx (DF c ts bs)):=(aq nxq).trans ((aq nxp).trans hx);by_cases m:z∈placed
   ·refine aC (by simp[m]) (kk _ _ ⟨_,_,told,placed,rfl,rfl,fun rest hr=>hi rest (by rw[ox hix m];exact hr),by omega,hM,by omega⟩)
   ·refine aE (by simp[m]) ⟨⟨_,_,hxx,rfl⟩,_,_,_,_,L,hxx,rfl,hL,hc,gb,hmem,fun M up iff=>?_⟩;have lM:M.length≤6:=My.dE 6 M (up.imp fun h=>by omega) fun y hy=>by
     have:=nQ (yT hL) (fun y hy=>by rw[xI]at hy;rw[hy];exact hL.lo z hmem) ((iff y).mp hy);omega
    obtain⟨t1,t2⟩:=oF (M:=M) hix m;rw[aI];refine⟨⟨_,rfl⟩,ag (by rw[rS,rS];omega),⟨_,(aq npq).trans aj⟩,_,(aq npq).trans aj,aZ (by rw[rS];omega),kk _ _ ⟨_,_,told++[M],placed++M,rfl,?_,fun rest hr=>?_,by rw[wW,Ip];omega,fun M' hM'=>?_,by rw[wW];omega⟩⟩
    ·rw[mK npq.symm,aI,Ie,Ie];rfl
    ·have:=hi (M::rest) (by rw[t1];exact .cons up iff (by rw[t2];exact hr));rw[JI];exact this
    ·rcases zi.mp hM' with h1 | h1
     ·exact hM M' h1
     ·rw[xI]at h1;rw[h1];exact lM
 ·exact h.elim
theorem HM(T:Tx K mg t):aO P w K mg base CX0 5 t.a_zp t.d_zp ["self","names"] (iZ t):=by
 refine okU (k:=4) T.F_zp vW (fun vs H Q E h=>by
  unfold iZ at h;split at h
  ·rfl
  ·exact h.elim) (fun cdv A outer s H E B hr=>⟨_,(af (a7 (bT (qv 0) T.cl_D T.m_zc (ze T) (hr.mono (by decide)) T.B_zc (aa (qv 1) ae)))
  (af (cE (i:=2) vW.nd rfl (by eq_refl) (N2:=["tie","names"]) (nt:=1) (js:=[1]) (ck (sc:=ak vF)) rfl (aN (cQ (qv 0) T.cl_D T.nfD_ties rfl)) (fun s0 H0 fp ps=>⟨(au (i:=0) (show List.Nodup (["tie","names"]:List Str) by decide +kernel) rfl (by eq_refl)),(bD (bu (cj (av (bG hr.units) bC (aG (qv 0) ah (fun _ _=>rfl)) (qv 1) (by with_unfolding_all rfl)) (cc (av (bG hr.units) bC (aG (qv 0) ah (fun _ _=>rfl)) (qv 1) (by with_unfolding_all rfl)))))),(qv 0)⟩))
  (af (cE (i:=3) vW.nd rfl (by eq_refl) (N2:=["bow","names"]) (nt:=1) (js:=[1]) (ck (sc:=ak vF)) rfl (aN (cQ (qv 0) T.cl_D T.nfD_bows rfl)) (fun s0 H0 fp ps=>⟨(au (i:=0) (show List.Nodup (["bow","names"]:List Str) by decide +kernel) rfl (by eq_refl)),(bD (bu (cj (av (bG hr.units) bC (aG (qv 0) ah (fun _ _=>rfl)) (qv 1) (by with_unfolding_all rfl)) (cc (av (bG hr.units) bC (aG (qv 0) ah (fun _ _=>rfl)) (qv 1) (by with_unfolding_all rfl)))))),(qv 0)⟩))
  (ai (aA (pP T.mk_D (Dl T) (hr.mono (by decide)) rfl T.g_D T.B_zq (aa (cQ (qv 0) T.cl_D T.nfD_count rfl) (aa (qv 2) (aa (qv 3) ae))))))))),?_⟩)
 intro vs H Q E h;unfold iZ at h;split at h
 ·rename_i x l;obtain⟨c,ts,bs,L,⟨dx,hx⟩,rfl,ok,hL,h⟩:=h;have t15:=ok.gt.len ok.c6;have b6:=ok.b6;have ok2:=ok.filter (FT 0 L) (FB 0 L);refine ao fun R hR=>?_;ac_rfl;refine⟨⟨_,_,hx,rfl⟩,c,ts,L,⟨_,_,hx⟩,rfl,hL,?_⟩;subst hR;refine ao fun R hR=>?_;ac_rfl;refine⟨_,_,_,hx,rfl,?_⟩;show ∀acc,H acc=none->_;intro p1 hp1;refine aJ (fun y=>y) (onP (FT 0 L)) (fun σ=>∃z,σ=[z,some (.tup (L.map PV.int))]) (by rw[rS];omega) (fun _=>trivial) ?_ ?_ ⟨_,rfl⟩
  ·rintro y hy l σ R' ⟨z,rfl⟩ hl kT kF;obtain⟨p,hp,rfl⟩:=Bc.mp hy;rw[gM]at kT kF;unfold prV at *;ac_rfl;refine⟨ay,?_⟩;simp only[aX];by_cases m1:p.1∈L
   ·refine aE (by simp[m1]) ⟨ay,?_⟩;by_cases m2:p.2∈L
    ·exact aE (by simp[m2]) ⟨hl,by rw[aI];exact kT (by simp[FT,m1,m2]) _ ⟨_,rfl⟩⟩
    ·exact aC (by simp[m2]) (kF (by simp[FT,m1,m2]) _ ⟨_,rfl⟩)
   ·exact aC (by simp[m1]) (kF (by simp[FT,m1]) _ ⟨_,rfl⟩)
  rw[fS];subst hR;have s1:U.Sub H (put H p1 (.lst ((ts.filter (FT 0 L)).map prV))):=(Sub.refl H).put hp1;have i1:put H p1 (.lst ((ts.filter (FT 0 L)).map prV)) p1=some (.lst ((ts.filter (FT 0 L)).map prV)):=aj;generalize put H p1 (.lst ((ts.filter (FT 0 L)).map prV))=H1 at *;have hx1:=s1 _ _ hx;refine ao fun R hR=>?_;ac_rfl;refine⟨_,_,_,hx1,rfl,?_⟩;show ∀acc,H1 acc=none->_;intro p2 hp2;refine aJ (fun y=>y) (onP (FB 0 L)) (fun σ=>∃z,σ=[z,some (.tup (L.map PV.int))]) (by rw[rS];omega) (fun _=>trivial) ?_ ?_ ⟨_,rfl⟩
  ·rintro y hy l σ R' ⟨z,rfl⟩ hl kT kF;obtain⟨p,hp,rfl⟩:=Bc.mp hy;rw[gM]at kT kF;unfold prV at *;ac_rfl;refine⟨ay,?_⟩;simp only[aX];by_cases m1:p.1∈L
   ·refine aE (by simp[m1]) ⟨ay,?_⟩;by_cases m2:p.2∈L
    ·exact aE (by simp[m2]) ⟨hl,by rw[aI];exact kT (by simp[FB,m1,m2]) _ ⟨_,rfl⟩⟩
    ·exact aC (by simp[m2]) (kF (by simp[FB,m1,m2]) _ ⟨_,rfl⟩)
   ·exact aC (by simp[m1]) (kF (by simp[FB,m1]) _ ⟨_,rfl⟩)
  rw[fS];subst hR;have s2:U.Sub H1 (put H1 p2 (.lst ((bs.filter (FB 0 L)).map prV))):=(Sub.refl H1).put hp2;have i2:put H1 p2 (.lst ((bs.filter (FB 0 L)).map prV)) p2=some (.lst ((bs.filter (FB 0 L)).map prV)):=aj;generalize put H1 p2 (.lst ((bs.filter (FB 0 L)).map prV))=H2 at *;have hx2:=s2 _ _ hx1;have j1:=s2 _ _ i1;have s12:=s1.trans s2;ac_rfl;refine⟨_,_,_,hx2,rfl,?_⟩;show ∀y dy,H2 y=none->H2 dy=none->dy≠y->_;intro y dy hy hdy nd;have sc:=(Sub.refl H2).put (o:=.ins t.a_D dy []) hy;refine⟨dy,_,_,_,_,aj,sc _ _ j1,sc _ _ i2,fj,fj,ok2.gt,ok2.gb,⟨ok.c1,ok.c6,ok2.b6⟩,fun T1 B1 pT sT pB sB=>?_⟩;have eT:=DM.jb (JR _) ok2.st pT sT;have eB:=DM.jb (JR _) ok2.sb pB sB;subst eT;subst eB;rw[aI];exact⟨rfl,_,Sub.refl _,h y _ (s12.put (s12.free hy)) ⟨dy,aj⟩⟩
 ·exact h.elim
theorem CU(T:Tx K mg t):aO P w K mg base CX0 1 t.a_zB t.d_zB ["count"] i7:=by
 refine okU (k:=0) T.F_zB Ff (fun vs H Q E h=>by
  unfold i7 at h;split at h
  ·rfl
  ·exact h.elim) (fun cdv A outer s H E B hr=>⟨_,(ai (aA (lJ rfl rfl T.b_tuple rfl T.b_range Jh (qv 0)))),?_⟩)
 intro vs H Q E h;unfold i7 at h;split at h
 ·rename_i c;obtain⟨⟨h0,h1⟩,h⟩:=h;ac_rfl;rw[fO];exact⟨h0,h1,H,Sub.refl _,h⟩
 ·exact h.elim
theorem BU(T:Tx K mg t):aO P w K mg base CX0 1 t.a_zX t.d_zX ["names","others"] dY:=by
 refine okU (k:=0) T.F_zX Fe (fun vs H Q E h=>by
  unfold dY at h;split at h
  ·rfl
  ·exact h.elim) (fun cdv A outer s H E B hr=>⟨_,(ai (aA (aM aK a9 rfl T.b_tuple Jh (aa (bx (N2:=["name","others"]) (nt:=1) (js:=[1]) (ck (sc:=ak xT)) rfl (aN (qv 0)) (fun s0 H0 fp ps=>⟨(au (i:=0) (show List.Nodup (["name","others"]:List Str) by decide +kernel) rfl (by eq_refl)),(bD (av (bP hr.units) bC (qv 0) (qv 1) (by with_unfolding_all rfl))),(qv 0)⟩)) ae)))),?_⟩)
 intro vs H Q E h;unfold dY at h;split at h
 ·rename_i l m;obtain⟨A,B,rfl,rfl,hl,h⟩:=h;ac_rfl;show ∀acc,H acc=none->_;intro acc hacc;refine aJ (fun y=>y) (onI fun y=>!decide (y∈B)) (fun σ=>∃z,σ=[z,some (.tup (B.map PV.int))]) (by rw[rS];exact hl) (fun _=>trivial) ?_ ?_ ⟨_,rfl⟩
  ·rintro y hy l σ R ⟨z,rfl⟩ hl kT kF;obtain⟨k,hk,rfl⟩:=Bc.mp hy;have e:onI (fun y=>!decide (y∈B)) (PV.int k)=!decide (k∈B):=rfl;rw[e]at kT kF;ac_rfl;refine⟨ay,?_⟩;simp only[aX];by_cases m:k∈B
   ·exact aC (by simp[m]) (kF (by simp[m]) _ ⟨_,rfl⟩)
   ·exact aE (by simp[m]) ⟨hl,by rw[aI];exact kT (by simp[m]) _ ⟨_,rfl⟩⟩
  rw[bF];exact⟨_,aj,H,Sub.put (Sub.refl _) hacc,h⟩
 ·exact h.elim
theorem GW(T:Tx K mg t):aO P w K mg base CX0 3 t.a_zP t.d_zP ["drawing","sets"] (du t):=by
 refine okU (k:=2) T.F_zP zP (fun vs H Q E h=>by
  unfold du at h;split at h
  ·rfl
  ·exact h.elim) (fun cdv A outer s H E B hr=>⟨_,(ai (bA Ik rfl (aN (qv 1)) (au (i:=2) zP.nd rfl (by eq_refl))
  (ai (a7 (bT (qv 0) T.cl_D T.m_zc (ze T) (hr.mono (by decide)) T.B_zc (aa (qv 2) ae)))))),?_⟩)
 intro vs H Q E h;unfold du at h;split at h
 ·rename_i x a;obtain⟨c,ts,A,B,⟨dx,bs,hx⟩,ha,hA,hB,h⟩:=h;ac_rfl;refine⟨_,ha,?_⟩;refine bI (fun i σ H2=>∃z,σ=[some (.ref x),some (.ref a),z]/\H2=H) ?_ ?_ ⟨none,rfl,rfl⟩
  ·rintro σ H2 ⟨z,rfl,rfl⟩;exact⟨ha,H2,Sub.refl _,h⟩
  ·rintro G i y σ H2 hy ⟨z,rfl,rfl⟩ kk;refine⟨ha,?_⟩;have hM:∃M:List Int,y=.tup (M.map PV.int)/\Nms c M:=by
    match i,hy with
    | 0,hy=>cases hy;exact⟨A,rfl,hA⟩
    | 1,hy=>cases hy;exact⟨B,rfl,hB⟩
    | i+2,hy=>cases hy
   obtain⟨M,rfl,hM⟩:=hM;ac_rfl;exact⟨⟨_,_,hx,rfl⟩,c,ts,M,⟨_,_,hx⟩,rfl,hM,kk _ _ ⟨_,rfl,rfl⟩⟩
 ·exact h.elim
theorem FO(T:Tx K mg t):aO P w K mg base CX0 1 t.a_zG t.d_zG ["sets"] cV:=by
 refine okU (k:=0) T.F_zG vZ (fun vs H Q E h=>by
  unfold cV at h;split at h
  ·rfl
  ·exact h.elim) (fun cdv A outer s H E B hr=>⟨_,(af (aw (i:=1) vZ.nd rfl (by eq_refl) (aR ae))
  (af (bA Ik rfl (aN (qv 0)) (au (i:=2) vZ.nd rfl (by eq_refl))
  (ai (a7 (cH PySem.F.slot_list_extend PySem.F.type_list_extend fW lW (qv 1) (aa (qv 2) ae)))))
  (ai (aS (av (c7 hr.units) aU (nh rfl rfl T.b_len rfl T.b_set boot_set (qv 1)) (aH aD bh rfl T.b_len Im (aa (qv 1) ae)) (az _))
  cx
  aF)))),?_⟩)
 intro vs H Q E h;unfold cV at h;split at h
 ·rename_i a;obtain⟨c,A,B,ha,hA,hB,hc,ap,h⟩:=h;have lA:=hA.len hc;have lB:=hB.len hc;ac_rfl;refine⟨ag (by decide),fun p hp=>⟨_,(aq (ax ha hp)).trans ha,?_⟩⟩;have nap:=ax ha hp;have hpa:∀o,put H p o a=some (.lst [.tup (A.map PV.int),.tup (B.map PV.int)]):=fun o=>(aq nap).trans ha;have step:∀(M N:List Int),M.length≤6->N.length≤6->((M.map PV.int).length+(N.map PV.int).length≤sizeLine):=fun M N h1 h2=>ag (by rw[rS,rS];omega);refine bI (fun i σ H2=>∃z,σ=[some (.ref a),some (.ref p),z]/\H2=put H p (.lst ((match i with | 0=>[] | 1=>A | _=>A++B).map PV.int))) ?_ ?_ ⟨none,rfl,rfl⟩
  ·rintro σ H2 ⟨z,rfl,rfl⟩;refine⟨hpa _,?_⟩;ac_rfl;have ng:∀y∈A++B,0≤y/\y<6:=fun y hy=>by
    rcases zi.mp hy with q | q
    ·have:=hA.lo y q;omega
    ·have:=hB.lo y q;omega
   have nd:(A++B).Nodup:=List.nodup_append.mpr ⟨hA.nd,hB.nd,fun x hx y hy e=>ap x hx (e▸hy)⟩;refine⟨(A++B).map Int.toNat,by rw[pU ng],fun n hn=>?_,?_,?_⟩
   ·obtain⟨z,hz,rfl⟩:=Bc.mp hn;have:=ng z hz;omega
   ·rw[List.nodup_iff_pairwise_ne,J0];refine List.Pairwise.imp_of_mem (fun {x y} hx hy hxy=>?_) (List.nodup_iff_pairwise_ne.mp nd);have h1:=ng x hx;have h2:=ng y hy;omega
   ·refine aC (by simp) ⟨H,Sub.put (Sub.refl _) hp,h⟩
  ·rintro G i y σ H2 hy ⟨z,rfl,rfl⟩ kk;refine⟨hpa _,?_⟩
   match i,hy with
   | 0,hy =>
    cases hy;ac_rfl;exact⟨⟨_,rfl⟩,ag (by rw[rS];omega),kk _ _ ⟨_,rfl,by rw[aI];rfl⟩⟩
   | 1,hy =>
    cases hy;ac_rfl;exact⟨⟨_,rfl⟩,step A B lA lB,kk _ _ ⟨_,rfl,by rw[aI,← Ie];rfl⟩⟩
   | i+2,hy=>cases hy
 ·exact h.elim
theorem GV(T:Tx K mg t):aO P w K mg base CX0 4 t.a_zk t.d_zk ["drawing","question"] (gR t):=by
 refine okU (k:=3) T.F_zk EG (fun vs H Q E h=>by
  unfold gR at h;split at h
  ·rfl
  ·exact h.elim) (fun cdv A outer s H E B hr=>⟨_,(af (a7 (ar (GW T) (hr.mono (by decide)) rfl T.g_zP T.F_zP.kp T.B_zP (aa (qv 0) (aa (aR (aa (aG (qv 1) ah (fun _ _=>rfl)) (aa (aG (qv 1) ah (fun _ _=>rfl)) ae))) ae))))
  (af (a7 (ar (FO T) (hr.mono (by decide)) rfl T.g_zG T.F_zG.kp T.B_zG (aa (aR (aa (aG (qv 1) ah (fun _ _=>rfl)) (aa (aG (qv 1) ah (fun _ _=>rfl)) ae))) ae)))
  (ai (aS (av (aQ hr.units) aU (aH aD bh rfl T.b_len Im (aa (aG (qv 1) ah (fun _ _=>rfl)) ae)) ah (az _))
  cx
  aF)))),?_⟩)
 intro vs H Q E h;unfold gR at h;split at h
 ·rename_i x v;obtain⟨c,ts,A,B,rfl,⟨dx,bs,hx⟩,hq,hc,h⟩:=h;unfold qV at *;ac_rfl;refine⟨ag (by decide),fun p hp=>⟨c,ts,A,B,⟨dx,bs,(aq (ax hx hp)).trans hx⟩,rfl,hq.a,hq.b,?_⟩⟩;refine⟨ag (by decide),fun q hq'=>⟨c,A,B,rfl,hq.a,hq.b,hc,hq.ap,?_⟩⟩;have s1:=(Sub.refl H).put (o:=.lst [.tup (A.map PV.int),.tup (B.map PV.int)]) hp;have ne:B.length≠0:=fun e=>hq.ne (IW.mp e);refine aC (by simpa using hq.ne) ⟨H,s1.put (s1.free hq'),h⟩
 ·exact h.elim
theorem Fl(T:Tx K mg t):aO P w K mg base CX0 6 t.a_zu t.d_zu ["drawing","question"] (gY t):=by
 refine okU (k:=5) T.F_zu Ac (fun vs H Q E h=>by
  unfold gY at h;split at h
  ·rfl
  ·exact h.elim) (fun cdv A outer s H E B hr=>⟨_,(af (a7 (ar (GV T) (hr.mono (by decide)) rfl T.g_zk T.F_zk.kp T.B_zk (aa (qv 0) (aa (qv 1) ae))))
  (af (aw (i:=2) Ac.nd rfl (by eq_refl) (ar (BU T) (hr.mono (by decide)) rfl T.g_zX T.F_zX.kp T.B_zX (aa (ar (CU T) (hr.mono (by decide)) rfl T.g_zB T.F_zB.kp T.B_zB (aa (cQ (qv 0) T.cl_D T.nfD_count rfl) ae)) (aa (aG (qv 1) ah (fun _ _=>rfl)) ae))))
  (ai (aA (bT (bT (qv 0) T.cl_D T.m_zp (HM T) (hr.mono (by decide)) T.B_zp (aa (qv 2) ae)) T.cl_D T.m_zb (Ha T) (hr.mono (by decide)) T.B_zb (aa (aG (qv 1) ah (fun _ _=>rfl)) ae)))))),?_⟩)
 intro vs H Q E h;unfold gY at h;split at h
 ·rename_i x v;obtain⟨c,ts,bs,A,B,rfl,⟨dx,hx⟩,ok,hq,h⟩:=h;have c1:=ok.c1;have c6:=ok.c6;unfold qV at *;ac_rfl;refine⟨c,ts,A,B,rfl,⟨_,_,hx⟩,hq,c6,?_⟩;refine⟨_,_,_,hx,rfl,⟨by omega,by omega⟩,ulN c,A,rfl,rfl,by unfold ulN;rw[rS,IM];omega,?_⟩;have en:(ulN c).filter (fun y=>!decide (y∈A))=nin c A:=rfl;rw[en];refine⟨⟨_,_,hx,rfl⟩,c,ts,bs,nin c A,⟨dx,hx⟩,rfl,ok,pQ,fun y H1 s1 ⟨dy,hy⟩=>?_⟩;have ok2:=ok.filter (FT 0 (nin c A)) (FB 0 (nin c A));refine⟨⟨_,_,hy,rfl⟩,c,_,B,⟨_,_,hy⟩,rfl,hq.b,⟨c1,c6⟩,ok2.gt,fun M up iff=>⟨H,s1,h M up iff⟩⟩
 ·exact h.elim
theorem uR(T:Tx K mg t):aO P w K mg base CX0 1 t.a_zV t.d_zV ["_law_unit","_law_k"] kZ:=by
 refine okU (k:=0) T.F_zV wF (fun vs H Q E h=>by
  unfold kZ at h;split at h
  ·rfl
  ·exact h.elim) (fun cdv A outer s H E B hr=>⟨_,(af (aS (av mT nZ (qv 0) (hJ ah ah) (az _))
  (ai (aA (eJ (qv 0) (hJ ah ah))))
  aF)
  (af (aw (i:=2) wF.nd rfl (by eq_refl) (bE (qv 0) (hJ ah ah)))
  (af (aw (i:=2) wF.nd rfl (by eq_refl) (bE (h7 (bQ (bQ (h7 (qv 2) (qv 2)) (h7 (h7 ah (qv 1)) (qv 1))) ah) ah) (bQ (hJ ah ah) ah)))
  (ai (aA (bE (h7 (bQ (h7 (qv 2) (qv 2)) (qv 1)) ah) (bQ (hJ ah ah) ah))))))),?_⟩)
 intro vs H Q E h;unfold kZ at h;split at h
 ·rename_i u k;obtain⟨⟨k0,k1⟩,h⟩:=h;ac_rfl;have cp:∀j:Int,0≤j->j≤1000000->uB 10 j:=fun j h1 h2=>⟨h1,h2,by decide⟩;refine⟨cp 18 (by decide) (by decide),a8 (fun _=>⟨cp 18 (by decide) (by decide),H,Sub.refl _,h _⟩) (fun _=>⟨cp 60 (by decide) (by decide),by decide +kernel,?_⟩)⟩;have b60:My.BN 200 (u.fmod (10 ^ Int.toNat 60)):=Ar (by decide +kernel) (show My.BN 200 _ by unfold My.BN;decide +kernel);generalize u.fmod (10 ^ Int.toNat 60)=x at *;refine⟨.inr ⟨b60.fit (by decide),b60.fit (by decide)⟩,.inl (.inl ⟨by decide,by decide⟩),.inl (.inr ⟨by omega,by omega⟩),.inl (.inr ⟨by decide,by decide⟩),cp 18 (by decide) (by decide),by decide +kernel,?_⟩;have b18:My.BN 64 (((x*x+40503*k*k+7919)*1812433253982451697).fmod (10 ^ Int.toNat 18+9)):=Ar (by decide +kernel) (show My.BN 64 _ by unfold My.BN;decide +kernel);generalize ((x*x+40503*k*k+7919)*1812433253982451697).fmod (10 ^ Int.toNat 18+9)=y at *;have bk:My.BN 128 k:=show k.natAbs<2 ^ 128 from Iq (m:=100) (by omega) (by decide);exact⟨.inr ⟨b18.fit (by decide),b18.fit (by decide)⟩,.inr ⟨((b18.mul b18).add bk).fit (by decide),(show My.BN 128 _ by unfold My.BN;decide +kernel).fit (by decide)⟩,cp 40 (by decide) (by decide),by decide +kernel,H,Sub.refl _,h _⟩
 ·exact h.elim
theorem F3(T:Tx K mg t):aO P w K mg base CX0 1 t.a_zw t.d_zw ["_law_number","_law_least","_law_most"] d7:=by
 refine okU (k:=0) T.F_zw iF (fun vs H Q E h=>by
  unfold d7 at h;split at h
  ·rfl
  ·exact h.elim) (fun cdv A outer s H E B hr=>⟨_,(af (aw (i:=3) iF.nd rfl (by eq_refl) (bQ (qv 1) (bE (qv 0) (bQ (eJ (qv 2) (qv 1)) ah))))
  (af (aw (i:=0) iF.nd rfl (by eq_refl) (bN (qv 0) (bQ (eJ (qv 2) (qv 1)) ah)))
  (af (aw (i:=4) iF.nd rfl (by eq_refl) (aR ae))
  (af (aw (i:=5) iF.nd rfl (by eq_refl) (aR ae))
  (af (bA Ik rfl (bW rfl T.b_range (aa (qv 3) ae)) (au (i:=6) iF.nd rfl (by eq_refl))
  (ai (bA Ik rfl (bW rfl T.b_range (aa (qv 6) ae)) (au (i:=7) iF.nd rfl (by eq_refl))
   (af (aS (av (aQ hr.units) aU (bE (bE (qv 0) ah) ah) ah (az _))
    (ai (a7 (cH IA IB bz bB (qv 4) (aa (aW (aa (qv 7) (aa (qv 6) ae))) ae))))
    aF)
    (af (aS (bu (cj (av (aQ hr.units) aU (bN (bE (qv 0) ah) ah) ah (az _)) (cc (av fg eO (aH aD bh rfl T.b_len Im (aa (qv 5) ae)) ah (az _)))))
    (ai (a7 (cH IA IB bz bB (qv 5) (aa (aW (aa (qv 7) (aa (qv 6) ae))) ae))))
    aF)
    (ai (aw (i:=0) iF.nd rfl (by eq_refl) (bN (qv 0) ah))))))))
  (ai (aA (aR (aa (qv 3) (aa (aH d8 gU rfl T.b_sorted boot_sorted (aa (qv 4) ae)) (aa (aH d8 gU rfl T.b_sorted boot_sorted (aa (qv 5) ae)) ae))))))))))),?_⟩)
 intro vs H Q E h;unfold d7 at h;split at h
 ·rename_i n a b;obtain⟨rfl,⟨b1,b6⟩,h⟩:=h;ac_rfl;refine⟨by omega,eE (by omega) (by omega),ag (by decide),fun p1 hp1=>⟨ag (by decide),fun p2 hp2=>?_⟩⟩;have hc:=fm (a:=n) (b:=b - 1+1) (by omega);generalize hcc:1+n.fmod (b - 1+1)=c at *;have hc1:1≤c/\c≤b:=by omega
  refine⟨⟨by omega,by omega⟩,?_⟩;have q2:H p2=none:=((Sub.refl H).put hp1).free hp2;have n12:p1≠p2:=fun e=>by subst e;rw[aj]at hp2;cases hp2
  refine fZ (fun i σ H2=>∃num v u ts bs,σ=[some (.int num),some (.int 1),some (.int b),some (.int c),some (.ref p1),some (.ref p2),v,u]/\(U.Sub H H2/\H2 p1=some (.lst (ts.map prV))/\H2 p2=some (.lst (bs.map prV)))/\DM.Good (i:Nat) ts/\DM.Good (i:Nat) bs/\bs.length≤6) ?_ ?_ ⟨_,_,_,[],[],rfl,⟨((Sub.refl H).put hp1).put q2,by rw[aq n12,aj];rfl,aj⟩,⟨List.nodup_nil,by simp⟩,⟨List.nodup_nil,by simp⟩,by simp⟩
  ·rintro σ H2 ⟨num,v,u,ts,bs,rfl,⟨s1,s3,s4⟩,g1,g2,l6⟩;refine⟨trivial,?_⟩;ac_rfl;have ec:((c.toNat:Nat):Int)=c:=by omega
   rw[ec]at g1 g2;have t15:=g1.len (by omega);refine⟨ts,s3,g1.nd,fun p hp=>?_,by omega,fun r1 T1 hr1 pT sT=>⟨bs,(aq (ax s4 hr1)).trans s4,g2.nd,fun p hp=>?_,by omega,fun r2 B1 hr2 pB sB=>⟨ag (by decide),fun r3 hr3=>?_⟩⟩⟩
   ·have:=g1.lo p hp;omega
   ·have:=g2.lo p hp;omega
   have sa:=s1.put (o:=.lst (T1.map prV)) (s1.free hr1);have sb:=sa.put (o:=.lst (B1.map prV)) (sa.free hr2);have sc:=sb.put (o:=.lst [.int c,.ref r1,.ref r2]) (sb.free hr3);have n1:r1≠r2:=fun e=>by subst e;rw[aj]at hr2;cases hr2
   have n2:r2≠r3:=fun e=>by subst e;rw[aj]at hr3;cases hr3
   have n3:r1≠r3:=fun e=>by subst e;rw[aq n1,aj]at hr3;cases hr3
   exact⟨_,Sub.refl _,h c T1 B1 r3 _ ⟨hc1.1,by omega,⟨pT.nodup_iff.mpr g1.nd,fun p hp=>g1.lo p (pT.mem_iff.mp hp)⟩,⟨pB.nodup_iff.mpr g2.nd,fun p hp=>g2.lo p (pB.mem_iff.mp hp)⟩,by rw[pB.length_eq];exact l6⟩ hc1.2 sT sB sc ⟨r1,r2,aj,(aq n3).trans ((aq n1).trans aj),(aq n2).trans aj⟩⟩
  ·rintro G i σ H2 hi ⟨num,v,u,ts,bs,rfl,⟨s1,s3,s4⟩,g1,g2,l6⟩ kk;refine⟨trivial,?_⟩;ac_rfl;refine⟨⟨by omega,by omega⟩,?_⟩;rw[Je];refine fZ (fun j σ H3=>∃num u ts bs,σ=[some (.int num),some (.int 1),some (.int b),some (.int c),some (.ref p1),some (.ref p2),some (.int (i:Nat)),u]/\(U.Sub H H3/\H3 p1=some (.lst (ts.map prV))/\H3 p2=some (.lst (bs.map prV)))/\GJ (i:Nat) (j:Nat) ts/\GJ (i:Nat) (j:Nat) bs/\bs.length≤6) ?_ ?_ ⟨_,_,ts,bs,rfl,⟨s1,s3,s4⟩,GJ.of g1,GJ.of g2,l6⟩
   ·rintro σ H3 ⟨num,u,ts,bs,rfl,hH,a1,a2,l6⟩;exact⟨trivial,kk _ _ ⟨_,_,_,ts,bs,rfl,hH,a1.good,a2.good,l6⟩⟩
   ·rintro G' j σ H3 hj ⟨num,u,ts,bs,rfl,⟨s1,s3,s4⟩,a1,a2,l6⟩ kk';refine⟨trivial,?_⟩;have last:∀ts' bs' H4,(U.Sub H H4/\H4 p1=some (.lst (ts'.map prV))/\H4 p2=some (.lst (bs'.map prV)))->GJ (i:Nat) ((j:Nat)+1:Int) ts'->GJ (i:Nat) ((j:Nat)+1:Int) bs'->bs'.length≤6 ->
      G' [some (.int (num.fdiv 6)),some (.int 1),some (.int b),some (.int c),some (.ref p1),some (.ref p2),some (.int (i:Nat)),some (.int (j:Nat))] H4:=fun ts' bs' H4 x1 x2 x3 x4=>kk' _ _ ⟨_,_,ts',bs',rfl,x1,x2,x3,x4⟩
    refine ao fun R hR=>?_;have second:∀(ts':List DM.P2) (H4:PHp),(U.Sub H H4/\H4 p1=some (.lst (ts'.map prV))/\H4 p2=some (.lst (bs.map prV)))->GJ (i:Nat) ((j:Nat)+1:Int) ts' ->
      R { nx:=G',rt:=fun v H=>∃H3,U.Sub H3 H/\Q v H3,bk:=G,ct:=G' } [some (.int num),some (.int 1),some (.int b),some (.int c),some (.ref p1),some (.ref p2),some (.int (i:Nat)),some (.int (j:Nat))] H4:=by
     rintro ts' H4 ⟨u1,u3,u4⟩ b1;subst hR;refine ao fun R hR=>?_;have nxt:R { nx:=G',rt:=fun v H=>∃H3,U.Sub H3 H/\Q v H3,bk:=G,ct:=G' } [some (.int num),some (.int 1),some (.int b),some (.int c),some (.ref p1),some (.ref p2),some (.int (i:Nat)),some (.int (j:Nat))] H4:=by
      subst hR;ac_rfl;exact⟨eE (by decide) (by decide),last ts' bs H4 ⟨u1,u3,u4⟩ b1 a2.up l6⟩
     ac_rfl;refine⟨by decide,eE (by decide) (by decide),a8 (fun _=>?_) (fun _=>nxt)⟩;refine⟨_,u4,?_⟩;by_cases h6:bs.length<6
     ·refine aE (by rw[rS];simp;omega) ?_;refine⟨⟨_,u4⟩,ag (by decide),_,u4,by rw[rS];exact aZ (by omega),?_⟩;subst hR;ac_rfl;refine⟨eE (by decide) (by decide),last ts' (bs++[(((j:Nat):Int),((i:Nat):Int))]) _ ⟨u1.put q2,(aq n12).trans u3,?_⟩ b1 (a2.app (by omega) (by omega)) (by rw[wW];simp;omega)⟩;rw[aj,Ie];rfl
     ·refine aC (by rw[rS];simp;omega) nxt
    ac_rfl;have t15:ts.length≤15:=(show DM.Good ((i:Nat)+1:Int) ts from⟨a1.nd,fun p hp=>by have:=a1.lo p hp;omega⟩).len (by omega);refine⟨by decide,by decide,a8 (fun _=>?_) (fun _=>second ts H3 ⟨s1,s3,s4⟩ a1.up)⟩;refine⟨⟨_,s3⟩,ag (by decide),_,s3,by rw[rS];exact aZ (by omega),?_⟩;refine second (ts++[(((j:Nat):Int),((i:Nat):Int))]) _ ⟨s1.put hp1,?_,(aq n12.symm).trans s4⟩ (a1.app (by omega) (by omega));rw[aj,Ie];rfl
 ·exact h.elim
theorem FI(T:Tx K mg t):aO P w K mg base CX0 1 t.a_zt t.d_zt ["_law_number","_law_count"] dt:=by
 refine okU (k:=0) T.F_zt iz (fun vs H Q E h=>by
  unfold dt at h;split at h
  ·rfl
  ·exact h.elim) (fun cdv A outer s H E B hr=>⟨_,(af (aw (i:=2) iz.nd rfl (by eq_refl) (aR ae))
  (af (aw (i:=3) iz.nd rfl (by eq_refl) (aR ae))
  (af (bA Ik rfl (bW rfl T.b_range (aa (qv 1) ae)) (au (i:=4) iz.nd rfl (by eq_refl))
  (af (aw (i:=5) iz.nd rfl (by eq_refl) (bE (qv 0) ah))
   (af (aw (i:=0) iz.nd rfl (by eq_refl) (bN (qv 0) ah))
   (af (aS (bu (dH (av (aQ hr.units) aU (qv 5) ah (az _)) (dU (av (aQ hr.units) aU (qv 5) ah (az _)))))
   (ai (a7 (cH IA IB bz bB (qv 2) (aa (qv 4) ae))))
   aF)
   (ai (aS (av (aQ hr.units) aU (qv 5) ah (az _))
   (ai (a7 (cH IA IB bz bB (qv 3) (aa (qv 4) ae))))
   aF))))))
  (af (aS (av (aQ hr.units) aU (aH aD bh rfl T.b_len Im (aa (qv 3) ae)) ah (az _))
  (af (aw (i:=3) iz.nd rfl (by eq_refl) (aR (aa (eJ (qv 1) ah) ae)))
   (ai (cE (i:=2) iz.nd rfl (by eq_refl) (N2:=["_law_name","_law_count"]) (nt:=1) (js:=[1]) (ck (sc:=ak zd)) rfl (aN (qv 2)) (fun s0 H0 fp ps=>⟨(au (i:=0) (show List.Nodup (["_law_name","_law_count"]:List Str) by decide +kernel) rfl (by eq_refl)),(bD (av fg eO (qv 0) (eJ (qv 1) ah) (az _))),(qv 0)⟩))))
  aF)
  (ai (aA (aW (aa (aM aK a9 rfl T.b_tuple Jh (aa (qv 2) ae)) (aa (aM aK a9 rfl T.b_tuple Jh (aa (qv 3) ae)) ae))))))))),?_⟩)
 intro vs H Q E h;unfold dt at h;split at h
 ·rename_i n c;obtain⟨⟨c1,c6⟩,h⟩:=h;refine ao fun R hR=>?_;ac_rfl;refine⟨ag (by decide),fun p hp=>?_⟩;subst hR;refine ao fun R hR=>?_;ac_rfl;refine⟨ag (by decide),fun q hq=>?_⟩;subst hR;have npq:p≠q:=fun e=>by subst e;rw[aj]at hq;cases hq
  have hq0:H q=none:=((Sub.refl H).put hp).free hq;refine ao fun R hR=>?_;ac_rfl;refine⟨⟨by omega,by omega⟩,?_⟩;refine fZ (fun i σ H2=>∃n' nm w,∃A B:List Int,σ=[some (.int n'),some (.int c),some (.ref p),some (.ref q),nm,w]/\(U.Sub H H2/\H2 p=some (.lst (A.map PV.int))/\H2 q=some (.lst (B.map PV.int)))/\Nms (i:Nat) A/\Nms (i:Nat) B/\(∀x∈A,x∉B)) ?_ ?_ ⟨n,none,none,[],[],rfl,⟨((Sub.refl H).put hp).put hq0,(aq npq).trans aj,aj⟩,⟨.nil,by simp⟩,⟨.nil,by simp⟩,by simp⟩
  ·rintro σ H2 ⟨n',nm,w,A,B,rfl,⟨s1,eA,eB⟩,hA,hB,ap⟩;refine⟨trivial,?_⟩;subst hR;have ec:((c.toNat:Nat):Int)=c:=by omega
   rw[ec]at hA hB;have lA:=hA.len c6;ac_rfl;refine⟨_,eB,?_⟩;by_cases hB0:B=[]
   ·subst hB0;refine aE rfl ⟨ag (by decide),fun p3 hp3=>⟨_,(aq (ax eA hp3)).trans eA,fun p4 hp4=>?_⟩⟩;have eA3:put H2 p3 (.lst [.int (c - 1)]) p=some (.lst (A.map PV.int)):=(aq (ax eA hp3)).trans eA;have s3:=s1.put (o:=.lst [.int (c - 1)]) (s1.free hp3);have e3:put H2 p3 (.lst [.int (c - 1)]) p3=some (.lst [.int (c - 1)]):=aj;generalize put H2 p3 (.lst [.int (c - 1)])=H3 at *;refine aJ (fun y=>y) (onI fun y=>decide (y<c - 1)) (fun σ=>∃z,σ=[z,some (.int c)]) (by rw[rS];omega) (fun _=>(aq (ax eA3 hp4)).trans eA3) ?_ ?_ ⟨_,rfl⟩
    ·rintro y hy l σ R ⟨z,rfl⟩ hl kT kF;obtain⟨k,hk,rfl⟩:=Bc.mp hy;have e:onI (fun y=>decide (y<c - 1)) (PV.int k)=decide (k<c - 1):=rfl;rw[e]at kT kF;ac_rfl;refine bK (fun q=>⟨hl,by rw[aI];exact kT (by simpa using q) _ ⟨_,rfl⟩⟩) (fun q=>kF (by simpa using q) _ ⟨_,rfl⟩)
    rw[bF];refine⟨_,aj,_,(aq (ax e3 hp4)).trans e3,ag (by decide),H,s3.put (s3.free hp4),h (A.filter fun y=>decide (y<c - 1)) [c - 1] ⟨⟨hA.up.filter _,fun x hx=>hA.lo x (Io.mp hx).1⟩,⟨by simp,fun x hx=>?_⟩,fun x hx z=>?_,by simp⟩⟩
    ·rw[xI]at hx;omega
    ·rw[xI]at z;have:=Jy (Io.mp hx).2;omega
   ·exact aC (by simpa using hB0) ⟨_,eA,_,eB,ag (by decide),H,s1,h A B ⟨hA,hB,ap,hB0⟩⟩
  ·rintro G i σ H2 hi ⟨n',nm,w,A,B,rfl,⟨s1,eA,eB⟩,hA,hB,ap⟩ kk;refine⟨trivial,?_⟩;have lA:=hA.len (by omega);have lB:=hB.len (by omega);have grow:∀{L:List Int},Nms (i:Nat) L->Nms ((i+1:Nat):Int) L:=fun hL=>⟨hL.up,fun x hx=>by have:=hL.lo x hx;omega⟩;have app:∀{L:List Int},Nms (i:Nat) L->Nms ((i+1:Nat):Int) (L++[(i:Int)]):=fun hL=>⟨List.pairwise_append.mpr ⟨hL.up,List.pairwise_singleton _ _,fun a ha b hb=>by rw[xI]at hb;have:=hL.lo a ha;omega⟩,fun x hx=>by
    rcases zi.mp hx with hx | hx
    ·have:=hL.lo x hx;omega
    ·rw[xI]at hx;omega⟩
   have fresh:∀{L:List Int},Nms (i:Nat) L->(i:Int)∉L:=fun hL z=>by have:=hL.lo _ z;omega
   refine ao fun R hR=>?_;ac_rfl;refine⟨by decide,?_⟩;subst hR;refine ao fun R hR=>?_;ac_rfl;refine⟨eE (by decide) (by decide),?_⟩;subst hR;generalize n'.fmod 5=w1 at *;generalize n'.fdiv 5=n1 at *;refine ao fun R hR=>?_;have mid:∀(bk:St'->PHp->Prop) (A':List Int) (H3:PHp),(U.Sub H H3/\H3 p=some (.lst (A'.map PV.int))/\H3 q=some (.lst (B.map PV.int)))->Nms ((i+1:Nat):Int) A'->(∀x∈A',x∉B)->(w1=2->(i:Int)∉A') ->
     R { nx:=G,rt:=fun v H=>∃H3,U.Sub H3 H/\Q v H3,bk:=bk,ct:=G } [some (.int n1),some (.int c),some (.ref p),some (.ref q),some (.int (i:Nat)),some (.int w1)] H3:=by
    rintro bk A' H3 ⟨t1,tA,tB⟩ nA ap' fr;subst hR;ac_rfl;refine a8 (fun q2=>?_) (fun _=>kk _ _ ⟨_,_,_,A',B,rfl,⟨t1,tA,tB⟩,nA,grow hB,ap'⟩);refine⟨⟨_,tB⟩,_,tB,aZ (by rw[rS];omega),kk _ _ ⟨_,_,_,A',B++[(i:Int)],rfl,⟨t1.put hq0,(aq npq).trans tA,by rw[aj,Ie];rfl⟩,nA,app hB,fun x hx z=>?_⟩⟩;rcases zi.mp z with z | z
    ·exact ap' x hx z
    ·rw[xI]at z;subst z;exact fr (by simpa using q2) hx
   have both:∀(bk:St'->PHp->Prop),w1≠2->R { nx:=G,rt:=fun v H=>∃H3,U.Sub H3 H/\Q v H3,bk:=bk,ct:=G } [some (.int n1),some (.int c),some (.ref p),some (.ref q),some (.int (i:Nat)),some (.int w1)] (put H2 p (.lst (A.map PV.int++[.int (i:Nat)]))):=fun bk ne=>by
    refine mid bk (A++[(i:Int)]) _ ⟨s1.put hp,by rw[aj,Ie];rfl,(aq npq.symm).trans eB⟩ (app hA) (fun x hx z=>?_) (fun e=>absurd e ne);rcases zi.mp hx with hx | hx
    ·exact ap x hx z
    ·rw[xI]at hx;subst hx;exact fresh hB z
   ac_rfl;refine a8 (fun q0=>⟨⟨_,eA⟩,_,eA,aZ (by rw[rS];omega),both _ ?_⟩) (fun q0=>a8 (fun q1=>⟨⟨_,eA⟩,_,eA,aZ (by rw[rS];omega),both _ ?_⟩) (fun q1=>mid _ A H2 ⟨s1,eA,eB⟩ (grow hA) ap fun _=>fresh hA))
   ·have:w1=0:=by simpa using q0
    omega
   ·have:w1=1:=by simpa using q1
    omega
 ·exact h.elim
theorem FP(T:Tx K mg t):aO P w K mg base CX0 1 t.a_zL t.d_zL ["_law_shape","_law_names","_law_ends"] gX:=by
 refine okU (k:=0) T.F_zL mz (fun vs H Q E h=>by
  unfold gX at h;split at h
  ·rfl
  ·exact h.elim) (fun cdv A outer s H E B hr=>⟨_,(af (cE (i:=3) mz.nd rfl (by eq_refl) (N2:=["_law_name"]) (nt:=1) (js:=[]) (ck (sc:=ak xa)) rfl (aN (qv 2)) (fun s0 H0 fp ps=>⟨(au (i:=0) (show List.Nodup (["_law_name"]:List Str) by decide +kernel) rfl (by eq_refl)),bO,(qv 0)⟩))
  (af (bA Ik rfl (aN (qv 1)) (au (i:=4) mz.nd rfl (by eq_refl))
  (ai (bA Ik rfl (aN (aG (qv 0) ah (fun _ _=>rfl))) (c9 (n:=2) rfl (aV (au (i:=5) mz.nd rfl (by eq_refl)) (aV (au (i:=6) mz.nd rfl (by eq_refl)) b9)))
   (ai (aS (bu (cj (av (bG hr.units) bC (qv 6) (qv 3) (by with_unfolding_all rfl)) (cj (av (bG hr.units) bC (qv 5) (qv 1) (by with_unfolding_all rfl)) (cc (av (bP hr.units) bC (qv 5) (qv 3) (by with_unfolding_all rfl))))))
    (ai (a7 (cH IA IB bz bB (qv 3) (aa (qv 5) ae))))
    aF)))))
  (ai (aA (aM aK a9 rfl T.b_tuple Jh (aa (aH fV jG rfl T.b_sorted boot_sorted (aa (qv 3) ae)) ae)))))),?_⟩)
 intro vs H Q E h;unfold gX at h;split at h
 ·rename_i a v l;obtain⟨c,ts,bs,L,S,⟨q1,q2,e1,e2,e3⟩,ok,hv,rfl,hL,nS,hS,h⟩:=h;have t15:=ok.gt.len ok.c6;have l6:=hL.len ok.c6;have s6:=sub_len S L nS hS;refine ao fun R hR=>?_;ac_rfl;show ∀acc,H acc=none->_;intro p hp;refine aJ (fun y=>y) (fun _=>true) (fun σ=>∃z,σ=[z]) (by rw[rS];omega) (fun _=>trivial) ?_ ?_ ⟨_,rfl⟩
  ·rintro y hy l σ R ⟨z,rfl⟩ hl kT kF;ac_rfl;exact⟨hl,by rw[aI];exact kT rfl _ ⟨_,rfl⟩⟩
  rw[vx];subst hR;have sp:∀o,U.Sub H (put H p o):=fun o=>(Sub.refl H).put hp;refine ao fun R hR=>?_;ac_rfl;refine(hv.up (sp _)).it fun okv hokv=>?_;refine bI (fun i σ H2=>∃k u w F,σ=[some (.ref a),some v,some (.tup (S.map PV.int)),some (.ref p),k,u,w]/\H2=put H p (.lst (F.map PV.int))/\F=My.bZ (up1 ts L) i S/\F.length≤6+15*i) ?_ ?_ ⟨none,none,none,S,rfl,rfl,rfl,by omega⟩
  ·rintro σ H2 ⟨k,u,w,F,rfl,rfl,hF,hlen⟩;rw[rS]at hF;refine⟨hokv _ (hv.up (sp _)),?_⟩;subst hR;have iff:∀y,y∈F↔My.Reach (up1 ts L) S y:=fun y=>by rw[hF];exact n8 (fun x y e=>(ja.mp e).2) hS nS y
   have nd:F.Nodup:=by rw[hF];exact My.dX _ nS
   have inL:∀y∈F,y∈L:=fun y hy=>by
    cases (iff y).mp hy with
    | base h=>exact hS _ h
    | step _ e=>exact(ja.mp e).2
   have f6:=sub_len F L nd inL;ac_rfl;refine⟨F,rfl,by omega,fun r3 ms hr pm sm=>?_⟩;exact⟨H,(sp _).put ((sp _).free hr),h ms ⟨My.ix sm (pm.nodup_iff.mpr nd),fun y=>(pm.mem_iff.trans (iff y)).trans (zx hS)⟩⟩
  ·rintro G i y σ H2 hy ⟨k,u,w,F,rfl,rfl,hF,hlen⟩ kk;have hi:i<L.length:=by have:=(vM.mp hy).1;rwa [rS]at this
   refine⟨hokv _ (hv.up (sp _)),?_⟩;ac_rfl;refine⟨_,sp _ _ _ e1,?_⟩;rw[wG];ac_rfl;refine⟨_,sp _ _ _ e2,?_⟩;refine bI (fun j σ H3=>∃u w F',σ=[some (.ref a),some v,some (.tup (S.map PV.int)),some (.ref p),some y,u,w]/\H3=put H p (.lst (F'.map PV.int))/\F'=(ts.take j).foldl (gW L) F/\F'.length≤6+15*i+j/\j≤15) ?_ ?_ ⟨u,w,F,rfl,rfl,rfl,by omega,by omega⟩
   ·rintro σ H3 ⟨u,w,F',rfl,rfl,hF',hlen',h15⟩;rw[rS,Iy]at hF';refine⟨sp _ _ _ e2,kk _ _ ⟨_,_,_,F',rfl,rfl,?_,?_⟩⟩
    ·rw[eV,← hF,← qh];exact hF'
    ·rw[rS]at hlen';omega
   ·rintro G' j z σ H3 hz ⟨u,w0,F',rfl,rfl,hF',hlen',h15⟩ kk';refine⟨sp _ _ _ e2,?_⟩;obtain⟨hj,e⟩:=vM.mp hz;rw[rS]at hj;rw[Il]at e;subst e;have hjx:ts[j]?=some ts[j]:=sH hj;have hnx:(ts.take (j+1)).foldl (gW L) F=gW L F' ts[j]:=by rw[hZ hjx,← hF']
    generalize ts[j]=w at *;unfold prV;have hsz:(F'.map PV.int).length<sizeLine:=aZ (by rw[rS];omega);unfold gW at hnx;have stay:¬(w.2∈F'/\w.1∈L/\w.1∉F')->G' [some (.ref a),some v,some (.tup (S.map PV.int)),some (.ref p),some y,some (.int w.1),some (.int w.2)] (put H p (.lst (F'.map PV.int))):=fun hn=>by
     rw[CI hn]at hnx;exact kk' _ _ ⟨_,_,F',rfl,rfl,hnx.symm,by omega,by omega⟩
    ac_rfl;refine⟨ay,?_⟩;simp only[aX];refine bK (fun m1=>?_) (fun m1=>stay fun h=>m1 h.1);refine(hv.up (sp _)).s ⟨ay,?_⟩
    try simp only[aX]
    refine bK (fun m2=>⟨ay,?_⟩) (fun m2=>stay fun h=>m2 h.2.1)
    try simp only[aX]
    by_cases m3:w.1∈F'
    ·exact aC (by simp[m3]) (stay fun h=>h.2.2 m3)
    ·rw[Ij ⟨m1,m2,m3⟩]at hnx;refine aE (by simp[m3]) ⟨⟨_,rfl⟩,hsz,kk' _ _ ⟨_,_,F'++[w.1],rfl,by rw[aI,Ie];rfl,hnx.symm,?_,by omega⟩⟩;rw[wW,Ip];omega
 ·exact h.elim
theorem x6(T:Tx K mg t):aO P w K mg base CX0 1 t.a_zO t.d_zO ["_law_shape","_law_names"] fI:=by
 refine okU (k:=0) T.F_zO iA (fun vs H Q E h=>by
  unfold fI at h;split at h
  ·rfl
  ·exact h.elim) (fun cdv A outer s H E B hr=>⟨_,(af (aw (i:=2) iA.nd rfl (by eq_refl) (aR ae))
  (af (aw (i:=3) iA.nd rfl (by eq_refl) (aM cA gx rfl T.b_list boot_list (aa (qv 1) ae)))
  (af (jx Ik (av kG kf (aH aD bh rfl T.b_len Im (aa (qv 3) ae)) ah (az _))
  (af (aw (i:=4) iA.nd rfl (by eq_refl) (aR (aa (aG (qv 3) ah (fun _ _=>rfl)) ae)))
   (af (bA Ik rfl (aN (qv 1)) (au (i:=5) iA.nd rfl (by eq_refl))
   (ai (bA Ik rfl (aN (aG (qv 0) ah (fun _ _=>rfl))) (c9 (n:=2) rfl (aV (au (i:=6) iA.nd rfl (by eq_refl)) (aV (au (i:=7) iA.nd rfl (by eq_refl)) b9)))
    (ai (aS (bu (cj (av (bG hr.units) bC (qv 6) (qv 1) (by with_unfolding_all rfl)) (cj (av (bG hr.units) bC (qv 7) (qv 1) (by with_unfolding_all rfl)) (cc (av (c7 hr.units) aU (cg (bG hr.units) bC (qv 6) (qv 4) (by with_unfolding_all rfl)) (cg (bG hr.units) bC (qv 7) (qv 4) (by with_unfolding_all rfl)) (az _))))))
     (ai (a7 (cH IA IB bz bB (qv 4) (aa (aG (aR (aa (qv 6) (aa (qv 7) ae))) (aM fE lR rfl T.b_int boot_int (aa (cg (bG hr.units) bC (qv 6) (qv 4) (by with_unfolding_all rfl)) ae)) (fun _ _=>rfl)) ae))))
     aF)))))
   (af (a7 (cH IA IB bz bB (qv 2) (aa (aM aK a9 rfl T.b_tuple Jh (aa (aH fV jG rfl T.b_sorted boot_sorted (aa (qv 4) ae)) ae)) ae)))
   (ai (cE (i:=3) iA.nd rfl (by eq_refl) (N2:=["_law_name","_law_lump"]) (nt:=1) (js:=[4]) (ck (sc:=ak xU)) rfl (aN (qv 3)) (fun s0 H0 fp ps=>⟨(au (i:=0) (show List.Nodup (["_law_name","_law_lump"]:List Str) by decide +kernel) rfl (by eq_refl)),(bD (av (bP hr.units) bC (qv 0) (qv 1) (by with_unfolding_all rfl))),(qv 0)⟩)))))))
  (ai (aA (qv 2)))))),?_⟩)
 intro vs H Q E h;unfold fI at h;split at h
 ·rename_i a vv;obtain⟨c,ts,bs,L,⟨q1,q2,e1,e2,e3⟩,ok,hv,hL,h⟩:=h;have b15:=ok.gb.len ok.c6;have l6:=hL.len ok.c6;refine ao fun R hR=>?_;ac_rfl;refine⟨ag (by decide),fun o ho=>?_⟩;subst hR;refine ao fun R hR=>?_;ac_rfl;have so:=(Sub.refl H).put (o:=.lst []) ho;refine(hv.up so).s fun p4 hp4=>?_;subst hR;have n4o:p4≠o:=fun e=>by subst e;rw[aj]at hp4;cases hp4
  refine ao fun R hR=>?_;refine gD (fun m σ H4=>∃rp u1 u2 u3 u4 told left,σ=[some (.ref a),some vv,some (.ref o),some (.ref rp),u1,u2,u3,u4]/\U.Sub H H4/\H4 rp=some (.lst (left.map PV.int))/\H4 o=some (.lst (told.map tupI))/\rp≠o/\Nms c left/\(∀x∈left,x∈L)/\(∀rest,dk (both bs L) left rest->dk (both bs L) L (told++rest))/\told.length+left.length≤6/\m=left.length) _ ⟨p4,none,none,none,none,[],L,rfl,so.put (so.free hp4),aj,(aq n4o.symm).trans aj,n4o,hL,fun x hx=>hx,fun rest hr=>hr,by simpa using l6,rfl⟩ ?_;rintro m σ H4 ⟨rp,u1,u2,u3,u4,told,left,rfl,s4,hrp,ho4,nro,hLe,inL,hi,hlen,rfl⟩;ac_rfl;refine⟨_,hrp,?_⟩;cases left with
  | nil =>
   refine aC rfl ?_;subst hR;ac_rfl;have:=hi [] .nil;rw[IP]at this;exact⟨H4,Sub.refl _,h o told H4 s4 ho4 this (by omega)⟩
  | cons x R' =>
   refine aE (by simp) ⟨_,fun σ' H' hN=>hN,?_⟩;refine⟨_,hrp,?_⟩;rw[yd,lx];ac_rfl;refine⟨ag (by decide),fun p hp=>?_⟩;have nrp:=ax hrp hp;have nop:=ax ho4 hp;have hpH:=s4.free hp;have xl:x∈L:=inL x xP;refine(hv.up (s4.put hpH)).it fun okv hokv=>?_;refine bI (fun i σ H5=>∃k u v F,σ=[some (.ref a),some vv,some (.ref o),some (.ref rp),some (.ref p),k,u,v]/\(U.Sub H H5/\H5 rp=some (.lst ((x::R').map PV.int))/\H5 o=some (.lst (told.map tupI))/\H5 p=some (.lst (F.map PV.int)))/\F=My.bZ (E2 bs L) i [x]/\F.length≤1+15*i) ?_ ?_ ⟨u2,u3,u4,[x],rfl,⟨s4.put hpH,(aq nrp).trans hrp,(aq nop).trans ho4,aj⟩,rfl,by simp⟩
   ·rintro σ H5 ⟨k,u,v,F,rfl,⟨s5,r5,o5,p5⟩,hF,hlen5⟩;rw[rS]at hF;refine⟨hokv _ (hv.up s5),?_⟩;have iff:∀y,y∈F↔My.Reach (both bs L) [x] y:=fun y=>by rw[hF];exact o4 xl y
    have nd:F.Nodup:=by rw[hF];exact My.dX _ (by simp)
    have inF:∀y∈F,y∈L:=fun y hy=>by
     cases (iff y).mp hy with
     | base h=>rw[xI]at h;rw[h];exact xl
     | step _ e=>exact(b4.mp e).2.1
    have f6:=sub_len F L nd inF;have xF:x∈F:=(iff x).mpr (.base (by simp));ac_rfl;refine⟨⟨_,o5⟩,F,p5,by omega,fun r ms hr pm sm=>?_⟩;have o6:put H5 r (.lst (ms.map PV.int)) o=some (.lst (told.map tupI)):=(aq (ax o5 hr)).trans o5;have r6:put H5 r (.lst (ms.map PV.int)) rp=some (.lst ((x::R').map PV.int)):=(aq (ax r5 hr)).trans r5;have p6:put H5 r (.lst (ms.map PV.int)) p=some (.lst (F.map PV.int)):=(aq (ax p5 hr)).trans p5;have s6:U.Sub H (put H5 r (.lst (ms.map PV.int))):=s5.put (s5.free hr);generalize put H5 r (.lst (ms.map PV.int))=H6 at *;have hl7:told.length<6:=by rw[Ih]at hlen;omega
    refine⟨_,o6,aZ (by rw[rS];omega),?_⟩;have npo:p≠o:=fun e=>nop e.symm;have ea:told.map tupI++[PV.tup (ms.map PV.int)]=(told++[ms]).map tupI:=by rw[Ie];rfl
    rw[ea];have o7:put H6 o (.lst ((told++[ms]).map tupI)) o=some (.lst ((told++[ms]).map tupI)):=aj;have r7:put H6 o (.lst ((told++[ms]).map tupI)) rp=some (.lst ((x::R').map PV.int)):=(aq nro).trans r6;have p7:put H6 o (.lst ((told++[ms]).map tupI)) p=some (.lst (F.map PV.int)):=(aq npo).trans p6;have s7:U.Sub H (put H6 o (.lst ((told++[ms]).map tupI))):=s6.put ho;generalize put H6 o (.lst ((told++[ms]).map tupI))=H7 at *;refine⟨_,r7,fun acc hacc=>?_⟩;have o8:∀z,put H7 acc z o=some (.lst ((told++[ms]).map tupI)):=fun z=>(aq (ax o7 hacc)).trans o7;have p8:∀z,put H7 acc z p=some (.lst (F.map PV.int)):=fun z=>(aq (ax p7 hacc)).trans p7;refine aJ (fun y=>y) (onI fun y=>!decide (y∈F)) (fun σ=>∃z,σ=[z,some (.ref p)]) (by rw[rS,Ih];rw[Ih]at hlen;omega) (fun _=>(aq (ax r7 hacc)).trans r7) ?_ ?_ ⟨_,rfl⟩
    ·rintro y hy l σ R ⟨z,rfl⟩ hl kT kF;obtain⟨k,hk,rfl⟩:=Bc.mp hy;have e:onI (fun y=>!decide (y∈F)) (PV.int k)=!decide (k∈F):=rfl;rw[e]at kT kF;ac_rfl;refine⟨_,p8 _,ay,?_⟩;simp only[aX];by_cases m:k∈F
     ·exact aC (by simp[m]) (kF (by simp[m]) _ ⟨_,rfl⟩)
     ·exact aE (by simp[m]) ⟨hl,by rw[aI];exact kT (by simp[m]) _ ⟨_,rfl⟩⟩
    rw[bF];have efl:(x::R').filter (fun y=>!decide (y∈F))=R'.filter fun y=>!decide (y∈ms):=by
     rw[Iz,CI (by simp[xF])];refine List.filter_congr fun y _=>?_;rw[Jv];simp only[Bool.not_eq_true',decide_eq_false_iff_not,pm.mem_iff]
    rw[efl];have lf:(R'.filter fun y=>!decide (y∈ms)).length≤R'.length:=IZ _ _;rw[Ih]at hlen;refine⟨_,?_,acc,_,_,_,_,told++[ms],R'.filter fun y=>!decide (y∈ms),rfl,s7.put (s7.free hacc),aj,o8 _,(ax o7 hacc).symm,⟨(JU.mp hLe.up).2.filter _,fun y hy=>hLe.lo y (Bo _ (Io.mp hy).1)⟩,fun y hy=>inL y (Bo _ (Io.mp hy).1),fun rest hr=>?_,?_,rfl⟩
    ·omega
    ·rw[JI];exact hi _ (.cons (My.ix sm (pm.nodup_iff.mpr nd)) (fun y=>pm.mem_iff.trans (iff y)) hr)
    ·rw[wW,Ip];omega
   ·rintro G i y σ H5 hy ⟨k,u,v,F,rfl,⟨s5,r5,o5,p5⟩,hF,hlen5⟩ kk;have hi':i<L.length:=by have:=(vM.mp hy).1;rwa [rS]at this
    refine⟨hokv _ (hv.up s5),?_⟩;ac_rfl;refine⟨_,s5 _ _ e1,?_⟩;rw[zR];ac_rfl;refine⟨_,s5 _ _ e3,?_⟩;refine bI (fun j σ H6=>∃u v F',σ=[some (.ref a),some vv,some (.ref o),some (.ref rp),some (.ref p),some y,u,v]/\(U.Sub H H6/\H6 rp=some (.lst ((x::R').map PV.int))/\H6 o=some (.lst (told.map tupI))/\H6 p=some (.lst (F'.map PV.int)))/\F'=(bs.take j).foldl (cT L) F/\F'.length≤1+15*i+j/\j≤15) ?_ ?_ ⟨u,v,F,rfl,⟨s5,r5,o5,p5⟩,rfl,by omega,by omega⟩
    ·rintro σ H6 ⟨u,v,F',rfl,hH6,hF',hlen',h15⟩;rw[rS,Iy]at hF';refine⟨hH6.1 _ _ e3,kk _ _ ⟨_,_,_,F',rfl,hH6,?_,?_⟩⟩
     ·rw[eV,← hF,← kC];exact hF'
     ·rw[rS]at hlen';omega
    ·rintro G' j z σ H6 hz ⟨u,v,F',rfl,⟨s6,r6,o6,p6⟩,hF',hlen',h15⟩ kk';refine⟨s6 _ _ e3,?_⟩;obtain⟨hj,e⟩:=vM.mp hz;rw[rS]at hj;rw[Il]at e;subst e;have hjx:bs[j]?=some bs[j]:=sH hj;have hnx:(bs.take (j+1)).foldl (cT L) F=cT L F' bs[j]:=by rw[hZ hjx,← hF']
     generalize bs[j]=w at *;unfold prV;have hsz:(F'.map PV.int).length<sizeLine:=aZ (by rw[rS];omega);have stay:cT L F' w=F'->G' [some (.ref a),some vv,some (.ref o),some (.ref rp),some (.ref p),some y,some (.int w.1),some (.int w.2)] H6:=fun hn=>by
      rw[hn]at hnx;exact kk' _ _ ⟨_,_,F',rfl,⟨s6,r6,o6,p6⟩,hnx.symm,by omega,by omega⟩
     have goes:∀(n:Int) (H8:PHp),(U.Sub H H8/\H8 rp=some (.lst ((x::R').map PV.int))/\H8 o=some (.lst (told.map tupI))/\H8 p=some (.lst (F'.map PV.int)))->cT L F' w=F'++[n]->G' [some (.ref a),some vv,some (.ref o),some (.ref rp),some (.ref p),some y,some (.int w.1),some (.int w.2)] (put H8 p (.lst (F'.map PV.int++[.int n]))):=fun n H8 y_ hn=>by
      obtain⟨t1,t2,t3,t4⟩:=y_;rw[hn]at hnx;refine kk' _ _ ⟨_,_,F'++[n],rfl,⟨t1.put hpH,(aq nrp).trans t2,(aq nop).trans t3,by rw[aj,Ie];rfl⟩,hnx.symm,?_,by omega⟩;rw[wW,Ip];omega
     ac_rfl;refine(hv.up s6).s ⟨ay,?_⟩;simp only[aX];refine bK (fun m1=>(hv.up s6).s ⟨ay,?_⟩) (fun m1=>stay (by unfold cT;rw[CI fun z=>m1 z.1]))
     try simp only[aX]
     refine bK (fun m2=>⟨_,p6,ay,_,p6,ay,?_⟩) (fun m2=>stay (by unfold cT;rw[CI fun z=>m2 z.2]));rw[aX (n:=w.2)];rw[aX (n:=w.1)];by_cases k1:w.1∈F'<;>by_cases k2:w.2∈F'
     ·exact aC (by simp[k1,k2]) (stay (by unfold cT;simp[m1,m2,k1,k2]))
     ·refine aE (by simp[k1,k2]) ⟨⟨_,p6⟩,ag (by decide),fun p1 hp1=>⟨_,(aq (ax p6 hp1)).trans p6,ay,?_⟩⟩;have eb:b2n ((F'.map PV.int).any fun z=>deq z (.int w.1))=1:=by rw[aX];simp[k1,b2n]
      rw[eb,wR];exact⟨_,(aq (ax p6 hp1)).trans p6,hsz,goes w.2 _ ⟨s6.put (s6.free hp1),(aq (ax r6 hp1)).trans r6,(aq (ax o6 hp1)).trans o6,(aq (ax p6 hp1)).trans p6⟩ (by unfold cT;simp[m1,m2,k1,k2])⟩
     ·refine aE (by simp[k1,k2]) ⟨⟨_,p6⟩,ag (by decide),fun p1 hp1=>⟨_,(aq (ax p6 hp1)).trans p6,ay,?_⟩⟩;have eb:b2n ((F'.map PV.int).any fun z=>deq z (.int w.1))=0:=by rw[aX];simp[k1,b2n]
      rw[eb,v8];exact⟨_,(aq (ax p6 hp1)).trans p6,hsz,goes w.1 _ ⟨s6.put (s6.free hp1),(aq (ax r6 hp1)).trans r6,(aq (ax o6 hp1)).trans o6,(aq (ax p6 hp1)).trans p6⟩ (by unfold cT;simp[m1,m2,k1,k2])⟩
     ·exact aC (by simp[k1,k2]) (stay (by unfold cT;simp[m1,m2,k1,k2]))
 ·exact h.elim
theorem CK(T:Tx K mg t):aO P w K mg base CX0 2 t.a_zI t.d_zI ["_law_shape","_law_question_here"] dZ:=by
 refine okU (k:=1) T.F_zI z4 (fun vs H Q E h=>by
  unfold dZ at h;split at h
  ·rfl
  ·exact h.elim) (fun cdv A outer s H E B hr=>⟨_,(af (cE (i:=2) z4.nd rfl (by eq_refl) (N2:=["_law_name","_law_question_here"]) (nt:=1) (js:=[1]) (ck (sc:=ak zE)) rfl (bW rfl T.b_range (aa (aG (qv 0) ah (fun _ _=>rfl)) ae)) (fun s0 H0 fp ps=>⟨(au (i:=0) (show List.Nodup (["_law_name","_law_question_here"]:List Str) by decide +kernel) rfl (by eq_refl)),(bD (av (bP hr.units) bC (qv 0) (aG (qv 1) ah (fun _ _=>rfl)) (by with_unfolding_all rfl))),(qv 0)⟩))
  (ai (aA (ar (FP T) (hr.mono (by decide)) rfl T.g_zL T.F_zL.kp T.B_zL (aa (qv 0) (aa (qv 2) (aa (aG (qv 1) ah (fun _ _=>rfl)) ae))))))),?_⟩)
 intro vs H Q E h;unfold dZ at h;split at h
 ·rename_i a v;obtain⟨c,ts,bs,A,B,hs,ok,rfl,hq,h⟩:=h;have c1:=ok.c1;have c6:=ok.c6;unfold qV at *;obtain⟨q1,q2,e1,e2,e3⟩:=id hs;refine ao fun R hR=>?_;ac_rfl;refine⟨_,e1,?_⟩;rw[iD];ac_rfl;refine⟨⟨by omega,by omega⟩,fun acc hacc=>?_⟩;refine aJ (fun y=>y) (onI fun y=>!decide (y∈A)) (fun σ=>∃z,σ=[z,some (.tup [.tup (A.map PV.int),.tup (B.map PV.int)])]) (by rw[gT];omega) (fun _=>trivial) ?_ ?_ ⟨_,rfl⟩
  ·rintro y hy l σ R ⟨z,rfl⟩ hl kT kF;obtain⟨k,rfl,k0⟩:=iV hy;have e:onI (fun y=>!decide (y∈A)) (PV.int k)=!decide (k∈A):=rfl;rw[e]at kT kF;ac_rfl;refine⟨ay,?_⟩;simp only[aX];by_cases m:k∈A
   ·exact aC (by simp[m]) (kF (by simp[m]) _ ⟨_,rfl⟩)
   ·exact aE (by simp[m]) ⟨hl,by rw[aI];exact kT (by simp[m]) _ ⟨_,rfl⟩⟩
  rw[fO,bF];have en:(ulN c).filter (fun y=>!decide (y∈A))=nin c A:=rfl;rw[en];subst hR;have s1:=(Sub.refl H).put (o:=.lst ((nin c A).map PV.int)) hacc;ac_rfl;exact⟨c,ts,bs,nin c A,B,hs.up s1,ok,.inr ⟨acc,rfl,aj⟩,rfl,pQ,hq.b.nd,hq.sub,fun M u=>⟨H,s1,h M u.up u.iff⟩⟩
 ·exact h.elim
theorem GZ(T:Tx K mg t):aO P w K mg base CX0 7 t.a_yb t.d_yb ["drawing","question"] (fo t):=by
 refine okU (k:=6) T.F_yb zT (fun vs H Q E h=>by
  unfold fo at h;split at h
  ·rfl
  ·exact h.elim) (fun cdv A outer s H E B hr=>⟨_,(af (aw (i:=2) zT.nd rfl (by eq_refl) (ar (Fl T) (hr.mono (by decide)) rfl T.g_zu T.F_zu.kp T.B_zu (aa (qv 0) (aa (qv 1) ae))))
  (ai (aA (aW (aa (qv 2) (aa (bT (qv 0) T.cl_D T.m_zm (Dd T) (hr.mono (by decide)) T.B_zm (aa (qv 2) ae)) ae)))))),?_⟩)
 intro vs H Q E h;unfold fo at h;split at h
 ·rename_i x v;obtain⟨c,ts,bs,A,B,rfl,⟨dx,hx⟩,ok,hq,h⟩:=h;unfold qV at *;ac_rfl;refine⟨c,ts,bs,A,B,rfl,⟨dx,hx⟩,ok,hq,fun W up iff=>?_⟩;have nW:=dN hq up iff;refine⟨⟨_,_,hx,rfl⟩,dx,c,ts,bs,W,hx,rfl,nW,⟨ok.c1,ok.c6⟩,ok.gb,fun r Ls hr hLm l6 hM=>⟨ag (by decide),_,Sub.refl _,h W Ls r _ ((Sub.refl H).put hr) ⟨nW,iff,hLm⟩ aj l6⟩⟩
 ·exact h.elim
theorem Gm(T:Tx K mg t):aO P w K mg base CX0 5 t.a_zx t.d_zx ["drawing","names","lump"] (fy t):=by
 refine okU (k:=4) T.F_zx Eb (fun vs H Q E h=>by
  unfold fy at h;split at h
  ·rfl
  ·exact h.elim) (fun cdv A outer s H E B hr=>⟨_,(ai (aA (aG (bx (N2:=["whole","lump"]) (nt:=1) (js:=[2]) (ck (sc:=ak yy)) rfl (aN (bT (qv 0) T.cl_D T.m_zm (Dd T) (hr.mono (by decide)) T.B_zm (aa (qv 1) ae))) (fun s0 H0 fp ps=>⟨(au (i:=0) (show List.Nodup (["whole","lump"]:List Str) by decide +kernel) rfl (by eq_refl)),(bD (av (bG hr.units) bC (aG (qv 1) ah (fun _ _=>rfl)) (qv 0) (by with_unfolding_all rfl))),(qv 0)⟩)) ah (fun _ _=>rfl)))),?_⟩)
 intro vs H Q E h;unfold fy at h;split at h
 ·rename_i x l m;obtain⟨c,ts,bs,L,x0,R0,⟨dx,hx⟩,ok,rfl,rfl,hL,hx0,h⟩:=h;ac_rfl;refine⟨⟨_,_,hx,rfl⟩,dx,c,ts,bs,L,hx,rfl,hL,⟨ok.c1,ok.c6⟩,ok.gb,fun r Ls hr hLm l6 hM=>?_⟩;have s1:=(Sub.refl H).put (o:=.lst (Ls.map tupI)) hr;have i1:put H r (.lst (Ls.map tupI)) r=some (.lst (Ls.map tupI)):=aj;generalize put H r (.lst (Ls.map tupI))=H1 at *
  try ac_rfl
  intro acc hacc;refine aJ (fun y=>y) (inT x0) (fun σ=>∃z,σ=[z,some (.tup (.int x0::R0.map PV.int))]) (by rw[rS];omega) (fun _=>(aq (ax i1 hacc)).trans i1) ?_ ?_ ⟨_,rfl⟩
  ·rintro y hy l σ R ⟨z,rfl⟩ hl kT kF;obtain⟨M,hMm,rfl⟩:=Bc.mp hy;unfold tupI at *;rw[pV]at kT kF;ac_rfl;rw[lx];ac_rfl;refine⟨ay,?_⟩;simp only[aX];refine bK (fun q=>⟨hl,by rw[aI];exact kT (by simpa using q) _ ⟨_,rfl⟩⟩) (fun q=>kF (by simpa using q) _ ⟨_,rfl⟩)
  rw[eP];obtain⟨M,r2,eM,la⟩:=wI hLm hx0;rw[eM];refine⟨_,aj,?_⟩;show dJ (atI (tupI M::r2.map tupI) 0) _;rw[lx];exact⟨H,s1.put (s1.free hacc),h M la⟩
 ·exact h.elim
theorem Es(T:Tx K mg t):aO P w K mg base CX0 6 t.a_zF t.d_zF ["drawing","lump"] (gA t):=by
 refine okU (k:=5) T.F_zF Fc (fun vs H Q E h=>by
  unfold gA at h;split at h
  ·rfl
  ·exact h.elim) (fun cdv A outer s H E B hr=>⟨_,(ai (aA (ar (Gm T) (hr.mono (by decide)) rfl T.g_zx T.F_zx.kp T.B_zx (aa (qv 0) (aa (ar (CU T) (hr.mono (by decide)) rfl T.g_zB T.F_zB.kp T.B_zB (aa (cQ (qv 0) T.cl_D T.nfD_count rfl) ae)) (aa (qv 1) ae)))))),?_⟩)
 intro vs H Q E h;unfold gA at h;split at h
 ·rename_i x m;obtain⟨c,ts,bs,x0,R0,⟨dx,hx⟩,ok,rfl,hx0,h⟩:=h;have c1:=ok.c1;have c6:=ok.c6;ac_rfl;refine⟨_,_,_,hx,rfl,⟨by omega,by omega⟩,c,ts,bs,ulN c,x0,R0,⟨dx,hx⟩,ok,rfl,rfl,dD,b0.mpr hx0,fun M la=>⟨H,Sub.refl _,h M la⟩⟩
 ·exact h.elim
theorem xq(T:Tx K mg t):aO P w K mg base CX0 2 t.a_zn t.d_zn ["_law_shape","_law_names","_law_inner"] gC:=by
 refine okU (k:=1) T.F_zn zN (fun vs H Q E h=>by
  unfold gC at h;split at h
  ·rfl
  ·exact h.elim) (fun cdv A outer s H E B hr=>⟨_,(af (bA Ik rfl (aN (ar (x6 T) (hr.mono (by decide)) rfl T.g_zO T.F_zO.kp T.B_zO (aa (qv 0) (aa (qv 1) ae)))) (au (i:=3) zN.nd rfl (by eq_refl))
  (ai (aS (av (bG hr.units) bC (aG (qv 2) ah (fun _ _=>rfl)) (qv 3) (by with_unfolding_all rfl))
   (ai (aA (qv 3)))
   aF)))
  (ai (aA (aW ae)))),?_⟩)
 intro vs H Q E h;unfold gC at h;split at h
 ·rename_i a v l;obtain⟨c,ts,bs,L,x0,R0,hs,ok,hv,rfl,hL,hx0,h⟩:=h;ac_rfl;refine⟨c,ts,bs,L,hs,ok,hv,hL,fun r Ls H1 s1 er lm l6=>⟨_,er,?_⟩⟩;refine bI (fun i σ H2=>∃z,σ=[some (.ref a),some v,some (.tup (.int x0::R0.map PV.int)),z]/\H2=H1/\∀M∈Ls.take i,x0∉M) ?_ ?_ ⟨none,rfl,rfl,by simp⟩
  ·rintro σ H2 ⟨z,rfl,rfl,hno⟩;rw[rS,Iy]at hno;obtain⟨M,hM,xM⟩:=lZ lm x0 hx0;exact absurd xM (hno M hM)
  ·rintro G i y σ H2 hy ⟨z,rfl,rfl,hno⟩ kk;refine⟨er,?_⟩;obtain⟨hi,e⟩:=vM.mp hy;rw[rS]at hi;rw[Il]at e;subst e;have hm:Ls[i]∈Ls:=Ii hi;have tk:Ls.take (i+1)=Ls.take i++[Ls[i]]:=by rw[IG,sH hi];rfl
   generalize Ls[i]=M at *;unfold tupI;ac_rfl;rw[lx];ac_rfl;refine⟨ay,?_⟩;simp only[aX];refine bK (fun q=>⟨H,s1,h M (qk lm hm q)⟩) (fun q=>kk _ _ ⟨_,rfl,rfl,fun N hN=>?_⟩);rw[tk]at hN;rcases zi.mp hN with hN | hN
   ·exact hno N hN
   ·rw[xI]at hN;rw[hN];exact q
 ·exact h.elim
theorem HC(T:Tx K mg t):aO P w K mg base CX0 1 t.a_zJ t.d_zJ ["_law_shape","_law_names"] ft:=by
 refine okU (k:=0) T.F_zJ Au (fun vs H Q E h=>by
  unfold ft at h;split at h
  ·rfl
  ·exact h.elim) (fun cdv A outer s H E B hr=>⟨_,(af (bA Ik rfl (bW rfl T.b_range (aa (aH aD bh rfl T.b_len Im (aa (qv 1) ae)) ae)) (au (i:=2) Au.nd rfl (by eq_refl))
  (ai (aS (bu (dH (av fg eO (aG (qv 1) (qv 2) (fun _ _=>rfl)) ah (az _)) (dH (av mT nZ (aG (qv 1) (qv 2) (fun _ _=>rfl)) (aG (qv 0) ah (fun _ _=>rfl)) (az _)) (dU (bu (cj (av kG kf (qv 2) ah (az _)) (cc (av vQ vS (aG (qv 1) (qv 2) (fun _ _=>rfl)) (aG (qv 1) (eJ (qv 2) ah) (fun _ _=>rfl)) (az _)))))))))
   (ai (aA df))
   aF)))
  (ai (aA df))),?_⟩)
 intro vs H Q E h;unfold ft at h;split at h
 ·rename_i a l;obtain⟨c,ts,bs,L,⟨q1,q2,e1,e2,e3⟩,rfl,hl,hY,hN⟩:=h;ac_rfl;rw[rS];refine⟨⟨by omega,by omega⟩,?_⟩;refine fZ (fun i σ H2=>∃z,σ=[some (.ref a),some (.tup (L.map PV.int)),z]/\H2=H/\Nms c (L.take i)) ?_ ?_ ⟨none,rfl,rfl,⟨.nil,by simp⟩⟩
  ·rintro σ H2 ⟨z,rfl,rfl,hn⟩;rw[Je,Iy]at hn;exact⟨trivial,H2,Sub.refl _,hY hn⟩
  ·rintro G i σ H2 hi ⟨z,rfl,rfl,hn⟩ kk;refine⟨trivial,?_⟩;have hi':i<L.length:=by rw[Je]at hi;exact hi
   have tk:L.take (i+1)=L.take i++[L[i]]:=by rw[IG,sH hi'];rfl
   have at1:atI (L.map PV.int) ((i:Nat):Int)=some (.int L[i]):=by rw[eC (by rw[rS];exact hi'),Il]
   ac_rfl;rw[at1];ac_rfl;by_cases h0:L[i]<0
   ·exact aE (by simpa using h0) ⟨H2,Sub.refl _,hN fun n=>by have:=n.lo _ (Ii hi');omega⟩
   refine aC (by simpa using h0) ?_;refine⟨_,e1,?_⟩;rw[iD];ac_rfl;by_cases h1:c≤L[i]
   ·exact aE (by simpa using h1) ⟨H2,Sub.refl _,hN fun n=>by have:=n.lo _ (Ii hi');omega⟩
   refine aC (by simpa using h1) ?_;have grow:(∀a∈L.take i,a<L[i])->Nms c (L.take (i+1)):=fun ha=>by
    rw[tk];refine⟨List.pairwise_append.mpr ⟨hn.up,List.pairwise_singleton _ _,fun a h2 b hb=>?_⟩,fun x hx=>?_⟩
    ·rw[xI]at hb;rw[hb];exact ha a h2
    ·rcases zi.mp hx with hx | hx
     ·exact hn.lo x hx
     ·rw[xI]at hx;omega
   by_cases hz:i=0
   ·subst hz;exact aC (by simp) (kk _ _ ⟨_,rfl,rfl,grow (by simp)⟩)
   ·refine aE (by simp;omega) ?_;have hp:i - 1<L.length:=by omega
    have at2:atI (L.map PV.int) (((i:Nat):Int) - 1)=some (.int L[i - 1]):=by
     rw[show((i:Nat):Int) - 1=((i - 1:Nat):Int) by omega,eC (by rw[rS];exact hp),Il]
    rw[at2];ac_rfl;by_cases h2:L[i]≤L[i - 1]
    ·refine aE (by simpa using h2) ⟨H2,Sub.refl _,hN fun n=>?_⟩;have:=List.pairwise_iff_getElem.mp n.up (i - 1) i hp hi' (by omega);omega
    ·refine aC (by simpa using h2) (kk _ _ ⟨_,rfl,rfl,grow fun a ha=>?_⟩);obtain⟨j,hj,e⟩:=List.mem_iff_getElem.mp ha;rw[List.getElem_take]at e;rw[Iu]at hj;by_cases hj1:j=i - 1
     ·subst hj1;omega
     ·have lj:j<(L.take i).length:=by rw[Iu];omega
      have l1:i - 1<(L.take i).length:=by rw[Iu];omega
      have:=List.pairwise_iff_getElem.mp hn.up j (i - 1) lj l1 (by omega);rw[List.getElem_take,List.getElem_take]at this;omega
 ·exact h.elim
theorem Fb(T:Tx K mg t):aO P w K mg base CX0 3 t.a_ya t.d_ya ["_law_shape","_law_stands","_law_cut_here"] iT:=by
 refine okU (k:=2) T.F_ya qt (fun vs H Q E h=>by
  unfold iT at h;split at h
  ·rfl
  ·exact h.elim) (fun cdv A outer s H E B hr=>⟨_,(af (lY (qv 2) (c9 (n:=2) rfl (aV (au (i:=3) qt.nd rfl (by eq_refl)) (aV (au (i:=4) qt.nd rfl (by eq_refl)) b9))))
  (af (aS (bu (dH (av (aQ hr.units) aU (aH aD bh rfl T.b_len Im (aa (qv 4) ae)) ah (az _)) (dH (av mT nZ (aH aD bh rfl T.b_len Im (aa (qv 4) ae)) (aH aD bh rfl T.b_len Im (aa (qv 1) ae)) (az _)) (dU (dg (cM (ar (HC T) (hr.mono (by decide)) rfl T.g_zJ T.F_zJ.kp T.B_zJ (aa (qv 0) (aa (qv 4) ae)))))))))
  (ai (aA (aW ae)))
  aF)
  (af (aS (av (c7 hr.units) aU (bx (N2:=["_law_name","_law_stands"]) (nt:=1) (js:=[1]) (ck (sc:=ak uT)) rfl (aN (qv 4)) (fun s0 H0 fp ps=>⟨(au (i:=0) (show List.Nodup (["_law_name","_law_stands"]:List Str) by decide +kernel) rfl (by eq_refl)),(bD (av (bP hr.units) bC (qv 0) (qv 1) (by with_unfolding_all rfl))),(qv 0)⟩)) (aR ae) (az _))
  (ai (aA (aW ae)))
  aF)
  (af (aS (bu (cj (av (aQ hr.units) aU (qv 3) aL (az _)) (cc (av (bG hr.units) bC (qv 4) (ar (x6 T) (hr.mono (by decide)) rfl T.g_zO T.F_zO.kp T.B_zO (aa (qv 0) (aa (qv 1) ae))) (by with_unfolding_all rfl)))))
  (ai (aA (qv 4)))
  aF)
  (af (cE (i:=5) qt.nd rfl (by eq_refl) (N2:=["_law_u","_law_v","_law_names","_law_stands"]) (nt:=2) (js:=[4,1]) (ck (sc:=ak uT)) rfl (aN (aG (qv 0) ah (fun _ _=>rfl))) (fun s0 H0 fp ps=>⟨(c9 (n:=2) rfl (aV (au (i:=0) (show List.Nodup (["_law_u","_law_v","_law_names","_law_stands"]:List Str) by decide +kernel) rfl (by eq_refl)) (aV (au (i:=1) (show List.Nodup (["_law_u","_law_v","_law_names","_law_stands"]:List Str) by decide +kernel) rfl (by eq_refl)) b9))),(bD (bu (cj (av (bG hr.units) bC (qv 1) (qv 2) (by with_unfolding_all rfl)) (cj (av (bG hr.units) bC (qv 0) (qv 3) (by with_unfolding_all rfl)) (cc (av (bP hr.units) bC (qv 0) (qv 2) (by with_unfolding_all rfl))))))),(qv 0)⟩))
  (af (aS (bu (cj (av (aQ hr.units) aU (qv 3) aL (az _)) (cc (av (aQ hr.units) aU (qv 5) (aR ae) (az _)))))
  (ai (aA (qv 4)))
  aF)
  (ai (aA (aW ae))))))))),?_⟩)
 intro vs H Q E h;unfold iT at h;split at h
 ·rename_i a s v;obtain⟨c,ts,bs,S,⟨w,N⟩,hs,ok,rfl,rfl,hS,hl,hY,hN⟩:=h;have hl':N.length≤1000:=hl;have c6:=ok.c6;have t15:=ok.gt.len c6;have s6:=hS.len c6;obtain⟨q1,q2,e1,e2,e3⟩:=id hs;unfold aT;have no:∀{H2:PHp},U.Sub H H2->¬Vc c ts bs S w N->∃H0,U.Sub H0 H2/\Q (.tup []) H0:=fun s2 nb=>⟨H,s2,hN nb⟩;refine ao fun R hR=>?_;ac_rfl;subst hR;refine ao fun R hR=>?_;ac_rfl;rw[rS,rS];by_cases n0:N=[]
  ·subst n0;exact aE rfl ⟨ag (by decide),no (Sub.refl _) fun v=>v.ne rfl⟩
  refine aC (by simpa using n0) ?_;by_cases lt:S.length≤N.length
  ·exact aE (by simp;omega) ⟨ag (by decide),no (Sub.refl _) fun v=>by have:=v.lt;omega⟩
  refine aC (by simp;omega) ⟨c,ts,bs,N,hs,rfl,hl',fun nN=>?_,fun nn=>⟨ag (by decide),no (Sub.refl _) fun v=>nn v.nms⟩⟩;subst hR;have n6:=nN.len c6;refine ao fun R hR=>?_;ac_rfl;intro p1 hp1;refine aJ (fun y=>y) (onI fun y=>!decide (y∈S)) (fun σ=>∃z,σ=[z,some (.tup (S.map PV.int))]) (by rw[rS];omega) (fun _=>trivial) ?_ ?_ ⟨_,rfl⟩
  ·rintro y hy l σ R ⟨z,rfl⟩ hl kT kF;obtain⟨k,hk,rfl⟩:=Bc.mp hy;have e:onI (fun y=>!decide (y∈S)) (PV.int k)=!decide (k∈S):=rfl;rw[e]at kT kF;ac_rfl;refine⟨ay,?_⟩;simp only[aX];by_cases m:k∈S
   ·exact aC (by simp[m]) (kF (by simp[m]) _ ⟨_,rfl⟩)
   ·exact aE (by simp[m]) ⟨hl,by rw[aI];exact kT (by simp[m]) _ ⟨_,rfl⟩⟩
  rw[bF];have s1:=(Sub.refl H).put (o:=.lst ((N.filter fun y=>!decide (y∈S)).map PV.int)) hp1;refine⟨ag (by decide),fun p2 hp2=>?_⟩;have n12:p1≠p2:=fun e=>by subst e;rw[aj]at hp2;cases hp2
  have s2:=s1.put (o:=.lst []) (s1.free hp2);refine⟨_,(aq n12).trans aj,ay,?_⟩;have ed:deq (.fls ((N.filter fun y=>!decide (y∈S)).map PV.int)) (.fls [])=decide ((N.filter fun y=>!decide (y∈S))=[]):=by rw[deq];exact eZ
  rw[ed];have ek:(N.filter (fun y=>!decide (y∈S))=[])↔∀x∈N,x∈S:=by
   rw[List.filter_eq_nil_iff];exact⟨fun z x hx=>by simpa using z x hx,fun z x hx=>by simpa using z x hx⟩
  generalize put (put H p1 _) p2 _=H2 at *;by_cases hk:N.filter (fun y=>!decide (y∈S))=[]
  ·refine aC (by simp[hk]) ?_;have sub:=ek.mp hk;clear ed ek hk;subst hR;refine ao fun R hR=>?_;have rest:∀H3,U.Sub H H3->¬(w="lump"/\∃x∈S,LA bs S x N)->R { nx:=fun x H=>∃H3,U.Sub H3 H/\Q PV.non H3,rt:=fun v H=>∃H3,U.Sub H3 H/\Q v H3 } [some (.ref a),some (.tup (S.map PV.int)),some (.tup [.str w,.tup (N.map PV.int)]),some (.str w),some (.tup (N.map PV.int)),none] H3:=by
    intro H3 s3 nl;subst hR;refine ao fun R hR=>?_;ac_rfl;refine⟨_,s3 _ _ e1,?_⟩;rw[wG];ac_rfl;refine⟨_,s3 _ _ e2,fun acc hacc=>?_⟩;refine aJ g0 (onP (eD S N)) (fun σ=>∃z1 z2,σ=[z1,z2,some (.tup (N.map PV.int)),some (.tup (S.map PV.int))]) (by rw[rS];omega) (fun _=>(aq (ax (s3 _ _ e2) hacc)).trans (s3 _ _ e2)) ?_ ?_ ⟨_,_,rfl⟩
    ·rintro y hy l σ R ⟨z1,z2,rfl⟩ hl kT kF;obtain⟨p,hp,rfl⟩:=Bc.mp hy;rw[gM]at kT kF;unfold prV at *;ac_rfl;refine⟨ay,?_⟩;simp only[aX];refine bK (fun m1=>⟨ay,?_⟩) (fun m1=>kF (by simp[eD,m1]) _ ⟨_,_,rfl⟩)
     try simp only[aX]
     refine bK (fun m2=>⟨ay,?_⟩) (fun m2=>kF (by simp[eD,m2]) _ ⟨_,_,rfl⟩)
     try simp only[aX]
     by_cases m3:p.1∈N
     ·exact aC (by simp[m3]) (kF (by simp[eD,m3]) _ ⟨_,_,rfl⟩)
     ·exact aE (by simp[m3]) ⟨hl,by rw[aI];exact kT (by simp[eD,m1,m2,m3]) _ ⟨_,_,rfl⟩⟩
    rw[ko];subst hR;have s4:=s3.put (o:=.lst (((ts.filter (eD S N)).map (·.1)).map PV.int)) (s3.free hacc);have i4:put H3 acc (.lst (((ts.filter (eD S N)).map (·.1)).map PV.int)) acc=some (.lst (((ts.filter (eD S N)).map (·.1)).map PV.int)):=aj;generalize put H3 acc (.lst (((ts.filter (eD S N)).map (·.1)).map PV.int))=H4 at *;ac_rfl;by_cases wu:w="up"
    ·subst wu;refine aE rfl ⟨ag (by decide),fun p5 hp5=>⟨_,(aq (ax i4 hp5)).trans i4,ay,?_⟩⟩;rw[eZ];have s5:=s4.put (o:=.lst []) (s4.free hp5);refine bK (fun q=>⟨H,s5,hY ⟨nN,n0,show N.length<S.length by omega,sub,.inr ⟨rfl,nU.mp q⟩⟩⟩) (fun q=>⟨ag (by decide),no s5 fun v=>v.ok.elim (fun z=>nl z) (fun z=>q (nU.mpr z.2))⟩)
    ·exact aC (by simpa using wu) ⟨ag (by decide),no s4 fun v=>v.ok.elim (fun z=>nl z) (fun z=>wu z.1)⟩
   ac_rfl;by_cases wl:w="lump"
   ·refine aE (by simp[wl]) ⟨c,ts,bs,S,hs.up s2,ok,.inl rfl,hS,fun r Ls H3 s3 er lm l6=>⟨_,er,?_⟩⟩;rw[pX];refine⟨jO,cZ,bK (fun q=>⟨H,s2.trans s3,hY ⟨nN,n0,show N.length<S.length by omega,sub,.inl ⟨wl,(gZ lm).mp q⟩⟩⟩) (fun q=>rest H3 (s2.trans s3) fun z=>q ((gZ lm).mpr z.2))⟩
   ·exact aC (by simpa using wl) (rest H2 s2 fun z=>wl z.1)
  ·exact aE (by simp[hk]) ⟨ag (by decide),no s2 fun v=>hk (ek.mpr v.sub)⟩
 ·exact h.elim
theorem FX(T:Tx K mg t):aO P w K mg base CX0 4 t.a_zd t.d_zd ["_law_shape","_law_stands","_law_lump"] fA:=by
 refine okU (k:=3) T.F_zd p0 (fun vs H Q E h=>by
  unfold fA at h;split at h
  ·rfl
  ·exact h.elim) (fun cdv A outer s H E B hr=>⟨_,(af (aw (i:=3) p0.nd rfl (by eq_refl) (aR ae))
  (af (bA Ik rfl (bW rfl T.b_range (aa (AY ah (aH aD bh rfl T.b_len Im (aa (qv 1) ae))) ae)) (au (i:=4) p0.nd rfl (by eq_refl))
  (af (aw (i:=5) p0.nd rfl (by eq_refl) (aM aK a9 rfl T.b_tuple Jh (aa (vT (N2:=["_law_k","_law_name","_law_bits"]) (nt:=2) (js:=[4]) (ck (sc:=ak vB)) rfl (uN rfl T.b_enumerate (aa (qv 1) ae)) (fun s0 H0 fp ps=>⟨(c9 (n:=2) rfl (aV (au (i:=0) (show List.Nodup (["_law_k","_law_name","_law_bits"]:List Str) by decide +kernel) rfl (by eq_refl)) (aV (au (i:=1) (show List.Nodup (["_law_k","_law_name","_law_bits"]:List Str) by decide +kernel) rfl (by eq_refl)) b9))),(bD (av (aQ hr.units) aU (bE (n9 (qv 2) (qv 0)) ah) ah (az _))),(qv 1)⟩)) ae)))
   (ai (aS (bu (cj (av (aQ hr.units) aU (bx (N2:=["_law_name","_law_names"]) (nt:=1) (js:=[5]) (ck (sc:=ak vB)) rfl (aN (qv 2)) (fun s0 H0 fp ps=>⟨(au (i:=0) (show List.Nodup (["_law_name","_law_names"]:List Str) by decide +kernel) rfl (by eq_refl)),(bD (av (bP hr.units) bC (qv 0) (qv 1) (by with_unfolding_all rfl))),(qv 0)⟩)) (aR ae) (az _)) (cc (av (c7 hr.units) aU (ar (Fb T) (hr.mono (by decide)) rfl T.g_ya T.F_ya.kp T.B_ya (aa (qv 0) (aa (qv 1) (aa (aW (aa aL (aa (qv 5) ae))) ae)))) (aW ae) (az _)))))
   (ai (a7 (cH IA IB bz bB (qv 3) (aa (aW (aa aL (aa (qv 5) ae))) ae))))
   aF))))
  (ai (aA (qv 3))))),?_⟩)
 intro vs H Q E h;unfold fA at h;split at h
 ·rename_i a s l;obtain⟨c,ts,bs,S,L,hs,ok,rfl,rfl,hS,lL,h⟩:=h;have c6:=ok.c6;have s6:=hS.len c6;refine ao fun R hR=>?_;ac_rfl;refine⟨ag (by decide),fun g hg=>?_⟩;subst hR;refine ao fun R hR=>?_;ac_rfl;rw[rS];have hP:(2:Int) ^ ((S.length:Nat):Int).toNat=((2 ^ S.length:Nat):Int):=by rw[Int.natCast_pow];rfl
  have p64:2 ^ S.length≤64:=IC (Nat.pow_le_pow_right (by decide) s6) (by decide);rw[hP];have en:(1*((2 ^ S.length:Nat):Int)).toNat=2 ^ S.length:=by rw[Int.one_mul];exact Je _
  rw[en];refine⟨⟨by omega,by omega,by decide⟩,⟨by omega,by omega⟩,?_⟩;refine fZ (fun i σ H2=>∃u1 u2,∃Ns:List (List Int),σ=[some (.ref a),some (.tup (S.map PV.int)),some (.tup (L.map PV.int)),some (.ref g),u1,u2]/\(U.Sub H H2/\H2 g=some (.lst (Ns.map fun N=>aT (upC N))))/\(∀N,N∈Ns↔((Vc c ts bs S "up" N/\∀y∈L,y∈N)/\∃b,b<i/\fK b S=N))/\Ns.length≤i) ?_ ?_ ⟨none,none,[],rfl,⟨(Sub.refl H).put hg,aj⟩,fun N=>⟨fun z=>(by cases z),fun y_=>by obtain⟨_,b,hb,_⟩:=y_;exact (by omega)⟩,by simp⟩
  ·rintro σ H2 ⟨u1,u2,Ns,rfl,⟨s2,g2⟩,hN,hl⟩;refine⟨trivial,?_⟩;subst hR;ac_rfl;refine⟨H2,Sub.refl _,h g H2 Ns hg s2 g2 (fun N=>(hN N).trans ⟨fun z=>z.1,fun z=>⟨z,?_⟩⟩) (by omega)⟩;exact lT (jF z.1.nms.up hS.up z.1.sub)
  ·rintro G i σ H2 hi ⟨u1,u2,Ns,rfl,⟨s2,g2⟩,hN,hl⟩ kk;have hi64:i<64:=by omega
   refine⟨trivial,?_⟩;refine ao fun R2 hR2=>?_;ac_rfl;show ∀acc,H2 acc=none->_;intro acc hacc;refine aJ g1 (uL ((i:Nat):Int)) (fun σ=>∃z1 z2,σ=[z1,z2,some (.int ((i:Nat):Int))]) (by rw[yR,rS];omega) (fun _=>trivial) ?_ ?_ ⟨_,_,rfl⟩
   ·rintro y hy l σ R ⟨z1,z2,rfl⟩ hl kT kF;obtain⟨k,x,rfl⟩:=xy hy;have e:uL ((i:Nat):Int) (.tup [.int (k:Nat),.int x])=((((i:Nat):Int) / 2 ^ ((k:Nat):Int).toNat).fmod 2==1):=rfl;rw[e]at kT kF;ac_rfl;refine⟨by omega,by decide,a8 (fun q=>⟨hl,by rw[aI];exact kT q _ ⟨_,_,rfl⟩⟩) (fun q=>kF q _ ⟨_,_,rfl⟩)⟩
   rw[yV];have sN:=lV S i;have eN:∀M,(∃b,b<i+1/\fK b S=M)↔((∃b,b<i/\fK b S=M)∨fK i S=M):=fun M=>⟨fun y_=>by
     obtain⟨b,hb,e⟩:=y_;by_cases q:b=i
     ·exact .inr (q▸e)
     ·exact .inl ⟨b,by omega,e⟩,fun z=>z.elim (fun y_=>by obtain⟨b,hb,e⟩:=y_;exact ⟨b,by omega,e⟩) fun e=>⟨i,by omega,e⟩⟩
   generalize hsel:fK i S=N at *;have nN:Nms c N:=⟨hS.up.sublist sN,fun x hx=>hS.lo x (sN.subset hx)⟩;have n6:=nN.len c6;refine⟨_,aj,?_⟩;have s3:U.Sub H (put H2 acc (.lst (N.map PV.int))):=s2.put (s2.free hacc);have g3:put H2 acc (.lst (N.map PV.int)) g=some (.lst (Ns.map fun N=>aT (upC N))):=(aq (ax g2 hacc)).trans g2;generalize put H2 acc (.lst (N.map PV.int))=H3 at *;subst hR2;have quit:∀H4,U.Sub H3 H4->¬(Vc c ts bs S "up" N/\∀y∈L,y∈N)->G [some (.ref a),some (.tup (S.map PV.int)),some (.tup (L.map PV.int)),some (.ref g),some (.int (i:Nat)),some (.tup (N.map PV.int))] H4:=fun H4 s4 nv=>kk _ _ ⟨_,_,Ns,rfl,⟨s3.trans s4,s4 _ _ g3⟩,fun M=>(hN M).trans ⟨fun z=>⟨z.1,(eN M).mpr (.inl z.2)⟩,fun z=>⟨z.1,((eN M).mp z.2).resolve_right fun e=>nv (e▸z.1)⟩⟩,by omega⟩;ac_rfl;intro p4 hp4;refine aJ (fun y=>y) (onI fun y=>!decide (y∈N)) (fun σ=>∃z,σ=[z,some (.tup (N.map PV.int))]) (by rw[rS];omega) (fun _=>trivial) ?_ ?_ ⟨_,rfl⟩
   ·rintro y hy l σ R ⟨z,rfl⟩ hl kT kF;obtain⟨k,hk,rfl⟩:=Bc.mp hy;have e:onI (fun y=>!decide (y∈N)) (PV.int k)=!decide (k∈N):=rfl;rw[e]at kT kF;ac_rfl;refine⟨ay,?_⟩;simp only[aX];by_cases m:k∈N
    ·exact aC (by simp[m]) (kF (by simp[m]) _ ⟨_,rfl⟩)
    ·exact aE (by simp[m]) ⟨hl,by rw[aI];exact kT (by simp[m]) _ ⟨_,rfl⟩⟩
   rw[bF];have s4:=(Sub.refl H3).put (o:=.lst ((L.filter fun y=>!decide (y∈N)).map PV.int)) hp4;refine⟨ag (by decide),fun p5 hp5=>?_⟩;have n45:p4≠p5:=fun e=>by subst e;rw[aj]at hp5;cases hp5
   have s5:=s4.put (o:=.lst []) (s4.free hp5);refine⟨_,(aq n45).trans aj,ay,?_⟩;have ed:deq (.fls ((L.filter fun y=>!decide (y∈N)).map PV.int)) (.fls [])=decide ((L.filter fun y=>!decide (y∈N))=[]):=by rw[deq];exact eZ
   rw[ed];have ek:(L.filter (fun y=>!decide (y∈N))=[])↔∀x∈L,x∈N:=by
    rw[List.filter_eq_nil_iff];exact⟨fun z x hx=>by simpa using z x hx,fun z x hx=>by simpa using z x hx⟩
   generalize put (put H3 p4 _) p5 _=H5 at *;refine bK (fun hk=>⟨ag (by decide),c,ts,bs,S,upC N,hs.up (s3.trans s5),ok,rfl,rfl,hS,show N.length≤1000 by omega,fun v=>⟨ag (by decide),ay,?_⟩,fun nv=>⟨ag (by decide),quit H5 s5 fun z=>nv z.1⟩⟩) (fun hk=>quit H5 s5 fun z=>hk (ek.mpr z.2));have v':Vc c ts bs S "up" N:=v;refine aE (by rw[eZ];simp[v'.ne]) ⟨⟨_,s5 _ _ g3⟩,ag (by decide),_,s5 _ _ g3,aZ (by rw[rS];omega),kk _ _ ⟨_,_,Ns++[N],rfl,⟨(s3.trans s5).put hg,by rw[aj,Ie];rfl⟩,fun M=>?_,by rw[wW,Ip];omega⟩⟩;rw[zi,xI,hN,eN];constructor
   ·rintro(z | z)
    ·exact⟨z.1,.inl z.2⟩
    ·subst z;exact⟨⟨v',ek.mp hk⟩,.inr rfl⟩
   ·rintro⟨z1,z2 | z2⟩
    ·exact .inl ⟨z1,z2⟩
    ·exact .inr z2.symm
 ·exact h.elim
theorem HF(T:Tx K mg t):aO P w K mg base CX0 5 t.a_zT t.d_zT ["_law_shape","_law_lump","_law_number"] jf:=by
 refine okU (k:=4) T.F_zT iH (fun vs H Q E h=>by
  unfold jf at h;split at h
  ·rfl
  ·exact h.elim) (fun cdv A outer s H E B hr=>⟨_,(af (aw (i:=3) iH.nd rfl (by eq_refl) (ar (xq T) (hr.mono (by decide)) rfl T.g_zn T.F_zn.kp T.B_zn (aa (qv 0) (aa (px rfl rfl T.b_list rfl T.b_range boot_list (aG (qv 0) ah (fun _ _=>rfl))) (aa (qv 1) ae)))))
  (af (aw (i:=4) iH.nd rfl (by eq_refl) (aR ae))
  (af (jx Ik (av (c7 hr.units) aU (qv 3) (qv 1) (az _))
  (af (aw (i:=5) iH.nd rfl (by eq_refl) (ar (FX T) (hr.mono (by decide)) rfl T.g_zd T.F_zd.kp T.B_zd (aa (qv 0) (aa (qv 3) (aa (qv 1) ae)))))
   (af (aw (i:=6) iH.nd rfl (by eq_refl) (ar (xq T) (hr.mono (by decide)) rfl T.g_zn T.F_zn.kp T.B_zn (aa (qv 0) (aa (qv 3) (aa (qv 1) ae)))))
   (af (aS (av (c7 hr.units) aU (qv 6) (qv 3) (az _))
   (ai (aw (i:=5) iH.nd rfl (by eq_refl) (de (qv 5) (aR (aa (aW (aa aL (aa (qv 6) ae))) ae)))))
   aF)
   (af (aS (av (aQ hr.units) aU (aH aD bh rfl T.b_len Im (aa (qv 5) ae)) ah (az _))
   (ai (aA (aR (aa (qv 4) (aa (qv 3) ae)))))
   aF)
   (af (a7 (cH IA IB bz bB (qv 4) (aa (aG (qv 5) (bE (qv 2) (aH aD bh rfl T.b_len Im (aa (qv 5) ae))) (fun _ _=>rfl)) ae)))
   (af (aw (i:=2) iH.nd rfl (by eq_refl) (bN (qv 2) (aH aD bh rfl T.b_len Im (aa (qv 5) ae))))
   (ai (aw (i:=3) iH.nd rfl (by eq_refl) (aG (aG (qv 4) (eY ah) (fun _ _=>rfl)) ah (fun _ _=>rfl)))))))))))
  (ai (aA (aR (aa (qv 4) (aa (qv 1) ae)))))))),?_⟩)
 intro vs H Q E h;unfold jf at h;split at h
 ·rename_i a l n;obtain⟨c,ts,bs,x0,R0,hs,ok,rfl,cn,h⟩:=h;have c1:=ok.c1;have c6:=ok.c6;have hd:=cn.nms.lo x0 cn.hd;obtain⟨q1,q2,e1,e2,e3⟩:=id hs;generalize hL:x0::R0=L0 at *;have up0:∀y∈L0,y∈ulN c:=fun y hy=>b0.mpr (cn.nms.lo y hy);have xu:=b0.mpr hd;refine ao fun R hR=>?_;ac_rfl;refine⟨_,e1,?_⟩;rw[iD];ac_rfl;refine⟨by omega,by omega,fun p hp=>?_⟩;rw[fO];have s1:=(Sub.refl H).put (o:=.lst ((ulN c).map PV.int)) hp;refine⟨c,ts,bs,ulN c,x0,R0,hs.up s1,ok,.inr ⟨p,rfl,aj⟩,by rw[←hL];rfl,dD,xu,fun S0 la=>?_⟩;subst hR;generalize put H p (.lst ((ulN c).map PV.int))=H1 at *;have n0:=la.nms dD xu;refine ao fun R hR=>?_;ac_rfl;refine⟨ag (by decide),fun g hg=>?_⟩;subst hR;have hgH:=s1.free hg;refine ao fun R hR=>?_;refine rV fun Rb hRb=>?_;refine gD (fun m σ H2=>∃n' u1 u2,∃St:List Int,∃cs:List Cu,σ=[some (.ref a),some (.tup (L0.map PV.int)),some (.int n'),some (.tup (St.map PV.int)),some (.ref g),u1,u2]/\(U.Sub H H2/\H2 g=some (.lst (cs.map aT)))/\Nms c St/\(∀y∈L0,y∈St)/\iL ts bs L0 x0 St/\(∀q∈cs,q.2.length≤6)/\cs.length+St.length≤6/\m=St.length) _ ⟨n,none,none,S0,[],rfl,⟨s1.put hgH,aj⟩,n0,cn.into up0 la,(v7 ok.gb hd).lump la,by simp,by have:=n0.len c6;simpa using this,rfl⟩ ?_;rintro m σ H2 ⟨n',u1,u2,St,cs,rfl,⟨s2,g2⟩,nS,lS,hold,lq6,len6,rfl⟩;ac_rfl;rw[bV];refine⟨ay,ay,?_⟩;by_cases eq:St=L0
  ·refine aC (by simp[eq]) ?_;subst hR;ac_rfl;refine⟨ag (by decide),fun r hr=>⟨_,Sub.refl _,h r g _ cs L0 (s2.put (s2.free hr)) aj ((aq (ax g2 hr)).trans g2) (by omega) lq6 ⟨cn.nms,cn.stk,eq▸hold⟩⟩⟩
  ·refine aE (by simp[eq]) (GN fun N bk hN=>?_);subst hRb;have x0S:=lS _ cn.hd;refine ao fun R2 hR2=>?_;ac_rfl;refine⟨c,ts,bs,St,L0,hs.up s2,ok,rfl,rfl,nS,cn.nms.len c6,fun r H3 Ns fr s3 r3 hNs lN=>?_⟩;subst hR2;refine ao fun R2 hR2=>?_;ac_rfl;refine⟨c,ts,bs,St,x0,R0,(hs.up s2).up s3,ok,.inl rfl,by rw[←hL];rfl,nS,x0S,fun M la2=>?_⟩;subst hR2;have g3:=s3 _ _ g2;have nM:=la2.nms nS x0S;refine ao fun R2 hR2=>?_;have go:∀(rr:Addr) (ws:List Cu) (H4:PHp),U.Sub H H4->H4 g=some (.lst (cs.map aT))->H4 rr=some (.lst (ws.map aT))->g≠rr->(∀q∈ws,Vc c ts bs St q.1 q.2/\∀y∈L0,y∈q.2)->(ws=[]->Fin c ts bs L0 x0 St)->ws.length≤65 ->
     R2 { nx:=N,rt:=fun v H=>∃H3,U.Sub H3 H/\Q v H3,bk:=bk,ct:=N } [some (.ref a),some (.tup (L0.map PV.int)),some (.int n'),some (.tup (St.map PV.int)),some (.ref g),some (.ref rr),some (.tup (M.map PV.int))] H4:=by
    intro rr ws H4 s4 g4 r4 ngr hw hfin lw;subst hR2;refine ao fun R2 hR2=>?_;ac_rfl;refine⟨_,r4,?_⟩;by_cases w0:ws=[]
    ·subst w0;refine aE rfl ⟨ag (by decide),fun r5 hr5=>⟨_,Sub.refl _,h r5 g _ cs St (s4.put (s4.free hr5)) aj ((aq (ax g4 hr5)).trans g4) (by omega) lq6 (hfin rfl)⟩⟩
    refine aC (by simpa using w0) ?_;subst hR2;have wl:0<ws.length:=List.length_pos_iff.mpr w0;refine ao fun R2 hR2=>?_;ac_rfl;refine⟨⟨_,g4⟩,_,r4,by rw[rS];omega,_,r4,?_⟩;rw[rS];have bj:=fm (a:=n') (b:=(ws.length:Nat)) (by omega);obtain⟨j,hj⟩:∃j:Nat,n'.fmod (ws.length:Nat)=(j:Nat):=⟨(n'.fmod (ws.length:Nat)).toNat,by omega⟩;rw[hj]at bj ⊢;have jl:j<ws.length:=by omega
    rw[eC (by rw[rS];exact jl),Il];have hm:=hw _ (Ii jl);generalize ws[j]=q at *;have vlt:=hm.1.lt;refine⟨_,g4,aZ (by rw[rS];omega),?_⟩;have ea:cs.map aT++[aT q]=(cs++[q]).map aT:=by rw[Ie];rfl
    rw[ea];subst hR2;have s5:U.Sub H (put H4 g (.lst ((cs++[q]).map aT))):=s4.put hgH;have g5:put H4 g (.lst ((cs++[q]).map aT)) g=some (.lst ((cs++[q]).map aT)):=aj;have r5:put H4 g (.lst ((cs++[q]).map aT)) rr=some (.lst (ws.map aT)):=(aq ngr.symm).trans r4;generalize put H4 g (.lst ((cs++[q]).map aT))=H5 at *;refine ao fun R2 hR2=>?_;ac_rfl;refine⟨_,r5,eE (by rw[rS];omega) (by rw[rS];omega),?_⟩;subst hR2;ac_rfl;refine⟨_,g5,?_⟩;rw[←ea,mn];unfold aT at *;ac_rfl;exact hN _ _ ⟨q.2.length,vlt,_,_,_,q.2,cs++[q],rfl,⟨s5,g5⟩,hm.1.nms,hm.2,hm.1.keep hold cn.hd hm.2,fun z hz=>(zi.mp hz).elim (lq6 z) fun e=>(by rw[xI]at e;rw[e];exact hm.1.nms.len c6),by rw[wW,Ip];omega,rfl⟩
   ac_rfl;rw[bV];refine⟨ay,ay,?_⟩;have e3:Ns.map (fun N=>aT (upC N))=(Ns.map upC).map aT:=by rw[IV];rfl
   have hU:∀q∈Ns.map upC,Vc c ts bs St q.1 q.2/\∀y∈L0,y∈q.2:=fun q hq=>by
    obtain⟨N,hN,rfl⟩:=Bc.mp hq;exact(hNs N).mp hN
   have ngr:g≠r:=fun e=>by subst e;rw[g2]at fr;cases fr
   have r3':H3 r=some (.lst ((Ns.map upC).map aT)):=r3.trans (by rw[←e3]);by_cases eM:M=St
   ·refine aC (by simp[eM]) (go r (Ns.map upC) H3 (s2.trans s3) g3 r3' ngr hU (fun z=>?_) (by rw[rS];omega));rw[List.map_eq_nil_iff]at z;exact tL cn nS lS hold (fun N w=>by have:=(hNs N).mpr w;rw[z]at this;cases this) (eM▸la2) (Cd cn.nms nS lS)
   ·have v2:Vc c ts bs St "lump" M:=⟨nM,fun e=>(by have:=la2.self;rw[e]at this;cases this),kx nM nS (la2.sub x0S) eM,la2.sub x0S,.inl ⟨rfl,x0,x0S,la2⟩⟩;refine aE (by simp[eM]) ⟨ag (by decide),ag (by decide),fun p5 hp5=>⟨_,_,(aq (ax r3 hp5)).trans r3',rfl,ag (by rw[rS,rS];simp;omega),fun p6 hp6=>?_⟩⟩;have ea:(Ns.map upC).map aT++[PV.tup [.str "lump",.tup (M.map PV.int)]]=(Ns.map upC++[lpC M]).map aT:=by rw[Ie (l₁:=Ns.map upC)];rfl
    rw[ea];have s5:U.Sub H3 (put H3 p5 (.lst [PV.tup [.str "lump",.tup (M.map PV.int)]])):=(Sub.refl H3).put hp5;have s6:=s5.put (o:=.lst ((Ns.map upC++[lpC M]).map aT)) (s5.free hp6);refine go p6 (Ns.map upC++[lpC M]) _ ((s2.trans s3).trans s6) (s6 _ _ g3) aj (ax g3 (s5.free hp6)) (fun q hq=>?_) (fun z=>by simp at z) (by rw[wW,rS];simp;omega);rcases zi.mp hq with hq | hq
    ·exact hU q hq
    ·rw[xI]at hq;subst hq;exact⟨v2,cn.into lS la2⟩
 ·exact h.elim
theorem GQ(T:Tx K mg t):aO P w K mg base CX0 6 t.a_zU t.d_zU ["_law_shape","_law_question_here","_law_paper_here"] fY:=by
 refine okU (k:=5) T.F_zU jM (fun vs H Q E h=>by
  unfold fY at h;split at h
  ·rfl
  ·exact h.elim) (fun cdv A outer s H E B hr=>⟨_,(af (aw (i:=3) jM.nd rfl (by eq_refl) (ar (x6 T) (hr.mono (by decide)) rfl T.g_zO T.F_zO.kp T.B_zO (aa (qv 0) (aa (ar (CK T) (hr.mono (by decide)) rfl T.g_zI T.F_zI.kp T.B_zI (aa (qv 0) (aa (qv 1) ae))) ae))))
  (af (aS (av (c7 hr.units) aU (bx (N2:=["_law_row"]) (nt:=1) (js:=[]) (ck (sc:=ak wX)) rfl (aN (qv 2)) (fun s0 H0 fp ps=>⟨(au (i:=0) (show List.Nodup (["_law_row"]:List Str) by decide +kernel) rfl (by eq_refl)),bO,(aG (qv 0) ah (fun _ _=>rfl))⟩)) (qv 3) (az _))
  (ai (aA df))
  aF)
  (af (bA Ik rfl (aN (qv 2)) (c9 (n:=2) rfl (aV (au (i:=4) jM.nd rfl (by eq_refl)) (aV (au (i:=5) jM.nd rfl (by eq_refl)) b9)))
  (af (aw (i:=6) jM.nd rfl (by eq_refl) (ar (xq T) (hr.mono (by decide)) rfl T.g_zn T.F_zn.kp T.B_zn (aa (qv 0) (aa (px rfl rfl T.b_list rfl T.b_range boot_list (aG (qv 0) ah (fun _ _=>rfl))) (aa (qv 4) ae)))))
   (af (bA Ik rfl (aN (qv 5)) (au (i:=7) jM.nd rfl (by eq_refl))
   (af (aw (i:=6) jM.nd rfl (by eq_refl) (ar (Fb T) (hr.mono (by decide)) rfl T.g_ya T.F_ya.kp T.B_ya (aa (qv 0) (aa (qv 6) (aa (qv 7) ae)))))
    (ai (aS (av (aQ hr.units) aU (qv 6) (aW ae) (az _))
    (ai (aA df))
    aF))))
   (ai (aS (av (c7 hr.units) aU (qv 6) (qv 4) (az _))
   (ai (aA df))
   aF)))))
  (ai (aA df))))),?_⟩)
 intro vs H Q E h;unfold fY at h;split at h
 ·rename_i a v l;obtain⟨c,ts,bs,A,B,rows,hs,ok,rfl,rfl,hq,lr,lc,h⟩:=h;have c1:=ok.c1;have c6:=ok.c6;unfold qV at *;refine ao fun R hR=>?_;ac_rfl;refine⟨c,ts,bs,A,B,hs,ok,rfl,hq,fun W wup wiff=>⟨c,ts,bs,W,hs,ok,.inl rfl,dN hq wup wiff,fun r Ls H2 s2 er lm l6=>?_⟩⟩;subst hR;have wn:Wnt c ts bs A B W Ls:=⟨dN hq wup wiff,wiff,lm⟩;have no:∀{H3:PHp},U.Sub H H3->¬Lets c ts bs Ls rows->∃H0,U.Sub H0 H3/\Q (.bl false) H0:=fun s3 nb=>⟨H,s3,h W Ls false wn ⟨fun q=>(by cases q),fun q=>absurd q nb⟩⟩;refine ao fun R hR=>?_;ac_rfl;intro p3 hp3;refine aJ wj (fun _=>true) (fun σ=>∃z,σ=[z]) (by rw[rS];omega) (fun _=>trivial) ?_ ?_ ⟨_,rfl⟩
  ·rintro y hy l σ R ⟨z,rfl⟩ hl kT kF;obtain⟨w,hw,rfl⟩:=Bc.mp hy;have ew:br w=.tup [.tup (w.1.map PV.int),.tup (w.2.map aT)]:=rfl;have ef:wj (br w)=.tup (w.1.map PV.int):=rfl;rw[ef]at kT;rw[ew];ac_rfl;exact⟨hl,by rw[aI];exact kT rfl _ ⟨_,rfl⟩⟩
  rw[kH];have s3:=s2.put (o:=.lst ((rows.map (·.1)).map tupI)) (s2.free hp3);refine⟨_,aj,_,(aq (ax er hp3)).trans er,cZ,cZ,?_⟩;have ed:deq (.fls ((rows.map (·.1)).map tupI)) (.fls (Ls.map tupI))=decide (rows.map (·.1)=Ls):=by rw[deq];exact ig
  rw[ed];generalize put H2 p3 (.lst ((rows.map (·.1)).map tupI))=H3 at *;by_cases em:rows.map (·.1)=Ls
  ·refine aC (by simp[em]) ?_;subst hR;refine ao fun R hR=>?_;ac_rfl;refine bI (fun i σ H4=>∃u1 u2 u3 u4,σ=[some (.ref a),some (.tup [.tup (A.map PV.int),.tup (B.map PV.int)]),some (.tup (rows.map br)),some (.ref r),u1,u2,u3,u4]/\U.Sub H H4/\∀p∈rows.take i,gk c ts bs p) ?_ ?_ ⟨none,none,none,none,rfl,s3,by simp⟩
   ·rintro σ H4 ⟨u1,u2,u3,u4,rfl,s4,hp⟩;rw[rS,Iy]at hp;refine⟨trivial,?_⟩;subst hR;ac_rfl;exact⟨H,s4,h W Ls true wn ⟨fun _=>⟨em,hp⟩,fun _=>rfl⟩⟩
   ·rintro G i y σ H4 hy ⟨u1,u2,u3,u4,rfl,s4,hp⟩ kk;refine⟨trivial,?_⟩;obtain⟨hi,e⟩:=vM.mp hy;rw[rS]at hi;rw[Il]at e;subst e;have hm:rows[i]∈rows:=Ii hi;have tk:rows.take (i+1)=rows.take i++[rows[i]]:=by rw[IG,sH hi];rfl
    generalize rows[i]=w at *;obtain⟨L0,cs⟩:=w;have hL:L0∈Ls:=by rw[←em];exact Bc.mpr ⟨_,hm,rfl⟩
    obtain⟨x0,R0,eL⟩:=wn.ne hL;have cn:=wn.cn hL (x0:=x0) (by rw[eL];exact xP);have hd:=cn.nms.lo x0 cn.hd;have xu:=b0.mpr hd;have lcs:=lc _ hm;have ew:br (L0,cs)=.tup [.tup (L0.map PV.int),.tup (cs.map aT)]:=rfl;rw[ew];obtain⟨q1,q2,e1,e2,e3⟩:=id hs;simp only[Bt,De,Dg,gi,List.set_cons_zero,List.set_cons_succ,Ih,List.length_nil,Nat.zero_add,Nat.reduceAdd,true_and];refine ao fun R2 hR2=>?_;ac_rfl;refine⟨_,s4 _ _ e1,?_⟩;rw[iD];ac_rfl;refine⟨by omega,by omega,fun p5 hp5=>?_⟩;rw[fO];have s5:=s4.put (o:=.lst ((ulN c).map PV.int)) (s4.free hp5);refine⟨c,ts,bs,ulN c,x0,R0,hs.up s5,ok,.inr ⟨p5,rfl,aj⟩,by rw[eL];rfl,dD,xu,fun S0 la=>?_⟩;generalize put H4 p5 (.lst ((ulN c).map PV.int))=H5 at *;subst hR2;have n0:=la.nms dD xu;have hdz:∀z,L0.head?=some z->z=x0:=fun z hz=>by rw[eL]at hz;exact(IH hz).symm
    have nol:¬(dq c ts bs S0 cs/\stA S0 cs=L0)->¬Lets c ts bs Ls rows:=fun z q=>z (q.2 _ hm x0 S0 (by rw[eL];rfl) la);refine ao fun R2 hR2=>?_;ac_rfl;refine bI (fun j σ H6=>∃u4,σ=[some (.ref a),some (.tup [.tup (A.map PV.int),.tup (B.map PV.int)]),some (.tup (rows.map br)),some (.ref r),some (.tup (L0.map PV.int)),some (.tup (cs.map aT)),some (.tup ((stA S0 (cs.take j)).map PV.int)),u4]/\U.Sub H H6/\Nms c (stA S0 (cs.take j))/\∀(k:Nat) (p:Cu),k<j->cs[k]?=some p->Vc c ts bs (stA S0 (cs.take k)) p.1 p.2) ?_ ?_ ⟨_,rfl,s5,n0,fun k p hk=>by omega⟩
    ·rintro σ H6 ⟨u4,rfl,s6,nS,hv⟩;rw[rS,Iy]at *;refine⟨trivial,?_⟩;subst hR2;ac_rfl;rw[bV];have run:dq c ts bs S0 cs:=fun k p hk=>hv k p (vM.mp hk).1 hk;refine⟨ay,ay,?_⟩;by_cases es:stA S0 cs=L0
     ·refine aC (by simp[es]) (kk _ _ ⟨_,_,_,_,rfl,s6,fun p hp'=>?_⟩);rw[tk]at hp';rcases zi.mp hp' with hp' | hp'
      ·exact hp p hp'
      ·rw[xI]at hp';subst hp';intro z S1 hz la1;rw[hdz z hz]at la1;rw[la1.one la];exact⟨run,es⟩
     ·exact aE (by simp[es]) (no s6 (nol fun z=>es z.2))
    ·rintro G' j z σ H6 hz ⟨u4,rfl,s6,nS,hv⟩ kk';refine⟨trivial,?_⟩;obtain⟨hj,e⟩:=vM.mp hz;rw[rS]at hj;rw[Il]at e;subst e;have hjx:cs[j]?=some cs[j]:=sH hj;have tj:cs.take (j+1)=cs.take j++[cs[j]]:=by rw[IG,hjx];rfl
     have lq:=lcs.2 _ (Ii hj);generalize cs[j]=q at *;refine ao fun R3 hR3=>?_;ac_rfl;refine⟨c,ts,bs,stA S0 (cs.take j),q,hs.up s6,ok,rfl,rfl,nS,by omega,fun v=>?_,fun nv=>?_⟩
     ·subst hR3;ac_rfl;rw[eZ];refine⟨ag (by decide),ay,aC (by simp[v.ne]) (kk' _ _ ⟨_,by rw[tj,dc],s6,by rw[tj,dc];exact v.nms,fun k p hk hp'=>?_⟩)⟩;by_cases ek:k=j
      ·subst ek;rw[hjx]at hp';cases hp';exact v
      ·exact hv k p (by omega) hp'
     ·subst hR3;ac_rfl;refine⟨ag (by decide),no s6 (nol fun z=>nv (z.1 j q hjx))⟩
  ·exact aE (by simp[em]) (no s3 fun q=>em q.1)
 ·exact h.elim
theorem EC(T:Tx K mg t):aO P w K mg base CX0 1 t.a_zM t.d_zM ["names","stands"] fG:=by
 refine okU (k:=0) T.F_zM DL (fun vs H Q E h=>by
  unfold fG at h;split at h
  ·rfl
  ·exact h.elim) (fun cdv A outer s H E B hr=>⟨_,(ai (aA (ip (cg fg eO (aH aD bh rfl T.b_len Im (aa (qv 0) ae)) (aH aD bh rfl T.b_len Im (aa (qv 1) ae)) (az _)) (ij (aH (jP rfl) o3 rfl T.b_all boot_all (aa (bx (N2:=["name","stands"]) (nt:=1) (js:=[1]) (ck (sc:=ak xR)) rfl (aN (qv 0)) (fun s0 H0 fp ps=>⟨(au (i:=0) (show List.Nodup (["name","stands"]:List Str) by decide +kernel) rfl (by eq_refl)),bO,(cg (bG hr.units) bC (qv 0) (qv 1) (by with_unfolding_all rfl))⟩)) ae)))))),?_⟩)
 intro vs H Q E h;unfold fG at h;split at h
 ·rename_i l m;obtain⟨A,B,rfl,rfl,hl,h⟩:=h;ac_rfl;rw[rS,rS];by_cases hlt:A.length<B.length
  ·refine aE (by simpa using hlt) ?_;show ∀acc,H acc=none->_;intro acc hacc;refine aJ (onB B) (fun _=>true) (fun σ=>∃z,σ=[z,some (.tup (B.map PV.int))]) (by rw[rS];exact hl) (fun _=>trivial) ?_ ?_ ⟨_,rfl⟩
   ·rintro y hy l σ R ⟨z,rfl⟩ hl kT kF;obtain⟨k,hk,rfl⟩:=Bc.mp hy;ac_rfl;refine⟨ay,?_⟩;simp only[aX];exact⟨hl,by rw[aI];exact kT rfl _ ⟨_,rfl⟩⟩
   rw[vn];refine⟨_,aj.trans rfl,H,Sub.put (Sub.refl _) hacc,h _ ?_⟩;rw[lh];exact⟨fun q=>⟨hlt,q⟩,fun q=>q.2⟩
  ·exact aC (by simpa using hlt) ⟨H,Sub.refl _,h _ ⟨fun q=>(by cases q),fun q=>absurd q.1 hlt⟩⟩
 ·exact h.elim
theorem Ho(T:Tx K mg t):aO P w K mg base CX0 3 t.a_zg t.d_zg ["drawing","names","stands"] (fx t):=by
 refine okU (k:=2) T.F_zg AB (fun vs H Q E h=>by
  unfold fx at h;split at h
  ·rfl
  ·exact h.elim) (fun cdv A outer s H E B hr=>⟨_,(af (bA Ik rfl (aN (qv 1)) (au (i:=3) AB.nd rfl (by eq_refl))
  (ai (aS (cM (aH (vz rfl) AH rfl T.b_any boot_any (aa (bx (N2:=["source","stands","names"]) (nt:=1) (js:=[2,1]) (ck (sc:=ak xp)) rfl (aN (bT (qv 0) T.cl_D T.m_zf (D1 T) (hr.mono (by decide)) T.B_zf (aa (qv 3) ae))) (fun s0 H0 fp ps=>⟨(au (i:=0) (show List.Nodup (["source","stands","names"]:List Str) by decide +kernel) rfl (by eq_refl)),bO,(ip (cg (bG hr.units) bC (qv 0) (qv 1) (by with_unfolding_all rfl)) (ij (cg (bP hr.units) bC (qv 0) (qv 2) (by with_unfolding_all rfl))))⟩)) ae)))
   (ai (aA df))
   aF)))
  (ai (aA df))),?_⟩)
 intro vs H Q E h;unfold fx at h;split at h
 ·rename_i x l m;obtain⟨c,ts,bs,N,S,⟨dx,hx⟩,ok,rfl,rfl,hN,h⟩:=h;have t15:=ok.gt.len ok.c6;ac_rfl;refine bI (fun i σ H2=>∃z,σ=[some (.ref x),some (.tup (N.map PV.int)),some (.tup (S.map PV.int)),z]/\U.Sub H H2/\∀v∈N.take i,∀u,(u,v)∈ts->u∈S->u∈N) ?_ ?_ ⟨none,rfl,Sub.refl _,by simp⟩
  ·rintro σ H2 ⟨z,rfl,s2,hs⟩;rw[rS,Iy]at hs;exact⟨trivial,H,s2,h true ⟨fun _ u v e hv hu=>hs v hv u e hu,fun _=>rfl⟩⟩
  ·rintro G i y σ H2 hy ⟨z,rfl,s2,hs⟩ kk;refine⟨trivial,?_⟩;obtain⟨hi,e⟩:=vM.mp hy;rw[rS]at hi;rw[Il]at e;subst e;have hm:N[i]∈N:=Ii hi;have tk:N.take (i+1)=N.take i++[N[i]]:=by rw[IG,sH hi];rfl
   generalize N[i]=n at *;have hx2:=s2 _ _ hx;ac_rfl;refine⟨⟨_,_,hx2,rfl⟩,dx,c,ts,bs,hx2,hN.lo n hm,t15,?_⟩;show ∀acc,H2 acc=none->_;intro acc hacc;refine aJ (Bv S N) (fun _=>true) (fun σ=>∃z,σ=[z,some (.tup (S.map PV.int)),some (.tup (N.map PV.int))]) (by rw[rS,rS];exact IC (IZ _ _) (by omega)) (fun _=>trivial) ?_ ?_ ⟨_,rfl⟩
   ·rintro y hy l σ R ⟨z,rfl⟩ hl kT kF;obtain⟨k,hk,rfl⟩:=Bc.mp hy;have e:Bv S N (PV.int k)=.bl (decide (k∈S)&&!decide (k∈N)):=rfl;rw[e]at kT;ac_rfl;refine⟨ay,?_⟩;simp only[aX];refine bK (fun m1=>⟨ay,?_⟩) (fun m1=>⟨hl,by rw[aI];simpa[m1]using kT rfl _ ⟨_,rfl⟩⟩)
    try simp only[aX]
    exact⟨hl,by rw[aI];simpa[m1]using kT rfl _ ⟨_,rfl⟩⟩
   rw[rL];refine⟨_,aj.trans rfl,?_⟩;have s3:=s2.put (o:=.lst ((((ts.filter fun p=>decide (p.2=n)).map (·.1)).map fun u=>decide (u∈S)&&!decide (u∈N)).map PV.bl)) (s2.free hacc);refine a8 (fun q=>⟨H,s3,h false ⟨fun z=>(by cases z),fun sh=>?_⟩⟩) (fun q=>kk _ _ ⟨_,rfl,s3,fun v hv u e hu=>?_⟩)
   ·obtain⟨u,e,hu,nu⟩:=qM.mp q;exact absurd (sh u n e hm hu) nu
   ·rw[tk]at hv;rcases zi.mp hv with hv | hv
    ·exact hs v hv u e hu
    ·rw[xI]at hv;subst hv;apply Js;intro nu;rw[qM.mpr ⟨u,e,hu,nu⟩]at q;cases q
 ·exact h.elim
theorem Gb(T:Tx K mg t):aO P w K mg base CX0 4 t.a_zS t.d_zS ["drawing","stands","names"] (gN t):=by
 refine okU (k:=3) T.F_zS Du (fun vs H Q E h=>by
  unfold gN at h;split at h
  ·rfl
  ·exact h.elim) (fun cdv A outer s H E B hr=>⟨_,(af (aS (bu (dH (av (aQ hr.units) aU (aH aD bh rfl T.b_len Im (aa (qv 2) ae)) ah (az _)) (dH (dg (cM (ar (E1 T) (hr.mono (by decide)) rfl T.g_yc T.F_yc.kp T.B_yc (aa (cQ (qv 0) T.cl_D T.nfD_count rfl) (aa (qv 2) ae))))) (dU (dg (cM (ar (EC T) (hr.mono (by decide)) rfl T.g_zM T.F_zM.kp T.B_zM (aa (qv 2) (aa (qv 1) ae)))))))))
  (ai (aA df))
  aF)
  (ai (aA (ar (Ho T) (hr.mono (by decide)) rfl T.g_zg T.F_zg.kp T.B_zg (aa (qv 0) (aa (qv 2) (aa (qv 1) ae))))))),?_⟩)
 intro vs H Q E h;unfold gN at h;split at h
 ·rename_i x s l;obtain⟨c,ts,bs,S,N,⟨dx,hx⟩,ok,rfl,rfl,hS,hl,h⟩:=h;have no:¬Vc c ts bs S "up" N->∃H0,U.Sub H0 H/\Q (.bl false) H0:=fun nb=>⟨H,Sub.refl _,h false ⟨fun q=>(by cases q),fun q=>absurd q nb⟩⟩;refine ao fun R hR=>?_;ac_rfl;by_cases n0:N=[]
  ·subst n0;exact aE rfl (no fun v=>v.ne rfl)
  refine aC (by simpa using n0) ⟨_,_,_,hx,rfl,N,rfl,fun nN=>?_,fun nn=>no fun v=>nn v.nms⟩;refine⟨N,S,rfl,rfl,hl,fun b1 e1=>a8 (fun q=>no fun v=>?_) (fun q=>?_)⟩
  ·rw[e1.mpr ⟨v.lt,v.sub⟩]at q;cases q
  ·obtain⟨f1,f2⟩:=e1.mp (by simpa using q);subst hR;ac_rfl;refine⟨c,ts,bs,N,S,⟨dx,hx⟩,ok,rfl,rfl,nN,fun b2 e2=>⟨H,Sub.refl _,h b2 (e2.trans ⟨fun z=>⟨nN,n0,f1,f2,.inr ⟨rfl,z⟩⟩,fun v=>?_⟩)⟩⟩;rcases v.ok with⟨z,_⟩ |⟨_,z⟩
   ·exact absurd z (by decide)
   ·exact z
 ·exact h.elim
theorem Hj(T:Tx K mg t):aO P w K mg base CX0 5 t.a_zy t.d_zy ["drawing","stands","names"] (d5 t):=by
 refine okU (k:=4) T.F_zy DC (fun vs H Q E h=>by
  unfold d5 at h;split at h
  ·rfl
  ·exact h.elim) (fun cdv A outer s H E B hr=>⟨_,(ai (aA (ip (cg (bG hr.units) bC (qv 2) (bT (qv 0) T.cl_D T.m_zm (Dd T) (hr.mono (by decide)) T.B_zm (aa (qv 1) ae)) (by with_unfolding_all rfl)) (ij (ar (EC T) (hr.mono (by decide)) rfl T.g_zM T.F_zM.kp T.B_zM (aa (qv 2) (aa (qv 1) ae))))))),?_⟩)
 intro vs H Q E h;unfold d5 at h;split at h
 ·rename_i x s l;obtain⟨c,ts,bs,S,N,⟨dx,hx⟩,ok,rfl,rfl,hS,hl,h⟩:=h;ac_rfl;refine⟨⟨_,_,hx,rfl⟩,dx,c,ts,bs,S,hx,rfl,hS,⟨ok.c1,ok.c6⟩,ok.gb,fun r Ls hr hLm l6 hM=>?_⟩;have s1:=(Sub.refl H).put (o:=.lst (Ls.map tupI)) hr;refine⟨jO,cZ,?_⟩;rw[pX];refine bK (fun q=>?_) (fun q=>⟨H,s1,h false ⟨fun z=>(by cases z),fun v=>?_⟩⟩)
  ·refine⟨N,S,rfl,rfl,hl,fun b1 e1=>⟨H,s1,h b1 (e1.trans ⟨fun z=>?_,fun v=>⟨v.lt,v.sub⟩⟩)⟩⟩;obtain⟨y,hy,la⟩:=(gZ hLm).mp q;exact⟨la.nms hS hy,fun e=>(by have:=la.self;rw[e]at this;cases this),z.1,z.2,.inl ⟨rfl,y,hy,la⟩⟩
  ·rcases v.ok with⟨_,z⟩ |⟨z,_⟩
   ·exact absurd ((gZ hLm).mpr z) q
   ·exact absurd z (by decide)
 ·exact h.elim
theorem Hd(T:Tx K mg t):aO P w K mg base CX0 6 t.a_yd t.d_yd ["drawing","stands","cut"] (gS t):=by
 refine okU (k:=5) T.F_yd DJ (fun vs H Q E h=>by
  unfold gS at h;split at h
  ·rfl
  ·exact h.elim) (fun cdv A outer s H E B hr=>⟨_,(af (aS (av (aQ hr.units) aU (aG (qv 2) ah (fun _ _=>rfl)) aL (az _))
  (ai (aA (ar (Gb T) (hr.mono (by decide)) rfl T.g_zS T.F_zS.kp T.B_zS (aa (qv 0) (aa (qv 1) (aa (aG (qv 2) ah (fun _ _=>rfl)) ae))))))
  aF)
  (af (aS (av (aQ hr.units) aU (aG (qv 2) ah (fun _ _=>rfl)) aL (az _))
  (ai (aA (ar (Hj T) (hr.mono (by decide)) rfl T.g_zy T.F_zy.kp T.B_zy (aa (qv 0) (aa (qv 1) (aa (aG (qv 2) ah (fun _ _=>rfl)) ae))))))
  aF)
  (ai (aA df)))),?_⟩)
 intro vs H Q E h;unfold gS at h;split at h
 ·rename_i x s v;obtain⟨c,ts,bs,S,⟨w,N⟩,⟨dx,hx⟩,ok,rfl,rfl,hS,hl,h⟩:=h;have hl':N.length≤1000:=hl;unfold aT;ac_rfl;by_cases w1:w="up"
  ·subst w1;exact aE rfl ⟨c,ts,bs,S,N,⟨dx,hx⟩,ok,rfl,rfl,hS,hl',fun b e=>⟨H,Sub.refl _,h b e⟩⟩
  ·refine aC (by simpa using w1) ?_;by_cases w2:w="lump"
   ·subst w2;exact aE rfl ⟨c,ts,bs,S,N,⟨dx,hx⟩,ok,rfl,rfl,hS,hl',fun b e=>⟨H,Sub.refl _,h b e⟩⟩
   ·refine aC (by simpa using w2) ⟨H,Sub.refl _,h false ⟨fun z=>(by cases z),fun v=>?_⟩⟩;rcases v.ok with⟨z,_⟩ |⟨z,_⟩
    ·exact absurd z w2
    ·exact absurd z w1
 ·exact h.elim
theorem G7(T:Tx K mg t):aO P w K mg base CX0 7 t.a_zY t.d_zY ["drawing","lump","cuts"] (fB t):=by
 refine okU (k:=6) T.F_zY qK (fun vs H Q E h=>by
  unfold fB at h;split at h
  ·rfl
  ·exact h.elim) (fun cdv A outer s H E B hr=>⟨_,(af (aw (i:=3) qK.nd rfl (by eq_refl) (ar (Es T) (hr.mono (by decide)) rfl T.g_zF T.F_zF.kp T.B_zF (aa (qv 0) (aa (qv 1) ae))))
  (af (bA Ik rfl (aN (qv 2)) (au (i:=4) qK.nd rfl (by eq_refl))
  (af (aS (dg (cM (ar (Hd T) (hr.mono (by decide)) rfl T.g_yd T.F_yd.kp T.B_yd (aa (qv 0) (aa (qv 3) (aa (qv 4) ae))))))
   (ai (aA df))
   aF)
   (ai (aw (i:=3) qK.nd rfl (by eq_refl) (aG (qv 4) ah (fun _ _=>rfl))))))
  (ai (aA (cg (aQ hr.units) aU (qv 3) (qv 1) (az _)))))),?_⟩)
 intro vs H Q E h;unfold fB at h;split at h
 ·rename_i x l m;obtain⟨c,ts,bs,x0,R0,cs,⟨dx,hx⟩,ok,rfl,rfl,hx0,lc,lq,h⟩:=h;have xu:=b0.mpr hx0;refine ao fun R hR=>?_;ac_rfl;refine⟨c,ts,bs,x0,R0,⟨dx,hx⟩,ok,rfl,hx0,fun S0 la=>?_⟩;subst hR;have n0:=la.nms dD xu;have no:¬(dq c ts bs S0 cs/\stA S0 cs=x0::R0)->∃H0,U.Sub H0 H/\Q (.bl false) H0:=fun nb=>⟨H,Sub.refl _,h false ⟨fun q=>(by cases q),fun q=>absurd (q x0 S0 rfl la) nb⟩⟩;refine ao fun R hR=>?_;ac_rfl;refine bI (fun j σ H6=>∃u4,σ=[some (.ref x),some (.tup (.int x0::R0.map PV.int)),some (.tup (cs.map aT)),some (.tup ((stA S0 (cs.take j)).map PV.int)),u4]/\H6=H/\Nms c (stA S0 (cs.take j))/\∀(k:Nat) (p:Cu),k<j->cs[k]?=some p->Vc c ts bs (stA S0 (cs.take k)) p.1 p.2) ?_ ?_ ⟨_,rfl,rfl,n0,fun k p hk=>by omega⟩
  ·rintro σ H6 ⟨u4,rfl,rfl,nS,hv⟩;rw[rS,Iy]at *;refine⟨trivial,?_⟩;subst hR;ac_rfl;have run:dq c ts bs S0 cs:=fun k p hk=>hv k p (vM.mp hk).1 hk;have e1:PV.int x0::R0.map PV.int=(x0::R0).map PV.int:=rfl;rw[e1,bV];refine⟨ay,ay,H6,Sub.refl _,h _ ?_⟩;rw[IX];refine⟨fun es z S1 hz la1=>?_,fun q=>(q x0 S0 rfl la).2⟩;have ez:x0=z:=IH hz;rw[←ez]at la1;rw[la1.one la];exact⟨run,es⟩
  ·rintro G' j z σ H6 hz ⟨u4,rfl,rfl,nS,hv⟩ kk';refine⟨trivial,?_⟩;obtain⟨hj,e⟩:=vM.mp hz;rw[rS]at hj;rw[Il]at e;subst e;have hjx:cs[j]?=some cs[j]:=sH hj;have tj:cs.take (j+1)=cs.take j++[cs[j]]:=by rw[IG,hjx];rfl
   have lq':=lq _ (Ii hj);generalize cs[j]=q at *;refine ao fun R3 hR3=>?_;ac_rfl;refine⟨c,ts,bs,stA S0 (cs.take j),q,⟨dx,hx⟩,ok,rfl,rfl,nS,by omega,fun b eb=>a8 (fun q1=>no fun z=>?_) (fun q1=>?_)⟩
   ·rw[eb.mpr (z.1 j q hjx)]at q1;cases q1
   ·have v:=eb.mp (by simpa using q1);subst hR3;unfold aT at *;ac_rfl;refine kk' _ _ ⟨_,by rw[tj,dc],rfl,by rw[tj,dc];exact v.nms,fun k p hk hp'=>?_⟩;by_cases ek:k=j
    ·subst ek;rw[hjx]at hp';cases hp';exact v
    ·exact hv k p (by omega) hp'
 ·exact h.elim
theorem Fu(T:Tx K mg t):aO P w K mg base CX0 8 t.a_ye t.d_ye ["drawing","question","paper"] (iX t):=by
 refine okU (k:=7) T.F_ye Az (fun vs H Q E h=>by
  unfold iX at h;split at h
  ·rfl
  ·exact h.elim) (fun cdv A outer s H E B hr=>⟨_,(af (aw (i:=3) Az.nd rfl (by eq_refl) (aG (ar (GZ T) (hr.mono (by decide)) rfl T.g_yb T.F_yb.kp T.B_yb (aa (qv 0) (aa (qv 1) ae))) ah (fun _ _=>rfl)))
  (af (aS (av (c7 hr.units) aU (bx (N2:=["row"]) (nt:=1) (js:=[]) (ck (sc:=ak tm)) rfl (aN (qv 2)) (fun s0 H0 fp ps=>⟨(au (i:=0) (show List.Nodup (["row"]:List Str) by decide +kernel) rfl (by eq_refl)),bO,(aG (qv 0) ah (fun _ _=>rfl))⟩)) (qv 3) (az _))
  (ai (aA df))
  aF)
  (ai (aA (aH (jP rfl) o3 rfl T.b_all boot_all (aa (bx (N2:=["row","drawing"]) (nt:=1) (js:=[0]) (ck (sc:=ak tm)) rfl (aN (qv 2)) (fun s0 H0 fp ps=>⟨(au (i:=0) (show List.Nodup (["row","drawing"]:List Str) by decide +kernel) rfl (by eq_refl)),bO,(ar (G7 T) (hr.mono (by decide)) rfl T.g_zY T.F_zY.kp T.B_zY (aa (qv 1) (aa (aG (qv 0) ah (fun _ _=>rfl)) (aa (aG (qv 0) ah (fun _ _=>rfl)) ae))))⟩)) ae)))))),?_⟩)
 intro vs H Q E h;unfold iX at h;split at h
 ·rename_i x v l;obtain⟨c,ts,bs,A,B,rows,⟨dx,hx⟩,ok,rfl,rfl,hq,lr,lc,h⟩:=h;unfold qV at *;refine ao fun R hR=>?_;ac_rfl;refine⟨c,ts,bs,A,B,rfl,⟨dx,hx⟩,ok,hq,fun W Ls r H2 s2 wn er l6=>?_⟩
  try ac_rfl
  subst hR;have no:∀{H3:PHp},U.Sub H H3->¬Lets c ts bs Ls rows->∃H0,U.Sub H0 H3/\Q (.bl false) H0:=fun s3 nb=>⟨H,s3,h W Ls false wn l6 ⟨fun q=>(by cases q),fun q=>absurd q nb⟩⟩;refine ao fun R hR=>?_;ac_rfl;intro p3 hp3;refine aJ wj (fun _=>true) (fun σ=>∃z,σ=[z]) (by rw[rS];omega) (fun _=>trivial) ?_ ?_ ⟨_,rfl⟩
  ·rintro y hy l σ R ⟨z,rfl⟩ hl kT kF;obtain⟨w,hw,rfl⟩:=Bc.mp hy;have ew:br w=.tup [.tup (w.1.map PV.int),.tup (w.2.map aT)]:=rfl;have ef:wj (br w)=.tup (w.1.map PV.int):=rfl;rw[ef]at kT;rw[ew];ac_rfl;exact⟨hl,by rw[aI];exact kT rfl _ ⟨_,rfl⟩⟩
  rw[kH];have s3:=s2.put (o:=.lst ((rows.map (·.1)).map tupI)) (s2.free hp3);refine⟨_,aj,_,(aq (ax er hp3)).trans er,cZ,cZ,?_⟩;have ed:deq (.fls ((rows.map (·.1)).map tupI)) (.fls (Ls.map tupI))=decide (rows.map (·.1)=Ls):=by rw[deq];exact ig
  rw[ed];generalize put H2 p3 (.lst ((rows.map (·.1)).map tupI))=H3 at *;by_cases em:rows.map (·.1)=Ls
  ·refine aC (by simp[em]) ?_;subst hR;have hx3:=s3 _ _ hx;ac_rfl;show ∀acc,H3 acc=none->_;intro acc hacc;refine jK (fun i σ H4=>∃z bb,σ=[z,some (.ref x)]/\H4=put H3 acc (.lst ((bb:List Bool).map PV.bl))/\bb.length=i/\∀(j:Nat) (b:Bool) (p:Ro),bb[j]?=some b->rows[j]?=some p->(b=true↔gk c ts bs p)) ?_ ?_ ⟨_,[],rfl,rfl,rfl,fun j b p z=>by simp at z⟩
   ·rintro i y σ H4 R hy ⟨z,bb,rfl,rfl,lb,hb⟩ kk;refine⟨trivial,?_⟩;obtain⟨hi,e⟩:=vM.mp hy;rw[rS]at hi;rw[Il]at e;subst e;have hix:rows[i]?=some rows[i]:=sH hi;have hm:rows[i]∈rows:=Ii hi;generalize rows[i]=w at *;obtain⟨L0,cs⟩:=w;have hL:L0∈Ls:=by rw[←em];exact Bc.mpr ⟨_,hm,rfl⟩
    obtain⟨x0,R0,eL⟩:=wn.ne hL;have cn:=wn.cn hL (x0:=x0) (by rw[eL];exact xP);have ew:br (L0,cs)=.tup [.tup (L0.map PV.int),.tup (cs.map aT)]:=rfl;rw[ew];ac_rfl;refine⟨c,ts,bs,x0,R0,cs,⟨dx,(aq (ax hx3 hacc)).trans hx3⟩,ok,by rw[eL];rfl,rfl,cn.nms.lo x0 cn.hd,(lc _ hm).1,(lc _ hm).2,fun b eb=>⟨aZ (by rw[rS];omega),?_⟩⟩;rw[aI];refine kk _ _ ⟨_,bb++[b],rfl,by rw[Ie];rfl,by rw[wW,Ip,lb],fun j b2 p hj hp=>?_⟩;rcases Nat.lt_or_ge j bb.length with hjl | hjl
    ·rw[Ja hjl]at hj;exact hb j b2 p hj hp
    ·rw[Jf hjl]at hj;have hz:j - bb.length=0:=by
      cases k:j - bb.length with
      | zero=>rfl
      | succ n=>rw[k]at hj;simp at hj
     rw[hz]at hj;have e2:b=b2:=by simpa using hj
     have ej:j=i:=by omega
     rw[ej,hix]at hp;cases hp;rw[←e2,eb,← eL]
   ·rintro σ H4 ⟨z,bb,rfl,rfl,lb,hb⟩;rw[rS]at lb;have s4:=s3.put (o:=.lst (bb.map PV.bl)) (s3.free hacc);refine⟨trivial,bb,aj,H,s4,h W Ls _ wn l6 ?_⟩;rw[Ir];constructor
    ·intro ha;refine⟨em,fun p hp=>?_⟩;obtain⟨j,hj⟩:=List.getElem?_of_mem hp;have jl:=(vM.mp hj).1;have hbj:bb[j]?=some bb[j]:=sH (by omega);exact(hb j _ p hbj hj).mp (by simpa using ha _ (Ii (by omega)))
    ·intro q b hbm;obtain⟨j,hj⟩:=List.getElem?_of_mem hbm;have jl:=(vM.mp hj).1;have hrj:rows[j]?=some rows[j]:=sH (by omega);exact(hb j b _ hj hrj).mpr (q.2 _ (Ii (by omega)))
  ·exact aE (by simp[em]) (no s3 fun q=>em q.1)
 ·exact h.elim
theorem EL(T:Tx K mg t):aO P w K mg base CX0 1 t.a_zs t.d_zs ["_law_names","_law_number","_law_count"] dR:=by
 refine okU (k:=0) T.F_zs uS (fun vs H Q E h=>by
  unfold dR at h;split at h
  ·rfl
  ·exact h.elim) (fun cdv A outer s H E B hr=>⟨_,(af (aw (i:=3) uS.nd rfl (by eq_refl) (bE (qv 1) ah))
  (af (aw (i:=1) uS.nd rfl (by eq_refl) (bN (qv 1) ah))
  (af (aS (av (aQ hr.units) aU (qv 3) ah (az _))
  (ai (aA (a5 (qv 0) (bf ah) bg)))
  aF)
  (af (aS (av (aQ hr.units) aU (qv 3) ah (az _))
  (ai (aA (aM aK a9 rfl T.b_tuple Jh (aa (aH fV jG rfl T.b_sorted boot_sorted (aa (de (aM cA gx rfl T.b_list boot_list (aa (qv 0) ae)) (aR (aa (bE (qv 1) (qv 2)) ae))) ae)) ae))))
  aF)
  (af (aS (av (aQ hr.units) aU (qv 3) ah (az _))
  (ai (aA (bR (CP rfl rfl T.b_tuple rfl T.b_reversed Jh (qv 0)) (aW (aa (eJ (bE (qv 1) (bQ (qv 2) ah)) ah) ae)))))
  aF)
  (af (aS (av (aQ hr.units) aU (qv 3) ah (az _))
  (ai (aA (aM aK a9 rfl T.b_tuple Jh (aa (bx (N2:=["_law_name","_law_number"]) (nt:=1) (js:=[1]) (ck (sc:=ak yo)) rfl (bW rfl T.b_range (aa (qv 2) ae)) (fun s0 H0 fp ps=>⟨(au (i:=0) (show List.Nodup (["_law_name","_law_number"]:List Str) by decide +kernel) rfl (by eq_refl)),(bD (av (aQ hr.units) aU (bE (n9 (qv 1) (qv 0)) ah) ah (az _))),(qv 0)⟩)) ae))))
  aF)
  (ai (aA (bR (a5 (qv 0) bg (bf (eY ah))) (aW (aa (bE (qv 1) (qv 2)) ae))))))))))),?_⟩)
 intro vs H Q E h;unfold dR at h;split at h
 ·rename_i l n c;obtain⟨L,rfl,lL,⟨c1,c6⟩,h⟩:=h;refine ao fun R hR=>?_;ac_rfl;refine⟨by decide,?_⟩;subst hR;refine ao fun R hR=>?_;ac_rfl;refine⟨eE (by decide) (by decide),?_⟩;subst hR;generalize n.fmod 5=w at *;generalize n.fdiv 5=m at *;refine ao fun R hR=>?_;ac_rfl;obtain⟨M1,e1,l1,_⟩:=l7 PV.int L (some 1) none;rw[e1];refine a8 (fun _=>⟨H,Sub.refl _,h M1 (by omega)⟩) (fun _=>?_);subst hR;refine ao fun R hR=>?_;ac_rfl;refine a8 (fun _=>?_) (fun _=>?_)
  ·intro p hp;refine⟨by omega,ag (by decide),fun p1 hp1=>?_⟩;have n1:p≠p1:=fun e=>by subst e;rw[aj]at hp1;cases hp1
   have sa:=(Sub.refl H).put (o:=.lst (L.map PV.int)) hp;have sb:=sa.put (o:=.lst [.int (m.fmod c)]) (sa.free hp1);refine⟨_,_,(aq n1).trans aj,rfl,ag (by rw[rS];simp;omega),fun p2 hp2=>?_⟩;refine⟨L++[m.fmod c],by rw[Ie];rfl,by rw[wW];simp;omega,fun r ms hr pm sm=>?_⟩;have sc:=sb.put (o:=.lst (L.map PV.int++[.int (m.fmod c)])) (sb.free hp2);exact⟨H,sc.put (sc.free hr),h ms (by rw[pm.length_eq,wW];simp)⟩
  subst hR;refine ao fun R hR=>?_;ac_rfl;refine a8 (fun _=>⟨by rw[rS];omega,by omega,ag (by decide),ag (by rw[List.length_reverse,rS];simp;omega),H,Sub.refl _,?_⟩) (fun _=>?_)
  ·have e:(L.map PV.int).reverse++[PV.int (m.fmod (c+2) - 1)]=(L.reverse++[m.fmod (c+2) - 1]).map PV.int:=by rw[Ie,List.map_reverse];rfl
   rw[e];exact h _ (by rw[wW,List.length_reverse];simp)
  subst hR;refine ao fun R hR=>?_;ac_rfl;refine a8 (fun _=>⟨⟨by omega,by omega⟩,fun acc hacc=>?_⟩) (fun _=>?_)
  ·refine aJ (fun y=>y) (onI fun u=>(m / 2 ^ u.toNat).fmod 2==1) (fun σ=>∃z,σ=[z,some (.int m)]) (by rw[gT];omega) (fun _=>trivial) ?_ ?_ ⟨_,rfl⟩
   ·rintro y hy l σ R ⟨z,rfl⟩ hl kT kF;obtain⟨k,rfl,k0⟩:=iV hy;dsimp only[onI]at kT kF;ac_rfl;exact⟨k0,by decide,a8 (fun q=>⟨hl,by rw[aI];exact kT q _ ⟨_,rfl⟩⟩) (fun q=>kF q _ ⟨_,rfl⟩)⟩
   rw[jH];refine⟨_,aj,H,(Sub.refl H).put hacc,h _ (IC (IZ _ _) ?_)⟩;rw[rS,IM];omega
  subst hR;ac_rfl;obtain⟨M2,e2,l2,_⟩:=l7 PV.int L none (some (-1));rw[e2];refine⟨by omega,ag (by decide),ag (by rw[rS];simp;omega),H,Sub.refl _,?_⟩;have e:M2.map PV.int++[PV.int (m.fmod c)]=(M2++[m.fmod c]).map PV.int:=by rw[Ie];rfl
  rw[e];exact h _ (by rw[wW];simp;omega)
 ·exact h.elim
theorem HU(T:Tx K mg t):aO P w K mg base CX0 2 t.a_zi t.d_zi ["_law_paper_here","_law_number","_law_count"] jc:=by
 refine okU (k:=1) T.F_zi cG (fun vs H Q E h=>by
  unfold jc at h;split at h
  ·rfl
  ·exact h.elim) (fun cdv A outer s H E B hr=>⟨_,(af (aS (bu (dH (av (aQ hr.units) aU (aH aD bh rfl T.b_len Im (aa (qv 0) ae)) ah (az _)) (dU (av (aQ hr.units) aU (bE (qv 1) ah) ah (az _)))))
  (af (aw (i:=3) cG.nd rfl (by eq_refl) (aR (aa (a5 (qv 0) (bf ah) bg) (aa (bR (a5 (qv 0) (bf ah) bg) (a5 (qv 0) bg (bf ah))) (aa (bR (qv 0) (a5 (qv 0) (bf (eY ah)) bg)) (aa (bR (a5 (qv 0) bg (bf ah)) (qv 0)) ae))))))
   (ai (aA (aG (qv 3) (bE (bN (qv 1) ah) ah) (fun _ _=>rfl)))))
  aF)
  (af (aw (i:=4) cG.nd rfl (by eq_refl) (bE (bN (qv 1) ah) (aH aD bh rfl T.b_len Im (aa (qv 0) ae))))
  (af (lY (aG (qv 0) (qv 4) (fun _ _=>rfl)) (c9 (n:=2) rfl (aV (au (i:=5) cG.nd rfl (by eq_refl)) (aV (au (i:=6) cG.nd rfl (by eq_refl)) b9))))
  (af (aw (i:=7) cG.nd rfl (by eq_refl) (bE (bN (qv 1) ah) ah))
  (af (aw (i:=1) cG.nd rfl (by eq_refl) (bN (qv 1) ah))
  (af (aw (i:=8) cG.nd rfl (by eq_refl) (bE (qv 1) (bQ (aH aD bh rfl T.b_len Im (aa (qv 6) ae)) ah)))
  (af (aS (av (aQ hr.units) aU (qv 7) ah (az _))
  (ai (aw (i:=5) cG.nd rfl (by eq_refl) (ar (EL T) (hr.mono (by decide)) rfl T.g_zs T.F_zs.kp T.B_zs (aa (qv 5) (aa (bN (qv 1) ah) (aa (qv 2) ae))))))
  (ai (aS (av (aQ hr.units) aU (qv 7) ah (az _))
   (ai (aw (i:=6) cG.nd rfl (by eq_refl) (bR (a5 (qv 6) bg (bf (qv 8))) (a5 (qv 6) (bf (bQ (qv 8) ah)) bg))))
   (ai (aS (av (aQ hr.units) aU (qv 7) ah (az _))
    (af (aw (i:=9) cG.nd rfl (by eq_refl) (aM aK a9 rfl T.b_tuple Jh (aa (bx (N2:=["_law_name","_law_number"]) (nt:=1) (js:=[1]) (ck (sc:=ak wV)) rfl (bW rfl T.b_range (aa (qv 2) ae)) (fun s0 H0 fp ps=>⟨(au (i:=0) (show List.Nodup (["_law_name","_law_number"]:List Str) by decide +kernel) rfl (by eq_refl)),(bD (av (aQ hr.units) aU (bE (n9 (bN (qv 1) ah) (qv 0)) ah) ah (az _))),(qv 0)⟩)) ae)))
     (af (aw (i:=10) cG.nd rfl (by eq_refl) (aW (aa (aG (aR (aa aL (aa aL ae))) (bE (bN (qv 1) (hJ ah ah)) ah) (fun _ _=>rfl)) (aa (qv 9) ae))))
     (ai (aw (i:=6) cG.nd rfl (by eq_refl) (bR (bR (a5 (qv 6) bg (bf (qv 8))) (aW (aa (qv 10) ae))) (a5 (qv 6) (bf (qv 8)) bg))))))
    (ai (aS (bu (cj (av (aQ hr.units) aU (qv 7) ah (az _)) (cc (av fg eO (qv 8) (aH aD bh rfl T.b_len Im (aa (qv 6) ae)) (az _)))))
     (af (aw (i:=10) cG.nd rfl (by eq_refl) (aW (aa (aG (aR (aa aL (aa aL (aa aL ae)))) (bE (bN (qv 1) ah) ah) (fun _ _=>rfl)) (aa (aG (aG (qv 6) (qv 8) (fun _ _=>rfl)) ah (fun _ _=>rfl)) ae))))
      (ai (aw (i:=6) cG.nd rfl (by eq_refl) (bR (bR (a5 (qv 6) bg (bf (qv 8))) (aW (aa (qv 10) ae))) (a5 (qv 6) (bf (bQ (qv 8) ah)) bg)))))
     (ai (aS (bu (cj (av (aQ hr.units) aU (qv 7) ah (az _)) (cc (av fg eO (qv 8) (aH aD bh rfl T.b_len Im (aa (qv 6) ae)) (az _)))))
      (af (aw (i:=10) cG.nd rfl (by eq_refl) (aW (aa (aG (aG (qv 6) (qv 8) (fun _ _=>rfl)) ah (fun _ _=>rfl)) (aa (ar (EL T) (hr.mono (by decide)) rfl T.g_zs T.F_zs.kp T.B_zs (aa (aG (aG (qv 6) (qv 8) (fun _ _=>rfl)) ah (fun _ _=>rfl)) (aa (bN (qv 1) ah) (aa (qv 2) ae)))) ae))))
       (ai (aw (i:=6) cG.nd rfl (by eq_refl) (bR (bR (a5 (qv 6) bg (bf (qv 8))) (aW (aa (qv 10) ae))) (a5 (qv 6) (bf (bQ (qv 8) ah)) bg)))))
      (ai (aw (i:=6) cG.nd rfl (by eq_refl) (bR (qv 6) (a5 (qv 6) (bf (eY ah)) bg)))))))))))))
  (ai (aA (bR (bR (a5 (qv 0) bg (bf (qv 4))) (aW (aa (aW (aa (qv 5) (aa (qv 6) ae))) ae))) (a5 (qv 0) (bf (bQ (qv 4) ah)) bg))))))))))),?_⟩)
 intro vs H Q E h;unfold jc at h;split at h
 ·rename_i l n c;obtain⟨rows,k,rfl,sz,k34,⟨c1,c6⟩,h⟩:=h;have lr:=sz.n;obtain⟨m1,e1,l1,i1⟩:=l7 br rows (some 1) none;obtain⟨m2,e2,l2,i2⟩:=sW br rows;obtain⟨m3,e3,l3,i3⟩:=mE br rows;have moreB:∀p,H p=none->dJ (atI [PV.tup (m1.map br),PV.tup (m1.map br++m2.map br),PV.tup (rows.map br++m3.map br),PV.tup (m2.map br++rows.map br)] ((n.fdiv 7).fmod 4)) fun v=>∃H3,U.Sub H3 (put H p (.lst [PV.tup (m1.map br),PV.tup (m1.map br++m2.map br),PV.tup (rows.map br++m3.map br),PV.tup (m2.map br++rows.map br)]))/\Q v H3:=by
   intro p hp;have bj:=fm (a:=n.fdiv 7) (b:=4) (by decide);have hs:=(Sub.refl H).put (o:=.lst [PV.tup (m1.map br),PV.tup (m1.map br++m2.map br),PV.tup (rows.map br++m3.map br),PV.tup (m2.map br++rows.map br)]) hp;refine HD bj.1 bj.2 ⟨H,hs,h m1 (sz.sub (by omega) i1)⟩ ⟨H,hs,?_⟩ ⟨H,hs,?_⟩ ⟨H,hs,?_⟩<;>rw[←Ie]
   ·exact h _ (sz.sub (by rw[wW];omega) fun p hp=>(zi.mp hp).elim (i1 p) (i2 p))
   ·exact h _ (sz.sub (by rw[wW];omega) fun p hp=>(zi.mp hp).elim id (i3 p))
   ·exact h _ (sz.sub (by rw[wW];omega) fun p hp=>(zi.mp hp).elim (i2 p) id)
  refine ao fun R hR=>?_;ac_rfl;rw[e1,e2,e3];refine a8 (fun _=>⟨ag (by rw[rS,rS];omega),ag (by rw[rS,rS];omega),ag (by rw[rS,rS];omega),ag (by decide),fun p hp=>⟨eE (by decide) (by decide),by decide,moreB p hp⟩⟩) (fun q0=>⟨by decide,a8 (fun _=>⟨ag (by rw[rS,rS];omega),ag (by rw[rS,rS];omega),ag (by rw[rS,rS];omega),ag (by decide),fun p hp=>⟨eE (by decide) (by decide),by decide,moreB p hp⟩⟩) (fun _=>?_)⟩);clear moreB e1 e2 e3;have r0:rows.length≠0:=fun e=>by rw[rS,e]at q0;cases q0
  subst hR;refine ao fun R hR=>?_;ac_rfl;refine⟨eE (by decide) (by decide),by rw[rS];omega,?_⟩;rw[rS];subst hR;have bj:=fm (a:=n.fdiv 7) (b:=(rows.length:Nat)) (by omega);obtain⟨j,hj⟩:∃j:Nat,(n.fdiv 7).fmod (rows.length:Nat)=(j:Nat):=⟨((n.fdiv 7).fmod (rows.length:Nat)).toNat,by omega⟩;rw[hj]at bj ⊢;have jl:j<rows.length:=by omega
  refine ao fun R hR=>?_;ac_rfl;rw[eC (by rw[rS];exact jl),Il];have hm:rows[j]∈rows:=Ii jl;generalize rows[j]=w at *;obtain⟨L0,cs⟩:=w;have b1:L0.length≤k:=sz.a _ hm;have b2:cs.length≤k:=sz.b _ hm;have b3:∀q∈cs,q.2.length≤k:=sz.c _ hm;have ew:br (L0,cs)=.tup [.tup (L0.map PV.int),.tup (cs.map aT)]:=rfl;rw[ew];ac_rfl;subst hR;refine ao fun R hR=>?_;ac_rfl;refine⟨eE (by decide) (by decide),by decide,?_⟩;subst hR;generalize (n.fdiv 42).fmod 6=wy at *;refine ao fun R hR=>?_;ac_rfl;refine⟨eE (by decide) (by decide),?_⟩;subst hR;generalize n.fdiv 252=n2 at *;refine ao fun R hR=>?_;ac_rfl;rw[rS];refine⟨by omega,?_⟩;subst hR;have bs:=fm (a:=n2) (b:=((cs.length:Nat):Int)+1) (by omega);obtain⟨i,hi⟩:∃i:Nat,n2.fmod (((cs.length:Nat):Int)+1)=(i:Nat):=⟨(n2.fmod (((cs.length:Nat):Int)+1)).toNat,by omega⟩;rw[hi]at bs ⊢;have il:i≤cs.length:=by omega
  refine ao fun R hR=>?_;have fin:∀(L1:List Int) (cs1:List Cu) (u1 u2:Option PV) (H3:PHp),U.Sub H H3->L1.length≤k+6->cs1.length≤k+6->(∀q∈cs1,q.2.length≤k+6) ->
    R { nx:=fun x H=>∃H3,U.Sub H3 H/\Q PV.non H3,rt:=fun v H=>∃H3,U.Sub H3 H/\Q v H3 } [some (.tup (rows.map br)),some (.int n2),some (.int c),none,some (.int (j:Nat)),some (.tup (L1.map PV.int)),some (.tup (cs1.map aT)),some (.int wy),some (.int (i:Nat)),u1,u2] H3:=by
   intro L1 cs1 u1 u2 H3 s3 a1 a2 a3;subst hR;ac_rfl;rw[oV (by rw[rS];omega),show((j:Nat):Int)+1=((j+1:Nat):Int) by omega,cL];have ef:(rows.map br).take j++[PV.tup [.tup (L1.map PV.int),.tup (cs1.map aT)]]++(rows.map br).drop (j+1)=(rows.take j++[(L1,cs1)]++rows.drop (j+1)).map br:=by
    rw[Ie,Ie,List.map_take,J1];rfl
   rw[ef];have lt:=(yb (x:=(L1,cs1)) lr (J2 jl)).2.1;have le:=lt;simp only[wW,Iu,Jc,Ip]at le;refine⟨ag (by decide),ag (by decide),ag (by simp only[Iu,rS,Ip];omega),ag (by simp only[wW,Iu,Jc,rS,Ip];omega),H,s3,h _ ⟨by omega,?_,?_,?_⟩⟩
   ·exact(gw (P:=fun p:Ro=>p.1.length≤k+6) (fun p hp=>IC (sz.a p hp) (by omega)) a1).1
   ·exact(gw (P:=fun p:Ro=>p.2.length≤k+6) (fun p hp=>IC (sz.b p hp) (by omega)) a2).1
   ·exact(gw (P:=fun p:Ro=>∀q∈p.2,q.2.length≤k+6) (fun p hp q hq=>IC (sz.c p hp q hq) (by omega)) a3).1
  have b3':∀q∈cs,q.2.length≤k+6:=fun q hq=>IC (b3 q hq) (by omega);have k1:cz (cs.map aT) none (some ((i:Nat):Int))=(cs.take i).map aT:=by rw[oV (by rw[rS];exact il),List.map_take]
  have k2:cz (cs.map aT) (some (((i:Nat):Int)+1)) none=(cs.drop (i+1)).map aT:=by rw[show((i:Nat):Int)+1=((i+1:Nat):Int) by omega,cL,J1]
  have k3:cz (cs.map aT) (some ((i:Nat):Int)) none=(cs.drop i).map aT:=by rw[cL,J1]
  obtain⟨m4,e4,l4,i4⟩:=mE aT cs;have put1:∀(w:Str) (M:List Int) (d:Nat) (u1 u2:Option PV) (H3:PHp),(d=i∨d=i+1)->U.Sub H H3->M.length≤k+6->2≤sizeLine/\1≤sizeLine/\((cs.take i).map aT).length+1≤sizeLine/\((cs.take i).map aT++[PV.tup [.str w,.tup (M.map PV.int)]]).length+((cs.drop d).map aT).length≤sizeLine /\
    R { nx:=fun x H=>∃H3,U.Sub H3 H/\Q PV.non H3,rt:=fun v H=>∃H3,U.Sub H3 H/\Q v H3 } [some (.tup (rows.map br)),some (.int n2),some (.int c),none,some (.int (j:Nat)),some (.tup (L0.map PV.int)),some (.tup ((cs.take i).map aT++[PV.tup [.str w,.tup (M.map PV.int)]]++(cs.drop d).map aT)),some (.int wy),some (.int (i:Nat)),u1,u2] H3:=by
   intro w M d u1 u2 H3 hd s3 lM;have ef:(cs.take i).map aT++[PV.tup [.str w,.tup (M.map PV.int)]]++(cs.drop d).map aT=(cs.take i++[(w,M)]++cs.drop d).map aT:=by rw[Ie,Ie];rfl
   rw[ef];have ln:(cs.take i++[(w,M)]++cs.drop d).length≤k+1:=by
    rcases hd with rfl | rfl
    ·exact(yb b2 il).1
    ·exact(yb b2 il).2.1
   refine⟨ag (by decide),ag (by decide),ag (by simp only[rS,Iu];omega),ag (by simp only[wW,rS,Iu,Jc,Ip];omega),fin L0 _ u1 u2 H3 s3 (by omega) (by omega) ?_⟩;exact(gw (P:=fun q:Cu=>q.2.length≤k+6) b3' lM).1
  have els:(cs.map aT).length+(m4.map aT).length≤sizeLine/\R { nx:=fun x H=>∃H3,U.Sub H3 H/\Q PV.non H3,rt:=fun v H=>∃H3,U.Sub H3 H/\Q v H3 } [some (.tup (rows.map br)),some (.int n2),some (.int c),none,some (.int (j:Nat)),some (.tup (L0.map PV.int)),some (.tup (cs.map aT++m4.map aT)),some (.int wy),some (.int (i:Nat)),none,none] H:=by
   rw[←Ie];exact⟨ag (by rw[rS,rS];omega),fin L0 _ none none H (Sub.refl _) (by omega) (by rw[wW];omega) fun q hq=>(zi.mp hq).elim (b3' q) fun z=>b3' q (i4 q z)⟩
  have at_ci:i<cs.length->∃q∈cs,atI (cs.map aT) ((i:Nat):Int)=some (.tup [.str q.1,.tup (q.2.map PV.int)]):=fun hi'=>⟨cs[i],Ii hi',by rw[eC (by rw[rS];exact hi'),Il];rfl⟩;ac_rfl;simp only[k1,k2,k3,e4];refine a8 (fun _=>⟨eE (by decide) (by decide),L0,rfl,by omega,⟨c1,c6⟩,fun M lM=>fin M cs none none H (Sub.refl _) (by omega) (by omega) b3'⟩) (fun _=>?_);refine a8 (fun _=>⟨ag (by simp only[rS,Iu,Jc];omega),?_⟩) (fun _=>?_)
  ·rw[←Ie];exact fin L0 _ none none H (Sub.refl _) (by omega) (IC (yb (x:=upC []) b2 il).2.2 (by omega)) (gw (x:=upC []) (P:=fun q:Cu=>q.2.length≤k+6) b3' (Jk _)).2
  refine a8 (fun _=>⟨⟨by omega,by omega⟩,fun acc hacc=>?_⟩) (fun _=>?_)
  ·refine aJ (fun y=>y) (onI fun u=>((n2.fdiv 8) / 2 ^ u.toNat).fmod 2==1) (fun σ=>∃z,σ=[z,some (.int n2)]) (by rw[gT];omega) (fun _=>trivial) ?_ ?_ ⟨_,rfl⟩
   ·rintro y hy l σ R ⟨z,rfl⟩ hl kT kF;obtain⟨u,rfl,u0⟩:=iV hy;dsimp only[onI]at kT kF;ac_rfl;exact⟨eE (by decide) (by decide),u0,by decide,a8 (fun q=>⟨hl,by rw[aI];exact kT q _ ⟨_,rfl⟩⟩) (fun q=>kF q _ ⟨_,rfl⟩)⟩
   rw[jH];have lM:(((List.range c.toNat).map fun k=>((k:Nat):Int)).filter fun u=>((n2.fdiv 8) / 2 ^ u.toNat).fmod 2==1).length≤k+6:=IC (IZ _ _) (by rw[rS,IM];omega);generalize ((List.range c.toNat).map fun k=>((k:Nat):Int)).filter (fun u=>((n2.fdiv 8) / 2 ^ u.toNat).fmod 2==1)=M at *;have sM:=(Sub.refl H).put (o:=.lst (M.map PV.int)) hacc;have bw:=fm (a:=n2.fdiv (10 ^ Int.toNat 4)) (b:=2) (by decide);refine⟨_,aj,ag (by decide),fun p hp=>⟨⟨by decide,by decide,by decide⟩,⟨by decide +kernel,(show My.BN 64 _ by unfold My.BN;decide +kernel).fit (by decide)⟩,by decide,Gx bw.1 bw.2 ?_ ?_⟩⟩
   ·exact put1 _ M i _ _ _ (.inl rfl) (sM.put (sM.free hp)) lM
   ·exact put1 _ M i _ _ _ (.inl rfl) (sM.put (sM.free hp)) lM
  refine a8 (fun _=>?_) (fun _=>?_)
  ·by_cases i2:i<cs.length
   ·refine aE (by rw[rS];simp;omega) ⟨ag (by decide),fun p hp=>⟨eE (by decide) (by decide),by decide,?_⟩⟩;obtain⟨q,hq,ci⟩:=at_ci i2;rw[ci];have bw:=fm (a:=n2.fdiv 8) (b:=3) (by decide);have sp:=(Sub.refl H).put (o:=.lst [PV.str "lump",PV.str "up",PV.str "ups"]) hp;have lM:q.2.length≤k+6:=by have:=b3 q hq;omega
    exact Gd bw.1 bw.2 (put1 _ q.2 (i+1) none _ _ (.inr rfl) sp lM) (put1 _ q.2 (i+1) none _ _ (.inr rfl) sp lM) (put1 _ q.2 (i+1) none _ _ (.inr rfl) sp lM)
   ·refine aC (by rw[rS];simp;omega) ?_;refine a8 (fun _=>?_) (fun _=>els);by_cases i2:i<cs.length
    ·refine aE (by rw[rS];simp;omega) ?_;obtain⟨q,hq,ci⟩:=at_ci i2;rw[ci];ac_rfl;exact⟨eE (by decide) (by decide),q.2,rfl,(by have:=b3 q hq;omega),⟨c1,c6⟩,fun M lM=>put1 q.1 M (i+1) none _ H (.inr rfl) (Sub.refl _) (by have:=b3 q hq;omega)⟩
    ·exact aC (by rw[rS];simp;omega) els
  ·refine a8 (fun _=>?_) (fun _=>els);by_cases i2:i<cs.length
   ·refine aE (by rw[rS];simp;omega) ?_;obtain⟨q,hq,ci⟩:=at_ci i2;rw[ci];ac_rfl;exact⟨eE (by decide) (by decide),q.2,rfl,(by have:=b3 q hq;omega),⟨c1,c6⟩,fun M lM=>put1 q.1 M (i+1) none _ H (.inr rfl) (Sub.refl _) (by have:=b3 q hq;omega)⟩
   ·exact aC (by rw[rS];simp;omega) els
 ·exact h.elim
theorem BG(T:Tx K mg t):aO P w K mg base CX0 1 t.a_zh t.d_zh ["formulas"] gu:=by
 refine okU (k:=0) T.F_zh pM (fun vs H Q E h=>by
  unfold gu at h;split at h
  ·rfl
  ·exact h.elim) (fun cdv A outer s H E B hr=>⟨_,(af (aw (i:=1) pM.nd rfl (by eq_refl) (aG (qv 0) ah (fun _ _=>rfl)))
  (af (bA Ik rfl (aN (nG (qv 0) (bf ah) bg)) (au (i:=2) pM.nd rfl (by eq_refl))
  (ai (aw (i:=1) pM.nd rfl (by eq_refl) (aW (aa aL (aa (qv 1) (aa (qv 2) ae)))))))
  (ai (aA (qv 1))))),?_⟩)
 intro vs H Q E h;unfold gu at h;split at h
 ·rename_i a;obtain⟨f,fs,ha,hl,h⟩:=h;refine ao fun R hR=>?_;ac_rfl;refine⟨_,ha,?_⟩;have e0:atI (f::fs) 0=some f:=eC (l:=f::fs) (i:=0) (Nat.zero_lt_succ _);rw[e0];ac_rfl;subst hR;refine ao fun R hR=>?_;ac_rfl;have e1:cz (f::fs) (some 1) none=fs:=cL (f::fs) 1;refine⟨_,ha,?_⟩;rw[e1];intro p hp;have s1:=(Sub.refl H).put (o:=.lst fs) hp;have hp1:put H p (.lst fs) p=some (.lst fs):=aj;generalize put H p (.lst fs)=H1 at *;refine bI (fun i σ H2=>∃z,σ=[some (.ref a),some (prodF (f::fs.take i)),z]/\H2=H1) ?_ ?_ ⟨none,rfl,rfl⟩
  ·rintro σ H2 ⟨z,rfl,rfl⟩;rw[Iy];refine⟨hp1,?_⟩;subst hR;ac_rfl;exact⟨H,s1,h⟩
  ·rintro G i y σ H2 hy ⟨z,rfl,rfl⟩ kk;refine⟨hp1,?_⟩;ac_rfl;refine⟨ag (by decide),kk _ _ ⟨some y,?_,rfl⟩⟩;rw[IG,hy];show _=[some (PV.ref a),some (prodF (f::(fs.take i++[y]))),some y];rw[jv]
 ·exact h.elim
theorem Bj(T:Tx K mg t):aO P w K mg base CX0 1 t.a_zD t.d_zD ["_law_formulas"] gf:=by
 refine okU (k:=0) T.F_zD qH (fun vs H Q E h=>by
  unfold gf at h;split at h
  ·rfl
  ·exact h.elim) (fun cdv A outer s H E B hr=>⟨_,(af (aw (i:=1) qH.nd rfl (by eq_refl) (aG (qv 0) ah (fun _ _=>rfl)))
  (af (bA Ik rfl (aN (nG (qv 0) (bf ah) bg)) (au (i:=2) qH.nd rfl (by eq_refl))
  (ai (aw (i:=1) qH.nd rfl (by eq_refl) (aW (aa aL (aa (qv 1) (aa (qv 2) ae)))))))
  (ai (aA (qv 1))))),?_⟩)
 intro vs H Q E h;unfold gf at h;split at h
 ·rename_i a;obtain⟨f,fs,ha,hl,h⟩:=h;refine ao fun R hR=>?_;ac_rfl;refine⟨_,ha,?_⟩;have e0:atI (f::fs) 0=some f:=eC (l:=f::fs) (i:=0) (Nat.zero_lt_succ _);rw[e0];ac_rfl;subst hR;refine ao fun R hR=>?_;ac_rfl;have e1:cz (f::fs) (some 1) none=fs:=cL (f::fs) 1;refine⟨_,ha,?_⟩;rw[e1];intro p hp;have s1:=(Sub.refl H).put (o:=.lst fs) hp;have hp1:put H p (.lst fs) p=some (.lst fs):=aj;generalize put H p (.lst fs)=H1 at *;refine bI (fun i σ H2=>∃z,σ=[some (.ref a),some (prodF (f::fs.take i)),z]/\H2=H1) ?_ ?_ ⟨none,rfl,rfl⟩
  ·rintro σ H2 ⟨z,rfl,rfl⟩;rw[Iy];refine⟨hp1,?_⟩;subst hR;ac_rfl;exact⟨H,s1,h⟩
  ·rintro G i y σ H2 hy ⟨z,rfl,rfl⟩ kk;refine⟨hp1,?_⟩;ac_rfl;refine⟨ag (by decide),kk _ _ ⟨some y,?_,rfl⟩⟩;rw[IG,hy];show _=[some (PV.ref a),some (prodF (f::(fs.take i++[y]))),some y];rw[jv]
 ·exact h.elim
theorem BL(T:Tx K mg t):aO P w K mg base CX0 1 t.a_zA t.d_zA ["names","formula"] je:=by
 refine okU (k:=0) T.F_zA D9 (fun vs H Q E h=>by
  unfold je at h;split at h
  ·rfl
  ·exact h.elim) (fun cdv A outer s H E B hr=>⟨_,(ai (aA (mC (av kG kf (aH aD bh rfl T.b_len Im (aa (qv 0) ae)) ah (az _)) (aW (aa aL (aa (qv 0) (aa (qv 1) ae)))) (qv 1)))),?_⟩)
 intro vs H Q E h;unfold je at h;split at h
 ·rename_i l f;obtain⟨N,rfl,h⟩:=h;ac_rfl;rw[rS];unfold sumF at h;by_cases e:N=[]
  ·subst e;exact aC (by simp) ⟨H,Sub.refl _,h⟩
  ·rw[CI e]at h;exact aE (by have:=List.length_pos_iff.mpr e;simp;omega) ⟨ag (by decide),H,Sub.refl _,h⟩
 ·exact h.elim
theorem yu(T:Tx K mg t):aO P w K mg base CX0 1 t.a_zW t.d_zW ["_law_names","_law_formula_here"] i5:=by
 refine okU (k:=0) T.F_zW EU (fun vs H Q E h=>by
  unfold i5 at h;split at h
  ·rfl
  ·exact h.elim) (fun cdv A outer s H E B hr=>⟨_,(ai (aA (aG (aR (aa (aW (aa aL (aa (aM aK a9 rfl T.b_tuple Jh (aa (qv 0) ae)) (aa (qv 1) ae)))) (aa (qv 1) ae))) (aM fE lR rfl T.b_int boot_int (aa (cg (aQ hr.units) aU (aH aD bh rfl T.b_len Im (aa (qv 0) ae)) ah (az _)) ae)) (fun _ _=>rfl)))),?_⟩)
 intro vs H Q E h;unfold i5 at h;split at h
 ·rename_i v f;obtain⟨N,hv,h⟩:=h;unfold sumF at h;have fin:∀p,H p=none->dJ (atI [PV.tup [PV.str "sum",PV.tup (N.map PV.int),f],f] (b2n (((N.map PV.int).length:Int)==0))) fun v=>∃H3,U.Sub H3 (put H p (.lst [PV.tup [PV.str "sum",PV.tup (N.map PV.int),f],f]))/\Q v H3:=fun p hp=>by
   rw[rS];by_cases e:N=[]
   ·subst e;exact⟨H,(Sub.refl H).put hp,h⟩
   ·rw[CI e]at h;have e2:(((N.length:Nat):Int)==0)=false:=by have:=List.length_pos_iff.mpr e;simp;omega
    rw[e2];exact⟨H,(Sub.refl H).put hp,h⟩
  rcases hv with rfl |⟨r,rfl,hr⟩
  ·ac_rfl;exact⟨ag (by decide),ag (by decide),fin⟩
  ·ac_rfl;exact⟨_,hr,ag (by decide),ag (by decide),fun p hp=>⟨_,(aq (ax hr hp)).trans hr,fin p hp⟩⟩
 ·exact h.elim
theorem Ft(T:Tx K mg t):aO P w K mg base CX0 2 t.a_zl t.d_zl ["stands","count","ahead"] iU:=by
 refine okU (k:=1) T.F_zl EI (fun vs H Q E h=>by
  unfold iU at h;split at h
  ·rfl
  ·exact h.elim) (fun cdv A outer s H E B hr=>⟨_,(ai (aA (mC (av (aQ hr.units) aU (qv 1) ah (az _)) (aW (aa aL ae)) (ar (BL T) (hr.mono (by decide)) rfl T.g_zA T.F_zA.kp T.B_zA (aa (a5 (qv 0) (bf (qv 1)) bg) (aa (qv 2) ae)))))),?_⟩)
 intro vs H Q E h;unfold iU at h;split at h
 ·rename_i l k f;obtain⟨S,n,rfl,rfl,h⟩:=h;ac_rfl;unfold eI at h;by_cases e:n=0
  ·subst e;exact aE (by simp) ⟨ag (by decide),H,Sub.refl _,h⟩
  ·rw[CI e]at h;refine aC (by simp[e]) ?_;rw[cL,← J1];exact⟨S.drop n,rfl,H,Sub.refl _,h⟩
 ·exact h.elim
theorem FF(T:Tx K mg t):aO P w K mg base CX0 2 t.a_zj t.d_zj ["stands"] fD:=by
 refine okU (k:=1) T.F_zj AD (fun vs H Q E h=>by
  unfold fD at h;split at h
  ·rfl
  ·exact h.elim) (fun cdv A outer s H E B hr=>⟨_,(af (aw (i:=1) AD.nd rfl (by eq_refl) (bx (N2:=["count"]) (nt:=1) (js:=[]) (ck (sc:=ak ve)) rfl (bW rfl T.b_range (aa (bQ (aG (qv 0) (eY ah) (fun _ _=>rfl)) ah) ae)) (fun s0 H0 fp ps=>⟨(au (i:=0) (show List.Nodup (["count"]:List Str) by decide +kernel) rfl (by eq_refl)),bO,(aW (aa aL (aa (ar (CU T) (hr.mono (by decide)) rfl T.g_zB T.F_zB.kp T.B_zB (aa (qv 0) ae)) ae)))⟩)))
  (ai (aA (ar (BG T) (hr.mono (by decide)) rfl T.g_zh T.F_zh.kp T.B_zh (aa (bx (N2:=["name","seen"]) (nt:=1) (js:=[1]) (ck (sc:=ak ve)) rfl (aN (qv 0)) (fun s0 H0 fp ps=>⟨(au (i:=0) (show List.Nodup (["name","seen"]:List Str) by decide +kernel) rfl (by eq_refl)),bO,(aW (aa aL (aa (aG (qv 1) (bQ (qv 0) ah) (fun _ _=>rfl)) (aa (aG (qv 1) (qv 0) (fun _ _=>rfl)) ae))))⟩)) ae))))),?_⟩)
 intro vs H Q E h;unfold fD at h;split at h
 ·rename_i l;obtain⟨c,S,rfl,hS,ne,c6,h⟩:=h;refine ao fun R hR=>?_;have hlm:S.getLast ne∈S:=List.getLast_mem ne;have el:atI (S.map PV.int) (-1)=some (.int (S.getLast ne)):=by
   have e:=List.dropLast_concat_getLast ne;have e2:S.map PV.int=S.dropLast.map PV.int++[.int (S.getLast ne)]:=by rw[←List.map_singleton,← Ie,e]
   rw[e2];exact mn
  have hup:∀y∈S,y≤S.getLast ne:=fun y hy=>by
   have e:=List.dropLast_concat_getLast ne;have u:=hS.up;rw[←e,List.pairwise_append]at u;rw[←e]at hy;rcases zi.mp hy with q | q
   ·exact Int.le_of_lt (u.2.2 y q _ xP)
   ·rw[xI.mp q];exact Int.le_refl _
  generalize S.getLast ne=z at *;have lb:=hS.lo _ hlm;ac_rfl;rw[el];ac_rfl;refine⟨⟨by omega,by omega⟩,fun acc hacc=>?_⟩;refine aJ (jS c8) (fun _=>true) (fun σ=>∃z,σ=[z]) (by rw[gT];omega) (fun _=>trivial) ?_ ?_ ⟨_,rfl⟩
  ·rintro y hy l σ R ⟨u,rfl⟩ hl kT kF;have hk:∃k,y=.int k/\0≤k/\k<z+2:=by
    unfold b7 at hy;obtain⟨k,hk,rfl⟩:=Bc.mp hy;rw[ID]at hk;exact⟨_,rfl,by omega,by omega⟩
   obtain⟨k,rfl,k0,k1⟩:=hk;have ef:jS c8 (.int k)=.tup [.str "seen",.tup ((ulN k).map PV.int)]:=rfl;rw[ef]at kT;ac_rfl;exact⟨⟨k0,by omega⟩,ag (by decide),hl,by rw[aI];exact kT rfl _ ⟨_,rfl⟩⟩
  rw[pW];have ef:(fun k:Nat=>jS c8 (.int ((k:Nat):Int)))=fun k:Nat=>c8 ((k:Nat):Int):=rfl;rw[ef];have s1:=(Sub.refl H).put (o:=.lst ((List.range (z+2).toNat).map fun k:Nat=>c8 ((k:Nat):Int))) hacc;have a1:put H acc (.lst ((List.range (z+2).toNat).map fun k:Nat=>c8 ((k:Nat):Int))) acc=some (.lst ((List.range (z+2).toNat).map fun k:Nat=>c8 ((k:Nat):Int))):=aj;generalize put H acc (.lst ((List.range (z+2).toNat).map fun k:Nat=>c8 ((k:Nat):Int)))=H1 at *;have l6:=hS.len c6;subst hR;ac_rfl;intro p hp;have nap:=ax a1 hp;refine aJ (jS jB) (fun _=>true) (fun σ=>∃z,σ=[z,some (.ref acc)]) (by rw[rS];omega) (fun _=>trivial) ?_ ?_ ⟨_,rfl⟩
  ·rintro y hy l σ R ⟨u,rfl⟩ hl kT kF;obtain⟨n,hn,rfl⟩:=Bc.mp hy;have b1:=hS.lo n hn;have b2:=hup n hn;have ef:jS jB (.int n)=.tup [.str "over",c8 (n+1),c8 n]:=rfl;rw[ef]at kT;ac_rfl;have a2:put H1 p (.lst l) acc=some (.lst ((List.range (z+2).toNat).map fun k:Nat=>c8 ((k:Nat):Int))):=(aq nap).trans a1;refine⟨_,a2,?_⟩;rw[jd (by omega) (by omega)];refine⟨_,a2,?_⟩;rw[jd (by omega) (by omega)];rw[show(((n+1).toNat:Nat):Int)=n+1 by omega,show((n.toNat:Nat):Int)=n by omega];exact⟨ag (by decide),hl,by rw[aI];exact kT rfl _ ⟨_,rfl⟩⟩
  rw[ints_map];obtain⟨n0,S',rfl⟩:=Jg ne;refine⟨jB n0,S'.map jB,aj,by rw[rS];simp at l6;omega,H,s1.put (s1.free hp),h⟩
 ·exact h.elim
theorem GA(T:Tx K mg t):aO P w K mg base CX0 3 t.a_zr t.d_zr ["stands","names","ahead"] gc:=by
 refine okU (k:=2) T.F_zr uo (fun vs H Q E h=>by
  unfold gc at h;split at h
  ·rfl
  ·exact h.elim) (fun cdv A outer s H E B hr=>⟨_,(af (aw (i:=3) uo.nd rfl (by eq_refl) (bx (N2:=["count","stands","ahead"]) (nt:=1) (js:=[0,2]) (ck (sc:=ak sF)) rfl (bW rfl T.b_range (aa (bQ (aH aD bh rfl T.b_len Im (aa (qv 0) ae)) ah) ae)) (fun s0 H0 fp ps=>⟨(au (i:=0) (show List.Nodup (["count","stands","ahead"]:List Str) by decide +kernel) rfl (by eq_refl)),bO,(ar (Ft T) (hr.mono (by decide)) rfl T.g_zl T.F_zl.kp T.B_zl (aa (qv 1) (aa (qv 0) (aa (qv 2) ae))))⟩)))
  (af (tK (i:=4) uo.nd rfl (by eq_refl) (N2:=["place","name","names"]) (nt:=2) (js:=[1]) (ck (sc:=ak sF)) rfl (uN rfl T.b_enumerate (aa (qv 0) ae)) (fun s0 H0 fp ps=>⟨(c9 (n:=2) rfl (aV (au (i:=0) (show List.Nodup (["place","name","names"]:List Str) by decide +kernel) rfl (by eq_refl)) (aV (au (i:=1) (show List.Nodup (["place","name","names"]:List Str) by decide +kernel) rfl (by eq_refl)) b9))),(bD (av (bG hr.units) bC (qv 1) (qv 2) (by with_unfolding_all rfl))),(qv 0)⟩))
  (ai (aA (ar (BG T) (hr.mono (by decide)) rfl T.g_zh T.F_zh.kp T.B_zh (aa (bx (N2:=["place","begins"]) (nt:=1) (js:=[3]) (ck (sc:=ak sF)) rfl (aN (qv 4)) (fun s0 H0 fp ps=>⟨(au (i:=0) (show List.Nodup (["place","begins"]:List Str) by decide +kernel) rfl (by eq_refl)),bO,(aW (aa aL (aa (aG (qv 1) (bQ (qv 0) ah) (fun _ _=>rfl)) (aa (aG (qv 1) (qv 0) (fun _ _=>rfl)) ae))))⟩)) ae)))))),?_⟩)
 intro vs H Q E h;unfold gc at h;split at h
 ·rename_i l m f;obtain⟨S,N,rfl,rfl,lS,lN,⟨x,xS,xN⟩,h⟩:=h;refine ao fun R hR=>?_;ac_rfl;rw[rS];refine⟨⟨by omega,by omega⟩,fun acc hacc=>?_⟩;refine aJ (jS fun k=>eI S k.toNat f) (fun _=>true) (fun σ=>∃z,σ=[z,some (.tup (S.map PV.int)),some f]) (by rw[gT];omega) (fun _=>trivial) ?_ ?_ ⟨_,rfl⟩
  ·rintro y hy l σ R ⟨u,rfl⟩ hl kT kF;obtain⟨k,rfl,k0⟩:=iV hy;ac_rfl;exact⟨S,k.toNat,rfl,by omega,hl,by rw[aI];exact kT rfl _ ⟨_,rfl⟩⟩
  rw[pW];have ef:(fun k:Nat=>jS (fun k=>eI S k.toNat f) (.int ((k:Nat):Int)))=fun k:Nat=>eI S k f:=rfl;rw[ef];have s1:=(Sub.refl H).put (o:=.lst ((List.range (((S.length:Nat):Int)+1).toNat).map fun k:Nat=>eI S k f)) hacc;have a1:put H acc (.lst ((List.range (((S.length:Nat):Int)+1).toNat).map fun k:Nat=>eI S k f)) acc=some (.lst ((List.range (((S.length:Nat):Int)+1).toNat).map fun k:Nat=>eI S k f)):=aj;generalize put H acc (.lst ((List.range (((S.length:Nat):Int)+1).toNat).map fun k:Nat=>eI S k f))=H1 at *;subst hR;refine ao fun R hR=>?_;ac_rfl;rw[tW];intro p hp;refine aJ fsP (ifP N) (fun σ=>∃z u,σ=[z,u,some (.tup (N.map PV.int))]) (by unfold kc;rw[rS,IM];omega) (fun _=>trivial) ?_ ?_ ⟨_,_,rfl⟩
  ·rintro y hy l σ R ⟨u,u2,rfl⟩ hl kT kF;obtain⟨k,hk,rfl⟩:=uf hy;have e1:ifP N (.tup [.int ((k:Nat):Int),.int (S.getD k 0)])=decide (S.getD k 0∈N):=rfl;have e2:fsP (.tup [.int ((k:Nat):Int),.int (S.getD k 0)])=.int ((k:Nat):Int):=rfl;rw[e1]at kT kF;rw[e2]at kT;ac_rfl;refine⟨ay,?_⟩;simp only[aX];exact a8 (fun q=>⟨hl,by rw[aI];exact kT q _ ⟨_,_,rfl⟩⟩) (fun q=>kF q _ ⟨_,_,rfl⟩)
  rw[zk];have s2:=s1.put (o:=.lst ((fX S N).map fun k:Nat=>PV.int ((k:Nat):Int))) (s1.free hp);have a2:put H1 p (.lst ((fX S N).map fun k:Nat=>PV.int ((k:Nat):Int))) acc=_:=(aq (ax a1 hp)).trans a1;have p2:put H1 p (.lst ((fX S N).map fun k:Nat=>PV.int ((k:Nat):Int))) p=some (.lst ((fX S N).map fun k:Nat=>PV.int ((k:Nat):Int))):=aj;generalize put H1 p (.lst ((fX S N).map fun k:Nat=>PV.int ((k:Nat):Int)))=H2 at *;have lp:(fX S N).length≤S.length:=nO;subst hR;ac_rfl;refine⟨_,p2,fun q hq=>?_⟩;refine aJ (jS fun k=>ir S f k.toNat) (fun _=>true) (fun σ=>∃z,σ=[z,some (.ref acc)]) (by rw[rS];omega) (fun _=>(aq (ax p2 hq)).trans p2) ?_ ?_ ⟨_,rfl⟩
  ·rintro y hy l σ R ⟨u,rfl⟩ hl kT kF;obtain⟨k,hk,rfl⟩:=Bc.mp hy;have hk2:=zf hk;have ef:jS (fun k=>ir S f k.toNat) (.int ((k:Nat):Int))=.tup [.str "over",eI S (k+1) f,eI S k f]:=rfl;rw[ef]at kT;ac_rfl;have a3:=(aq (o:=.lst l) (ax a2 hq)).trans a2;refine⟨_,a3,?_⟩;rw[jd (by omega) (by omega)];refine⟨_,a3,?_⟩;rw[jd (by omega) (by omega)];rw[show(((k:Nat):Int)+1).toNat=k+1 by omega,show(((k:Nat):Int)).toNat=k by omega];exact⟨ag (by decide),hl,by rw[aI];exact kT rfl _ ⟨_,rfl⟩⟩
  rw[Ji.mpr (fun _ _=>rfl),IV];have eq:(jS fun k=>ir S f k.toNat) ∘ (fun k:Nat=>PV.int ((k:Nat):Int))=ir S f:=rfl;rw[eq];unfold kE at h;obtain⟨k0,ks,ek⟩:=pZ xS xN;rw[ek]at h lp ⊢;refine⟨ir S f k0,ks.map (ir S f),aj,by rw[rS];simp at lp;omega,H,s2.put (s2.free hq),h⟩
 ·exact h.elim
theorem GC(T:Tx K mg t):aO P w K mg base CX0 8 t.a_zz t.d_zz ["drawing","lump","cuts"] (iW t):=by
 refine okU (k:=7) T.F_zz jT (fun vs H Q E h=>by
  unfold iW at h;split at h
  ·rfl
  ·exact h.elim) (fun cdv A outer s H E B hr=>⟨_,(af (aw (i:=3) jT.nd rfl (by eq_refl) (ar (Es T) (hr.mono (by decide)) rfl T.g_zF T.F_zF.kp T.B_zF (aa (qv 0) (aa (qv 1) ae))))
  (af (aw (i:=4) jT.nd rfl (by eq_refl) (ar (FF T) (hr.mono (by decide)) rfl T.g_zj T.F_zj.kp T.B_zj (aa (qv 3) ae)))
  (af (bA Ik rfl (aN (qv 2)) (au (i:=5) jT.nd rfl (by eq_refl))
  (af (aS (av (aQ hr.units) aU (aG (qv 5) ah (fun _ _=>rfl)) aL (az _))
   (ai (aw (i:=4) jT.nd rfl (by eq_refl) (ar (BL T) (hr.mono (by decide)) rfl T.g_zA T.F_zA.kp T.B_zA (aa (ar (BU T) (hr.mono (by decide)) rfl T.g_zX T.F_zX.kp T.B_zX (aa (qv 3) (aa (aG (qv 5) ah (fun _ _=>rfl)) ae))) (aa (qv 4) ae)))))
   (ai (aw (i:=4) jT.nd rfl (by eq_refl) (ar (GA T) (hr.mono (by decide)) rfl T.g_zr T.F_zr.kp T.B_zr (aa (qv 3) (aa (aG (qv 5) ah (fun _ _=>rfl)) (aa (qv 4) ae)))))))
   (ai (aw (i:=3) jT.nd rfl (by eq_refl) (aG (qv 5) ah (fun _ _=>rfl))))))
  (ai (aA (qv 4)))))),?_⟩)
 intro vs H Q E h;unfold iW at h;split at h
 ·rename_i x l m;obtain⟨c,ts,bs,x0,R0,cs,⟨dx,hx⟩,ok,rfl,rfl,hx0,le,h⟩:=h;have xu:=b0.mpr hx0;have c6:=ok.c6;refine ao fun R hR=>?_;ac_rfl;refine⟨c,ts,bs,x0,R0,⟨dx,hx⟩,ok,rfl,hx0,fun S0 la=>?_⟩;have n0:=la.nms dD xu;have ru:dq c ts bs S0 cs:=(le x0 S0 rfl la).1;have ne0:S0≠[]:=fun e=>by have:=la.self;rw[e]at this;cases this
  have h:=h S0 la;have l0:=n0.len c6;subst hR;refine ao fun R hR=>?_;ac_rfl;refine⟨c,S0,rfl,n0,ne0,c6,?_⟩;subst hR;refine ao fun R hR=>?_;ac_rfl;refine bI (fun j σ H6=>∃u4,σ=[some (.ref x),some (.tup (.int x0::R0.map PV.int)),some (.tup (cs.map aT)),some (.tup ((stA S0 (cs.take j)).map PV.int)),some (fQ S0 (cs.take j)),u4]/\H6=H) ?_ ?_ ⟨_,rfl,rfl⟩
  ·rintro σ H6 ⟨u4,rfl,rfl⟩;rw[rS,Iy];refine⟨trivial,?_⟩;subst hR;ac_rfl;exact⟨H6,Sub.refl _,h⟩
  ·rintro G' j z σ H6 hz ⟨u4,rfl,rfl⟩ kk';refine⟨trivial,?_⟩;obtain⟨hj,e⟩:=vM.mp hz;rw[rS]at hj;rw[Il]at e;subst e;have hjx:cs[j]?=some cs[j]:=sH hj;have tj:cs.take (j+1)=cs.take j++[cs[j]]:=by rw[IG,hjx];rfl
   have v:=ru j _ hjx;have lj:=(iQ ru l0 j (by omega)).1;rw[tj,dc,ia]at kk';generalize cs[j]=q at *;obtain⟨w,N⟩:=q;generalize stA S0 (cs.take j)=S at *;generalize fQ S0 (cs.take j)=f at *;have lN:=v.nms.len c6;unfold aT;refine ao fun R3 hR3=>?_;ac_rfl;unfold jn at kk';by_cases w1:w="up"
   ·subst w1;refine aE rfl ⟨S,N,rfl,rfl,by omega,_,rfl,?_⟩;subst hR3;ac_rfl;exact kk' _ _ ⟨_,rfl,rfl⟩
   ·refine aC (by simpa using w1) ⟨S,N,rfl,rfl,by omega,lN,?_,?_⟩
    ·obtain⟨y,N',e⟩:=Jg v.ne;have e:N=y::N':=e;exact⟨y,v.sub y (by rw[show((w,N):Cu).2=N from rfl,e];exact xP),by rw[e];exact xP⟩
    subst hR3;ac_rfl;rw[CI w1]at kk';exact kk' _ _ ⟨_,rfl,rfl⟩
 ·exact h.elim
theorem F6(T:Tx K mg t):aO P w K mg base CX0 6 t.a_zH t.d_zH ["_law_shape","_law_lump","_law_cuts_here"] d0:=by
 refine okU (k:=5) T.F_zH dA (fun vs H Q E h=>by
  unfold d0 at h;split at h
  ·rfl
  ·exact h.elim) (fun cdv A outer s H E B hr=>⟨_,(af (aw (i:=3) dA.nd rfl (by eq_refl) (ar (xq T) (hr.mono (by decide)) rfl T.g_zn T.F_zn.kp T.B_zn (aa (qv 0) (aa (px rfl rfl T.b_list rfl T.b_range boot_list (aG (qv 0) ah (fun _ _=>rfl))) (aa (qv 1) ae)))))
  (af (aw (i:=4) dA.nd rfl (by eq_refl) (aR ae))
  (af (bA Ik rfl (aN (qv 3)) (au (i:=5) dA.nd rfl (by eq_refl))
  (ai (a7 (cH IA IB bz bB (qv 4) (aa (aW (aa aL (aa (aW (aa aL (aa (lJ rfl rfl T.b_tuple rfl T.b_range Jh (bQ (qv 5) ah)) ae))) (aa (aW (aa aL (aa (lJ rfl rfl T.b_tuple rfl T.b_range Jh (qv 5)) ae))) ae)))) ae)))))
  (af (aw (i:=6) dA.nd rfl (by eq_refl) (ar (Bj T) (hr.mono (by decide)) rfl T.g_zD T.F_zD.kp T.B_zD (aa (qv 4) ae)))
  (af (bA Ik rfl (aN (qv 2)) (c9 (n:=2) rfl (aV (au (i:=7) dA.nd rfl (by eq_refl)) (aV (au (i:=8) dA.nd rfl (by eq_refl)) b9)))
  (af (aS (av (aQ hr.units) aU (qv 7) aL (az _))
   (ai (aw (i:=6) dA.nd rfl (by eq_refl) (ar (yu T) (hr.mono (by decide)) rfl T.g_zW T.F_zW.kp T.B_zW (aa (bx (N2:=["_law_name","_law_names"]) (nt:=1) (js:=[8]) (ck (sc:=ak xw)) rfl (aN (qv 3)) (fun s0 H0 fp ps=>⟨(au (i:=0) (show List.Nodup (["_law_name","_law_names"]:List Str) by decide +kernel) rfl (by eq_refl)),(bD (av (bP hr.units) bC (qv 0) (qv 1) (by with_unfolding_all rfl))),(qv 0)⟩)) (aa (qv 6) ae)))))
   (af (aw (i:=4) dA.nd rfl (by eq_refl) (aR ae))
    (af (yE Ik rfl (uN rfl T.b_enumerate (aa (qv 3) ae)) (c9 (n:=2) rfl (aV (au (i:=9) dA.nd rfl (by eq_refl)) (aV (au (i:=5) dA.nd rfl (by eq_refl)) b9)))
    (ai (aS (av (bG hr.units) bC (qv 5) (qv 8) (by with_unfolding_all rfl))
     (af (aw (i:=10) dA.nd rfl (by eq_refl) (aG (aR (aa (ar (yu T) (hr.mono (by decide)) rfl T.g_zW T.F_zW.kp T.B_zW (aa (a5 (qv 3) (bf (qv 9)) bg) (aa (qv 6) ae))) (aa (aW (aa aL ae)) ae))) (aM fE lR rfl T.b_int boot_int (aa (cg (aQ hr.units) aU (qv 9) ah (az _)) ae)) (fun _ _=>rfl)))
      (ai (a7 (cH IA IB bz bB (qv 4) (aa (aW (aa aL (aa (ar (yu T) (hr.mono (by decide)) rfl T.g_zW T.F_zW.kp T.B_zW (aa (a5 (qv 3) (bf (bQ (qv 9) ah)) bg) (aa (qv 6) ae))) (aa (qv 10) ae)))) ae)))))
     aF)))
    (ai (aw (i:=6) dA.nd rfl (by eq_refl) (ar (Bj T) (hr.mono (by decide)) rfl T.g_zD T.F_zD.kp T.B_zD (aa (qv 4) ae)))))))
   (ai (aw (i:=3) dA.nd rfl (by eq_refl) (qv 8)))))
  (ai (aA (qv 6)))))))),?_⟩)
 intro vs H Q E h;unfold d0 at h;split at h
 ·rename_i a l m;obtain⟨c,ts,bs,x0,R0,cs,hs,ok,rfl,rfl,hx0,le,h⟩:=h;have xu:=b0.mpr hx0;have c6:=ok.c6;obtain⟨q1,q2,e1,e2,e3⟩:=id hs;refine ao fun R hR=>?_;ac_rfl;refine⟨_,e1,?_⟩;rw[iD];ac_rfl;refine⟨by omega,by omega,fun r hr=>?_⟩;rw[fO];have s1:=(Sub.refl H).put (o:=.lst ((ulN c).map PV.int)) hr;refine⟨c,ts,bs,ulN c,x0,R0,hs.up s1,ok,.inr ⟨r,rfl,aj⟩,rfl,dD,xu,fun S0 la=>?_⟩;generalize put H r (.lst ((ulN c).map PV.int))=H1 at *;have n0:=la.nms dD xu;have ru:dq c ts bs S0 cs:=(le x0 S0 rfl la).1;have ne0:S0≠[]:=fun e=>by have:=la.self;rw[e]at this;cases this
  have h:=h S0 la;have l0:=n0.len c6;subst hR;refine ao fun R hR=>?_;ac_rfl;refine⟨ag (by decide),fun g hg=>?_⟩;have s2:=s1.put (o:=.lst []) (s1.free hg);have g2:put H1 g (.lst []) g=some (.lst []):=aj;generalize put H1 g (.lst [])=H2 at *;subst hR;refine ao fun R hR=>?_;ac_rfl;refine bI (fun i σ H3=>∃z,σ=[some (.ref a),some (.tup (.int x0::R0.map PV.int)),some (.tup (cs.map aT)),some (.tup (S0.map PV.int)),some (.ref g),z,none,none,none,none,none]/\U.Sub H H3/\H3 g=some (.lst ((S0.take i).map jB))) ?_ ?_ ⟨none,rfl,s2,g2⟩
  ·rintro σ H3 ⟨z,rfl,s3,g3⟩;rw[rS,Iy]at g3;refine⟨trivial,?_⟩;subst hR;dsimp only;refine ao fun R hR=>?_;ac_rfl;have fi:fU S0=prodF (S0.map jB):=rfl;obtain⟨y0,S',eS⟩:=Jg ne0;rw[eS]at g3;refine⟨jB y0,S'.map jB,g3,by rw[eS]at l0;rw[rS];simp at l0;omega,?_⟩;rw[show prodF (jB y0::S'.map jB)=fU S0 by rw[fi,eS];rfl];clear eS g3 fi;subst hR;refine ao fun R hR=>?_;ac_rfl;refine bI (fun j σ H6=>∃w4 w5 w7 w8 w9 w10,σ=[some (.ref a),some (.tup (.int x0::R0.map PV.int)),some (.tup (cs.map aT)),some (.tup ((stA S0 (cs.take j)).map PV.int)),w4,w5,some (fQ S0 (cs.take j)),w7,w8,w9,w10]/\U.Sub H H6) ?_ ?_ ⟨_,_,_,_,_,_,rfl,s3⟩
   ·rintro σ H6 ⟨w4,w5,w7,w8,w9,w10,rfl,s6⟩;rw[rS,Iy];refine⟨trivial,?_⟩;subst hR;ac_rfl;exact⟨H,s6,h⟩
   ·rintro G' j z σ H6 hz ⟨w4,w5,w7,w8,w9,w10,rfl,s6⟩ kk';refine⟨trivial,?_⟩;obtain⟨hj,e⟩:=vM.mp hz;rw[rS]at hj;rw[Il]at e;subst e;have hjx:cs[j]?=some cs[j]:=sH hj;have tj:cs.take (j+1)=cs.take j++[cs[j]]:=by rw[IG,hjx];rfl
    have v:=ru j _ hjx;have lj:=(iQ ru l0 j (by omega)).1;rw[tj,dc,ia]at kk';generalize cs[j]=q at *;obtain⟨w,N⟩:=q;generalize stA S0 (cs.take j)=S at *;generalize fQ S0 (cs.take j)=f at *;have lN:=v.nms.len c6;have ew:aT (w,N)=.tup [.str w,.tup (N.map PV.int)]:=rfl;rw[ew];simp only[Bt,De,Dg,gi,List.set_cons_zero,List.set_cons_succ,Ih,List.length_nil,Nat.zero_add,Nat.reduceAdd,true_and];refine ao fun R3 hR3=>?_;ac_rfl;unfold jn at kk';by_cases w1:w="up"
    ·subst w1;refine aE rfl ?_;intro p hp;refine aJ (fun y=>y) (onI fun y=>!decide (y∈N)) (fun σ=>∃z,σ=[z,some (.tup (N.map PV.int))]) (by rw[rS];omega) (fun _=>trivial) ?_ ?_ ⟨_,rfl⟩
     ·rintro y hy l σ R' ⟨z,rfl⟩ hl kT kF;obtain⟨k,hk,rfl⟩:=Bc.mp hy;have e:onI (fun y=>!decide (y∈N)) (PV.int k)=!decide (k∈N):=rfl;rw[e]at kT kF;ac_rfl;refine⟨ay,?_⟩;simp only[aX];exact a8 (fun q=>⟨hl,by rw[aI];exact kT q _ ⟨_,rfl⟩⟩) (fun q=>kF q _ ⟨_,rfl⟩)
     rw[bF];have s7:=s6.put (o:=.lst ((S.filter fun y=>!decide (y∈N)).map PV.int)) (s6.free hp);refine⟨S.filter fun y=>!decide (y∈N),.inr ⟨p,rfl,aj⟩,?_⟩;subst hR3;ac_rfl;exact kk' _ _ ⟨_,_,_,_,_,_,rfl,s7⟩
    ·refine aC (by simpa using w1) ?_;rw[CI w1]at kk';refine⟨ag (by decide),fun g4 hg4=>?_⟩;have s7:=s6.put (o:=.lst []) (s6.free hg4);have g7:put H6 g4 (.lst []) g4=some (.lst []):=aj;generalize put H6 g4 (.lst [])=H7 at *;rw[tW];obtain⟨y1,y1S,y1N⟩:∃y∈S,y∈N:=by
      obtain⟨y,N',e⟩:=Jg v.ne;have e:N=y::N':=e;exact⟨y,v.sub y (by rw[show((w,N):Cu).2=N from rfl,e];exact xP),by rw[e];exact xP⟩
     refine bI (fun i σ H8=>∃z5 z9 z10,σ=[some (.ref a),some (.tup (.int x0::R0.map PV.int)),some (.tup (cs.map aT)),some (.tup (S.map PV.int)),some (.ref g4),z5,some f,some (.str w),some (.tup (N.map PV.int)),z9,z10]/\U.Sub H H8/\H8 g4=some (.lst ((lC S N i).map (ir S f)))) ?_ ?_ ⟨_,_,_,rfl,s7,g7⟩
     ·rintro σ H8 ⟨z5,z9,z10,rfl,s8,g8⟩;rw[sZ]at g8;have g8:H8 g4=some (.lst ((fX S N).map (ir S f))):=g8;refine⟨trivial,?_⟩;dsimp only;ac_rfl;have pl:(fX S N).length≤S.length:=nO;obtain⟨k0,ks,ek⟩:=pZ y1S y1N;rw[ek]at g8 pl;refine⟨ir S f k0,ks.map (ir S f),g8,by rw[rS];simp at pl;omega,?_⟩;rw[show prodF (ir S f k0::ks.map (ir S f))=kE S N f by unfold kE;rw[ek];rfl];subst hR3;ac_rfl;exact kk' _ _ ⟨_,_,_,_,_,_,rfl,s8⟩
     ·rintro G i y σ H8 hy ⟨z5,z9,z10,rfl,s8,g8⟩ kk;refine⟨trivial,?_⟩;obtain⟨hi,rfl⟩:=tV hy;have pl:(lC S N i).length≤i:=uz;have py:=uU (S:=S) (N:=N) (i:=i);have pn:=xt (S:=S) (N:=N) (i:=i);generalize S.getD i 0=n at *;ac_rfl;refine⟨ay,?_⟩;simp only[aX];refine bK (fun hn=>?_) (fun hn=>kk _ _ ⟨_,_,_,rfl,s8,by rw[pn hn];exact g8⟩);rw[py hn,Ie]at kk;rw[cL,← J1,show((i:Nat):Int)+1=((i+1:Nat):Int) by omega,cL,← J1];refine⟨S.drop i,.inl rfl,ag (by decide),ag (by decide),fun p hp=>ym ?_⟩;have s9:=s8.put (o:=.lst [sumF (S.drop i) f,.tup [.str "one"]]) (s8.free hp);have g9:put H8 p (.lst [sumF (S.drop i) f,.tup [.str "one"]]) g4=_:=(aq (ax g8 hp)).trans g8;refine⟨⟨_,g9⟩,S.drop (i+1),.inl rfl,ag (by decide),_,g9,aZ (by rw[rS];omega),kk _ _ ⟨_,_,_,rfl,s9.put (s6.free hg4),?_⟩⟩;rw[aj];rfl
  ·rintro G i y σ H3 hy ⟨z,rfl,s3,g3⟩ kk;refine⟨trivial,?_⟩;obtain⟨hi,e⟩:=vM.mp hy;rw[rS]at hi;rw[Il]at e;subst e;have hb:=n0.lo _ (Ii hi);have tk:S0.take (i+1)=S0.take i++[S0[i]]:=by rw[IG,sH hi];rfl
   generalize S0[i]=n at *;ac_rfl;refine⟨⟨_,g3⟩,by omega,by omega,ag (by decide),by omega,by omega,ag (by decide),ag (by decide),_,g3,aZ (by rw[rS,Iu];omega),kk _ _ ⟨_,rfl,s3.put (s1.free hg),?_⟩⟩;rw[aj,tk,Ie,fO,fO];rfl
 ·exact h.elim
theorem HV(T:Tx K mg t):aO P w K mg base (CXU P w) 10 t.a_zK t.d_zK ["drawing","question","paper"] (iR t):=by
 refine okX (k:=9) T.F_zK Am (fun vs H Q E h=>by
  unfold iR at h;split at h
  ·rfl
  ·exact h.elim) (fun cdv A outer s H0 E0 vs H Q E hr hE h=>⟨_,(af (aS (dg (cM (ar (Fu T) (hr.mono (by decide)) rfl T.g_ye T.F_ye.kp T.B_ye (aa (qv 0) (aa (qv 1) (aa (qv 2) ae))))))
  (ai (uA rfl wb hE rfl T.x_A rfl T.g_A))
  aF)
  (af (aw (i:=3) Am.nd rfl (by eq_refl) (ar (BG T) (hr.mono (by decide)) rfl T.g_zh T.F_zh.kp T.B_zh (aa (bx (N2:=["row","drawing"]) (nt:=1) (js:=[0]) (ck (sc:=ak zB)) rfl (aN (qv 2)) (fun s0 H0 fp ps=>⟨(au (i:=0) (show List.Nodup (["row","drawing"]:List Str) by decide +kernel) rfl (by eq_refl)),bO,(ar (GC T) (hr.mono (by decide)) rfl T.g_zz T.F_zz.kp T.B_zz (aa (qv 1) (aa (aG (qv 0) ah (fun _ _=>rfl)) (aa (aG (qv 0) ah (fun _ _=>rfl)) ae))))⟩)) ae)))
  (ai (aA (ar (BL T) (hr.mono (by decide)) rfl T.g_zA T.F_zA.kp T.B_zA (aa (ar (BU T) (hr.mono (by decide)) rfl T.g_zX T.F_zX.kp T.B_zX (aa (ar (Fl T) (hr.mono (by decide)) rfl T.g_zu T.F_zu.kp T.B_zu (aa (qv 0) (aa (qv 1) ae))) (aa (aG (qv 1) ah (fun _ _=>rfl)) ae))) (aa (qv 3) ae))))))),?_⟩)
 unfold iR at h;split at h
 ·rename_i x v l;obtain⟨c,ts,bs,A,B,rows,⟨dx,hx⟩,ok,rfl,rfl,hq,lr,lc,h⟩:=h;unfold qV at *;refine ao fun R hR=>?_;ac_rfl;refine⟨c,ts,bs,A,B,rows,⟨dx,hx⟩,ok,rfl,rfl,hq,lr,lc,fun W Ls b wn l6 eb=>?_⟩;obtain⟨hY,hN⟩:=h W Ls wn l6;by_cases le:Lets c ts bs Ls rows
  ·obtain rfl:b=true:=eb.mpr le;refine aC rfl ?_;have hY:=hY le;clear hN h;subst hR;refine ao fun R hR=>?_;ac_rfl;intro acc hacc;have hxa:∀o,put H acc o x=_:=fun o=>(aq (ax hx hacc)).trans hx;have hrn:rows≠[]:=fun e=>wn.nn hq.ne (by rw[←le.1,e];rfl);refine jK (fun i σ H4=>∃z Fs,σ=[z,some (.ref x)]/\H4=put H acc (.lst Fs)/\RFs c bs (rows.take i) Fs) ?_ ?_ ⟨_,[],rfl,rfl,rfl,fun i p f z=>by simp at z⟩
   ·rintro i y σ H4 R' hy ⟨z,Fs,rfl,rfl,rf⟩ kk;refine⟨trivial,?_⟩;obtain⟨hi,e⟩:=vM.mp hy;rw[rS]at hi;rw[Il]at e;subst e;have hix:rows[i]?=some rows[i]:=sH hi;have hm:rows[i]∈rows:=Ii hi;have lF:=rf.len;rw[Iu]at lF;generalize rows[i]=w at *;obtain⟨L0,cs⟩:=w;have hL:L0∈Ls:=by rw[←le.1];exact Bc.mpr ⟨_,hm,rfl⟩
    obtain⟨x0,R0,eL⟩:=wn.ne hL;have cn:=wn.cn hL (x0:=x0) (by rw[eL];exact xP);have ld:=le.2 _ hm;have ew:br (L0,cs)=.tup [.tup (L0.map PV.int),.tup (cs.map aT)]:=rfl;rw[ew];ac_rfl;refine⟨c,ts,bs,x0,R0,cs,⟨dx,hxa _⟩,ok,by rw[eL];rfl,rfl,cn.nms.lo x0 cn.hd,by rw[←eL];exact ld,fun S0 la=>⟨aZ (by omega),?_⟩⟩;rw[aI];exact kk _ _ ⟨_,_,rfl,rfl,rf.snoc hix ⟨x0,S0,by rw[eL];rfl,la,rfl⟩⟩
   ·rintro σ H4 ⟨z,Fs,rfl,rfl,rf⟩;rw[rS,Iy]at rf;have s1:=(Sub.refl H).put (o:=.lst Fs) hacc;have hx1:=hxa (.lst Fs);have a1:put H acc (.lst Fs) acc=some (.lst Fs):=aj;generalize put H acc (.lst Fs)=H1 at *;have lF:=rf.len;obtain⟨F0,F',eF⟩:∃F0 F',Fs=F0::F':=Jg fun e=>by rw[e]at lF;exact hrn (IW.mp lF.symm)
    refine⟨trivial,F0,F',by rw[←eF];exact a1,by rw[eF]at lF;simp at lF;omega,?_⟩;rw[←eF];subst hR;ac_rfl;refine⟨c,ts,bs,A,B,rfl,⟨dx,hx1⟩,ok,hq,fun M up iff=>⟨M,B,rfl,rfl,?_,_,rfl,H,s1,?_⟩⟩
    ·exact IC ((dN hq up iff).len ok.c6) (by omega)
    ·rw[My.b8 up wn.nms.up fun y=>(iff y).trans (wn.iff y).symm];exact hY Fs rf
  ·obtain rfl:b=false:=by
    cases b with
    | false=>rfl
    | true=>exact absurd (eb.mp rfl) le
   exact aE rfl (hN le H (Sub.refl _))
 ·exact h.elim
theorem Hw(T:Tx K mg t):aO P w K mg base CX0 7 t.a_zE t.d_zE ["_law_shape","_law_question_here","_law_paper_here"] f9:=by
 refine okU (k:=6) T.F_zE zX (fun vs H Q E h=>by
  unfold f9 at h;split at h
  ·rfl
  ·exact h.elim) (fun cdv A outer s H E B hr=>⟨_,(af (aw (i:=3) zX.nd rfl (by eq_refl) (ar (Bj T) (hr.mono (by decide)) rfl T.g_zD T.F_zD.kp T.B_zD (aa (bx (N2:=["_law_lump","_law_cuts_here","_law_shape"]) (nt:=2) (js:=[0]) (ck (sc:=ak wB)) rfl (aN (qv 2)) (fun s0 H0 fp ps=>⟨(c9 (n:=2) rfl (aV (au (i:=0) (show List.Nodup (["_law_lump","_law_cuts_here","_law_shape"]:List Str) by decide +kernel) rfl (by eq_refl)) (aV (au (i:=1) (show List.Nodup (["_law_lump","_law_cuts_here","_law_shape"]:List Str) by decide +kernel) rfl (by eq_refl)) b9))),bO,(ar (F6 T) (hr.mono (by decide)) rfl T.g_zH T.F_zH.kp T.B_zH (aa (qv 2) (aa (qv 0) (aa (qv 1) ae))))⟩)) ae)))
  (ai (aA (ar (yu T) (hr.mono (by decide)) rfl T.g_zW T.F_zW.kp T.B_zW (aa (bx (N2:=["_law_name","_law_question_here"]) (nt:=1) (js:=[1]) (ck (sc:=ak wB)) rfl (aN (ar (CK T) (hr.mono (by decide)) rfl T.g_zI T.F_zI.kp T.B_zI (aa (qv 0) (aa (qv 1) ae)))) (fun s0 H0 fp ps=>⟨(au (i:=0) (show List.Nodup (["_law_name","_law_question_here"]:List Str) by decide +kernel) rfl (by eq_refl)),(bD (av (bP hr.units) bC (qv 0) (aG (qv 1) ah (fun _ _=>rfl)) (by with_unfolding_all rfl))),(qv 0)⟩)) (aa (qv 3) ae)))))),?_⟩)
 intro vs H Q E h;unfold f9 at h;split at h
 ·rename_i a v l;obtain⟨c,ts,bs,A,B,W,Ls,rows,hs,ok,rfl,rfl,hq,lr,lc,wn,le,h⟩:=h;have c6:=ok.c6;unfold qV at *;have hrn:rows≠[]:=fun e=>wn.nn hq.ne (by rw[←le.1,e];rfl);refine ao fun R hR=>?_;ac_rfl;intro acc hacc;have s0:∀o,U.Sub H (put H acc o):=fun o=>(Sub.refl H).put hacc;refine jK (fun i σ H4=>∃z z2 Fs,σ=[z,z2,some (.ref a)]/\H4=put H acc (.lst Fs)/\RFs c bs (rows.take i) Fs) ?_ ?_ ⟨_,_,[],rfl,rfl,rfl,fun i p f z=>by simp at z⟩
  ·rintro i y σ H4 R' hy ⟨z,z2,Fs,rfl,rfl,rf⟩ kk;refine⟨trivial,?_⟩;obtain⟨hi,e⟩:=vM.mp hy;rw[rS]at hi;rw[Il]at e;subst e;have hix:rows[i]?=some rows[i]:=sH hi;have hm:rows[i]∈rows:=Ii hi;have lF:=rf.len;rw[Iu]at lF;generalize rows[i]=w at *;obtain⟨L0,cs⟩:=w;have hL:L0∈Ls:=by rw[←le.1];exact Bc.mpr ⟨_,hm,rfl⟩
   obtain⟨x0,R0,eL⟩:=wn.ne hL;have cn:=wn.cn hL (x0:=x0) (by rw[eL];exact xP);have ld:=le.2 _ hm;have ew:br (L0,cs)=.tup [.tup (L0.map PV.int),.tup (cs.map aT)]:=rfl;rw[ew];ac_rfl;refine⟨c,ts,bs,x0,R0,cs,hs.up (s0 _),ok,by rw[eL];rfl,rfl,cn.nms.lo x0 cn.hd,by rw[←eL];exact ld,fun S0 la=>⟨aZ (by omega),?_⟩⟩;rw[aI];exact kk _ _ ⟨_,_,_,rfl,rfl,rf.snoc hix ⟨x0,S0,by rw[eL];rfl,la,rfl⟩⟩
  ·rintro σ H4 ⟨z,z2,Fs,rfl,rfl,rf⟩;rw[rS,Iy]at rf;have s1:=s0 (.lst Fs);have a1:put H acc (.lst Fs) acc=some (.lst Fs):=aj;generalize put H acc (.lst Fs)=H1 at *;have lF:=rf.len;obtain⟨F0,F',eF⟩:∃F0 F',Fs=F0::F':=Jg fun e=>by rw[e]at lF;exact hrn (IW.mp lF.symm)
   refine⟨trivial,F0,F',by rw[←eF];exact a1,by rw[eF]at lF;simp at lF;omega,?_⟩;rw[←eF];subst hR;ac_rfl;refine⟨c,ts,bs,A,B,hs.up s1,ok,rfl,hq,fun M up iff=>?_⟩;obtain rfl:M=W:=My.b8 up wn.nms.up fun y=>(iff y).trans (wn.iff y).symm;intro p hp;refine aJ (fun y=>y) (onI fun y=>!decide (y∈B)) (fun σ=>∃z,σ=[z,some (.tup [.tup (A.map PV.int),.tup (B.map PV.int)])]) (by rw[rS];exact IC (wn.nms.len c6) (by omega)) (fun _=>trivial) ?_ ?_ ⟨_,rfl⟩
   ·rintro y hy l σ R' ⟨z,rfl⟩ hl kT kF;obtain⟨k,hk,rfl⟩:=Bc.mp hy;have e:onI (fun y=>!decide (y∈B)) (PV.int k)=!decide (k∈B):=rfl;rw[e]at kT kF;ac_rfl;refine⟨ay,?_⟩;simp only[aX];exact a8 (fun q=>⟨hl,by rw[aI];exact kT q _ ⟨_,rfl⟩⟩) (fun q=>kF q _ ⟨_,rfl⟩)
   rw[bF];exact⟨M.filter fun y=>!decide (y∈B),.inr ⟨p,rfl,aj⟩,H,s1.put (s1.free hp),h Fs rf⟩
 ·exact h.elim
theorem FD(T:Tx K mg t):aO P w K mg base CX0 6 t.a_zN t.d_zN ["_law_shape","_law_question_here","_law_number"] gI:=by
 refine okU (k:=5) T.F_zN kg (fun vs H Q E h=>by
  unfold gI at h;split at h
  ·rfl
  ·exact h.elim) (fun cdv A outer s H E B hr=>⟨_,(af (aw (i:=3) kg.nd rfl (by eq_refl) (aR ae))
  (af (bA Ik rfl (aN (ar (x6 T) (hr.mono (by decide)) rfl T.g_zO T.F_zO.kp T.B_zO (aa (qv 0) (aa (ar (CK T) (hr.mono (by decide)) rfl T.g_zI T.F_zI.kp T.B_zI (aa (qv 0) (aa (qv 1) ae))) ae)))) (au (i:=4) kg.nd rfl (by eq_refl))
  (af (lY (ar (HF T) (hr.mono (by decide)) rfl T.g_zT T.F_zT.kp T.B_zT (aa (qv 0) (aa (qv 4) (aa (qv 2) ae)))) (wC (n:=2) rfl (aV (au (i:=5) kg.nd rfl (by eq_refl)) (aV (au (i:=6) kg.nd rfl (by eq_refl)) b9))))
   (af (aS (av (c7 hr.units) aU (qv 6) (qv 4) (az _))
   (ai (aA (aR (aa aL (aa (qv 4) (aa (qv 6) ae))))))
   aF)
   (af (a7 (cH IA IB bz bB (qv 3) (aa (aW (aa (qv 4) (aa (aM aK a9 rfl T.b_tuple Jh (aa (qv 5) ae)) ae))) ae)))
   (ai (aw (i:=2) kg.nd rfl (by eq_refl) (bN (qv 2) ah)))))))
  (ai (aA (aR (aa aL (aa (aM aK a9 rfl T.b_tuple Jh (aa (qv 3) ae)) (aa (aW ae) ae)))))))),?_⟩)
 intro vs H Q E h;unfold gI at h;split at h
 ·rename_i a v n;obtain⟨c,ts,bs,A,B,hs,ok,rfl,hq,h⟩:=h;unfold qV at *;refine ao fun R hR=>?_;ac_rfl;refine⟨ag (by decide),fun g hg=>?_⟩;subst hR;have s1:=(Sub.refl H).put (o:=.lst []) hg;have g1:put H g (.lst []) g=some (.lst []):=aj;generalize put H g (.lst [])=H1 at *;refine ao fun R hR=>?_;ac_rfl;refine⟨c,ts,bs,A,B,hs.up s1,ok,rfl,hq,fun W wup wiff=>⟨c,ts,bs,W,hs.up s1,ok,.inl rfl,dN hq wup wiff,fun r Ls H2 s2 er lm l6=>⟨_,er,?_⟩⟩⟩;have wn:Wnt c ts bs A B W Ls:=⟨dN hq wup wiff,wiff,lm⟩;refine bI (fun i σ H3=>∃n' u1 u2 u3,∃rows:List Ro,σ=[some (.ref a),some (.tup [.tup (A.map PV.int),.tup (B.map PV.int)]),some (.int n'),some (.ref g),u1,u2,u3]/\(U.Sub H H3/\H3 g=some (.lst (rows.map br))/\H3 r=some (.lst (Ls.map tupI)))/\rows.length=i/\∀p∈rows,p.1.length≤6/\p.2.length≤6/\∀q∈p.2,q.2.length≤6) ?_ ?_ ⟨n,none,none,none,[],rfl,⟨s1.trans s2,s2 _ _ g1,er⟩,rfl,by simp⟩
  ·rintro σ H3 ⟨n',u1,u2,u3,rows,rfl,⟨s3,g3,r3⟩,hl,hf⟩;rw[rS]at hl;refine⟨r3,?_⟩;subst hR;ac_rfl;refine⟨_,g3,ag (by decide),ag (by decide),fun r5 hr5=>⟨_,Sub.refl _,h W Ls r5 _ _ _ _ wn (s3.put (s3.free hr5)) aj (.inl ⟨rfl,rows,rfl,by omega,hf⟩)⟩⟩
  ·rintro G i y σ H3 hy ⟨n',u1,u2,u3,rows,rfl,⟨s3,g3,r3⟩,hl,hf⟩ kk;refine⟨r3,?_⟩;obtain⟨hi,e⟩:=vM.mp hy;rw[rS]at hi;rw[Il]at e;subst e;have hm:Ls[i]∈Ls:=Ii hi;have tk:Ls.take (i+1)=Ls.take i++[Ls[i]]:=by rw[IG,sH hi];rfl
   generalize Ls[i]=L0 at *;obtain⟨x0,R0,eL⟩:=wn.ne hm;have cn:=wn.cn hm (x0:=x0) (by rw[eL];exact xP);have nrg:r≠g:=fun e=>by
    subst e;have z:=s2 _ _ g1;rw[er]at z;have z:=PO.lst.inj (IH z);rw[List.map_eq_nil_iff]at z;rw[z]at hi;cases hi
   unfold tupI;refine ao fun R2 hR2=>?_;ac_rfl;refine⟨c,ts,bs,x0,R0,hs.up s3,ok,by rw[eL];rfl,by rw[←eL];exact cn,fun r4 r5 H4 cs T s4 e4 e5 lc lq fin=>⟨_,e4,rfl,?_⟩⟩;rw[←eL]at fin;ac_rfl;subst hR2;refine ao fun R2 hR2=>?_;ac_rfl;rw[bV];refine⟨ay,ay,?_⟩;by_cases eT:T=L0
   ·refine aC (by simp[eT]) ?_;subst hR2;ac_rfl;refine⟨⟨_,s4 _ _ g3⟩,_,e5,ag (by decide),_,s4 _ _ g3,aZ (by rw[rS];omega),eE (by decide) (by decide),kk _ _ ⟨_,_,_,_,rows++[(L0,cs)],rfl,⟨(s3.trans s4).put hg,by rw[aj,Ie];rfl,(aq nrg).trans (s4 _ _ r3)⟩,by rw[wW,Ip];omega,fun p hp=>?_⟩⟩;rcases zi.mp hp with hp | hp
    ·exact hf p hp
    ·rw[xI]at hp;subst hp;exact⟨cn.nms.len ok.c6,lc,lq⟩
   ·refine aE (by simp[eT]) ⟨ag (by decide),fun r6 hr6=>⟨_,Sub.refl _,h W Ls r6 _ _ _ _ wn ((s3.trans s4).put ((s3.trans s4).free hr6)) aj (.inr ⟨rfl,L0,rfl,cn.nms.len ok.c6⟩)⟩⟩
 ·exact h.elim
abbrev cw0:List PV:=[.str "BadPaper",.str "BadStep",.str "NoAnswer",.str "NoBow",.str "NoCount",.str "NoDoor",.str "NoFormula",.str "NoFraction",.str "NoName"]
abbrev cw1:List PV:=[.str "NoNest",.str "NoQuestion",.str "NoRoad",.str "NoRule",.str "NoSets",.str "NoShare",.str "NoText",.str "NoThinning",.str "NoTie"]
abbrev cw2:List PV:=[.str "NoValue",.str "NoWorld"]
abbrev cn0:List Int:=[1,0,0,0,0,0,0,0,0,0,0,0,0,0,0,0,0,0,0,0]
abbrev cb0:List Bool:=[true,false,false,false,false,false,false,false,false,false,false,false,false,false,false,false,false,false,false,false]
theorem FG(T:Tx K mg t):aO P w K mg base CX0 1 t.a_zR t.d_zR ["_law_kept"] (gm t):=by
 refine okU (k:=0) T.F_zR fL (fun vs H Q E h=>by
  unfold gm at h;split at h
  ·rfl
  ·exact h.elim) (fun cdv A outer s H E B hr=>⟨_,(af (aw (i:=1) fL.nd rfl (by eq_refl) (aR (aa (bL T.g_A rfl rfl T.b_isinstance (qv 0)) (aa (bL T.g_B rfl rfl T.b_isinstance (qv 0)) (aa (bL T.g_E rfl rfl T.b_isinstance (qv 0)) ae)))))
  (af (aw (i:=1) fL.nd rfl (by eq_refl) (de (qv 1) (aR (aa (bL T.g_F rfl rfl T.b_isinstance (qv 0)) (aa (bL T.g_G rfl rfl T.b_isinstance (qv 0)) (aa (bL T.g_H rfl rfl T.b_isinstance (qv 0)) ae))))))
  (af (aw (i:=1) fL.nd rfl (by eq_refl) (de (qv 1) (aR (aa (bL T.g_I rfl rfl T.b_isinstance (qv 0)) (aa (bL T.g_J rfl rfl T.b_isinstance (qv 0)) (aa (bL T.g_K rfl rfl T.b_isinstance (qv 0)) ae))))))
  (af (aw (i:=1) fL.nd rfl (by eq_refl) (de (qv 1) (aR (aa (bL T.g_L rfl rfl T.b_isinstance (qv 0)) (aa (bL T.g_M rfl rfl T.b_isinstance (qv 0)) (aa (bL T.g_N rfl rfl T.b_isinstance (qv 0)) ae))))))
  (af (aw (i:=1) fL.nd rfl (by eq_refl) (de (qv 1) (aR (aa (bL T.g_O rfl rfl T.b_isinstance (qv 0)) (aa (bL T.g_P rfl rfl T.b_isinstance (qv 0)) (aa (bL T.g_Q rfl rfl T.b_isinstance (qv 0)) ae))))))
  (af (aw (i:=1) fL.nd rfl (by eq_refl) (de (qv 1) (aR (aa (bL T.g_R rfl rfl T.b_isinstance (qv 0)) (aa (bL T.g_S rfl rfl T.b_isinstance (qv 0)) (aa (bL T.g_T rfl rfl T.b_isinstance (qv 0)) ae))))))
  (af (aw (i:=1) fL.nd rfl (by eq_refl) (de (qv 1) (aR (aa (bL T.g_U rfl rfl T.b_isinstance (qv 0)) (aa (bL T.g_V rfl rfl T.b_isinstance (qv 0)) ae)))))
  (af (aS (bu (dH (dg (cM (bL T.g_C rfl rfl T.b_isinstance (qv 0)))) (dH (dg (cM (yJ T.b_ValueError iM rfl rfl T.b_isinstance (qv 0)))) (dU (av (c7 hr.units) aU (aH (rm rfl) CQ rfl T.b_sum boot_sum (aa (bx (N2:=["_law_one"]) (nt:=1) (js:=[]) (ck (sc:=ak y4)) rfl (aN (qv 1)) (fun s0 H0 fp ps=>⟨(au (i:=0) (show List.Nodup (["_law_one"]:List Str) by decide +kernel) rfl (by eq_refl)),bO,(aM fE lR rfl T.b_int boot_int (aa (qv 0) ae))⟩)) ae)) ah (az _))))))
  (ai (aA aL))
  aF)
  (af (aw (i:=2) fL.nd rfl (by eq_refl) (aR (aa aL (aa aL (aa aL (aa aL (aa aL (aa aL (aa aL (aa aL (aa aL ae)))))))))))
  (af (aw (i:=2) fL.nd rfl (by eq_refl) (de (qv 2) (aR (aa aL (aa aL (aa aL (aa aL (aa aL (aa aL (aa aL (aa aL (aa aL ae))))))))))))
  (ai (aA (aG (de (qv 2) (aR (aa aL (aa aL ae)))) (cH PySem.F.slot_list_index PySem.F.type_list_index rH rT (qv 1) (aa df ae)) (fun _ _=>rfl)))))))))))))),?_⟩)
 intro vs H Q E h;unfold gm at h;split at h
 ·rename_i a;obtain⟨ha,h⟩:=h
  ·
   refine y9 (l:=[cY K (.ref t.a_A) (cU 0),cY K (.ref t.a_B) (cU 0),cY K (.ref t.a_E) (cU 0)]) (bs:=[true,false,false]) ⟨bt ha T.x_A T.kAA,⟨bt ha T.x_A T.kAB,⟨bt ha T.x_A T.kAE,trivial⟩⟩⟩ (by decide) fun q0 H0 s0 e0=>?_;refine ik (l:=[cY K (.ref t.a_F) (cU 0),cY K (.ref t.a_G) (cU 0),cY K (.ref t.a_H) (cU 0)]) (bs:=[false,false,false]) e0 ⟨bt (s0 _ _ ha) T.x_A T.kAF,⟨bt (s0 _ _ ha) T.x_A T.kAG,⟨bt (s0 _ _ ha) T.x_A T.kAH,trivial⟩⟩⟩ ⟨by decide,by decide⟩ fun q1 H1 t1 e1=>?_;have s1:=s0.trans t1;refine ik (l:=[cY K (.ref t.a_I) (cU 0),cY K (.ref t.a_J) (cU 0),cY K (.ref t.a_K) (cU 0)]) (bs:=[false,false,false]) e1 ⟨bt (s1 _ _ ha) T.x_A T.kAI,⟨bt (s1 _ _ ha) T.x_A T.kAJ,⟨bt (s1 _ _ ha) T.x_A T.kAK,trivial⟩⟩⟩ ⟨by decide,by decide⟩ fun q2 H2 t2 e2=>?_;have s2:=s1.trans t2;refine ik (l:=[cY K (.ref t.a_L) (cU 0),cY K (.ref t.a_M) (cU 0),cY K (.ref t.a_N) (cU 0)]) (bs:=[false,false,false]) e2 ⟨bt (s2 _ _ ha) T.x_A T.kAL,⟨bt (s2 _ _ ha) T.x_A T.kAM,⟨bt (s2 _ _ ha) T.x_A T.kAN,trivial⟩⟩⟩ ⟨by decide,by decide⟩ fun q3 H3 t3 e3=>?_;have s3:=s2.trans t3;refine ik (l:=[cY K (.ref t.a_O) (cU 0),cY K (.ref t.a_P) (cU 0),cY K (.ref t.a_Q) (cU 0)]) (bs:=[false,false,false]) e3 ⟨bt (s3 _ _ ha) T.x_A T.kAO,⟨bt (s3 _ _ ha) T.x_A T.kAP,⟨bt (s3 _ _ ha) T.x_A T.kAQ,trivial⟩⟩⟩ ⟨by decide,by decide⟩ fun q4 H4 t4 e4=>?_;have s4:=s3.trans t4;refine ik (l:=[cY K (.ref t.a_R) (cU 0),cY K (.ref t.a_S) (cU 0),cY K (.ref t.a_T) (cU 0)]) (bs:=[false,false,false]) e4 ⟨bt (s4 _ _ ha) T.x_A T.kAR,⟨bt (s4 _ _ ha) T.x_A T.kAS,⟨bt (s4 _ _ ha) T.x_A T.kAT,trivial⟩⟩⟩ ⟨by decide,by decide⟩ fun q5 H5 t5 e5=>?_;have s5:=s4.trans t5;refine ik (l:=[cY K (.ref t.a_U) (cU 0),cY K (.ref t.a_V) (cU 0)]) (bs:=[false,false]) e5 ⟨bt (s5 _ _ ha) T.x_A T.kAU,⟨bt (s5 _ _ ha) T.x_A T.kAV,trivial⟩⟩ ⟨by decide,by decide⟩ fun q6 H6 t6 e6=>?_;have s6:=s5.trans t6;refine ao fun R hR=>?_;ac_rfl;refine bt (s6 _ _ ha) T.x_A T.kAC _ ?_;ac_rfl;refine bt (s6 _ _ ha) T.x_A T.kA_ _ ?_;ac_rfl;refine⟨_,e6,fun acc hacc=>?_⟩;have nq6:=ax e6 hacc;refine aJ b01 (fun _=>true) (fun σ=>∃z,σ=[z]) (by decide) (fun _=>(aq nq6).trans e6) ?_ ?_ ⟨_,rfl⟩
   ·rintro y hy l σ R' ⟨z,rfl⟩ hl kT kF;obtain⟨b,_,rfl⟩:=Bc.mp hy;ac_rfl;exact⟨hl,by rw[aI];exact kT rfl _ ⟨_,rfl⟩⟩
   show ∃ns:List Int,_/\_;refine⟨cn0,aj,?_⟩;refine aC (by decide) ?_;have s7:=s6.put (o:=.lst (List.map PV.int cn0)) (s6.free hacc);have e7:put H6 acc (.lst (List.map PV.int cn0)) q6=some (.lst (List.map PV.bl cb0)):=(aq nq6).trans e6;show R _ _ (put H6 acc (.lst (List.map PV.int cn0)));generalize put H6 acc (.lst (List.map PV.int cn0))=H7 at *;subst hR;refine ao fun R hR=>?_;ac_rfl;refine⟨ag (by decide),fun r1 hr1=>?_⟩;subst hR;refine ao fun R hR=>?_;have s8:=s7.put (o:=.lst cw0) (s7.free hr1);have e8:put H7 r1 (.lst cw0) q6=some (.lst (List.map PV.bl cb0)):=(aq (ax e7 hr1)).trans e7;have f8:put H7 r1 (.lst cw0) r1=some (.lst cw0):=aj;generalize put H7 r1 (.lst cw0)=H8 at *;ac_rfl;refine⟨ag (by decide),fun p hp=>⟨_,_,(aq (ax f8 hp)).trans f8,rfl,ag (by decide),fun r2 hr2=>?_⟩⟩;have s9:=s8.put (o:=.lst cw1) (s8.free hp);have s10:=s9.put (o:=.lst (cw0++cw1)) (s9.free hr2);have e9:=(aq (o:=.lst cw1) (ax e8 hp)).trans e8;have e10:put (put H8 p (.lst cw1)) r2 (.lst (cw0++cw1)) q6=some (.lst (List.map PV.bl cb0)):=(aq (ax e9 hr2)).trans e9;have f10:put (put H8 p (.lst cw1)) r2 (.lst (cw0++cw1)) r2=some (.lst (cw0++cw1)):=aj;generalize put (put H8 p (.lst cw1)) r2 (.lst (cw0++cw1))=H10 at *;subst hR;ac_rfl;refine⟨ag (by decide),fun p3 hp3=>⟨_,_,(aq (ax f10 hp3)).trans f10,rfl,ag (by decide),fun r3 hr3=>?_⟩⟩;have e12:=(aq (o:=.lst cw2) (ax e10 hp3)).trans e10;have e13:=(aq (o:=.lst (cw0++cw1++cw2)) (ax e12 hr3)).trans e12;have s12:=s10.put (o:=.lst cw2) (s10.free hp3);have s13:=s12.put (o:=.lst (cw0++cw1++cw2)) (s12.free hr3);refine⟨⟨_,e13⟩,cb0,e13,by decide,?_⟩;exact(show ∃H3,U.Sub H3 _/\Q (.str "BadPaper") H3 from⟨H,s13,h⟩)
 ·exact h.elim
theorem GK(T:Tx K mg t):aO P w K mg base CX0 12 t.a_yf t.d_yf ["_law_script"] spL:=by
 refine okU (k:=11) T.F_yf dF (fun vs H Q E h=>by
  unfold spL at h;split at h
  ·rfl
  ·exact h.elim) (fun cdv A outer s H E B hr=>⟨_,(af (aw (i:=1) dF.nd rfl (by eq_refl) (ar (uR T) (hr.mono (by decide)) rfl T.g_zV T.F_zV.kp T.B_zV (aa (ar (uc T) (hr.mono (by decide)) rfl T.g_zv T.F_zv.kp T.B_zv (aa (qv 0) (aa ah ae))) (aa ah ae))))
  (af (aw (i:=2) dF.nd rfl (by eq_refl) (ar (F3 T) (hr.mono (by decide)) rfl T.g_zw T.F_zw.kp T.B_zw (aa (ar (uR T) (hr.mono (by decide)) rfl T.g_zV T.F_zV.kp T.B_zV (aa (ar (uc T) (hr.mono (by decide)) rfl T.g_zv T.F_zv.kp T.B_zv (aa (qv 0) (aa ah ae))) (aa ah ae))) (aa ah (aa ah ae)))))
  (af (aw (i:=3) dF.nd rfl (by eq_refl) (ar (FI T) (hr.mono (by decide)) rfl T.g_zt T.F_zt.kp T.B_zt (aa (ar (uR T) (hr.mono (by decide)) rfl T.g_zV T.F_zV.kp T.B_zV (aa (ar (uc T) (hr.mono (by decide)) rfl T.g_zv T.F_zv.kp T.B_zv (aa (qv 0) (aa ah ae))) (aa ah ae))) (aa (aG (qv 2) ah (fun _ _=>rfl)) ae))))
  (af (lY (ar (FD T) (hr.mono (by decide)) rfl T.g_zN T.F_zN.kp T.B_zN (aa (qv 2) (aa (qv 3) (aa (ar (uR T) (hr.mono (by decide)) rfl T.g_zV T.F_zV.kp T.B_zV (aa (ar (uc T) (hr.mono (by decide)) rfl T.g_zv T.F_zv.kp T.B_zv (aa (qv 0) (aa ah ae))) (aa ah ae))) ae)))) (wC (n:=3) rfl (aV (au (i:=4) dF.nd rfl (by eq_refl)) (aV (au (i:=5) dF.nd rfl (by eq_refl)) (aV (au (i:=6) dF.nd rfl (by eq_refl)) b9)))))
  (af (aS (av (aQ hr.units) aU (qv 4) aL (az _))
  (ai (aw (i:=5) dF.nd rfl (by eq_refl) (aW (aa (aW (aa (qv 5) (aa (aW ae) ae))) ae))))
  aF)
  (af (aS (av (aQ hr.units) aU (bE (qv 1) ah) ah (az _))
  (ai (aw (i:=5) dF.nd rfl (by eq_refl) (ar (HU T) (hr.mono (by decide)) rfl T.g_zi T.F_zi.kp T.B_zi (aa (qv 5) (aa (ar (uR T) (hr.mono (by decide)) rfl T.g_zV T.F_zV.kp T.B_zV (aa (ar (uc T) (hr.mono (by decide)) rfl T.g_zv T.F_zv.kp T.B_zv (aa (qv 0) (aa ah ae))) (aa ah ae))) (aa (aG (qv 2) ah (fun _ _=>rfl)) ae))))))
  aF)
  (af (aw (i:=7) dF.nd rfl (by eq_refl) oy)
  (af (aw (i:=8) dF.nd rfl (by eq_refl) oy)
  (af (AS (i:=9) (j:=8) ⟨rfl,rfl,rfl⟩ dF.nd rfl rfl rfl rfl T.x_C rfl T.g_C
  (yj (Bq (i:=7) dF.nd rfl (Or.inl rfl) (yp ⟨rfl,rfl,rfl⟩ (HV T) (hr.mono (by decide)) rfl T.g_zK T.F_zK.kp T.B_zK (aa (pP T.mk_D (Dl T) (hr.mono (by decide)) rfl T.g_D T.B_zq (aa (aG (qv 2) ah (fun _ _=>rfl)) (aa (aM cA gx rfl T.b_list boot_list (aa (aG (qv 2) ah (fun _ _=>rfl)) ae)) (aa (aM cA gx rfl T.b_list boot_list (aa (aG (qv 2) ah (fun _ _=>rfl)) ae)) ae)))) (aa (qv 3) (aa (qv 5) ae)))))))
  (af (aS (dg (cM (ar (GQ T) (hr.mono (by decide)) rfl T.g_zU T.F_zU.kp T.B_zU (aa (qv 2) (aa (qv 3) (aa (qv 5) ae))))))
  (ai (aA (cg (aQ hr.units) aU (ar (FG T) (hr.mono (by decide)) rfl T.g_zR T.F_zR.kp T.B_zR (aa (qv 8) ae)) aL (az _))))
  aF)
  (ai (aA (ip (cg Bf Bi (qv 8) oy (az _)) (ij (cg (C9 hr.units) Bn (qv 7) (ar (Hw T) (hr.mono (by decide)) rfl T.g_zE T.F_zE.kp T.B_zE (aa (qv 2) (aa (qv 3) (aa (qv 5) ae)))) (az _)))))))))))))))),?_⟩)
 intro vs H Q E h;unfold spL at h;split at h
 ·rename_i l;obtain⟨ns,rfl,hl,h⟩:=h;refine ao fun R hR=>?_;ac_rfl;refine⟨⟨by decide,by decide⟩,ns,rfl,⟨by decide,by decide⟩,fun hd=>?_⟩;subst hR;refine ao fun R hR=>?_;ac_rfl;refine⟨⟨by decide,by decide⟩,ns,rfl,⟨by decide,by decide⟩,fun n1=>⟨⟨by decide,by decide⟩,fun c ts bs sh H1 ok _ sts sbs s1 hs=>?_⟩⟩;subst hR;have c1:=ok.c1;have c6:=ok.c6;obtain⟨q1,q2,e1,e2,e3⟩:=id hs;refine ao fun R hR=>?_;ac_rfl;refine⟨⟨by decide,by decide⟩,ns,rfl,⟨by decide,by decide⟩,fun n2=>⟨_,e1,?_⟩⟩;rw[iD];ac_rfl;refine⟨⟨by omega,by omega⟩,fun A B hq=>?_⟩;subst hR;unfold qV at *;refine ao fun R hR=>?_;ac_rfl;refine⟨⟨by decide,by decide⟩,ns,rfl,⟨by decide,by decide⟩,fun n3=>⟨c,ts,bs,A,B,hs,ok,rfl,hq,fun W0 Ls0 r H2 Wd x0 y0 wn0 s2 er pp=>?_⟩⟩;refine⟨_,er,rfl,?_⟩;ac_rfl;subst hR;refine ao fun R hR=>?_
  suffices key:∀rows:List Ro,Sz 6 rows->R { nx:=fun _ H=>∃H3,U.Sub H3 H/\Q .non H3,rt:=fun v H=>∃H3,U.Sub H3 H/\Q v H3 } [some (.fls (ns.map PV.int)),some (.int hd),some (.ref sh),some (.tup [.tup (A.map PV.int),.tup (B.map PV.int)]),some (.str Wd),some (.tup (rows.map br)),some y0,none,none,none] H2 by
   ac_rfl;rcases pp with⟨rfl,rows,rfl,sz⟩ |⟨rfl,M,rfl,lM⟩
   ·exact aC (by decide +kernel) (key rows ⟨sz.1,fun p hp=>(sz.2 p hp).1,fun p hp=>(sz.2 p hp).2.1,fun p hp=>(sz.2 p hp).2.2⟩)
   ·exact aE (by decide +kernel) ⟨ag (by decide),ag (by decide),ag (by decide),key [(M,[])] ⟨by simp,fun p hp=>by rw[xI.mp hp];exact lM,fun p hp=>by rw[xI.mp hp];simp,fun p hp=>by rw[xI.mp hp];simp⟩⟩
  intro rows0 sz0;clear pp;subst hR
  try dsimp only
  refine ao fun R hR=>?_
  suffices key:∀rows:List Ro,Sz 12 rows->R { nx:=fun _ H=>∃H3,U.Sub H3 H/\Q .non H3,rt:=fun v H=>∃H3,U.Sub H3 H/\Q v H3 } [some (.fls (ns.map PV.int)),some (.int hd),some (.ref sh),some (.tup [.tup (A.map PV.int),.tup (B.map PV.int)]),some (.str Wd),some (.tup (rows.map br)),some y0,none,none,none] H2 by
   ac_rfl;refine⟨by decide,a8 (fun _=>?_) (fun _=>key rows0 (sz0.sub (by have:=sz0.n;omega) fun p hp=>hp))⟩;refine⟨⟨by decide,by decide⟩,ns,rfl,⟨by decide,by decide⟩,fun m=>⟨_,s2 _ _ e1,?_⟩⟩;rw[iD];ac_rfl;exact⟨rows0,6,rfl,sz0,by omega,⟨c1,c6⟩,fun rows2 sz2=>key rows2 sz2⟩
  intro rows sz;have lr:rows.length≤100:=by have:=sz.n;omega
  have lc:∀p∈rows,p.2.length≤100/\∀q∈p.2,q.2.length≤100:=fun p hp=>⟨by have:=sz.b p hp;omega,fun q hq=>by have:=sz.c p hp q hq;omega⟩;clear sz sz0 rows0;subst hR
  try dsimp only
  refine ao fun R hR=>?_;ac_rfl;subst hR;refine ao fun R hR=>?_;ac_rfl;subst hR;refine ao fun R hR=>?_;ac_rfl;refine⟨_,s2 _ _ e1,?_⟩;rw[iD];ac_rfl;refine⟨_,s2 _ _ e1,?_⟩;rw[wG];ac_rfl;refine⟨_,s2 _ _ e2,fun p5 hp5=>⟨_,(aq (ax (s2 _ _ e1) hp5)).trans (s2 _ _ e1),?_⟩⟩;rw[zR];ac_rfl;refine⟨_,(aq (ax (s2 _ _ e3) hp5)).trans (s2 _ _ e3),fun p6 hp6 x dx hx hdx nd=>?_⟩;have n56:p5≠p6:=fun e=>by subst e;rw[aj]at hp6;cases hp6
  have sa:=s2.put (o:=.lst (ts.map prV)) (s2.free hp5);have sb:=sa.put (o:=.lst (bs.map prV)) (sa.free hp6);have i1:put (put H2 p5 (.lst (ts.map prV))) p6 (.lst (bs.map prV)) p5=some (.lst (ts.map prV)):=(aq n56).trans aj;have i2:put (put H2 p5 (.lst (ts.map prV))) p6 (.lst (bs.map prV)) p6=some (.lst (bs.map prV)):=aj;generalize put (put H2 p5 (.lst (ts.map prV))) p6 (.lst (bs.map prV))=H6 at *;have sc:=(Sub.refl H6).put (o:=.ins t.a_D dx []) hx;refine⟨dx,_,_,ts,bs,rfl,sc _ _ i1,sc _ _ i2,fj,fj,ok.gt,ok.gb,⟨c1,c6,ok.b6⟩,fun T1 B1 pT sT pB sB=>?_⟩;rw[aI];have eT:=DM.jb (JR _) sts pT sT;have eB:=DM.jb (JR _) sbs pB sB;subst eT;subst eB;have sd:=sb.put (o:=.ins t.a_D dx (DF c ts bs)) (sb.free hx);have x3:put H6 x (.ins t.a_D dx (DF c ts bs)) x=some (.ins t.a_D dx (DF c ts bs)):=aj;generalize put H6 x (.ins t.a_D dx (DF c ts bs))=H7 at *;have okd:OkD c ts bs:=⟨c1,c6,ok.gt,ok.gb,sts,sbs,ok.b6⟩;refine⟨c,ts,bs,A,B,rows,⟨dx,x3⟩,okd,rfl,rfl,hq,lr,lc,fun W Ls wn l6=>⟨fun le Fs rf=>?_,fun nle H8 s8=>?_⟩⟩
  ·have fl:=rf.flat (N:=W.filter fun y=>!decide (y∈B)) wn le l6 c6;subst hR;refine ao fun R hR=>?_;ac_rfl;refine⟨c,ts,bs,A,B,rows,hs.up sd,ok,rfl,rfl,hq,lr,lc,fun W2 Ls2 b wn2 eb=>?_⟩;obtain⟨ew,el⟩:=wn.one wn2;subst ew;subst el;obtain rfl:b=true:=eb.mpr le;refine aC rfl ?_;subst hR;ac_rfl;refine⟨c,ts,bs,A,B,W,Ls,rows,hs.up sd,ok,rfl,rfl,hq,lr,lc,wn,le,fun Fs2 rf2=>?_⟩;rw[rf2.one rf,jR fl,jR fl];refine⟨fl,fl,H,s1.trans sd,?_⟩;rw[eR fl];exact h
  ·refine⟨_,rfl,⟨T.x_A,T.s_A⟩,fun a ha=>?_⟩;subst hR;refine ao fun R hR=>?_;have sx:=sd.trans s8;ac_rfl;refine⟨c,ts,bs,A,B,rows,hs.up (sx.put (sx.free ha)),ok,rfl,rfl,hq,lr,lc,fun W2 Ls2 b wn2 eb=>?_⟩;obtain⟨ew,el⟩:=wn.one wn2;subst ew;subst el;obtain rfl:b=false:=by
    cases b with
    | false=>rfl
    | true=>exact absurd (eb.mp rfl) nle
   refine aE rfl ⟨H,(s1.trans sx).put ((s1.trans sx).free ha),?_⟩;rw[beq_self_eq_true];exact h
 ·exact h.elim
end
theorem oW{fd:FuncData}{ps:List Str}(h:∀a,bindArgs fd ⟨[a],[]⟩=pure (List.zip ps [a]))(us:List Value)(hl:us.length=1):bindArgs fd ⟨us,[]⟩=pure (List.zip ps us):=D6 (P:=fun us=>bindArgs fd ⟨us,[]⟩=pure (List.zip ps us)) h us hl
theorem cR{fd:FuncData}{ps:List Str}(h:∀a b,bindArgs fd ⟨[a,b],[]⟩=pure (List.zip ps [a,b]))(us:List Value)(hl:us.length=2):bindArgs fd ⟨us,[]⟩=pure (List.zip ps us):=EZ (P:=fun us=>bindArgs fd ⟨us,[]⟩=pure (List.zip ps us)) h us hl
theorem cX{fd:FuncData}{ps:List Str}(h:∀a b c,bindArgs fd ⟨[a,b,c],[]⟩=pure (List.zip ps [a,b,c]))(us:List Value)(hl:us.length=3):bindArgs fd ⟨us,[]⟩=pure (List.zip ps us):=Ds (P:=fun us=>bindArgs fd ⟨us,[]⟩=pure (List.zip ps us)) h us hl
theorem HJ{fd:FuncData}{ps:List Str}(h:∀a b c d,bindArgs fd ⟨[a,b,c,d],[]⟩=pure (List.zip ps [a,b,c,d]))(us:List Value)(hl:us.length=4):bindArgs fd ⟨us,[]⟩=pure (List.zip ps us):=HK (P:=fun us=>bindArgs fd ⟨us,[]⟩=pure (List.zip ps us)) h us hl
open PySem.W in
theorem oG{K:Frag}{h:Heap}{mg:Str->Option Value}{f_zZ f_zQ f_yc f_zB f_zX f_zq f_za f_zc f_zf f_zb f_zo f_ze f_zm f_zp f_zP f_zG f_zk f_zu f_yb f_zM f_zg f_zS f_zy f_yd f_zx f_zF f_zY f_ye f_zh f_zA f_zj f_zl f_zr f_zz f_zK f_zv f_zV f_zw f_zt f_zL f_zO f_zI f_zn f_zJ f_ya f_zU f_zd f_zT f_zN f_zs f_zi f_zD f_zW f_zH f_zE f_zR f_yf k_A k_B k_C k_D k_E k_F k_G k_H k_I k_J k_K k_L k_M k_N k_O k_P k_Q k_R k_S k_T k_U k_V:Addr}(X:K.In h)(G:h.Ns mainGlobals mg)
  {d_zZ d_zQ d_yc d_zB d_zX d_zq d_za d_zc d_zf d_zb d_zo d_ze d_zm d_zp d_zP d_zG d_zk d_zu d_yb d_zM d_zg d_zS d_zy d_yd d_zx d_zF d_zY d_ye d_zh d_zA d_zj d_zl d_zr d_zz d_zK d_zv d_zV d_zw d_zt d_zL d_zO d_zI d_zn d_zJ d_ya d_zU d_zd d_zT d_zN d_zs d_zi d_zD d_zW d_zH d_zE d_zR d_yf:FuncData}
  {tk_MOST_BOWS tk_MOST_NAMES:Tok}
  (C_A:nX1 K "BadPaper" k_A)
  (C_B:nX1 K "BadStep" k_B)
  (C_C:nX1 K "DoingError" k_C)
  (C_D:nX1 K "Drawing" k_D)
  (C_E:nX1 K "NoAnswer" k_E)
  (C_F:nX1 K "NoBow" k_F)
  (C_G:nX1 K "NoCount" k_G)
  (C_H:nX1 K "NoDoor" k_H)
  (C_I:nX1 K "NoFormula" k_I)
  (C_J:nX1 K "NoFraction" k_J)
  (C_K:nX1 K "NoName" k_K)
  (C_L:nX1 K "NoNest" k_L)
  (C_M:nX1 K "NoQuestion" k_M)
  (C_N:nX1 K "NoRoad" k_N)
  (C_O:nX1 K "NoRule" k_O)
  (C_P:nX1 K "NoSets" k_P)
  (C_Q:nX1 K "NoShare" k_Q)
  (C_R:nX1 K "NoText" k_R)
  (C_S:nX1 K "NoThinning" k_S)
  (C_T:nX1 K "NoTie" k_T)
  (C_U:nX1 K "NoValue" k_U)
  (C_V:nX1 K "NoWorld" k_V)
  (a_zZ:nX1 K "is_pair" f_zZ)
  (l_zZ:Fun K "is_pair" "is_pair" BO f_zZ d_zZ)
  (a_zQ:nX1 K "are_pairs" f_zQ)
  (l_zQ:Fun K "are_pairs" "are_pairs" xQ f_zQ d_zQ)
  (a_yc:nX1 K "is_set" f_yc)
  (l_yc:Fun K "is_set" "is_set" AK f_yc d_yc)
  (a_zB:nX1 K "names_up_to" f_zB)
  (l_zB:Fun K "names_up_to" "names_up_to" Dc f_zB d_zB)
  (a_zX:nX1 K "without" f_zX)
  (l_zX:Fun K "without" "without" xT f_zX d_zX)
  (a_zq:fX1 K k_D "__init__" f_zq)
  (i_zq:isFn K (.ref f_zq)=true)
  (l_zq:Fun K "__init__" "Drawing.__init__" uE f_zq d_zq)
  (a_za:fX1 K k_D "need_name" f_za)
  (i_za:isFn K (.ref f_za)=true)
  (l_za:Fun K "need_name" "Drawing.need_name" BH f_za d_za)
  (a_zc:fX1 K k_D "need_set" f_zc)
  (i_zc:isFn K (.ref f_zc)=true)
  (l_zc:Fun K "need_set" "Drawing.need_set" Cz f_zc d_zc)
  (a_zf:fX1 K k_D "sources" f_zf)
  (i_zf:isFn K (.ref f_zf)=true)
  (l_zf:Fun K "sources" "Drawing.sources" xi f_zf d_zf)
  (a_zb:fX1 K k_D "ancestors" f_zb)
  (i_zb:isFn K (.ref f_zb)=true)
  (l_zb:Fun K "ancestors" "Drawing.ancestors" Bm f_zb d_zb)
  (a_zo:fX1 K k_D "bowed" f_zo)
  (i_zo:isFn K (.ref f_zo)=true)
  (l_zo:Fun K "bowed" "Drawing.bowed" tD f_zo d_zo)
  (a_ze:fX1 K k_D "lump_of" f_ze)
  (i_ze:isFn K (.ref f_ze)=true)
  (l_ze:Fun K "lump_of" "Drawing.lump_of" BA f_ze d_ze)
  (a_zm:fX1 K k_D "lumps" f_zm)
  (i_zm:isFn K (.ref f_zm)=true)
  (l_zm:Fun K "lumps" "Drawing.lumps" BF f_zm d_zm)
  (a_zp:fX1 K k_D "part" f_zp)
  (i_zp:isFn K (.ref f_zp)=true)
  (l_zp:Fun K "part" "Drawing.part" vF f_zp d_zp)
  (a_zP:nX1 K "need_sets" f_zP)
  (l_zP:Fun K "need_sets" "need_sets" Bg f_zP d_zP)
  (a_zG:nX1 K "need_apart" f_zG)
  (l_zG:Fun K "need_apart" "need_apart" CS f_zG d_zG)
  (a_zk:nX1 K "need_question" f_zk)
  (l_zk:Fun K "need_question" "need_question" AI f_zk d_zk)
  (a_zu:nX1 K "wanted_names" f_zu)
  (l_zu:Fun K "wanted_names" "wanted_names" Df f_zu d_zu)
  (a_yb:nX1 K "wanted" f_yb)
  (l_yb:Fun K "wanted" "wanted" Dj f_yb d_yb)
  (a_zM:nX1 K "is_within" f_zM)
  (l_zM:Fun K "is_within" "is_within" xR f_zM d_zM)
  (a_zg:nX1 K "has_its_sources" f_zg)
  (l_zg:Fun K "has_its_sources" "has_its_sources" xp f_zg d_zg)
  (a_zS:nX1 K "is_up_cut" f_zS)
  (l_zS:Fun K "is_up_cut" "is_up_cut" Cq f_zS d_zS)
  (a_zy:nX1 K "is_lump_cut" f_zy)
  (l_zy:Fun K "is_lump_cut" "is_lump_cut" AV f_zy d_zy)
  (a_yd:nX1 K "is_cut" f_yd)
  (l_yd:Fun K "is_cut" "is_cut" Bz f_yd d_yd)
  (a_zx:nX1 K "lump_around" f_zx)
  (l_zx:Fun K "lump_around" "lump_around" yy f_zx d_zx)
  (a_zF:nX1 K "first_lump" f_zF)
  (l_zF:Fun K "first_lump" "first_lump" Bl f_zF d_zF)
  (a_zY:nX1 K "lead_to" f_zY)
  (l_zY:Fun K "lead_to" "lead_to" A1 f_zY d_zY)
  (a_ye:nX1 K "lets" f_ye)
  (l_ye:Fun K "lets" "lets" tm f_ye d_ye)
  (a_zh:nX1 K "product_formula" f_zh)
  (l_zh:Fun K "product_formula" "product_formula" AR f_zh d_zh)
  (a_zA:nX1 K "sum_formula" f_zA)
  (l_zA:Fun K "sum_formula" "sum_formula" CZ f_zA d_zA)
  (a_zj:nX1 K "first_formula" f_zj)
  (l_zj:Fun K "first_formula" "first_formula" ve f_zj d_zj)
  (a_zl:nX1 K "begin_formula" f_zl)
  (l_zl:Fun K "begin_formula" "begin_formula" Ca f_zl d_zl)
  (a_zr:nX1 K "lump_formula" f_zr)
  (l_zr:Fun K "lump_formula" "lump_formula" sF f_zr d_zr)
  (a_zz:nX1 K "cut_formula" f_zz)
  (l_zz:Fun K "cut_formula" "cut_formula" BP f_zz d_zz)
  (a_zK:nX1 K "formula_of" f_zK)
  (l_zK:Fun K "formula_of" "formula_of" zB f_zK d_zK)
  (a_zv:nX1 K "_law_cell_at" f_zv)
  (l_zv:Fun K "_law_cell_at" "_law_cell_at" BB f_zv d_zv)
  (a_zV:nX1 K "_law_mix" f_zV)
  (l_zV:Fun K "_law_mix" "_law_mix" Ct f_zV d_zV)
  (a_zw:nX1 K "_law_drawing" f_zw)
  (l_zw:Fun K "_law_drawing" "_law_drawing" Cm f_zw d_zw)
  (a_zt:nX1 K "_law_question" f_zt)
  (l_zt:Fun K "_law_question" "_law_question" zd f_zt d_zt)
  (a_zL:nX1 K "_law_upper" f_zL)
  (l_zL:Fun K "_law_upper" "_law_upper" xa f_zL d_zL)
  (a_zO:nX1 K "_law_lumps" f_zO)
  (l_zO:Fun K "_law_lumps" "_law_lumps" xU f_zO d_zO)
  (a_zI:nX1 K "_law_wanted" f_zI)
  (l_zI:Fun K "_law_wanted" "_law_wanted" zE f_zI d_zI)
  (a_zn:nX1 K "_law_lump_with" f_zn)
  (l_zn:Fun K "_law_lump_with" "_law_lump_with" AX f_zn d_zn)
  (a_zJ:nX1 K "_law_is_set" f_zJ)
  (l_zJ:Fun K "_law_is_set" "_law_is_set" CH f_zJ d_zJ)
  (a_ya:nX1 K "_law_cut" f_ya)
  (l_ya:Fun K "_law_cut" "_law_cut" uT f_ya d_ya)
  (a_zU:nX1 K "_law_lets" f_zU)
  (l_zU:Fun K "_law_lets" "_law_lets" wX f_zU d_zU)
  (a_zd:nX1 K "_law_closed_sets" f_zd)
  (l_zd:Fun K "_law_closed_sets" "_law_closed_sets" vB f_zd d_zd)
  (a_zT:nX1 K "_law_cuts" f_zT)
  (l_zT:Fun K "_law_cuts" "_law_cuts" Cy f_zT d_zT)
  (a_zN:nX1 K "_law_paper" f_zN)
  (l_zN:Fun K "_law_paper" "_law_paper" A7 f_zN d_zN)
  (a_zs:nX1 K "_law_bent_set" f_zs)
  (l_zs:Fun K "_law_bent_set" "_law_bent_set" yo f_zs d_zs)
  (a_zi:nX1 K "_law_bent_paper" f_zi)
  (l_zi:Fun K "_law_bent_paper" "_law_bent_paper" wV f_zi d_zi)
  (a_zD:nX1 K "_law_product" f_zD)
  (l_zD:Fun K "_law_product" "_law_product" BE f_zD d_zD)
  (a_zW:nX1 K "_law_sum" f_zW)
  (l_zW:Fun K "_law_sum" "_law_sum" BV f_zW d_zW)
  (a_zH:nX1 K "_law_shares" f_zH)
  (l_zH:Fun K "_law_shares" "_law_shares" xw f_zH d_zH)
  (a_zE:nX1 K "_law_formula" f_zE)
  (l_zE:Fun K "_law_formula" "_law_formula" wB f_zE d_zE)
  (a_zR:nX1 K "_law_class" f_zR)
  (l_zR:Fun K "_law_class" "_law_class" y4 f_zR d_zR)
  (a_yf:nX1 K "law" f_yf)
  (l_yf:Fun K "law" "law" Bu f_yf d_yf)
  (pg_D:plainGet K k_D Str.empty=true)
  (hd_D:hasDictIn K k_D=true)
  (po_D:plainOver K k_D=true)
  (sa_D:findIn K (.ref k_D) "__setattr__"=some (some (.builtin "object.__setattr__")))
  (mk_D:makesIn K k_D=true)
  (kc_D:keepIn K (.ref k_D)=true)
  (xe_A:excIn K k_A [.type "ValueError",.type "Exception",.type "BaseException",.type "object"] "ValueError.__new__"=true)
  (xo_A:mroIn K k_A (.type "object")=some true)
  (xb_A:mroIn K k_A (.type "BaseException")=some true)
  (xg_A:findIn K (.ref k_A) "__getattribute__"=some (some (.builtin "BaseException.__getattribute__")))
  (xt_A:findIn K (.ref k_A) "__getattr__"=some none)
  (xc_A:findIn K (.ref k_A) "__class__"=some (some (.builtin "object.__class__")))
  (xe_C:excIn K k_C [.type "ValueError",.type "Exception",.type "BaseException",.type "object"] "ValueError.__new__"=true)
  (xo_C:mroIn K k_C (.type "object")=some true)
  (xb_C:mroIn K k_C (.type "BaseException")=some true)
  (xg_C:findIn K (.ref k_C) "__getattribute__"=some (some (.builtin "BaseException.__getattribute__")))
  (xt_C:findIn K (.ref k_C) "__getattr__"=some none)
  (xc_C:findIn K (.ref k_C) "__class__"=some (some (.builtin "object.__class__")))
  (s_A:mroIn K k_A (.ref k_C)=some true)
  (kkA_:kitOne K (.ref k_A) (.type "ValueError")=some true)
  (kkAC:kitOne K (.ref k_A) (.ref k_C)=some true)
  (kkAV:kX1 K k_A k_V)
  (kkAU:kX1 K k_A k_U)
  (kkAT:kX1 K k_A k_T)
  (kkAS:kX1 K k_A k_S)
  (kkAR:kX1 K k_A k_R)
  (kkAQ:kX1 K k_A k_Q)
  (kkAP:kX1 K k_A k_P)
  (kkAO:kX1 K k_A k_O)
  (kkAN:kX1 K k_A k_N)
  (kkAM:kX1 K k_A k_M)
  (kkAL:kX1 K k_A k_L)
  (kkAK:kX1 K k_A k_K)
  (kkAJ:kX1 K k_A k_J)
  (kkAI:kX1 K k_A k_I)
  (kkAH:kX1 K k_A k_H)
  (kkAG:kX1 K k_A k_G)
  (kkAF:kX1 K k_A k_F)
  (kkAE:kX1 K k_A k_E)
  (kkAB:kX1 K k_A k_B)
  (kkAA:kitOne K (.ref k_A) (.ref k_A)=some true)
  (z_ValueError:nX2 K "ValueError")
  (z_all:nX2 K "all")
  (z_any:nX2 K "any")
  (z_enumerate:nX2 K "enumerate")
  (z_int:nX2 K "int")
  (z_isinstance:nX2 K "isinstance")
  (z_len:nX2 K "len")
  (z_list:nX2 K "list")
  (z_range:nX2 K "range")
  (z_reversed:nX2 K "reversed")
  (z_set:nX2 K "set")
  (z_sorted:nX2 K "sorted")
  (z_sum:nX2 K "sum")
  (z_tuple:nX2 K "tuple")
  (v_MOST_BOWS:nsIn K mainGlobals "MOST_BOWS"=some (some (.int 6 tk_MOST_BOWS)))
  (v_MOST_NAMES:nsIn K mainGlobals "MOST_NAMES"=some (some (.int 6 tk_MOST_NAMES)))
  (nD_bows:findIn K (.ref k_D) "bows"=some none)
  (nD_count:findIn K (.ref k_D) "count"=some none)
  (nD_ties:findIn K (.ref k_D) "ties"=some none) :
  ∃t:Ad,Tx K mg t/\t.a_yf=f_yf/\∀(s:Shared) (v:Value),BindsTo s t.d_yf ⟨[v],[]⟩ [("_law_script",v)]:=by
 obtain⟨oc,od,kV,doc,pm,an,cdv,ct,osl,rfl,lk,hcd⟩:=l_yf.ex;exact⟨⟨f_zZ,_,f_zQ,_,f_yc,_,f_zB,_,f_zX,_,f_zq,_,f_za,_,f_zc,_,f_zf,_,f_zb,_,f_zo,_,f_ze,_,f_zm,_,f_zp,_,f_zP,_,f_zG,_,f_zk,_,f_zu,_,f_yb,_,f_zM,_,f_zg,_,f_zS,_,f_zy,_,f_yd,_,f_zx,_,f_zF,_,f_zY,_,f_ye,_,f_zh,_,f_zA,_,f_zj,_,f_zl,_,f_zr,_,f_zz,_,f_zK,_,f_zv,_,f_zV,_,f_zw,_,f_zt,_,f_zL,_,f_zO,_,f_zI,_,f_zn,_,f_zJ,_,f_ya,_,f_zU,_,f_zd,_,f_zT,_,f_zN,_,f_zs,_,f_zi,_,f_zD,_,f_zW,_,f_zH,_,f_zE,_,f_zR,_,f_yf,_,k_A,k_B,k_C,k_D,k_E,k_F,k_G,k_H,k_I,k_J,k_K,k_L,k_M,k_N,k_O,k_P,k_Q,k_R,k_S,k_T,k_U,k_V⟩,⟨l_zZ,
  l_zZ.binds fun _ _ _ _ _ _=>cR fun _ _=>rfl,
  mg_of X G a_zZ,
  l_zQ,
  l_zQ.binds fun _ _ _ _ _ _=>cR fun _ _=>rfl,
  mg_of X G a_zQ,
  l_yc,
  l_yc.binds fun _ _ _ _ _ _=>cR fun _ _=>rfl,
  mg_of X G a_yc,
  l_zB,
  l_zB.binds fun _ _ _ _ _ _=>oW fun _=>rfl,
  mg_of X G a_zB,
  l_zX,
  l_zX.binds fun _ _ _ _ _ _=>cR fun _ _=>rfl,
  mg_of X G a_zX,
  l_zq,
  l_zq.binds fun _ _ _ _ _ _=>HJ fun _ _ _ _=>rfl,
  l_za,
  l_za.binds fun _ _ _ _ _ _=>cR fun _ _=>rfl,
  ⟨a_za,i_za,l_za.kp⟩,
  l_zc,
  l_zc.binds fun _ _ _ _ _ _=>cR fun _ _=>rfl,
  ⟨a_zc,i_zc,l_zc.kp⟩,
  l_zf,
  l_zf.binds fun _ _ _ _ _ _=>cR fun _ _=>rfl,
  ⟨a_zf,i_zf,l_zf.kp⟩,
  l_zb,
  l_zb.binds fun _ _ _ _ _ _=>cR fun _ _=>rfl,
  ⟨a_zb,i_zb,l_zb.kp⟩,
  l_zo,
  l_zo.binds fun _ _ _ _ _ _=>cR fun _ _=>rfl,
  ⟨a_zo,i_zo,l_zo.kp⟩,
  l_ze,
  l_ze.binds fun _ _ _ _ _ _=>cX fun _ _ _=>rfl,
  ⟨a_ze,i_ze,l_ze.kp⟩,
  l_zm,
  l_zm.binds fun _ _ _ _ _ _=>cR fun _ _=>rfl,
  ⟨a_zm,i_zm,l_zm.kp⟩,
  l_zp,
  l_zp.binds fun _ _ _ _ _ _=>cR fun _ _=>rfl,
  ⟨a_zp,i_zp,l_zp.kp⟩,
  l_zP,
  l_zP.binds fun _ _ _ _ _ _=>cR fun _ _=>rfl,
  mg_of X G a_zP,
  l_zG,
  l_zG.binds fun _ _ _ _ _ _=>oW fun _=>rfl,
  mg_of X G a_zG,
  l_zk,
  l_zk.binds fun _ _ _ _ _ _=>cR fun _ _=>rfl,
  mg_of X G a_zk,
  l_zu,
  l_zu.binds fun _ _ _ _ _ _=>cR fun _ _=>rfl,
  mg_of X G a_zu,
  l_yb,
  l_yb.binds fun _ _ _ _ _ _=>cR fun _ _=>rfl,
  mg_of X G a_yb,
  l_zM,
  l_zM.binds fun _ _ _ _ _ _=>cR fun _ _=>rfl,
  mg_of X G a_zM,
  l_zg,
  l_zg.binds fun _ _ _ _ _ _=>cX fun _ _ _=>rfl,
  mg_of X G a_zg,
  l_zS,
  l_zS.binds fun _ _ _ _ _ _=>cX fun _ _ _=>rfl,
  mg_of X G a_zS,
  l_zy,
  l_zy.binds fun _ _ _ _ _ _=>cX fun _ _ _=>rfl,
  mg_of X G a_zy,
  l_yd,
  l_yd.binds fun _ _ _ _ _ _=>cX fun _ _ _=>rfl,
  mg_of X G a_yd,
  l_zx,
  l_zx.binds fun _ _ _ _ _ _=>cX fun _ _ _=>rfl,
  mg_of X G a_zx,
  l_zF,
  l_zF.binds fun _ _ _ _ _ _=>cR fun _ _=>rfl,
  mg_of X G a_zF,
  l_zY,
  l_zY.binds fun _ _ _ _ _ _=>cX fun _ _ _=>rfl,
  mg_of X G a_zY,
  l_ye,
  l_ye.binds fun _ _ _ _ _ _=>cX fun _ _ _=>rfl,
  mg_of X G a_ye,
  l_zh,
  l_zh.binds fun _ _ _ _ _ _=>oW fun _=>rfl,
  mg_of X G a_zh,
  l_zA,
  l_zA.binds fun _ _ _ _ _ _=>cR fun _ _=>rfl,
  mg_of X G a_zA,
  l_zj,
  l_zj.binds fun _ _ _ _ _ _=>oW fun _=>rfl,
  mg_of X G a_zj,
  l_zl,
  l_zl.binds fun _ _ _ _ _ _=>cX fun _ _ _=>rfl,
  mg_of X G a_zl,
  l_zr,
  l_zr.binds fun _ _ _ _ _ _=>cX fun _ _ _=>rfl,
  mg_of X G a_zr,
  l_zz,
  l_zz.binds fun _ _ _ _ _ _=>cX fun _ _ _=>rfl,
  mg_of X G a_zz,
  l_zK,
  l_zK.binds fun _ _ _ _ _ _=>cX fun _ _ _=>rfl,
  mg_of X G a_zK,
  l_zv,
  l_zv.binds fun _ _ _ _ _ _=>cR fun _ _=>rfl,
  mg_of X G a_zv,
  l_zV,
  l_zV.binds fun _ _ _ _ _ _=>cR fun _ _=>rfl,
  mg_of X G a_zV,
  l_zw,
  l_zw.binds fun _ _ _ _ _ _=>cX fun _ _ _=>rfl,
  mg_of X G a_zw,
  l_zt,
  l_zt.binds fun _ _ _ _ _ _=>cR fun _ _=>rfl,
  mg_of X G a_zt,
  l_zL,
  l_zL.binds fun _ _ _ _ _ _=>cX fun _ _ _=>rfl,
  mg_of X G a_zL,
  l_zO,
  l_zO.binds fun _ _ _ _ _ _=>cR fun _ _=>rfl,
  mg_of X G a_zO,
  l_zI,
  l_zI.binds fun _ _ _ _ _ _=>cR fun _ _=>rfl,
  mg_of X G a_zI,
  l_zn,
  l_zn.binds fun _ _ _ _ _ _=>cX fun _ _ _=>rfl,
  mg_of X G a_zn,
  l_zJ,
  l_zJ.binds fun _ _ _ _ _ _=>cR fun _ _=>rfl,
  mg_of X G a_zJ,
  l_ya,
  l_ya.binds fun _ _ _ _ _ _=>cX fun _ _ _=>rfl,
  mg_of X G a_ya,
  l_zU,
  l_zU.binds fun _ _ _ _ _ _=>cX fun _ _ _=>rfl,
  mg_of X G a_zU,
  l_zd,
  l_zd.binds fun _ _ _ _ _ _=>cX fun _ _ _=>rfl,
  mg_of X G a_zd,
  l_zT,
  l_zT.binds fun _ _ _ _ _ _=>cX fun _ _ _=>rfl,
  mg_of X G a_zT,
  l_zN,
  l_zN.binds fun _ _ _ _ _ _=>cX fun _ _ _=>rfl,
  mg_of X G a_zN,
  l_zs,
  l_zs.binds fun _ _ _ _ _ _=>cX fun _ _ _=>rfl,
  mg_of X G a_zs,
  l_zi,
  l_zi.binds fun _ _ _ _ _ _=>cX fun _ _ _=>rfl,
  mg_of X G a_zi,
  l_zD,
  l_zD.binds fun _ _ _ _ _ _=>oW fun _=>rfl,
  mg_of X G a_zD,
  l_zW,
  l_zW.binds fun _ _ _ _ _ _=>cR fun _ _=>rfl,
  mg_of X G a_zW,
  l_zH,
  l_zH.binds fun _ _ _ _ _ _=>cX fun _ _ _=>rfl,
  mg_of X G a_zH,
  l_zE,
  l_zE.binds fun _ _ _ _ _ _=>cX fun _ _ _=>rfl,
  mg_of X G a_zE,
  l_zR,
  l_zR.binds fun _ _ _ _ _ _=>oW fun _=>rfl,
  mg_of X G a_zR,
  l_yf,
  l_yf.binds fun _ _ _ _ _ _=>oW fun _=>rfl,
  mg_of X G a_yf,
  mg_of X G C_A,
  mg_of X G C_B,
  mg_of X G C_C,
  mg_of X G C_D,
  ⟨pg_D,hd_D,po_D,sa_D⟩,
  ⟨mk_D,a_zq,i_zq,kc_D⟩,
  mg_of X G C_E,
  mg_of X G C_F,
  mg_of X G C_G,
  mg_of X G C_H,
  mg_of X G C_I,
  mg_of X G C_J,
  mg_of X G C_K,
  mg_of X G C_L,
  mg_of X G C_M,
  mg_of X G C_N,
  mg_of X G C_O,
  mg_of X G C_P,
  mg_of X G C_Q,
  mg_of X G C_R,
  mg_of X G C_S,
  mg_of X G C_T,
  mg_of X G C_U,
  mg_of X G C_V,
  ⟨xe_A,xo_A,xb_A,xg_A,xt_A,xc_A⟩,
  ⟨xe_C,xo_C,xb_C,xg_C,xt_C,xc_C⟩,
  s_A,
  kkA_,
  kkAC,
  kkAV,
  kkAU,
  kkAT,
  kkAS,
  kkAR,
  kkAQ,
  kkAP,
  kkAO,
  kkAN,
  kkAM,
  kkAL,
  kkAK,
  kkAJ,
  kkAI,
  kkAH,
  kkAG,
  kkAF,
  kkAE,
  kkAB,
  kkAA,
  mg_none_of X G z_ValueError,
  mg_none_of X G z_all,
  mg_none_of X G z_any,
  mg_none_of X G z_enumerate,
  mg_none_of X G z_int,
  mg_none_of X G z_isinstance,
  mg_none_of X G z_len,
  mg_none_of X G z_list,
  mg_none_of X G z_range,
  mg_none_of X G z_reversed,
  mg_none_of X G z_set,
  mg_none_of X G z_sorted,
  mg_none_of X G z_sum,
  mg_none_of X G z_tuple,
  ⟨_,mg_of X G v_MOST_BOWS,⟨_,rfl⟩⟩,
  ⟨_,mg_of X G v_MOST_NAMES,⟨_,rfl⟩⟩,
  nD_bows,
  nD_count,
  nD_ties⟩,rfl,fun s v=>.of_eq rfl⟩
theorem D8{K:PySem.W.Frag}{mg:Str->Option Value}{f:Addr}{x:Str}(h:∃t:Ad,Tx K mg t/\t.a_yf=f/\∀(s:Shared) (v:Value),BindsTo s t.d_yf ⟨[v],[]⟩ [(x,v)])(e:mg "law"=some (.ref f)) :
  ∃t:Ad,Tx K mg t/\mg "law"=some (.ref t.a_yf)/\∀(s:Shared) (v:Value),BindsTo s t.d_yf ⟨[v],[]⟩ [(x,v)]:=by
 obtain⟨t,T,rfl,b⟩:=h;exact⟨t,T,e,b⟩
end Lw
end
open PySem PySem.W PyProof.Rows
set_option maxRecDepth 100000 in
set_option maxHeartbeats 0 in
theorem PySem.Challenge.cw_doingbook_k43_formulas_of_papers_holds : PySem.Challenge.rw_doingbook_k43_formulas_of_papers.Holds := by
 w_on;o_law;k_head;(case hw=>w_witness2)
 k_fill
 refine L2.wx (l:=PySem.Challenge.rw_doingbook_k43_formulas_of_papers) (n:=63) (k:=12) (x:="_law_script") (CX:=L2.CX0) (sp:=fun K=>U.gJ K U.spL) rfl (by decide) rfl ⟨rfl,by decide,by decide⟩ (fun w h Y=>PySem.W.kIn_of Y) ?F (fun K H a ns hl hO hS=>U.rq hl hO hS) (fun _ _ _ _ z=>z)
 case F =>
  intro w mg fa h KX G hmg;have T:∃t:Lw.Ad,Lw.Tx (L2.KOf KX) mg t/\mg "law"=some (.ref t.a_yf)/\∀(s:Shared) (v:Value),BindsTo s t.d_yf ⟨[v],[]⟩ [("_law_script",v)]:=by
   dsimp only[L2.KOf];refine' Lw.D8 (Lw.oG KX G ?C_A ?C_B ?C_C ?C_D ?C_E ?C_F ?C_G ?C_H ?C_I ?C_J ?C_K ?C_L ?C_M ?C_N ?C_O ?C_P ?C_Q ?C_R ?C_S ?C_T ?C_U ?C_V ?a_zZ ?l_zZ ?a_zQ ?l_zQ ?a_yc ?l_yc ?a_zB ?l_zB ?a_zX ?l_zX ?a_zq ?i_zq ?l_zq ?a_za ?i_za ?l_za ?a_zc ?i_zc ?l_zc ?a_zf ?i_zf ?l_zf ?a_zb ?i_zb ?l_zb ?a_zo ?i_zo ?l_zo ?a_ze ?i_ze ?l_ze ?a_zm ?i_zm ?l_zm ?a_zp ?i_zp ?l_zp ?a_zP ?l_zP ?a_zG ?l_zG ?a_zk ?l_zk ?a_zu ?l_zu ?a_yb ?l_yb ?a_zM ?l_zM ?a_zg ?l_zg ?a_zS ?l_zS ?a_zy ?l_zy ?a_yd ?l_yd ?a_zx ?l_zx ?a_zF ?l_zF ?a_zY ?l_zY ?a_ye ?l_ye ?a_zh ?l_zh ?a_zA ?l_zA ?a_zj ?l_zj ?a_zl ?l_zl ?a_zr ?l_zr ?a_zz ?l_zz ?a_zK ?l_zK ?a_zv ?l_zv ?a_zV ?l_zV ?a_zw ?l_zw ?a_zt ?l_zt ?a_zL ?l_zL ?a_zO ?l_zO ?a_zI ?l_zI ?a_zn ?l_zn ?a_zJ ?l_zJ ?a_ya ?l_ya ?a_zU ?l_zU ?a_zd ?l_zd ?a_zT ?l_zT ?a_zN ?l_zN ?a_zs ?l_zs ?a_zi ?l_zi ?a_zD ?l_zD ?a_zW ?l_zW ?a_zH ?l_zH ?a_zE ?l_zE ?a_zR ?l_zR ?a_yf ?l_yf ?pg_D ?hd_D ?po_D ?sa_D ?mk_D ?kc_D ?xe_A ?xo_A ?xb_A ?xg_A ?xt_A ?xc_A ?xe_C ?xo_C ?xb_C ?xg_C ?xt_C ?xc_C ?s_A ?kkA_ ?kkAC ?kkAV ?kkAU ?kkAT ?kkAS ?kkAR ?kkAQ ?kkAP ?kkAO ?kkAN ?kkAM ?kkAL ?kkAK ?kkAJ ?kkAI ?kkAH ?kkAG ?kkAF ?kkAE ?kkAB ?kkAA ?z_ValueError ?z_all ?z_any ?z_enumerate ?z_int ?z_isinstance ?z_len ?z_list ?z_range ?z_reversed ?z_set ?z_sorted ?z_sum ?z_tuple ?v_MOST_BOWS ?v_MOST_NAMES ?nD_bows ?nD_count ?nD_ties) ?tl
   case C_A|C_B|C_C|C_D|C_E|C_F|C_G|C_H|C_I|C_J|C_K|C_L|C_M|C_N|C_O|C_P|C_Q|C_R|C_S|C_T|C_U|C_V|a_zZ|a_zQ|a_yc|a_zB|a_zX|a_zP|a_zG|a_zk|a_zu|a_yb|a_zM|a_zg|a_zS|a_zy|a_yd|a_zx|a_zF|a_zY|a_ye|a_zh|a_zA|a_zj|a_zl|a_zr|a_zz|a_zK|a_zv|a_zV|a_zw|a_zt|a_zL|a_zO|a_zI|a_zn|a_zJ|a_ya|a_zU|a_zd|a_zT|a_zN|a_zs|a_zi|a_zD|a_zW|a_zH|a_zE|a_zR|a_yf=>delta Lw.nX1;k_is
   case z_ValueError|z_all|z_any|z_enumerate|z_int|z_isinstance|z_len|z_list|z_range|z_reversed|z_set|z_sorted|z_sum|z_tuple=>delta Lw.nX2;k_is
   case a_zq|a_za|a_zc|a_zf|a_zb|a_zo|a_ze|a_zm|a_zp=>delta Lw.fX1;k_is
   case i_zq|i_za|i_zc|i_zf|i_zb|i_zo|i_ze|i_zm|i_zp|pg_D|hd_D|po_D|sa_D|mk_D|kc_D|xo_A|xb_A|xg_A|xt_A|xc_A|xo_C|xb_C|xg_C|xt_C|xc_C|s_A|v_MOST_BOWS|v_MOST_NAMES|nD_bows|nD_count|nD_ties=>k_is
   case l_zZ|l_zQ|l_yc|l_zB|l_zX|l_zq|l_za|l_zc|l_zf|l_zb|l_zo|l_ze|l_zm|l_zp|l_zP|l_zG|l_zk|l_zu|l_yb|l_zM|l_zg|l_zS|l_zy|l_yd|l_zx|l_zF|l_zY|l_ye|l_zh|l_zA|l_zj|l_zl|l_zr|l_zz|l_zK|l_zv|l_zV|l_zw|l_zt|l_zL|l_zO|l_zI|l_zn|l_zJ|l_ya|l_zU|l_zd|l_zT|l_zN|l_zs|l_zi|l_zD|l_zW|l_zH|l_zE|l_zR|l_yf=>apply L2.AN<;>k_is
   case xe_A|xe_C=>kernel_rfl
   case kkAV|kkAU|kkAT|kkAS|kkAR|kkAQ|kkAP|kkAO|kkAN|kkAM|kkAL|kkAK|kkAJ|kkAI|kkAH|kkAG|kkAF|kkAE|kkAB=>delta Lw.kX1;kit_is
   case kkA_|kkAC|kkAA=>kit_is
   (case tl=>exact PySem.W.mg_of KX G (by k_is))
  obtain⟨t,T,e,hb⟩:=T;have e0:=hmg.symm.trans e;cases e0;exact⟨t.d_yf,hb,fun base kb nb=>Lw.GK T⟩
