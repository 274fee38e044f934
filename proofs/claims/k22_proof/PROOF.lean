import PyProof.Rows.All
import Wide.All
import OpenK.AllK
import Wide.FinOn
import Lean
import PyProof.EqAt
import PyProof.EqKinds
import PyProof.TupleCall
import PyProof.NeKinds
import PyProof.StationsW
import PyProof.RulesAs
import PyProof.ExcClass2
import PyProof.IsiH_tuple
import PyProof.NsDelKeeps
import PyProof.ConsumeWalk
import PyProof.Rows.SortWalk
import PySem.SetOps
import PySem.Builtin.Tuple.Common
import PyProof.Rows.SetFrom
import PyProof.TupleKey
import PyProof.SetRoads
import KE.KSortTup
import PyProof.DictWalks
import PyProof.FactsAll.set
import PyProof.CollectWalk
import KE.KDictList
import PyProof.Rows.Range3
import PyProof.SumAny
import PyProof.Draws
import PyProof.EnumMake
import PyProof.TupleIter
import PyProof.WalksMore
import PyProof.ZipIter
import PyProof.Rows.ZipGen
import KE.KUnpack
import PyProof.Rows.StrWeight2
import PyProof.StrBlock
import PyProof.ListStr
import PyProof.SliceStr2
import PyProof.StrBlockI
import KE.KRevSl
import PyProof.StrLawsTight
import PyProof.StrLawsIn
import PyProof.Rows.StrNews
import PyProof.DictKinds
import PyProof.DictRoadsH
import PyProof.FactsAll.bool
import PySem.Challenge.RW_doingbook_k22_what_makes_no_world
set_option Elab.async false
namespace PySem.W.Fast
def tw16095957895956448544:=()
def tw13447987987478285010:=()
def tw1158845405763016700:=()
def tw203030975868688808:=()
def tw7131477984646280549:=()
def tw14999835805198437958:=()
def tw14695036692498857602:=()
def tw7145361365594966456:=()
def tw5667060055987465554:=()
def tw13838533715840096724:=()
def tw13671800321320826443:=()
def tw5943003339554976883:=()
def tw10684079652549120087:=()
def tw393272226293256908:=()
def tw7401038273762542865:=()
def tw16268762718084199854:=()
def tw8681071681308339379:=()
def tw8591565236526881407:=()
def tw2840926448740104495:=()
def tw6948815265710168344:=()
def tw1120162331368536115:=()
def tw18010608370396837825:=()
def tw4561559013703706237:=()
def tw9689717679565652644:=()
def tw16830797280162626150:=()
def tw9393978459480594802:=()
def tw7074229427562110111:=()
def tw10126696928211849532:=()
def tw5305125459165602935:=()
def tw10763278556423321099:=()
def tw10647458636766400030:=()
def tw8540311008452110565:=()
def tw14406369360324711589:=()
def tw17272485629907477792:=()
def tw16528583723100333037:=()
def tw5135285663794408235:=()
def tw12305758091137163386:=()
def tw15301841778774328991:=()
def tw14640240333583608488:=()
def tw13369141322875264955:=()
def tw13956431589800889533:=()
def tw15745137447493397592:=()
def tw10322009524681641430:=()
def tw8641577385102257542:=()
def tw2529006246824219949:=()
def tw9758829867187372502:=()
def tw12792620304717397068:=()
def tw2778177733989917760:=()
def tw6430522677303832330:=()
def tw13242771268046168864:=()
def tw18129158000920801305:=()
def tw12746818544486230726:=()
def tw1184461472424102550:=()
def tw5095638910087249381:=()
def tw3679442394785795242:=()
def tw9535911886060520564:=()
def tw18034857584534374977:=()
def tw16198147909650787916:=()
def tw7772559749898858864:=()
def tw11661276995537527125:=()
def tw13843754518021278760:=()
def tw15410517869412420941:=()
def tw11797427960210366873:=()
def tw15993265781251226127:=()
def tw2917016519088712696:=()
def tw5913128666342395562:=()
def tw16015276978556256609:=()
def tw4257909286926157494:=()
def tw6816980750841420795:=()
def tw1631549142549965911:=()
def tw17447939422053736661:=()
def tw6549846849345793710:=()
def tw10113794230214804151:=()
def tw15206840170289085164:=()
def tw12995056124947950148:=()
def tw18069663237203939748:=()
def tw2069546688439162924:=()
def tw15308546178911572195:=()
def tw1576500294124038604:=()
def tw16784344375335565174:=()
def tw4708091394861377482:=()
def tw10394370986998506433:=()
def tw6115340834189877592:=()
def tw7546016251310887743:=()
def tw1175054185892461214:=()
def tw11102768901763674289:=()
def tw6310821709215686088:=()
def tw12708230112400605973:=()
def tw5404778780422637385:=()
def tw1731186367995072817:=()
def tw2431199767565123897:=()
def tw5519825989210601519:=()
def tw1059215419909621534:=()
def tw13404550524044889706:=()
def tw3414695378414075750:=()
def tw17069625650883289993:=()
def tw10188709958917347272:=()
def tw1699830106094823277:=()
def tw404464044274346920:=()
def tw991720705632153072:=()
def tw17556378349538020732:=()
def tw11579624008047046586:=()
def tw9203962173040721464:=()
def tw4917899574683076985:=()
def tw10235046528809365729:=()
def tw11496400522898494138:=()
def tw10520930083996071902:=()
def tw4775242446034349897:=()
def tw13467096529826209229:=()
def tw17953466620359913110:=()
def tw3902742691040583506:=()
def tw17754358280566870035:=()
def tw18378945757266857770:=()
def tw13554183429364249811:=()
def tw15265645605730732647:=()
def tw12840256296422759346:=()
def tw14241548539784736332:=()
def tw18375429975694494808:=()
def tw1955928261008570630:=()
def tw18173233801867010066:=()
def tw7912023672031476041:=()
def tw3823369617790522868:=()
def tw12759133609739924459:=()
def tw8872276634998050962:=()
def tw3992094545586939059:=()
def tw14116858529392895098:=()
def tw10387706516042806277:=()
def tw7764984938037658496:=()
def tw10968731615979533004:=()
def tw11792938548501896516:=()
def tw5489222961194005219:=()
def tw12414183715831675037:=()
def tw10498305121727846328:=()
def tw7431571564663655512:=()
def tw18047437539082623246:=()
def tw14078249270770955905:=()
def tw14082062563952145193:=()
def tw6442717260400262129:=()
def tw13259621121148344227:=()
def tw4759281420303917117:=()
def tw11993628538954102030:=()
def tw4577400923853879294:=()
def tw1415494776583366450:=()
def tw10820208633959926086:=()
def tw17801031382225903720:=()
def tw14223173416839697326:=()
def tw8514766587932815882:=()
def tw17073340228018614686:=()
def tw1962101747876841687:=()
def tw7563062261178064531:=()
def tw11437279275427040678:=()
def tw1255102505267446056:=()
def tw558672674587759543:=()
def tw9994465129688677144:=()
def tw6096708767585980225:=()
def tw915751269183842835:=()
def tw8497549810332944719:=()
def tw2029393849913026039:=()
def tw10546086923058891641:=()
def tw4514922810262293107:=()
def tw6585378086482226532:=()
def tw2002921742970993745:=()
def tw2617668902111663891:=()
def tw1426936573739988274:=()
def tw5529910168947572735:=()
def tw10362384025377618832:=()
def tw6365189224913422015:=()
def tw11529815270143075692:=()
def tw13271878073024995700:=()
def tw13643795692777123908:=()
def tw15302306391180479966:=()
def tw15983870448604325880:=()
def tw15326339671045267643:=()
def tw7751799642681483784:=()
def tw15779491959306580088:=()
def tw13509480511641523963:=()
def tw5328665600508680397:=()
def tw13664921984506143136:=()
def tw8143039637254408802:=()
def tw13881545731909229268:=()
def tw5375327735484800339:=()
def tw11849044369448640621:=()
def tw6518593680293933779:=()
def tw17289521431253510304:=()
def tw13372510179139761971:=()
def tw6990860172364242431:=()
def tw10466000591356472172:=()
def tw13564169894820869785:=()
def tw6680912479190551729:=()
def tw16805444346214457896:=()
def tw10349528261567678665:=()
def tw4771693230077360653:=()
def tw875529020276167871:=()
def tw8836839557483126299:=()
def tw2272721883617116567:=()
def tw10780723604573756611:=()
def tw16524003051728428442:=()
def tw7130276033351593387:=()
def tw12411648632517289574:=()
def tw6184760565020197240:=()
def tw8837235923284672327:=()
def tw464006350676414540:=()
def tw18316966899590264761:=()
def tw685777761329189762:=()
def tw11174115547362062046:=()
def tw3146454700702938211:=()
def tw6016284413069280532:=()
def tw9569436666524442501:=()
def tw2877712175584371312:=()
def tw17227101361126893785:=()
def tw16868349040233294537:=()
def tw10714803626354037286:=()
def tw4334927615202964635:=()
def tw14480700721979864798:=()
def tw13737357716285203417:=()
def tw17776200448740169232:=()
def tw1280070923674079043:=()
def tw5688311679748948118:=()
def tw9571161534914561556:=()
def tw14124119396930509793:=()
def tw16299650986699503806:=()
def tw1437623405102919028:=()
def tw7838821434159857897:=()
def tw1916776655562975672:=()
def tw15483292868818224051:=()
def tw14345395570149814050:=()
def tw3123236271176299541:=()
def tw11826357609768482497:=()
def tw14338734354083086142:=()
def tw9220287441408980978:=()
def tw16783156959544395063:=()
def tw2560104810531517415:=()
def tw6947671183288690139:=()
def tw6277457480897571720:=()
def tw14012514606624803921:=()
def tw6965100075284027323:=()
def tw11723770179368366477:=()
def tw2784721927551061048:=()
def tw825250997584697482:=()
def tw6684380987462685682:=()
def tw14644521411638545666:=()
def tw13669529219501566503:=()
def tw1879652312292919863:=()
def tw9842905915019197026:=()
def tw16643738479176512223:=()
def tw14217252678513581342:=()
def tw489902420884479360:=()
def tw1063508883726471100:=()
def tw5956224687346153304:=()
def tw9132989327006704768:=()
def tw17507438513181595918:=()
def tw11906681688177867189:=()
def tw2512294644425855300:=()
def tw7176516619811627584:=()
def tw7884250420315766143:=()
def tw17349427111872479508:=()
def tw3894744726564255872:=()
def tw13691199149845850027:=()
def tw1084225720037555036:=()
def tw11756738754005884848:=()
def tw6158427348057935790:=()
def tw7505409870610352732:=()
def tw11246715127952941461:=()
def tw148004091294512156:=()
def tw477614223763654034:=()
def tw14441286806622484699:=()
def tw14852106171345593535:=()
def tw15803493188157947315:=()
def tw12041476488130590701:=()
def tw14478410245767527297:=()
def tw10418281261236597038:=()
def tw14636106811562769735:=()
def tw9222779104878641705:=()
def tw688064305630264032:=()
def tw8853167876768611469:=()
def tw8760361354524178763:=()
def tw4011666334441840690:=()
def tw12260040626768563944:=()
def tw15419518889539349053:=()
def tw3854925477041236773:=()
def tw16757482456007294032:=()
def tw7132497501350915919:=()
def tw15868417067033615167:=()
def tw18146601650899983:=()
def tw17509825070358252565:=()
def tw12438964174591874606:=()
def tw5759675906983115823:=()
def tw10939790872083719836:=()
def tw15541498059727718848:=()
def tw12301921358065689651:=()
def tw10238234645772006604:=()
def tw11574020148101463027:=()
def tw15174106911536336596:=()
def tw544953619068630775:=()
def tw10122220924065742819:=()
def tw11985207748366798123:=()
def tw18271763681631373531:=()
def tw12527256212680841966:=()
def tw8840976480663209570:=()
def tw2859989706518125549:=()
def tw1807345505836995570:=()
def tw12209176441139993497:=()
def tw1331220979524666715:=()
def tw18431269190493251919:=()
def tw7088753802914647548:=()
def tw2086904362159967636:=()
def tw4925467566766468663:=()
def tw10342037543875660769:=()
def tw9707986844971232902:=()
def tw6307645676448769076:=()
def tw396014575502653644:=()
def tw4247774271522752961:=()
def tw8595957753886866022:=()
def tw16000644506965785195:=()
def tw5932105222508174476:=()
def tw5541160079358299859:=()
def tw8466304032107567376:=()
def tw18025615667266206576:=()
def tw2771139594955075018:=()
def tw4010824392607139102:=()
def tw1321922148534794050:=()
def tw11061148965082190229:=()
def tw11048630774132558557:=()
def tw6478240666788893183:=()
def tw5469409294438950941:=()
def tw8618264028966994669:=()
def tw12909471453252888805:=()
def tw5605544192858205212:=()
def tw4075810765354230532:=()
def tw11879857611214398375:=()
def tw1888591706387349186:=()
def tw12181401874495062598:=()
def tw17524760881001428203:=()
def tw4132342692049243041:=()
def tw10936303529608174667:=()
def tw10997957624514289163:=()
def tw1902098024909444263:=()
def tw261618592146076908:=()
def tw12831694031680742145:=()
def tw14538927082136607586:=()
def tw9666320704729721239:=()
def tw12798683091625157671:=()
def tw12375612175866279893:=()
def tw4872128774994083001:=()
def tw15283320075943810300:=()
def tw17356934127272071375:=()
def tw9065271133189858938:=()
def tw15433470843341903010:=()
def tw5812233252487549177:=()
def tw3441388926926868642:=()
def tw10709054336331005036:=()
def tw13634545672631168049:=()
def tw6274158882434495864:=()
def tw14384249636234132386:=()
def tw16417145546235359896:=()
def tw13229681458570887142:=()
def tw14432286309310383593:=()
def tw12939354746086118360:=()
def tw7523218350178382314:=()
def tw4681433799287907637:=()
def tw12320136017501365610:=()
def tw11778847385475822953:=()
def tw7964940243269597711:=()
def tw7892427491478937688:=()
def tw13589494945778667482:=()
def tw5945720932446688168:=()
def tw12262043852473969119:=()
def tw9413626344398382303:=()
def tw1988787743759159106:=()
def tw3410291432377811026:=()
def tw17259156868339763503:=()
def tw11335168969040118752:=()
def tw10133585829194163759:=()
def tw5971039239871904122:=()
def tw7913062302661351915:=()
def tw2017746673850464457:=()
def tw16058489045361090291:=()
def tw6968994762855827068:=()
def tw17309471145305777482:=()
def tw8906325307302718732:=()
def tw14857002815565577193:=()
def tw15622563725397065111:=()
def tw14695984972740846160:=()
def tw3609244439614520956:=()
def tw8266813314268302254:=()
def tw620480433684544:=()
def tw3475199224419905230:=()
def tw16141401592715837007:=()
def tw545164805016818142:=()
def tw9041786545044738549:=()
def tw8362760402219391392:=()
def tw5448336159380135318:=()
def tw14886670767528714233:=()
def tw1368699524911039426:=()
def tw15784402713135258756:=()
def tw5334327821491397697:=()
def tw10268735880554442577:=()
def tw14217847568133017569:=()
def tw9826615070602323082:=()
def tw161580188980510145:=()
def tw8922013189755342892:=()
def tw16653897197162888315:=()
def tw14220235175957543673:=()
def tw3700700707325309510:=()
def tw11465065819858943825:=()
def tw11193015732154209192:=()
def tw6783949175734892009:=()
def tw186422310060803445:=()
def tw11037491824656974100:=()
def tw13721639686836700192:=()
def tw10906610437403473092:=()
def tw5309370398464696483:=()
def tw1269642095426838065:=()
def tw14229044024045807530:=()
def tw17200681269487466777:=()
def tw9191792789377747984:=()
def tw5496836490188902989:=()
def tw7954954988650061162:=()
def tw5571424014352046456:=()
def tw9612038891533997711:=()
def tw2432706323451627617:=()
def tw15523575148874617795:=()
def tw1219603511314775501:=()
def tw13374755980397254247:=()
def tw9417164471849457229:=()
def tw8559771383183106342:=()
def tw469270379328002683:=()
def tw14511425166309833189:=()
def tw16750149109297481920:=()
def tw9225782831979976118:=()
def tw177541901698397136:=()
def tw12891679751617118465:=()
def tw4570009763127311184:=()
def tw2545122011893813393:=()
def tw865021238685798044:=()
def tw11183060856177638829:=()
def tw16447136842005019763:=()
def tw1355898460386634504:=()
def tw15269982817875599124:=()
def tw16179042767147381803:=()
def tw6598425642163267124:=()
def tw1517522963186666997:=()
def tw6842089115015896528:=()
def tw9493414058356923626:=()
def tw11199901559018431147:=()
def tw7803983970235504504:=()
def tw9498436602381106667:=()
def tw11539325434007354017:=()
def tw17421548288217132053:=()
def tw11076735138684610648:=()
def tw5389414534036710327:=()
def tw8373008380603215575:=()
def tw15802354050496256809:=()
def tw1735471647495582232:=()
def tw3908691359723058149:=()
def tw4979332286716386018:=()
def tw15349840145199999984:=()
def tw10923997389407256998:=()
def tw18060728545089557127:=()
def tw11732447967792366284:=()
def tw14636590636091143513:=()
def tw10178037199543026265:=()
def tw10931718390995959139:=()
def tw2619348199483030160:=()
def tw11981107893980709402:=()
def tw8016146862428779670:=()
def tw13991798353861197291:=()
def tw14007690245293193879:=()
def tw6464196198924648019:=()
def tw14631184025683893161:=()
def tw11704947739463193287:=()
def tw11939053082990719946:=()
def tw2468486284096811054:=()
def tw8139268176187905308:=()
def tw9400114358831468828:=()
def tw17680461762551038427:=()
def tw6684275502887021137:=()
def tw5948404611011628185:=()
def tw8228945431715632335:=()
def tw16249254266494185065:=()
def tw8728630631721213726:=()
def tw7391350106527906286:=()
def tw8187413995476750345:=()
def tw275044419107404147:=()
def tw11456770305078766394:=()
def tw175808870298648234:=()
def tw16688772698772580804:=()
def tw8096013430237286121:=()
def tw8280057346911990104:=()
def tw5996421526982040145:=()
def tw6264160171847775373:=()
def tw890025248598226520:=()
def tw14487497671368946263:=()
def tw6143933101507689831:=()
def tw3915761656172903469:=()
def tw5182243273478347495:=()
def tw6718838334892647409:=()
def tw5656068521906765836:=()
def tw9594297546749574264:=()
def tw14977437506058814398:=()
def tw8721734373875819070:=()
def tw10723938750895048206:=()
def tw6148939330626322560:=()
def tw397489283508673136:=()
def tw17422289316791027228:=()
def tw9945608583066895903:=()
def tw11485480375622388577:=()
def tw2776445360675797630:=()
def tw4742790182648578650:=()
def tw7794759276299510065:=()
def tw7112485122770000672:=()
def tw5570387751308984370:=()
def tw8405701263223604728:=()
def tw18108118158053801076:=()
def tw10605954528202297454:=()
def tw15509997588540110120:=()
def tw16427698957769746290:=()
def tw13103653898982367590:=()
def tw9827544756047214907:=()
def tw13890692422941593552:=()
def tw8146716100959417859:=()
def tw16997081641520018981:=()
def tw340871259265830553:=()
def tw14135084030517691804:=()
def tw10677772679673673068:=()
def tw18318682507320193494:=()
def tw11666742607843669638:=()
def tw7079242174371699486:=()
def tw7905921310348019218:=()
def tw14932595090464578658:=()
def tw10478875223333707725:=()
def tw18105788726779496775:=()
def tw1918084070589959841:=()
def tw3999636685148836737:=()
def tw17180028412676775128:=()
def tw6110168957965420830:=()
def tw7273747010190409517:=()
def tw16208397366904624183:=()
def tw5973004538861664993:=()
def tw3505008498833002032:=()
def tw3543255989445154750:=()
def tw13778790692057468504:=()
def tw5328398508324787116:=()
def tw16259339685058046444:=()
def tw15643255126256366305:=()
def tw4057615496160483310:=()
def tw11621563017770667558:=()
def tw10294475657801019134:=()
def tw4077263140222855152:=()
def tw12656769729562707428:=()
def tw3217613076771592201:=()
def tw15326485669024905079:=()
def tw16276571488306189522:=()
def tw874899685634993052:=()
def tw11672985392345906620:=()
def tw3957538806889534242:=()
def tw2488019601854930597:=()
def tw8988604868274551823:=()
def tw11755648133086258145:=()
end PySem.W.Fast
set_option genSizeOf false
set_option Elab.async false
set_option linter.all false
set_option maxRecDepth 100000
section
open PySem PySem.Spec PyProof.Rows
theorem EM:type_of% @List.length_map:=@List.length_map
theorem EO:type_of% @List.getElem?_eq_getElem:=@List.getElem?_eq_getElem
theorem ER:type_of% @List.getD_eq_getElem?_getD:=@List.getD_eq_getElem?_getD
theorem ES:type_of% @wpAny_bind:=@wpAny_bind
theorem ET:type_of% @Heap.get?_push_of_some:=@Heap.get?_push_of_some
theorem EU:type_of% @List.length_cons:=@List.length_cons
theorem EV:type_of% @List.getElem?_eq_some_iff:=@List.getElem?_eq_some_iff
theorem EW:type_of% @PySem.W.mg_of:=@PySem.W.mg_of
theorem EX:type_of% @List.length_append:=@List.length_append
theorem EY:type_of% @List.mem_cons_of_mem:=@List.mem_cons_of_mem
theorem EZ:type_of% @List.mem_of_getElem?:=@List.mem_of_getElem?
theorem E1:type_of% @List.mem_cons_self:=@List.mem_cons_self
theorem E2:type_of% @Nat.le_refl:=@Nat.le_refl
theorem E3:type_of% @List.mem_map:=@List.mem_map
theorem E4:type_of% @wpAny_pure:=@wpAny_pure
theorem E5:type_of% @Heap.lt_size:=@Heap.lt_size
theorem E6:type_of% @List.size_toArray:=@List.size_toArray
theorem E7:type_of% @List.getElem?_map:=@List.getElem?_map
theorem E8:type_of% @List.map_map:=@List.map_map
theorem E9:type_of% @Heap.get?_push_size:=@Heap.get?_push_size
theorem Fb:type_of% @Nat.lt_of_lt_of_le:=@Nat.lt_of_lt_of_le
theorem Fc:type_of% @List.mem_singleton:=@List.mem_singleton
theorem Fd:type_of% @List.mem_cons:=@List.mem_cons
theorem Fe:type_of% @Nat.ne_of_lt:=@Nat.ne_of_lt
theorem Ff:type_of% @List.mem_append_right:=@List.mem_append_right
theorem Fg:type_of% @Nat.le_of_ble_eq_true:=@Nat.le_of_ble_eq_true
theorem Fh:type_of% @List.length_nil:=@List.length_nil
theorem Fi:type_of% @List.map_append:=@List.map_append
theorem Fj:type_of% @List.all_eq_true:=@List.all_eq_true
theorem Fl:type_of% @PySem.boot_len:=@PySem.boot_len
theorem Fm:type_of% @List.filter_eq_self:=@List.filter_eq_self
theorem Fn:type_of% @Option.some.inj:=@Option.some.inj
theorem Fo:type_of% @if_neg:=@if_neg
theorem Fp:type_of% @List.map_cons:=@List.map_cons
theorem Fq:type_of% @if_pos:=@if_pos
theorem Fs:type_of% @Array.getElem?_eq_getElem:=@Array.getElem?_eq_getElem
theorem Ft:type_of% @List.mem_range:=@List.mem_range
theorem Fu:type_of% @List.mem_append:=@List.mem_append
theorem Fv:type_of% @List.length_range:=@List.length_range
theorem Fw:type_of% @PySem.W.mg_none_of:=@PySem.W.mg_none_of
theorem Fx:type_of% @PassesOwn.never:=@PassesOwn.never
theorem Fy:type_of% @List.mem_append_left:=@List.mem_append_left
theorem Fz:type_of% @List.map_congr_left:=@List.map_congr_left
theorem FA:type_of% @List.getElem?_set_self:=@List.getElem?_set_self
theorem FC:type_of% @PySem.F.slot_list_append:=@PySem.F.slot_list_append
theorem FD:type_of% @PySem.F.type_list_append:=@PySem.F.type_list_append
theorem FE:type_of% @PySem.F.slot_list_extend:=@PySem.F.slot_list_extend
theorem FF:type_of% @PySem.F.type_list_extend:=@PySem.F.type_list_extend
theorem FG:type_of% @List.lookup_cons:=@List.lookup_cons
theorem FH:type_of% @List.append_nil:=@List.append_nil
theorem FI:type_of% @List.getElem?_append_right:=@List.getElem?_append_right
theorem FJ:type_of% @List.getElem?_append_left:=@List.getElem?_append_left
theorem FK:type_of% @List.getElem_mem:=@List.getElem_mem
theorem FL:type_of% @List.length_replicate:=@List.length_replicate
theorem FN:type_of% @List.getElem?_eq_none:=@List.getElem?_eq_none
theorem FO:type_of% @List.replicate_succ:=@List.replicate_succ
theorem FP:type_of% @Nat.zero_le:=@Nat.zero_le
theorem FQ:type_of% @List.mem_or_eq_of_mem_set:=@List.mem_or_eq_of_mem_set
theorem FR:type_of% @List.length_set:=@List.length_set
theorem FT:type_of% @List.length_take:=@List.length_take
theorem FU:type_of% @Int.mul_assoc:=@Int.mul_assoc
theorem FV:type_of% @boot_tuple:=@boot_tuple
theorem FW:type_of% @Int.toNat_natCast:=@Int.toNat_natCast
theorem FX:type_of% @List.take_add_one:=@List.take_add_one
theorem FY:type_of% @List.set_cons_succ:=@List.set_cons_succ
theorem FZ:type_of% @decide_eq_false:=@decide_eq_false
theorem F0:type_of% @List.mem_filter:=@List.mem_filter
theorem F1:type_of% @Int.mul_comm:=@Int.mul_comm
theorem F2:type_of% @wpAny_truthy_bool:=@wpAny_truthy_bool
theorem F3:type_of% @wpAny_field:=@wpAny_field
theorem F4:type_of% @Heap.size_push:=@Heap.size_push
theorem F5:type_of% @List.sum_cons:=@List.sum_cons
theorem F6:type_of% @Bool.false_ne_true:=@Bool.false_ne_true
theorem F7:type_of% @List.set_cons_zero:=@List.set_cons_zero
theorem F8:type_of% @Bool.and_eq_true:=@Bool.and_eq_true
theorem F9:type_of% @List.take_length:=@List.take_length
theorem Ga:type_of% @List.getElem_map:=@List.getElem_map
theorem Gb:type_of% @wpAny_holding:=@wpAny_holding
theorem Gd:type_of% @beq_iff_eq:=@beq_iff_eq
theorem Ge:type_of% @decide_eq_true:=@decide_eq_true
theorem Gf:type_of% @of_decide_eq_true:=@of_decide_eq_true
theorem Gg:type_of% @sizeLine_eq:=@sizeLine_eq
theorem Gh:type_of% @List.drop_eq_getElem_cons:=@List.drop_eq_getElem_cons
theorem Gi:type_of% @List.length_drop:=@List.length_drop
theorem Gj:type_of% @List.not_mem_nil:=@List.not_mem_nil
theorem Gk:type_of% @List.mem_replicate:=@List.mem_replicate
theorem Gm:type_of% @List.getElem?_set_ne:=@List.getElem?_set_ne
theorem Gn:type_of% @List.Perm.refl:=@List.Perm.refl
theorem Gp:type_of% @wpAny_seqItems:=@wpAny_seqItems
theorem Gq:type_of% @wpAny_callSpecial?_slot:=@wpAny_callSpecial?_slot
theorem Gr:type_of% @wpAny_newObj_type:=@wpAny_newObj_type
theorem Gs:type_of% @Int.mul_left_comm:=@Int.mul_left_comm
theorem Gu:type_of% @wpAny_mono:=@wpAny_mono
theorem Gv:type_of% @Bool.eq_iff_iff:=@Bool.eq_iff_iff
theorem Gw:type_of% @Array.length_toList:=@Array.length_toList
theorem Gx:type_of% @Nat.le_trans:=@Nat.le_trans
theorem Gy:type_of% @Nat.lt_irrefl:=@Nat.lt_irrefl
theorem Gz:type_of% @Nat.lt_of_le_of_lt:=@Nat.lt_of_le_of_lt
theorem GA:type_of% @wpAny_passesOwn:=@wpAny_passesOwn
theorem GB:type_of% @Option.map_some:=@Option.map_some
theorem GC:type_of% @List.flatten_cons:=@List.flatten_cons
theorem GD:type_of% @boot_list:=@boot_list
theorem GF:type_of% @Nat.ne_of_gt:=@Nat.ne_of_gt
theorem GG:type_of% @codeAny_mono:=@codeAny_mono
namespace L2
section
abbrev Key:=Sum Int Str
def xn:Key->Value->Bool
 | .inl k,v=>Value.isInt k v
 | .inr x,v=>Value.isStrOf x v
def En(w:World):Key->Int
 | .inl k=>hashInt k
 | .inr x=>hashStr w x
theorem bL:∀{k:Key} {v:Value},xn k v=true->(∃i t,k=Sum.inl i/\v=Value.int i t)∨(∃x t,k=Sum.inr x/\v=Value.str x t)
 | .inl i,v,h=>by
  obtain⟨t,e⟩:=Value.isInt_shape (k:=i) (v:=v) h;exact .inl ⟨i,t,rfl,e⟩
 | .inr x,v,h=>by
  obtain⟨t,e⟩:=Value.isStrOf_shape (x:=x) (v:=v) h;exact .inr ⟨x,t,rfl,e⟩
theorem Ap(a b:Int):decide ((Sum.inl a:Key)=Sum.inl b)=(a==b):=by
 by_cases e:a=b
 ·subst e;simp
 ·have h:¬(Sum.inl a:Key)=Sum.inl b:=fun q=>e (Sum.inl.inj q);rw[FZ h];exact(beq_eq_false_iff_ne.mpr e).symm
theorem zY(a b:Str):decide ((Sum.inr a:Key)=Sum.inr b)=decide (a=b):=by
 by_cases e:a=b
 ·subst e;simp
 ·have h:¬(Sum.inr a:Key)=Sum.inr b:=fun q=>e (Sum.inr.inj q);rw[FZ h,FZ e]
theorem xZ(a:Int)(b:Str):decide ((Sum.inl a:Key)=Sum.inr b)=false:=FZ (fun q=>nomatch q)
theorem yX(a:Str)(b:Int):decide ((Sum.inr a:Key)=Sum.inl b)=false:=FZ (fun q=>nomatch q)
def oU(prog:Program)(w:World):PySem.KeyKind prog w Key where
 is:=xn
 hash:=En w
 inj:=fun v a b ha hb=>by
  rcases bL ha with⟨i,t,rfl,rfl⟩ |⟨x,t,rfl,rfl⟩
  ·rcases bL hb with⟨j,u,rfl,e⟩ |⟨y,u,rfl,e⟩
   ·injection e with e1 _;rw[e1]
   ·exact nomatch e
  ·rcases bL hb with⟨j,u,rfl,e⟩ |⟨y,u,rfl,e⟩
   ·exact nomatch e
   ·injection e with e1 _;rw[e1]
 byValue:=fun k v h=>by
  rcases bL h with⟨i,t,rfl,rfl⟩ |⟨x,t,rfl,rfl⟩<;>rfl
 pyHash:=fun hv h=>by
  rcases bL hv with⟨i,t,rfl,rfl⟩ |⟨x,t,rfl,rfl⟩
  ·exact wpAny_pyHash_int h
  ·exact wpAny_pyHash_str h
 eqBool:=fun hu hv h=>by
  rcases bL hu with⟨i,t,rfl,rfl⟩ |⟨x,t,rfl,rfl⟩
  ·rcases bL hv with⟨j,u,rfl,rfl⟩ |⟨y,u,rfl,rfl⟩
   ·rw[Ap]at h;exact wpAny_eqBool_int h
   ·rw[xZ]at h;exact SeqAt.EqAt.int_str i t y u _ _ _ _ h
  ·rcases bL hv with⟨j,u,rfl,rfl⟩ |⟨y,u,rfl,rfl⟩
   ·rw[yX]at h;exact SeqAt.EqAt.str_int x t j u _ _ _ _ h
   ·rw[zY]at h;exact wpAny_eqBool_str h
 «strs»:=fun k x t v h=>by
  rcases bL h with⟨i,u,rfl,e⟩ |⟨y,u,rfl,e⟩
  ·exact nomatch e
  ·injection e with e1 _;subst e1;cases v<;>rfl
end
section
inductive V where
 | non | bl (b:Bool) | int (i:Int) | str (x:Str) | byt (b:Array UInt8) | flt (b:UInt64) | ref (a:Addr) | ty (n:String)
 deriving DecidableEq
def RelV:V->Value->Prop
 | .non,u=>u=Value.none
 | .bl b,u=>u=Value.bool b
 | .int i,u=>∃t,u=Value.int i t
 | .str x,u=>∃t,u=Value.str x t
 | .byt b,u=>∃t,u=Value.bytes b t
 | .flt b,u=>∃t,u=Value.float b t
 | .ref a,u=>u=Value.ref a
 | .ty n,u=>u=Value.type n
abbrev Vals:List V->List Value->Prop:=Paired RelV
theorem Vals.length(r:Vals xs us):xs.length=us.length:=Paired.length r
theorem Vals.get:∀{xs:List V} {us:List Value} {i:Nat} {x:V},Vals xs us->xs[i]?=some x->∃u,us[i]?=some u/\RelV x u
 | _,_,_,_,.nil,e=>by simp at e
 | _,_,0,_,.cons r _,e=>by simp at e;subst e;exact⟨_,rfl,r⟩
 | _,_,i+1,x,.cons _ t,e=>by
  obtain⟨u,h1,h2⟩:=Vals.get (i:=i) (x:=x) t (by simpa using e);exact⟨u,by simpa using h1,h2⟩
theorem Vals.set{x:V}{u:Value}(r:RelV x u):∀{xs:List V} {us:List Value} (i:Nat),Vals xs us->Vals (xs.set i x) (us.set i u)
 | _,_,_,.nil=>.nil
 | _,_,0,.cons _ t=>.cons r t
 | _,_,i+1,.cons q t=>.cons q (Vals.set r i t)
theorem Vals.append:∀{xs ys:List V} {us ws:List Value},Vals xs us->Vals ys ws->Vals (xs++ys) (us++ws)
 | _,_,_,_,.nil,s=>s
 | _,_,_,_,.cons r t,s=>.cons r (Vals.append t s)
theorem Vals.take:∀{xs:List V} {us:List Value} (n:Nat),Vals xs us->Vals (xs.take n) (us.take n)
 | _,_,0,_=>.nil
 | _,_,_+1,.nil=>.nil
 | _,_,n+1,.cons r t=>.cons r (Vals.take n t)
theorem Vals.drop:∀{xs:List V} {us:List Value} (n:Nat),Vals xs us->Vals (xs.drop n) (us.drop n)
 | _,_,0,r=>r
 | _,_,_+1,.nil=>.nil
 | _,_,n+1,.cons _ t=>Vals.drop n t
def iZ:Option V->Option Value->Prop
 | some v,some u=>RelV v u
 | none,none=>True
 | _,_=>False
def KV{κ:Type}:List (κ×V)->List (κ×Value)->Prop:=Paired fun(p:κ×V) (q:κ×Value)=>p.1=q.1/\RelV p.2 q.2
def kV:Key->V
 | .inl i=>.int i
 | .inr x=>.str x
inductive HO where
  | lst (xs:List V)
  | tup (xs:List V)
  | dK (kvs:List (Key×V)) | dT (kvs:List (List Key×V))
  | set (S:Int->Bool) (n:Nat)
  | ins (C dx:Addr) (fs:List (Str×V))
  | own (x:Addr)
  | xd (fs:List (Str×V))
  | met (f x:Addr)
  | rng (lo hi:Int)
  | frz (o:Obj) (u:HO)
  | tbl (ps:Array Value)
  | ext (φ:Heap->Prop)
abbrev Hp:=Addr->Option HO
def upd(H:Hp)(a:Addr)(o:HO):Hp:=fun b=>if b=a then some o else H b
theorem bC:upd H a o a=some o:=by unfold upd;rw[Fq rfl]
theorem aJ(h:b≠a):upd H a o b=H b:=by unfold upd;rw[Fo h]
theorem xE{H:Hp}(h:H a=some o)(h':H b=some u)(d:o≠u):a≠b:=by
 intro e;subst e;rw[h]at h';exact d (Fn h')
theorem aN{H:Hp}(h:H a=some o)(h':H b=none):a≠b:=by
 intro e;subst e;rw[h]at h';cases h'
section
variable (P:Program)(w:World)
def cB(H:Hp)(h:Heap)(a:Addr):HO->Prop
 | .lst xs=>xs.length≤sizeLine/\∃(its:List Value) (n:Nat),Vals xs its/\h.get? a=some { cls:=.type "list",data:=.seq its.toArray n }
 | .tup xs=>xs.length≤sizeLine/\∃its:List Value,Vals xs its/\IsTup h a its.toArray
 | .dK kvs=>kvs.length≤sizeLine/\(a==sysModules)=false/\∃vs,KV kvs vs/\h.DictOf (oU P w) a vs
 | .dT kvs=>kvs.length≤sizeLine/\(a==sysModules)=false/\∃xs:List (List Key×Addr×Value),
   Paired (fun(p:List Key×V) (q:List Key×Addr×Value)=>p.1=q.1/\H q.2.1=some (.tup (p.1.map kV))/\RelV p.2 q.2.2) kvs xs /\
   ∃o es ep,h.get? a=some o/\o.ExactDict/\o.data=.dict es ep/\es.toList=xs.map (entryOfKey (tupleKind (oU P w)))/\(xs.map (·.1)).Nodup
 | .set S n=>h.SetOf (intKind P w) a S n
 | .ins C dx fs=>H dx=some (.own a)/\fs.length≤1000/\dx≠a/\h.get? a=some (PySem.W.instObj C dx) /\
   ∃mA,h.Ns1 dx mA/\(∀f,iZ (fs.lookup f) (mA f))/\PySem.Within mA (fs.map (·.1))
 | .own _=>∃o,h.get? a=some o
 | .xd fs=>∃mA,h.Ns1 a mA/\∀f,iZ (fs.lookup f) (mA f)
 | .rng lo hi=>∃t u v,h.get? a=some { cls:=.type "range",data:=.fields #[.int lo t,.int hi u,.int 1 v] }
 | .frz o u=>h.get? a=some o/\cB H h a u
 | .tbl ps=>h.get? a=some { cls:=.none,data:=.fields ps }
 | .met f x=>h.get? a=some (PySem.W.methodObj (.ref f) (.ref x))
 | .ext φ=>φ h/\(∃o,h.get? a=some o)/\∀h1 h2:Heap,φ h1->(∀o,h1.get? a=some o->h2.get? a=some o)->φ h2
def HOk(H:Hp)(h:Heap):Prop:=∀a o,H a=some o->cB P w H h a o
end
section
variable {P:Program}{w:World}{H H':Hp}{h h':Heap}{a:Addr}{o:HO}
theorem cB.lt(x:cB P w H h a o):a<h.objs.size:=by
 cases o with
 | lst xs=>obtain⟨_,_,_,_,e⟩:=x;exact E5 e
 | tup xs=>obtain⟨_,_,_,p⟩:=x;exact p.lt
 | dK kvs=>obtain⟨_,_,_,_,o,_,_,e,_⟩:=x;exact E5 e
 | dT kvs=>obtain⟨_,_,_,_,o,_,_,e,_⟩:=x;exact E5 e
 | set S n=>obtain⟨o,_,_,_,e,_⟩:=x;exact E5 e
 | ins C dx fs=>obtain⟨_,_,_,e,_⟩:=x;exact E5 e
 | own y=>obtain⟨_,e⟩:=x;exact E5 e
 | xd fs=>obtain⟨_,⟨_,_,_,e,_⟩,_⟩:=x;exact E5 e
 | rng lo hi=>obtain⟨_,_,_,e⟩:=x;exact E5 e
 | frz ob u=>obtain⟨e,_⟩:=x;exact E5 e
 | tbl ps=>exact E5 (show h.get? a=some _ from x)
 | met f y=>exact E5 (show h.get? a=some _ from x)
 | ext φ=>obtain⟨_,⟨_,e⟩,_⟩:=x;exact E5 e
theorem Paired.mapP{α β:Type}{F G:α->β->Prop}:∀{l₁:List α} {l₂:List β},Paired F l₁ l₂->(∀a b,F a b->G a b)->Paired G l₁ l₂
 | _,_,.nil,_=>.nil
 | _,_,.cons r t,f=>.cons (f _ _ r) (Paired.mapP t f)
theorem cB.stay(x:cB P w H h a o)(k:∀b u,(b=a∨H b=some (.own a))->h.get? b=some u->h'.get? b=some u)
  (ho:∀b,H b=some (.own a)->H' b=some (.own a)) (ht:∀b xs,H b=some (.tup xs)->H' b=some (.tup xs)):cB P w H' h' a o:=by
 induction o with
 | lst xs=>obtain⟨z,its,n,r,e⟩:=x;exact⟨z,its,n,r,k _ _ (.inl rfl) e⟩
 | tup xs=>obtain⟨z,its,r,ob,e,c⟩:=x;exact⟨z,its,r,ob,k _ _ (.inl rfl) e,c⟩
 | dK kvs=>obtain⟨z,y,vs,r,ob,es,ep,e,c⟩:=x;exact⟨z,y,vs,r,ob,es,ep,k _ _ (.inl rfl) e,c⟩
 | dT kvs =>
  obtain⟨z,y,xs,r,ob,es,ep,e,c⟩:=x;exact⟨z,y,xs,Paired.mapP r fun p q z=>⟨z.1,ht _ _ z.2.1,z.2.2⟩,ob,es,ep,k _ _ (.inl rfl) e,c⟩
 | set S n=>obtain⟨ob,es,ep,t,e,c⟩:=x;exact⟨ob,es,ep,t,k _ _ (.inl rfl) e,c⟩
 | ins C dx fs =>
  obtain⟨d,z,ne,e,mA,⟨od,es,ep,e2,c⟩,r⟩:=x;exact⟨ho _ d,z,ne,k _ _ (.inl rfl) e,mA,⟨od,es,ep,k _ _ (.inr d) e2,c⟩,r⟩
 | own y=>obtain⟨ob,e⟩:=x;exact⟨ob,k _ _ (.inl rfl) e⟩
 | xd fs=>obtain⟨mA,⟨od,es,ep,e,c⟩,r⟩:=x;exact⟨mA,⟨od,es,ep,k _ _ (.inl rfl) e,c⟩,r⟩
 | rng lo hi=>obtain⟨t,u,v,e⟩:=x;exact⟨t,u,v,k _ _ (.inl rfl) e⟩
 | frz ob u ih=>obtain⟨e,q⟩:=x;exact⟨k _ _ (.inl rfl) e,ih q⟩
 | tbl ps =>
  have e:h.get? a=some { cls:=.none,data:=.fields ps }:=x;show h'.get? a=some { cls:=.none,data:=.fields ps };exact k a _ (.inl rfl) e
 | met f y =>
  have e:h.get? a=some (PySem.W.methodObj (.ref f) (.ref y)):=x;show h'.get? a=some (PySem.W.methodObj (.ref f) (.ref y));exact k a _ (.inl rfl) e
 | ext φ=>obtain⟨p,⟨o,e⟩,st⟩:=x;exact⟨st _ _ p fun o q=>k _ _ (.inl rfl) q,⟨o,k _ _ (.inl rfl) e⟩,st⟩
theorem HOk.lt(x:HOk P w H h)(e:H a=some o):a<h.objs.size:=(x a o e).lt
theorem HOk.fresh(x:HOk P w H h)(e:h.objs.size≤a):H a=none:=by
 cases q:H a with
 | none=>rfl
 | some u=>exact absurd (Fb (x.lt q) e) (Gy _)
theorem HOk.kept(x:HOk P w H h)(k:∀b u,h.get? b=some u->h'.get? b=some u):HOk P w H h':=fun a o e =>
 (x a o e).stay (fun b u _ q=>k b u q) (fun _ q=>q) fun _ _ q=>q
theorem HOk.laid(x:HOk P w H h)(k:∀b u,h.get? b=some u->h'.get? b=some u)(hp:h.objs.size≤a)(new:cB P w (upd H a o) h' a o):HOk P w (upd H a o) h':=fun b u e=>by
 have hn:=x.fresh hp;by_cases hb:b=a
 ·subst hb;rw[bC]at e;cases e;exact new
 ·rw[aJ hb]at e;exact(x b u e).stay (fun c v _ q=>k c v q) (fun c q=>by rw[aJ (aN q hn)];exact q) fun c xs q=>by rw[aJ (aN q hn)];exact q
end
def Rd(H:Hp)(a:Addr)(u:HO):Prop:=H a=some u∨∃o,H a=some (.frz o u)
theorem Rd.ok(r:Rd H a u)(x:HOk P w H h):cB P w H h a u:=by
 rcases r with r |⟨o,r⟩
 ·exact x a u r
 ·obtain⟨_,q⟩:=x a _ r;exact q
def Mut:Option HO->Prop
 | some (.lst _)=>True
 | some (.dK _)=>True
 | some (.dT _)=>True
 | some (.set _ _)=>True
 | some (.ins _ _ _)=>True
 | some (.ext _)=>True
 | _=>False
section
variable {P:Program}{w:World}{H:Hp}{h h':Heap}{x e:Addr}{o':HO}
theorem HOk.write(ok:HOk P w H h)(mu:Mut (H x))(he:e=x∨H e=some (.own x))(k:∀b u,b≠e->h.get? b=some u->h'.get? b=some u)(heo:∃u,h'.get? e=some u)
  (new:cB P w (upd H x o') h' x o'):HOk P w (upd H x o') h':=fun b u q=>by
 have nown:∀c y,H c=some (.own y)->c≠x:=fun c y r z=>by subst z;rw[r]at mu;exact mu
 have ntup:∀c xs,H c=some (.tup xs)->c≠x:=fun c xs r z=>by subst z;rw[r]at mu;exact mu
 by_cases hb:b=x
 ·subst hb;rw[bC]at q;cases q;exact new
 ·rw[aJ hb]at q;by_cases hbe:b=e
  ·have q':H b=some (.own x):=by
    rcases he with z | z
    ·exact absurd (hbe.trans z) hb
    ·rw[hbe];exact z
   rw[q]at q';cases q';obtain⟨v,hv⟩:=heo;exact⟨v,by rw[hbe];exact hv⟩
  ·refine(ok b u q).stay (fun c v hc r=>k c v ?_ r) (fun c r=>by rw[aJ (nown c b r)];exact r) fun c xs r=>by rw[aJ (ntup c xs r)];exact r
   rcases hc with rfl | hc
   ·exact hbe
   ·rintro rfl;rcases he with z | z
    ·exact nown c b hc z
    ·rw[hc]at z;cases z;exact hb rfl
end
structure Un (fs ex:List Addr) (H H':Hp) (h h':Heap):Prop where
 keep:∀b o,h.get? b=some o->H b=none->b∉fs->b∉ex->h'.get? b=some o
 slot:∀b o,h.get? b=some o->H b=none->b∈fs->b∉ex->∃sl,h'.get? b=some { o with slots:=sl }
 free:∀b o,h.get? b=some o->H b=none->b∉ex->H' b=none
 there:∀b o,h.get? b=some o->b∉ex->∃o',h'.get? b=some o'
 tups:∀b xs,H b=some (.tup xs)->H' b=some (.tup xs)
 frzs:∀b o u,H b=some (.frz o u)->H' b=some (.frz o u)
 tbls:∀b ps,H b=some (.tbl ps)->∃more,H' b=some (.tbl (ps++more))
section
variable {fs fs' ex ex':List Addr}{H H1 H2:Hp}{h h1 h2 h':Heap}{a x e:Addr}{o:HO}
theorem Un.any(u:Un fs ex H H1 h h1){b:Addr}{ob:Obj}(q:h.get? b=some ob)(n:H b=none)(hx:b∉ex):∃sl,h1.get? b=some { ob with slots:=sl }:=by
 by_cases hb:b∈fs
 ·exact u.slot b ob q n hb hx
 ·exact⟨ob.slots,u.keep b ob q n hb hx⟩
theorem Un.kept(k:∀b u,h.get? b=some u->h'.get? b=some u):Un fs ex H H h h' :=
 ⟨fun b ob q _ _ _=>k b ob q,fun b ob q _ _ _=>⟨ob.slots,k b ob q⟩,fun _ _ _ n _=>n,fun b ob q _=>⟨ob,k b ob q⟩,fun _ _ q=>q,fun _ _ _ q=>q,fun _ ps q=>⟨#[],by rw[q];simp⟩⟩
theorem Un.refl:Un fs ex H H h h:=Un.kept fun _ _ q=>q
theorem Un.laid(k:∀b u,h.get? b=some u->h'.get? b=some u)(hp:h.objs.size≤a)(hn:H a=none):Un fs ex H (upd H a o) h h' where
 keep:=fun b u q _ _ _=>k b u q
 slot:=fun b u q _ _ _=>⟨u.slots,k b u q⟩
 free:=fun b u q n _=>by rw[aJ (Fe (Fb (E5 q) hp))];exact n
 there:=fun b u q _=>⟨u,k b u q⟩
 tups:=fun b xs q=>by rw[aJ (aN q hn)];exact q
 frzs:=fun b u xs q=>by rw[aJ (aN q hn)];exact q
 tbls:=fun b ps q=>⟨#[],by rw[aJ (aN q hn),q];simp⟩
theorem Un.write(mu:Mut (H x))(he:e=x∨H e=some (.own x))(k:∀b u,b≠e->h.get? b=some u->h'.get? b=some u)(heo:∃u,h'.get? e=some u):Un fs ex H (upd H x o) h h':=by
 have hx:∀b,H b=none->b≠x:=fun b n z=>by subst z;rw[n]at mu;exact mu
 have hb:∀b,H b=none->b≠e:=fun b n z=>by
  subst z;rcases he with r | r
  ·exact hx b n r
  ·rw[n]at r;cases r
 have hm:∀b u,H b=some u->¬Mut (some u)->b≠x:=fun b u q nm z=>by subst z;rw[q]at mu;exact nm mu
 refine⟨fun b u q n _ _=>k b u (hb b n) q,fun b u q n _ _=>⟨u.slots,k b u (hb b n) q⟩,fun b u q n _=>by rw[aJ (hx b n)];exact n,fun b u q _=>?_,
  fun b xs q=>by rw[aJ (hm b _ q fun z=>z)];exact q,fun b u xs q=>by rw[aJ (hm b _ q fun z=>z)];exact q,fun b ps q=>⟨#[],by rw[aJ (hm b _ q fun z=>z),q];simp⟩⟩
 by_cases hbe:b=e
 ·subst hbe;exact heo
 ·exact⟨u,k b u hbe q⟩
end
def trk(h:Heap)(H:Hp):List Addr:=(List.range h.objs.size).filter fun a=>(H a).isSome
def ko(h:Heap)(H:Hp):Heap:=PySem.W.hideAll h (trk h H)
theorem qI(h:Heap)(H:Hp):(ko h H).objs.size=h.objs.size:=PySem.W.hideAll_size _ _
theorem sR(e:h.get? b=some o)(n:H b=none):(ko h H).get? b=some o :=
 PySem.W.hideAll_get _ e fun hm=>by
  have q:(H b).isSome=true:=(F0.mp hm).2;rw[n]at q;simp at q
theorem v7(e:(ko h H).get? b=some o):h.get? b=some o/\H b=none:=by
 have e':h.get? b=some o:=PySem.W.of_hideAll (trk h H) e;refine⟨e',?_⟩;cases q:H b with
 | none=>rfl
 | some x =>
  have hm:b∈trk h H:=F0.mpr ⟨Ft.mpr (E5 e'),by simp[q]⟩;have z:(ko h H).get? b=none:=PySem.W.hideAll_none (trk h H) hm;rw[z]at e;cases e
def vK(g h:Heap)(L:Addr):List (Addr×Obj):=(List.range h.objs.size).filterMap fun a=>if a=L∨(g.get? a).isSome=true then none else(h.get? a).map fun o=>(a,o)
def rest(g h:Heap)(L d:Addr):List (Addr×Obj):=(vK g h L).filter fun p=>decide (p.1≠d)
end
section
structure Mod (K:PySem.W.Frag) (mg:Str→Option Value) (base:Heap):Prop where
 kin:K.In base
 glob:base.Ns mainGlobals mg
 blt:∃mb,base.Ns builtinsNs mb/\∀x:Str,x≠"__name__"->mb x=bootBuiltins x
 nolimit:base.NoLimit
structure Cx where
 prog:Program
 w:World
 K:PySem.W.Frag
 mg:Str->Option Value
 base:Heap
 A:Around
 N:List Str
 s₀:Shared
 H₀:Hp
 env:Env
 outer:List Env
 stack:List Env
 ex:List Addr
 fn:Str->Bool
 calm:Bool
 pn:List (Addr×Obj)
 xe:Value->Shared->Prop
def frs(l:List Env):List Addr:=l.filterMap (·.frame)
abbrev Cx.fs(X:Cx):List Addr:=frs X.outer
def Vis(sc:Scope)(x:Str):Prop:=sc.names.lookup x=some .local∨sc.names.lookup x=some .cell∨sc.names.lookup x=some .free
def Loc(sc:Scope)(x:Str):Prop:=sc.names.lookup x=some .local∨sc.names.lookup x=some .cell
def Look(env:Env)(h:Heap)(m:Str->Option Value)(x:Str)(u:Value):Prop :=
 (env.kindOf x=some .local/\m x=some u)∨((env.kindOf x=some .cell∨env.kindOf x=some .free)/\∃c,env.cells.lookup x=some c/\h.IsCell c (some u))
structure Cx.Ok (X:Cx):Prop where
 mod:Mod X.K X.mg X.base
 kind:X.env.scope.kind=.function
 glob:X.env.globals=mainGlobals
 blt:X.env.builtins=builtinsNs
 above:X.s₀.heap.objs.size≤X.env.locals
 inj:∀x y c,X.env.cells.lookup x=some c->X.env.cells.lookup y=some c->x=y
 has:∀x,(X.env.kindOf x=some .cell∨X.env.kindOf x=some .free)->∃c,X.env.cells.lookup x=some c
 cab:∀x c,X.fn x=true->X.env.cells.lookup x=some c->X.s₀.heap.objs.size≤c
 hd:X.calm=true->X.A.handled=none
 frames:X.A.frames=some X.stack
 stk:X.stack=X.outer∨(X.stack=X.env::X.outer/\X.env.frame=some X.env.locals)
 exf:∀b∈X.ex,b≠X.env.locals/\∀x c,X.env.cells.lookup x=some c->c≠b
 bs:∀b o,X.base.get? b=some o->X.s₀.heap.get? b=some o/\X.H₀ b=none
 bsz:X.base.objs.size≤X.s₀.heap.objs.size
 noex:∀b o,X.base.get? b=some o->b∉X.ex
 exfs:∀b∈X.ex,b∉X.fs
 funs:X.s₀.heap.FunFrames X.base X.outer
 frf:∀b∈X.fs,X.H₀ b=none
structure Inv (X:Cx) (pins:List (Addr × Obj)) (σ:List (Option V)) (H:Hp) (s:Shared):Prop where
 ok:X.Ok
 os:s.os=X.s₀.os
 bare:AllBare s.gens
 base:Un X.fs X.ex X.H₀ H X.s₀.heap s.heap
 loc:∃m,s.heap.Ns X.env.locals m/\∀(i:Nat) (x:Str) (v:V),X.N[i]?=some x->σ[i]?=some (some v)->Vis X.env.scope x->∃u,RelV v u/\Look X.env s.heap m x u
 cell:∀x c,X.env.cells.lookup x=some c->∃v,s.heap.IsCell c v
 free:H X.env.locals=none
 freeC:∀x c,X.env.cells.lookup x=some c->H c=none
 pin:∀p∈X.pn++pins,s.heap.get? p.1=some p.2/\H p.1=none/\p.1≠X.env.locals/\p.1∉X.fs/\∀v,p.2.data≠.cell v
 hok:HOk X.prog X.w H s.heap
 len:σ.length=X.N.length
section
variable {X:Cx}{pins:List (Addr×Obj)}{σ:List (Option V)}{H H':Hp}{s:Shared}{h':Heap}
theorem Cx.Ok.nofr(ok:X.Ok){b:Addr}{o:Obj}(e:X.base.get? b=some o):b∉X.fs:=fun hb=>by
 have:=(ok.funs.mem hb).1;rw[e]at this;cases this
theorem Inv.bs(I:Inv X pins σ H s):∀b o,X.base.get? b=some o->s.heap.get? b=some o/\H b=none:=fun b o e =>
 ⟨I.base.keep b o (I.ok.bs b o e).1 (I.ok.bs b o e).2 (I.ok.nofr e) (I.ok.noex b o e),I.base.free b o (I.ok.bs b o e).1 (I.ok.bs b o e).2 (I.ok.noex b o e)⟩
theorem Inv.bk(I:Inv X pins σ H s):∀b o,X.base.get? b=some o->s.heap.get? b=some o:=fun b o e=>(I.bs b o e).1
theorem Inv.mod(I:Inv X pins σ H s):Mod X.K X.mg X.base:=I.ok.mod
theorem Inv.kIn(I:Inv X pins σ H s):X.K.In s.heap:=I.ok.mod.kin.keeps I.bk
theorem Inv.lt(I:Inv X pins σ H s):X.env.locals<s.heap.objs.size:=let ⟨_,hn,_⟩:=I.loc;hn.lt
theorem Inv.sz(I:Inv X pins σ H s):X.s₀.heap.objs.size≤s.heap.objs.size:=Gx I.ok.above (Nat.le_of_lt I.lt)
theorem Inv.nofs(I:Inv X pins σ H s){a:Addr}(h:s.heap.objs.size≤a):a∉X.fs:=fun hb=>by
 obtain⟨_,o,ho,_⟩:=I.ok.funs.mem hb;exact absurd (Fb (E5 ho) (Gx I.sz h)) (Gy _)
theorem Inv.cne(I:Inv X pins σ H s):∀x c,X.env.cells.lookup x=some c->c≠X.env.locals:=fun x c e z=>by
 obtain⟨v,o,ho,hd⟩:=I.cell x c e;obtain⟨m,⟨o',es,ep,ho',hd',_⟩,_⟩:=I.loc;rw[z,ho']at ho;cases ho;rw[hd']at hd;cases hd
theorem Inv.funs(I:Inv X pins σ H s):s.heap.FunFrames X.base X.outer:=by
 have all:∀(l:List Env),(∀b∈frs l,b∈X.fs)->X.s₀.heap.FunFrames X.base l->s.heap.FunFrames X.base l:=by
  intro l
  induction l with
  | nil=>intro _ _;trivial
  | cons env r ih =>
   intro hs hl;obtain⟨hk,⟨L,o,hf,hn,ho,hd⟩,hr⟩:=hl;have hL:L∈X.fs:=hs L (by unfold frs;rw[List.filterMap_cons,hf];exact E1);obtain⟨sl,e⟩:=I.base.slot L o ho (I.ok.frf L hL) hL fun z=>I.ok.exfs L z hL;exact⟨hk,⟨L,_,hf,hn,e,hd⟩,ih (fun b hb=>hs b (by unfold frs;rw[List.filterMap_cons,hf];exact EY _ hb)) hr⟩
 exact all X.outer (fun _ hb=>hb) I.ok.funs
theorem Inv.stack(I:Inv X pins σ H s):s.heap.FunFrames X.base X.stack:=by
 rcases I.ok.stk with e |⟨e,hf⟩
 ·rw[e];exact I.funs
 ·rw[e];obtain⟨m,hn,_⟩:=I.loc;refine .cons (by rw[I.ok.kind];decide) hf hn ?_ I.funs;exact Heap.get?_none_of_le (Gx I.ok.bsz I.ok.above)
theorem Inv.stkSub(I:Inv X pins σ H s):∀b∈frs X.stack,b∈X.env.locals::X.fs:=fun b hb=>by
 rcases I.ok.stk with e |⟨e,hf⟩
 ·rw[e]at hb;exact EY _ hb
 ·rw[e]at hb;unfold frs at hb;rw[List.filterMap_cons,hf]at hb;exact hb
theorem Inv.stkFree(I:Inv X pins σ H s):∀b∈frs X.stack,H b=none:=fun b hb=>by
 rcases Fd.mp (I.stkSub b hb)with e | hb
 ·rw[e];exact I.free
 ·obtain⟨_,o,ho,_⟩:=I.ok.funs.mem hb;exact I.base.free b o ho (I.ok.frf b hb) fun z=>I.ok.exfs b z hb
theorem Inv.step{ch:List Addr}(I:Inv X pins σ H s)
  (hch:∀b∈ch,(b∈X.ex∨X.s₀.heap.objs.size≤b)/\b≠X.env.locals/\(∀x c,X.env.cells.lookup x=some c->c≠b)/\∀p∈X.pn++pins,p.1≠b)
  (keep:∀b o,b≠X.env.locals->b∉X.fs->b∉ch->s.heap.get? b=some o->H b=none->h'.get? b=some o)
  (slot:∀b o,b≠X.env.locals->b∈X.fs->b∉ch->s.heap.get? b=some o->H b=none->∃sl,h'.get? b=some { o with slots:=sl }) (free:∀b o,b∉ch->s.heap.get? b=some o->H b=none->H' b=none)
  (there:∀b o,b∉ch->s.heap.get? b=some o->∃o',h'.get? b=some o')
  (tups:∀b xs,H b=some (.tup xs)->H' b=some (.tup xs)) (frzs:∀b o u,H b=some (.frz o u)->H' b=some (.frz o u)) (tbls:∀b ps,H b=some (.tbl ps)->∃more,H' b=some (.tbl (ps++more)))
  (ns:∀m,s.heap.Ns X.env.locals m->h'.Ns X.env.locals m) (hok:HOk X.prog X.w H' h') (hg:AllBare g') :
  Inv X pins σ H' { s with heap:=h',gens:=g',drawn:=d',toks:=t' }:=by
 have neL:∀b o,X.s₀.heap.get? b=some o->b≠X.env.locals:=fun b o e=>Fe (Fb (E5 e) I.ok.above);have neC:∀b o,X.s₀.heap.get? b=some o->b∉X.ex->b∉ch:=fun b o e hx hb=>by
  rcases (hch b hb).1 with z | z
  ·exact hx z
  ·exact absurd (Fb (E5 e) z) (Gy _)
 have cellK:∀x c,X.env.cells.lookup x=some c->∀v,s.heap.IsCell c v->h'.IsCell c v:=fun x c e v y_=>by
  obtain⟨o,ho,hd⟩:=y_;have nch:c∉ch:=fun z=>(hch c z).2.2.1 x c e rfl;by_cases hc:c∈X.fs
  ·obtain⟨sl,q⟩:=slot c o (I.cne x c e) hc nch ho (I.freeC x c e);exact⟨_,q,hd⟩
  ·exact⟨o,keep c o (I.cne x c e) hc nch ho (I.freeC x c e),hd⟩
 refine⟨I.ok,I.os,hg,⟨fun b o e n hb hx=>?_,fun b o e n hb hx=>?_,fun b o e n hx=>?_,fun b o e hx=>?_,fun b xs e=>tups b xs (I.base.tups b xs e),fun b o xs e=>frzs b o xs (I.base.frzs b o xs e),fun b ps e=>?_⟩,?_,fun x c e=>?_,?_,fun x c e=>?_,fun p hp=>?_,hok,I.len⟩
 ·exact keep b o (neL b o e) hb (neC b o e hx) (I.base.keep b o e n hb hx) (I.base.free b o e n hx)
 ·obtain⟨sl,e1⟩:=I.base.slot b o e n hb hx;obtain⟨sl',e2⟩:=slot b _ (neL b o e) hb (neC b o e hx) e1 (I.base.free b o e n hx);exact⟨sl',e2⟩
 ·obtain⟨o',e1⟩:=I.base.there b o e hx;exact free b o' (neC b o e hx) e1 (I.base.free b o e n hx)
 ·obtain⟨o',e1⟩:=I.base.there b o e hx;exact there b o' (neC b o e hx) e1
 ·obtain⟨m1,e1⟩:=I.base.tbls b ps e;obtain⟨m2,e2⟩:=tbls b _ e1;exact⟨m1++m2,by rw[e2,Array.append_assoc]⟩
 ·obtain⟨m,hn,hl⟩:=I.loc;refine⟨m,ns m hn,fun i x v e1 e2 e3=>?_⟩;obtain⟨u,r,l⟩:=hl i x v e1 e2 e3;refine⟨u,r,?_⟩;rcases l with l |⟨k,c,e,z⟩
  ·exact .inl l
  ·exact .inr ⟨k,c,e,cellK x c e _ z⟩
 ·obtain⟨v,z⟩:=I.cell x c e;exact⟨v,cellK x c e v z⟩
 ·obtain⟨m,⟨o,_,_,ho,_⟩,_⟩:=I.loc;exact free _ o (fun z=>(hch _ z).2.1 rfl) ho I.free
 ·obtain⟨v,o,ho,hd⟩:=I.cell x c e;exact free c o (fun z=>(hch c z).2.2.1 x c e rfl) ho (I.freeC x c e)
 ·obtain⟨e,n,ne,nf,d⟩:=I.pin p hp;have nch:p.1∉ch:=fun z=>(hch p.1 z).2.2.2 p hp rfl;exact⟨keep p.1 p.2 ne nf nch e n,free p.1 p.2 nch e n,ne,nf,d⟩
theorem Inv.un(I:Inv X pins σ H s)(u:Un X.fs [] H H' s.heap h')(hok:HOk X.prog X.w H' h'):Inv X pins σ H' { s with heap:=h',toks:=t' }:=by
 obtain⟨m,⟨o,es,ep,ho,r⟩,_⟩:=id I.loc;obtain⟨sl,hL⟩:=u.any ho I.free (by simp);exact I.step (g':=s.gens) (d':=s.drawn) (ch:=[]) (fun _ z=>nomatch z) (fun b o _ hb _ e n=>u.keep b o e n hb (by simp)) (fun b o _ hb _ e n=>u.slot b o e n hb (by simp)) (fun b o _ e n=>u.free b o e n (by simp)) (fun b o _ e=>u.there b o e (by simp)) u.tups u.frzs u.tbls (fun m' hm=>by
  obtain⟨o',es',ep',ho',r'⟩:=hm;rw[ho]at ho';cases ho';exact⟨_,es',ep',hL,r'⟩) hok I.bare
theorem Inv.call(I:Inv X pins σ H s)(u:Un (frs X.stack) ch H H' s.heap h')(hok:HOk X.prog X.w H' h')(hg:AllBare g')
  (hch:∀b∈ch,(b∈X.ex∨X.s₀.heap.objs.size≤b)/\b≠X.env.locals/\(∀x c,X.env.cells.lookup x=some c->c≠b)/\∀p∈X.pn++pins,p.1≠b) :
  Inv X pins σ H' { s with heap:=h',gens:=g',drawn:=d',toks:=t' }:=by
 obtain⟨m,⟨o,es,ep,ho,r⟩,_⟩:=id I.loc;obtain⟨sl,hL⟩:=u.any ho I.free fun z=>(hch _ z).2.1 rfl;exact I.step (ch:=ch) hch (fun b o hL hb hc e n=>u.keep b o e n (fun z=>(Fd.mp (I.stkSub b z)).elim hL hb) hc) (fun b o _ _ hc e n=>u.any e n hc) (fun b o hc e n=>u.free b o e n hc) (fun b o hc e=>u.there b o e hc) u.tups u.frzs u.tbls (fun m' hm=>by
  obtain⟨o',es',ep',ho',r'⟩:=hm;rw[ho]at ho';cases ho';exact⟨_,es',ep',hL,r'⟩) hok hg
theorem Inv.turned(I:Inv X pins σ H s)(k:∀b o,b≠it->s.heap.get? b=some o->h'.get? b=some o)(hn:H it=none)(hL:it≠X.env.locals)
  (h1:it∈X.ex∨X.s₀.heap.objs.size≤it) (h2:∀x c,X.env.cells.lookup x=some c->c≠it) (h3:∀p∈X.pn++pins,p.1≠it):Inv X pins σ H { s with heap:=h',toks:=t' }:=by
 have nit:∀b u,H b=some u->b≠it:=fun b u e z=>by rw[z,hn]at e;cases e
 refine I.step (g':=s.gens) (d':=s.drawn) (ch:=[it]) (fun b hb=>?_) (fun b o _ _ hc e _=>k b o (fun z=>hc (by simp[z])) e) (fun b o _ _ hc e _=>⟨o.slots,k b o (fun z=>hc (by simp[z])) e⟩) (fun _ _ _ _ n=>n)
  (fun b o hc e=>⟨o,k b o (fun z=>hc (by simp[z])) e⟩) (fun _ _ e=>e) (fun _ _ _ e=>e) (fun b ps e=>⟨#[],by rw[e];simp⟩) (fun m hm=>?_) (fun b u e=>?_) I.bare
 ·have e:b=it:=by simpa using hb
  subst e;exact⟨h1,hL,h2,h3⟩
 ·obtain⟨o,es,ep,ho,r⟩:=hm;exact⟨o,es,ep,k _ o (Ne.symm hL) ho,r⟩
 ·refine(I.hok b u e).stay (fun c v hc q=>k c v ?_ q) (fun _ q=>q) fun _ _ q=>q;rcases hc with z | z
  ·rw[z];exact nit b u e
  ·exact nit c _ z
theorem Inv.tok(I:Inv X pins σ H s)(t:Nat):Inv X pins σ H { s with toks:=t }:=I.un (h':=s.heap) (t':=t) Un.refl I.hok
theorem Inv.kept(I:Inv X pins σ H s)(k:∀b u,s.heap.get? b=some u->h'.get? b=some u):Inv X pins σ H { s with heap:=h',toks:=t' }:=I.un (Un.kept k) (I.hok.kept k)
theorem Inv.laid{a:Addr}(I:Inv X pins σ H s)(k:∀b u,s.heap.get? b=some u->h'.get? b=some u)(hp:s.heap.objs.size≤a)(new:cB X.prog X.w (upd H a o) h' a o) :
  Inv X pins σ (upd H a o) { s with heap:=h',toks:=t' }:=I.un (Un.laid k hp (I.hok.fresh hp)) (I.hok.laid k hp new)
theorem Inv.write(I:Inv X pins σ H s)(mu:Mut (H x))(he:e=x∨H e=some (.own x))(k:∀b u,b≠e->s.heap.get? b=some u->h'.get? b=some u)(heo:∃u,h'.get? e=some u)
  (new:cB X.prog X.w (upd H x o) h' x o):Inv X pins σ (upd H x o) { s with heap:=h',toks:=t' }:=I.un (Un.write mu he k heo) (I.hok.write mu he k heo new)
theorem Inv.pins_of(I:Inv X pins σ H s)(h:∀p∈pins',s.heap.get? p.1=some p.2/\H p.1=none/\p.1≠X.env.locals/\p.1∉X.fs/\∀v,p.2.data≠.cell v):Inv X pins' σ H s :=
 ⟨I.ok,I.os,I.bare,I.base,I.loc,I.cell,I.free,I.freeC,fun p hp=>(Fu.mp hp).elim (fun z=>I.pin p (Fy _ z)) (h p),I.hok,I.len⟩
theorem iM{N:List Str}(hN:N.Nodup){i j:Nat}{x:Str}(a:N[i]?=some x)(b:N[j]?=some x):i=j:=by
 obtain⟨h1,e1⟩:=EV.mp a;obtain⟨h2,e2⟩:=EV.mp b;exact(List.getElem_inj hN).mp (e1.trans e2.symm)
theorem jj{M:Model}{A:Around}{E:Value->Shared->Prop}{i:Nat}{x:Str}{v:V}{u:Value}{Q:Unit->Shared->Prop}(I:Inv X pins σ H s)(hN:X.N.Nodup)(hi:X.N[i]?=some x)(hx:Loc X.env.scope x)(r:RelV v u)
  (h:∀s',Inv X pins (σ.set i (some v)) H s'->(∃a,Heap.SameBut a s.heap s'.heap/\(a=X.env.locals∨X.env.cells.lookup x=some a))->Q () s') (hf:X.fn x=true∨X.env.scope.names.lookup x=some .local:=by first | exact .inl rfl | exact .inr rfl | assumption):wpAny M A (storeName X.env x u) Q E s:=by
 obtain⟨m,hn,hl⟩:=id I.loc;have hcls:(X.env.scope.kind==.class||(X.env.scope.kind==.module&&X.env.locals !=X.env.globals))=false:=by rw[I.ok.kind];rfl
 have hiσ:i<σ.length:=by rw[I.len];exact(EV.mp hi).1
 have cne:=I.cne;have tracked:∀{a:Addr} {h':Heap},(∃o,s.heap.get? a=some o/\H a=none)->Heap.SameBut a s.heap h'->HOk X.prog X.w H h':=fun {a h'} ha hs b ob e=>by
  obtain⟨_,_,hfree⟩:=ha;refine(I.hok b ob e).stay (fun c w' hc q=>(hs.2 c ?_).trans q) (fun _ q=>q) fun _ _ q=>q;rintro rfl;rcases hc with rfl | hc
  ·rw[hfree]at e;cases e
  ·rw[hfree]at hc;cases hc
 rcases hx with hk | hk
 ·refine wpAny_storeName_local hk hn (fun h' hn' hs=>?_) hcls;obtain⟨oL,_,_,hoL,_⟩:=id hn;refine h _ ⟨I.ok,I.os,I.bare,⟨fun b o e n hb hx=>?_,fun b o e n hb hx=>?_,I.base.free,fun b o e hx=>?_,I.base.tups,I.base.frzs,I.base.tbls⟩,⟨_,hn',fun j y v' e1 e2 e3=>?_⟩,fun y c e=>?_,I.free,I.freeC,fun p hp=>?_,tracked ⟨oL,hoL,I.free⟩ hs,by simpa using I.len⟩ ⟨_,hs,.inl rfl⟩
  ·exact(hs.2 b (Fe (Fb (E5 e) I.ok.above))).trans (I.base.keep b o e n hb hx)
  ·obtain⟨sl,e1⟩:=I.base.slot b o e n hb hx;exact⟨sl,(hs.2 b (Fe (Fb (E5 e) I.ok.above))).trans e1⟩
  ·obtain⟨o',e1⟩:=I.base.there b o e hx;exact⟨o',(hs.2 b (Fe (Fb (E5 e) I.ok.above))).trans e1⟩
  ·by_cases hj:j=i
   ·subst hj;rw[hi]at e1;cases e1;rw[FA hiσ]at e2;cases e2;exact⟨u,r,.inl ⟨hk,by simp⟩⟩
   ·rw[Gm (Ne.symm hj)]at e2;obtain⟨u',r',q⟩:=hl j y v' e1 e2 e3;refine⟨u',r',?_⟩;rcases q with⟨k,e⟩ |⟨k,c,e,z⟩
    ·refine .inl ⟨k,?_⟩;have:y≠x:=fun e=>hj (iM hN e1 (e▸hi));simp[this,e]
    ·exact .inr ⟨k,c,e,z.sameBut hs (cne y c e)⟩
  ·obtain⟨w',z⟩:=I.cell y c e;exact⟨w',z.sameBut hs (cne y c e)⟩
  ·obtain⟨e,n,ne,nf,d⟩:=I.pin p hp;exact⟨(hs.2 p.1 ne).trans e,n,ne,nf,d⟩
 ·have hfn:X.fn x=true:=by
   rcases hf with z | z
   ·exact z
   ·rw[z]at hk;cases hk
  obtain⟨c,hc⟩:=I.ok.has x (.inl hk);obtain⟨w',z⟩:=I.cell x c hc;refine wpAny_storeName_cell I.ok.kind hk hc z (fun h' hc' hs=>?_);obtain⟨oc,hoc,hocd⟩:=id z;refine h { s with heap:=h' } ⟨I.ok,I.os,I.bare,⟨fun b o e n hb hx=>?_,fun b o e n hb hx=>?_,I.base.free,fun b o e hx=>?_,I.base.tups,I.base.frzs,I.base.tbls⟩,⟨m,hn.sameBut hs (Ne.symm (cne x c hc)),fun j y v' e1 e2 e3=>?_⟩,fun y c' e=>?_,I.free,I.freeC,fun p hp=>?_,tracked ⟨oc,hoc,I.freeC x c hc⟩ hs,by simpa using I.len⟩ ⟨c,hs,.inr hc⟩
  ·exact(hs.2 b (Fe (Fb (E5 e) (I.ok.cab x c hfn hc)))).trans (I.base.keep b o e n hb hx)
  ·obtain⟨sl,e1⟩:=I.base.slot b o e n hb hx;exact⟨sl,(hs.2 b (Fe (Fb (E5 e) (I.ok.cab x c hfn hc)))).trans e1⟩
  ·obtain⟨o',e1⟩:=I.base.there b o e hx;exact⟨o',(hs.2 b (Fe (Fb (E5 e) (I.ok.cab x c hfn hc)))).trans e1⟩
  ·by_cases hj:j=i
   ·subst hj;rw[hi]at e1;cases e1;rw[FA hiσ]at e2;cases e2;exact⟨u,r,.inr ⟨.inl hk,c,hc,hc'⟩⟩
   ·rw[Gm (Ne.symm hj)]at e2;obtain⟨u',r',q⟩:=hl j y v' e1 e2 e3;refine⟨u',r',?_⟩;rcases q with q |⟨k,c',e,z'⟩
    ·exact .inl q
    ·refine .inr ⟨k,c',e,z'.sameBut hs ?_⟩;rintro rfl;exact hj (iM hN e1 (I.ok.inj _ _ _ e hc▸hi))
  ·by_cases hcc:c'=c
   ·subst hcc;exact⟨_,hc'⟩
   ·obtain⟨w2,z2⟩:=I.cell y c' e;exact⟨w2,z2.sameBut hs hcc⟩
  ·obtain⟨e,n,ne,nf,d⟩:=I.pin p hp;refine⟨(hs.2 p.1 ?_).trans e,n,ne,nf,d⟩;intro q;rw[q,hoc]at e;have q':oc=p.2:=Fn e;exact d w' (by rw[←q'];exact hocd)
theorem iV{M:Model}{A:Around}{E:Value->Shared->Prop}{i:Nat}{x:Str}{v:V}{u:Value}{Q:Unit->Shared->Prop}(I:Inv X pins σ H s)(hN:X.N.Nodup)(hi:X.N[i]?=some x)(hx:Loc X.env.scope x)(r:RelV v u)
  (h:∀s',Inv X pins (σ.set i (some v)) H s'->Q () s') (hf:X.fn x=true∨X.env.scope.names.lookup x=some .local:=by first | exact .inl rfl | exact .inr rfl | assumption):wpAny M A (storeName X.env x u) Q E s :=
 jj I hN hi hx r (fun s' I' _=>h s' I') hf
theorem Inv.call'(I:Inv X pins σ H s)(ho:s'.os=s.os)(u:Un (frs X.stack) ch H H' s.heap s'.heap)(hok:HOk X.prog X.w H' s'.heap)(hg:AllBare s'.gens)
  (hch:∀b∈ch,(b∈X.ex∨X.s₀.heap.objs.size≤b)/\b≠X.env.locals/\(∀x c,X.env.cells.lookup x=some c->c≠b)/\∀p∈X.pn++pins,p.1≠b):Inv X pins σ H' s':=by
 obtain⟨h',g',d',t',o'⟩:=s';have e:o'=s.os:=ho;subst e;exact I.call (g':=g') (t':=t') (d':=d') u hok hg hch
end
abbrev XK:=Value->Option Addr->Hp->Prop
abbrev St:=List (Option V)
abbrev VK:=V->Hp->Prop
abbrev TE:=St->Hp->VK->Prop
abbrev TT:=St->Hp->(Bool->Hp->Prop)->Prop
abbrev TA:=St->Hp->(List V->Hp->Prop)->Prop
structure Ends where
 nx:St->Hp->Prop
 rt:VK
 bk:St->Hp->Prop:=fun _ _=>False
 ct:St->Hp->Prop:=fun _ _=>False
abbrev TS:=Ends->St->Hp->Prop
def EP(X:Cx)(pins:List (Addr×Obj))(σ:St)(Q:VK)(u:Value)(s':Shared):Prop:=∃v H',Inv X pins σ H' s'/\RelV v u/\Q v H'
def TP(X:Cx)(pins:List (Addr×Obj))(σ:St)(Q:Bool->Hp->Prop)(b:Bool)(s':Shared):Prop:=∃H',Inv X pins σ H' s'/\Q b H'
def AP(X:Cx)(pins:List (Addr×Obj))(σ:St)(Q:List V->Hp->Prop)(us:List Value)(s':Shared):Prop:=∃vs H',Inv X pins σ H' s'/\Vals vs us/\Q vs H'
def SP(X:Cx)(pins:List (Addr×Obj))(D:Ends)(f:Flow)(s':Shared):Prop :=
 match f with
 | .next=>∃σ' H',Inv X pins σ' H' s'/\D.nx σ' H'
 | .brk=>∃σ' H',Inv X pins σ' H' s'/\D.bk σ' H'
 | .cont=>∃σ' H',Inv X pins σ' H' s'/\D.ct σ' H'
 | .ret u=>∃v σ' H',Inv X pins σ' H' s'/\RelV v u/\D.rt v H'
def PE(X:Cx)(e:Expr)(t:TE):Prop :=
 ∀(pins:List (Addr×Obj)) (s:Shared) (σ:St) (H:Hp) (Q:VK),Inv X pins σ H s->t σ H Q->wpAny (model X.prog X.w) X.A (eval e X.env) (EP X pins σ Q) X.xe s
def PT(X:Cx)(e:Expr)(t:TT):Prop :=
 ∀(pins:List (Addr×Obj)) (s:Shared) (σ:St) (H:Hp) (Q:Bool->Hp->Prop),Inv X pins σ H s->t σ H Q->wpAny (model X.prog X.w) X.A (isTrue e X.env (eval e X.env)) (TP X pins σ Q) X.xe s
def PW(X:Cx)(e:Expr)(t:TT):Prop :=
 ∀(whole:Sem Value) (pins:List (Addr×Obj)) (s:Shared) (σ:St) (H:Hp) (Q:Bool->Hp->Prop),Inv X pins σ H s->t σ H Q->wpAny (model X.prog X.w) X.A (isTrue e X.env whole) (TP X pins σ Q) X.xe s
theorem PW.pt(h:PW X e t):PT X e t:=h _
def PA(X:Cx)(es:List Expr)(t:TA):Prop :=
 ∀(pos:Pos) (pins:List (Addr×Obj)) (s:Shared) (σ:St) (H:Hp) (Q:List V->Hp->Prop),Inv X pins σ H s->t σ H Q->wpAny (model X.prog X.w) X.A (spliced (backTo pos (starEach es X.env))) (AP X pins σ Q) X.xe s
def PS(X:Cx)(st:Stmt)(t:TS):Prop :=
 ∀(pins:List (Addr×Obj)) (s:Shared) (σ:St) (H:Hp) (D:Ends),Inv X pins σ H s->t D σ H->wpAny (model X.prog X.w) X.A (exec st X.env) (SP X pins D) X.xe s
def PSs(X:Cx)(st:List Stmt)(t:TS):Prop :=
 ∀(pins:List (Addr×Obj)) (s:Shared) (σ:St) (H:Hp) (D:Ends),Inv X pins σ H s->t D σ H->wpAny (model X.prog X.w) X.A (execs st X.env) (SP X pins D) X.xe s
theorem thn{t:Sem α}{Q Q':α->Shared->Prop}(h:wpAny M A t Q E s)(hQ:∀a s,Q a s->Q' a s):wpAny M A t Q' E s:=Gu h hQ fun _ _ x=>x
end
section
section
variable {X:Cx}
theorem bin{a b:Expr}{ta tb:TE}(ha:PE X a ta)(hb:PE X b tb){pins:List (Addr×Obj)}{s:Shared}{σ:St}{H:Hp}{R:V->V->Hp->Prop}(I:Inv X pins σ H s)(h:ta σ H fun x H1=>tb σ H1 fun y H2=>R x y H2)
  {α:Type} {Q:α->Shared->Prop} {f:Value->Value->Sem α}
  (hf:∀v u s2 x y H2,Inv X pins σ H2 s2->RelV x v->RelV y u->R x y H2->wpAny (model X.prog X.w) X.A (f v u) Q X.xe s2) :
  wpAny (model X.prog X.w) X.A (eval a X.env) (fun v s₁=>wpAny (model X.prog X.w) X.A (eval b X.env) (fun u s₂=>wpAny (model X.prog X.w) X.A (f v u) Q X.xe s₂) X.xe s₁) X.xe s:=by
 refine thn (ha pins s σ H _ I h) fun v s1 y_=>?_;obtain⟨x,H1,I1,r1,q1⟩:=y_;refine thn (hb pins s1 σ H1 _ I1 q1) fun u s2 y_=>?_;obtain⟨y,H2,I2,r2,q2⟩:=y_;exact hf v u s2 x y H2 I2 r1 r2 q2
def BX(i:Nat):TE:=fun σ H Q=>∃v,σ[i]?=some (some v)/\Q v H
def tC(v:V):TE:=fun _ H Q=>Q v H
theorem sX{i:Nat}{x:Str}{pos:Pos}(hN:X.N[i]?=some x)(hv:Vis X.env.scope x)(hd:(x==("__debug__":Str))=false:=by decide)(hcd:(x==("__classdict__":Str))=false:=by decide):PE X (.Name x pos) (BX i):=by
 intro pins s σ H Q I h;obtain⟨v,e,h⟩:=h;obtain⟨m,hn,hl⟩:=I.loc;obtain⟨u,r,l⟩:=hl i x v hN e hv;have fin:EP X pins σ Q u s:=⟨v,H,I,r,h⟩;rcases l with⟨hk,hm⟩ |⟨hk,c,hc,hcell⟩
 ·exact wpAny_Name (wpAny_loadName_local I.ok.kind hk hn hm fin) hd
 ·rcases hk with hk | hk
  ·exact wpAny_Name (wpAny_loadName_cell I.ok.kind hk hc hcell fin) hd
  ·exact wpAny_Name (wpAny_loadName_free I.ok.kind hk hc hcell fin hcd) hd
theorem ym:PE X (.Constant (.int i) j pos) (tC (.int i)):=fun _ _ _ H _ I h=>wpAny_Constant_int ⟨.int i,H,I.tok _,⟨_,rfl⟩,h⟩
theorem BI:PE X (.Constant (.bool b) j pos) (tC (.bl b)):=fun _ _ _ H _ I h=>Constant_bool ⟨.bl b,H,I,rfl,h⟩
theorem zK:PE X (.Constant .none j pos) (tC .non):=fun _ _ _ H _ I h=>Constant_none ⟨.non,H,I,rfl,h⟩
theorem uT:PE X (.Constant (.str x) j pos) (tC (.str x)):=fun _ _ _ H _ I h=>Calls.Constant_str ⟨.str x,H,I.tok _,⟨_,rfl⟩,h⟩
def Gl(X:Cx)(x:Str):Prop:=X.env.kindOf x=some .globalImplicit
theorem eQ{E:Value->Shared->Prop}{pins:List (Addr×Obj)}{s:Shared}{σ:St}{H:Hp}{x:Str}{u:Value}{pos:Pos}{Q:Value->Shared->Prop}(I:Inv X pins σ H s)(hg:Gl X x)(hm:X.mg x=some u)(h:Q u s)
  (hd:(x==("__debug__":Str))=false:=by decide):wpAny (model X.prog X.w) X.A (eval (.Name x pos) X.env) Q E s :=
 Calls.Name_function_global I.ok.kind hg (Calls.loadGlobal_global (by rw[I.ok.glob];exact I.mod.glob.keeps I.bk) hm h) hd
theorem gg{E:Value->Shared->Prop}{pins:List (Addr×Obj)}{s:Shared}{σ:St}{H:Hp}{x:Str}{u:Value}{pos:Pos}{Q:Value->Shared->Prop}(I:Inv X pins σ H s)(hg:Gl X x)(hm:X.mg x=none)(hv:bootBuiltins x=some u)(h:Q u s)
  (hn:x≠"__name__":=by decide) (hd:(x==("__debug__":Str))=false:=by decide):wpAny (model X.prog X.w) X.A (eval (.Name x pos) X.env) Q E s:=by
 obtain⟨mb,h1,h2⟩:=I.mod.blt;exact Calls.Name_function_global I.ok.kind hg (Calls.loadGlobal_builtin (by rw[I.ok.glob];exact I.mod.glob.keeps I.bk) hm (by rw[I.ok.blt];exact h1.keeps I.bk) ((h2 x hn).trans hv) h) hd
theorem oC{x:Str}{v:V}{u:Value}{pos:Pos}(hg:Gl X x)(hm:X.mg x=some u)(r:RelV v u)(hd:(x==("__debug__":Str))=false:=by decide):PE X (.Name x pos) (tC v) :=
 fun _ _ _ H _ I h=>eQ I hg hm ⟨v,H,I,r,h⟩ hd
theorem vz{x:Str}{v:V}{u:Value}{pos:Pos}(hg:Gl X x)(hm:X.mg x=none)(hv:bootBuiltins x=some u)(r:RelV v u)(hn:x≠"__name__":=by decide)(hd:(x==("__debug__":Str))=false:=by decide):PE X (.Name x pos) (tC v) :=
 fun _ _ _ H _ I h=>gg I hg hm hv ⟨v,H,I,r,h⟩ hn hd
variable {a b:Expr}{ta tb:TE}{pos:Pos}
def PC(X:Cx)(op:CmpOp)(a b:Expr)(t:TE):Prop :=
 ∀(pins:List (Addr×Obj)) (s:Shared) (σ:St) (H:Hp) (Q:VK),Inv X pins σ H s->t σ H Q ->
  wpAny (model X.prog X.w) X.A (eval a X.env) (fun v s₁=>wpAny (model X.prog X.w) X.A (eval b X.env) (fun u s₂=>wpAny (model X.prog X.w) X.A (compareOp op v u) (EP X pins σ Q) X.xe s₂) X.xe s₁) X.xe s
theorem tY(b:Expr){op:CmpOp}(h:op≠.In)(h2:op≠.NotIn):behindInMarks op b=false:=by
 have e1:(op==CmpOp.In)=false:=by cases op<;>first | rfl | exact absurd rfl h
 have e2:(op==CmpOp.NotIn)=false:=by cases op<;>first | rfl | exact absurd rfl h2
 cases b<;>simp[behindInMarks,e1,e2]
def tB(t:TE):TT:=fun σ H Q=>t σ H fun x H1=>∃c,x=.bl c/\Q c H1
theorem C3{op:CmpOp}{t:TE}(h:PC X op a b t)(h1:behindInMarks op b=false:=by first | exact tY _ (by decide) (by decide) | rfl):PT X (.Compare a [op] [b] pos) (tB t):=by
 intro pins s σ H Q I hw;refine wpAny_isTrue_Compare1 (thn (h pins s σ H _ I hw) fun v s1 h1=>thn h1 fun u s2 h2=>thn h2 fun c s3 ⟨x,H1,I1,r1,q1⟩=>?_) h1;obtain⟨d,rfl,q⟩:=q1;cases r1;exact F2 ⟨H1,I1,q⟩
theorem zU{e:Expr}{t:TE}(h:PE X e t)(he:∀whole,isTrue e X.env whole=(do let v←whole;standAt e.pos;holding [v] (truthy v)):=by intro _;rfl):PT X e (tB t):=by
 intro pins s σ H Q I hw;refine isTrue_plain (thn (h pins s σ H _ I hw) fun v s1 ⟨x,H1,I1,r1,q1⟩=>?_) (he _);obtain⟨d,rfl,q⟩:=q1;cases r1;exact F2 ⟨H1,I1,q⟩
variable {tA tB':TT}{rest:List Expr}
def DA(t u:TT):TT:=fun σ H Q=>t σ H fun c H1=>if c=true then u σ H1 Q else Q false H1
def tOr(t u:TT):TT:=fun σ H Q=>t σ H fun c H1=>if c=true then Q true H1 else u σ H1 Q
def C0(t:TT):TT:=fun σ H Q=>t σ H fun c H1=>Q (!c) H1
theorem wc(ha:PT X a tA):PW X (.BoolOp .And [a] pos) tA:=by
 intro wh pins s σ H Q I h;refine isTrue_and (thn (ha pins s σ H Q I h) fun c s1 e=>?_);cases c with
 | true=>exact isTrue_and_nil e
 | false=>exact e
theorem yZ(ha:PT X a tA):PW X (.BoolOp .Or [a] pos) tA:=by
 intro wh pins s σ H Q I h;refine isTrue_or (thn (ha pins s σ H Q I h) fun c s1 e=>?_);cases c with
 | false=>exact isTrue_or_nil e
 | true=>exact e
theorem yj(ha:PT X a tA)(hb:PW X (.BoolOp .And (b::rest) pos) tB'):PW X (.BoolOp .And (a::b::rest) pos) (DA tA tB'):=by
 intro wh pins s σ H Q I h;refine isTrue_and (thn (ha pins s σ H _ I h) fun c s1 y_=>?_);obtain⟨H1,I1,q1⟩:=y_;cases c with
 | true=>exact hb wh pins s1 σ H1 Q I1 q1
 | false=>exact⟨H1,I1,q1⟩
theorem Bv(ha:PT X a tA)(hb:PW X (.BoolOp .Or (b::rest) pos) tB'):PW X (.BoolOp .Or (a::b::rest) pos) (tOr tA tB'):=by
 intro wh pins s σ H Q I h;refine isTrue_or (thn (ha pins s σ H _ I h) fun c s1 y_=>?_);obtain⟨H1,I1,q1⟩:=y_;cases c with
 | true=>exact⟨H1,I1,q1⟩
 | false=>exact hb wh pins s1 σ H1 Q I1 q1
theorem yq(ha:PT X a tA):PT X (.UnaryOp .Not a pos) (C0 tA):=by
 intro pins s σ H Q I h;exact isTrue_not (ha pins s σ H (fun c H1=>Q (!c) H1) I h)
def CB(ta tb:TE):TE:=fun σ H Q=>ta σ H fun x H1=>∃c,x=.bl c/\if c=true then tb σ H1 Q else Q (.bl false) H1
def AX(ta:TE):TE:=fun σ H Q=>ta σ H fun x H1=>∃c,x=.bl c/\Q (.bl (!c)) H1
theorem AD(h:PE X a t):PE X (.BoolOp op [a] pos) t:=fun pins s σ H Q I hw=>BoolOp_one (h pins s σ H Q I hw)
theorem zE(ha:PE X a ta)(hb:PE X (.BoolOp .And (b::rest) pos) tb):PE X (.BoolOp .And (a::b::rest) pos) (CB ta tb):=by
 intro pins s σ H Q I h;refine BoolOp_and (thn (ha pins s σ H _ I h) fun v s1 y_=>?_);obtain⟨x,H1,I1,r1,q1⟩:=y_;obtain⟨c,rfl,q1⟩:=q1;cases r1;refine F2 ?_;cases c with
 | true=>exact hb pins s1 σ H1 Q I1 q1
 | false=>exact⟨.bl false,H1,I1,rfl,q1⟩
theorem yB(ha:PE X a ta):PE X (.UnaryOp .Not a pos) (AX ta):=by
 intro pins s σ H Q I h;refine UnaryOp_ (thn (ha pins s σ H _ I h) fun v s1 y_=>?_);obtain⟨x,H1,I1,r1,q1⟩:=y_;obtain⟨c,rfl,q1⟩:=q1;cases r1;exact not_of (F2 ⟨.bl (!c),H1,I1,rfl,q1⟩)
end
end
section
def SqL(K:PySem.W.Frag)(H:Hp)(a:Addr)(xs:List V):Prop :=
 Rd H a (.lst xs) ∨
  ∃(o:Obj) (its:Array Value) (n:Nat),K.lookup a=some o/\o.cls=.type "list"/\o.dict=none/\o.data=.seq its n/\its.size≤sizeLine/\Vals xs its.toList
def SqT(K:PySem.W.Frag)(H:Hp)(a:Addr)(xs:List V):Prop :=
 Rd H a (.tup xs) ∨
  ∃(o:Obj) (its:Array Value) (n:Nat),K.lookup a=some o/\o.cls=.type "tuple"/\o.data=.seq its n/\its.size≤sizeLine/\Vals xs its.toList
def DQ:Value->Option V
 | .none=>some .non
 | .bool b=>some (.bl b)
 | .int i _=>some (.int i)
 | .str x _=>some (.str x)
 | .bytes b _=>some (.byt b)
 | .float b _=>some (.flt b)
 | .ref a=>some (.ref a)
 | .type n=>some (.ty n)
 | _=>none
theorem RelV.abs(r:RelV x u):DQ u=some x:=by
 cases x with
 | non=>cases r;rfl
 | bl _=>cases r;rfl
 | int _=>obtain⟨t,rfl⟩:=r;rfl
 | str _=>obtain⟨t,rfl⟩:=r;rfl
 | byt _=>obtain⟨t,rfl⟩:=r;rfl
 | flt _=>obtain⟨t,rfl⟩:=r;rfl
 | ref _=>cases r;rfl
 | ty _=>cases r;rfl
theorem RelV.inj{x y:V}{u:Value}(r:RelV x u)(q:RelV y u):x=y:=Fn (r.abs.symm.trans q.abs)
theorem Vals.inj:∀{xs ys:List V} {us:List Value},Vals xs us->Vals ys us->xs=ys
 | _,_,_,.nil,.nil=>rfl
 | _,_,_,.cons r t,.cons r' t'=>by rw[r.inj r',Vals.inj t t']
section
variable {X:Cx}{pins:List (Addr×Obj)}{σ:St}{H:Hp}{s:Shared}{a:Addr}{xs ys:List V}
theorem SqL.of{K:PySem.W.Frag}(h:H a=some (.lst xs)):SqL K H a xs:=.inl (.inl h)
theorem SqT.of{K:PySem.W.Frag}(h:H a=some (.tup xs)):SqT K H a xs:=.inl (.inl h)
theorem Inv.list(I:Inv X pins σ H s)(h:SqL X.K H a xs):∃its:List Value,Vals xs its/\PlainL s.heap a its.toArray/\xs.length≤sizeLine:=by
 rcases h with h |⟨o,its,n,hk,hc,hd,hs,hz,r⟩
 ·obtain⟨z,its,n,r,e⟩:=h.ok I.hok;exact⟨its,r,⟨_,n,e,rfl,rfl,rfl⟩,z⟩
 ·refine⟨its.toList,r,⟨o,n,I.kIn a o hk,hc,hd,by simpa using hs⟩,?_⟩;have e:=r.length;simp only[Gw]at e;omega
theorem Inv.tuple(I:Inv X pins σ H s)(h:SqT X.K H a xs):∃its:List Value,Vals xs its/\IsTup s.heap a its.toArray/\xs.length≤sizeLine:=by
 rcases h with h |⟨o,its,n,hk,hc,hs,hz,r⟩
 ·obtain⟨z,its,r,p⟩:=h.ok I.hok;exact⟨its,r,p,z⟩
 ·refine⟨its.toList,r,⟨o,I.kIn a o hk,hc,n,by simpa using hs⟩,?_⟩;have e:=r.length;simp only[Gw]at e;omega
theorem Inv.list_inj(I:Inv X pins σ H s)(h:SqL X.K H a xs)(h':SqL X.K H a ys):xs=ys:=by
 obtain⟨its,r,⟨o,n,e,_,_,d⟩,_⟩:=I.list h;obtain⟨its',r',⟨o',n',e',_,_,d'⟩,_⟩:=I.list h';rw[e]at e';cases e';rw[d]at d';injection d' with d1 _;have:its=its':=by simpa using congrArg Array.toList d1
 subst this;exact r.inj r'
theorem Inv.tuple_inj(I:Inv X pins σ H s)(h:SqT X.K H a xs)(h':SqT X.K H a ys):xs=ys:=by
 obtain⟨its,r,⟨o,e,_,n,d⟩,_⟩:=I.tuple h;obtain⟨its',r',⟨o',e',_,n',d'⟩,_⟩:=I.tuple h';rw[e]at e';cases e';rw[d]at d';injection d' with d1 _;have:its=its':=by simpa using congrArg Array.toList d1
 subst this;exact r.inj r'
end
abbrev Cx.wish(X:Cx)(E:Value->Shared->Prop):Cx:={ X with xe:=E }
abbrev Cx.nox(X:Cx):Cx:=X.wish fun _ _=>False
theorem Cx.Ok.wish{X:Cx}(ok:X.Ok)(E:Value->Shared->Prop):(X.wish E).Ok :=
 ⟨ok.mod,ok.kind,ok.glob,ok.blt,ok.above,ok.inj,ok.has,ok.cab,ok.hd,ok.frames,ok.stk,ok.exf,ok.bs,ok.bsz,ok.noex,ok.exfs,ok.funs,ok.frf⟩
theorem Cx.Ok.unwish{X:Cx}(ok:(X.wish E).Ok):X.Ok :=
 ⟨ok.mod,ok.kind,ok.glob,ok.blt,ok.above,ok.inj,ok.has,ok.cab,ok.hd,ok.frames,ok.stk,ok.exf,ok.bs,ok.bsz,ok.noex,ok.exfs,ok.funs,ok.frf⟩
section
variable {X:Cx}{pins:List (Addr×Obj)}{σ:St}{H:Hp}{s:Shared}{E:Value->Shared->Prop}
theorem Inv.wish(I:Inv X pins σ H s)(E:Value->Shared->Prop):Inv (X.wish E) pins σ H s:=⟨I.ok.wish E,I.os,I.bare,I.base,I.loc,I.cell,I.free,I.freeC,I.pin,I.hok,I.len⟩
theorem Inv.unwish(I:Inv (X.wish E) pins σ H s):Inv X pins σ H s:=⟨I.ok.unwish,I.os,I.bare,I.base,I.loc,I.cell,I.free,I.freeC,I.pin,I.hok,I.len⟩
theorem SP.unwish(h:SP (X.wish E) pins D f s'):SP X pins D f s':=by
 cases f with
 | next=>obtain⟨σ',H',I,q⟩:=h;exact⟨σ',H',I.unwish,q⟩
 | brk=>obtain⟨σ',H',I,q⟩:=h;exact⟨σ',H',I.unwish,q⟩
 | cont=>obtain⟨σ',H',I,q⟩:=h;exact⟨σ',H',I.unwish,q⟩
 | ret u=>obtain⟨v,σ',H',I,r,q⟩:=h;exact⟨v,σ',H',I.unwish,r,q⟩
theorem PSs.nox{st:List Stmt}(h:PSs X.nox st t):PSs X st t:=fun pins s σ H D I hw =>
 Gu (h pins s σ H D (I.wish _) hw) (fun _ _ q=>q.unwish) fun _ _ z=>False.elim z
end
section
variable {X:Cx}{st:Stmt}{rest:List Stmt}{t u:TS}{e:Expr}{te:TE}{pos:Pos}
def Bm:TS:=fun D σ H=>D.nx σ H
def Ee(t u:TS):TS:=fun D σ H=>t { D with nx:=u D } σ H
theorem we:PSs X [] Bm:=fun _ _ σ H _ I h=>wpAny_execs_nil ⟨σ,H,I,h⟩
theorem uk(h1:PS X st t)(h2:PSs X rest u):PSs X (st::rest) (Ee t u):=by
 intro pins s σ H D I h;refine wpAny_execs_cons (thn (h1 pins s σ H { D with nx:=u D } I h) fun f s1 q=>?_);cases f with
 | next =>
  obtain⟨σ',H',I',q⟩:=q;exact h2 pins s1 σ' H' D I' q
 | ret v=>exact q
 | brk=>exact q
 | cont=>exact q
theorem oA(h1:PS X st t):PSs X [st] t:=by
 intro pins s σ H D I h;refine wpAny_execs_cons (thn (h1 pins s σ H D I h) fun f s1 q=>?_);cases f with
 | next=>exact wpAny_execs_nil q
 | ret v=>exact q
 | brk=>exact q
 | cont=>exact q
theorem Inv.quiet{σ:St}(I:Inv X pins σ H s):interactive X.env=false:=by simp[interactive,I.ok.kind]
def A3(te:TE):TS:=fun D σ H=>te σ H fun _ H1=>D.nx σ H1
theorem vE(he:PE X e te)(hs:swapsWith e none pos.line X.env=pure false:=by rfl):PS X (.Expr e pos) (A3 te):=by
 intro pins s σ H D I h;exact wpAny_Expr_any (thn (he pins s σ H _ I h) fun v s1 y_=>by obtain⟨x,H1,I1,r1,q1⟩:=y_;exact ⟨σ,H1,I1,q1⟩) I.quiet hs
def DX(te:TE):TS:=fun D σ H=>te σ H D.rt
theorem zR(he:PE X e te):PS X (.Return (some e) pos) (DX te):=by
 intro pins s σ H D I h;exact wpAny_Return_some (thn (he pins s σ H _ I h) fun v s1 y_=>by obtain⟨x,H1,I1,r1,q1⟩:=y_;exact ⟨x,σ,H1,I1,r1,q1⟩)
def DV(c:TT)(t u:TS):TS:=fun D σ H=>c σ H fun b H1=>if b=true then t D σ H1 else u D σ H1
theorem Bc(hc:PT X c tc)(ha:PSs X a t)(hb:PSs X b u):PS X (.If c a b pos) (DV tc t u):=by
 intro pins s σ H D I h;refine wpAny_If (thn (hc pins s σ H _ I h) fun d s1 y_=>?_);obtain⟨H1,I1,q1⟩:=y_;cases d with
 | true=>exact ha pins s1 σ H1 D I1 q1
 | false=>exact hb pins s1 σ H1 D I1 q1
end
abbrev TG:=V->St->Hp->(St->Hp->Prop)->Prop
abbrev TGs:=List V->St->Hp->(St->Hp->Prop)->Prop
def PG(X:Cx)(target:Expr)(t:TG):Prop :=
 ∀(pins:List (Addr×Obj)) (s:Shared) (σ:St) (H:Hp) (v:V) (u:Value) (Q:St->Hp->Prop),Inv X pins σ H s->RelV v u->t v σ H Q ->
  wpAny (model X.prog X.w) X.A (assign target X.env u) (fun _ s'=>∃σ' H',Inv X pins σ' H' s'/\Q σ' H') X.xe s
def PGs(X:Cx)(ts:List Expr)(t:TGs):Prop :=
 ∀(pins:List (Addr×Obj)) (s:Shared) (σ:St) (H:Hp) (vs:List V) (us:List Value) (Q:St->Hp->Prop),Inv X pins σ H s->Vals vs us->t vs σ H Q ->
  wpAny (model X.prog X.w) X.A (assignInOrder ((assignEach ts X.env).map (·.2)) us) (fun _ s'=>∃σ' H',Inv X pins σ' H' s'/\Q σ' H') X.xe s
abbrev zo:=V->V->V->Hp->(Hp->Prop)->Prop
def ja(X:Cx)(t:zo):Prop :=
 ∀(pins:List (Addr×Obj)) (s:Shared) (σ:St) (H:Hp) (o i v:V) (ov iv u:Value) (Q:Hp->Prop),Inv X pins σ H s->RelV o ov->RelV i iv->RelV v u->t o i v H Q ->
  wpAny (model X.prog X.w) X.A (setItem ov iv u) (fun _ s'=>∃H',Inv X pins σ H' s'/\Q H') X.xe s
section
variable {X:Cx}{pos:Pos}
def pj(i:Nat):TG:=fun v σ H Q=>Q (σ.set i (some v)) H
theorem vQ{i:Nat}{x:Str}(hN:X.N.Nodup)(hi:X.N[i]?=some x)(hx:Loc X.env.scope x)(hf:X.fn x=true∨X.env.scope.names.lookup x=some .local:=by first | exact .inl rfl | exact .inr rfl | assumption):PG X (.Name x pos) (pj i):=by
 intro pins s σ H v u Q I r h;exact wpAny_assign_Name (iV I hN hi hx r (fun s' I'=>⟨_,H,I',h⟩) hf)
def Du:TGs:=fun vs σ H Q=>vs=[]/\Q σ H
def A7(t:TG)(u:TGs):TGs:=fun vs σ H Q=>∃v r,vs=v::r/\t v σ H fun σ' H'=>u r σ' H' Q
theorem xc:PGs X [] Du:=by
 intro pins s σ H vs us Q I r h;obtain⟨e,h⟩:=h;subst e;cases r;exact assignInOrder_nil ⟨σ,H,I,h⟩
theorem sH{e:Expr}{es:List Expr}{t:TG}{u:TGs}(h1:PG X e t)(h2:PGs X es u)
  (hs:(assignEach (e::es) X.env).map (·.2)=assign e X.env::(assignEach es X.env).map (·.2):=by rfl):PGs X (e::es) (A7 t u):=by
 intro pins s σ H vs us Q I r h;obtain⟨v,vr,e1,h⟩:=h;subst e1;cases r with
 | cons r rr =>
  rw[hs];refine assignInOrder_cons (thn (h1 pins s σ H _ _ _ I r h) fun _ s1 y_=>?_);obtain⟨σ1,H1,I1,q1⟩:=y_;exact h2 pins s1 σ1 H1 _ _ Q I1 rr q1
def Ek(K:PySem.W.Frag)(n:Nat)(t:TGs):TG:=fun v σ H Q=>∃a xs,v=.ref a/\SqT K H a xs/\xs.length=n/\t xs σ H Q
theorem y4{es:List Expr}{k:Nat}{t:TGs}{n:Nat}(hc:X.calm=true)(h:PGs X es t)
  (hn:(assignEach es X.env).length=n:=by rfl) (hst:(assignEach es X.env).findIdx? (·.1)=none:=by rfl):PG X (.Tuple es k pos) (Ek X.K n t):=by
 intro pins s σ H v u Q I r hw;obtain⟨a,xs,e1,hq,hl,hw⟩:=hw;subst e1;cases r;obtain⟨its,rv,ht,hz⟩:=I.tuple hq;refine assign_Tuple_tuple (I.ok.hd hc) ht (by simp[hn,← hl,rv.length]) hst fun h' hx=>?_;have I1:Inv X pins σ H { s with heap:=h' }:=I.kept (t':=s.toks) fun b o e=>hx b o (Fe (E5 e)) e;exact h pins _ σ H xs _ Q I1 (by simpa using rv) hw
def Dx(to ti:TE)(t:zo):TG:=fun v σ H Q=>to σ H fun o H1=>ti σ H1 fun i H2=>t o i v H2 fun H3=>Q σ H3
theorem yS{o i:Expr}{to ti:TE}{t:zo}(ho:PE X o to)(hi:PE X i ti)(hs:ja X t)
  (ha:∀v,assign (.Subscript o i pos) X.env v=(do
   let ov←holding [v] (eval o X.env)
   let iv←holding [v,ov] (eval i X.env)
   standAt pos
   holding [v,ov,iv] (setItem ov iv v)
   release [v,ov,iv] []):=by intro _;rfl):PG X (.Subscript o i pos) (Dx to ti t):=by
 intro pins s σ H v u Q I r h;rw[ha];refine ES (Gb (thn (ho pins s σ H _ I h) fun ov s1 y_=>?_));obtain⟨x,H1,I1,r1,q1⟩:=y_;refine ES (Gb (thn (hi pins s1 σ H1 _ I1 q1) fun iv s2 y_=>?_));obtain⟨y,H2,I2,r2,q2⟩:=y_;refine ES (wpAny_standAt (ES (Gb (thn (hs pins s2 σ H2 x y v ov iv u _ I2 r1 r2 r q2) fun _ s3 y_=>?_))));obtain⟨H3,I3,q3⟩:=y_;exact wpAny_release ⟨σ,H3,I3,q3⟩
def wz(te:TE)(g:TG):TS:=fun D σ H=>te σ H fun x H1=>g x σ H1 D.nx
theorem yU{tg e:Expr}{te:TE}{g:TG}(he:PE X e te)(hg:PG X tg g)(hs:swapsWithSole [tg] e pos.line X.env=pure false:=by rfl)(hw:swappedStores [tg] e X.env=pure none:=by rfl)
  (h1:(assignEach [tg] X.env).map (·.2)=[assign tg X.env]:=by rfl):PS X (.Assign [tg] e pos) (wz te g):=by
 intro pins s σ H D I h;refine wpAny_Assign_stores (thn (he pins s σ H _ I h) fun v s1 ⟨x,H1,I1,r1,q1⟩=>?_) hs hw;rw[h1];exact thn (hg pins s1 σ H1 x v _ I1 r1 q1) fun _ s2 q=>q
theorem uD{i:Nat}{x:Str}{e:Expr}{te:TE}{pos':Pos}(hN:X.N.Nodup)(hi:X.N[i]?=some x)(hx:Loc X.env.scope x)(he:PE X e te)(hs:swapsWith e (some (.Name x pos')) pos.line X.env=pure false:=by rfl)(hf:X.fn x=true∨X.env.scope.names.lookup x=some .local:=by first | exact .inl rfl | exact .inr rfl | assumption) :
  PS X (.Assign [.Name x pos'] e pos) (wz te (pj i)):=by
 intro pins s σ H D I h;refine wpAny_Assign_Name (thn (he pins s σ H _ I h) fun v s1 ⟨y,H1,I1,r1,q1⟩=>?_) hs;exact iV I1 hN hi hx r1 (fun s2 I2=>⟨_,H1,I2,q1⟩) hf
end
section
variable {X:Cx}{pos:Pos}
def tQ(c:TT)(tb:TS):TS:=fun D σ H=>∃W:Nat->St->Hp->Prop,(∃m,W m σ H)/\∀m σ H,W m σ H ->
 c σ H fun b H1=>if b=true then ∃N:St->Hp->Prop,(∀σ' H',N σ' H'->∃m',m'<m/\W m' σ' H')/\tb { D with nx:=N,ct:=N,bk:=D.nx } σ H1 else D.nx σ H1
theorem uy(hp:PassesOwn (model X.prog X.w) X.A X.env X.xe)(hc:PT X c tc)(hb:PSs X body tb):PS X (.While c body [] pos) (tQ tc tb):=by
 intro pins s σ H D I h;obtain⟨W,⟨m0,w0⟩,turn⟩:=h;refine wpAny_While (codeAny_whileLoop (fun n s'=>∃σ' H',Inv X pins σ' H' s'/\W n σ' H') ?_ m0 ⟨σ,H,I,w0⟩);rintro n s1 ⟨σ1,H1,I1,w1⟩;refine GA hp (thn (hc pins s1 σ1 H1 _ I1 (turn n σ1 H1 w1)) fun b s2 y_=>?_);obtain⟨H2,I2,q2⟩:=y_;cases b with
 | true =>
  obtain⟨N,hN,q2⟩:=q2;rw[Fq rfl];refine GA hp (thn (hb pins s2 σ1 H2 _ I2 q2) fun f s3 q3=>?_);cases f with
  | next =>
   obtain⟨σ3,H3,I3,n3⟩:=q3;obtain⟨m',hm,w3⟩:=hN σ3 H3 n3;exact⟨m',hm,σ3,H3,I3,w3⟩
  | cont =>
   obtain⟨σ3,H3,I3,n3⟩:=q3;obtain⟨m',hm,w3⟩:=hN σ3 H3 n3;exact⟨m',hm,σ3,H3,I3,w3⟩
  | brk=>exact q3
  | ret v=>exact q3
 | false =>
  rw[Fo F6];exact wpAny_execs_nil ⟨σ1,H2,I2,q2⟩
end
structure It where
 go:Nat->Hp->Prop
 yld:Nat->Hp->V->Hp->Prop
 stop:Nat->Hp->Prop
def fZ(X:Cx)(pins:List (Addr×Obj))(H:Hp)(b:Addr):Prop :=
 H b=none/\b≠X.env.locals/\b∉X.fs/\(b∈X.ex∨X.s₀.heap.objs.size≤b)/\(∀x c,X.env.cells.lookup x=some c->c≠b)/\∀p∈X.pn++pins,p.1≠b
theorem Inv.fpOk{σ:St}{b:Addr}(I:Inv X pins σ H s)(hb:s.heap.objs.size≤b)(hn:H' b=none):fZ X pins H' b:=by
 refine⟨hn,GF (Fb I.lt hb),I.nofs hb,.inr (Gx I.sz hb),fun x c e z=>?_,fun p hp z=>?_⟩
 ·obtain⟨v,q⟩:=I.cell x c e;exact absurd (Fb q.lt (by rw[z];exact hb)) (Gy _)
 ·exact absurd (Fb (E5 (I.pin p hp).1) (by rw[z];exact hb)) (Gy _)
structure Turn (P:Program) (w:World) (K:PySem.W.Frag) (tg:Expr) (J:It) (fp:List Addr) (it:Addr) (tn:Nat→Heap→Prop):Prop where
 mem:it∈fp
 obj:∀i h,tn i h->∀b∈fp,∃o,h.get? b=some o/\∀v,o.data≠.cell v
 keep:∀i h h',tn i h->(∀b∈fp,∀o,h.get? b=some o->h'.get? b=some o)->tn i h'
 item:∀(X:Cx),X.prog=P->X.w=w->X.K=K->X.calm=true->∀(i:Nat) (pins:List (Addr×Obj)) (s:Shared) (σ:St) (H:Hp) (E:Value->Shared->Prop),Inv X pins σ H s->(∀b∈fp,fZ X pins H b)->tn i s.heap->J.go i H ->
  wpAny (model P w) X.A (pyNext (.ref it)) (fun r s1=>∃u,r=some u /\
   wpAny (model P w) X.A (letOwnedTupleGo tg (.ref it) u) (fun _ s2=>∃x H',Inv X pins σ H' s2/\RelV x u/\J.yld i H x H'/\tn (i+1) s2.heap/\∀b∈fp,H' b=none) E s1) E s
 done:∀(X:Cx),X.prog=P->X.w=w->X.K=K->X.calm=true->∀(i:Nat) (pins:List (Addr×Obj)) (s:Shared) (σ:St) (H:Hp) (E:Value->Shared->Prop),Inv X pins σ H s->(∀b∈fp,fZ X pins H b)->tn i s.heap->J.stop i H ->
  wpAny (model P w) X.A (pyNext (.ref it)) (fun r s1=>r=none/\Inv X pins σ H s1) E s
 self:∀(A:Around) (i:Nat) (s:Shared) (Q:Value->Shared->Prop) (E:Value->Shared->Prop),tn i s.heap->Q (.ref it) s->wpAny (model P w) A (pyIter (.ref it)) Q E s
abbrev TI:=St->Hp->(It->Hp->Prop)->Prop
def PIE(X:Cx)(pins:List (Addr×Obj))(σ:St)(tg:Expr)(R:It->Hp->Prop)(itv:Value)(s2:Shared):Prop :=
 ∃(it:Addr) (fp:List Addr) (tn:Nat->Heap->Prop) (J:It) (H':Hp),itv=.ref it/\Inv X pins σ H' s2/\Turn X.prog X.w X.K tg J fp it tn/\tn 0 s2.heap/\(∀b∈fp,fZ X pins H' b)/\R J H'
def PI(X:Cx)(tg iter:Expr)(wi:TI):Prop :=
 ∀(pins:List (Addr×Obj)) (s:Shared) (σ:St) (H:Hp) (R:It->Hp->Prop),Inv X pins σ H s->wi σ H R ->
  wpAny (model X.prog X.w) X.A (eval iter X.env) (fun v s1=>wpAny (model X.prog X.w) X.A (pyIter v) (PIE X pins σ tg R) X.xe s1) X.xe s
theorem sO(ho:s.heap.get? it=some o)(hc:o.cls=.type n)(hd:o.data=.fields vs)
  (hn:["enumerate","zip","dict_itemiterator","dict_reverseitemiterator","odict_iterator","itertools.zip_longest","itertools.pairwise"].contains n=false) (hQ:Q () s):wpAny M A (letOwnedTupleGo tg (.ref it) u) Q E s:=by
 unfold letOwnedTupleGo;cases tg<;>first
  | exact E4 hQ
  |(cases u<;>first
    | exact E4 hQ
    | (refine ES (wpAny_load ho ?_)
       rw [hc,hd];show wpAny M A (if (["enumerate","zip","dict_itemiterator","dict_reverseitemiterator","odict_iterator","itertools.zip_longest","itertools.pairwise"].contains n && vs[0]? == some (rawInt _))=true then _ else _) Q E s;rw [Fo (by intro h; rw [hn,Bool.false_and] at h; cases h)];exact E4 hQ))
def Itl(K:PySem.W.Frag)(a:Addr):It :=
 ⟨fun i H=>∃xs x,SqL K H a xs/\xs[i]?=some x,fun i H x H'=>H'=H/\∀xs,SqL K H a xs->xs[i]?=some x,fun i H=>∃xs,SqL K H a xs/\xs.length≤i⟩
def Itt(K:PySem.W.Frag)(a:Addr):It :=
 ⟨fun i H=>∃xs x,SqT K H a xs/\xs[i]?=some x,fun i H x H'=>H'=H/\∀xs,SqT K H a xs->xs[i]?=some x,fun i H=>∃xs,SqT K H a xs/\xs.length≤i⟩
def Itr(lo:Int)(n:Nat):It:=⟨fun i _=>i<n,fun i H x H'=>H'=H/\x=.int (lo+i),fun i _=>n≤i⟩
theorem qJ{K:PySem.W.Frag}(a it:Addr):Turn P w K tg (Itl K a) [it] it (fun i h=>h.IsListIter it a i) where
 mem:=by simp
 obj:=fun i h st b hb=>by
  have e:b=it:=by simpa using hb
  subst e;obtain⟨o,e,c,d⟩:=st;exact⟨o,e,fun v z=>by rw[d]at z;cases z⟩
 keep:=fun i h h' st k=>st.at fun o e=>k it (by simp) o e
 item:=by
  intro X hP hw hK hc i pins s σ H E I hf st hg;subst hP hw hK;obtain⟨xs,x,hq,hx⟩:=hg;obtain⟨its,rv,p,hz⟩:=I.list hq;obtain⟨u,hu,ru⟩:=rv.get hx;obtain⟨f0,f1,f2,f3,f4,f5⟩:=hf it (by simp);refine wpAny_pyNext_list_item st p.isList (x:=u) (by simpa using hu) fun h' st' sb=>?_;have I1:Inv X pins σ H { s with heap:=h' }:=I.turned (t':=s.toks) (fun b o hb e=>(sb.2 b hb).trans e) f0 f1 f3 f4 f5;obtain⟨o,e,c,d⟩:=id st';exact⟨u,rfl,sO (s:={ s with heap:=h' }) e c d (by decide) ⟨x,H,I1,ru,⟨rfl,fun ys hy=>by rw[I.list_inj hy hq];exact hx⟩,st',fun b hb=>(hf b hb).1⟩⟩
 done:=by
  intro X hP hw hK hc i pins s σ H E I hf st hg;subst hP hw hK;obtain⟨xs,hq,hx⟩:=hg;obtain⟨its,rv,p,hz⟩:=I.list hq;obtain⟨f0,f1,f2,f3,f4,f5⟩:=hf it (by simp);have hl:=rv.length;exact wpAny_pyNext_list_end (I.ok.hd hc) st p.isList (by simp;omega) fun h' eb=>⟨rfl,I.turned (t':=s.toks) (fun b o hb e=>eb b o hb e) f0 f1 f3 f4 f5⟩
 self:=fun _ _ _ _ _ st h=>wpAny_pyIter_listiter st h
theorem nB{K:PySem.W.Frag}(a it:Addr):Turn P w K tg (Itt K a) [it] it (fun i h=>h.IsTupleIter it a i) where
 mem:=by simp
 obj:=fun i h st b hb=>by
  have e:b=it:=by simpa using hb
  subst e;obtain⟨o,e,c,d⟩:=st;exact⟨o,e,fun v z=>by rw[d]at z;cases z⟩
 keep:=fun i h h' st k=>st.at fun o e=>k it (by simp) o e
 item:=by
  intro X hP hw hK hc i pins s σ H E I hf st hg;subst hP hw hK;obtain⟨xs,x,hq,hx⟩:=hg;obtain⟨its,rv,p,hz⟩:=I.tuple hq;obtain⟨u,hu,ru⟩:=rv.get hx;obtain⟨f0,f1,f2,f3,f4,f5⟩:=hf it (by simp);refine wpAny_pyNext_tuple_item st (show s.heap.IsTuple a its.toArray from p) (x:=u) (by simpa using hu) fun h' st' sb=>?_;have I1:Inv X pins σ H { s with heap:=h' }:=I.turned (t':=s.toks) (fun b o hb e=>(sb.2 b hb).trans e) f0 f1 f3 f4 f5;obtain⟨o,e,c,d⟩:=id st';exact⟨u,rfl,sO (s:={ s with heap:=h' }) e c d (by decide) ⟨x,H,I1,ru,⟨rfl,fun ys hy=>by rw[I.tuple_inj hy hq];exact hx⟩,st',fun b hb=>(hf b hb).1⟩⟩
 done:=by
  intro X hP hw hK hc i pins s σ H E I hf st hg;subst hP hw hK;obtain⟨xs,hq,hx⟩:=hg;obtain⟨its,rv,p,hz⟩:=I.tuple hq;obtain⟨f0,f1,f2,f3,f4,f5⟩:=hf it (by simp);have hl:=rv.length;exact wpAny_pyNext_tuple_end (I.ok.hd hc) st (show s.heap.IsTuple a its.toArray from p) (by simp;omega) fun h' eb=>⟨rfl,I.turned (t':=s.toks) (fun b o hb e=>eb b o hb e) f0 f1 f3 f4 f5⟩
 self:=fun _ _ _ _ _ st h=>wpAny_pyIter_tupleiter st h
theorem mn{K:PySem.W.Frag}(it:Addr)(lo:Int)(n:Nat):Turn P w K tg (Itr lo n) [it] it (fun i h=>IsRangeIter h it (lo+(i:Nat)*1) ((n:Int) - (i:Nat)) 1) where
 mem:=by simp
 obj:=fun i h st b hb=>by
  have e:b=it:=by simpa using hb
  subst e;exact⟨_,st,fun v z=>by
   have z':Data.fields _=Data.cell v:=z;cases z'⟩
 keep:=fun i h h' st k=>k it (by simp) _ st
 item:=by
  intro X hP hw hK hc i pins s σ H E I hf st hg;subst hP hw hK;obtain⟨f0,f1,f2,f3,f4,f5⟩:=hf it (by simp);have W:=Walks.range (prog:=X.prog) (w:=X.w) (I.ok.hd hc) it lo 1 n;refine W.item i s _ _ hg st fun v h' tk hv st' kk=>?_;obtain⟨t,rfl⟩:=hv;have I1:Inv X pins σ H { s with heap:=h',toks:=tk }:=I.turned (fun b o hb e=>kk b o (by simpa using hb) e) f0 f1 f3 f4 f5;refine⟨_,rfl,sO (s:={ s with heap:=h',toks:=tk }) (n:="range_iterator") st' rfl rfl (by decide) ⟨.int (lo+i),H,I1,⟨t,?_⟩,⟨rfl,rfl⟩,st',fun b hb=>(hf b hb).1⟩⟩;rw[Int.mul_one]
 done:=by
  intro X hP hw hK hc i pins s σ H E I hf st hg;subst hP hw hK;obtain⟨f0,f1,f2,f3,f4,f5⟩:=hf it (by simp);exact wpAny_pyNext_range_end (I.ok.hd hc) st (by have:n≤i:=hg;omega) fun h' eb=>⟨rfl,I.turned (t':=s.toks) (fun b o hb e=>eb b o hb e) f0 f1 f3 f4 f5⟩
 self:=fun _ _ _ _ _ st h=>wpAny_pyIter_rangeiter st h
end
section
section
variable {X:Cx}{tg:Expr}
theorem uS{σ:St}{lo hi:Int}(I:Inv X pins σ H s)(h1:-(2 ^ 62)≤lo)(h2:lo<2 ^ 62)(h3:-(2 ^ 62)≤hi)(h4:hi<2 ^ 62)
  (q:R (Itr lo (hi - lo).toNat) H):wpAny (model X.prog X.w) X.A (pyIter (.ref s.heap.objs.size)) (PIE X pins σ tg R) E { s with heap:=s.heap.push { cls:=.type "range",data:=.fields #[.int lo t,.int hi u,.int 1 v] },toks:=tk }:=by
 refine wpAny_pyIter_range (IsRange.new ..) (small_one h1 h2 h3 h4) ?_;have I1:Inv X pins σ H { s with heap:=s.heap.push { cls:=.type "range",data:=.fields #[.int lo t,.int hi u,.int 1 v] },toks:=tk }:=I.kept fun b o e=>ET _ e;refine⟨(s.heap.push { cls:=.type "range",data:=.fields #[.int lo t,.int hi u,.int 1 v] }).objs.size,[(s.heap.push { cls:=.type "range",data:=.fields #[.int lo t,.int hi u,.int 1 v] }).objs.size],_,_,H,rfl,
  I1.kept (t':=tk) fun b o e=>ET _ e,mn _ lo (hi - lo).toNat,?_,fun b hb=>?_,q⟩
 ·have e1:lo+((0:Nat):Int)*1=lo:=by simp
  have e2:(((hi - lo).toNat:Nat):Int) - ((0:Nat):Int)=Builtin.Range.rangeSize lo hi 1:=by rw[rangeSize_one];split<;>omega
  show IsRangeIter _ _ (lo+((0:Nat):Int)*1) ((((hi - lo).toNat:Nat):Int) - ((0:Nat):Int)) 1;rw[e1,e2];exact E9 _ rfl
 ·have e:b=(s.heap.push { cls:=.type "range",data:=.fields #[.int lo t,.int hi u,.int 1 v] }).objs.size:=by simpa using hb
  subst e;exact I1.fpOk (E2 _) (I1.hok.fresh (E2 _))
def AG(ta:TA):TI:=fun σ H R=>ta σ H fun vs H1=>∃j:Int,vs=[.int j]/\-(2 ^ 62)≤j/\j<2 ^ 62/\R (Itr 0 j.toNat) H1
theorem q0{a:Expr}{ta:TA}{p pos:Pos}(hg:Gl X "range")(hm:X.mg "range"=none)(ha:PA X [a] ta)(hs:starEach [a] X.env=[(false,eval a X.env)]:=by rfl):PI X tg (.Call (.Name "range" p) [a] [] pos) (AG ta):=by
 intro pins s σ H R I h;refine Call_ (gg I hg hm boot_range (PyProof.Rows.callWith_type1 (thn (ha pos pins s σ H _ I h) fun us s1 ⟨vs,H1,I1,r1,q1⟩=>?_) hs rfl));obtain⟨j,e,q1,q2,q⟩:=q1;subst e;cases r1 with
 | cons r rr =>
  cases rr;obtain⟨t,rfl⟩:=r;exact call_range_1 (uS I1 (by omega) (by omega) q1 q2 (by simpa using q))
def CY(wi:TI)(g:TG)(tb:TS):TS:=fun D σ H=>wi σ H fun J H1=>∃W:Nat->Nat->St->Hp->Prop,(∃m,W 0 m σ H1)/\∀i m σ H,W i m σ H ->
 (J.stop i H/\D.nx σ H)∨(J.go i H/\∃N:St->Hp->Prop,(∀σ' H',N σ' H'->∃m',m'<m/\W (i+1) m' σ' H')/\∀x H',J.yld i H x H'->g x σ H' fun σ2 H2=>tb { D with nx:=N,ct:=N,bk:=D.nx } σ2 H2)
def iE(fp:List Addr)(h:Heap):List (Addr×Obj):=fp.filterMap fun b=>(h.get? b).map fun o=>(b,o)
theorem dN(hb:b∈fp)(e:h.get? b=some o):(b,o)∈iE fp h:=List.mem_filterMap.mpr ⟨b,hb,by rw[e];rfl⟩
theorem qX(hp:p∈iE fp h):p.1∈fp/\h.get? p.1=some p.2:=by
 obtain⟨b,hb,e⟩:=List.mem_filterMap.mp hp;cases q:h.get? b with
 | none=>rw[q]at e;cases e
 | some o =>
  rw[q]at e;have e':(b,o)=p:=Fn e;subst e';exact⟨hb,q⟩
theorem Inv.pinned{σ:St}(I:Inv X pins σ H s)(hf:∀b∈fp,fZ X pins H b)(ho:∀b∈fp,∃o,s.heap.get? b=some o/\∀v,o.data≠.cell v):Inv X (pins++iE fp s.heap) σ H s :=
 I.pins_of fun p hp=>(Fu.mp hp).elim (fun z=>I.pin p (Ff _ z)) fun z=>by
  obtain⟨hb,e⟩:=qX z;obtain⟨f0,f1,f2,_⟩:=hf p.1 hb;obtain⟨o,e',d⟩:=ho p.1 hb;rw[e]at e';cases e';exact⟨e,f0,f1,f2,d⟩
theorem Inv.unpinned{σ:St}(I:Inv X (pins++pl) σ H s):Inv X pins σ H s:=I.pins_of fun p hp=>I.pin p (Ff _ (Fy _ hp))
theorem ze{iter:Expr}{body:List Stmt}{wi:TI}{g:TG}{tb:TS}{pos:Pos}(hp:PassesOwn (model X.prog X.w) X.A X.env X.xe)(hc:X.calm=true)(hi:PI X tg iter wi)(hg:PG X tg g)(hb:PSs X body tb)
  (hs:∀x,foldedSetIterable iter X.env x=pure x:=by intro _;rfl):PS X (.For tg iter body [] pos) (CY wi g tb):=by
 intro pins s σ H D I h;refine wpAny_For (thn (hi pins s σ H _ I h) fun v s1 h1=>thn h1 fun itv s2 h2=>?_) hs;obtain⟨it,fp,tn,J,H2,e,I2,T,st2,f2,W,⟨m0,w0⟩,turn⟩:=h2;subst e;have stat:∀{H':Hp},(∀b∈fp,H' b=none)->∀b∈fp,fZ X pins H' b:=fun hn b hb=>⟨hn b hb,(f2 b hb).2⟩;refine codeAny_forLoop_any (fun n s'=>∃i σ' H',Inv X pins σ' H' s'/\tn i s'.heap/\(∀b∈fp,H' b=none)/\W i n σ' H') ?_ m0 ⟨0,σ,H2,I2,st2,fun b hb=>(f2 b hb).1,w0⟩;rintro n s3 ⟨i,σ3,H3,I3,st3,fr3,w3⟩;rcases turn i n σ3 H3 w3 with⟨stop,qn⟩ |⟨go,N,hN,step⟩
 ·refine GA hp (thn (T.done X rfl rfl rfl hc i pins s3 σ3 H3 X.xe I3 (stat fr3) st3 stop) fun r s4 y_=>?_);obtain⟨hr,I4⟩:=y_;subst hr;exact wpAny_execs_nil ⟨σ3,H3,I4,qn⟩
 ·refine GA hp (thn (T.item X rfl rfl rfl hc i pins s3 σ3 H3 X.xe I3 (stat fr3) st3 go) fun r s4 y_=>?_);obtain⟨u,hr,h4⟩:=y_;subst hr;refine GA hp (thn h4 fun _ s5 y_=>?_);obtain⟨x,H5,I5,r5,y5,st5,fr5⟩:=y_;have I5':=I5.pinned (stat fr5) (T.obj _ _ st5);refine GA hp (thn (hg _ s5 σ3 H5 x u _ I5' r5 (step x H5 y5)) fun _ s6 y_=>?_);obtain⟨σ6,H6,I6,q6⟩:=y_;refine GA hp (thn (hb _ s6 σ6 H6 _ I6 q6) fun f s7 q7=>?_);have again:∀{σ7:St} {H7:Hp},Inv X (pins++iE fp s5.heap) σ7 H7 s7->N σ7 H7->∃m,m<n/\∃i σ' H',Inv X pins σ' H' s7/\tn i s7.heap/\(∀b∈fp,H' b=none)/\W i m σ' H':=fun {σ7 H7} I7 n7=>by
   obtain⟨m',hm,w7⟩:=hN σ7 H7 n7;refine⟨m',hm,i+1,σ7,H7,I7.unpinned,T.keep _ _ _ st5 fun b hb o e=>(I7.pin (b,o) (Ff _ (Ff _ (dN hb e)))).1,fun b hb=>?_,w7⟩;obtain⟨o,e,d⟩:=T.obj _ _ st5 b hb;exact(I7.pin (b,o) (Ff _ (Ff _ (dN hb e)))).2.1
  cases f with
  | next=>obtain⟨σ7,H7,I7,n7⟩:=q7;exact again I7 n7
  | cont=>obtain⟨σ7,H7,I7,n7⟩:=q7;exact again I7 n7
  | brk=>obtain⟨σ7,H7,I7,q7⟩:=q7;exact⟨σ7,H7,I7.unpinned,q7⟩
  | ret v=>obtain⟨x7,σ7,H7,I7,r7,q7⟩:=q7;exact⟨x7,σ7,H7,I7.unpinned,r7,q7⟩
end
theorem iz{c:TT}{tb:TS}{D:Ends}{σ:St}{H:Hp}(Pv:St->Hp->Prop)(μ:St->Hp->Nat)(h0:Pv σ H)
  (hs:∀σ H,Pv σ H->c σ H fun b H1=>if b=true then tb { D with nx:=fun σ' H'=>Pv σ' H'/\μ σ' H'<μ σ H,ct:=fun σ' H'=>Pv σ' H'/\μ σ' H'<μ σ H,bk:=D.nx } σ H1 else D.nx σ H1)
  (mono:∀σ H Q Q',(∀b H1,Q b H1->Q' b H1)->c σ H Q->c σ H Q'):tQ c tb D σ H:=by
 refine⟨fun m σ H=>m=μ σ H/\Pv σ H,⟨_,rfl,h0⟩,?_⟩;rintro m σ H ⟨rfl,p⟩;refine mono σ H _ _ (fun b H1 q=>?_) (hs σ H p);cases b with
 | true=>exact⟨_,fun σ' H' y_=>by obtain⟨p',l⟩:=y_;exact ⟨_,l,rfl,p'⟩,q⟩
 | false=>exact q
end
section
abbrev R2:=V->V->Hp->VK->Prop
def OpR(X:Cx)(f:Value->Value->Sem Value)(r:R2):Prop :=
 ∀(pins:List (Addr×Obj)) (s:Shared) (σ:St) (H:Hp) (x y:V) (v u:Value) (Q:VK),Inv X pins σ H s->RelV x v->RelV y u->r x y H Q ->
  wpAny (model X.prog X.w) X.A (f v u) (EP X pins σ Q) X.xe s
def UnR(X:Cx)(f:Value->Sem Value)(r:V->Hp->VK->Prop):Prop :=
 ∀(pins:List (Addr×Obj)) (s:Shared) (σ:St) (H:Hp) (x:V) (v:Value) (Q:VK),Inv X pins σ H s->RelV x v->r x H Q ->
  wpAny (model X.prog X.w) X.A (f v) (EP X pins σ Q) X.xe s
def cU(X:Cx)(f:Value)(r:List V->Hp->VK->Prop):Prop :=
 ∀(pins:List (Addr×Obj)) (s:Shared) (σ:St) (H:Hp) (xs:List V) (us:List Value) (Q:VK),Inv X pins σ H s->Vals xs us->r xs H Q ->
  wpAny (model X.prog X.w) X.A (call f us) (EP X pins σ Q) X.xe s
def tOp(r:R2)(ta tb:TE):TE:=fun σ H Q=>ta σ H fun x H1=>tb σ H1 fun y H2=>r x y H2 Q
def tUn(r:V->Hp->VK->Prop)(ta:TE):TE:=fun σ H Q=>ta σ H fun x H1=>r x H1 Q
def rI(C:Int->Int->Prop)(g:Int->Int->V):R2:=fun x y H Q=>∃i j,x=.int i/\y=.int j/\C i j/\Q (g i j) H
def rI0(g:Int->Int->V):R2:=fun x y H Q=>∃i j,x=.int i/\y=.int j/\Q (g i j) H
def rU(g:Int->V):V->Hp->VK->Prop:=fun x H Q=>∃i,x=.int i/\Q (g i) H
section
variable {X:Cx}{a b c:Expr}{ta tb tc:TE}{pos:Pos}
theorem yi(ha:PE X a ta)(hb:PE X b tb){pins:List (Addr×Obj)}{s:Shared}{σ:St}{H:Hp}{R:V->V->Hp->Prop}(I:Inv X pins σ H s)
  (h:ta σ H fun x H1=>tb σ H1 fun y H2=>R x y H2) {Q:Value->Shared->Prop} {f:Value->Value->Sem Value}
  (hf:∀v u s2 x y H2,Inv X pins σ H2 s2->RelV x v->RelV y u->R x y H2->wpAny (model X.prog X.w) X.A (f v u) Q X.xe s2) :
  wpAny (model X.prog X.w) X.A (eval a X.env) (fun v s₁=>wpAny (model X.prog X.w) X.A (eval b X.env) (fun u s₂=>wpAny (model X.prog X.w) X.A (f v u) Q X.xe s₂) X.xe s₁) X.xe s:=by
 refine thn (ha pins s σ H _ I h) fun v s1 y_=>?_;obtain⟨x,H1,I1,r1,q1⟩:=y_;refine thn (hb pins s1 σ H1 _ I1 q1) fun u s2 y_=>?_;obtain⟨y,H2,I2,r2,q2⟩:=y_;exact hf v u s2 x y H2 I2 r1 r2 q2
theorem CF(ho:OpR X (binaryOp op) r)(ha:PE X a ta)(hb:PE X b tb):PE X (.BinOp a op b pos) (tOp r ta tb):=by
 intro pins s σ H Q I h;exact wpAny_BinOp (yi ha hb I h fun v u s2 x y H2 I2 rx ry q=>ho pins s2 σ H2 x y v u Q I2 rx ry q)
theorem BB(ho:UnR X (unaryOp op) r)(ha:PE X a ta):PE X (.UnaryOp op a pos) (tUn r ta):=by
 intro pins s σ H Q I h;exact UnaryOp_ (thn (ha pins s σ H _ I h) fun v s1 y_=>by obtain⟨x,H1,I1,r1,q1⟩:=y_;exact ho pins s1 σ H1 x v Q I1 r1 q1)
theorem opI{g:Int->Int->Int}
  (rule:∀(i j:Int) (t u:Tok) (s:Shared) (Q:Value->Shared->Prop) (E:Value->Shared->Prop),C i j->Q (.int (g i j) s.toks) { s with toks:=s.toks+1 }->wpAny (model X.prog X.w) X.A (f (.int i t) (.int j u)) Q E s) :
  OpR X f (rI C fun i j=>.int (g i j)):=by
 intro pins s σ H x y v u Q I rx ry h;obtain⟨i,j,rfl,rfl,hc,q⟩:=h;obtain⟨t,rfl⟩:=rx;obtain⟨t',rfl⟩:=ry;exact rule i j t t' s _ _ hc ⟨.int (g i j),H,I.tok _,⟨_,rfl⟩,q⟩
theorem BO{g:Int->Int->Int}
  (rule:∀(i j:Int) (t u:Tok) (s:Shared) (Q:Value->Shared->Prop) (E:Value->Shared->Prop),Q (.int (g i j) s.toks) { s with toks:=s.toks+1 }->wpAny (model X.prog X.w) X.A (f (.int i t) (.int j u)) Q E s) :
  OpR X f (rI0 fun i j=>.int (g i j)):=by
 intro pins s σ H x y v u Q I rx ry h;obtain⟨i,j,rfl,rfl,q⟩:=h;obtain⟨t,rfl⟩:=rx;obtain⟨t',rfl⟩:=ry;exact rule i j t t' s _ _ ⟨.int (g i j),H,I.tok _,⟨_,rfl⟩,q⟩
theorem qR{g:Int->Int->Bool}
  (rule:∀(i j:Int) (t u:Tok) (s:Shared) (Q:Value->Shared->Prop) (E:Value->Shared->Prop),Q (.bool (g i j)) s->wpAny (model X.prog X.w) X.A (f (.int i t) (.int j u)) Q E s) :
  OpR X f (rI0 fun i j=>.bl (g i j)):=by
 intro pins s σ H x y v u Q I rx ry h;obtain⟨i,j,rfl,rfl,q⟩:=h;obtain⟨t,rfl⟩:=rx;obtain⟨t',rfl⟩:=ry;exact rule i j t t' s _ _ ⟨.bl (g i j),H,I,rfl,q⟩
def xf(i j:Int):Prop:=0≤j/\j≤1000000/\i.natAbs<2 ^ 64
def zC(i j:Int):Prop:=(-(2 ^ 64)<i/\i<2 ^ 64)∨(-(2 ^ 64)<j/\j<2 ^ 64)
theorem zC.ok(h:zC i j):IntMulOk i j:=by
 rcases h with⟨h1,h2⟩ |⟨h1,h2⟩
 ·exact .of_left (intBits_le_64 h1 h2)
 ·exact .of_right (intBits_le_64 h1 h2)
theorem za:OpR X (binaryOp .Add) (rI0 fun i j=>.int (i+j)):=BO fun _ _ _ _ _ _ _ q=>add_int q
theorem Az:OpR X (binaryOp .Sub) (rI0 fun i j=>.int (i - j)):=BO fun _ _ _ _ _ _ _ q=>sub_int q
theorem vo:OpR X (binaryOp .Mod) (rI (fun _ j=>j≠0) fun i j=>.int (i.fmod j)):=opI fun _ _ _ _ _ _ _ hc q=>mod_int' hc q
theorem Aq:OpR X (binaryOp .Pow) (rI xf fun i j=>.int (i ^ j.toNat)):=opI fun _ _ _ _ _ _ _ hc q=>pow_int_small hc.1 hc.2.1 hc.2.2 q
theorem y9:OpR X (binaryOp .LShift) (rI xf fun i j=>.int (i*2 ^ j.toNat)):=opI fun _ _ _ _ _ _ _ hc q=>lshift_int_small hc.1 hc.2.1 hc.2.2 q
theorem unI{g:Int->Int}
  (rule:∀(i:Int) (t:Tok) (s:Shared) (Q:Value->Shared->Prop) (E:Value->Shared->Prop),Q (.int (g i) s.toks) { s with toks:=s.toks+1 }->wpAny (model X.prog X.w) X.A (f (.int i t)) Q E s) :
  UnR X f (rU fun i=>.int (g i)):=by
 intro pins s σ H x v Q I rx h;obtain⟨i,rfl,q⟩:=h;obtain⟨t,rfl⟩:=rx;exact rule i t s _ _ ⟨.int (g i),H,I.tok _,⟨_,rfl⟩,q⟩
theorem zg:UnR X (unaryOp .USub) (rU fun i=>.int (-i)):=unI fun _ _ _ _ _ q=>neg_int q
end
section
variable {X:Cx}{a b c:Expr}{ta tb tc:TE}{pos:Pos}
theorem fO:OpR X (compareOp .Lt) (rI0 fun i j=>.bl (decide (i<j))):=qR fun _ _ _ _ _ _ _ q=>lt_int q
theorem jk:OpR X (compareOp .LtE) (rI0 fun i j=>.bl (decide (i≤j))):=qR fun _ _ _ _ _ _ _ q=>le_int q
theorem lS:OpR X (compareOp .Gt) (rI0 fun i j=>.bl (decide (j<i))):=qR fun _ _ _ _ _ _ _ q=>gt_int q
theorem sY:OpR X (compareOp .GtE) (rI0 fun i j=>.bl (decide (j≤i))):=qR fun _ _ _ _ _ _ _ q=>ge_int q
theorem aH(b:Expr){op:CmpOp}(h:op≠.In:=by decide)(h2:op≠.NotIn:=by decide):behindInMarks op b=false:=by
 have e1:(op==CmpOp.In)=false:=by cases op<;>first | rfl | exact absurd rfl h
 have e2:(op==CmpOp.NotIn)=false:=by cases op<;>first | rfl | exact absurd rfl h2
 cases b<;>simp[behindInMarks,e1,e2]
theorem wZ(ho:OpR X (compareOp op) r)(ha:PE X a ta)(hb:PE X b tb)(hm:behindInMarks op b=false):PE X (.Compare a [op] [b] pos) (tOp r ta tb):=by
 intro pins s σ H Q I h;exact wpAny_Compare1 (yi ha hb I h fun v u s2 x y H2 I2 rx ry q=>ho pins s2 σ H2 x y v u Q I2 rx ry q) hm
def xC(t:TE):TT:=fun σ H Q=>t σ H fun x H'=>∃k,x=.bl k/\Q k H'
theorem wq(ho:OpR X (compareOp op) r)(ha:PE X a ta)(hb:PE X b tb)(hm:behindInMarks op b=false):PT X (.Compare a [op] [b] pos) (xC (tOp r ta tb)):=by
 intro pins s σ H Q I h;refine wpAny_isTrue_Compare1 (thn (ha pins s σ H _ I h) fun v s1 ⟨x,H1,I1,r1,q1⟩=>thn (hb pins s1 σ H1 _ I1 q1) fun u s2 ⟨y,H2,I2,r2,q2⟩ =>
  thn (ho pins s2 σ H2 x y v u _ I2 r1 r2 q2) fun c s3 ⟨z,H3,I3,r3,k,e,q3⟩=>?_) hm
 subst e;cases r3;exact F2 ⟨H3,I3,q3⟩
def tR(r r':R2)(ta tb tc:TE):TE:=fun σ H Q=>ta σ H fun x H1=>tb σ H1 fun y H2=>r x y H2 fun z H3=>∃k,z=.bl k /\
 (if k=true then tc σ H3 fun w' H4=>r' y w' H4 Q else Q (.bl false) H3)
theorem tL{op op':CmpOp}{r r':R2}(ho:OpR X (compareOp op) r)(ho':OpR X (compareOp op') r')(ha:PE X a ta)(hb:PE X b tb)(hc:PE X c tc)
  (hm:lastMarks [op,op'] [b,c]=false:=by with_unfolding_all rfl):PE X (.Compare a [op,op'] [b,c] pos) (tR r r' ta tb tc):=by
 intro pins s σ H Q I h;refine Compare_chain (thn (ha pins s σ H _ I h) fun v s1 ⟨x,H1,I1,r1,q1⟩=>chain_link (thn (hb pins s1 σ H1 _ I1 q1) fun u s2 ⟨y,H2,I2,r2,q2⟩ =>
  thn (ho pins s2 σ H2 x y v u _ I2 r1 r2 q2) fun d s3 ⟨z,H3,I3,r3,k,e,q3⟩=>?_)) hm
 subst e;cases r3;refine F2 ?_;cases k with
 | false=>exact ite_ff ⟨.bl false,H3,I3,rfl,q3⟩
 | true=>exact ite_tt (chain_last (thn (hc pins s3 σ H3 _ I3 q3) fun w' s4 y_=>by obtain⟨z',H4,I4,r4,q4⟩:=y_;exact ho' pins s4 σ H4 y z' u w' Q I4 r2 r4 q4))
theorem jZ:(sizeLine:Nat)<2 ^ 63:=by rw[Gg];decide
theorem vals1(r:Vals [x] us):∃u,us=[u]/\RelV x u:=by
 cases r with
 | cons r1 r2=>cases r2;exact⟨_,rfl,r1⟩
theorem vals2(r:Vals [x,y] us):∃u w',us=[u,w']/\RelV x u/\RelV y w':=by
 cases r with
 | cons r1 r2 =>
  cases r2 with
  | cons r3 r4=>cases r4;exact⟨_,_,rfl,r1,r3⟩
theorem iD:cU X (.builtin "abs") (fun xs H Q=>∃i,xs=[.int i]/\Q (.int (if i<0 then -i else i)) H):=by
 intro pins s σ H xs us Q I r h;obtain⟨i,rfl,q⟩:=h;obtain⟨u,rfl,t,rfl⟩:=vals1 r;exact call_abs_int fun u tk=>⟨.int (if i<0 then -i else i),H,I.tok _,⟨_,rfl⟩,q⟩
theorem pZ(hc:X.calm=true):cU X (.builtin "min") (fun xs H Q=>∃i j,xs=[.int i,.int j]/\Q (.int (if j<i then j else i)) H):=by
 intro pins s σ H xs us Q I r h;obtain⟨i,j,rfl,q⟩:=h;obtain⟨u,w',rfl,⟨t,rfl⟩,⟨t',rfl⟩⟩:=vals2 r;refine min_two_ints (I.ok.hd hc) fun h' tk k=>⟨_,H,I.kept k,?_,q⟩;by_cases hj:j<i
 ·rw[Fq hj,Fq hj];exact⟨_,rfl⟩
 ·rw[Fo hj,Fo hj];exact⟨_,rfl⟩
theorem jd:cU X (.type "int") (fun xs H Q=>(∃i,xs=[.int i]/\Q (.int i) H)∨∃k,xs=[.bl k]/\Q (.int (if k then 1 else 0)) H):=by
 intro pins s σ H xs us Q I r h;rcases h with⟨i,rfl,q⟩ |⟨k,rfl,q⟩
 ·obtain⟨u,rfl,t,rfl⟩:=vals1 r;exact call_int_int ⟨.int i,H,I,⟨_,rfl⟩,q⟩
 ·obtain⟨u,rfl,r1⟩:=vals1 r;cases r1;exact call_int_bool ⟨.int (if k then 1 else 0),H,I.tok _,⟨_,rfl⟩,q⟩
end
end
section
structure mT (h:Heap) (x dx C:Addr) (mA:Str→Option Value):Prop where
 obj:h.get? x=some (PySem.W.instObj C dx)
 ns:h.Ns1 dx mA
 ne:dx≠x
theorem qH{h:Heap}(n:h.Ns1 dx mA):∃od,h.get? dx=some od/\∀name,PySem.W.lookIn name od=some (mA name):=by
 obtain⟨o,es,ep,ho,hd,hk,_,hm⟩:=n;refine⟨o,ho,fun name=>?_⟩;have e:=hm name;unfold nsFind findBy at e;rw[←Array.find?_toList]at e;unfold PySem.W.lookIn;rw[hd];dsimp only;split
 ·rename_i y q;rw[q]at e;exact congrArg some e
 ·rename_i q;rw[q]at e;have a:es.toList.any (·.refKey)=false:=by
   rw[List.any_eq_false];intro y hy;obtain⟨z,t,hkey⟩:=hk y (Array.mem_toList_iff.mp hy);simp[DictEntry.refKey,hkey]
  have a':¬es.toList.any (·.refKey)=true:=by rw[a];exact F6
  rw[Fo a'];exact congrArg some e
theorem mT.look(I:mT h x dx C mA):∃od,PySem.W.InstAt h x (PySem.W.instObj C dx) C (some od)/\∀name,PySem.W.lookIn name od=some (mA name) :=
 let ⟨od,ho,hl⟩:=qH I.ns
 ⟨od,⟨I.obj,rfl,rfl,ho⟩,hl⟩
section
variable {prog:Program}{w:World}{A:Around}{E:Value->Shared->Prop}{s:Shared}{K:PySem.W.Frag}{x dx C f:Addr}{mA:Str->Option Value}{name:Str}{v:Value}
theorem get_map(X:K.In s.heap)(I:mT s.heap x dx C mA)(hg:PySem.W.plainGet K C name=true)(hh:PySem.W.hasDictIn K C=true)
  (ha:PySem.W.findIn K (.ref C) name=some none) (hv:mA name=some v) (hv':PySem.W.handedIn v=true) (h:Q v { s with toks:=s.toks+1 }) :
  wpAny (model prog w) A (getAttr (.ref x) name expr) Q E s:=by
 obtain⟨od,J,hl⟩:=I.look;exact PySem.W.get_value X J (PySem.W.plainGet_of hg).1 (PySem.W.findObj_own hh ha rfl (by rw[hl,hv])) hv' h
theorem si(X:K.In s.heap)(I:mT s.heap x dx C mA)(hg:PySem.W.plainGet K C name=true)
  (hf:PySem.W.findIn K (.ref C) name=some (some (.ref f))) (ht:PySem.W.isFn K (.ref f)=true) (hv:mA name=none) (h:Q (.ref f,[.ref x]) s) :
  wpAny (model prog w) A (getMethod (.ref x) name pl) Q E s:=by
 obtain⟨od,J,hl⟩:=I.look;exact PySem.W.method_fn X J (PySem.W.plainGet_of hg).1 (PySem.W.plainGet_of hg).2 hf (Gd.mp ht) (by show(PySem.W.lookIn name od).map (·.isSome)=some false;rw[hl,hv];rfl) h
theorem vB(X:K.In s.heap)(I:mT s.heap x dx C mA)
  (hs:PySem.W.findIn K (.ref C) "__setattr__"=some (some (.builtin "object.__setattr__"))) (hp:PySem.W.plainOver K C=true) (ht:PySem.W.takerIn K C name=some none) (hh:PySem.W.hasDictIn K C=true)
  (hw:PySem.Within mA ns) (hsz:ns.length≤sizeLine)
  (h:∀h',mT h' x dx C (fun y=>if y=name then some v else mA y)->Heap.SameBut dx s.heap h'->Q () { s with heap:=h',toks:=s.toks+2 }) :
  wpAny (model prog w) A (setAttr (.ref x) name v) Q E s:=by
 obtain⟨od,J,hl⟩:=I.look;refine PySem.W.set_plain X J hs (PySem.W.osa_open (s:={ s with toks:=s.toks+1 }) (r:=none) X J hp ht fun b=>?_);obtain⟨cd,hc,hd'⟩:=PySem.W.any_some hh;have hx:s.heap.get? x=some ⟨.ref C,some dx,.plain,#[]⟩:=I.obj;refine ES (E4 (ES (ES (wpAny_loadPart hx (ES (PySem.W.Looks.here (s:={ s with toks:=s.toks+1 }) (PySem.W.looks_clsIn X hc) ?_))))));rw[hd'];refine E4 (a:=some dx) (ES (E4 (ES ?_)));refine wpAny_nsSet1 (s:={ s with toks:=s.toks+1 }) I.ns fun h' hn2 hs2=>?_;obtain⟨oD,esD,epD,hoD,hdD,hcD⟩:=hn2.count (PySem.Within.cons name v hw);refine ES (wpAny_lookBehind hoD (by rw[hdD];exact pastItsLine_dict (Gx hcD (by rw[EU];omega))) ?_);exact E4 (h _ ⟨(hs2.2 _ (Ne.symm I.ne)).trans I.obj,hn2,I.ne⟩ hs2)
theorem lP(X:K.In s.heap)(hm:PySem.W.makesIn K C=true)
  (hi:PySem.W.findIn K (.ref C) "__init__"=some (some (.ref f))) (hf:PySem.W.typeIn K (.ref f)=some (.type "function"))
  (h:codeAny (model prog w) (A.under (.builtin "type.__call__" ⟨.ref C::vs,kw⟩)) (.call (.ref f) ⟨.ref (s.heap.objs.size+1)::vs,kw⟩) (PySem.W.InitBack (s.heap.objs.size+1) R)
   { s with heap:=(s.heap.push PySem.W.emptyDict).push (PySem.W.instObj C s.heap.objs.size) }) :
  codeAny (model prog w) A (.call (.ref C) ⟨vs,kw⟩) R s:=by
 obtain⟨hh,g,d,t,os⟩:=s;exact PySem.W.make_core (PySem.W.makes_of X hm) (PySem.W.looks_findIn X hi) (fun self=>PySem.W.bind_fn X self hf) (.inl rfl) h
end
def dI(f:Str)(v:V):List (Str×V)->List (Str×V)
 | []=>[(f,v)]
 |(g,x)::r=>if g=f then(g,v)::r else(g,x)::dI f v r
theorem gM(f g:Str)(v:V):∀fs:List (Str×V),(dI f v fs).lookup g=if g=f then some v else fs.lookup g
 | []=>by
  show List.lookup g [(f,v)]=_;by_cases h:g=f
  ·have hb:(g==f)=true:=Gd.mpr h;simp only[List.lookup,hb,Fq h]
  ·have hb:(g==f)=false:=beq_eq_false_iff_ne.mpr h;simp only[List.lookup,hb,Fo h]
 |(k,x)::r=>by
  have ih:=gM f g v r;rw[show dI f v ((k,x)::r)=(if k=f then(k,v)::r else(k,x)::dI f v r)from rfl];by_cases hk:k=f
  ·rw[Fq hk];by_cases h:g=k
   ·have hb:(g==k)=true:=Gd.mpr h;simp only[List.lookup,hb,Fq (h.trans hk)]
   ·have hb:(g==k)=false:=beq_eq_false_iff_ne.mpr h;simp only[List.lookup,hb,Fo (fun e:g=f=>h (e.trans hk.symm))]
  ·rw[Fo hk];by_cases h:g=k
   ·have hb:(g==k)=true:=Gd.mpr h;simp only[List.lookup,hb,Fo (fun e:g=f=>hk (h.symm.trans e))]
   ·have hb:(g==k)=false:=beq_eq_false_iff_ne.mpr h;simp only[List.lookup,hb];exact ih
theorem gm(f:Str)(v:V):∀fs:List (Str×V),f∈(dI f v fs).map (·.1)/\∀g,g∈fs.map (·.1)->g∈(dI f v fs).map (·.1)
 | []=>⟨by simp[dI],fun g h=>by simp at h⟩
 |(k,x)::r=>by
  obtain⟨i1,i2⟩:=gm f v r;rw[show dI f v ((k,x)::r)=(if k=f then(k,v)::r else(k,x)::dI f v r)from rfl];by_cases hk:k=f
  ·rw[Fq hk];subst hk;exact⟨by simp,fun g h=>by simpa using h⟩
  ·rw[Fo hk];refine⟨?_,fun g h=>?_⟩
   ·rw[Fp];exact EY _ i1
   ·rw[Fp]at h ⊢;rcases Fd.mp h with e | e
    ·exact Fd.mpr (.inl e)
    ·exact EY _ (i2 g e)
theorem gN(f:Str)(v:V):∀fs:List (Str×V),(dI f v fs).length≤fs.length+1
 | []=>by simp[dI]
 |(k,x)::r=>by
  have ih:=gN f v r;rw[show dI f v ((k,x)::r)=(if k=f then(k,v)::r else(k,x)::dI f v r)from rfl];by_cases hk:k=f
  ·rw[Fq hk,EU,EU];omega
  ·rw[Fo hk,EU,EU];omega
theorem iZ.some_of(r:iZ (some v) o):∃u,o=some u/\RelV v u:=by
 cases o with
 | none=>exact(show False from r).elim
 | some u=>exact⟨u,rfl,r⟩
theorem iZ.none_of(r:iZ none o):o=none:=by
 cases o with
 | none=>rfl
 | some u=>exact(show False from r).elim
theorem pW(r:RelV v u):PySem.W.handedIn u=true:=by
 cases v with
 | non=>cases (show u=Value.none from r);rfl
 | bl b=>cases (show u=Value.bool b from r);rfl
 | int i=>obtain⟨t,e⟩:=(show ∃t,u=Value.int i t from r);cases e;rfl
 | str x=>obtain⟨t,e⟩:=(show ∃t,u=Value.str x t from r);cases e;rfl
 | byt b=>obtain⟨t,e⟩:=(show ∃t,u=Value.bytes b t from r);cases e;rfl
 | flt b=>obtain⟨t,e⟩:=(show ∃t,u=Value.float b t from r);cases e;rfl
 | ref a=>cases (show u=Value.ref a from r);rfl
 | ty n=>cases (show u=Value.type n from r);rfl
section
variable {P:Program}{w:World}{H H':Hp}{h h':Heap}{a C dx:Addr}{fs fs':List (Str×V)}
theorem kg(hok:HOk P w H h)(e:H a=some (.ins C dx fs)):∃mA,mT h a dx C mA/\(∀f,iZ (fs.lookup f) (mA f))/\PySem.Within mA (fs.map (·.1))/\fs.length≤1000/\H dx=some (.own a):=by
 obtain⟨d,z,ne,ob,mA,n,r,q⟩:=(show cB P w H h a (.ins C dx fs)from hok a _ e);exact⟨mA,⟨ob,n,ne⟩,r,q,z,d⟩
end
structure Cls (K:PySem.W.Frag) (C:Addr):Prop where
 pg:PySem.W.plainGet K C Str.empty=true
 hd:PySem.W.hasDictIn K C=true
 po:PySem.W.plainOver K C=true
 sa:PySem.W.findIn K (.ref C) "__setattr__"=some (some (.builtin "object.__setattr__"))
theorem Cls.get{K:PySem.W.Frag}{C:Addr}(c:Cls K C)(f:Str):PySem.W.plainGet K C f=true:=c.pg
def cq(K:PySem.W.Frag)(C:Addr)(f:Str):Prop:=PySem.W.findIn K (.ref C) f=some none
theorem cq.taker{K:PySem.W.Frag}(n:cq K C f):PySem.W.takerIn K C f=some none:=by
 unfold PySem.W.takerIn;rw[show PySem.W.findIn K (.ref C) f=some none from n];rfl
structure Meth (K:PySem.W.Frag) (C:Addr) (m:Str) (f:Addr):Prop where
 at_:PySem.W.findIn K (.ref C) m=some (some (.ref f))
 fn:PySem.W.isFn K (.ref f)=true
 kp:PySem.W.keepIn K (.ref f)=true
section
variable {X:Cx}{pins:List (Addr×Obj)}{σ:St}{H:Hp}{s:Shared}{a C dx:Addr}{fs:List (Str×V)}{f:Str}{v:V}{A:Around}{E:Value->Shared->Prop}
theorem mq(I:Inv X pins σ H s)(e:H a=some (.ins C dx fs))(c:Cls X.K C)(n:cq X.K C f)(l:fs.lookup f=some v)
  (h:∀u s',Inv X pins σ H s'->RelV v u->Q u s'):wpAny (model X.prog X.w) A (getAttr (.ref a) f b) Q E s:=by
 obtain⟨mA,O,r,_,_,_⟩:=kg I.hok e;obtain⟨u,hu,ru⟩:=iZ.some_of (v:=v) (o:=mA f) (by rw[←l];exact r f);exact get_map I.kIn O (c.get f) c.hd n hu (pW ru) (h u _ (I.tok _) ru)
theorem iA(I:Inv X pins σ H s)(e:H a=some (.ins C dx fs))(c:Cls X.K C)(k:Meth X.K C m g)(l:fs.lookup m=none)
  (h:Q (.ref g,[.ref a]) s):wpAny (model X.prog X.w) A (getMethod (.ref a) m pl) Q E s:=by
 obtain⟨mA,O,r,_,_,_⟩:=kg I.hok e;have hn:mA m=none:=iZ.none_of (by rw[←l];exact r m);exact si I.kIn O (c.get m) k.at_ k.fn hn h
theorem mM(I:Inv X pins σ H s)(e:H a=some (.ins C dx fs))(c:Cls X.K C)(n:cq X.K C f)(hl:fs.length<1000)(ry:RelV y u)
  (h:∀s',Inv X pins σ (upd H a (.ins C dx (dI f y fs))) s'->Q () s'):wpAny (model X.prog X.w) A (setAttr (.ref a) f u) Q E s:=by
 obtain⟨mA,O,r,wi,_,ho⟩:=kg I.hok e;have hz:(fs.map (·.1)).length≤sizeLine:=by rw[EM,Gg];omega
 refine vB I.kIn O c.sa c.po n.taker c.hd wi hz fun h' O' sb=>h _ ?_;have hd:∃o,h'.get? dx=some o:=let ⟨o,_,_,e',_⟩:=O'.ns;⟨o,e'⟩
 refine I.write (x:=a) (e:=dx) (by rw[e];exact True.intro) (.inr ho) (fun b q hb z=>(sb.2 b hb).trans z) hd ?_;refine⟨by rw[aJ O.ne];exact ho,?_,O.ne,O'.obj,_,O'.ns,fun g=>?_,fun g hg=>?_⟩
 ·have:=gN f y fs;omega
 ·show iZ ((dI f y fs).lookup g) (if g=f then some u else mA g);rw[gM];by_cases q:g=f
  ·rw[Fq q,Fq q];exact ry
  ·rw[Fo q,Fo q];exact r g
 ·by_cases q:g=f
  ·rw[q];exact(gm f y fs).1
  ·refine(gm f y fs).2 g (wi g fun z=>hg ?_);show(if g=f then some u else mA g)=none;rw[Fo q];exact z
theorem Inv.made(I:Inv X pins σ H s):Inv X pins σ (upd (upd H s.heap.objs.size (.own (s.heap.objs.size+1))) (s.heap.objs.size+1) (.ins C s.heap.objs.size []))
  { s with heap:=(s.heap.push PySem.W.emptyDict).push (PySem.W.instObj C s.heap.objs.size) }:=by
 have e1:(s.heap.push PySem.W.emptyDict).get? s.heap.objs.size=some PySem.W.emptyDict:=E9 s.heap rfl;have e2:((s.heap.push PySem.W.emptyDict).push (PySem.W.instObj C s.heap.objs.size)).get? (s.heap.objs.size+1)=some (PySem.W.instObj C s.heap.objs.size):=by
  have:=E9 (s.heap.push PySem.W.emptyDict) (o:=PySem.W.instObj C s.heap.objs.size) rfl
  rwa [F4]at this
 have e3:(s.heap.push PySem.W.emptyDict).Ns s.heap.objs.size (fun _=>none):=⟨PySem.W.emptyDict,#[],_,e1,rfl,(fun e he=>absurd he (by simp)),fun _=>rfl⟩;have I1:=I.laid (a:=s.heap.objs.size) (o:=.own (s.heap.objs.size+1)) (h':=s.heap.push PySem.W.emptyDict) (t':=s.toks) (fun b u q=>ET _ q) (E2 _) ⟨_,e1⟩;refine I1.laid (a:=s.heap.objs.size+1) (o:=.ins C s.heap.objs.size []) (t':=s.toks) (fun b u q=>ET _ q) (Nat.le_of_eq (F4 _ _)) ?_;have ne:s.heap.objs.size≠s.heap.objs.size+1:=Fe (Nat.lt_succ_self _);refine⟨by rw[aJ ne,bC],FP _,ne,e2,fun _=>none,(Heap.Ns1.of_empty e3).at fun o q=>ET _ q,fun _=>True.intro,fun y hy=>absurd rfl hy⟩
theorem vJ(hb:attributeBase e f env (eval e env)=eval e env)
  (h:wpAny (model prog w) A (eval e env) (fun o s₁=>wpAny (model prog w) A (getAttr o f true) Q E s₁) E s):wpAny (model prog w) A (eval (.Attribute e f pos) env) Q E s :=
 Attribute_any_ h (by rw[arm_eval_Attribute,hb])
end
def DG(K:PySem.W.Frag)(ta:TE)(f:Str):TE:=fun σ H Q=>ta σ H fun x H1=>∃a C dx fs v,x=.ref a/\H1 a=some (.ins C dx fs)/\Cls K C/\cq K C f/\fs.lookup f=some v/\Q v H1
def DW(K:PySem.W.Frag)(ta tv:TE)(f:Str):TS:=fun D σ H=>tv σ H fun y H1=>ta σ H1 fun x H2=>∃a C dx fs,x=.ref a/\H2 a=some (.ins C dx fs)/\Cls K C/\cq K C f/\fs.length<1000 /\
 D.nx σ (upd H2 a (.ins C dx (dI f y fs)))
section
variable {X:Cx}{o e value:Expr}{f:Str}{pos pos' tpos:Pos}{ta tv:TE}
theorem zH(he:PE X e ta)(hb:attributeBase e f X.env (eval e X.env)=eval e X.env):PE X (.Attribute e f pos) (DG X.K ta f):=by
 intro pins s σ H Q I h;refine vJ hb (thn (he pins s σ H _ I h) fun u s1 y_=>?_);obtain⟨x,H1,I1,rx,a,C,dx,fs,v,ex,ea,c,n,l,q⟩:=y_;subst ex;obtain rfl:u=Value.ref a:=rx;exact mq I1 ea c n l fun u' s2 I2 ru=>⟨v,H1,I2,ru,q⟩
theorem Ao(ha:PE X o ta)(hv:PE X value tv)(hs:swapsWith value (some (.Attribute o f pos')) pos.line X.env=pure false):PS X (.Assign [.Attribute o f pos'] value pos) (DW X.K ta tv f):=by
 intro pins s σ H D I h;refine plainObj_wpAny_Assign_Attribute (thn (hv pins s σ H _ I h) fun u s1 ⟨y,H1,I1,ry,q⟩=>thn (ha pins s1 σ H1 _ I1 q) fun ov s2 ⟨x,H2,I2,rx,a,C,dx,fs,ex,ea,c,n,l,q2⟩=>?_) hs;subst ex;obtain rfl:ov=Value.ref a:=rx;exact mM I2 ea c n l ry fun s3 I3=>⟨σ,_,I3,q2⟩
theorem xy{σ:St}(he:PE X e te)(I:Inv X pins σ H s)
  (h:te σ H fun x H1=>∃a C dx fs g,x=.ref a/\H1 a=some (.ins C dx fs)/\Cls X.K C/\Meth X.K C m g/\fs.lookup m=none /\
   ∀s1,Inv X pins σ H1 s1->wpAny (model X.prog X.w) X.A (callWith pos (.ref g) [.ref a] (backTo pos (starEach args X.env)) (backToKw pos (keywordEach [] X.env))) Q X.xe s1)
  (ht:eval (.Call (.Attribute e m apos) args [] pos) X.env=(do
   let ov←eval e X.env
   standAt apos.atName
   let (f,first)←holding [ov] (getMethod ov m pl)
   callWith pos f first (backTo pos (starEach args X.env)) (backToKw pos (keywordEach [] X.env)))) :
  wpAny (model X.prog X.w) X.A (eval (.Call (.Attribute e m apos) args [] pos) X.env) Q X.xe s:=by
 refine PySem.W.methodCall_KW (pl:=pl) (thn (he pins s σ H _ I h) fun u s1 ⟨x,H1,I1,rx,a,C,dx,fs,g,ex,ea,c,k,l,q⟩=>?_) ht;subst ex;obtain rfl:u=Value.ref a:=rx;exact iA I1 ea c k l (q s1 I1)
end
section
variable {X:Cx}{pins:List (Addr×Obj)}{σ:St}{H:Hp}{s:Shared}{A:Around}{E:Value->Shared->Prop}{Q:Value->Shared->Prop}{c:Value}{b:Bool}
end
end
section
structure cv (k:Nat) (A:Around):Prop where
 hd:A.handled=none
 dp:A.depth+3*k+5<recursionLimit
 un:A.units+16*k+200<cLine
theorem cv.mono(r:cv k A)(h:j≤k):cv j A:=⟨r.hd,by have:=r.dp;omega,by have:=r.un;omega⟩
theorem cv.deeper(r:cv (k+1) A)(env:Env):cv k (A.deeper env) :=
 ⟨r.hd,by have:=r.dp;show A.depth+1+3*k+5<_;omega,by have:=r.un;show A.units+3+16*k+200<_;omega⟩
theorem m7{A:Around}:(A.under (.builtin "type.__call__" ⟨.ref C::us,kw⟩)).depth=A.depth+1:=by
 first | rfl | simp[Around.under,Code.weight,Code.isCreation,Code.isGuard,Code.isCaller,Code.frames,Code.isFrame,guardIds]
theorem m9{A:Around}:(A.under (.builtin "type.__call__" ⟨.ref C::us,kw⟩)).units=A.units+1:=by
 first | rfl | simp[Around.under,Code.cUnits,Code.frames,Code.isFrame]
theorem cv.make(r:cv (k+1) A)(C:Addr)(us:List Value)(kw:List (Str×Value)):cv k (A.under (.builtin "type.__call__" ⟨.ref C::us,kw⟩)) :=
 ⟨r.hd,by have:=r.dp;rw[m7];omega,by have:=r.un;rw[m9];omega⟩
theorem cv.depth(r:cv k A):A.depth<recursionLimit:=by have:=r.dp;omega
theorem cv.units(r:cv k A):A.units+64<cLine:=by have:=r.un;omega
def BV:TA:=fun _ H Q=>Q [] H
def sZ(ta:TE)(tr:TA):TA:=fun σ H Q=>ta σ H fun x H1=>tr σ H1 fun xs H2=>Q (x::xs) H2
section
variable {X:Cx}{e:Expr}{es:List Expr}{te:TE}{t:TA}{pos:Pos}
theorem gf:PA X [] BV:=fun _ _ _ _ H Q I h=>Calls.spliced_nil ⟨[],H,I,.nil,h⟩
theorem dk(ha:PE X e te)(hr:PA X es t)(hs:starEach (e::es) X.env=(false,eval e X.env)::starEach es X.env:=by rfl):PA X (e::es) (sZ te t):=by
 intro pos pins s σ H Q I h;rw[hs];show wpAny _ _ (spliced ((false,eval e X.env)::backTo pos (starEach es X.env))) _ _ s;refine Calls.spliced_cons (thn (ha pins s σ H _ I h) fun u s1 y_=>?_);obtain⟨x,H1,I1,r1,q1⟩:=y_;exact thn (hr pos pins s1 σ H1 _ I1 q1) fun us s2 ⟨xs,H2,I2,r2,q2⟩=>⟨x::xs,H2,I2,.cons r1 r2,q2⟩
def Dd(t:TA):TE:=fun σ H Q=>t σ H fun xs H1=>xs.length≤sizeLine/\∀p,H1 p=none->Q (.ref p) (upd H1 p (.tup xs))
def EB(t:TA):TE:=fun σ H Q=>t σ H fun xs H1=>xs.length≤sizeLine/\∀p,H1 p=none->Q (.ref p) (upd H1 p (.lst xs))
theorem An(h:PA X es t):PE X (.Tuple es x1 pos) (Dd t):=by
 intro pins s σ H Q I hq;refine wpAny_Tuple_spliced (thn (h pos pins s σ H _ I hq) fun us s1 ⟨xs,H1,I1,r,z,q⟩=>⟨by rw[←r.length];exact z,?_⟩);have hf:H1 s1.heap.objs.size=none:=I1.hok.fresh (E2 _);refine⟨.ref s1.heap.objs.size,upd H1 s1.heap.objs.size (.tup xs),I1.laid (t':=s1.toks) (fun b u e=>ET _ e) (E2 _) ?_,rfl,q _ hf⟩;exact⟨z,us,r,⟨_,E9 _ rfl,rfl,_,rfl⟩⟩
theorem zL(h:PA X es t):PE X (.List es pos) (EB t):=by
 intro pins s σ H Q I hq;refine wpAny_List_spliced (thn (h pos pins s σ H _ I hq) fun us s1 ⟨xs,H1,I1,r,z,q⟩=>⟨by rw[←r.length];exact z,?_⟩);have hf:H1 s1.heap.objs.size=none:=I1.hok.fresh (E2 _);refine⟨.ref s1.heap.objs.size,upd H1 s1.heap.objs.size (.lst xs),I1.laid (t':=s1.toks) (fun b u e=>ET _ e) (E2 _) ?_,rfl,q _ hf⟩;exact⟨z,us,0,r,E9 _ rfl⟩
end
abbrev Sp:=List V->Hp->VK->XK->Prop
abbrev CXT:=List Env->Hp->Shared->XK->Value->Shared->Prop
structure nG (P:Program) (w:World) (K:PySem.W.Frag) (mg:Str→Option Value) (base:Heap) (A:Around) (outer:List Env) (s:Shared) (H:Hp):Prop where
 frames:A.frames=some outer
 mod:Mod K mg base
 bs:∀b o,base.get? b=some o->s.heap.get? b=some o/\H b=none
 bsz:base.objs.size≤s.heap.objs.size
 funs:s.heap.FunFrames base outer
 frf:∀b∈frs outer,H b=none
 hok:HOk P w H s.heap
 bare:AllBare s.gens
def CE(outer:List Env)(P:Program)(w:World)(H:Hp)(s:Shared)(Q:VK)(u:Value)(s':Shared):Prop :=
 ∃v H',s'.os=s.os/\AllBare s'.gens/\Un (frs outer) [] H H' s.heap s'.heap/\HOk P w H' s'.heap/\RelV v u/\Q v H'
def CR(CX:CXT)(outer:List Env)(P:Program)(w:World)(H:Hp)(s:Shared)(Q:VK)(E:XK)(r:Result)(s':Shared):Prop :=
 match r with
 | .ok (.ret u)=>CE outer P w H s Q u s'
 | .ok _=>False
 | .error e=>CX outer H s E e s'
structure fI (P:Program) (w:World) (K:PySem.W.Frag) (mg:Str→Option Value) (base:Heap) (CX:CXT) (k:Nat) (f:Addr) (fd:FuncData) (ps:List Str) (sp:Sp):Prop where
 len:∀vs H Q E,sp vs H Q E->vs.length=ps.length
 run:∀(A:Around) (outer:List Env) (s:Shared) (H:Hp) (args:Args) (us:List Value) (vs:List V) (Q:VK) (E:XK),cv k A->nG P w K mg base A outer s H->BindsTo s fd args (ps.zip us)->Vals vs us->sp vs H Q E ->
  codeAny (model P w) A (.call (.ref f) args) (CR CX outer P w H s Q E) s
theorem fI.imp{K:PySem.W.Frag}(F:fI P w K mg base CX k f fd ps sp)
  (h:∀vs H Q E,sp' vs H Q E->sp vs H Q E):fI P w K mg base CX k f fd ps sp' :=
 ⟨fun vs H Q E q=>F.len vs H Q E (h _ _ _ _ q),fun A outer s H args us vs Q E hr he hb hv hs=>F.run A outer s H args us vs Q E hr he hb hv (h _ _ _ _ hs)⟩
theorem nG.make{K:PySem.W.Frag}(e:nG P w K mg base A outer s H)(C:Addr)(us:List Value)(kw:List (Str×Value)) :
  nG P w K mg base (A.under (.builtin "type.__call__" ⟨.ref C::us,kw⟩)) outer s H:=⟨by first | exact e.frames |(simpa[Around.under,Code.envs,Code.isFrame,pushEnvs]using e.frames),e.mod,e.bs,e.bsz,e.funs,e.frf,e.hok,e.bare⟩
section
variable {X:Cx}{pins:List (Addr×Obj)}{σ:St}{H:Hp}{s s':Shared}
theorem Inv.env0(I:Inv X pins σ H s):nG X.prog X.w X.K X.mg X.base X.A X.stack s H :=
 ⟨I.ok.frames,I.ok.mod,I.bs,Gx I.ok.bsz I.sz,I.stack,I.stkFree,I.hok,I.bare⟩
theorem Inv.after(I:Inv X pins σ H s)(h:CE X.stack X.prog X.w H s Q u s'):EP X pins σ Q u s':=by
 obtain⟨v,H',os,bare,un,hok,r,q⟩:=h;obtain⟨hh,g,d,t,os'⟩:=s';obtain rfl:os'=s.os:=os;exact⟨v,H',I.call (h':=hh) (g':=g) (d':=d) (t':=t) (ch:=[]) un hok bare (fun b z=>absurd z (by simp)),r,q⟩
end
def xT(sp:Sp)(dvs:List V)(E:XK)(t:TA):TE:=fun σ H Q=>t σ H fun vs H1=>sp (vs++dvs) H1 Q E
def xF(C:Addr)(m:Str)(sp:Sp)(dvs:List V)(E:XK)(ta:TE)(t:TA):TE:=fun σ H Q=>ta σ H fun x H1=>∃a dx fs,x=.ref a/\H1 a=some (.ins C dx fs)/\fs.lookup m=none /\
 t σ H1 fun vs H2=>sp (x::(vs++dvs)) H2 Q E
def CI(C:Addr)(sp:Sp)(dvs:List V)(E:XK)(t:TA):TE:=fun σ H Q=>t σ H fun vs H1=>∀x dx,H1 x=none->H1 dx=none->dx≠x ->
 sp (.ref x::(vs++dvs)) (upd (upd H1 dx (.own x)) x (.ins C dx [])) (fun v H2=>v=.non/\Q (.ref x) H2) E
def Binds(K:PySem.W.Frag)(fd:FuncData)(ps:List Str)(ds:List Value):Prop :=
 ∀(s:Shared) (us:List Value),K.In s.heap->(us++ds).length=ps.length->BindsTo s fd ⟨us,[]⟩ (ps.zip (us++ds))
theorem Binds.all{K:PySem.W.Frag}(h:∀us:List Value,us.length=ps.length->bindArgs fd ⟨us,[]⟩=pure (ps.zip us)):Binds K fd ps []:=fun s us _ hl=>by
 rw[FH]at hl ⊢;exact .of_eq (h us hl)
def Passes(CX:CXT)(X:Cx)(E:XK):Prop:=∀(pins:List (Addr×Obj)) (σ:St) (H:Hp) (s:Shared) (e:Value) (s':Shared),Inv X pins σ H s->CX X.stack H s E e s'->X.xe e s'
section
variable {X:Cx}{CX:CXT}{k:Nat}{f C:Addr}{fd:FuncData}{ps:List Str}{sp:Sp}{dvs:List V}{ds:List Value}{E:XK}{x m:Str}{p pos apos:Pos}{e o:Expr}{es:List Expr}{ta:TE}{t:TA}
theorem tm{σ:St}(F:fI X.prog X.w X.K X.mg X.base CX k f fd ps sp)(hr:cv k X.A)(hb:Binds X.K fd ps ds)(hd:Vals dvs ds)(hx:Passes CX X E)
  (I:Inv X pins σ H s) (r:Vals vs us) (h:sp (vs++dvs) H Q E):wpAny (model X.prog X.w) X.A (call (.ref f) us) (EP X pins σ Q) X.xe s:=by
 have r2:Vals (vs++dvs) (us++ds):=r.append hd;have hl:(us++ds).length=ps.length:=by rw[←r2.length];exact F.len _ _ _ _ h
 refine wpAny_call (GG (F.run X.A X.stack s H ⟨us,[]⟩ (us++ds) (vs++dvs) Q E hr I.env0 (hb s us I.kIn hl) r2 h) fun r s' hq=>?_);cases r with
 | error e=>exact hx pins σ H s e s' I hq
 | ok fl =>
  cases fl with
  | ret u=>exact I.after hq
  | next=>exact False.elim hq
  | brk=>exact False.elim hq
  | cont=>exact False.elim hq
theorem wO(F:fI X.prog X.w X.K X.mg X.base CX k f fd ps sp)(hr:cv k X.A)(hg:Gl X x)(hm:X.mg x=some (.ref f))(hk:PySem.W.keepIn X.K (.ref f)=true)(hb:Binds X.K fd ps ds)(hd:Vals dvs ds)(hx:Passes CX X E)
  (ha:PA X (e::es) t) (hdb:(x==("__debug__":Str))=false:=by decide) (he:starEach (e::es) X.env=(false,eval e X.env)::starEach es X.env:=by rfl) (hpl:(backTo pos (starEach es X.env)).any (·.1)=false:=by rfl) :
  PE X (.Call (.Name x p) (e::es) [] pos) (xT sp dvs E t):=by
 intro pins s σ H Q I h;refine wpAny_Call_Name_kw (eQ I hg hm ?_ hdb);refine PySem.W.callWith_K (h₀:=X.base) I.ok.mod.kin hk (thn (ha pos pins s σ H _ I h) fun us s1 ⟨vs,H1,I1,r,q⟩=>⟨I1.kIn,?_⟩) he hpl;exact tm F hr hb hd hx I1 r q
theorem wa{pl:Sem Bool}(he:PE X o ta)(c:Cls X.K C)(hm:Meth X.K C m f)(F:fI X.prog X.w X.K X.mg X.base CX k f fd ps sp)(hr:cv k X.A)(hb:Binds X.K fd ps ds)(hd:Vals dvs ds)(hx:Passes CX X E)(ha:PA X (e::es) t)
  (hst:starEach (e::es) X.env=(false,eval e X.env)::starEach es X.env:=by rfl) (hpl:(backTo pos (starEach es X.env)).any (·.1)=false:=by rfl)
  (ht:eval (.Call (.Attribute o m apos) (e::es) [] pos) X.env=(do
   let ov←eval o X.env
   standAt apos.atName
   let (f,first)←holding [ov] (getMethod ov m pl)
   callWith pos f first (backTo pos (starEach (e::es) X.env)) (backToKw pos (keywordEach [] X.env))):=by rfl) :
  PE X (.Call (.Attribute o m apos) (e::es) [] pos) (xF C m sp dvs E ta t):=by
 intro pins s σ H Q I h;refine PySem.W.methodCall_KW (pl:=pl) (thn (he pins s σ H _ I h) fun u s1 ⟨x,H1,I1,rx,a,dx,fs,ex,ea,l,q⟩=>?_) ht;subst ex;obtain rfl:u=Value.ref a:=rx;refine iA I1 ea c hm l ?_;refine PySem.W.callWith_K (first:=[.ref a]) (h₀:=X.base) I.ok.mod.kin hm.kp (thn (ha pos pins s1 σ H1 _ I1 q) fun us s2 ⟨vs,H2,I2,r,q2⟩=>⟨I2.kIn,?_⟩) hst hpl;exact tm (us:=.ref a::us) (vs:=.ref a::vs) F hr hb hd hx I2 (.cons rfl r) q2
structure Mk (K:PySem.W.Frag) (C f:Addr):Prop where
 makes:PySem.W.makesIn K C=true
 init:PySem.W.findIn K (.ref C) "__init__"=some (some (.ref f))
 fn:PySem.W.isFn K (.ref f)=true
 kp:PySem.W.keepIn K (.ref C)=true
theorem tM{σ:St}(M:Mk X.K C f)(F:fI X.prog X.w X.K X.mg X.base CX k f fd ps sp)(hr:cv (k+1) X.A)(hb:Binds X.K fd ps ds)(hd:Vals dvs ds)
  (hx:Passes CX X E) (I:Inv X pins σ H s) (r:Vals vs us)
  (h:∀x dx,H x=none->H dx=none->dx≠x->sp (.ref x::(vs++dvs)) (upd (upd H dx (.own x)) x (.ins C dx [])) (fun v H2=>v=.non/\Q (.ref x) H2) E) :
  wpAny (model X.prog X.w) X.A (call (.ref C) us) (EP X pins σ Q) X.xe s:=by
 have hq:=h (s.heap.objs.size+1) s.heap.objs.size (I.hok.fresh (Nat.le_succ _)) (I.hok.fresh (E2 _)) (Fe (Nat.lt_succ_self _));have I2:=Inv.made (C:=C) I;have r2:Vals (V.ref (s.heap.objs.size+1)::(vs++dvs)) (Value.ref (s.heap.objs.size+1)::(us++ds)):=.cons rfl (r.append hd);have hl:(Value.ref (s.heap.objs.size+1)::us++ds).length=ps.length:=by
  have e:=r2.length;rw[F.len _ _ _ _ hq]at e;exact e.symm
 refine wpAny_call (lP (f:=f) I.kIn M.makes M.init (Gd.mp M.fn) (GG (F.run _ X.stack _ _ ⟨Value.ref (s.heap.objs.size+1)::us,[]⟩ (Value.ref (s.heap.objs.size+1)::(us++ds)) _ _ E (hr.make C us [])
  (I2.env0.make C us []) (hb _ (Value.ref (s.heap.objs.size+1)::us) I2.kIn hl) r2 hq) fun r s' hq'=>?_))
 cases r with
 | error e=>exact hx pins σ _ _ e s' I2 hq'
 | ok fl =>
  cases fl with
  | ret u =>
   obtain⟨v,H',I3,rv,ev,q3⟩:=I2.after hq';subst ev;exact⟨rv,⟨V.ref (s.heap.objs.size+1),H',I3,rfl,q3⟩⟩
  | next=>exact False.elim hq'
  | brk=>exact False.elim hq'
  | cont=>exact False.elim hq'
theorem wo(M:Mk X.K C f)(F:fI X.prog X.w X.K X.mg X.base CX k f fd ps sp)(hr:cv (k+1) X.A)(hg:Gl X x)(hm:X.mg x=some (.ref C))(hb:Binds X.K fd ps ds)(hd:Vals dvs ds)(hx:Passes CX X E)
  (ha:PA X (e::es) t) (hdb:(x==("__debug__":Str))=false:=by decide) (he:starEach (e::es) X.env=(false,eval e X.env)::starEach es X.env:=by rfl) (hpl:(backTo pos (starEach es X.env)).any (·.1)=false:=by rfl) :
  PE X (.Call (.Name x p) (e::es) [] pos) (CI C sp dvs E t):=by
 intro pins s σ H Q I h;refine wpAny_Call_Name_kw (eQ I hg hm ?_ hdb);refine PySem.W.callWith_K (h₀:=X.base) I.ok.mod.kin M.kp (thn (ha pos pins s σ H _ I h) fun us s1 ⟨vs,H1,I1,r,q⟩=>⟨I1.kIn,?_⟩) he hpl;exact tM M F hr hb hd hx I1 r q
end
section
variable {X:Cx}{CX:CXT}{k:Nat}{f C:Addr}{fd:FuncData}{ps ks:List Str}{sp:Sp}{E:XK}{x m:Str}{p pos apos kpos:Pos}{e o:Expr}{es:List Expr}{kws:List Keyword}{te ta:TE}{t tk:TA}{nm:Option Str}
variable {g:List Value->List Value->List Value}{gV:List V->List V->List V}
end
structure aG (N P:List Str) (sc:Scope):Prop where
 kind:sc.kind=.function
 co:sc.isCoroutine=false
 gen:sc.isGenerator=false
 nd:N.Nodup
 pre:N.take P.length=P
 par:∀x∈P,sc.names.lookup x=some .local∨sc.names.lookup x=some .cell
 nofree:∀y∈sc.names,y.2≠.free
theorem jh{kindOf:Str->Option NameKind}{x:Str}:∀{binds:List (Str×Value)} {m:Str->Option Value},(∀v,(x,v)∉binds)->bindL kindOf binds m x=m x
 | [],_,_=>rfl
 |(n,v)::r,m,h=>by
  unfold bindL;rw[jh fun w hw=>h w (EY _ hw)];split
  ·have:x≠n:=by rintro rfl;exact h v E1
   simp[this]
  ·rfl
theorem jf{kindOf:Str->Option NameKind}{x:Str}:∀{binds:List (Str×Value)} {m:Str->Option Value},(∀v,(x,v)∉binds)->bindC kindOf binds m x=m x
 | [],_,_=>rfl
 |(n,v)::r,m,h=>by
  unfold bindC;rw[jf fun w hw=>h w (EY _ hw)];split
  ·rfl
  ·have:x≠n:=by rintro rfl;exact h v E1
   simp[this]
theorem jD{kindOf:Str->Option NameKind}{x:Str}{v:Value}:∀{P:List Str} {vs:List Value} {i:Nat} {m:Str->Option Value},P.Nodup->P[i]?=some x->vs[i]?=some v->kindOf x=some .local ->
  bindL kindOf (P.zip vs) m x=some v
 | [],_,_,_,_,h,_,_=>by simp at h
 | _::_,[],_,_,_,_,h,_=>by simp at h
 | p::P,w::vs,0,m,nd,h1,h2,hk=>by
  simp at h1 h2;subst h1;subst h2;show bindL kindOf ((p,w)::P.zip vs) m p=_;unfold bindL;rw[jh fun v hv=>(List.nodup_cons.mp nd).1 (List.of_mem_zip hv).1,Fq hk];simp
 | p::P,w::vs,i+1,m,nd,h1,h2,hk=>by
  show bindL kindOf ((p,w)::P.zip vs) m x=_;unfold bindL;exact jD (i:=i) (List.nodup_cons.mp nd).2 (by simpa using h1) (by simpa using h2) hk
theorem jA{kindOf:Str->Option NameKind}{x:Str}{v:Value}:∀{P:List Str} {vs:List Value} {i:Nat} {m:Str->Option Value},P.Nodup->P[i]?=some x->vs[i]?=some v->kindOf x≠some .local ->
  bindC kindOf (P.zip vs) m x=some v
 | [],_,_,_,_,h,_,_=>by simp at h
 | _::_,[],_,_,_,_,h,_=>by simp at h
 | p::P,w::vs,0,m,nd,h1,h2,hk=>by
  simp at h1 h2;subst h1;subst h2;show bindC kindOf ((p,w)::P.zip vs) m p=_;unfold bindC;rw[jf fun v hv=>(List.nodup_cons.mp nd).1 (List.of_mem_zip hv).1,Fo hk];simp
 | p::P,w::vs,i+1,m,nd,h1,h2,hk=>by
  show bindC kindOf ((p,w)::P.zip vs) m x=_;unfold bindC;exact jA (i:=i) (List.nodup_cons.mp nd).2 (by simpa using h1) (by simpa using h2) hk
def start(N:List Str)(vs:List V):St:=vs.map some++List.replicate (N.length - vs.length) none
def j8(CX:CXT)(P:Program)(w:World)(K:PySem.W.Frag)(mg:Str->Option Value)(base:Heap)(N:List Str)(qual:Str)(scope:Scope)(f:Addr)(cd:Value)(A:Around)(outer:List Env)(s:Shared)(H:Hp)(E:XK):Cx where
 prog:=P
 w:=w
 K:=K
 mg:=mg
 base:=base
 A:=A.deeper (envOfC qual scope s.heap.objs.size f cd)
 N:=N
 s₀:=s
 H₀:=H
 env:=envOfC qual scope s.heap.objs.size f cd
 outer:=outer
 stack:=envOfC qual scope s.heap.objs.size f cd::outer
 ex:=[]
 calm:=true
 fn:=fun _=>true
 pn:=[]
 xe:=fun e s'=>wpAny (model P w) (A.deeper (envOfC qual scope s.heap.objs.size f cd)) (leaving (envOfC qual scope s.heap.objs.size f cd) e) (fun _ s''=>CX outer H s E e s'') (fun e' s''=>CX outer H s E e' s'') s'
theorem l9{sc:Scope}(h:sc.names.lookup x=some .cell):∃c,(cellsFrom n sc.names []).lookup x=some c:=by
 have q:=PySem.W.cellsFrom_some sc.names n [] (.inl h);exact Option.isSome_iff_exists.mp q
theorem pP{K:PySem.W.Frag}
  (S:aG N ps scope) (hd:A.handled=none) (e0:nG P w K mg base A outer s H) (hl:vs.length=ps.length) (r:Vals vs us)
  (x:InCallC s s.heap.objs.size (bindL (envOfC qual scope s.heap.objs.size f cd).kindOf (ps.zip us) fun _=>none) (cellsFrom (s.heap.objs.size+1) scope.names []) (bindC (envOfC qual scope s.heap.objs.size f cd).kindOf (ps.zip us) fun _=>none) s1) :
  Inv (j8 CX P w K mg base N qual scope f cd A outer s H E) [] (start N vs) H s1:=by
 have hpl:ps.length≤N.length:=by have:=congrArg List.length S.pre;rw[FT]at this;omega
 obtain⟨h1,tk,rfl,hk⟩:=x.done;have noA:∀b:Addr,b∉(j8 CX P w K mg base N qual scope f cd A outer s H E).ex:=fun b z=>absurd (show b∈([]:List Addr)from z) (by simp);refine⟨⟨e0.mod,S.kind,rfl,rfl,E2 _,fun y z c h1 h2=>?_,fun y hy=>?_,fun y c _ h=>?_,fun _=>hd,Around.frames_deeper e0.frames,.inr ⟨rfl,rfl⟩,fun b z=>absurd z (noA b),e0.bs,e0.bsz,fun b _ _=>noA b,fun b z=>absurd z (noA b),e0.funs,e0.frf⟩,
  rfl,e0.bare,Un.kept hk,⟨_,x.toInCall.ns,fun i y v h1 h2 h3=>?_⟩,fun y c h=>⟨_,x.cell y c h⟩,e0.hok.fresh (E2 _),fun y c h=>?_,fun p hp=>absurd (show p∈([]:List (Addr×Obj))from hp) (by simp),e0.hok.kept hk,?_⟩
 ·exact name_of_addr x.apart (PySem.mem_of_lookup h1) (PySem.mem_of_lookup h2)
 ·have hy:scope.names.lookup y=some .cell∨scope.names.lookup y=some .free:=hy;rcases hy with hy | hy
  ·exact l9 hy
  ·exact absurd rfl (S.nofree _ (PySem.mem_of_lookup hy))
 ·exact Nat.le_of_lt (x.above y c (PySem.mem_of_lookup h))
 ·have hi:i<vs.length:=by
   unfold start at h2;by_cases hi:i<vs.length
   ·exact hi
   ·rw[FI (by simpa using hi)]at h2;rw[List.getElem?_replicate]at h2;split at h2<;>cases h2
  have ha:vs[i]?=some v:=by
   unfold start at h2;rw[FJ (by simpa using hi),E7]at h2;cases e:vs[i]? with
   | none=>rw[e]at h2;cases h2
   | some a=>rw[e]at h2;cases h2;rfl
  obtain⟨u,hu,rv⟩:=r.get ha;have hp:ps[i]?=some y:=by
   rw[←S.pre,List.getElem?_take_of_lt (by omega)];exact h1
  have ndP:ps.Nodup:=by rw[←S.pre];exact S.nd.sublist (List.take_sublist _ _)
  refine⟨u,rv,?_⟩;rcases S.par y (EZ hp)with k | k
  ·exact .inl ⟨k,jD ndP hp hu k⟩
  ·obtain⟨c,e⟩:=l9 (n:=s.heap.objs.size+1) k;refine .inr ⟨.inl k,c,e,?_⟩;have q:=x.cell y c e;rw[jA ndP hp hu (by show scope.names.lookup y≠_;rw[k];decide)]at q;exact q
 ·exact e0.hok.fresh (Nat.le_of_lt (x.above y c (PySem.mem_of_lookup h)))
 ·unfold start;show _=N.length;rw[EX,EM,FL];omega
theorem xo{K:PySem.W.Frag}{dV kV doc pm cdv ct oc:Value}
     (lk:K.lookup f=some ⟨oc,od,.func (PySem.W.fnOf name qual params body scope dV kV doc pm an cdv ct),osl⟩) (hcd:PySem.W.codeIn K cdv qual=true) (S:aG N ps scope)
  (len:∀vs H Q E,sp vs H Q E->vs.length=ps.length)
  (hbody:∀(A:Around) (outer:List Env) (s:Shared) (H:Hp) (vs:List V) (Q:VK) (E:XK),cv k (A.deeper (envOfC qual scope s.heap.objs.size f cdv))->sp vs H Q E ->
   ∃t,PSs (j8 CX P w K mg base N qual scope f cdv A outer s H E) body t/\t { nx:=fun _ H'=>Q .non H',rt:=Q } (start N vs) H) :
  fI P w K mg base CX (k+1) f (PySem.W.fnOf name qual params body scope dV kV doc pm an cdv ct) ps sp:=by
 refine⟨len,fun A outer s H args us vs Q E hr e0 hb r hsp=>?_⟩;have hl:=len _ _ _ _ hsp;have KX:K.In s.heap:=e0.mod.kin.keeps fun b o e=>(e0.bs b o e).1;have lim:s.heap.NoLimit:=e0.mod.nolimit.keeps fun b o e=>(e0.bs b o e).1;have hkind:∀y∈ps.zip us,scope.names.lookup y.1=some .local∨(scope.names.lookup y.1=some .cell/\((cellsFrom (s.heap.objs.size+1) scope.names []).lookup y.1).isSome=true):=fun y_ hy=>by
  obtain⟨n,v⟩:=y_;rcases S.par n (List.of_mem_zip hy).1 with q | q
  ·exact .inl q
  ·exact .inr ⟨q,PySem.W.cellsFrom_some _ _ _ (.inl q)⟩
 refine codeAny_call_function hr.depth (KX _ _ lk) rfl S.co S.gen rfl (PySem.W.codeRec_of KX hcd) (hb _ _ _ _ ?_);refine wpAny_newFunctionEnv_cells S.kind hkind fun env he s1 x=>?_;subst he;refine⟨lim.keeps x.toInCall.keep,codeAny_func ?_⟩;obtain⟨t,ht,hq⟩:=hbody A outer s H vs Q E (hr.deeper _) hsp;have I:Inv (j8 CX P w K mg base N qual scope f cdv A outer s H E) [] (start N vs) H s1:=pP S hr.hd e0 hl r x;refine Gu (ht [] s1 (start N vs) H _ I hq) (fun fl s' hs=>?_) fun e s' hs=>hs;have fin:∀{σ':St} {H':Hp} {v:V} {u:Value},Inv (j8 CX P w K mg base N qual scope f cdv A outer s H E) [] σ' H' s'->RelV v u->Q v H'->CE outer P w H s Q u s' :=
  fun {σ' H' v u} J rv q=>⟨v,H',J.os,J.bare,J.base,J.hok,rv,q⟩
 cases fl with
 | ret u =>
  obtain⟨v,σ',H',J,rv,q⟩:=hs;exact fin J rv q
 | next =>
  obtain⟨σ',H',J,q⟩:=hs;exact fin (v:=V.non) (u:=Value.none) J rfl q
 | brk =>
  obtain⟨_,_,_,q⟩:=hs;exact False.elim q
 | cont =>
  obtain⟨_,_,_,q⟩:=hs;exact False.elim q
end
section
section
variable {X:Cx}{x:Str}{p pos:Pos}{e:Expr}{es:List Expr}{t:TA}{id T:String}{r:List V->Hp->VK->Prop}
def tCB(r:List V->Hp->VK->Prop)(t:TA):TE:=fun σ H Q=>t σ H fun vs H1=>r vs H1 Q
theorem fD(hc:cU X (.builtin id) r)(hg:Gl X x)(hm:X.mg x=none)(hv:bootBuiltins x=some (.builtin id))(ha:PA X (e::es) t)(hn:x≠"__name__":=by decide)(hdb:(x==("__debug__":Str))=false:=by decide)
  (he:starEach (e::es) X.env=(false,eval e X.env)::starEach es X.env:=by rfl) (hpl:(backTo pos (starEach es X.env)).any (·.1)=false:=by rfl):PE X (.Call (.Name x p) (e::es) [] pos) (tCB r t):=by
 intro pins s σ H Q I h;refine wpAny_Call_Name_kw (gg I hg hm hv ?_ hn hdb);exact PyProof.Rows.callWith_builtin1 (thn (ha pos pins s σ H _ I h) fun us s1 y_=>by obtain⟨vs,H1,I1,r1,q1⟩:=y_;exact hc pins s1 σ H1 vs us Q I1 r1 q1) he hpl
theorem jq(hc:cU X (.type T) r)(hg:Gl X x)(hm:X.mg x=none)(hv:bootBuiltins x=some (.type T))(ha:PA X (e::es) t)(hn:x≠"__name__":=by decide)(hdb:(x==("__debug__":Str))=false:=by decide)
  (he:starEach (e::es) X.env=(false,eval e X.env)::starEach es X.env:=by rfl) (hpl:(backTo pos (starEach es X.env)).any (·.1)=false:=by rfl):PE X (.Call (.Name x p) (e::es) [] pos) (tCB r t):=by
 intro pins s σ H Q I h;refine wpAny_Call_Name_kw (gg I hg hm hv ?_ hn hdb);exact PyProof.Rows.callWith_type1 (thn (ha pos pins s σ H _ I h) fun us s1 y_=>by obtain⟨vs,H1,I1,r1,q1⟩:=y_;exact hc pins s1 σ H1 vs us Q I1 r1 q1) he hpl
end
end
end L2
namespace HT
section
open PySem.SeqAt
open PySem.AutoSeq1 (wpAny_loadPart')
open PySem.MeetsSeq PySem.MeetsSeq2 PySem.MeetsSeq3
end
section
variable {prog:Program}{w:World}{A:Around}{E:Value->Shared->Prop}{s:Shared}
def sIx(n d:Nat):Option Int->Nat
 | none=>d
 | some v=>if v<0 then(v+(n:Int)).toNat else min v.toNat n
theorem rZ(n d:Nat):sIx n d none=d:=rfl
theorem nX(n d k:Nat):sIx n d (some (k:Int))=min k n:=by
 show(if (k:Int)<0 then((k:Int)+(n:Int)).toNat else min (k:Int).toNat n)=min k n;rw[Fo (by omega),FW]
theorem yg(n d:Nat)(hd:d≤n)(o:Option Int):sIx n d o≤n:=by
 cases o with
 | none=>exact hd
 | some v =>
  show(if v<0 then(v+(n:Int)).toNat else min v.toNat n)≤n;by_cases hv:v<0
  ·rw[Fq hv];omega
  ·rw[Fo hv];exact Nat.min_le_right _ _
theorem pF(v:Int)(n d:Nat):(if v<0 then max (v+(n:Int)) 0 else min v (n:Int))=((sIx n d (some v):Nat):Int):=by
 show(if v<0 then max (v+(n:Int)) 0 else min v (n:Int))=(((if v<0 then(v+(n:Int)).toNat else min v.toNat n):Nat):Int);by_cases hv:v<0
 ·simp only[Fq hv];omega
 ·simp only[Fo hv];omega
theorem nD(lo hi:Option Int)(n:Nat):Builtin.Slice.sliceAdjust lo hi 1 (n:Int)=(((sIx n 0 lo:Nat):Int),((sIx n n hi:Nat):Int)):=by
 have h1:¬((1:Int)<0):=by omega
 unfold Builtin.Slice.sliceAdjust;simp only[h1,if_false];refine Prod.ext ?_ ?_
 ·cases lo with
  | none=>rfl
  | some v=>exact pF v n 0
 ·cases hi with
  | none=>rfl
  | some v=>exact pF v n n
theorem nO(i j:Nat):Builtin.Slice.slicePlaces (i:Int) (j:Int) 1=j - i:=by
 unfold Builtin.Slice.slicePlaces;have h1:(1:Int)>0:=by omega
 simp only[h1,if_true,Int.ediv_one];split<;>omega
theorem ip(p:IsPart v o)(h:Q o s):wpAny (model prog w) A (Builtin.Slice.slicePartIndex v) Q E s:=by
 cases p with
 | none=>exact slicePart_none h
 | int i t=>exact slicePart_int h
theorem gA{sl:Addr}{vl vu:Value}{lo hi:Option Int}{n:Nat}(hs:s.heap.IsSliceOf sl vl vu .none)(pl:IsPart vl lo)(pu:IsPart vu hi)
  (h:Q (((sIx n 0 lo:Nat):Int),1,sIx n n hi - sIx n 0 lo) s):wpAny (model prog w) A (Builtin.Slice.sliceApplied (.ref sl) (pure (n:Int))) Q E s:=by
 obtain⟨os,hos,hcs,hds⟩:=id hs;unfold Builtin.Slice.sliceApplied Builtin.Slice.sliceFields;refine ES (ES (F3 hos hds (x:=vl) rfl (ES (F3 hos hds (x:=vu) rfl (ES (F3 hos hds (x:=.none) rfl (E4 ?_)))))));refine ES (slicePart_none ?_);show wpAny _ _ (if ((1:Int)==0)=true then _ else _) _ _ s;rw[Fo (by decide)];refine ES (ip pl (ES (ip pu (ES (E4 ?_)))));show wpAny _ _ (match Builtin.Slice.sliceAdjust lo hi 1 (n:Int)with |(lo,hi)=>pure (lo,(1:Int),Builtin.Slice.slicePlaces lo hi 1)) _ _ s;rw[nD lo hi n];show wpAny _ _ (pure (((sIx n 0 lo:Nat):Int),(1:Int),Builtin.Slice.slicePlaces ((sIx n 0 lo:Nat):Int) ((sIx n n hi:Nat):Int) 1)) _ _ s;rw[nO];exact E4 h
theorem rJ(xs:Array Value)(i k:Nat):((List.range k).filterMap fun(m:Nat)=>xs[((i:Int)+(m:Int)*1).toNat]?).toArray=((xs.toList.drop i).take k).toArray:=by
 have e:(fun(m:Nat)=>xs[((i:Int)+(m:Int)*1).toNat]?)=fun m=>xs[i+m]?:=by
  funext m;have:((i:Int)+(m:Int)*1).toNat=i+m:=by omega
  rw[this]
 rw[e];have:=pick_run xs i k;rw[List.filterMap_map]at this;have e2:((fun x=>xs[x]?) ∘ fun x=>i+x)=fun m=>xs[i+m]?:=rfl;rw[e2]at this;rw[this]
theorem fw{lo hi:Option Int}(ht:IsTup s.heap t items)(hs:s.heap.IsSliceOf sl vl vu .none)(pl:IsPart vl lo)(pu:IsPart vu hi)
  (hw:¬(sIx items.size 0 lo=0/\sIx items.size items.size hi=items.size))
  (h:Q (.ref s.heap.objs.size) { s with heap:=s.heap.push { cls:=.type "tuple",data:=.seq ((items.toList.drop (sIx items.size 0 lo)).take (sIx items.size items.size hi - sIx items.size 0 lo)).toArray } })
  (hsz:items.size≤sizeLine):wpAny (model prog w) A (getItem (.ref t) (.ref sl)) Q E s:=by
 have htake:sizeOk (.seq ((items.toList.drop (sIx items.size 0 lo)).take (sIx items.size items.size hi - sIx items.size 0 lo)).toArray):=by
  show((items.toList.drop (sIx items.size 0 lo)).take (sIx items.size items.size hi - sIx items.size 0 lo)).toArray.size≤sizeLine;rw[E6,FT,Gi,Gw];omega
 have hj:sIx items.size items.size hi≤items.size:=yg _ _ (E2 _) hi;obtain⟨os,hos,hcs,hds⟩:=id hs;have hTs:s.TypeIs (.ref sl) "slice":=⟨os,hos,hcs⟩;unfold getItem
 try with_reducible refine Gb ?_
 first | refine ES (E4 ?_) | skip
 refine ES (wpAny_sequenceKey ht.typeIs (by decide) ?_);refine ES (Gq (name:=Str.ofString "__getitem__") ht.typeIs PyProof.Rows.slot_tuple_getitem
  (wpAny_call_entry PyProof.Rows.slot_tuple_getitem ht.typeIs entry_tuple_getitem ?_ (args_tuple_getitem _ _)))
 show wpAny _ _ (Builtin.Tuple.tupleItemsOf (.ref t) >>= _) _ _ s;refine ES (tupleItemsOf_ ht ?_);refine ES (wpAny_typeOf hTs ?_);rw[Fq (by decide)];refine ES (gA hs pl pu ?_);have hno:¬((((sIx items.size 0 lo:Nat):Int)==0&&(1:Int)==1&&(sIx items.size items.size hi - sIx items.size 0 lo)==items.size)=true):=by
  intro q;rw[F8,F8]at q;have q1:((sIx items.size 0 lo:Nat):Int)=0:=eq_of_beq q.1.1;have q2:sIx items.size items.size hi - sIx items.size 0 lo=items.size:=eq_of_beq q.2;exact hw ⟨by omega,by omega⟩
 show wpAny _ _ (if (((sIx items.size 0 lo:Nat):Int)==0&&(1:Int)==1&&(sIx items.size items.size hi - sIx items.size 0 lo)==items.size)=true then _ else _) _ _ s;rw[Fo hno,rJ]
 first
  | exact ES (m:=Builtin.Tuple.tupleExact _) (Gr (E4 ⟨_,rfl,E4 h⟩) htake)
  | exact ES (m:=Builtin.Tuple.tupleExact _) (Gr (ES (E4 (E4 ⟨_,rfl,E4 h⟩))) htake)
  | exact ES (ES (m:=Builtin.Tuple.tupleExact _) (Gr (E4 (E4 ⟨_,rfl,E4 h⟩)) htake))
  | exact ES (ES (m:=Builtin.Tuple.tupleExact _) (Gr (E4 ⟨_,rfl,E4 h⟩) htake))
end
end HT
namespace L2
section
abbrev TO:=St->Hp->(Option Int->Hp->Prop)->Prop
def PO(X:Cx)(e:Option Expr)(t:TO):Prop :=
 ∀(pins:List (Addr×Obj)) (s:Shared) (σ:St) (H:Hp) (Q:Option Int->Hp->Prop),Inv X pins σ H s->t σ H Q ->
  wpAny (model X.prog X.w) X.A (evalPart e X.env) (fun u s'=>∃o H',Inv X pins σ H' s'/\IsPart u o/\Q o H') X.xe s
def wQ:TO:=fun _ H Q=>Q none H
def CN(t:TE):TO:=fun σ H Q=>t σ H fun x H1=>∃i,x=.int i/\Q (some i) H1
section
variable {X:Cx}{e:Expr}{te:TE}{lo hi:Option Expr}{tl th:TO}{pos p2:Pos}
theorem vh:PO X none wQ:=by
 intro pins s σ H Q I h;rw[evalPart_none];exact E4 ⟨none,H,I,.none,h⟩
theorem wx(h:PE X e te):PO X (some e) (CN te):=by
 intro pins s σ H Q I hw;rw[evalPart_some];refine thn (h pins s σ H _ I hw) fun u s1 y_=>?_;obtain⟨x,H1,I1,r1,q1⟩:=y_;obtain⟨i,rfl,q⟩:=q1;obtain⟨t,rfl⟩:=r1;exact⟨some i,H1,I1,.int i t,q⟩
def SlR(X:Cx)(r:V->Option Int->Option Int->Hp->VK->Prop):Prop :=
 ∀(pins:List (Addr×Obj)) (s:Shared) (σ:St) (H:Hp) (x:V) (v vl vu:Value) (lo hi:Option Int) (sl:Addr) (Q:VK),Inv X pins σ H s->RelV x v->s.heap.IsSliceOf sl vl vu .none->IsPart vl lo->IsPart vu hi->r x lo hi H Q ->
  ∃T id,typeLookup (.type T) "__getitem__"=pure (some (.builtin id))/\s.TypeIs v T/\wpAny (model X.prog X.w) X.A (getItem v (.ref sl)) (EP X pins σ Q) X.xe s
theorem SlR.or(h:SlR X r)(h':SlR X r'):SlR X (fun x lo hi H Q=>r x lo hi H Q∨r' x lo hi H Q):=by
 intro pins s σ H x v vl vu lo hi sl Q I rx hs pl pu q;rcases q with q | q
 ·exact h pins s σ H x v vl vu lo hi sl Q I rx hs pl pu q
 ·exact h' pins s σ H x v vl vu lo hi sl Q I rx hs pl pu q
def tSl(r:V->Option Int->Option Int->Hp->VK->Prop)(te:TE)(tl th:TO):TE:=fun σ H Q=>te σ H fun x H1=>tl σ H1 fun l H2=>th σ H2 fun u H3=>r x l u H3 Q
theorem uZ(hr:SlR X r)(he:PE X e te)(hl:PO X lo tl)(hu:PO X hi th):PE X (.Subscript e (.Slice lo hi none p2) pos) (tSl r te tl th):=by
 intro pins s σ H Q I h;refine Subscript_ (thn (he pins s σ H _ I h) fun v s1 y_=>?_);obtain⟨x,H1,I1,r1,q1⟩:=y_;refine wpAny_Slice (thn (hl pins s1 σ H1 _ I1 q1) fun vl s2 ⟨l,H2,I2,pl,q2⟩=>thn (hu pins s2 σ H2 _ I2 q2) fun vu s3 y_=>?_);obtain⟨u,H3,I3,pu,q3⟩:=y_;rw[evalPart_none];refine E4 ?_;have I4:Inv X pins σ H3 { s3 with heap:=s3.heap.push { cls:=.type "slice",data:=.fields #[vl,vu,.none] } }:=I3.kept (t':=s3.toks) fun b ob q=>ET _ q;obtain⟨T,id,hT,ht,hg⟩:=hr pins { s3 with heap:=s3.heap.push { cls:=.type "slice",data:=.fields #[vl,vu,.none] } } σ H3 x v vl vu l u s3.heap.objs.size Q I4 r1 (Heap.IsSliceOf.new ..) pl pu q3;show wpAny (model X.prog X.w) X.A (subscriptTail e (.Slice lo hi none p2) v (.ref s3.heap.objs.size)) (EP X pins σ Q) X.xe { s3 with heap:=s3.heap.push { cls:=.type "slice",data:=.fields #[vl,vu,.none] } };exact tail_any (ops:=[.ref s3.heap.objs.size,v]) ht hT hg (by with_unfolding_all rfl)
def l8(xs:List V)(lo hi:Option Int):List V:=(xs.drop (HT.sIx xs.length 0 lo)).take (HT.sIx xs.length xs.length hi - HT.sIx xs.length 0 lo)
theorem gL(xs:List V)(lo hi:Option Int):(l8 xs lo hi).length≤xs.length:=by
 unfold l8;rw[FT,Gi];omega
def Er(K:PySem.W.Frag):V->Option Int->Option Int->Hp->VK->Prop:=fun x lo hi H Q=>∃a xs,x=.ref a/\SqT K H a xs /\
 ¬(HT.sIx xs.length 0 lo=0/\HT.sIx xs.length xs.length hi=xs.length)/\∀p,H p=none->Q (.ref p) (upd H p (.tup (l8 xs lo hi)))
theorem Ai:SlR X (Er X.K):=by
 intro pins s σ H x v vl vu lo hi sl Q I rx hs pl pu h;obtain⟨a,xs,rfl,hx,hw,q⟩:=h;cases rx;obtain⟨its,r,ht,hz⟩:=I.tuple hx;have hlen:its.toArray.size=xs.length:=by rw[E6];exact r.length.symm
 refine⟨"tuple",_,PyProof.Rows.slot_tuple_getitem.lookup,ht.typeIs,?_⟩;refine HT.fw ht hs pl pu (by rw[hlen];exact hw) ?_ (by rw[hlen];exact hz);rw[hlen];refine⟨.ref s.heap.objs.size,_,I.laid (t':=s.toks) (o:=.tup (l8 xs lo hi)) (fun b ob q=>ET _ q) (E2 _) ?_,rfl,q _ (I.hok.fresh (E2 _))⟩;exact⟨Gx (gL xs lo hi) hz,_,(r.drop (HT.sIx xs.length 0 lo)).take (HT.sIx xs.length xs.length hi - HT.sIx xs.length 0 lo),IsTup.new _ _⟩
end
end
section
def ixN(n:Nat)(i:Int):Option Nat:=if 0≤i then(if i<n then some i.toNat else none)else if -(n:Int)≤i then some (i+n).toNat else none
def atI{α:Type}(xs:List α)(i:Int):Option α:=(ixN xs.length i).bind fun j=>xs[j]?
theorem pM(h:ixN n i=some j):seqIndex? i n=some j/\j<n/\-(n:Int)≤i/\i<n:=by
 unfold ixN at h;by_cases h0:0≤i
 ·rw[Fq h0]at h;by_cases h1:i<n
  ·rw[Fq h1]at h;have e:i.toNat=j:=Fn h;exact⟨by rw[seqIndex_of h0 h1,e],by omega,by omega,h1⟩
  ·rw[Fo h1]at h;cases h
 ·rw[Fo h0]at h;by_cases h1:-(n:Int)≤i
  ·rw[Fq h1]at h;have e:(i+n).toNat=j:=Fn h;exact⟨by rw[seqIndex_neg (by omega) h1,e],by omega,h1,by omega⟩
  ·rw[Fo h1]at h;cases h
theorem oH{xs:List α}{v:α}(h:atI xs i=some v):∃j,seqIndex? i xs.length=some j/\xs[j]?=some v/\j<xs.length/\-(xs.length:Int)≤i/\i<xs.length:=by
 unfold atI at h;cases e:ixN xs.length i with
 | none=>rw[e]at h;cases h
 | some j =>
  rw[e]at h;obtain⟨h1,h2,h3,h4⟩:=pM e;exact⟨j,h1,h,h2,h3,h4⟩
def px(b:Expr):Prop:=∀o i,subscripted b false o i=operate [o,i] (getItem o i)
def IxR(X:Cx)(r:R2):Prop :=
 ∀(value slice:Expr) (pins:List (Addr×Obj)) (s:Shared) (σ:St) (H:Hp) (x y:V) (v u:Value) (Q:VK),Inv X pins σ H s->RelV x v->RelV y u->r x y H Q ->
  subscripted slice false v u=operate [v,u] (getItem v u)->wpAny (model X.prog X.w) X.A (subscriptTail value slice v u) (EP X pins σ Q) X.xe s
def MtR(X:Cx)(id:String)(r:V->List V->Hp->VK->Prop):Prop :=
 ∀(pins:List (Addr×Obj)) (s:Shared) (σ:St) (H:Hp) (x:V) (xs:List V) (v:Value) (us:List Value) (Q:VK),Inv X pins σ H s->RelV x v->Vals xs us->r x xs H Q ->
  wpAny (model X.prog X.w) X.A (call (.builtin id) (v::us)) (EP X pins σ Q) X.xe s
section
variable {X:Cx}{a b:Expr}{ta tb:TE}{pos:Pos}
theorem IxR.or(h:IxR X r)(h':IxR X r'):IxR X (fun x y H Q=>r x y H Q∨r' x y H Q):=by
 intro value slice pins s σ H x y v u Q I rx ry q hs;rcases q with q | q
 ·exact h value slice pins s σ H x y v u Q I rx ry q hs
 ·exact h' value slice pins s σ H x y v u Q I rx ry q hs
theorem AV(hr:IxR X r)(ha:PE X a ta)(hb:PE X b tb)(hs:px b):PE X (.Subscript a b pos) (tOp r ta tb):=by
 intro pins s σ H Q I h;exact Subscript_ (yi ha hb I h fun v u s2 x y H2 I2 rx ry q=>hr a b pins s2 σ H2 x y v u Q I2 rx ry q (hs _ _))
def AB(K:PySem.W.Frag):R2:=fun x y H Q=>∃p xs i v,x=.ref p/\y=.int i/\SqL K H p xs/\atI xs i=some v/\Q v H
def yR(K:PySem.W.Frag):R2:=fun x y H Q=>∃p xs i v,x=.ref p/\y=.int i/\SqT K H p xs/\atI xs i=some v/\Q v H
theorem xj:IxR X (AB X.K):=by
 intro value slice pins s σ H x y v u Q I rx ry h hs;obtain⟨p,xs,i,z,rfl,rfl,hq,he,q⟩:=h;cases rx;obtain⟨t,rfl⟩:=ry;obtain⟨its,r,pl,hz⟩:=I.list hq;obtain⟨j,h1,h2,h3,h4,h5⟩:=oH he;obtain⟨w,ew,rw'⟩:=r.get h2;have hl:=r.length;have hn:=jZ;have fin:EP X pins σ Q w s:=⟨z,H,I,rw',q⟩;by_cases h0:0≤i
 ·have hj:i.toNat=j:=by
   rw[seqIndex_of h0 h5]at h1;exact Fn h1
  exact item_listR pl.isList h0 (by omega) (by rw[hj];simpa using ew) fin hs
 ·have hj:(i+(its.toArray.size:Int)).toNat=j:=by
   rw[seqIndex_neg (by omega) h4]at h1;rw[E6,← hl];exact Fn h1
  exact subscriptTail_builtinR (x:=w) pl.isList.typeIs slot_list_getitem.lookup
   (wpAny_getItem_list_neg (Q:=fun r s'=>r=w/\EP X pins σ Q r s') pl.isList (by omega) (by rw[E6]<;>omega) (by omega) (by rw[hj];simpa using ew) ⟨rfl,fin⟩) hs
theorem zS:IxR X (yR X.K):=by
 intro value slice pins s σ H x y v u Q I rx ry h hs;obtain⟨p,xs,i,z,rfl,rfl,hq,he,q⟩:=h;cases rx;obtain⟨t,rfl⟩:=ry;obtain⟨its,r,pl,hz⟩:=I.tuple hq;obtain⟨j,h1,h2,h3,h4,h5⟩:=oH he;obtain⟨w,ew,rw'⟩:=r.get h2;have hl:=r.length;have hn:=jZ;have fin:EP X pins σ Q w s:=⟨z,H,I,rw',q⟩;exact subscriptTail_builtinR (x:=w) pl.typeIs slot_tuple_getitem.lookup
  (getItem_tuple (j:=j) (Q:=fun r s'=>r=w/\EP X pins σ Q r s') pl (by omega) (by omega) (by rw[E6,← hl];exact h1) (by simpa using ew) ⟨rfl,fin⟩) hs
theorem nH(its:List Value)(n j:Nat)(u:Value):Obj.mapSeq (·.setIfInBounds j u) { cls:=.type "list",data:=.seq its.toArray n }={ cls:=.type "list",data:=.seq (its.set j u).toArray n }:=by
 simp[Obj.mapSeq]
theorem Inv.lst{σ:St}(I:Inv X pins σ H s)(h:H p=some (.lst xs)) :
  ∃(its:List Value) (n:Nat),Vals xs its/\s.heap.get? p=some { cls:=.type "list",data:=.seq its.toArray n }/\xs.length≤sizeLine:=by
 obtain⟨z,its,n,r,e⟩:=I.hok p _ h;exact⟨its,n,r,e,z⟩
theorem Inv.lstUpd{σ:St}{its its':List Value}(I:Inv X pins σ H s)(h:H p=some (.lst xs))
  (ho:s.heap.get? p=some { cls:=.type "list",data:=.seq its.toArray n }) (hf:f { cls:=.type "list",data:=.seq its.toArray n }={ cls:=.type "list",data:=.seq its'.toArray n' }) (r:Vals ys its') (hz:ys.length≤sizeLine) (t:Nat) :
  Inv X pins σ (upd H p (.lst ys)) { s with heap:=s.heap.update p f,toks:=t }:=by
 have e:(s.heap.update p f).get? p=some { cls:=.type "list",data:=.seq its'.toArray n' }:=by
  rw[Heap.get?_update_self f ho (by rw[hf]<;>rfl),hf]
 refine I.write (x:=p) (e:=p) (by rw[h];trivial) (.inl rfl) (fun b u hb q=>(Heap.get?_update_other _ _ (Ne.symm hb)).trans q) ⟨_,e⟩ ?_;exact⟨hz,its',n',r,e⟩
def Bj:V->V->V->Hp->(Hp->Prop)->Prop:=fun o i v H Q=>∃p xs k j,o=.ref p/\i=.int k/\H p=some (.lst xs)/\ixN xs.length k=some j/\Q (upd H p (.lst (xs.set j v)))
theorem set_list:ja X Bj:=by
 intro pins s σ H o i v ov iv u Q I ro ri rv h;obtain⟨p,xs,k,j,rfl,rfl,hp,hj,q⟩:=h;cases ro;obtain⟨t,rfl⟩:=ri;obtain⟨its,n,r,ho,hz⟩:=I.lst hp;obtain⟨h1,h2,h3,h4⟩:=pM hj;have hl:=r.length;have hn:=jZ;have I':Inv X pins σ (upd H p (.lst (xs.set j v))) { s with heap:=s.heap.update p (Obj.mapSeq (·.setIfInBounds j u)) } :=
  I.lstUpd hp ho (nH its n j u) (r.set rv j) (by rw[FR];exact hz) s.toks
 by_cases h0:0≤k
 ·have hk:k.toNat=j:=by
   rw[seqIndex_of h0 h4]at h1;exact Fn h1
  exact PySem.W.ki_setAt ho h0 (by omega) (by rw[E6,← hl];exact h4) (by rw[hk];exact⟨_,I',q⟩)
 ·have hk:(k+(its.toArray.size:Int)).toNat=j:=by
   rw[seqIndex_neg (by omega) h3]at h1;rw[E6,← hl];exact Fn h1
  exact PySem.W.ki_setBack ho (by omega) (by rw[E6,← hl];exact h3) (by omega) (by rw[hk];exact⟨_,I',q⟩)
theorem j6(lo hi:Option Int)(n:Nat):(sliceBounds lo hi none n).1=((HT.sIx n 0 lo:Nat):Int)/\(sliceBounds lo hi none n).2.1=((HT.sIx n n hi:Nat):Int)/\(sliceBounds lo hi none n).2.2=1:=by
 refine⟨?_,?_,rfl⟩
 ·cases lo with
  | none=>simp[sliceBounds,HT.sIx]
  | some i =>
   simp only[sliceBounds,HT.sIx,Option.getD_none,show(1:Int)>0 by decide,if_true];by_cases h:i<0
   ·simp only[h,if_true]<;>omega
   ·simp only[h,if_false]<;>omega
 ·cases hi with
  | none=>simp[sliceBounds,HT.sIx]
  | some i =>
   simp only[sliceBounds,HT.sIx,Option.getD_none,show(1:Int)>0 by decide,if_true];by_cases h:i<0
   ·simp only[h,if_true]<;>omega
   ·simp only[h,if_false]<;>omega
theorem iW(its:List Value)(lo hi:Option Int):slicePick its.toArray lo hi none=((its.drop (HT.sIx its.length 0 lo)).take (HT.sIx its.length its.length hi - HT.sIx its.length 0 lo)).toArray:=by
 obtain⟨h1,h2,h3⟩:=j6 lo hi its.toArray.size;unfold slicePick;rw[h1,h2,h3];simp only[sliceRange_one,pick_run,E6]<;>rfl
def EG(K:PySem.W.Frag):V->Option Int->Option Int->Hp->VK->Prop:=fun x lo hi H Q=>∃a xs,x=.ref a/\SqL K H a xs/\∀p,H p=none->Q (.ref p) (upd H p (.lst (l8 xs lo hi)))
theorem wF:SlR X (EG X.K):=by
 intro pins s σ H x v vl vu lo hi sl Q I rx hs pl pu h;obtain⟨a,xs,rfl,hx,q⟩:=h;cases rx;obtain⟨its,r,ht,hz⟩:=I.list hx;have hlen:=r.length;refine⟨"list",_,slot_list_getitem.lookup,ht.isList.typeIs,?_⟩;refine wpAny_getItem_list_slice ht.isList hs pl pu .none (by simp) ?_ (by rw[E6]<;>omega);rw[iW,← hlen];refine⟨.ref s.heap.objs.size,_,I.laid (t':=s.toks) (o:=.lst (l8 xs lo hi)) (fun b ob q=>ET _ q) (E2 _) ?_,rfl,q _ (I.hok.fresh (E2 _))⟩;exact⟨Gx (gL xs lo hi) hz,_,0,(r.drop (HT.sIx xs.length 0 lo)).take (HT.sIx xs.length xs.length hi - HT.sIx xs.length 0 lo),E9 _ rfl⟩
theorem aA:cU X (.builtin "len") (fun xs H Q=>∃p ys,xs=[.ref p]/\(SqL X.K H p ys∨SqT X.K H p ys)/\Q (.int ys.length) H):=by
 intro pins s σ H xs us Q I r h;obtain⟨p,ys,rfl,hq,q⟩:=h;obtain⟨u,rfl,rx⟩:=vals1 r;cases rx;have hn:=jZ;rcases hq with hq | hq
 ·obtain⟨its,r',pl,hz⟩:=I.list hq;have hlen:=r'.length;exact Calls.call_len_list pl.isList (by simp only[E6]<;>omega) ⟨.int ys.length,H,I.tok _,⟨s.toks+1,by rw[E6,hlen]⟩,q⟩
 ·obtain⟨its,r',pl,hz⟩:=I.tuple hq;have hlen:=r'.length;exact len_tuple pl (by simp only[E6]<;>omega) ⟨.int ys.length,H,I.tok _,⟨s.toks+1,by rw[E6,hlen]⟩,q⟩
theorem bf:cU X (.type "list") (fun xs H Q=>∃p ys,xs=[.ref p]/\(SqL X.K H p ys∨SqT X.K H p ys)/\∀l,H l=none->Q (.ref l) (upd H l (.lst ys))):=by
 intro pins s σ H xs us Q I r h;obtain⟨p,ys,rfl,hq,q⟩:=h;obtain⟨u,rfl,rx⟩:=vals1 r;cases rx;have fin:∀(its:List Value),Vals ys its->ys.length≤sizeLine->∀(h':Heap) (c':Nat),(∀b o',s.heap.get? b=some o'->h'.get? b=some o') ->
   h'.get? s.heap.objs.size=some { cls:=.type "list",dict:=none,data:=.seq its.toArray c',slots:=#[] }->EP X pins σ Q (.ref s.heap.objs.size) { s with heap:=h' }:=fun its r' hz h' c' kp e =>
  ⟨.ref s.heap.objs.size,_,I.laid (t':=s.toks) kp (E2 _) (show cB X.prog X.w _ h' _ (.lst ys)from⟨hz,its,c',r',e⟩),rfl,q _ (I.hok.fresh (E2 _))⟩
 rcases hq with hq | hq
 ·obtain⟨its,r',pl,hz⟩:=I.list hq;have hlen:=r'.length;obtain⟨o,ho,hc,n,hd⟩:=pl.isList;exact call_list_seq p (.inl rfl) ho hc hd (fun h' c' kp e=>fin its r' hz h' c' kp e) (by simp only[E6]<;>omega)
 ·obtain⟨its,r',pl,hz⟩:=I.tuple hq;have hlen:=r'.length;obtain⟨o,ho,hc,n,hd⟩:=pl;exact call_list_seq p (.inr rfl) ho hc hd (fun h' c' kp e=>fin its r' hz h' c' kp e) (by simp only[E6]<;>omega)
theorem aK:cU X (.type "tuple") (fun xs H Q=>∃p ys,xs=[.ref p]/\((SqL X.K H p ys/\∀l,H l=none->Q (.ref l) (upd H l (.tup ys)))∨(SqT X.K H p ys/\Q (.ref p) H))):=by
 intro pins s σ H xs us Q I r h;obtain⟨p,ys,rfl,h⟩:=h;obtain⟨u,rfl,rx⟩:=vals1 r;cases rx;rcases h with⟨hq,q⟩ |⟨hq,q⟩
 ·obtain⟨its,r',pl,hz⟩:=I.list hq;have hlen:=r'.length;refine call_tuple_list pl.isList (fun h' kp=>?_) (by simp only[E6]<;>omega);have I1:Inv X pins σ H { s with heap:=h' }:=I.kept (t':=s.toks) kp;have I2:Inv X pins σ (upd H h'.objs.size (.tup ys)) { s with heap:=h'.push { cls:=.type "tuple",data:=.seq its.toArray } } :=
   I1.laid (t':=s.toks) (fun b o e=>ET _ e) (E2 _) (show cB X.prog X.w _ _ _ (.tup ys)from⟨hz,its,r',IsTup.new _ _⟩)
  exact⟨.ref h'.objs.size,_,I2,rfl,q _ (I1.hok.fresh (E2 _))⟩
 ·obtain⟨its,r',pl,hz⟩:=I.tuple hq;exact call_tuple_same pl ⟨.ref p,H,I,rfl,q⟩
def tyV(K:PySem.W.Frag)(T:String)(x:V)(H:Hp):Prop:=match x with
 | .str _=>T="str"
 | .int _=>T="int"
 | .ref p=>(T="list"/\∃xs,SqL K H p xs)∨(T="tuple"/\∃o,K.lookup p=some o/\o.cls=.type "tuple"/\o.dict=none) ∨
   (T="dict"/\((∃kvs,H p=some (.dK kvs))∨∃kvs,H p=some (.dT kvs)))∨(T="set"/\∃S n,H p=some (.set S n))
 | _=>False
theorem Aa{σ:St}(I:Inv X pins σ H s)(r:RelV x v)(ty:tyV X.K T x H) :
  s.TypeIs v T/\∀a,v=.ref a->∃ob,s.heap.get? a=some ob/\ob.dict=none:=by
 cases x with
 | str z =>
  obtain⟨t,rfl⟩:=r;cases (show T="str" from ty);exact⟨typeIs_str s z t,fun _ e=>nomatch e⟩
 | int i =>
  obtain⟨t,rfl⟩:=r;cases (show T="int" from ty);exact⟨typeIs_int s i t,fun _ e=>nomatch e⟩
 | ref p =>
  cases r;rcases ty with⟨rfl,xs,hq⟩ |⟨rfl,o,hk,hc,hd⟩ |⟨rfl,hk⟩ |⟨rfl,S,n,hk⟩
  ·obtain⟨its,_,pl,_⟩:=I.list hq;refine⟨pl.isList.typeIs,fun a e=>?_⟩;cases e;obtain⟨o,n,e,c,hd,_⟩:=pl;exact⟨o,e,hd⟩
  ·refine⟨⟨o,I.kIn p o hk,hc⟩,fun a e=>?_⟩;cases e;exact⟨o,I.kIn _ o hk,hd⟩
  ·have z:∃o,s.heap.get? p=some o/\o.ExactDict:=by
    rcases hk with⟨kvs,hk⟩ |⟨kvs,hk⟩
    ·obtain⟨_,_,_,_,o,_,_,e,ex,_⟩:=I.hok p _ hk;exact⟨o,e,ex⟩
    ·obtain⟨_,_,_,_,o,_,_,e,ex,_⟩:=I.hok p _ hk;exact⟨o,e,ex⟩
   obtain⟨o,e,ex⟩:=z;refine⟨⟨o,e,ex.1⟩,fun a e2=>?_⟩;cases e2;exact⟨o,e,ex.2.1⟩
  ·obtain⟨o,_,_,_,e,ex,_⟩:=I.hok p _ hk;refine⟨⟨o,e,ex.1⟩,fun a e2=>?_⟩;cases e2;exact⟨o,e,ex.2.1⟩
 | _=>exact False.elim ty
def tBM(K:PySem.W.Frag)(T:String)(r:V->List V->Hp->VK->Prop)(to:TE)(t:TA):TE:=fun σ H Q=>to σ H fun x H1=>tyV K T x H1/\t σ H1 fun xs H2=>r x xs H2 Q
variable {o e:Expr}{es:List Expr}{to:TE}{t:TA}{name:Str}{apos cpos:Pos}{T id:String}{r:V->List V->Hp->VK->Prop}
theorem Bi(pa:PlainAttrs T)(slot:Slot T name id)(hty:typeOf (.builtin id)=pure (.type "method_descriptor"))(hm:MtR X id r)(ho:PE X o to)(ha:PA X (e::es) t)
  (hbase:attributeBase o name X.env (eval o X.env)=eval o X.env:=by rfl)
  (hfew:((backTo cpos (starEach (e::es) X.env)).all (fun x=>!x.1)&&(backToKw cpos (keywordEach [] X.env)).all (fun x=>x.1.isSome)
   && decide ((e::es).length+([]:List Keyword).length+(if ([]:List Keyword).isEmpty then 0 else 1)<30))=true:=by rfl)
  (hline:(apos.endLine==cpos.line)=true:=by rfl) (hs:starEach (e::es) X.env=(false,eval e X.env)::starEach es X.env:=by rfl) (hplain:(backTo cpos (starEach es X.env)).any (·.1)=false:=by rfl) :
  PE X (.Call (.Attribute o name apos) (e::es) [] cpos) (tBM X.K T r to t):=by
 intro pins s σ H Q I h;refine wpAny_Call_method_late hbase hfew hline rfl (thn (ho pins s σ H _ I h) fun v s1 y_=>?_);obtain⟨x,H1,I1,r1,ty,q1⟩:=y_;obtain⟨h1,h2⟩:=Aa I1 r1 ty;refine⟨T,id,pa,slot,hty,h1,h2,?_⟩;have hA:=ha cpos pins s1 σ H1 _ I1 q1;rw[hs]at hA ⊢;refine Calls.callWith_builtin (by show(false||(backTo cpos (starEach es X.env)).any (·.1))=false;rw[hplain]<;>rfl) (Calls.evalArgs_plain ?_);exact thn hA fun us s2 ⟨vs,H2,I2,r2,q2⟩=>hm pins s2 σ H2 x vs v us Q I2 r1 r2 q2
end
end
section
def MtM(X:Cx)(id:String)(r:V->List V->Hp->VK->Prop):Prop :=
 ∀(pins:List (Addr×Obj)) (s:Shared) (σ:St) (H:Hp) (x:V) (xs:List V) (v:Value) (us:List Value) (Q:VK),Inv X pins σ H s->RelV x v->Vals xs us->r x xs H Q ->
  wpAny (model X.prog X.w) X.A (call (.builtin id) (v::us)) (EP X pins σ Q) X.xe s
theorem Vals.one:∀{x:V} {us:List Value},Vals [x] us->∃u,us=[u]/\RelV x u
 | _,_,.cons r .nil=>⟨_,rfl,r⟩
theorem Vals.dropLast(h:Vals xs us):Vals xs.dropLast us.dropLast:=by
 induction h with
 | nil=>exact .nil
 | cons r t ih =>
  cases t with
  | nil=>exact .nil
  | cons q t'=>exact .cons r ih
theorem Vals.rep{xs:List V}{us:List Value}(h:Vals xs us):∀k:Nat,Vals (List.replicate k xs).flatten (List.replicate k us).flatten
 | 0=>.nil
 | k+1=>by
  rw[FO,FO,GC,GC];exact Vals.append h (Vals.rep h k)
theorem x9{α:Type}(l:List α):l.eraseIdx (l.length - 1)=l.dropLast:=by
 induction l with
 | nil=>rfl
 | cons a r ih =>
  cases r with
  | nil=>rfl
  | cons b r =>
   have e:(a::b::r).length - 1=((b::r).length - 1)+1:=by
    have h1:(a::b::r).length=r.length+2:=rfl;have h2:(b::r).length=r.length+1:=rfl;omega
   rw[e,List.eraseIdx_cons_succ,ih]
   all_goals rfl
theorem foldl_rep(its:List Value):∀(k:Nat) (acc:List Value),
  List.foldl (fun x1 x2=>x1++x2) acc.toArray (List.replicate k its.toArray)=(acc++(List.replicate k its).flatten).toArray
 | 0,acc=>by simp
 | k+1,acc=>by
  have e:acc.toArray++its.toArray=(acc++its).toArray:=by simp
  have e2:(acc++its)++(List.replicate k its).flatten=acc++(List.replicate (k+1) its).flatten:=by
   rw[FO,GC,List.append_assoc]
  rw[←e2,← foldl_rep its k (acc++its),← e,FO,List.foldl_cons]
section
variable {X:Cx}{pins:List (Addr×Obj)}{σ:St}{H:Hp}{s:Shared}{l b:Addr}{xs ys zs:List V}
theorem Inv.lset{its its':List Value}(I:Inv X pins σ H s)(hH:H l=some (.lst xs))
  (e:s.heap.get? l=some { cls:=.type "list",data:=.seq its.toArray n }) (hf:f its.toArray=its'.toArray) (hv:Vals ys its') (hz:ys.length≤sizeLine) :
  Inv X pins σ (upd H l (.lst ys)) { s with heap:=s.heap.update l (Obj.mapSeq f),toks:=t' }:=by
 have q:=PySem.IsL.update e f;rw[hf]at q;refine I.write (x:=l) (e:=l) (by rw[hH];exact trivial) (.inl rfl) (fun b' u hb hu=>(Heap.get?_update_other s.heap (Obj.mapSeq f) (Ne.symm hb)).trans hu) ⟨_,q⟩ ?_;exact⟨hz,its',_,hv,q⟩
theorem Inv.lnew(I:Inv X pins σ H s)(hv:Vals ys its)(hz:ys.length≤sizeLine) :
  Inv X pins σ (upd H s.heap.objs.size (.lst ys)) { s with heap:=s.heap.push { cls:=.type "list",data:=.seq its.toArray },toks:=t' } :=
 I.laid (fun _ _ q=>ET _ q) (E2 _) ⟨hz,its,0,hv,E9 _ rfl⟩
theorem Inv.fresh(I:Inv X pins σ H s):H s.heap.objs.size=none:=I.hok.fresh (E2 _)
theorem Inv.lstM(I:Inv X pins σ H s)(hH:H l=some (.lst xs)):xs.length≤sizeLine/\∃(its:List Value) (n:Nat),Vals xs its/\xs.length=its.length/\s.heap.get? l=some { cls:=.type "list",data:=.seq its.toArray n }:=by
 obtain⟨z,its,n,r,e⟩:=I.hok l _ hH;exact⟨z,its,n,r,r.length,e⟩
theorem lO(h:n≤sizeLine):Builtin.List.listTooLong n=false:=by
 unfold Builtin.List.listTooLong;exact FZ (by omega)
end
section
variable {X:Cx}
def oP:V->List V->Hp->VK->Prop:=fun x vs H Q=>∃l xs y,x=.ref l/\vs=[y]/\H l=some (.lst xs)/\xs.length<sizeLine/\Q .non (upd H l (.lst (xs++[y])))
theorem bU:MtM X "list.append" oP:=by
 intro pins s σ H x vs v us Q I rx rv h;obtain⟨l,xs,y,rfl,rfl,hH,hz,q⟩:=h;cases rx;obtain⟨u,rfl,ru⟩:=rv.one;obtain⟨z,its,n,r,hl,e⟩:=I.lstM hH;refine call_meets F.slot_list_append ⟨_,e,rfl⟩ F.entry_list_append (F.args_list_append_2 _ _) (PySem.list_append l its.toArray n u (by rw[E6];omega)) ⟨e,?_⟩;refine⟨.non,_,I.lset (its':=its++[u]) hH e (by simp) (r.append (.cons ru .nil)) ?_,rfl,q⟩;rw[EX,List.length_singleton];omega
def oF:V->List V->Hp->VK->Prop:=fun x vs H Q=>∃l b xs zs,x=.ref l/\vs=[.ref b]/\H l=some (.lst xs)/\H b=some (.lst zs)/\xs.length+zs.length≤sizeLine/\Q .non (upd H l (.lst (xs++zs)))
theorem cm:MtM X "list.extend" oF:=by
 intro pins s σ H x vs v us Q I rx rv h;obtain⟨l,b,xs,zs,rfl,rfl,hH,hB,hz,q⟩:=h;cases rx;obtain⟨u,rfl,ru⟩:=rv.one;cases ru;obtain⟨z,its,n,r,hl,e⟩:=I.lstM hH;obtain⟨z2,its2,n2,r2,hl2,e2⟩:=I.lstM hB;have hsz:its.toArray.size+its2.toArray.size≤sizeLine:=by rw[E6,E6];omega
 have hlong:¬(!its.toArray.isEmpty&&Builtin.List.listTooLong (its.toArray.size+its2.toArray.size))=true:=by
  rw[lO hsz,Bool.and_false];exact F6
 refine call_meets F.slot_list_extend ⟨_,e,rfl⟩ F.entry_list_extend (F.args_list_extend_2 _ _)
  (AutoSeq1.list_extend_list_list_0 l its.toArray n b its2.toArray n2 hlong (by rw[E6];omega) (by omega)) ⟨e,e2,?_⟩
 refine⟨.non,_,I.lset (its':=its++its2) hH e (by simp) (r.append r2) ?_,rfl,q⟩;rw[EX];omega
def Bu:R2:=fun x y H Q=>∃l b xs zs,x=.ref l/\y=.ref b/\H l=some (.lst xs)/\H b=some (.lst zs)/\xs.length+zs.length≤sizeLine/\∀p,H p=none->Q (.ref p) (upd H p (.lst (xs++zs)))
theorem zf:OpR X (binaryOp .Add) Bu:=by
 intro pins s σ H x y v u Q I rx ry h;obtain⟨l,b,xs,zs,rfl,rfl,hH,hB,hz,q⟩:=h;cases rx;cases ry;obtain⟨z,its,n,r,hl,e⟩:=I.lstM hH;obtain⟨z2,its2,n2,r2,hl2,e2⟩:=I.lstM hB;refine PySem.P.add_list e e2 ?_ (by rw[E6,E6];omega);have ea:its.toArray++its2.toArray=(its++its2).toArray:=by simp
 rw[ea];exact⟨.ref _,_,I.lnew (t':=s.toks) (r.append r2) (by rw[EX];omega),rfl,q _ I.fresh⟩
def BZ:R2:=fun x y H Q=>∃l k xs,x=.ref l/\y=.int k/\H l=some (.lst xs)/\-(2 ^ 63)≤k/\k<2 ^ 63/\xs.length*k.toNat≤sizeLine /\
 ∀p,H p=none->Q (.ref p) (upd H p (.lst (List.replicate k.toNat xs).flatten))
theorem len_rep{α:Type}(xs:List α)(k:Nat):(List.replicate k xs).flatten.length=k*xs.length:=by
 induction k with
 | zero=>simp
 | succ k ih=>rw[FO,GC,EX,ih,Nat.succ_mul,Nat.add_comm]
theorem yk:OpR X (binaryOp .Mult) BZ:=by
 intro pins s σ H x y v u Q I rx ry h;obtain⟨l,k,xs,rfl,rfl,hH,h1,h2,hz,q⟩:=h;cases rx;obtain⟨t,rfl⟩:=ry;obtain⟨z,its,n,r,hl,e⟩:=I.lstM hH;have hlen:its.toArray.size*k.toNat≤sizeLine:=by rw[E6,← hl];exact hz
 have hcap:¬its.toArray.size*k.toNat>(2 ^ 63 - 1) / 8:=by
  have:(sizeLine:Nat)≤(2 ^ 63 - 1) / 8:=by decide
  omega
 have hfit:¬(!Builtin.List.listFitsIndex k)=true:=by
  rw[fitsIndex_both h1 h2];exact F6
 have hlong:¬Builtin.List.listTooLong (its.toArray.size*k.toNat)=true:=by
  rw[lO hlen];exact F6
 have hnew:List.foldl (fun x1 x2=>x1++x2) #[] (List.replicate (if its.toArray.isEmpty=true then 0 else k.toNat) its.toArray)=(List.replicate k.toNat its).flatten.toArray:=by
  have f0:∀m:Nat,List.foldl (fun x1 x2=>x1++x2) #[] (List.replicate m its.toArray)=(List.replicate m its).flatten.toArray:=fun m=>by
   have:=foldl_rep its m [];rw[List.nil_append]at this;exact this
  rw[f0];cases its with
  | nil=>simp
  | cons a r'=>rw[Fo (by simp)]
 refine wpAny_binaryOp_repeat_ref (T:="list") (U:="int") (by decide) ⟨_,e,rfl⟩ (fun s'=>typeIs_int s' k t) noFill_list_mul F.fills_int_mul F.slot_int_rmul repeat_list F.slot_int_index.lookup
  (call_meets F.slot_int_rmul (typeIs_int s k t) F.entry_int_rmul (F.args_int_rmul_2 _ _) (int___rmul___int_list k t l its.toArray n)
   ⟨e,rfl,⟨_,e,rfl⟩,call_meets F.slot_list_mul ⟨_,e,rfl⟩ F.entry_list_mul (F.args_list_mul_2 _ _) (AutoListH.list___mul___list_int_3 l its.toArray n k t hfit hcap hlong) ⟨e,?_⟩⟩)
 rw[hnew];exact⟨.ref _,_,I.lnew (t':=s.toks) (r.rep k.toNat) (by rw[len_rep,Nat.mul_comm];exact hz),rfl,q _ I.fresh⟩
end
section
variable {prog:Program}{w:World}{A:Around}{E:Value->Shared->Prop}{s:Shared}
end
section
variable {X:Cx}
end
end
end L2
namespace Att
open PySem.W PySem.Calls
theorem gR:∀(ns:List Int) (vs:List Value),WellAll P h vs (ns.map WData.int)->IntsAre vs ns:=by
 intro ns
 induction ns with
 | nil =>
  intro vs w;rw[List.map_nil]at w;cases w;exact .nil
 | cons n ns ih =>
  intro vs w;rw[Fp]at w;cases w with
  | cons a b =>
   cases a;exact .cons _ _ (ih _ b)
theorem qM{l:OpenLaw}(hn:l.most=some n){P:Params}{h:Heap}{args:List WData}{vals:List Value}
  (hpre:l.row.toRowW.claim.pre args=true) (hwl:WellAll P h vals args) :
  ∃a vs ns,vals=[Value.ref a]/\args=[WData.list (ns.map WData.int)]/\h.get? a=some { cls:=.type "list",data:=.seq vs.toArray }/\IntsAre vs ns/\ns.length≤n:=by
 have hsh:WShape.hasAll [] args [.list .int]=true:=(pre_splitW hpre).1;have hc:l.pre.holds [] { args:=args }=true:=(pre_splitW hpre).2;obtain⟨d,r,rfl,h1,h2⟩:=hasAllW_cons hsh;obtain rfl:=hasAllW_nil h2;obtain⟨xs,rfl,h3⟩:=hasW_list h1;obtain⟨ns,rfl⟩:=items_int h3;have hlen:ns.length≤n:=by
  unfold OpenLaw.pre at hc;have h4:(WTm.not (.lt (.lit (.int (n:Int))) (.len (.arg 0)))).holds [] { args:=[.list (ns.map .int)] }=true:=by
   have h4:=(holds_andW hc).1;rw[hn]at h4;exact h4
  have h5:=condW_of h4 (w_not (w_lt w_lit (w_len_list (w_arg rfl))));rw[EM]at h5;refine Nat.le_of_not_lt fun q=>?_;have q':(n:Int)<((ns.length:Nat):Int):=by omega
  first
   |(rw[Ge q']at h5;exact absurd h5 (by decide))
   |(simp at h5;omega)
 cases hwl with
 | cons w1 w2 =>
  cases w2;cases w1 with
  | list ho hall=>exact⟨_,_,ns,rfl,rfl,ho,gR ns _ hall,hlen⟩
theorem rg(l:OpenLaw)(args:List WData):l.row.toRowW.claim.post args (.bool true) args=true :=
 postW_of (r:=l.row.toRowW) (X:=(true==true))
  (show WShape.has [] (.bool true) .bool=true by first | rfl | decide | simp[WShape.has,WShape.arms,WShape.armsAll])
  (show(WTm.eq .res (.lit (.bool true))).value [] { args:=args,res:=some (.bool true),after:=args }=some (.bool (true==true))from w_eq_bool (w_res rfl) w_lit) rfl
theorem k9{l:OpenLaw}
  (hn:l.most=some n) (hdf:d.params.defaults=[])
  (call:∀(w:World) (s₀ s₁:Shared) (mg mb:Str->Option Value) (fa:Addr) (o:Obj) (pm cd doc:Value) (a:Addr) (vs:List Value) (ns:List Int),
   Ground q loose [] XP w s₀ mg mb s₁.heap->YP w s₁.heap ->
   s₁.heap.get? fa=some o->o.data=.func (docDef d.name d.params d.body d.scope pm cd doc)->s₁.heap.CodeRec cd d.name->mg d.name=some (.ref fa) ->
   s₁.heap.get? a=some { cls:=.type "list",data:=.seq vs.toArray }->IntsAre vs ns->ns.length≤n->s₁.gens=#[] ->
   codeAny (model l.prog w) callerA (.call (.ref fa) ⟨[.ref a],[]⟩) (fun r s'=>r=.ok (.ret (.bool true))/\OldK s₁.heap s'.heap/\s'.os=s₁.os/\AllBare s'.gens) s₁) :
  WalkO q loose XP YP l.row.toRowW d [] (fun f vs=>PySem.call f vs):=by
 intro w s₀ s₁ mg mb G Y fa o pm cd doc dV kV ho hd hcd hD hmg hg args vals as hpre hlay hrd hwl hlo;obtain rfl:dV=.none:=Dflts.none hD hdf;obtain rfl:kV=.none:=Dflts.noKw hD;obtain⟨a,vs,ns,rfl,rfl,hobj,hints,hlen⟩:=qM hn hpre hwl;refine enter_call (GG (call w s₀ s₁ mg mb fa o pm cd doc a vs ns G Y ho (fd_plain hd) hcd hmg hobj hints hlen hg) fun r s' hq=>?_);obtain⟨rfl,h2,h3,h4⟩:=hq;exact⟨.inl ⟨.bool true,.bool true,[],rfl,fun _=>rfl,.bool true,rg l _,fun _=>⟨List.Pairwise.nil,fun _ hm=>(nomatch hm)⟩⟩,h2,h3,h4⟩
section
variable {prog:Program}{w:World}{A:Around}{E:Value->Shared->Prop}{s:Shared}{K:Frag}
def ledger(h:Heap)(L d:Addr):List (Addr×Obj):=(List.range h.objs.size).filterMap fun a=>if a=L∨a=d then none else(h.get? a).map fun o=>(a,o)
end
end Att
namespace L2
section
theorem jw:∀{vs:List Value} {ns:List Int},IntsAre vs ns->Vals (ns.map V.int) vs
 | _,_,.nil=>.nil
 | _,_,.cons n t h=>.cons ⟨t,rfl⟩ (jw h)
def rj(H:Hp):Prop:=∀b,H b=none∨∃o xs,H b=some (.frz o (.lst xs))
theorem tX{K:PySem.W.Frag}
  (KX:K.In s₁.heap) (hns:s₁.heap.Ns mainGlobals mg) (hb:s₁.heap.Ns builtinsNs mb) (hbb:∀x:Str,x≠"__name__"->mb x=bootBuiltins x) (hlim:s₁.heap.NoLimit) (hg:s₁.gens=#[])
  (ha:s₁.heap.get? a=some { cls:=.type "list",data:=.seq vs.toArray }) (hi:IntsAre vs ns) (hl:ns.length≤sizeLine) (hr:cv k callerA)
  (F:∀base:Heap,K.In base->base.Ns mainGlobals mg->fI P w K mg base CX k fa fd [x] sp) (hbind:∀(s:Shared) (u:Value),BindsTo s fd ⟨[u],[]⟩ [(x,u)])
  (hsp:∀H:Hp,rj H->SqL K H a (ns.map V.int)->sp [.ref a] H (fun v _=>v=.bl true) fun _ _ _=>False)
  (hCX:∀H e s',CX [] H s₁ (fun _ _ _=>False) e s'->False) :
  codeAny (model P w) callerA (.call (.ref fa) ⟨[.ref a],[]⟩) (fun r s'=>r=.ok (.ret (.bool true))/\OldK s₁.heap s'.heap/\s'.os=s₁.os/\AllBare s'.gens) s₁:=by
 have rv:=jw hi;have lenV:=hi.length;have core:∀H:Hp,rj H->SqL K H a (ns.map V.int)->HOk P w H s₁.heap->(∀b,H b≠none->b=a)->(H a≠none->K.lookup a=none) ->
   codeAny (model P w) callerA (.call (.ref fa) ⟨[.ref a],[]⟩) (fun r s'=>r=.ok (.ret (.bool true))/\OldK s₁.heap s'.heap/\s'.os=s₁.os/\AllBare s'.gens) s₁:=by
  intro H hO hS hok hA hK;have base_of:∀{b:Addr} {o:Obj},s₁.heap.get? b=some o->H b=none->(ko s₁.heap H).get? b=some o:=fun e n=>sR e n;have noA:∀{b:Addr} {o:Obj} {es:Array DictEntry} {ep:Nat},s₁.heap.get? b=some o->o.data=.dict es ep->H b=none:=fun {b o es ep} e d=>by
   cases q:H b with
   | none=>rfl
   | some u =>
    have e':b=a:=hA b (by rw[q];simp);subst e';rw[ha]at e;cases e;have d':Data.seq vs.toArray _=Data.dict es ep:=d;cases d'
  have nsK:∀{b:Addr} {m:Str->Option Value},s₁.heap.Ns b m->(ko s₁.heap H).Ns b m:=fun {b m} ⟨o,es,ep,e,d,r⟩=>⟨o,es,ep,base_of e (noA e d),d,r⟩;have hKb:K.In (ko s₁.heap H):=fun b o e=>base_of (KX b o e) (by
   cases q:H b with
   | none=>rfl
   | some u =>
    have e':b=a:=hA b (by rw[q];simp);subst e';rw[hK (by rw[q];simp)]at e;cases e)
  have hM:Mod K mg (ko s₁.heap H):=⟨hKb,nsK hns,⟨mb,nsK hb,hbb⟩,let ⟨mc,h1,h2⟩:=hlim;⟨mc,nsK h1,h2⟩⟩;have e0:nG P w K mg (ko s₁.heap H) callerA [] s₁ H:=⟨rfl,hM,fun b o e=>v7 e,Nat.le_of_eq (qI _ _),trivial,fun b hb=>absurd (show b∈([]:List Addr)from hb) (by simp),hok,.of_eq hg⟩;refine GG ((F _ hKb (nsK hns)).run callerA [] s₁ H ⟨[.ref a],[]⟩ [.ref a] [.ref a] _ _ hr e0 (hbind s₁ (.ref a)) (.cons rfl .nil) (hsp H hO hS)) fun r s' h=>?_;cases r with
  | error e=>exact(hCX H e s' h).elim
  | ok fl =>
   cases fl with
   | next=>exact False.elim h
   | brk=>exact False.elim h
   | cont=>exact False.elim h
   | ret u =>
    obtain⟨v,H',os,bare,un,hok',r',q⟩:=h;have q':v=.bl true:=q;subst q';obtain rfl:u=Value.bool true:=r';refine⟨rfl,OldK.of_keep fun b o e=>?_,os,bare⟩;cases q:H b with
    | none=>exact un.keep b o e q (by intro z;exact absurd (show b∈([]:List Addr)from z) (by simp)) (by simp)
    | some u =>
     rcases hO b with z |⟨ob,xs,z⟩
     ·rw[q]at z;cases z
     ·have z2:=un.frzs b ob _ z;obtain⟨e1,_⟩:=hok b _ z;obtain⟨e2,_⟩:=hok' b _ z2;rw[e]at e1;cases e1;exact e2
 cases hk:K.lookup a with
 | some o =>
  have e:=KX a o hk;rw[ha]at e;cases e;refine core (fun _=>none) (fun _=>.inl rfl) (.inr ⟨_,vs.toArray,_,hk,rfl,rfl,rfl,by rw[E6,lenV];exact hl,by simpa using rv⟩) (fun b u z=>by have z':(none:Option HO)=some u:=z;cases z') (fun b z=>absurd rfl z) fun z=>absurd rfl z
 | none =>
  refine core (fun b=>if b=a then some (.frz { cls:=.type "list",data:=.seq vs.toArray } (.lst (ns.map V.int)))else none) (fun b=>?_) (.inl (.inr ⟨{ cls:=.type "list",data:=.seq vs.toArray },Fq rfl⟩)) (fun b u z=>?_) (fun b z=>?_) fun _=>hk
  ·by_cases hb:b=a
   ·exact .inr ⟨_,_,Fq hb⟩
   ·exact .inl (Fo hb)
  ·by_cases hb:b=a
   ·have z':=(Fq hb).symm.trans z;cases z';subst hb;exact⟨ha,by rw[EM];exact hl,vs,_,rv,ha⟩
   ·have z':=(Fo hb).symm.trans z;cases z'
  ·by_cases hb:b=a
   ·exact hb
   ·exact absurd (Fo hb) z
end
section
abbrev KOf{K:PySem.W.Frag}{h:Heap}(_:K.In h):PySem.W.Frag:=K
theorem pG{l:PySem.W.OpenLaw}{K:Params->PySem.W.Frag}{CX:World->CXT}{sp:World->Sp}
  (hn:l.most=some n) (hn2:n≤sizeLine) (hdf:d.params.defaults=[]) (hr:cv k callerA)
  (hY:∀(w:World) (h:Heap),YP w h->(K w.params).In h)
  (F:∀(w:World) (mg:Str->Option Value) (fa:Addr) (h:Heap),(K w.params).In h->h.Ns mainGlobals mg->mg d.name=some (.ref fa) ->
   ∃fd:FuncData,(∀(s:Shared) (u:Value),BindsTo s fd ⟨[u],[]⟩ [(x,u)]) /\
    ∀base:Heap,(K w.params).In base->base.Ns mainGlobals mg->fI l.prog w (K w.params) mg base (CX w) k fa fd [x] (sp w))
  (hsp:∀(w:World) (H:Hp) (a:Addr) (ns:List Int),ns.length≤n->rj H->SqL (K w.params) H a (ns.map V.int)->sp w [.ref a] H (fun v _=>v=.bl true) fun _ _ _=>False)
  (hCX:∀(w:World) (H:Hp) (s:Shared) (e:Value) (s':Shared),CX w [] H s (fun _ _ _=>False) e s'->False) :
  PySem.W.WalkO q loose XP YP l.row.toRowW d [] (fun f vs=>PySem.call f vs):=by
 refine Att.k9 hn hdf fun w s₀ s₁ mg mb fa o pm cd doc a vs ns G Y ho hd hcd hmg hobj hints hlen hg=>?_;have KX:=hY w _ Y;obtain⟨fd,hb,hF⟩:=F w mg fa _ KX G.T.g hmg;exact tX KX G.T.g G.T.b G.T.builtins G.T.nolimit hg hobj hints (Gx hlen hn2) hr hF hb (fun H hO hS=>hsp w H a ns hlen hO hS) fun H e s'=>hCX w H s₁ e s'
theorem rK{l:PySem.W.OpenLaw}{K:Params->PySem.W.Frag}{sp:PySem.W.Frag->Sp}
  (hn:l.most=some n) (hn2:n≤sizeLine) (hdf:d.params.defaults=[]) (hr:cv k callerA)
  (hY:∀(w:World) (h:Heap),YP w h->(K w.params).In h)
  (F:∀(w:World) (mg:Str->Option Value) (fa:Addr) (h:Heap),(K w.params).In h->h.Ns mainGlobals mg->mg d.name=some (.ref fa) ->
   ∃fd:FuncData,(∀(s:Shared) (u:Value),BindsTo s fd ⟨[u],[]⟩ [(x,u)]) /\
    ∀base:Heap,(K w.params).In base->base.Ns mainGlobals mg->fI l.prog w (K w.params) mg base CX k fa fd [x] (sp (K w.params)))
  (hsp:∀(K:PySem.W.Frag) (H:Hp) (a:Addr) (ns:List Int),ns.length≤n->rj H->SqL K H a (ns.map V.int)->sp K [.ref a] H (fun v _=>v=.bl true) fun _ _ _=>False)
  (hCX:∀(H:Hp) (s:Shared) (e:Value) (s':Shared),CX [] H s (fun _ _ _=>False) e s'->False) :
  PySem.W.WalkO q loose XP YP l.row.toRowW d [] (fun f vs=>PySem.call f vs) :=
 pG (K:=K) (CX:=fun _=>CX) (sp:=fun w=>sp (K w.params)) hn hn2 hdf hr hY F (fun w H a ns h1 h2 h3=>hsp (K w.params) H a ns h1 h2 h3) fun _ H s e s'=>hCX H s e s'
end
section
def inClass(s:Stmt)(j:Nat):Stmt:=match s with
 | .ClassDef _ _ _ body _ _ _ _ _ _ _=>body.getD j (.Pass ⟨0,0,0,0⟩)
 | _=>.Pass ⟨0,0,0,0⟩
def aI(s:Stmt):Arguments:=match s with
 | .FunctionDef _ a _ _ _ _ _ _ _ _=>a
 | _=>{ posonlyargs:=[],args:=[],vararg:=none,kwonlyargs:=[],kw_defaults:=[],kwarg:=none,defaults:=[] }
def aD(s:Stmt):List Stmt:=match s with
 | .FunctionDef _ _ b _ _ _ _ _ _ _=>b
 | _=>[]
def ai(s:Stmt):Scope:=match s with
 | .FunctionDef _ _ _ _ _ _ sc _ _ _=>sc
 | _=>{ kind:=.function,names:=[],isGenerator:=false,isCoroutine:=false }
abbrev CX0:CXT:=fun _ _ _ _ _ _=>False
abbrev E0:XK:=fun _ _ _=>False
theorem uF:Passes CX0 X E0:=fun _ _ _ _ _ _ _ h=>h.elim
structure Fun (K:PySem.W.Frag) (x qual:Str) (st:Stmt) (f:Addr) (fd:FuncData):Prop where
 ex:∃(oc:Value) (od:Option Addr) (kV doc pm:Value) (an:Option Addr) (cdv ct:Value) (osl:Array (Option Value)),
  fd=PySem.W.fnOf x qual (aI st) (aD st) (ai st) .none kV doc pm an cdv ct/\K.lookup f=some ⟨oc,od,.func fd,osl⟩/\PySem.W.codeIn K cdv qual=true
 kp:PySem.W.keepIn K (.ref f)=true
section
variable {P:Program}{w:World}{K:PySem.W.Frag}{mg:Str->Option Value}{base:Heap}
theorem Fun.ok{st:Stmt}(F:Fun K x qual st f fd)(S:aG N ps (ai st))(len:∀vs H Q E,sp vs H Q E->vs.length=ps.length)
  (hbody:∀(cdv:Value) (A:Around) (outer:List Env) (s:Shared) (H:Hp) (vs:List V) (Q:VK) (E:XK),cv k (A.deeper (envOfC qual (ai st) s.heap.objs.size f cdv))->sp vs H Q E ->
   ∃t,PSs (j8 CX0 P w K mg base N qual (ai st) f cdv A outer s H E).nox (aD st) t/\t { nx:=fun _ H'=>Q .non H',rt:=Q } (start N vs) H):fI P w K mg base CX0 (k+1) f fd ps sp:=by
 obtain⟨oc,od,kV,doc,pm,an,cdv,ct,osl,rfl,lk,hcd⟩:=F.ex;refine xo lk hcd S len fun A outer s H vs Q E hr hsp=>?_;obtain⟨t,h,q⟩:=hbody cdv A outer s H vs Q E hr hsp;exact⟨t,h.nox,q⟩
theorem Fun.binds{st:Stmt}(F:Fun K x qual st f fd)
  (h:∀(kV doc pm:Value) (an:Option Addr) (cdv ct:Value) (us:List Value),us.length=ps.length->bindArgs (PySem.W.fnOf x qual (aI st) (aD st) (ai st) .none kV doc pm an cdv ct) ⟨us,[]⟩=pure (ps.zip us)):Binds K fd ps []:=by
 obtain⟨oc,od,kV,doc,pm,an,cdv,ct,osl,rfl,lk,hcd⟩:=F.ex;exact .all (h kV doc pm an cdv ct)
theorem aS{st:Stmt}{kV doc pm cdv ct:Value}(l:K.lookup f=some ⟨oc,od,.func (PySem.W.fnOf x qual (aI st) (aD st) (ai st) .none kV doc pm an cdv ct),osl⟩)
  (c:PySem.W.codeIn K cdv qual=true) (k:PySem.W.keepIn K (.ref f)=true):Fun K x qual st f (PySem.W.fnOf x qual (aI st) (aD st) (ai st) .none kV doc pm an cdv ct):=⟨⟨oc,od,kV,doc,pm,an,cdv,ct,osl,rfl,l,c⟩,k⟩
end
theorem bz(h:n≤1000):n<sizeLine:=Gz h (by decide)
section
variable {X:Cx}
theorem pv(i:Nat){x:Str}{pos:Pos}(hN:X.N[i]?=some x:=by rfl)(hv:Vis X.env.scope x:=by first | exact Or.inl rfl | exact Or.inr (Or.inl rfl) | exact Or.inr (Or.inr rfl))(hd:(x==("__debug__":Str))=false:=by decide)
  (hcd:(x==("__classdict__":Str))=false:=by decide):PE X (.Name x pos) (BX i):=sX hN hv hd hcd
end
theorem jL{A B:Prop}(h:B):if false=true then A else B:=by
 rw[Fo F6];exact h
theorem jK{A B:Prop}(h:A):if true=true then A else B:=by
 rw[Fq rfl];exact h
def EK(H H':Hp):Prop:=∀b o,H b=some o->H' b=some o
end
end L2
set_option maxHeartbeats 4000000
namespace U
open L2
section
inductive PV where
 | non | bl (b:Bool) | int (i:Int) | str (x:Str) | ref (a:Addr) | tup (l:List PV) | fls (l:List PV) | oth (v:V)
def FzL(K:PySem.W.Frag)(H:Hp)(a:Addr)(xs:List V):Prop :=
 (∃o,H a=some (.frz o (.lst xs))) ∨
  ∃(o:Obj) (its:Array Value) (n:Nat),K.lookup a=some o/\o.cls=.type "list"/\o.dict=none/\o.data=.seq its n/\its.size≤sizeLine/\Vals xs its.toList
theorem FzL.sq{K:PySem.W.Frag}(h:FzL K H a xs):SqL K H a xs:=by
 rcases h with h | h
 ·exact .inl (.inr h)
 ·exact .inr h
structure Kp (H H1:Hp):Prop where
 t:∀a us,H a=some (.tup us)->H1 a=some (.tup us)
 z:∀a o u,H a=some (.frz o u)->H1 a=some (.frz o u)
theorem Kp.sqT{K:PySem.W.Frag}(k:Kp H H1){a:Addr}{us:List V}(h:SqT K H a us):SqT K H1 a us:=by
 rcases h with(h |⟨o,h⟩) | h
 ·exact .inl (.inl (k.t _ _ h))
 ·exact .inl (.inr ⟨o,k.z _ _ _ h⟩)
 ·exact .inr h
theorem Kp.fzL{K:PySem.W.Frag}(k:Kp H H1){a:Addr}{us:List V}(h:FzL K H a us):FzL K H1 a us:=by
 rcases h with⟨o,h⟩ | h
 ·exact .inl ⟨o,k.z _ _ _ h⟩
 ·exact .inr h
section
variable (K:PySem.W.Frag)
mutual
def RP(H:Hp):PV->V->Prop
 | .non,v=>v=.non
 | .bl b,v=>v=.bl b
 | .int i,v=>v=.int i
 | .str x,v=>v=.str x
 | .ref a,v=>v=.ref a
 | .oth w,v=>v=w
 | .tup l,v=>∃a us,v=.ref a/\SqT K H a us/\RPs H l us
 | .fls l,v=>∃a us,v=.ref a/\FzL K H a us/\RPs H l us
def RPs(H:Hp):List PV->List V->Prop
 | [],us=>us=[]
 | x::l,us=>∃u r,us=u::r/\RP H x u/\RPs H l r
end
mutual
theorem RP.kp{H H1:Hp}(k:Kp H H1):∀{x:PV} {v:V},RP K H x v->RP K H1 x v
 | .non,_,h=>h
 | .bl _,_,h=>h
 | .int _,_,h=>h
 | .str _,_,h=>h
 | .ref _,_,h=>h
 | .oth _,_,h=>h
 | .tup l,v,h=>by
  simp only[RP]at h ⊢;obtain⟨a,us,e,q,r⟩:=h;exact⟨a,us,e,k.sqT q,RPs.kp k r⟩
 | .fls l,v,h=>by
  simp only[RP]at h ⊢;obtain⟨a,us,e,q,r⟩:=h;exact⟨a,us,e,k.fzL q,RPs.kp k r⟩
theorem RPs.kp{H H1:Hp}(k:Kp H H1):∀{l:List PV} {us:List V},RPs K H l us->RPs K H1 l us
 | [],_,h=>h
 | x::l,us,h=>by
  simp only[RPs]at h ⊢;obtain⟨u,r,e,a,b⟩:=h;exact⟨u,r,e,RP.kp k a,RPs.kp k b⟩
end
theorem RPs.nil:RPs K H [] []:=by simp[RPs]
theorem RPs.cons{H:Hp}{x:PV}{l:List PV}{u:V}{us:List V}(a:RP K H x u)(b:RPs K H l us):RPs K H (x::l) (u::us):=by
 simp only[RPs];exact⟨u,us,rfl,a,b⟩
theorem RPs.length{H:Hp}:∀{l:List PV} {us:List V},RPs K H l us->us.length=l.length
 | [],us,h=>by simp only[RPs]at h;subst h;rfl
 | x::l,us,h=>by
  simp only[RPs]at h;obtain⟨u,r,rfl,_,b⟩:=h;simp[RPs.length b]
theorem RPs.get{H:Hp}:∀{l:List PV} {us:List V} {i:Nat} {x:PV},RPs K H l us->l[i]?=some x->∃u,us[i]?=some u/\RP K H x u
 | [],_,_,_,_,e=>by simp at e
 | y::l,us,i,x,h,e=>by
  simp only[RPs]at h;obtain⟨u,r,rfl,a,b⟩:=h;cases i with
  | zero=>simp at e;subst e;exact⟨u,by simp,a⟩
  | succ i=>obtain⟨w,e1,e2⟩:=RPs.get (i:=i) (x:=x) b (by simpa using e);exact⟨w,by simpa using e1,e2⟩
theorem RPs.append{H:Hp}:∀{l m:List PV} {us ws:List V},RPs K H l us->RPs K H m ws->RPs K H (l++m) (us++ws)
 | [],m,us,ws,h,g=>by simp only[RPs]at h;subst h;simpa using g
 | x::l,m,us,ws,h,g=>by
  simp only[RPs]at h;obtain⟨u,r,rfl,a,b⟩:=h;exact RPs.cons K a (RPs.append b g)
theorem RPs.take{H:Hp}:∀{l:List PV} {us:List V} (n:Nat),RPs K H l us->RPs K H (l.take n) (us.take n)
 | [],us,n,h=>by simp only[RPs]at h;subst h;simp[RPs]
 | x::l,us,0,h=>by simp[RPs]
 | x::l,us,n+1,h=>by
  simp only[RPs]at h;obtain⟨u,r,rfl,a,b⟩:=h;exact RPs.cons K a (RPs.take n b)
theorem RPs.drop{H:Hp}:∀{l:List PV} {us:List V} (n:Nat),RPs K H l us->RPs K H (l.drop n) (us.drop n)
 | [],us,n,h=>by simp only[RPs]at h;subst h;simp[RPs]
 | x::l,us,0,h=>h
 | x::l,us,n+1,h=>by
  simp only[RPs]at h;obtain⟨u,r,rfl,a,b⟩:=h;exact RPs.drop n b
theorem RPs.set{H:Hp}{x:PV}{u:V}(a:RP K H x u):∀{l:List PV} {us:List V} (n:Nat),RPs K H l us->RPs K H (l.set n x) (us.set n u)
 | [],us,n,h=>by simp only[RPs]at h;subst h;simp[RPs]
 | y::l,us,0,h=>by
  simp only[RPs]at h;obtain⟨w,r,rfl,_,b⟩:=h;exact RPs.cons K a b
 | y::l,us,n+1,h=>by
  simp only[RPs]at h;obtain⟨w,r,rfl,c,b⟩:=h;exact RPs.cons K c (RPs.set a n b)
theorem RPs.ints{H:Hp}:∀(ns:List Int),RPs K H (ns.map PV.int) (ns.map V.int)
 | []=>by simp[RPs]
 | n::ns=>RPs.cons K (by simp[RP]) (RPs.ints ns)
end
def jW(a C:Addr)(h:Heap):Prop:=∃o,h.get? a=some o/\o.cls=.ref C
inductive PO where
 | exc (C:Addr)
 | lst (l:List PV)
 | ins (C dx:Addr) (fs:List (Str×PV))
 | dK (kvs:List (Key×PV))
 | dT (kvs:List (List Key×PV))
abbrev PHp:=Addr->Option PO
def put(H:PHp)(a:Addr)(o:PO):PHp:=fun b=>if b=a then some o else H b
theorem ah{H:PHp}{a:Addr}{o:PO}:put H a o a=some o:=by unfold put;rw[Fq rfl]
theorem aj{H:PHp}{a b:Addr}{o:PO}(h:b≠a):put H a o b=H b:=by unfold put;rw[Fo h]
theorem aM{H:PHp}{a:Addr}{o u:PO}:put (put H a o) a u=put H a u:=by
 funext b;unfold put;split<;>rfl
theorem ao{H:PHp}{a b:Addr}{o:PO}(h:H a=some o)(h':H b=none):a≠b:=by
 intro e;subst e;rw[h]at h';cases h'
abbrev fh(K:PySem.W.Frag)(H:Hp){κ:Type}:List (κ×PV)->List (κ×V)->Prop:=Paired fun p q=>p.1=q.1/\RP K H p.2 q.2
def OAt(K:PySem.W.Frag)(H:Hp)(a:Addr):PO->Prop
 | .exc C=>H a=some (.ext (jW a C))
 | .lst l=>∃us,H a=some (.lst us)/\RPs K H l us
 | .ins C dx fs=>∃gs,H a=some (.ins C dx gs)/\fh K H fs gs
 | .dK kvs=>∃ws,H a=some (.dK ws)/\fh K H kvs ws
 | .dT kvs=>∃ws,H a=some (.dT ws)/\fh K H kvs ws
abbrev HR(K:PySem.W.Frag)(H':PHp)(H:Hp):Prop:=∀a o,H' a=some o->OAt K H a o
abbrev St':=List (Option PV)
abbrev Bs:=PHp×Hp
def Ev(H':PHp)(H:Hp)(H1':PHp)(H1:Hp):Prop:=∀a o,H a=some o->H' a=none->H1 a=some o/\H1' a=none
structure SR (K:PySem.W.Frag) (B:Bs) (σ':St') (H':PHp) (σ:L2.St) (H:Hp):Prop where
 len:σ'.length=σ.length
 loc:∀(i:Nat) (v':PV),σ'[i]?=some (some v')->∃v,σ[i]?=some (some v)/\RP K H v' v
 hp:HR K H' H
 ev:Ev B.1 B.2 H' H
theorem Ev.refl(H':PHp)(H:Hp):Ev H' H H' H:=fun _ _ h h'=>⟨h,h'⟩
theorem Ev.trans{H':PHp}{H:Hp}{H1':PHp}{H1:Hp}{H2':PHp}{H2:Hp}(a:Ev H' H H1' H1)(b:Ev H1' H1 H2' H2):Ev H' H H2' H2:=fun c o h h'=>by
 obtain⟨p,q⟩:=a c o h h';exact b c o p q
section
variable {K:PySem.W.Frag}
theorem fh.kp{κ:Type}{H H1:Hp}(k:Kp H H1){fs:List (κ×PV)}{gs:List (κ×V)}(h:fh K H fs gs):fh K H1 fs gs:=Paired.mapP h fun _ _ ⟨a,b⟩=>⟨a,RP.kp K k b⟩
theorem OAt.some{H:Hp}{a:Addr}:∀{o:PO},OAt K H a o->∃u,H a=Option.some u/\(∀us,u≠.tup us)/\(∀o us,u≠.frz o us)/\(∀x,u≠.own x)
 | .exc C,e=>⟨_,e,(fun _=>by nofun),(fun _ _=>by nofun),(fun _=>by nofun)⟩
 | .lst l,⟨us,e,_⟩=>⟨_,e,(fun _=>by nofun),(fun _ _=>by nofun),(fun _=>by nofun)⟩
 | .ins C dx fs,⟨us,e,_⟩=>⟨_,e,(fun _=>by nofun),(fun _ _=>by nofun),(fun _=>by nofun)⟩
 | .dK l,⟨us,e,_⟩=>⟨_,e,(fun _=>by nofun),(fun _ _=>by nofun),(fun _=>by nofun)⟩
 | .dT l,⟨us,e,_⟩=>⟨_,e,(fun _=>by nofun),(fun _ _=>by nofun),(fun _=>by nofun)⟩
theorem OAt.keep{H H1:Hp}{a:Addr}(k:Kp H H1)(e:H1 a=H a):∀{o:PO},OAt K H a o->OAt K H1 a o
 | .exc C,h=>e.trans h
 | .lst l,⟨us,h,r⟩=>⟨us,e.trans h,RPs.kp K k r⟩
 | .ins C dx fs,⟨us,h,r⟩=>⟨us,e.trans h,fh.kp k r⟩
 | .dK l,⟨us,h,r⟩=>⟨us,e.trans h,fh.kp k r⟩
 | .dT l,⟨us,h,r⟩=>⟨us,e.trans h,fh.kp k r⟩
theorem HR.tup{H':PHp}{H:Hp}(h:HR K H' H){a:Addr}{us:List V}(e:H a=some (.tup us)):H' a=none:=by
 cases q:H' a with
 | none=>rfl
 | some o=>obtain⟨u,e1,n,_⟩:=(h a o q).some;rw[e]at e1;exact absurd (Fn e1).symm (n us)
theorem HR.frz{H':PHp}{H:Hp}(h:HR K H' H){a:Addr}{o:Obj}{u:HO}(e:H a=some (.frz o u)):H' a=none:=by
 cases q:H' a with
 | none=>rfl
 | some o'=>obtain⟨u',e1,_,n,_⟩:=(h a o' q).some;rw[e]at e1;exact absurd (Fn e1).symm (n o u)
theorem HR.free{H':PHp}{H:Hp}(h:HR K H' H){a:Addr}(e:H a=none):H' a=none:=by
 cases q:H' a with
 | none=>rfl
 | some o=>obtain⟨u,e1,_⟩:=(h a o q).some;rw[e]at e1;cases e1
theorem Ev.kp{H':PHp}{H:Hp}{H1':PHp}{H1:Hp}(e:Ev H' H H1' H1)(h:HR K H' H):Kp H H1 :=
 ⟨fun a us q=>(e a _ q (h.tup q)).1,fun a o u q=>(e a _ q (h.frz q)).1⟩
theorem fU{H:Hp}{p:Addr}{o:HO}(e:H p=none):Kp H (upd H p o) :=
 ⟨fun a us q=>by rw[aJ (aN q e)];exact q,fun a o u q=>by rw[aJ (aN q e)];exact q⟩
theorem ky{H:Hp}{p:Addr}{o u:HO}(e:H p=some u)(n1:∀us,u≠.tup us)(n2:∀o us,u≠.frz o us):Kp H (upd H p o) :=
 ⟨fun a us q=>by rw[aJ (xE q e fun z=>n1 us z.symm)];exact q,fun a o' u' q=>by rw[aJ (xE q e fun z=>n2 o' u' z.symm)];exact q⟩
theorem SR.kp{B:Bs}{σ':St'}{H' H1':PHp}{σ:L2.St}{H H1:Hp}(s:SR K B σ' H' σ H)(e:Ev H' H H1' H1)(h:HR K H1' H1):SR K B σ' H1' σ H1 :=
 ⟨s.len,fun i v' q=>by obtain⟨v,a,b⟩:=s.loc i v' q;exact⟨v,a,RP.kp K (e.kp s.hp) b⟩,h,s.ev.trans e⟩
theorem HR.hid{H':PHp}{H:Hp}{p:Addr}{o:HO}(h:HR K H' H)(e:H p=none):HR K H' (upd H p o):=fun a u q=>by
 have na:a≠p:=by rintro rfl;rw[h.free e]at q;cases q
 exact(h a u q).keep (fU e) (aJ na)
theorem Ev.hid{H':PHp}{H:Hp}{p:Addr}{o:HO}(e:H p=none):Ev H' H H' (upd H p o):=fun a u q n=>⟨by rw[aJ (aN q e)];exact q,n⟩
theorem HR.new{H':PHp}{H:Hp}{p:Addr}{o:HO}{o':PO}(h:HR K H' H)(e:H p=none)(new:OAt K (upd H p o) p o'):HR K (put H' p o') (upd H p o):=fun a u q=>by
 by_cases hp:a=p
 ·subst hp;rw[ah]at q;cases q;exact new
 ·rw[aj hp]at q;exact(h a u q).keep (fU e) (aJ hp)
theorem Ev.new{H':PHp}{H:Hp}{p:Addr}{o:HO}{o':PO}(e:H p=none):Ev H' H (put H' p o') (upd H p o):=fun a u q n=>by
 have na:=aN q e;exact⟨by rw[aJ na];exact q,by rw[aj na];exact n⟩
theorem HR.wr{H':PHp}{H:Hp}{p:Addr}{o:HO}{o' u':PO}(h:HR K H' H)(e:H' p=some u')(new:OAt K (upd H p o) p o'):HR K (put H' p o') (upd H p o):=fun a u q=>by
 obtain⟨v,e1,n1,n2,_⟩:=(h p u' e).some;by_cases hp:a=p
 ·subst hp;rw[ah]at q;cases q;exact new
 ·rw[aj hp]at q;exact(h a u q).keep (ky e1 n1 n2) (aJ hp)
theorem HR.kpw{H':PHp}{H:Hp}{p:Addr}{o:HO}{u':PO}(h:HR K H' H)(e:H' p=some u'):Kp H (upd H p o):=by
 obtain⟨v,e1,n1,n2,_⟩:=(h p u' e).some;exact ky e1 n1 n2
theorem Ev.wr{H':PHp}{H:Hp}{p:Addr}{o:HO}{o' u':PO}(e:H' p=some u'):Ev H' H (put H' p o') (upd H p o):=fun a u q n=>by
 have na:a≠p:=by rintro rfl;rw[e]at n;cases n
 exact⟨by rw[aJ na];exact q,by rw[aj na];exact n⟩
def Sub(A B:PHp):Prop:=∀a o,A a=some o->B a=some o
theorem Sub.refl(A:PHp):Sub A A:=fun _ _ h=>h
theorem Sub.trans{A B C:PHp}(a:Sub A B)(b:Sub B C):Sub A C:=fun c o h=>b c o (a c o h)
theorem Sub.put{A B:PHp}{p:Addr}{o:PO}(a:Sub A B)(n:A p=none):Sub A (put B p o):=fun c u h=>by rw[aj (ao h n)];exact a c u h
theorem Sub.free{A B:PHp}(a:Sub A B){p:Addr}(n:B p=none):A p=none:=by
 cases q:A p with
 | none=>rfl
 | some o=>rw[a p o q]at n;cases n
theorem HR.sub{A B:PHp}{H:Hp}(h:HR K B H)(s:Sub A B):HR K A H:=fun a o e=>h a o (s a o e)
theorem Ev.sub{H':PHp}{H:Hp}{A B:PHp}{H1:Hp}(e:Ev H' H B H1)(s:Sub A B):Ev H' H A H1:=fun a o q n=>by
 obtain⟨x,y⟩:=e a o q n;exact⟨x,s.free y⟩
end
end
section
variable {B:Bs}
abbrev VK':=PV->PHp->Prop
abbrev TE':=St'->PHp->VK'->Prop
abbrev TT':=St'->PHp->(Bool->PHp->Prop)->Prop
abbrev TA':=St'->PHp->(List PV->PHp->Prop)->Prop
abbrev XK':=Value->Option Addr->PHp->Prop
structure cz where
 nx:St'->PHp->Prop
 rt:VK'
 bk:St'->PHp->Prop:=fun _ _=>False
 ct:St'->PHp->Prop:=fun _ _=>False
abbrev TS':=cz->St'->PHp->Prop
abbrev TG':=PV->St'->PHp->(St'->PHp->Prop)->Prop
abbrev gn:=List PV->St'->PHp->(St'->PHp->Prop)->Prop
structure It' where
 items:List PV
 ok:PHp->Prop
abbrev TI':=St'->PHp->(It'->PHp->Prop)->Prop
section
variable (K:PySem.W.Frag)(B:Bs)
def low(t:TE'):TE:=fun σ H Q=>∃σ' H' Q',SR K B σ' H' σ H/\t σ' H' Q'/\∀v' H1' v H1,Q' v' H1'->RP K H1 v' v->SR K B σ' H1' σ H1->Ev H' H H1' H1->Q v H1
def nU(t:TT'):TT:=fun σ H Q=>∃σ' H' Q',SR K B σ' H' σ H/\t σ' H' Q'/\∀b H1' H1,Q' b H1'->SR K B σ' H1' σ H1->Ev H' H H1' H1->Q b H1
def uj(t:TA'):TA:=fun σ H Q=>∃σ' H' Q',SR K B σ' H' σ H/\t σ' H' Q'/\∀vs' H1' vs H1,Q' vs' H1'->RPs K H1 vs' vs->SR K B σ' H1' σ H1->Ev H' H H1' H1->Q vs H1
structure DR (D':cz) (D:Ends) (H':PHp) (H:Hp):Prop where
 nx:∀σ1' H1' σ1 H1,D'.nx σ1' H1'->SR K B σ1' H1' σ1 H1->Ev H' H H1' H1->D.nx σ1 H1
 rt:∀v' H1' v H1,D'.rt v' H1'->RP K H1 v' v->HR K H1' H1->Ev H' H H1' H1->D.rt v H1
 bk:∀σ1' H1' σ1 H1,D'.bk σ1' H1'->SR K B σ1' H1' σ1 H1->Ev H' H H1' H1->D.bk σ1 H1
 ct:∀σ1' H1' σ1 H1,D'.ct σ1' H1'->SR K B σ1' H1' σ1 H1->Ev H' H H1' H1->D.ct σ1 H1
theorem DR.ev{D':cz}{D:Ends}{H':PHp}{H:Hp}{H1':PHp}{H1:Hp}(d:DR K B D' D H' H)(e:Ev H' H H1' H1):DR K B D' D H1' H1 :=
 ⟨fun a b c f p q r=>d.nx a b c f p q (e.trans r),fun a b c f p q r s=>d.rt a b c f p q r (e.trans s),fun a b c f p q r=>d.bk a b c f p q (e.trans r),fun a b c f p q r=>d.ct a b c f p q (e.trans r)⟩
def yQ(t:TS'):TS:=fun D σ H=>∃σ' H' D',SR K B σ' H' σ H/\t D' σ' H'/\DR K B D' D H' H
def lowG(t:TG'):TG:=fun v σ H Q=>∃v' σ' H' Q',RP K H v' v/\SR K B σ' H' σ H/\t v' σ' H' Q'/\∀σ1' H1' σ1 H1,Q' σ1' H1'->SR K B σ1' H1' σ1 H1->Ev H' H H1' H1->Q σ1 H1
def BS(t:gn):TGs:=fun vs σ H Q=>∃vs' σ' H' Q',RPs K H vs' vs/\SR K B σ' H' σ H/\t vs' σ' H' Q'/\∀σ1' H1' σ1 H1,Q' σ1' H1'->SR K B σ1' H1' σ1 H1->Ev H' H H1' H1->Q σ1 H1
structure Walks (H1:Hp) (J:It) (J':It'):Prop where
 go:∀H' H i,Kp H1 H->HR K H' H->J'.ok H'->i<J'.items.length->J.go i H
 yld:∀H' H i x H2,Kp H1 H->HR K H' H->J'.ok H'->J.yld i H x H2->H2=H/\∀x',J'.items[i]?=some x'->RP K H x' x
 stop:∀H' H i,Kp H1 H->HR K H' H->J'.ok H'->J'.items.length≤i->J.stop i H
def C7(t:TI'):TI:=fun σ H R=>∃σ' H' R',SR K B σ' H' σ H/\t σ' H' R'/\∀J' H1' J H1,R' J' H1'->Walks K H1 J J'->SR K B σ' H1' σ H1->Ev H' H H1' H1->R J H1
end
section
variable {X:Cx}
theorem bu{e:Expr}{t1 t2:TE}(h:PE X e t2)(i:∀σ H Q,t1 σ H Q->t2 σ H Q):PE X e t1:=fun pins s σ H Q I q=>h pins s σ H Q I (i σ H Q q)
theorem mU{e:Expr}{t1 t2:TT}(h:PT X e t2)(i:∀σ H Q,t1 σ H Q->t2 σ H Q):PT X e t1:=fun pins s σ H Q I q=>h pins s σ H Q I (i σ H Q q)
theorem sU{e:Expr}{t1 t2:TT}(h:PW X e t2)(i:∀σ H Q,t1 σ H Q->t2 σ H Q):PW X e t1:=fun w pins s σ H Q I q=>h w pins s σ H Q I (i σ H Q q)
theorem uq{e:List Expr}{t1 t2:TA}(h:PA X e t2)(i:∀σ H Q,t1 σ H Q->t2 σ H Q):PA X e t1:=fun p pins s σ H Q I q=>h p pins s σ H Q I (i σ H Q q)
theorem dF{e:Stmt}{t1 t2:TS}(h:PS X e t2)(i:∀D σ H,t1 D σ H->t2 D σ H):PS X e t1:=fun pins s σ H D I q=>h pins s σ H D I (i D σ H q)
theorem oy{e:List Stmt}{t1 t2:TS}(h:PSs X e t2)(i:∀D σ H,t1 D σ H->t2 D σ H):PSs X e t1:=fun pins s σ H D I q=>h pins s σ H D I (i D σ H q)
theorem kf{e:Expr}{t1 t2:TG}(h:PG X e t2)(i:∀v σ H Q,t1 v σ H Q->t2 v σ H Q):PG X e t1:=fun pins s σ H v u Q I r q=>h pins s σ H v u Q I r (i v σ H Q q)
theorem om{e:List Expr}{t1 t2:TGs}(h:PGs X e t2)(i:∀v σ H Q,t1 v σ H Q->t2 v σ H Q):PGs X e t1:=fun pins s σ H v u Q I r q=>h pins s σ H v u Q I r (i v σ H Q q)
theorem iG{tg e:Expr}{t1 t2:TI}(h:PI X tg e t2)(i:∀σ H Q,t1 σ H Q->t2 σ H Q):PI X tg e t1:=fun pins s σ H Q I q=>h pins s σ H Q I (i σ H Q q)
abbrev PE'(X:Cx)(B:Bs)(e:Expr)(t:TE'):Prop:=PE X e (low X.K B t)
abbrev PT'(X:Cx)(B:Bs)(e:Expr)(t:TT'):Prop:=PT X e (nU X.K B t)
abbrev PW'(X:Cx)(B:Bs)(e:Expr)(t:TT'):Prop:=PW X e (nU X.K B t)
abbrev PA'(X:Cx)(B:Bs)(e:List Expr)(t:TA'):Prop:=PA X e (uj X.K B t)
abbrev PS'(X:Cx)(B:Bs)(e:Stmt)(t:TS'):Prop:=PS X e (yQ X.K B t)
abbrev gT(X:Cx)(B:Bs)(e:List Stmt)(t:TS'):Prop:=PSs X e (yQ X.K B t)
abbrev PG'(X:Cx)(B:Bs)(e:Expr)(t:TG'):Prop:=PG X e (lowG X.K B t)
abbrev tK(X:Cx)(B:Bs)(e:List Expr)(t:gn):Prop:=PGs X e (BS X.K B t)
abbrev PI'(X:Cx)(B:Bs)(tg e:Expr)(t:TI'):Prop:=PI X tg e (C7 X.K B t)
structure tS (K:PySem.W.Frag) (H1:Hp) (J:It) (J':It'):Prop where
 go:∀H' H i,Kp H1 H->HR K H' H->J'.ok H'->i<J'.items.length->J.go i H
 yld:∀H' H i x H2,Kp H1 H->HR K H' H->J'.ok H'->J.yld i H x H2->HR K H' H2/\Ev H' H H' H2/\∀x',J'.items[i]?=some x'->RP K H2 x' x
 stop:∀H' H,Kp H1 H->HR K H' H->J'.ok H'->J.stop J'.items.length H
def xV(K:PySem.W.Frag)(B:Bs)(t:TI'):TI:=fun σ H R=>∃σ' H' R',SR K B σ' H' σ H/\t σ' H' R'/\∀J' H1' J H1,R' J' H1'->tS K H1 J J'->SR K B σ' H1' σ H1->Ev H' H H1' H1->R J H1
abbrev PIH(X:Cx)(B:Bs)(tg e:Expr)(t:TI'):Prop:=PI X tg e (xV X.K B t)
theorem Walks.toH{K:PySem.W.Frag}{H1:Hp}{J:It}{J':It'}(w:Walks K H1 J J'):tS K H1 J J':=⟨w.go,fun H' H i x H2 k hr o y=>by
 obtain⟨e,r⟩:=w.yld H' H i x H2 k hr o y;subst e;exact⟨hr,Ev.refl _ _,r⟩,fun H' H k hr o=>w.stop H' H _ k hr o (E2 _)⟩
theorem mw{X:Cx}{tg e:Expr}{t:TI'}(h:PI' X B tg e t):PIH X B tg e t:=iG h fun σ H R q=>by
 obtain⟨σ',H',R',s,h,k⟩:=q;exact⟨σ',H',R',s,h,fun J' H1' J H1 r w=>k J' H1' J H1 r w.toH⟩
def lQ(o:Option (Option PV))(k:PV->Prop):Prop:=match o with
 | some (some v)=>k v
 | _=>False
theorem lQ.ex{o:Option (Option PV)}{k:PV->Prop}(h:lQ o k):∃v,o=some (some v)/\k v:=by
 unfold lQ at h;split at h
 ·exact⟨_,rfl,h⟩
 ·exact h.elim
def az(i:Nat):TE':=fun σ H Q=>lQ σ[i]? fun v=>Q v H
def uC(v:PV):TE':=fun _ H Q=>Q v H
theorem qv(i:Nat){x:Str}{pos:Pos}(hN:X.N[i]?=some x:=by rfl)(hv:Vis X.env.scope x:=by first | exact Or.inl rfl | exact Or.inr (Or.inl rfl) | exact Or.inr (Or.inr rfl))(hd:(x==("__debug__":Str))=false:=by decide)
  (hcd:(x==("__classdict__":Str))=false:=by decide):PE' X B (.Name x pos) (az i):=bu (pv i hN hv hd hcd) fun σ H Q y_=>by
 obtain⟨σ',H',Q',s,h,k⟩:=y_;obtain⟨v',e,q⟩:=h.ex;obtain⟨v,a,b⟩:=s.loc i v' e;exact⟨v,a,k v' H' v H q b s (Ev.refl _ _)⟩
theorem tV{K:PySem.W.Frag}{v':PV}{v:V}(r:∀H,RP K H v' v){σ:L2.St}{H:Hp}{Q:VK}(h:low K B (uC v') σ H Q):tC v σ H Q:=by
 obtain⟨σ',H',Q',s,h,k⟩:=h;exact k v' H' v H h (r H) s (Ev.refl _ _)
theorem af{i j pos}:PE' X B (.Constant (.int i) j pos) (uC (.int i)):=bu ym fun _ _ _ h=>tV (fun _=>by simp[RP]) h
theorem oh{i j pos}:PE' X B (.Constant (.bool i) j pos) (uC (.bl i)):=bu BI fun _ _ _ h=>tV (fun _=>by simp[RP]) h
theorem bJ{i j pos}:PE' X B (.Constant (.str i) j pos) (uC (.str i)):=bu uT fun _ _ _ h=>tV (fun _=>by simp[RP]) h
theorem yV{j pos}:PE' X B (.Constant .none j pos) (uC .non):=bu zK fun _ _ _ h=>tV (fun _=>by simp[RP]) h
theorem xl{x:Str}{v':PV}{v:V}{u:Value}{pos:Pos}(hg:Gl X x)(hm:X.mg x=some u)(r:RelV v u)(r':∀H,RP X.K H v' v)(hd:(x==("__debug__":Str))=false:=by decide):PE' X B (.Name x pos) (uC v') :=
 bu (oC hg hm r hd) fun _ _ _ h=>tV r' h
abbrev R2':=PV->PV->PHp->VK'->Prop
def VR(K:PySem.W.Frag)(B:Bs)(r':R2')(r:R2):Prop:=∀(σ':St') (σ:L2.St) (H':PHp) (H:Hp) x' y' x y (Q':VK') (Q:VK),SR K B σ' H' σ H->RP K H x' x->RP K H y' y->r' x' y' H' Q' ->
 (∀v' H1' v H1,Q' v' H1'->RP K H1 v' v->SR K B σ' H1' σ H1->Ev H' H H1' H1->Q v H1)->r x y H Q
def uOp(r:R2')(ta tb:TE'):TE':=fun σ H Q=>ta σ H fun x H1=>tb σ H1 fun y H2=>r x y H2 Q
theorem ku{K:PySem.W.Frag}{r':R2'}{r:R2}{ta tb:TE'}(v:VR K B r' r){σ:L2.St}{H:Hp}{Q:VK}(h:low K B (uOp r' ta tb) σ H Q):tOp r (low K B ta) (low K B tb) σ H Q:=by
 obtain⟨σ',H',Q',s,h,k⟩:=h;refine⟨σ',H',_,s,h,fun x' H1' x H1 h1 rx s1 e1=>⟨σ',H1',_,s1,h1,fun y' H2' y H2 h2 ry s2 e2=>?_⟩⟩;exact v σ' σ H2' H2 x' y' x y Q' Q s2 (RP.kp K (e2.kp s1.hp) rx) ry h2 fun v' H3' v H3 q rv s3 e3=>k v' H3' v H3 q rv s3 (e1.trans (e2.trans e3))
variable {a b c:Expr}{ta tb tc:TE'}{pos:Pos}
theorem fC{op:Operator}{r':R2'}{r:R2}(ho:OpR X (binaryOp op) r)(v:VR X.K B r' r)(ha:PE' X B a ta)(hb:PE' X B b tb):PE' X B (.BinOp a op b pos) (uOp r' ta tb):=bu (CF ho ha hb) fun _ _ _ h=>ku v h
theorem cy{op:CmpOp}{r':R2'}{r:R2}(ho:OpR X (compareOp op) r)(v:VR X.K B r' r)(ha:PE' X B a ta)(hb:PE' X B b tb)(hm:behindInMarks op b=false):PE' X B (.Compare a [op] [b] pos) (uOp r' ta tb) :=
 bu (wZ ho ha hb hm) fun _ _ _ h=>ku v h
def cif(b:Bool)(A B:Prop):Prop:=match b with
 | true=>A
 | false=>B
theorem uM{A B:Prop}:cif true A B=A:=rfl
theorem sA{A B:Prop}:cif false A B=B:=rfl
theorem aU{b:Bool}{A B:Prop}(h1:b=true->A)(h2:b=false->B):cif b A B:=by
 cases b
 ·exact h2 rfl
 ·exact h1 rfl
theorem bM{b:Bool}{A B:Prop}(h:b=true)(h1:A):cif b A B:=by subst h;exact h1
theorem bw{b:Bool}{A B:Prop}(h:b=false)(h1:B):cif b A B:=by subst h;exact h1
def eK(x:PV)(k:Bool->Prop):Prop:=match x with
 | .bl b=>k b
 | _=>False
theorem eK.ex{x:PV}{k:Bool->Prop}(h:eK x k):∃v,x=.bl v/\k v:=by
 unfold eK at h;split at h
 ·exact⟨_,rfl,h⟩
 ·exact h.elim
def cc(x:PV)(k:Int->Prop):Prop:=match x with
 | .int i=>k i
 | _=>False
theorem cc.ex{x:PV}{k:Int->Prop}(h:cc x k):∃v,x=.int v/\k v:=by
 unfold cc at h;split at h
 ·exact⟨_,rfl,h⟩
 ·exact h.elim
def bY(t:TE'):TT':=fun σ H Q=>t σ H fun x H1=>eK x fun b=>Q b H1
theorem me{K:PySem.W.Frag}{t:TE'}{σ:L2.St}{H:Hp}{Q:Bool->Hp->Prop}(h:nU K B (bY t) σ H Q):xC (low K B t) σ H Q:=by
 obtain⟨σ',H',Q',s,h,k⟩:=h;refine⟨σ',H',_,s,h,fun x' H1' x H1 h1 rx s1 e1=>?_⟩;obtain⟨b,rfl,q⟩:=h1.ex;simp only[RP]at rx;exact⟨b,rx,k b H1' H1 q s1 e1⟩
theorem eY{e:Expr}{t:TE'}(h:PE' X B e t)(he:∀whole,isTrue e X.env whole=(do let v←whole;standAt e.pos;holding [v] (truthy v)):=by intro _;rfl):PT' X B e (bY t):=mU (zU h he) fun _ _ _ h=>me h
theorem aP{op:CmpOp}{r':R2'}{r:R2}(ho:OpR X (compareOp op) r)(v:VR X.K B r' r)(ha:PE' X B a ta)(hb:PE' X B b tb)(hm:behindInMarks op b=false):PT' X B (.Compare a [op] [b] pos) (bY (uOp r' ta tb)) :=
 mU (wq ho ha hb hm) fun _ _ _ h=>by
  obtain⟨σ',H',Q',s,h,k⟩:=me h;exact ku v ⟨σ',H',Q',s,h,k⟩
def mC(r r':R2')(ta tb tc:TE'):TE':=fun σ H Q=>ta σ H fun x H1=>tb σ H1 fun y H2=>r x y H2 fun z H3=>eK z fun k=>cif k (tc σ H3 fun w' H4=>r' y w' H4 Q) (Q (.bl false) H3)
theorem qt{K:PySem.W.Frag}{r1' r2':R2'}{r1 r2:R2}{ta tb tc:TE'}(v1:VR K B r1' r1)(v2:VR K B r2' r2){σ:L2.St}{H:Hp}{Q:VK}(h:low K B (mC r1' r2' ta tb tc) σ H Q):tR r1 r2 (low K B ta) (low K B tb) (low K B tc) σ H Q:=by
 obtain⟨σ',H',Q',s,h,k⟩:=h;refine⟨σ',H',_,s,h,fun x' H1' x H1 h1 rx s1 e1=>⟨σ',H1',_,s1,h1,fun y' H2' y H2 h2 ry s2 e2=>?_⟩⟩;refine v1 σ' σ H2' H2 x' y' x y _ _ s2 (RP.kp K (e2.kp s1.hp) rx) ry h2 fun z' H3' z H3 q rz s3 e3=>?_;obtain⟨b,rfl,q⟩:=q.ex;simp only[RP]at rz;refine⟨b,rz,?_⟩;cases b with
 | false =>
  have q':Q' (.bl false) H3':=q;exact jL (k _ H3' _ H3 q' (by simp[RP]) s3 (e1.trans (e2.trans e3)))
 | true =>
  have q':tc σ' H3' fun w' H4=>r2' y' w' H4 Q':=q;refine jK ⟨σ',H3',_,s3,q',fun w' H4' w H4 h4 rw4 s4 e4=>?_⟩;exact v2 σ' σ H4' H4 y' w' y w Q' Q s4 (RP.kp K (e4.kp s3.hp) (RP.kp K (e3.kp s2.hp) ry)) rw4 h4 fun v' H5' v H5 q5 rv s5 e5=>k v' H5' v H5 q5 rv s5 (e1.trans (e2.trans (e3.trans (e4.trans e5))))
theorem kH{op op':CmpOp}{r1' r2':R2'}{r1 r2:R2}(ho:OpR X (compareOp op) r1)(v1:VR X.K B r1' r1)(ho':OpR X (compareOp op') r2)(v2:VR X.K B r2' r2)(ha:PE' X B a ta)(hb:PE' X B b tb)(hc:PE' X B c tc)
  (hm:lastMarks [op,op'] [b,c]=false:=by with_unfolding_all rfl):PE' X B (.Compare a [op,op'] [b,c] pos) (mC r1' r2' ta tb tc):=bu (tL ho ho' ha hb hc hm) fun _ _ _ h=>qt v1 v2 h
def uI(C:Int->Int->Prop)(g:Int->Int->PV):R2':=fun x y H Q=>cc x fun i=>cc y fun j=>C i j/\Q (g i j) H
def uI0(g:Int->Int->PV):R2':=fun x y H Q=>cc x fun i=>cc y fun j=>Q (g i j) H
theorem uG{K:PySem.W.Frag}{C:Int->Int->Prop}{g':Int->Int->PV}{g:Int->Int->V}(r:∀i j H,RP K H (g' i j) (g i j)):VR K B (uI C g') (rI C g):=by
 intro σ' σ H' H x' y' x y Q' Q s rx ry h k;obtain⟨i,rfl,h1⟩:=cc.ex h;obtain⟨j,rfl,hc,h⟩:=cc.ex h1;simp only[RP]at rx ry;exact⟨i,j,rx,ry,hc,k _ H' _ H h (r i j H) s (Ev.refl _ _)⟩
theorem gI{K:PySem.W.Frag}{g':Int->Int->PV}{g:Int->Int->V}(r:∀i j H,RP K H (g' i j) (g i j)):VR K B (uI0 g') (rI0 g):=by
 intro σ' σ H' H x' y' x y Q' Q s rx ry h k;obtain⟨i,rfl,h1⟩:=cc.ex h;obtain⟨j,rfl,h⟩:=cc.ex h1;simp only[RP]at rx ry;exact⟨i,j,rx,ry,k _ H' _ H h (r i j H) s (Ev.refl _ _)⟩
abbrev pY:R2':=uI0 fun i j=>.int (i+j)
abbrev By:R2':=uI0 fun i j=>.int (i - j)
abbrev uLt:R2':=uI0 fun i j=>.bl (decide (i<j))
abbrev uLe:R2':=uI0 fun i j=>.bl (decide (i≤j))
abbrev uGt:R2':=uI0 fun i j=>.bl (decide (j<i))
abbrev uGe:R2':=uI0 fun i j=>.bl (decide (j≤i))
def Fit(i:Int):Prop:=i.natAbs.log2<9000
def gJ(i j:Int):Prop:=zC i j∨(Fit i/\Fit j)
def oM(i j:Int):Prop:=j≠0/\Fit j
theorem gJ.ok{i j:Int}(h:gJ i j):IntMulOk i j:=by
 rcases h with h |⟨h1,h2⟩
 ·exact h.ok
 ·unfold IntMulOk;have e:∀x:Int,Fit x->Builtin.Int.intBits x≤9000:=fun x hx=>by
   unfold Builtin.Int.intBits Fit at *;split<;>omega
  have e1:=e i h1;have e2:=e j h2;have e3:Builtin.Int.intTooBig (Builtin.Int.intBits i+Builtin.Int.intBits j)=false:=by
   unfold Builtin.Int.intTooBig;refine FZ ?_;show ¬(bitsLine:Int)<_;have hb:(18000:Nat)≤bitsLine:=by decide +kernel
   omega
  rw[e3];simp
abbrev CK:R2':=uI gJ fun i j=>.int (i*j)
abbrev eG:R2':=uI oM fun i j=>.int (i.fdiv j)
theorem vk{X:Cx}:OpR X (binaryOp .Mult) (rI gJ fun i j=>.int (i*j)):=opI fun _ _ _ _ _ _ _ hc q=>mul_int q hc.ok
theorem rP{X:Cx}:OpR X (binaryOp .FloorDiv) (rI oM fun i j=>.int (i.fdiv j)):=opI fun _ _ _ _ _ _ _ hc q=>floordiv_int hc.1 q (.inl (PyProof.noPylong_of_log2 hc.2))
abbrev eJ:R2':=uI (fun _ j=>j≠0) fun i j=>.int (i.fmod j)
abbrev AQ:R2':=uI xf fun i j=>.int (i ^ j.toNat)
theorem bI(ha:PE' X B a ta)(hb:PE' X B b tb):PE' X B (.BinOp a .Add b pos) (uOp pY ta tb):=fC za (gI fun _ _ _=>by simp[RP]) ha hb
theorem ki(ha:PE' X B a ta)(hb:PE' X B b tb):PE' X B (.BinOp a .Sub b pos) (uOp By ta tb):=fC Az (gI fun _ _ _=>by simp[RP]) ha hb
theorem bQ(ha:PE' X B a ta)(hb:PE' X B b tb):PE' X B (.BinOp a .Mult b pos) (uOp CK ta tb):=fC vk (uG fun _ _ _=>by simp[RP]) ha hb
theorem aV(ha:PE' X B a ta)(hb:PE' X B b tb):PE' X B (.BinOp a .FloorDiv b pos) (uOp eG ta tb):=fC rP (uG fun _ _ _=>by simp[RP]) ha hb
theorem aY(ha:PE' X B a ta)(hb:PE' X B b tb):PE' X B (.BinOp a .Mod b pos) (uOp eJ ta tb):=fC vo (uG fun _ _ _=>by simp[RP]) ha hb
theorem Aj(ha:PE' X B a ta)(hb:PE' X B b tb):PE' X B (.BinOp a .Pow b pos) (uOp AQ ta tb):=fC Aq (uG fun _ _ _=>by simp[RP]) ha hb
theorem fA{K:PySem.W.Frag}:VR K B uLt (rI0 fun i j=>.bl (decide (i<j))):=gI fun _ _ _=>by simp[RP]
theorem jB{K:PySem.W.Frag}:VR K B uLe (rI0 fun i j=>.bl (decide (i≤j))):=gI fun _ _ _=>by simp[RP]
theorem lj{K:PySem.W.Frag}:VR K B uGt (rI0 fun i j=>.bl (decide (j<i))):=gI fun _ _ _=>by simp[RP]
theorem rS{K:PySem.W.Frag}:VR K B uGe (rI0 fun i j=>.bl (decide (j≤i))):=gI fun _ _ _=>by simp[RP]
end
end
section
variable {B:Bs}
section
variable {X:Cx}{a b c e o:Expr}{es rest:List Expr}{ta tb tc:TE'}{tA tB:TT'}{t:TA'}{pos:Pos}
def rE(t u:TT'):TT':=fun σ H Q=>t σ H fun c H1=>cif c (u σ H1 Q) (Q false H1)
def uOr(t u:TT'):TT':=fun σ H Q=>t σ H fun c H1=>cif c (Q true H1) (u σ H1 Q)
def wB(t:TT'):TT':=fun σ H Q=>t σ H fun c H1=>Q (!c) H1
theorem hU(ha:PT' X B a tA):PW' X B (.BoolOp .And [a] pos) tA:=wc ha
theorem uH(ha:PT' X B a tA):PW' X B (.BoolOp .Or [a] pos) tA:=yZ ha
theorem jS(ha:PT' X B a tA)(hb:PW' X B (.BoolOp .And (b::rest) pos) tB):PW' X B (.BoolOp .And (a::b::rest) pos) (rE tA tB):=sU (yj ha hb) fun σ H Q y_=>by
 obtain⟨σ',H',Q',s,h,k⟩:=y_;refine⟨σ',H',_,s,h,fun x H1' H1 h1 s1 e1=>?_⟩;cases x with
 | true=>exact jK ⟨σ',H1',_,s1,h1,fun y H2' H2 h2 s2 e2=>k y H2' H2 h2 s2 (e1.trans e2)⟩
 | false=>exact jL (k false H1' H1 h1 s1 e1)
theorem xQ(ha:PT' X B a tA)(hb:PW' X B (.BoolOp .Or (b::rest) pos) tB):PW' X B (.BoolOp .Or (a::b::rest) pos) (uOr tA tB):=sU (Bv ha hb) fun σ H Q y_=>by
 obtain⟨σ',H',Q',s,h,k⟩:=y_;refine⟨σ',H',_,s,h,fun x H1' H1 h1 s1 e1=>?_⟩;cases x with
 | false=>exact jL ⟨σ',H1',_,s1,h1,fun y H2' H2 h2 s2 e2=>k y H2' H2 h2 s2 (e1.trans e2)⟩
 | true=>exact jK (k true H1' H1 h1 s1 e1)
theorem eP(h:PW' X B e tA):PT' X B e tA:=PW.pt h
theorem gw(ha:PT' X B a tA):PT' X B (.UnaryOp .Not a pos) (wB tA):=mU (yq ha) fun σ H Q ⟨σ',H',Q',s,h,k⟩=>⟨σ',H',_,s,h,fun x H1' H1 h1 s1 e1=>k _ H1' H1 h1 s1 e1⟩
def lE(ta tb:TE'):TE':=fun σ H Q=>ta σ H fun x H1=>eK x fun c=>cif c (tb σ H1 Q) (Q (.bl false) H1)
def EI(ta tb:TE'):TE':=fun σ H Q=>ta σ H fun x H1=>eK x fun c=>cif c (Q (.bl true) H1) (tb σ H1 Q)
def kR(ta:TE'):TE':=fun σ H Q=>ta σ H fun x H1=>eK x fun c=>Q (.bl (!c)) H1
theorem dU{op}(h:PE' X B a ta):PE' X B (.BoolOp op [a] pos) ta:=AD h
theorem cP(ha:PE' X B a ta)(hb:PE' X B (.BoolOp .And (b::rest) pos) tb):PE' X B (.BoolOp .And (a::b::rest) pos) (lE ta tb):=bu (zE ha hb) fun σ H Q y_=>by
 obtain⟨σ',H',Q',s,h,k⟩:=y_;refine⟨σ',H',_,s,h,fun x H1' v H1 h1 r1 s1 e1=>?_⟩;obtain⟨y,rfl,h1⟩:=h1.ex;simp only[RP]at r1;refine⟨y,r1,?_⟩;cases y with
 | true=>exact jK ⟨σ',H1',_,s1,h1,fun y H2' v2 H2 h2 r2 s2 e2=>k y H2' v2 H2 h2 r2 s2 (e1.trans e2)⟩
 | false=>exact jL (k _ H1' _ H1 h1 (by simp[RP]) s1 e1)
theorem Ag(ha:PE' X B a ta):PE' X B (.UnaryOp .Not a pos) (kR ta):=bu (yB ha) fun σ H Q y_=>by
 obtain⟨σ',H',Q',s,h,k⟩:=y_;refine⟨σ',H',_,s,h,fun x H1' v H1 h1 r1 s1 e1=>?_⟩;obtain⟨y,rfl,h1⟩:=h1.ex;simp only[RP]at r1;exact⟨y,r1,k _ H1' _ H1 h1 (by simp[RP]) s1 e1⟩
def uIf(t:TT')(ta tb:TE'):TE':=fun σ H Q=>t σ H fun c H1=>cif c (ta σ H1 Q) (tb σ H1 Q)
def uUn(r:PV->PHp->VK'->Prop)(ta:TE'):TE':=fun σ H Q=>ta σ H fun x H1=>r x H1 Q
theorem c9(ha:PE' X B a ta):PE' X B (.UnaryOp .USub a pos) (uUn (fun x H Q=>cc x fun i=>Q (.int (-i)) H) ta):=bu (BB zg ha) fun σ H Q y_=>by
 obtain⟨σ',H',Q',s,h,k⟩:=y_;refine⟨σ',H',_,s,h,fun x H1' v H1 h1 r1 s1 e1=>?_⟩;obtain⟨i,rfl,h1⟩:=cc.ex h1;simp only[RP]at r1;exact⟨i,r1,k _ H1' _ H1 h1 (by simp[RP]) s1 e1⟩
def aX:TA':=fun _ H Q=>Q [] H
def av(ta:TE')(tr:TA'):TA':=fun σ H Q=>ta σ H fun x H1=>tr σ H1 fun xs H2=>Q (x::xs) H2
theorem ae:PA' X B [] aX:=uq gf fun σ H Q ⟨σ',H',Q',s,h,k⟩=>k [] H' [] H h (RPs.nil _) s (Ev.refl _ _)
theorem aa(ha:PE' X B e ta)(hr:PA' X B es t)(hs:starEach (e::es) X.env=(false,eval e X.env)::starEach es X.env:=by rfl):PA' X B (e::es) (av ta t):=uq (dk ha hr hs) fun σ H Q y_=>by
 obtain⟨σ',H',Q',s,h,k⟩:=y_;refine⟨σ',H',_,s,h,fun x H1' v H1 h1 r1 s1 e1=>⟨σ',H1',_,s1,h1,fun xs H2' vs H2 h2 r2 s2 e2=>?_⟩⟩;exact k _ H2' _ H2 h2 (RPs.cons _ (RP.kp _ (e2.kp s1.hp) r1) r2) s2 (e1.trans e2)
def gS(t:TA'):TE':=fun σ H Q=>t σ H fun xs H1=>xs.length≤sizeLine/\Q (.tup xs) H1
def ck(t:TA'):TE':=fun σ H Q=>t σ H fun xs H1=>xs.length≤sizeLine/\∀p,H1 p=none->Q (.ref p) (put H1 p (.lst xs))
theorem SR.hid{K:PySem.W.Frag}{σ':St'}{σ:L2.St}{H':PHp}{H:Hp}{p:Addr}{o:HO}(s:SR K B σ' H' σ H)(n:H p=none):SR K B σ' H' σ (upd H p o):=s.kp (Ev.hid n) (s.hp.hid n)
theorem SR.new{K:PySem.W.Frag}{σ':St'}{σ:L2.St}{H':PHp}{H:Hp}{p:Addr}{o:HO}{o':PO}(s:SR K B σ' H' σ H)(n:H p=none)(w:OAt K (upd H p o) p o'):SR K B σ' (put H' p o') σ (upd H p o):=s.kp (Ev.new n) (s.hp.new n w)
theorem SR.wr{K:PySem.W.Frag}{σ':St'}{σ:L2.St}{H':PHp}{H:Hp}{p:Addr}{o:HO}{o' u':PO}(s:SR K B σ' H' σ H)(n:H' p=some u')(w:OAt K (upd H p o) p o'):SR K B σ' (put H' p o') σ (upd H p o):=s.kp (Ev.wr n) (s.hp.wr n w)
theorem sP{K:PySem.W.Frag}{H:Hp}{p:Addr}{xs:List PV}{us:List V}(n:H p=none)(r:RPs K H xs us):RP K (upd H p (.tup us)) (.tup xs) (.ref p):=by
 simp only[RP];exact⟨p,us,rfl,SqT.of bC,RPs.kp K (fU n) r⟩
theorem mE{K:PySem.W.Frag}{H:Hp}{p:Addr}{xs:List PV}{us:List V}(n:H p=none)(r:RPs K H xs us):OAt K (upd H p (.lst us)) p (.lst xs):=⟨us,bC,RPs.kp K (fU n) r⟩
theorem wrL{K:PySem.W.Frag}{H':PHp}{H:Hp}{p:Addr}{u':PO}{xs:List PV}{us:List V}(h:HR K H' H)(n:H' p=some u')(r:RPs K H xs us):OAt K (upd H p (.lst us)) p (.lst xs):=⟨us,bC,RPs.kp K (h.kpw n) r⟩
theorem aR{x1}(h:PA' X B es t):PE' X B (.Tuple es x1 pos) (gS t):=bu (An h) fun σ H Q y_=>by
 obtain⟨σ',H',Q',s,h,k⟩:=y_;refine⟨σ',H',_,s,h,fun xs H1' us H1 h1 r1 s1 e1=>⟨by rw[RPs.length _ r1];exact h1.1,fun p n=>?_⟩⟩;exact k _ H1' _ _ h1.2 (sP n r1) (s1.hid n) (e1.trans (Ev.hid n))
theorem aF(h:PA' X B es t):PE' X B (.List es pos) (ck t):=bu (zL h) fun σ H Q y_=>by
 obtain⟨σ',H',Q',s,h,k⟩:=y_;refine⟨σ',H',_,s,h,fun xs H1' us H1 h1 r1 s1 e1=>⟨by rw[RPs.length _ r1];exact h1.1,fun p n=>?_⟩⟩;exact k _ _ _ _ (h1.2 p (s1.hp.free n)) (by simp[RP]) (s1.new n (mE n r1)) (e1.trans (Ev.new n))
def bR(x:PV)(H:PHp)(k:List PV->Prop):Prop:=match x with
 | .tup l=>k l
 | .fls l=>k l
 | .ref a=>∃l,H a=some (.lst l)/\k l
 | _=>False
theorem bR.ex{K:PySem.W.Frag}{σ':St'}{σ:L2.St}{x:PV}{v:V}{H':PHp}{H:Hp}{k:List PV->Prop}(h:bR x H' k)(s:SR K B σ' H' σ H)(r:RP K H x v):∃l us p,v=.ref p/\RPs K H l us/\(SqL K H p us∨SqT K H p us)/\k l:=by
 unfold bR at h;split at h
 ·simp only[RP]at r;obtain⟨a,us,e,q,r⟩:=r;exact⟨_,us,a,e,r,.inr q,h⟩
 ·simp only[RP]at r;obtain⟨a,us,e,q,r⟩:=r;exact⟨_,us,a,e,r,.inl q.sq,h⟩
 ·simp only[RP]at r;obtain⟨l,e,h⟩:=h;obtain⟨us,q,r2⟩:=s.hp _ _ e;exact⟨l,us,_,r,r2,.inl (SqL.of q),h⟩
 ·exact h.elim
theorem yh{K:PySem.W.Frag}{H:Hp}{l:List PV}{us:List V}{i:Int}{x:PV}(r:RPs K H l us)(e:atI l i=some x):∃u,atI us i=some u/\RP K H x u:=by
 unfold atI at e ⊢;rw[RPs.length _ r];cases q:ixN l.length i with
 | none=>rw[q]at e;cases e
 | some j =>
  rw[q]at e;obtain⟨u,e1,e2⟩:=RPs.get _ r (show l[j]?=some x from e);exact⟨u,e1,e2⟩
def di(o:Option PV)(k:PV->Prop):Prop:=match o with
 | some v=>k v
 | none=>False
theorem di.ex{o:Option PV}{k:PV->Prop}(h:di o k):∃v,o=some v/\k v:=by
 unfold di at h;split at h
 ·exact⟨_,rfl,h⟩
 ·exact h.elim
def uIx:R2':=fun x y H Q=>bR x H fun l=>cc y fun i=>di (atI l i) fun v=>Q v H
theorem wA{X:Cx}:IxR X (fun x y H Q=>AB X.K x y H Q∨yR X.K x y H Q):=xj.or zS
theorem CD{K:PySem.W.Frag}:VR K B uIx (fun x y H Q=>AB K x y H Q∨yR K x y H Q):=by
 intro σ' σ H' H x' y' x y Q' Q s rx ry h k;obtain⟨l,us,p,rfl,r,q,h1⟩:=bR.ex h s rx;obtain⟨i,rfl,h2⟩:=cc.ex h1;obtain⟨v,e,h3⟩:=di.ex h2;simp only[RP]at ry;obtain⟨u,e1,e2⟩:=yh r e;have:=k v H' u H h3 e2 s (Ev.refl _ _);rcases q with q | q
 ·exact .inl ⟨p,us,i,u,rfl,ry,q,e1,this⟩
 ·exact .inr ⟨p,us,i,u,rfl,ry,q,e1,this⟩
theorem aC(ha:PE' X B a ta)(hb:PE' X B b tb)(hs:px b):PE' X B (.Subscript a b pos) (uOp uIx ta tb):=bu (AV wA ha hb hs) fun _ _ _ h=>ku CD h
abbrev TO':=St'->PHp->(Option Int->PHp->Prop)->Prop
def Eu(K:PySem.W.Frag)(B:Bs)(t:TO'):TO:=fun σ H Q=>∃σ' H' Q',SR K B σ' H' σ H/\t σ' H' Q'/\∀b H1' H1,Q' b H1'->SR K B σ' H1' σ H1->Ev H' H H1' H1->Q b H1
abbrev PO'(X:Cx)(B:Bs)(e:Option Expr)(t:TO'):Prop:=L2.PO X e (Eu X.K B t)
theorem rX{e:Option Expr}{t1 t2:TO}(h:L2.PO X e t2)(i:∀σ H Q,t1 σ H Q->t2 σ H Q):L2.PO X e t1:=fun pins s σ H Q I q=>h pins s σ H Q I (i σ H Q q)
def eO:TO':=fun _ H Q=>Q none H
def gE(t:TE'):TO':=fun σ H Q=>t σ H fun x H1=>cc x fun i=>Q (some i) H1
theorem dm:PO' X B none eO:=rX vh fun σ H Q ⟨σ',H',Q',s,h,k⟩=>k none H' H h s (Ev.refl _ _)
theorem cL(h:PE' X B e ta):PO' X B (some e) (gE ta):=rX (wx h) fun σ H Q y_=>by
 obtain⟨σ',H',Q',s,h,k⟩:=y_;refine⟨σ',H',_,s,h,fun x H1' v H1 h1 r1 s1 e1=>?_⟩;obtain⟨i,rfl,h1⟩:=cc.ex h1;simp only[RP]at r1;exact⟨i,r1,k _ H1' H1 h1 s1 e1⟩
def cX(xs:List PV)(lo hi:Option Int):List PV:=(xs.drop (HT.sIx xs.length 0 lo)).take (HT.sIx xs.length xs.length hi - HT.sIx xs.length 0 lo)
theorem mv{K:PySem.W.Frag}{H:Hp}{l:List PV}{us:List V}{lo hi:Option Int}(r:RPs K H l us):RPs K H (cX l lo hi) (l8 us lo hi):=by
 unfold cX l8;rw[RPs.length _ r];exact RPs.take _ _ (RPs.drop _ _ r)
def sliceOf(x:PV)(lo hi:Option Int)(H3:PHp)(Q:VK'):Prop:=match x with
 | .fls l=>∀p,H3 p=none->Q (.ref p) (put H3 p (.lst (cX l lo hi)))
 | .ref a=>∃l,H3 a=some (.lst l)/\∀p,H3 p=none->Q (.ref p) (put H3 p (.lst (cX l lo hi)))
 | .tup l=>¬(HT.sIx l.length 0 lo=0/\HT.sIx l.length l.length hi=l.length)/\Q (.tup (cX l lo hi)) H3
 | _=>False
def fg(ta:TE')(tl th:TO'):TE':=fun σ H Q=>ta σ H fun x H1=>tl σ H1 fun lo H2=>th σ H2 fun hi H3=>sliceOf x lo hi H3 Q
theorem cG{lo hi:Option Expr}{tl th:TO'}{p2:Pos}(he:PE' X B e ta)(hl:PO' X B lo tl)(hu:PO' X B hi th):PE' X B (.Subscript e (.Slice lo hi none p2) pos) (fg ta tl th) :=
 bu (uZ (wF.or Ai) he hl hu) fun σ H Q y_=>by
 obtain⟨σ',H',Q',s,h,k⟩:=y_;refine⟨σ',H',_,s,h,fun x H1' v H1 h1 r1 s1 e1=>⟨σ',H1',_,s1,h1,fun l H2' H2 h2 s2 e2=>⟨σ',H2',_,s2,h2,fun u H3' H3 h3 s3 e3=>?_⟩⟩⟩;have r3:=RP.kp _ (e3.kp s2.hp) (RP.kp _ (e2.kp s1.hp) r1);have e123:=e1.trans (e2.trans e3);cases x with
 | fls xs =>
  simp only[RP]at r3;obtain⟨a,us,e,q,r⟩:=r3;refine .inl ⟨a,us,e,q.sq,fun p n=>?_⟩;exact k _ _ _ _ (h3 p (s3.hp.free n)) (by simp[RP]) (s3.new n (mE n (mv r))) (e123.trans (Ev.new n))
 | ref a =>
  simp only[RP]at r3;obtain⟨xs,q,h3⟩:=h3;obtain⟨us,q2,r⟩:=s3.hp _ _ q;refine .inl ⟨a,us,r3,SqL.of q2,fun p n=>?_⟩;exact k _ _ _ _ (h3 p (s3.hp.free n)) (by simp[RP]) (s3.new n (mE n (mv r))) (e123.trans (Ev.new n))
 | tup xs =>
  simp only[RP]at r3;obtain⟨a,us,e,q,r⟩:=r3;refine .inr ⟨a,us,e,q,by rw[RPs.length _ r];exact h3.1,fun p n=>?_⟩;exact k _ _ _ _ h3.2 (sP n (mv r)) (s3.hid n) (e123.trans (Ev.hid n))
 | _=>exact h3.elim
def VC(K:PySem.W.Frag)(B:Bs)(r':List PV->PHp->VK'->Prop)(r:List V->Hp->VK->Prop):Prop:=∀(σ':St') (σ:L2.St) (H':PHp) (H:Hp) xs' xs (Q':VK') (Q:VK),SR K B σ' H' σ H->RPs K H xs' xs->r' xs' H' Q' ->
 (∀v' H1' v H1,Q' v' H1'->RP K H1 v' v->SR K B σ' H1' σ H1->Ev H' H H1' H1->Q v H1)->r xs H Q
def uCB(r:List PV->PHp->VK'->Prop)(t:TA'):TE':=fun σ H Q=>t σ H fun vs H1=>r vs H1 Q
theorem vc{K:PySem.W.Frag}{r':List PV->PHp->VK'->Prop}{r:List V->Hp->VK->Prop}{t:TA'}(v:VC K B r' r){σ:L2.St}{H:Hp}{Q:VK}(h:low K B (uCB r' t) σ H Q):tCB r (uj K B t) σ H Q:=by
 obtain⟨σ',H',Q',s,h,k⟩:=h;exact⟨σ',H',_,s,h,fun xs' H1' xs H1 h1 rx s1 e1=>v σ' σ H1' H1 xs' xs Q' Q s1 rx h1 fun v' H3' v H3 q rv s3 e3=>k v' H3' v H3 q rv s3 (e1.trans e3)⟩
variable {x:Str}{p:Pos}
theorem aB{id:String}{r':List PV->PHp->VK'->Prop}{r:List V->Hp->VK->Prop}(hc:cU X (.builtin id) r)(v:VC X.K B r' r)(hg:Gl X x)(hm:X.mg x=none)(hv:bootBuiltins x=some (.builtin id))(ha:PA' X B (e::es) t)
  (hn:x≠"__name__":=by decide) (hdb:(x==("__debug__":Str))=false:=by decide) (he:starEach (e::es) X.env=(false,eval e X.env)::starEach es X.env:=by rfl) (hpl:(backTo pos (starEach es X.env)).any (·.1)=false:=by rfl) :
  PE' X B (.Call (.Name x p) (e::es) [] pos) (uCB r' t):=bu (fD hc hg hm hv ha hn hdb he hpl) fun _ _ _ h=>vc v h
theorem aE{id:String}{r':List PV->PHp->VK'->Prop}{r:List V->Hp->VK->Prop}(hc:cU X (.type id) r)(v:VC X.K B r' r)(hg:Gl X x)(hm:X.mg x=none)(hv:bootBuiltins x=some (.type id))(ha:PA' X B (e::es) t)
  (hn:x≠"__name__":=by decide) (hdb:(x==("__debug__":Str))=false:=by decide) (he:starEach (e::es) X.env=(false,eval e X.env)::starEach es X.env:=by rfl) (hpl:(backTo pos (starEach es X.env)).any (·.1)=false:=by rfl) :
  PE' X B (.Call (.Name x p) (e::es) [] pos) (uCB r' t):=bu (jq hc hg hm hv ha hn hdb he hpl) fun _ _ _ h=>vc v h
def du(f:PV->PHp->VK'->Prop):List PV->PHp->VK'->Prop:=fun xs H Q=>match xs with
 | [x]=>f x H Q
 | _=>False
theorem du.ex{K:PySem.W.Frag}{H:Hp}{f:PV->PHp->VK'->Prop}{xs':List PV}{xs:List V}{H':PHp}{Q':VK'}(h:du f xs' H' Q')(r:RPs K H xs' xs):∃x' x,xs'=[x']/\xs=[x]/\RP K H x' x/\f x' H' Q':=by
 unfold du at h;split at h
 ·simp only[RPs]at r;obtain⟨u,r,rfl,q,rfl⟩:=r;exact⟨_,u,rfl,rfl,q,h⟩
 ·exact h.elim
def j0:List PV->PHp->VK'->Prop:=du fun x H Q=>bR x H fun l=>Q (.int l.length) H
theorem bG{K:PySem.W.Frag}:VC K B j0 (fun xs H Q=>∃p ys,xs=[.ref p]/\(SqL K H p ys∨SqT K H p ys)/\Q (.int ys.length) H):=by
 intro σ' σ H' H xs' xs Q' Q s r h k;obtain⟨x',x,rfl,rfl,rx,h⟩:=du.ex h r;obtain⟨l,us,p,rfl,r,q,h⟩:=bR.ex h s rx;exact⟨p,us,rfl,q,k _ H' _ H h (by simp[RP,RPs.length _ r]) s (Ev.refl _ _)⟩
def As:List PV->PHp->VK'->Prop:=du fun x H Q=>cc x fun i=>Q (.int (if i<0 then -i else i)) H
theorem nz{K:PySem.W.Frag}:VC K B As (fun xs H Q=>∃i,xs=[.int i]/\Q (.int (if i<0 then -i else i)) H):=by
 intro σ' σ H' H xs' xs Q' Q s r h k;obtain⟨x',x,rfl,rfl,rx,h⟩:=du.ex h r;obtain⟨i,rfl,h⟩:=cc.ex h;simp only[RP]at rx;subst rx;exact⟨i,rfl,k _ H' _ H h (by simp[RP]) s (Ev.refl _ _)⟩
def b2n(b:Bool):Int:=if b then 1 else 0
def intOf(x:PV)(k:Int->Prop):Prop:=match x with
 | .int i=>k i
 | .bl b=>k (b2n b)
 | _=>False
def yE:List PV->PHp->VK'->Prop:=du fun x H Q=>intOf x fun i=>Q (.int i) H
theorem rV{K:PySem.W.Frag}:VC K B yE (fun xs H Q=>(∃i,xs=[.int i]/\Q (.int i) H)∨∃k,xs=[.bl k]/\Q (.int (if k then 1 else 0)) H):=by
 intro σ' σ H' H xs' xs Q' Q s r h k;obtain⟨x',x,rfl,rfl,rx,h⟩:=du.ex h r;cases x' with
 | int i=>simp only[RP]at rx;subst rx;exact .inl ⟨i,rfl,k _ H' _ H h (by simp[RP]) s (Ev.refl _ _)⟩
 | bl i=>simp only[RP]at rx;subst rx;exact .inr ⟨i,rfl,k _ H' _ H h (by simp[RP,b2n]) s (Ev.refl _ _)⟩
 | _=>exact h.elim
def jI:List PV->PHp->VK'->Prop:=du fun x H Q=>bR x H fun l=>∀p,H p=none->Q (.ref p) (put H p (.lst l))
theorem cu{K:PySem.W.Frag}:VC K B jI (fun xs H Q=>∃p ys,xs=[.ref p]/\(SqL K H p ys∨SqT K H p ys)/\∀l,H l=none->Q (.ref l) (upd H l (.lst ys))):=by
 intro σ' σ H' H xs' xs Q' Q s r h k;obtain⟨x',x,rfl,rfl,rx,h⟩:=du.ex h r;obtain⟨l,us,p,rfl,r,q,h⟩:=bR.ex h s rx;exact⟨p,us,rfl,q,fun p n=>k _ _ _ _ (h p (s.hp.free n)) (by simp[RP]) (s.new n (mE n r)) (Ev.new n)⟩
def tG:List PV->PHp->VK'->Prop:=du fun x H Q=>bR x H fun l=>Q (.tup l) H
theorem bx{K:PySem.W.Frag}:VC K B tG (fun xs H Q=>∃p ys,xs=[.ref p]/\((SqL K H p ys/\∀l,H l=none->Q (.ref l) (upd H l (.tup ys)))∨(SqT K H p ys/\Q (.ref p) H))):=by
 intro σ' σ H' H xs' xs Q' Q s r h k;obtain⟨x',x,rfl,rfl,rx,h⟩:=du.ex h r;obtain⟨l,us,p,rfl,r,q,h⟩:=bR.ex h s rx;refine⟨p,us,rfl,?_⟩;rcases q with q | q
 ·exact .inl ⟨q,fun p n=>k _ _ _ _ h (sP n r) (s.hid n) (Ev.hid n)⟩
 ·exact .inr ⟨q,k _ _ _ _ h (by simp only[RP];exact⟨p,us,rfl,q,r⟩) s (Ev.refl _ _)⟩
end
end
section
variable {B:Bs}
section
variable {X:Cx}{a b c e o:Expr}{es:List Expr}{ta tb te:TE'}{tA tB:TT'}{st:Stmt}{sts:List Stmt}{t u:TS'}{pos:Pos}
def cI:TS':=fun D σ H=>D.nx σ H
def bZ(t u:TS'):TS':=fun D σ H=>t { D with nx:=u D } σ H
theorem aL:gT X B [] cI:=oy we fun D σ H ⟨σ',H',D',s,h,d⟩=>d.nx _ _ _ _ h s (Ev.refl _ _)
theorem ag(h1:PS' X B st t)(h2:gT X B sts u):gT X B (st::sts) (bZ t u):=oy (uk h1 h2) fun D σ H ⟨σ',H',D',s,h,d⟩ =>
 ⟨σ',H',_,s,h,fun σ1' H1' σ1 H1 h1 s1 e1=>⟨σ1',H1',D',s1,h1,d.ev _ _ e1⟩,d.rt,d.bk,d.ct⟩
theorem ar(h1:PS' X B st t):gT X B [st] t:=oA h1
def yL:TS':=fun D σ H=>D.bk σ H
def AY:TS':=fun D σ H=>D.ct σ H
def gF(te:TE'):TS':=fun D σ H=>te σ H fun _ H1=>D.nx σ H1
theorem bH(he:PE' X B e te)(hs:swapsWith e none pos.line X.env=pure false:=by rfl):PS' X B (.Expr e pos) (gF te):=dF (vE he hs) fun D σ H ⟨σ',H',D',s,h,d⟩ =>
 ⟨σ',H',_,s,h,fun v' H1' v H1 h1 r1 s1 e1=>d.nx _ _ _ _ h1 s1 e1⟩
def rh(te:TE'):TS':=fun D σ H=>te σ H D.rt
theorem aO(he:PE' X B e te):PS' X B (.Return (some e) pos) (rh te):=dF (zR he) fun D σ H ⟨σ',H',D',s,h,d⟩ =>
 ⟨σ',H',_,s,h,fun v' H1' v H1 h1 r1 s1 e1=>d.rt _ _ _ _ h1 r1 s1.hp e1⟩
def xm:TS':=fun D _ H=>D.rt .non H
def d9(c:TT')(t u:TS'):TS':=fun D σ H=>c σ H fun b H1=>cif b (t D σ H1) (u D σ H1)
theorem bh{l1 l2:List Stmt}(hc:PT' X B c tA)(ha:gT X B l1 t)(hb:gT X B l2 u):PS' X B (.If c l1 l2 pos) (d9 tA t u):=dF (Bc hc ha hb) fun D σ H y_=>by
 obtain⟨σ',H',D',s,h,d⟩:=y_;refine⟨σ',H',_,s,h,fun x H1' H1 h1 s1 e1=>?_⟩;cases x with
 | true=>exact jK ⟨σ',H1',D',s1,h1,d.ev _ _ e1⟩
 | false=>exact jL ⟨σ',H1',D',s1,h1,d.ev _ _ e1⟩
def zx:TS':=fun _ _ _=>False
theorem cJ:gT X B sts zx:=fun _ _ _ _ _ _ ⟨_,_,_,_,h,_⟩=>h.elim
def bc(i:Nat):TG':=fun v σ H Q=>Q (σ.set i (some v)) H
theorem SR.set{K:PySem.W.Frag}{σ':St'}{H':PHp}{σ:L2.St}{H:Hp}{v':PV}{v:V}(s:SR K B σ' H' σ H)(r:RP K H v' v)(i:Nat):SR K B (σ'.set i (some v')) H' (σ.set i (some v)) H:=by
 refine⟨by simp[s.len],fun j w e=>?_,s.hp,s.ev⟩;by_cases hj:i=j
 ·subst hj;have hl:i<σ'.length:=by
   rcases Nat.lt_or_ge i σ'.length with h | h
   ·exact h
   ·rw[FN (by simpa using h)]at e;cases e
  rw[FA hl]at e;cases e;exact⟨v,FA (by rw[←s.len];exact hl),r⟩
 ·rw[Gm hj]at e ⊢;exact s.loc j w e
theorem aw{i:Nat}{x:Str}(hN:X.N.Nodup)(hi:X.N[i]?=some x)(hx:Loc X.env.scope x)(hf:X.fn x=true∨X.env.scope.names.lookup x=some .local:=by first | exact .inl rfl | exact .inr rfl | assumption):PG' X B (.Name x pos) (bc i) :=
 kf (vQ hN hi hx hf) fun v σ H Q ⟨v',σ',H',Q',r,s,h,k⟩=>k _ _ _ _ h (s.set r i) (Ev.refl _ _)
def nQ:gn:=fun vs σ H Q=>vs=[]/\Q σ H
def eA(t:TG')(u:gn):gn:=fun vs σ H Q=>match vs with
 | v::r=>t v σ H fun σ' H'=>u r σ' H' Q
 | []=>False
theorem cV:tK X B [] nQ:=om xc fun vs σ H Q y_=>by
 obtain⟨v',σ',H',Q',r,s,h,k⟩:=y_;obtain⟨rfl,h⟩:=h;simp only[RPs]at r;exact⟨r,k _ _ _ _ h s (Ev.refl _ _)⟩
theorem aW{t:TG'}{u:gn}(h1:PG' X B e t)(h2:tK X B es u)(hs:(assignEach (e::es) X.env).map (·.2)=assign e X.env::(assignEach es X.env).map (·.2):=by rfl):tK X B (e::es) (eA t u) :=
 om (sH h1 h2 hs) fun vs σ H Q y_=>by
 obtain⟨vs',σ',H',Q',r,s,h,k⟩:=y_;cases vs' with
 | nil=>exact h.elim
 | cons v' r' =>
  simp only[RPs]at r;obtain⟨v,w,rfl,rv,rw'⟩:=r;refine⟨v,w,rfl,v',σ',H',_,rv,s,h,fun σ1' H1' σ1 H1 h1 s1 e1=>⟨r',σ1',H1',Q',RPs.kp _ (e1.kp s.hp) rw',s1,h1,fun σ2' H2' σ2 H2 h2 s2 e2=>k _ _ _ _ h2 s2 (e1.trans e2)⟩⟩
def sW(n:Nat)(t:gn):TG':=fun v σ H Q=>match v with
 | .tup l=>l.length=n/\t l σ H Q
 | _=>False
theorem eE{k:Nat}{t:gn}{n:Nat}(hc:X.calm=true)(h:tK X B es t)(hn:(assignEach es X.env).length=n:=by rfl)(hst:(assignEach es X.env).findIdx? (·.1)=none:=by rfl):PG' X B (.Tuple es k pos) (sW n t) :=
 kf (y4 hc h hn hst) fun v σ H Q y_=>by
 obtain⟨v',σ',H',Q',r,s,h,k⟩:=y_;cases v' with
 | tup l =>
  obtain⟨hl,h⟩:=h;simp only[RP]at r;obtain⟨a,us,rfl,q,r⟩:=r;exact⟨a,us,rfl,q,by rw[RPs.length _ r];exact hl,l,σ',H',Q',r,s,h,k⟩
 | _=>exact h.elim
def cj(te:TE')(g:TG'):TS':=fun D σ H=>te σ H fun x H1=>g x σ H1 D.nx
theorem vO{K:PySem.W.Frag}{te:TE'}{g:TG'}{D:Ends}{σ:L2.St}{H:Hp}(h:yQ K B (cj te g) D σ H):wz (low K B te) (lowG K B g) D σ H:=by
 obtain⟨σ',H',D',s,h,d⟩:=h;exact⟨σ',H',_,s,h,fun x H1' v H1 h1 r1 s1 e1=>⟨x,σ',H1',_,r1,s1,h1,fun σ2' H2' σ2 H2 h2 s2 e2=>d.nx _ _ _ _ h2 s2 (e1.trans e2)⟩⟩
theorem cp{tg:Expr}{g:TG'}(he:PE' X B e te)(hg:PG' X B tg g)(hs:swapsWithSole [tg] e pos.line X.env=pure false:=by rfl)(hw:swappedStores [tg] e X.env=pure none:=by rfl)
  (h1:(assignEach [tg] X.env).map (·.2)=[assign tg X.env]:=by rfl):PS' X B (.Assign [tg] e pos) (cj te g):=dF (yU he hg hs hw h1) fun _ _ _ h=>vO h
theorem ax{i:Nat}{x:Str}{pos':Pos}(hN:X.N.Nodup)(hi:X.N[i]?=some x)(hx:Loc X.env.scope x)(he:PE' X B e te)(hs:swapsWith e (some (.Name x pos')) pos.line X.env=pure false:=by rfl)(hf:X.fn x=true∨X.env.scope.names.lookup x=some .local:=by first | exact .inl rfl | exact .inr rfl | assumption) :
  PS' X B (.Assign [.Name x pos'] e pos) (cj te (bc i)):=dF (uD hN hi hx he hs hf) fun D σ H h=>by
 obtain⟨σ',H',D',s,h,d⟩:=h;exact⟨σ',H',_,s,h,fun x H1' v H1 h1 r1 s1 e1=>d.nx _ _ _ _ h1 (s1.set r1 i) e1⟩
def uv(c:TT')(tb:TS'):TS':=fun D σ H=>∃W:Nat->St'->PHp->Prop,(∃m,W m σ H)/\∀m σ H,W m σ H ->
 c σ H fun b H1=>cif b (∃N:St'->PHp->Prop,(∀σ' H',N σ' H'->∃m',m'<m/\W m' σ' H')/\tb { D with nx:=N,ct:=N,bk:=D.nx } σ H1) (D.nx σ H1)
theorem kW{body:List Stmt}(hp:PassesOwn (model X.prog X.w) X.A X.env X.xe)(hc:PT' X B c tA)(hb:gT X B body t):PS' X B (.While c body [] pos) (uv tA t):=dF (uy hp hc hb) fun D σ H y_=>by
 obtain⟨σ',H',D',s,⟨W,⟨m0,w0⟩,turn⟩,d⟩:=y_;refine⟨fun m σ1 H1=>∃σ1' H1',SR X.K B σ1' H1' σ1 H1/\Ev H' H H1' H1/\W m σ1' H1',⟨m0,σ',H',s,Ev.refl _ _,w0⟩,?_⟩;rintro m σ1 H1 ⟨σ1',H1',s1,e1,w1⟩;refine⟨σ1',H1',_,s1,turn m σ1' H1' w1,fun x H2' H2 h2 s2 e2=>?_⟩;cases x with
 | false=>exact jL (d.nx _ _ _ _ h2 s2 (e1.trans e2))
 | true =>
  obtain⟨N,hN,h2⟩:=(show ∃N:St'->PHp->Prop,_ from h2);refine jK ⟨fun σ3 H3=>∃σ3' H3',SR X.K B σ3' H3' σ3 H3/\Ev H' H H3' H3/\N σ3' H3',?_,σ1',H2',_,s2,h2,?_,?_,?_,?_⟩
  ·rintro σ3 H3 ⟨σ3',H3',s3,e3,n3⟩;obtain⟨m',hm,w'⟩:=hN _ _ n3;exact⟨m',hm,σ3',H3',s3,e3,w'⟩
  ·intro σ3' H3' σ3 H3 n3 s3 e3;exact⟨σ3',H3',s3,(e1.trans e2).trans e3,n3⟩
  ·intro v' H3' v H3 n3 r3 s3 e3;exact d.rt _ _ _ _ n3 r3 s3 ((e1.trans e2).trans e3)
  ·intro σ3' H3' σ3 H3 n3 s3 e3;exact d.nx _ _ _ _ n3 s3 ((e1.trans e2).trans e3)
  ·intro σ3' H3' σ3 H3 n3 s3 e3;exact⟨σ3',H3',s3,(e1.trans e2).trans e3,n3⟩
theorem iz{c:TT'}{tb:TS'}{D:cz}{σ:St'}{H:PHp}(Pv:Nat->St'->PHp->Prop)(m0:Nat)(h0:Pv m0 σ H)
  (hs:∀m σ H,Pv m σ H->c σ H fun b H1=>cif b (∃N:St'->PHp->Prop,(∀σ' H',N σ' H'->∃m',m'<m/\Pv m' σ' H')/\tb { D with nx:=N,ct:=N,bk:=D.nx } σ H1) (D.nx σ H1)):uv c tb D σ H:=⟨Pv,⟨m0,h0⟩,hs⟩
def dD(ok:PHp->Prop)(g:TG')(tb:TS')(D:cz):List PV->St'->PHp->Prop
 | [],σ,H=>ok H/\D.nx σ H
 | x::r,σ,H=>ok H/\g x σ H fun σ2 H2=>tb { D with nx:=dD ok g tb D r,ct:=dD ok g tb D r,bk:=D.nx } σ2 H2
def qa(wi:TI')(g:TG')(tb:TS'):TS':=fun D σ H=>wi σ H fun J H1=>dD J.ok g tb D J.items σ H1
theorem wH{t:TS'}{iter tg:Expr}{body:List Stmt}{wi:TI'}{g:TG'}(hp:PassesOwn (model X.prog X.w) X.A X.env X.xe)(hc:X.calm=true)(hi:PIH X B tg iter wi)(hg:PG' X B tg g)(hb:gT X B body t)
  (hs:∀x,foldedSetIterable iter X.env x=pure x:=by intro _;rfl):PS' X B (.For tg iter body [] pos) (qa wi g t):=dF (ze hp hc hi hg hb hs) fun D σ H y_=>by
 obtain⟨σ',H',D',s,h,d⟩:=y_;refine⟨σ',H',_,s,h,fun J' H1' J H1 h1 wk s1 e1=>?_⟩;refine⟨fun i m σ2 H2=>i≤J'.items.length/\m=J'.items.length - i/\∃σ2' H2',SR X.K B σ2' H2' σ2 H2/\Ev H1' H1 H2' H2/\dD J'.ok g t D' (J'.items.drop i) σ2' H2',⟨J'.items.length,FP _,by simp,σ',H1',s1,Ev.refl _ _,h1⟩,?_⟩;rintro i m σ2 H2 ⟨hi,rfl,σ2',H2',s2,e2,h2⟩;have k2:=e2.kp s1.hp;by_cases hlt:i<J'.items.length
 ·obtain⟨x',hx⟩:∃x',J'.items[i]?=some x':=⟨_,EO hlt⟩;have hd:J'.items.drop i=x'::J'.items.drop (i+1):=by
   rw[Gh hlt];rw[EO hlt]at hx;cases hx;rfl
  rw[hd]at h2;obtain⟨ok2,h2⟩:=(show J'.ok H2'/\_ from h2);refine .inr ⟨wk.go H2' H2 i k2 s2.hp ok2 hlt,fun σ3 H3=>∃σ3' H3',SR X.K B σ3' H3' σ3 H3/\Ev H1' H1 H3' H3/\dD J'.ok g t D' (J'.items.drop (i+1)) σ3' H3',?_,fun x H3 y=>?_⟩
  ·rintro σ3 H3 ⟨σ3',H3',s3,e3,h3⟩;exact⟨J'.items.length - (i+1),by omega,hlt,rfl,σ3',H3',s3,e3,h3⟩
  ·obtain⟨hr3,ev3,rx⟩:=wk.yld H2' H2 i x H3 k2 s2.hp ok2 y;have s2b:=s2.kp ev3 hr3;have e2b:=e2.trans ev3;refine⟨x',σ2',H2',_,rx x' hx,s2b,h2,fun σ3' H3' σ3 H3 h3 s3 e3=>⟨σ3',H3',_,s3,h3,?_,?_,?_,?_⟩⟩
   ·intro σ4' H4' σ4 H4 h4 s4 e4;exact⟨σ4',H4',s4,e2b.trans (e3.trans e4),h4⟩
   ·intro v' H4' v H4 h4 r4 s4 e4;exact d.rt _ _ _ _ h4 r4 s4 (e1.trans (e2b.trans (e3.trans e4)))
   ·intro σ4' H4' σ4 H4 h4 s4 e4;exact d.nx _ _ _ _ h4 s4 (e1.trans (e2b.trans (e3.trans e4)))
   ·intro σ4' H4' σ4 H4 h4 s4 e4;exact⟨σ4',H4',s4,e2b.trans (e3.trans e4),h4⟩
 ·have hi':i=J'.items.length:=by omega
  subst hi';rw[List.drop_length]at h2;obtain⟨ok2,h2⟩:=(show J'.ok H2'/\_ from h2);exact .inl ⟨wk.stop H2' H2 k2 s2.hp ok2,d.nx _ _ _ _ h2 s2 (e1.trans e2)⟩
theorem cx{iter tg:Expr}{body:List Stmt}{wi:TI'}{g:TG'}(hp:PassesOwn (model X.prog X.w) X.A X.env X.xe)(hc:X.calm=true)(hi:PI' X B tg iter wi)(hg:PG' X B tg g)(hb:gT X B body t)
  (hs:∀x,foldedSetIterable iter X.env x=pure x:=by intro _;rfl):PS' X B (.For tg iter body [] pos) (qa wi g t):=wH hp hc (mw hi) hg hb hs
def sV(x:PV)(H1:PHp)(R:It'->PHp->Prop):Prop:=match x with
 | .tup l=>R ⟨l,fun _=>True⟩ H1
 | .fls l=>R ⟨l,fun _=>True⟩ H1
 | .ref a=>∃l,H1 a=some (.lst l)/\R ⟨l,fun H=>H a=some (.lst l)⟩ H1
 | _=>False
def l7(ta:TE'):TI':=fun σ H R=>ta σ H fun x H1=>sV x H1 R
def Dr(K:PySem.W.Frag)(tl:TE):TI:=fun σ H R=>tl σ H fun x H1=>∃a,x=.ref a/\((∃xs,SqL K H1 a xs)/\R (Itl K a) H1∨(∃xs,SqT K H1 a xs)/\R (Itt K a) H1)
theorem Av{tg l:Expr}{tl:TE}(hl:PE X l tl):PI X tg l (Dr X.K tl):=by
 intro pins s σ H R I h;refine thn (hl pins s σ H _ I h) fun v s1 y_=>?_;obtain⟨x,H1,I1,r1,q1⟩:=y_;obtain⟨a,e,⟨⟨xs,hq⟩,q⟩ |⟨⟨xs,hq⟩,q⟩⟩:=q1
 ·subst e;cases r1;obtain⟨its,rv,p,hz⟩:=I1.list hq;refine wpAny_pyIter_list p.isList ?_;refine⟨s1.heap.objs.size,[s1.heap.objs.size],_,_,H1,rfl,I1.kept (t':=s1.toks) fun b o e=>ET _ e,qJ a _,⟨_,E9 _ rfl,rfl,rfl⟩,fun b hb=>?_,q⟩;have e:b=s1.heap.objs.size:=by simpa using hb
  subst e;exact I1.fpOk (E2 _) (I1.hok.fresh (E2 _))
 ·subst e;cases r1;obtain⟨its,rv,p,hz⟩:=I1.tuple hq;refine wpAny_pyIter_tuple (show s1.heap.IsTuple a its.toArray from p) ?_;refine⟨s1.heap.objs.size,[s1.heap.objs.size],_,_,H1,rfl,I1.kept (t':=s1.toks) fun b o e=>ET _ e,nB a _,⟨_,E9 _ rfl,rfl,rfl⟩,fun b hb=>?_,q⟩;have e:b=s1.heap.objs.size:=by simpa using hb
  subst e;exact I1.fpOk (E2 _) (I1.hok.fresh (E2 _))
theorem ik{K:PySem.W.Frag}{H1:Hp}{J':It'}{a:Addr}(h:∀H' H,Kp H1 H->HR K H' H->J'.ok H'->∃us,SqL K H a us/\RPs K H J'.items us):Walks K H1 (Itl K a) J' where
 go:=fun H' H i k s o hi=>by
  obtain⟨us,q,r⟩:=h H' H k s o;obtain⟨u,e,_⟩:=RPs.get _ r (EO hi);exact⟨us,u,q,e⟩
 yld:=fun H' H i x H2 k s o y=>by
  obtain⟨us,q,r⟩:=h H' H k s o;refine⟨y.1,fun x' hx=>?_⟩;obtain⟨u,e,ru⟩:=RPs.get _ r hx;have:=y.2 us q;rw[e]at this;cases this;exact ru
 stop:=fun H' H i k s o hi=>by
  obtain⟨us,q,r⟩:=h H' H k s o;exact⟨us,q,by rw[RPs.length _ r];exact hi⟩
theorem qf{K:PySem.W.Frag}{H1:Hp}{J':It'}{a:Addr}(h:∀H' H,Kp H1 H->HR K H' H->J'.ok H'->∃us,SqT K H a us/\RPs K H J'.items us):Walks K H1 (Itt K a) J' where
 go:=fun H' H i k s o hi=>by
  obtain⟨us,q,r⟩:=h H' H k s o;obtain⟨u,e,_⟩:=RPs.get _ r (EO hi);exact⟨us,u,q,e⟩
 yld:=fun H' H i x H2 k s o y=>by
  obtain⟨us,q,r⟩:=h H' H k s o;refine⟨y.1,fun x' hx=>?_⟩;obtain⟨u,e,ru⟩:=RPs.get _ r hx;have:=y.2 us q;rw[e]at this;cases this;exact ru
 stop:=fun H' H i k s o hi=>by
  obtain⟨us,q,r⟩:=h H' H k s o;exact⟨us,q,by rw[RPs.length _ r];exact hi⟩
theorem br{tg:Expr}(ha:PE' X B a ta):PI' X B tg a (l7 ta):=iG (Av ha) fun σ H R y_=>by
 obtain⟨σ',H',R',s,h,k⟩:=y_;refine⟨σ',H',_,s,h,fun x' H1' x H1 h1 r1 s1 e1=>?_⟩;cases x' with
 | tup l =>
  simp only[RP]at r1;obtain⟨p,us,rfl,q,r⟩:=r1;exact⟨p,rfl,.inr ⟨⟨us,q⟩,k _ H1' _ H1 h1 (qf fun _ H2 k2 _ _=>⟨us,k2.sqT q,RPs.kp _ k2 r⟩) s1 e1⟩⟩
 | fls l =>
  simp only[RP]at r1;obtain⟨p,us,rfl,q,r⟩:=r1;exact⟨p,rfl,.inl ⟨⟨us,q.sq⟩,k _ H1' _ H1 h1 (ik fun _ H2 k2 _ _=>⟨us,(k2.fzL q).sq,RPs.kp _ k2 r⟩) s1 e1⟩⟩
 | ref p =>
  simp only[RP]at r1;obtain⟨l,q,h1⟩:=h1;obtain⟨us,q2,r⟩:=s1.hp _ _ q;refine⟨p,r1,.inl ⟨⟨us,SqL.of q2⟩,k _ H1' _ H1 h1 (ik fun H2' H2 k2 s2 o2=>?_) s1 e1⟩⟩;obtain⟨us2,q3,r3⟩:=s2 _ _ o2;exact⟨us2,SqL.of q3,r3⟩
 | _=>exact h1.elim
def cW(lo:Int)(n:Nat):List PV:=(List.range n).map fun k=>PV.int (lo+(k:Nat))
theorem ra{K:PySem.W.Frag}{H1:Hp}{lo:Int}{n:Nat}:Walks K H1 (Itr lo n) ⟨cW lo n,fun _=>True⟩ where
 go:=fun H' H i k s o hi=>by
  have h:i<n:=by simpa[cW]using hi
  exact h
 yld:=fun H' H i x H2 k s o y=>by
  obtain⟨e,rfl⟩:=y;refine⟨e,fun x' hx=>?_⟩;simp only[cW,E7]at hx;cases q:(List.range n)[i]? with
  | none=>rw[q]at hx;cases hx
  | some j =>
   rw[q]at hx;obtain⟨h1,h2⟩:=EV.mp q;rw[List.getElem_range]at h2;subst h2;cases hx;simp[RP]
 stop:=fun H' H i k s o hi=>by
  have h:n≤i:=by simpa[cW]using hi
  exact h
def vg(vs:List PV)(H1:PHp)(R:It'->PHp->Prop):Prop:=match vs with
 | [.int j]=>(-(2 ^ 62)≤j/\j<2 ^ 62)/\R ⟨cW 0 j.toNat,fun _=>True⟩ H1
 | _=>False
def tE(t:TA'):TI':=fun σ H R=>t σ H fun vs H1=>vg vs H1 R
def yp(vs:List PV)(H1:PHp)(R:It'->PHp->Prop):Prop:=match vs with
 | [.int i,.int j]=>(-(2 ^ 62)≤i/\i<2 ^ 62/\-(2 ^ 62)≤j/\j<2 ^ 62)/\R ⟨cW i (j - i).toNat,fun _=>True⟩ H1
 | _=>False
def Co(t:TA'):TI':=fun σ H R=>t σ H fun vs H1=>yp vs H1 R
theorem bE{tg:Expr}{t:TA'}{p:Pos}(hg:Gl X "range")(hm:X.mg "range"=none)(ha:PA' X B [a] t)(hs:starEach [a] X.env=[(false,eval a X.env)]:=by rfl):PI' X B tg (.Call (.Name "range" p) [a] [] pos) (tE t) :=
 iG (q0 hg hm ha hs) fun σ H R y_=>by
 obtain⟨σ',H',R',s,h,k⟩:=y_;refine⟨σ',H',_,s,h,fun vs' H1' vs H1 h1 r1 s1 e1=>?_⟩;unfold vg at h1;split at h1
 ·rename_i j;simp only[RPs,RP]at r1;obtain⟨u,r,rfl,rfl,rfl⟩:=r1;exact⟨j,rfl,h1.1.1,h1.1.2,k _ H1' _ H1 h1.2 ra s1 e1⟩
 ·exact h1.elim
end
end
section
variable {B:Bs}
abbrev Sp':=List PV->PHp->VK'->XK'->Prop
def fG(K:PySem.W.Frag)(sp:Sp'):Sp:=fun vs H Q E=>∃vs' H' Q' E',RPs K H vs' vs/\HR K H' H/\sp vs' H' Q' E'/\(∀v' H1' v H1,Q' v' H1'->RP K H1 v' v->HR K H1' H1->Ev H' H H1' H1->Q v H1) /\
 (∀c d H1' H1,E' c d H1'->HR K H1' H1->Ev H' H H1' H1->E c d H1)
abbrev aT(P:Program)(w:World)(K:PySem.W.Frag)(mg:Str->Option Value)(base:Heap)(CX:CXT)(k:Nat)(f:Addr)(fd:FuncData)(ps:List Str)(sp:Sp'):Prop:=fI P w K mg base CX k f fd ps (fG K sp)
def cZ(N:List Str)(vs:List PV):St':=vs.map some++List.replicate (N.length - vs.length) none
theorem lM{K:PySem.W.Frag}{N:List Str}{vs':List PV}{vs:List V}{H':PHp}{H:Hp}(r:RPs K H vs' vs)(h:HR K H' H):SR K (H',H) (cZ N vs') H' (L2.start N vs) H:=by
 have hl:=RPs.length _ r;refine⟨by simp[cZ,L2.start,hl],fun i v' e=>?_,h,Ev.refl _ _⟩;unfold cZ at e;unfold L2.start;by_cases hi:i<vs'.length
 ·rw[FJ (by simpa using hi)]at e;rw[FJ (by simpa[hl]using hi)];rw[E7]at e ⊢;cases q:vs'[i]? with
  | none=>rw[q]at e;cases e
  | some w =>
   rw[q]at e;cases e;obtain⟨u,e1,e2⟩:=RPs.get _ r q;exact⟨u,by rw[e1];rfl,e2⟩
 ·rw[FI (by simpa using hi)]at e;rw[List.getElem?_replicate]at e;split at e<;>cases e
def ends(Q:VK'):cz where
 nx:=fun _ H=>∃H3,Sub H3 H/\Q .non H3
 rt:=fun v H=>∃H3,Sub H3 H/\Q v H3
section
variable {P:Program}{w:World}{K:PySem.W.Frag}{mg:Str->Option Value}{base:Heap}
theorem okU{x qual:Str}{st:Stmt}{f:Addr}{fd:FuncData}{N ps:List Str}{k:Nat}{sp:Sp'}(F:Fun K x qual st f fd)(S:aG N ps (ai st))(len:∀vs H Q E,sp vs H Q E->vs.length=ps.length)
  (hbody:∀(cdv:Value) (A:Around) (outer:List Env) (s:Shared) (H:Hp) (E:XK) (B:Bs),cv k (A.deeper (envOfC qual (ai st) s.heap.objs.size f cdv)) ->
   ∃t,gT (j8 CX0 P w K mg base N qual (ai st) f cdv A outer s H E).nox B (aD st) t/\∀vs' H' Q' E',sp vs' H' Q' E'->t (ends Q') (cZ N vs') H'):aT P w K mg base CX0 (k+1) f fd ps sp:=by
 refine F.ok S (fun vs H Q E zz=>?_) (fun cdv A outer s H vs Q E hr h=>?_)
 ·obtain⟨vs',H',Q',E',r,hr,h,_⟩:=zz;rw[RPs.length _ r];exact len _ _ _ _ h
 ·obtain⟨vs',H',Q',E',r,hh,h,k1,k2⟩:=h;obtain⟨t,ht,hq⟩:=hbody cdv A outer s H E (H',H) hr;refine⟨_,ht,cZ N vs',H',_,lM r hh,hq vs' H' Q' E' h,?_,?_,?_,?_⟩
  ·rintro σ1' H1' σ1 H1 ⟨H3,sb,q⟩ s1 e1;exact k1 _ H3 _ H1 q (by simp[RP]) (s1.hp.sub sb) (e1.sub sb)
  ·rintro v' H1' v H1 ⟨H3,sb,q⟩ r1 s1 e1;exact k1 _ H3 _ H1 q r1 (s1.sub sb) (e1.sub sb)
  ·intro _ _ _ _ z;exact z.elim
  ·intro _ _ _ _ z;exact z.elim
end
section
variable {X:Cx}{CX:CXT}{k:Nat}{f C:Addr}{fd:FuncData}{ps:List Str}{sp:Sp'}{E:XK}{E':XK'}{x m:Str}{p pos apos:Pos}{e o:Expr}{es:List Expr}{ta:TE'}{t:TA'}
def c8(sp:Sp')(E':XK')(t:TA'):TE':=fun σ H Q=>t σ H fun vs H1=>sp vs H1 Q E'
abbrev X0:XK':=fun _ _ _=>False
theorem pQ{K:PySem.W.Frag}{σ:L2.St}{H:Hp}{Q:VK}(h:low K B (c8 sp X0 t) σ H Q):xT (fG K sp) [] E0 (uj K B t) σ H Q:=by
 obtain⟨σ',H',Q',s,h,k⟩:=h;refine⟨σ',H',_,s,h,fun vs' H1' vs H1 h1 r1 s1 e1=>?_⟩;show fG K sp (vs++[]) H1 Q E0;rw[FH];exact⟨vs',H1',Q',X0,r1,s1.hp,h1,fun v' H2' v H2 q r2 h2 e2=>k v' H2' v H2 q r2 (s1.kp e2 h2) (e1.trans e2),fun _ _ _ _ z=>z.elim⟩
theorem ay(F:aT X.prog X.w X.K X.mg X.base CX0 k f fd ps sp)(hr:cv k X.A)(hg:Gl X x)(hm:X.mg x=some (.ref f))(hk:PySem.W.keepIn X.K (.ref f)=true)(hb:Binds X.K fd ps [])
  (ha:PA' X B (e::es) t) (hdb:(x==("__debug__":Str))=false:=by decide) (he:starEach (e::es) X.env=(false,eval e X.env)::starEach es X.env:=by rfl) (hpl:(backTo pos (starEach es X.env)).any (·.1)=false:=by rfl) :
  PE' X B (.Call (.Name x p) (e::es) [] pos) (c8 sp X0 t):=bu (wO F hr hg hm hk hb .nil uF ha hdb he hpl) fun _ _ _ h=>pQ h
theorem Ba{K:PySem.W.Frag}{H:Hp}{a:Addr}{xs:List V}(o:rj H)(h:SqL K H a xs):FzL K H a xs:=by
 rcases h with(h | h) | h
 ·rcases o a with z |⟨ob,ys,z⟩
  ·rw[z]at h;cases h
  ·rw[z]at h;cases h
 ·exact .inl h
 ·exact .inr h
def spL:Sp':=fun vs H Q _=>match vs with
 | [.fls l]=>∃ns:List Int,l=ns.map PV.int/\ns.length≤63/\Q (.bl true) H
 | _=>False
theorem qP{K:PySem.W.Frag}{H:Hp}{a:Addr}{ns:List Int}(hl:ns.length≤63)(o:rj H)(h:SqL K H a (ns.map V.int)):fG K spL [.ref a] H (fun v _=>v=.bl true) fun _ _ _=>False:=by
 refine⟨[.fls (ns.map PV.int)],fun _=>none,fun v _=>v=.bl true,X0,?_,fun _ _ z=>(nomatch z),⟨ns,rfl,hl,rfl⟩,fun v' _ v _ q r _ _=>?_,fun _ _ _ _ z=>z.elim⟩
 ·refine RPs.cons _ ?_ (RPs.nil _);simp only[RP];exact⟨a,_,rfl,Ba o h,RPs.ints _ _⟩
 ·subst q;simpa[RP]using r
end
end
section
variable {B:Bs}
mutual
def deq:PV->PV->Bool
 | .non,.non=>true
 | .bl a,.bl b=>a==b
 | .int a,.int b=>a==b
 | .bl a,.int b=>(if a then 1 else 0)==b
 | .int a,.bl b=>a==(if b then 1 else 0)
 | .str a,.str b=>a==b
 | .tup l,.tup m=>eV l m
 | .fls l,.fls m=>eV l m
 | _,_=>false
def eV:List PV->List PV->Bool
 | [],[]=>true
 | x::l,y::m=>deq x y&&eV l m
 | _,_=>false
end
def flat:Nat->PV->Bool
 | _,.non=>true
 | _,.bl _=>true
 | _,.int _=>true
 | _,.str _=>true
 | n+1,.tup l=>l.all (flat n)
 | n+1,.fls l=>l.all (flat n)
 | _,_=>false
theorem cw:∀(l m:List PV),eV l m=((List.range (min l.length m.length)).all (fun i=>deq (l.getD i .non) (m.getD i .non))&&l.length==m.length)
 | [],[]=>by simp[eV]
 | [],_::_=>by simp[eV]
 | _::_,[]=>by simp[eV]
 | x::l,y::m=>by
  simp only[eV,cw l m,EU];rw[show min (l.length+1) (m.length+1)=min l.length m.length+1 by omega,List.range_succ_eq_map,List.all_cons,List.all_map];simp only[List.getD_cons_zero,Bool.and_assoc];congr 1;congr 1;simp
theorem gh{n:Nat}:∀(l:List PV),(∀x∈l,deq x x=true)->eV l l=true
 | [],_=>rfl
 | x::l,h=>by
  have h1:=h x (by simp);have h2:=gh (n:=n) l fun y hy=>h y (by simp[hy]);simp only[eV,h1,h2,Bool.and_self]
theorem eF:∀{n:Nat} {x:PV},flat n x=true->deq x x=true
 | _,.non,_=>by simp[deq]
 | _,.bl _,_=>by simp[deq]
 | _,.int _,_=>by simp[deq]
 | _,.str _,_=>by simp[deq]
 | n+1,.tup l,h=>by
  simp only[flat,Fj]at h;simp only[deq];exact gh (n:=0) l fun x hx=>eF (h x hx)
 | n+1,.fls l,h=>by
  simp only[flat,Fj]at h;simp only[deq];exact gh (n:=0) l fun x hx=>eF (h x hx)
 | 0,.tup _,h=>by cases h
 | 0,.fls _,h=>by cases h
 | n,.ref _,h=>by cases n<;>cases h
 | n,.oth _,h=>by cases n<;>cases h
section
variable {X:Cx}{pins:List (Addr×Obj)}{σ:L2.St}{H:Hp}{s:Shared}
def RR(K:PySem.W.Frag)(H:Hp)(x:PV)(u:Value):Prop:=∃v,RP K H x v/\RelV v u
def RL(K:PySem.W.Frag)(H:Hp)(l:List PV)(us:List Value):Prop:=∃vs,RPs K H l vs/\Vals vs us
def RD(K:PySem.W.Frag)(H:Hp)(x:PV)(u:Value):Prop:=match x with
 | .fls l=>∃a vs,u=.ref a/\SqL K H a vs/\RPs K H l vs
 | x=>RR K H x u
theorem RL.get{K:PySem.W.Frag}{l:List PV}{us:List Value}(r:RL K H l us){i:Nat}{u:Value}(e:us[i]?=some u):∃x,l[i]?=some x/\RR K H x u:=by
 obtain⟨vs,r1,r2⟩:=r;have hl:=r2.length;have hl2:=RPs.length _ r1;have hi:i<l.length:=by
  have:=(EV.mp e).1;omega
 obtain⟨v,e1,e2⟩:=RPs.get _ r1 (EO hi);obtain⟨w,e3,e4⟩:=r2.get e1;rw[e]at e3;cases e3;exact⟨_,EO hi,v,e2,e4⟩
theorem RL.length{K:PySem.W.Frag}{l:List PV}{us:List Value}(r:RL K H l us):us.length=l.length:=by
 obtain⟨vs,r1,r2⟩:=r;rw[←r2.length,RPs.length _ r1]
theorem RR.rd{K:PySem.W.Frag}{x:PV}{u:Value}(r:RR K H x u):RD K H x u:=by
 cases x with
 | fls l =>
  obtain⟨v,r1,r2⟩:=r;simp only[RP]at r1;obtain⟨a,us,rfl,q,rr⟩:=r1;cases r2;exact⟨a,us,rfl,q.sq,rr⟩
 | _=>exact r
theorem bW(I:Inv X pins σ H s){l:List PV}{u:Value}(r:RD X.K H (.tup l) u):∃a its,u=.ref a/\RL X.K H l its/\s.heap.IsTuple a its.toArray:=by
 obtain⟨v,r1,r2⟩:=r;simp only[RP]at r1;obtain⟨a,us,rfl,q,rr⟩:=r1;cases r2;obtain⟨its,rv,p,_⟩:=I.tuple q;exact⟨a,its,rfl,⟨us,rr,rv⟩,p⟩
theorem bV(I:Inv X pins σ H s){l:List PV}{u:Value}(r:RD X.K H (.fls l) u):∃a its,u=.ref a/\RL X.K H l its/\s.heap.IsList a its.toArray:=by
 obtain⟨a,us,rfl,q,rr⟩:=r;obtain⟨its,rv,p,_⟩:=I.list q;exact⟨a,its,rfl,⟨us,rr,rv⟩,p.isList⟩
theorem kJ{a:Addr}{x y:Array Value}(h1:s.heap.IsTuple a x)(h2:s.heap.IsTuple a y):x=y:=by
 obtain⟨o,e,c,n,d⟩:=h1;obtain⟨o',e',c',n',d'⟩:=h2;rw[e]at e';cases e';rw[d]at d';cases d';rfl
theorem mH{a:Addr}{x y:Array Value}(h1:s.heap.IsList a x)(h2:s.heap.IsList a y):x=y:=by
 obtain⟨o,e,c,n,d⟩:=h1;obtain⟨o',e',c',n',d'⟩:=h2;rw[e]at e';cases e';rw[d]at d';cases d';rfl
theorem lY{a:Addr}{x y:Array Value}(h1:s.heap.IsTuple a x)(h2:s.heap.IsList a y):False:=by
 obtain⟨o,e,c,n,d⟩:=h1;obtain⟨o',e',c',n',d'⟩:=h2;rw[e]at e';cases e';rw[c]at c';exact absurd c' (by decide)
theorem RL.list_inj{K:PySem.W.Frag}{n:Nat}(ih:∀{x y:PV} {u:Value},flat n x=true->flat n y=true->RD K H x u->RD K H y u->x=y){l m:List PV}{us:List Value}(h1:l.all (flat n)=true)(h2:m.all (flat n)=true)
  (r1:RL K H l us) (r2:RL K H m us):l=m:=by
 rw[Fj]at h1 h2;refine List.ext_getElem? fun i=>?_;cases e:us[i]? with
 | none =>
  have:=List.getElem?_eq_none_iff.mp e;rw[FN (by rw[←r1.length];exact this),FN (by rw[←r2.length];exact this)]
 | some u =>
  obtain⟨x,ex,rx⟩:=r1.get e;obtain⟨y,ey,ry⟩:=r2.get e;rw[ex,ey,ih (h1 x (EZ ex)) (h2 y (EZ ey)) rx.rd ry.rd]
theorem kh(I:Inv X pins σ H s):∀(n:Nat) {x y:PV} {u:Value},flat n x=true->flat n y=true->RD X.K H x u->RD X.K H y u->x=y:=by
 have sc:∀{x:PV} {u:Value},RD X.K H x u->(∀l,x≠.fls l)->RR X.K H x u:=fun {x u} r h=>by
  cases x with
  | fls l=>exact absurd rfl (h l)
  | _=>exact r
 intro n
 induction n with
 | zero =>
  intro x y u hx hy rx ry;cases x<;>first |(cases hx;done) | skip
  all_goals cases y<;>first |(cases hy;done) | skip
  all_goals
   obtain⟨v,r1,r2⟩:=sc rx (by intro l z;cases z);obtain⟨v',r1',r2'⟩:=sc ry (by intro l z;cases z);simp only[RP]at r1 r1';subst r1;subst r1';have:=RelV.inj r2 r2'
   first | rfl |(cases this;done) |(cases this;rfl)
 | succ n ih =>
  intro x y u hx hy rx ry;cases x with
  | tup l =>
   obtain⟨a,its,rfl,rl,p⟩:=bW I rx;cases y with
   | tup m =>
    obtain⟨b,its',e,rl',p'⟩:=bW I ry;cases e;have:=kJ p p';have e2:its=its':=by simpa using this
    subst e2;rw[RL.list_inj (n:=n) ih hx hy rl rl']
   | fls m =>
    obtain⟨b,its',e,rl',p'⟩:=bV I ry;cases e;exact(lY p p').elim
   | ref a=>cases hy
   | oth a=>cases hy
   | _ =>
    obtain⟨v',r1',r2'⟩:=sc ry (by intro l z;cases z);simp only[RP]at r1';subst r1';simp[L2.RelV]at r2'
  | fls l =>
   obtain⟨a,its,rfl,rl,p⟩:=bV I rx;cases y with
   | tup m =>
    obtain⟨b,its',e,rl',p'⟩:=bW I ry;cases e;exact(lY p' p).elim
   | fls m =>
    obtain⟨b,its',e,rl',p'⟩:=bV I ry;cases e;have:=mH p p';have e2:its=its':=by simpa using this
    subst e2;rw[RL.list_inj (n:=n) ih hx hy rl rl']
   | ref a=>cases hy
   | oth a=>cases hy
   | _ =>
    obtain⟨v',r1',r2'⟩:=sc ry (by intro l z;cases z);simp only[RP]at r1';subst r1';simp[L2.RelV]at r2'
  | ref a=>cases hx
  | oth a=>cases hx
  | _ =>
   cases y with
   | tup m =>
    obtain⟨b,its',e,rl',p'⟩:=bW I ry;subst e;obtain⟨v',r1',r2'⟩:=sc rx (by intro l z;cases z);simp only[RP]at r1';subst r1';simp[L2.RelV]at r2'
   | fls m =>
    obtain⟨b,its',e,rl',p'⟩:=bV I ry;subst e;obtain⟨v',r1',r2'⟩:=sc rx (by intro l z;cases z);simp only[RP]at r1';subst r1';simp[L2.RelV]at r2'
   | ref a=>cases hy
   | oth a=>cases hy
   | _ =>
    obtain⟨v,r1,r2⟩:=sc rx (by intro l z;cases z);obtain⟨v',r1',r2'⟩:=sc ry (by intro l z;cases z);simp only[RP]at r1 r1';subst r1;subst r1';have:=RelV.inj r2 r2'
    first | rfl |(cases this;done) |(cases this;rfl)
open SeqAt in
theorem gY(I:Inv X pins σ H s):∀(n:Nat) {A:Around} {x y:PV} {u w:Value},A.units+n<cLine->flat n x=true->flat n y=true->RD X.K H x u->RD X.K H y w->EqAt A s u w (deq x y)/\RcAt A s u w (deq x y):=by
 have sc:∀{x:PV} {u:Value},RD X.K H x u->(∀l,x≠.fls l)->RR X.K H x u:=fun {x u} r h=>by
  cases x with
  | fls l=>exact absurd rfl (h l)
  | _=>exact r
 have v_non:∀{u:Value},RD X.K H .non u->u=.none:=fun {u} r=>by
  obtain⟨v,r1,r2⟩:=sc r (by intro l z;cases z);simp only[RP]at r1;subst r1;exact r2
 have v_bl:∀{b:Bool} {u:Value},RD X.K H (.bl b) u->u=.bool b:=fun {b u} r=>by
  obtain⟨v,r1,r2⟩:=sc r (by intro l z;cases z);simp only[RP]at r1;subst r1;exact r2
 have v_int:∀{i:Int} {u:Value},RD X.K H (.int i) u->∃t,u=.int i t:=fun {b u} r=>by
  obtain⟨v,r1,r2⟩:=sc r (by intro l z;cases z);simp only[RP]at r1;subst r1;exact r2
 have v_str:∀{i:Str} {u:Value},RD X.K H (.str i) u->∃t,u=.str i t:=fun {b u} r=>by
  obtain⟨v,r1,r2⟩:=sc r (by intro l z;cases z);simp only[RP]at r1;subst r1;exact r2
 intro n
 induction n with
 | zero =>
  intro A x y u w hu hx hy rx ry;cases x with
  | non =>
   rw[v_non rx];cases y with
   | non=>rw[v_non ry];exact⟨EqAt.same _,RcAt.none_none⟩
   | bl b=>rw[v_bl ry];exact⟨EqAt.none_bool b,RcAt.none_bool b⟩
   | int b=>obtain⟨t,rfl⟩:=v_int ry;exact⟨EqAt.none_int b t,RcAt.none_int b t⟩
   | str b=>obtain⟨t,rfl⟩:=v_str ry;exact⟨EqAt.none_str b t,RcAt.none_str b t⟩
   | _=>cases hy
  | bl a =>
   rw[v_bl rx];cases y with
   | non=>rw[v_non ry];exact⟨EqAt.bool_none a,RcAt.bool_none a⟩
   | bl b=>rw[v_bl ry];exact⟨EqAt.bool_bool a b,RcAt.bool_bool a b⟩
   | int b=>obtain⟨t,rfl⟩:=v_int ry;exact⟨EqAt.bool_int a b t,RcAt.bool_int a b t⟩
   | str b=>obtain⟨t,rfl⟩:=v_str ry;exact⟨EqAt.bool_str a b t,RcAt.bool_str a b t⟩
   | _=>cases hy
  | int a =>
   obtain⟨t0,rfl⟩:=v_int rx;cases y with
   | non=>rw[v_non ry];exact⟨EqAt.int_none a t0,RcAt.int_none a t0⟩
   | bl b=>rw[v_bl ry];exact⟨EqAt.int_bool a t0 b,RcAt.int_bool a t0 b⟩
   | int b=>obtain⟨t,rfl⟩:=v_int ry;exact⟨EqAt.int_int a t0 b t,RcAt.int_int a t0 b t⟩
   | str b=>obtain⟨t,rfl⟩:=v_str ry;exact⟨EqAt.int_str a t0 b t,RcAt.int_str a t0 b t⟩
   | _=>cases hy
  | str a =>
   obtain⟨t0,rfl⟩:=v_str rx;cases y with
   | non=>rw[v_non ry];exact⟨EqAt.str_none a t0,RcAt.str_none a t0⟩
   | bl b=>rw[v_bl ry];exact⟨EqAt.str_bool a t0 b,RcAt.str_bool a t0 b⟩
   | int b=>obtain⟨t,rfl⟩:=v_int ry;exact⟨EqAt.str_int a t0 b t,RcAt.str_int a t0 b t⟩
   | str b=>obtain⟨t,rfl⟩:=v_str ry;exact⟨EqAt.str_str a t0 b t,RcAt.str_str a t0 b t⟩
   | _=>cases hy
  | _=>cases hx
 | succ n ih =>
  intro A x y u w hu hx hy rx ry;have hu0:A.units<cLine:=by omega
  have hu1:A.in1.units+n<cLine:=by show A.units+1+n<cLine;omega
  cases x with
  | tup l =>
   obtain⟨a,its,rfl,rl,p⟩:=bW I rx;cases y with
   | non=>rw[v_non ry];exact⟨EqAt.tuple_none p hu0,RcAt.tuple_none p hu0⟩
   | bl b=>rw[v_bl ry];exact⟨EqAt.tuple_bool b p hu0,RcAt.tuple_bool b p hu0⟩
   | int b=>obtain⟨t,rfl⟩:=v_int ry;exact⟨EqAt.tuple_int b t p hu0,RcAt.tuple_int b t p hu0⟩
   | str b=>obtain⟨t,rfl⟩:=v_str ry;exact⟨EqAt.tuple_str b t p hu0,RcAt.tuple_str b t p hu0⟩
   | tup m =>
    obtain⟨b,its',rfl,rl',p'⟩:=bW I ry;have key:RcAt A s (.ref a) (.ref b) (deq (.tup l) (.tup m)):=by
     have:=RcAt.tuples (e:=fun i=>deq (l.getD i .non) (m.getD i .non)) p p' hu0 fun j h1 h2=>by
      have h1':j<its.length:=by simpa using h1
      have h2':j<its'.length:=by simpa using h2
      obtain⟨x,ex,rx'⟩:=rl.get (EO h1');obtain⟨y,ey,ry'⟩:=rl'.get (EO h2');have q:=ih hu1 (Fj.mp hx x (EZ ex)) (Fj.mp hy y (EZ ey)) rx'.rd ry'.rd;have e1:l.getD j .non=x:=by rw[ER,ex];rfl
      have e2:m.getD j .non=y:=by rw[ER,ey];rfl
      rw[e1,e2];simpa using q.1
     have e:deq (.tup l) (.tup m)=((List.range (min its.toArray.size its'.toArray.size)).all (fun i=>deq (l.getD i .non) (m.getD i .non))&&its.toArray.size==its'.toArray.size):=by
      simp only[deq,cw,E6,rl.length,rl'.length]
     rw[e];exact this
    refine⟨?_,key⟩;by_cases hab:a=b
    ·subst hab;have:=kh I (n+1) hx hy rx ry;rw[←this,eF hx];exact EqAt.same _
    ·exact EqAt.of_refs hab key
   | fls m =>
    obtain⟨b,its',rfl,rl',p'⟩:=bV I ry;exact⟨EqAt.tuple_list p p' hu0,RcAt.tuple_list p p' hu0⟩
   | _=>cases hy
  | fls l =>
   obtain⟨a,its,rfl,rl,p⟩:=bV I rx;cases y with
   | non=>rw[v_non ry];exact⟨EqAt.list_none p hu0,RcAt.list_none p hu0⟩
   | bl b=>rw[v_bl ry];exact⟨EqAt.list_bool b p hu0,RcAt.list_bool b p hu0⟩
   | int b=>obtain⟨t,rfl⟩:=v_int ry;exact⟨EqAt.list_int b t p hu0,RcAt.list_int b t p hu0⟩
   | str b=>obtain⟨t,rfl⟩:=v_str ry;exact⟨EqAt.list_str b t p hu0,RcAt.list_str b t p hu0⟩
   | tup m =>
    obtain⟨b,its',rfl,rl',p'⟩:=bW I ry;exact⟨EqAt.list_tuple p p' hu0,RcAt.list_tuple p p' hu0⟩
   | fls m =>
    obtain⟨b,its',rfl,rl',p'⟩:=bV I ry;have key:RcAt A s (.ref a) (.ref b) (deq (.fls l) (.fls m)):=by
     by_cases hs:its.length=its'.length
     ·have:=RcAt.lists (e:=fun i=>deq (l.getD i .non) (m.getD i .non)) p p' (by simpa using hs) hu0 fun j h1 h2=>by
       have h1':j<its.length:=by simpa using h1
       have h2':j<its'.length:=by simpa using h2
       obtain⟨x,ex,rx'⟩:=rl.get (EO h1');obtain⟨y,ey,ry'⟩:=rl'.get (EO h2');have q:=ih hu1 (Fj.mp hx x (EZ ex)) (Fj.mp hy y (EZ ey)) rx'.rd ry'.rd;have e1:l.getD j .non=x:=by rw[ER,ex];rfl
       have e2:m.getD j .non=y:=by rw[ER,ey];rfl
       rw[e1,e2];simpa using q.1
      have e:deq (.fls l) (.fls m)=(List.range its.toArray.size).all (fun i=>deq (l.getD i .non) (m.getD i .non)):=by
       have e0:l.length=m.length:=by rw[←rl.length,← rl'.length];exact hs
       simp[deq,cw,rl.length,e0]
      rw[e];exact this
     ·have e:deq (.fls l) (.fls m)=false:=by
       have e0:l.length≠m.length:=by rw[←rl.length,← rl'.length];exact hs
       simp[deq,cw,e0]
      rw[e];exact RcAt.lists_lengths p p' (by simpa using hs) hu0
    refine⟨?_,key⟩;by_cases hab:a=b
    ·subst hab;have:=kh I (n+1) hx hy rx ry;rw[←this,eF hx];exact EqAt.same _
    ·exact EqAt.of_refs hab key
   | _=>cases hy
  | ref a=>cases hx
  | oth a=>cases hx
  | non =>
   cases y with
   | tup m=>obtain⟨b,its',rfl,rl',p'⟩:=bW I ry;rw[v_non rx];exact⟨EqAt.none_tuple p' hu0,RcAt.none_tuple p' hu0⟩
   | fls m=>obtain⟨b,its',rfl,rl',p'⟩:=bV I ry;rw[v_non rx];exact⟨EqAt.none_list p' hu0,RcAt.none_list p' hu0⟩
   | ref a=>cases hy
   | oth a=>cases hy
   | _=>exact ih (by omega) (by cases n<;>rfl) (by cases n<;>rfl) rx ry
  | bl i =>
   cases y with
   | tup m=>obtain⟨b,its',rfl,rl',p'⟩:=bW I ry;rw[v_bl rx];exact⟨EqAt.bool_tuple i p' hu0,RcAt.bool_tuple i p' hu0⟩
   | fls m=>obtain⟨b,its',rfl,rl',p'⟩:=bV I ry;rw[v_bl rx];exact⟨EqAt.bool_list i p' hu0,RcAt.bool_list i p' hu0⟩
   | ref a=>cases hy
   | oth a=>cases hy
   | _=>exact ih (by omega) (by cases n<;>rfl) (by cases n<;>rfl) rx ry
  | int i =>
   cases y with
   | tup m=>obtain⟨b,its',rfl,rl',p'⟩:=bW I ry;obtain⟨t,rfl⟩:=v_int rx;exact⟨EqAt.int_tuple i t p' hu0,RcAt.int_tuple i t p' hu0⟩
   | fls m=>obtain⟨b,its',rfl,rl',p'⟩:=bV I ry;obtain⟨t,rfl⟩:=v_int rx;exact⟨EqAt.int_list i t p' hu0,RcAt.int_list i t p' hu0⟩
   | ref a=>cases hy
   | oth a=>cases hy
   | _=>exact ih (by omega) (by cases n<;>rfl) (by cases n<;>rfl) rx ry
  | str i =>
   cases y with
   | tup m=>obtain⟨b,its',rfl,rl',p'⟩:=bW I ry;obtain⟨t,rfl⟩:=v_str rx;exact⟨EqAt.str_tuple i t p' hu0,RcAt.str_tuple i t p' hu0⟩
   | fls m=>obtain⟨b,its',rfl,rl',p'⟩:=bV I ry;obtain⟨t,rfl⟩:=v_str rx;exact⟨EqAt.str_list i t p' hu0,RcAt.str_list i t p' hu0⟩
   | ref a=>cases hy
   | oth a=>cases hy
   | _=>exact ih (by omega) (by cases n<;>rfl) (by cases n<;>rfl) rx ry
end
end
section
variable {B:Bs}
section
variable {X:Cx}{pins:List (Addr×Obj)}{σ:L2.St}{H:Hp}{s:Shared}
open SeqAt in
theorem vI(I:Inv X pins σ H s):∀(n:Nat) {A:Around} {x y:PV} {u w:Value},A.units+n<cLine->flat n x=true->flat n y=true->RD X.K H x u->RD X.K H y w->RcNeAt A s u w (!deq x y):=by
 have sc:∀{x:PV} {u:Value},RD X.K H x u->(∀l,x≠.fls l)->RR X.K H x u:=fun {x u} r h=>by
  cases x with
  | fls l=>exact absurd rfl (h l)
  | _=>exact r
 have v_non:∀{u:Value},RD X.K H .non u->u=.none:=fun {u} r=>by
  obtain⟨v,r1,r2⟩:=sc r (by intro l z;cases z);simp only[RP]at r1;subst r1;exact r2
 have v_bl:∀{b:Bool} {u:Value},RD X.K H (.bl b) u->u=.bool b:=fun {b u} r=>by
  obtain⟨v,r1,r2⟩:=sc r (by intro l z;cases z);simp only[RP]at r1;subst r1;exact r2
 have v_int:∀{i:Int} {u:Value},RD X.K H (.int i) u->∃t,u=.int i t:=fun {b u} r=>by
  obtain⟨v,r1,r2⟩:=sc r (by intro l z;cases z);simp only[RP]at r1;subst r1;exact r2
 have v_str:∀{i:Str} {u:Value},RD X.K H (.str i) u->∃t,u=.str i t:=fun {b u} r=>by
  obtain⟨v,r1,r2⟩:=sc r (by intro l z;cases z);simp only[RP]at r1;subst r1;exact r2
 intro n
 induction n with
 | zero =>
  intro A x y u w hu hx hy rx ry;cases x with
  | non =>
   rw[v_non rx];cases y with
   | non=>rw[v_non ry];exact RcNeAt.none_none
   | bl b=>rw[v_bl ry];exact RcNeAt.none_bool b
   | int b=>obtain⟨t,rfl⟩:=v_int ry;exact RcNeAt.none_int b t
   | str b=>obtain⟨t,rfl⟩:=v_str ry;exact RcNeAt.none_str b t
   | _=>cases hy
  | bl a =>
   rw[v_bl rx];cases y with
   | non=>rw[v_non ry];exact RcNeAt.bool_none a
   | bl b=>rw[v_bl ry];exact RcNeAt.bool_bool a b
   | int b=>obtain⟨t,rfl⟩:=v_int ry;exact RcNeAt.bool_int a b t
   | str b=>obtain⟨t,rfl⟩:=v_str ry;exact RcNeAt.bool_str a b t
   | _=>cases hy
  | int a =>
   obtain⟨t0,rfl⟩:=v_int rx;cases y with
   | non=>rw[v_non ry];exact RcNeAt.int_none a t0
   | bl b=>rw[v_bl ry];exact RcNeAt.int_bool a t0 b
   | int b=>obtain⟨t,rfl⟩:=v_int ry;exact RcNeAt.int_int a t0 b t
   | str b=>obtain⟨t,rfl⟩:=v_str ry;exact RcNeAt.int_str a t0 b t
   | _=>cases hy
  | str a =>
   obtain⟨t0,rfl⟩:=v_str rx;cases y with
   | non=>rw[v_non ry];exact RcNeAt.str_none a t0
   | bl b=>rw[v_bl ry];exact RcNeAt.str_bool a t0 b
   | int b=>obtain⟨t,rfl⟩:=v_int ry;exact RcNeAt.str_int a t0 b t
   | str b=>obtain⟨t,rfl⟩:=v_str ry;exact RcNeAt.str_str a t0 b t
   | _=>cases hy
  | _=>cases hx
 | succ n ih =>
  intro A x y u w hu hx hy rx ry;have hu0:A.units<cLine:=by omega
  have hu1:A.in1.units+n<cLine:=by show A.units+1+n<cLine;omega
  cases x with
  | tup l =>
   obtain⟨a,its,rfl,rl,p⟩:=bW I rx;cases y with
   | non=>rw[v_non ry];exact RcNeAt.tuple_none p hu0
   | bl b=>rw[v_bl ry];exact RcNeAt.tuple_bool b p hu0
   | int b=>obtain⟨t,rfl⟩:=v_int ry;exact RcNeAt.tuple_int b t p hu0
   | str b=>obtain⟨t,rfl⟩:=v_str ry;exact RcNeAt.tuple_str b t p hu0
   | tup m =>
    obtain⟨b,its',rfl,rl',p'⟩:=bW I ry;have key:RcNeAt A s (.ref a) (.ref b) (!deq (.tup l) (.tup m)):=by
     have:=RcNeAt.tuples (e:=fun i=>deq (l.getD i .non) (m.getD i .non)) p p' hu0 fun j h1 h2=>by
      have h1':j<its.length:=by simpa using h1
      have h2':j<its'.length:=by simpa using h2
      obtain⟨x,ex,rx'⟩:=rl.get (EO h1');obtain⟨y,ey,ry'⟩:=rl'.get (EO h2');have q:=gY I n hu1 (Fj.mp hx x (EZ ex)) (Fj.mp hy y (EZ ey)) rx'.rd ry'.rd;have e1:l.getD j .non=x:=by rw[ER,ex];rfl
      have e2:m.getD j .non=y:=by rw[ER,ey];rfl
      rw[e1,e2];simpa using q.1
     have e:deq (.tup l) (.tup m)=((List.range (min its.toArray.size its'.toArray.size)).all (fun i=>deq (l.getD i .non) (m.getD i .non))&&its.toArray.size==its'.toArray.size):=by
      simp only[deq,cw,E6,rl.length,rl'.length]
     rw[e];exact this
    exact key
   | fls m =>
    obtain⟨b,its',rfl,rl',p'⟩:=bV I ry;exact RcNeAt.tuple_list p p' hu0
   | _=>cases hy
  | fls l =>
   obtain⟨a,its,rfl,rl,p⟩:=bV I rx;cases y with
   | non=>rw[v_non ry];exact RcNeAt.list_none p hu0
   | bl b=>rw[v_bl ry];exact RcNeAt.list_bool b p hu0
   | int b=>obtain⟨t,rfl⟩:=v_int ry;exact RcNeAt.list_int b t p hu0
   | str b=>obtain⟨t,rfl⟩:=v_str ry;exact RcNeAt.list_str b t p hu0
   | tup m =>
    obtain⟨b,its',rfl,rl',p'⟩:=bW I ry;exact RcNeAt.list_tuple p p' hu0
   | fls m =>
    obtain⟨b,its',rfl,rl',p'⟩:=bV I ry;have key:RcNeAt A s (.ref a) (.ref b) (!deq (.fls l) (.fls m)):=by
     by_cases hs:its.length=its'.length
     ·have:=RcNeAt.lists (e:=fun i=>deq (l.getD i .non) (m.getD i .non)) p p' (by simpa using hs) hu0 fun j h1 h2=>by
       have h1':j<its.length:=by simpa using h1
       have h2':j<its'.length:=by simpa using h2
       obtain⟨x,ex,rx'⟩:=rl.get (EO h1');obtain⟨y,ey,ry'⟩:=rl'.get (EO h2');have q:=gY I n hu1 (Fj.mp hx x (EZ ex)) (Fj.mp hy y (EZ ey)) rx'.rd ry'.rd;have e1:l.getD j .non=x:=by rw[ER,ex];rfl
       have e2:m.getD j .non=y:=by rw[ER,ey];rfl
       rw[e1,e2];simpa using q.1
      have e:deq (.fls l) (.fls m)=(List.range its.toArray.size).all (fun i=>deq (l.getD i .non) (m.getD i .non)):=by
       have e0:l.length=m.length:=by rw[←rl.length,← rl'.length];exact hs
       simp[deq,cw,rl.length,e0]
      rw[e];exact this
     ·have e:deq (.fls l) (.fls m)=false:=by
       have e0:l.length≠m.length:=by rw[←rl.length,← rl'.length];exact hs
       simp[deq,cw,e0]
      rw[e];exact RcNeAt.lists_lengths p p' (by simpa using hs) hu0
    exact key
   | _=>cases hy
  | ref a=>cases hx
  | oth a=>cases hx
  | non =>
   cases y with
   | tup m=>obtain⟨b,its',rfl,rl',p'⟩:=bW I ry;rw[v_non rx];exact RcNeAt.none_tuple p' hu0
   | fls m=>obtain⟨b,its',rfl,rl',p'⟩:=bV I ry;rw[v_non rx];exact RcNeAt.none_list p' hu0
   | ref a=>cases hy
   | oth a=>cases hy
   | _=>exact ih (by omega) (by cases n<;>rfl) (by cases n<;>rfl) rx ry
  | bl i =>
   cases y with
   | tup m=>obtain⟨b,its',rfl,rl',p'⟩:=bW I ry;rw[v_bl rx];exact RcNeAt.bool_tuple i p' hu0
   | fls m=>obtain⟨b,its',rfl,rl',p'⟩:=bV I ry;rw[v_bl rx];exact RcNeAt.bool_list i p' hu0
   | ref a=>cases hy
   | oth a=>cases hy
   | _=>exact ih (by omega) (by cases n<;>rfl) (by cases n<;>rfl) rx ry
  | int i =>
   cases y with
   | tup m=>obtain⟨b,its',rfl,rl',p'⟩:=bW I ry;obtain⟨t,rfl⟩:=v_int rx;exact RcNeAt.int_tuple i t p' hu0
   | fls m=>obtain⟨b,its',rfl,rl',p'⟩:=bV I ry;obtain⟨t,rfl⟩:=v_int rx;exact RcNeAt.int_list i t p' hu0
   | ref a=>cases hy
   | oth a=>cases hy
   | _=>exact ih (by omega) (by cases n<;>rfl) (by cases n<;>rfl) rx ry
  | str i =>
   cases y with
   | tup m=>obtain⟨b,its',rfl,rl',p'⟩:=bW I ry;obtain⟨t,rfl⟩:=v_str rx;exact RcNeAt.str_tuple i t p' hu0
   | fls m=>obtain⟨b,its',rfl,rl',p'⟩:=bV I ry;obtain⟨t,rfl⟩:=v_str rx;exact RcNeAt.str_list i t p' hu0
   | ref a=>cases hy
   | oth a=>cases hy
   | _=>exact ih (by omega) (by cases n<;>rfl) (by cases n<;>rfl) rx ry
def RDv(K:PySem.W.Frag)(H:Hp)(d:PV)(x:V):Prop:=match d with
 | .fls l=>∃a vs,x=.ref a/\SqL K H a vs/\RPs K H l vs
 | d=>RP K H d x
theorem RDv.rd{K:PySem.W.Frag}{d:PV}{x:V}{u:Value}(h:RDv K H d x)(r:L2.RelV x u):RD K H d u:=by
 cases d with
 | fls l=>obtain⟨a,vs,rfl,q,rr⟩:=h;cases r;exact⟨a,vs,rfl,q,rr⟩
 | _=>exact⟨x,h,r⟩
def dc(x:PV)(H:PHp)(k:PV->Prop):Prop:=match x with
 | .ref a=>∃l,H a=some (.lst l)/\k (.fls l)
 | x=>k x
theorem dc.ex{K:PySem.W.Frag}{σ':St'}{x:PV}{v:V}{H':PHp}{k:PV->Prop}(h:dc x H' k)(s:SR K B σ' H' σ H)(r:RP K H x v):∃d,RDv K H d v/\k d:=by
 cases x with
 | ref a =>
  obtain⟨l,e,h⟩:=h;obtain⟨us,q,r2⟩:=s.hp _ _ e;simp only[RP]at r;exact⟨.fls l,⟨a,us,r,SqL.of q,r2⟩,h⟩
 | fls l =>
  simp only[RP]at r;obtain⟨a,us,e,q,r⟩:=r;exact⟨.fls l,⟨a,us,e,q.sq,r⟩,h⟩
 | non=>exact⟨.non,r,h⟩
 | bl b=>exact⟨.bl b,r,h⟩
 | int b=>exact⟨.int b,r,h⟩
 | str b=>exact⟨.str b,r,h⟩
 | tup b=>exact⟨.tup b,r,h⟩
 | oth b=>exact⟨.oth b,r,h⟩
def Ax(K:PySem.W.Frag)(g:Bool->Bool):R2:=fun x y H Q=>∃d1 d2,flat 9 d1=true/\flat 9 d2=true/\RDv K H d1 x/\RDv K H d2 y/\Q (.bl (g (deq d1 d2))) H
theorem bo(hu:X.A.units+64<cLine):OpR X (compareOp .Eq) (Ax X.K fun b=>b):=by
 intro pins s σ H x y v u Q I rx ry h;obtain⟨d1,d2,f1,f2,r1,r2,q⟩:=h;exact(gY I 9 (by omega) f1 f2 (r1.rd rx) (r2.rd ry)).2 _ _ _ _ ⟨.bl _,H,I,rfl,q⟩
theorem jP(hu:X.A.units+64<cLine):OpR X (compareOp .NotEq) (Ax X.K fun b=>!b):=by
 intro pins s σ H x y v u Q I rx ry h;obtain⟨d1,d2,f1,f2,r1,r2,q⟩:=h;exact vI I 9 (by omega) f1 f2 (r1.rd rx) (r2.rd ry) _ _ _ _ ⟨.bl _,H,I,rfl,q⟩
def eW(g:Bool->Bool):R2':=fun x y H Q=>dc x H fun d1=>dc y H fun d2=>flat 9 d1=true/\flat 9 d2=true/\Q (.bl (g (deq d1 d2))) H
theorem bD{K:PySem.W.Frag}{g:Bool->Bool}:VR K B (eW g) (Ax K g):=by
 intro σ' σ H' H x' y' x y Q' Q s rx ry h k;obtain⟨d1,r1,h1⟩:=dc.ex h s rx;obtain⟨d2,r2,f1,f2,q⟩:=dc.ex h1 s ry;exact⟨d1,d2,f1,f2,r1,r2,k _ H' _ H q (by simp[RP]) s (Ev.refl _ _)⟩
def Bd(K:PySem.W.Frag)(g:Bool->Bool):R2:=fun x y H Q=>∃d p l us,flat 8 d=true/\RDv K H d x/\y=.ref p/\l.all (flat 8)=true/\RPs K H l us/\(SqL K H p us∨SqT K H p us)/\Q (.bl (g (l.any fun z=>deq z d))) H
open Classical in
theorem lV(I:Inv X pins σ H s){A:Around}{d:PV}{v:Value}{l:List PV}{its:List Value}(hu:A.units+20<cLine)(fd:flat 8 d=true)(rd:RD X.K H d v)(fl:l.all (flat 8)=true)(rl:RL X.K H l its) :
  ∃e:Value->Bool,(∀y,y∈its.toArray->SeqAt.EqAt A.in1 s y v (e y))/\its.toArray.any e=l.any fun z=>deq z d:=by
 refine⟨fun u=>decide (∃z,flat 8 z=true/\RD X.K H z u/\deq z d=true),fun y hy=>?_,?_⟩
 ·have hy':y∈its:=by simpa using hy
  obtain⟨i,hi⟩:=List.mem_iff_getElem?.mp hy';obtain⟨z,ez,rz⟩:=rl.get hi;have fz:=Fj.mp fl z (EZ ez);have q:=(gY I 8 (A:=A.in1) (by show A.units+1+8<cLine;omega) fz fd rz.rd rd).1;have e:decide (∃z,flat 8 z=true/\RD X.K H z y/\deq z d=true)=deq z d:=by
   rw[Gv,decide_eq_true_iff];constructor
   ·rintro⟨z',f',r',e'⟩;rw[kh I 8 fz f' rz.rd r'];exact e'
   ·intro e;exact⟨z,fz,rz.rd,e⟩
  show SeqAt.EqAt A.in1 s y v (decide _);rw[e];exact q
 ·rw[Gv];simp only[List.any_toArray,List.any_eq_true,decide_eq_true_iff];constructor
  ·rintro⟨u,hu',z,fz,rz,ez⟩;obtain⟨i,hi⟩:=List.mem_iff_getElem?.mp hu';obtain⟨z2,ez2,rz2⟩:=rl.get hi;have fz2:=Fj.mp fl z2 (EZ ez2);refine⟨z2,EZ ez2,?_⟩;rw[kh I 8 fz2 fz rz2.rd rz];exact ez
  ·rintro⟨z,hz,ez⟩;obtain⟨i,hi⟩:=List.mem_iff_getElem?.mp hz;have hlt:i<its.length:=by
    have:=(EV.mp hi).1;rw[rl.length];exact this
   obtain⟨z2,ez2,rz2⟩:=rl.get (EO hlt);rw[hi]at ez2;cases ez2;exact⟨_,FK hlt,z,Fj.mp fl z hz,rz2.rd,ez⟩
theorem jV(hu:X.A.units+64<cLine):OpR X (compareOp .In) (Bd X.K fun b=>b):=by
 intro pins s σ H x y v u Q I rx ry h;obtain⟨d,p,l,us,fd,rd,rfl,fl,rl,hq,q⟩:=h;cases ry;rcases hq with hq | hq
 ·obtain⟨its,rv,pl,_⟩:=I.list hq;obtain⟨e,h1,h2⟩:=lV I (A:=X.A) (by omega) fd (rd.rd rx) fl ⟨us,rl,rv⟩;exact SeqAt.in_listAt e pl.isList h1 (by rw[h2];exact⟨.bl _,H,I,rfl,q⟩)
 ·obtain⟨its,rv,pl,_⟩:=I.tuple hq;obtain⟨e,h1,h2⟩:=lV I (A:=X.A) (by omega) fd (rd.rd rx) fl ⟨us,rl,rv⟩;exact SeqAt.in_tupleAt e pl h1 (by rw[h2];exact⟨.bl _,H,I,rfl,q⟩)
def x8(g:Bool->Bool):R2':=fun x y H Q=>dc x H fun d=>bR y H fun l=>flat 8 d=true/\l.all (flat 8)=true/\Q (.bl (g (l.any fun z=>deq z d))) H
theorem oW{K:PySem.W.Frag}{g:Bool->Bool}:VR K B (x8 g) (Bd K g):=by
 intro σ' σ H' H x' y' x y Q' Q s rx ry h k;obtain⟨d1,r1,h1⟩:=dc.ex h s rx;obtain⟨l,us,p,rfl,r2,hq,f1,f2,q⟩:=bR.ex h1 s ry;exact⟨d1,p,l,us,f1,r1,rfl,f2,r2,hq,k _ H' _ H q (by simp[RP]) s (Ev.refl _ _)⟩
def tW(g:Bool->Bool):R2':=fun x y H Q=>match y,x with
 | .non,.non=>Q (.bl (g true)) H
 | .non,.oth _=>False
 | .non,_=>Q (.bl (g false)) H
 | _,_=>False
inductive BT where | non | bool | int | str | list | tuple
def BT.nm:BT->String | .non=>"NoneType" | .bool=>"bool" | .int=>"int" | .str=>"str" | .list=>"list" | .tuple=>"tuple"
def BT.sub:BT->BT->Bool
 | .non,.non=>true | .bool,.bool=>true | .int,.int=>true | .str,.str=>true | .list,.list=>true | .tuple,.tuple=>true
 | .bool,.int=>true
 | _,_=>false
def dG(x:PV)(H:PHp)(k:BT->Prop):Prop:=match x with
 | .non=>k .non
 | .bl _=>k .bool
 | .int _=>k .int
 | .str _=>k .str
 | .tup _=>k .tuple
 | .fls _=>k .list
 | .ref a=>∃l,H a=some (.lst l)/\k .list
 | _=>False
def Dq(c:BT):List PV->PHp->VK'->Prop:=fun xs H Q=>match xs with
 | [x,.oth (.ty n)]=>n=c.nm/\dG x H fun t=>Q (.bl (t.sub c)) H
 | _=>False
variable {e o:Expr}{es:List Expr}{to:TE'}{t:TA'}{name:Str}{apos cpos:Pos}
def isL(x:PV)(H1:PHp):Prop:=match x with
 | .ref a=>∃l,H1 a=some (.lst l)
 | _=>False
def uBM(r:PV->List PV->PHp->VK'->Prop)(to:TE')(t:TA'):TE':=fun σ H Q=>to σ H fun x H1=>isL x H1/\t σ H1 fun xs H2=>r x xs H2 Q
def D1(r:PV->List PV->PHp->VK'->Prop)(to:TE'):TE':=fun σ H Q=>to σ H fun x H1=>r x [] H1 Q
def VM(K:PySem.W.Frag)(B:Bs)(r':PV->List PV->PHp->VK'->Prop)(r:V->List V->Hp->VK->Prop):Prop:=∀(σ':St') (σ:L2.St) (H':PHp) (H:Hp) x' xs' x xs (Q':VK') (Q:VK),SR K B σ' H' σ H->RP K H x' x->RPs K H xs' xs->r' x' xs' H' Q' ->
 (∀v' H1' v H1,Q' v' H1'->RP K H1 v' v->SR K B σ' H1' σ H1->Ev H' H H1' H1->Q v H1)->r x xs H Q
theorem Ac{K:PySem.W.Frag}{r':PV->List PV->PHp->VK'->Prop}{r:V->List V->Hp->VK->Prop}(v:VM K B r' r){σ:L2.St}{H:Hp}{Q:VK}(h:low K B (uBM r' to t) σ H Q):tBM K "list" r (low K B to) (uj K B t) σ H Q:=by
 obtain⟨σ',H',Q',s,h,k⟩:=h;refine⟨σ',H',_,s,h,fun x' H1' x H1 h1 rx s1 e1=>?_⟩;obtain⟨ty,h1⟩:=h1;constructor
 ·cases x' with
  | ref a =>
   obtain⟨l,e⟩:=ty;obtain⟨us,q,_⟩:=s1.hp _ _ e;simp only[RP]at rx;subst rx;exact .inl ⟨rfl,us,SqL.of q⟩
  | _=>exact ty.elim
 ·refine⟨σ',H1',_,s1,h1,fun xs' H2' xs H2 h2 r2 s2 e2=>?_⟩;exact v σ' σ H2' H2 x' xs' x xs Q' Q s2 (RP.kp K (e2.kp s1.hp) rx) r2 h2 fun v' H3' v H3 q rv s3 e3=>k v' H3' v H3 q rv s3 (e1.trans (e2.trans e3))
theorem cH{id:String}{r':PV->List PV->PHp->VK'->Prop}{r:V->List V->Hp->VK->Prop}(slot:Slot "list" name id)(hty:typeOf (.builtin id)=pure (.type "method_descriptor"))(hm:MtR X id r)(v:VM X.K B r' r)(ho:PE' X B o to)(ha:PA' X B (e::es) t)
  (hbase:attributeBase o name X.env (eval o X.env)=eval o X.env:=by rfl)
  (hfew:((backTo cpos (starEach (e::es) X.env)).all (fun x=>!x.1)&&(backToKw cpos (keywordEach [] X.env)).all (fun x=>x.1.isSome)
   && decide ((e::es).length+([]:List Keyword).length+(if ([]:List Keyword).isEmpty then 0 else 1)<30))=true:=by rfl)
  (hline:(apos.endLine==cpos.line)=true:=by rfl) (hs:starEach (e::es) X.env=(false,eval e X.env)::starEach es X.env:=by rfl) (hplain:(backTo cpos (starEach es X.env)).any (·.1)=false:=by rfl) :
  PE' X B (.Call (.Attribute o name apos) (e::es) [] cpos) (uBM r' to t):=bu (Bi PySem.F.plainAttrs_list slot hty hm ho ha hbase hfew hline hs hplain) fun _ _ _ h=>Ac v h
def eS:PV->List PV->PHp->VK'->Prop:=fun x vs H Q=>match x,vs with
 | .ref a,[y]=>∃l,H a=some (.lst l)/\l.length<sizeLine/\Q .non (put H a (.lst (l++[y])))
 | _,_=>False
theorem cn{K:PySem.W.Frag}:VM K B eS oP:=by
 intro σ' σ H' H x' xs' x xs Q' Q s rx r h k;unfold eS at h;split at h
 ·rename_i a y;obtain⟨l,e,hl,h⟩:=h;obtain⟨us,q,r2⟩:=s.hp _ _ e;simp only[RP,RPs]at rx r;obtain⟨u,r1,rfl,ru,rfl⟩:=r;subst rx;exact⟨a,us,u,rfl,rfl,q,by rw[RPs.length _ r2];exact hl,k _ _ _ _ h (by simp[RP]) (s.wr e (wrL s.hp e (RPs.append _ r2 (RPs.cons _ ru (RPs.nil _))))) (Ev.wr e)⟩
 ·exact h.elim
def fY:PV->List PV->PHp->VK'->Prop:=fun x vs H Q=>match x,vs with
 | .ref a,[.ref b]=>∃l m,H a=some (.lst l)/\H b=some (.lst m)/\l.length+m.length≤sizeLine/\Q .non (put H a (.lst (l++m)))
 | _,_=>False
theorem cg{K:PySem.W.Frag}:VM K B fY oF:=by
 intro σ' σ H' H x' xs' x xs Q' Q s rx r h k;unfold fY at h;split at h
 ·rename_i a b;obtain⟨l,m,e,e2,hl,h⟩:=h;obtain⟨us,q,r2⟩:=s.hp _ _ e;obtain⟨ws,q2,r3⟩:=s.hp _ _ e2;simp only[RP,RPs]at rx r;obtain⟨u,r1,rfl,ru,rfl⟩:=r;subst rx;subst ru;exact⟨a,b,us,ws,rfl,rfl,q,q2,by rw[RPs.length _ r2,RPs.length _ r3];exact hl,k _ _ _ _ h (by simp[RP]) (s.wr e (wrL s.hp e (RPs.append _ r2 r3))) (Ev.wr e)⟩
 ·exact h.elim
def Ej:PV->List PV->PHp->VK'->Prop:=fun x vs H Q=>match x,vs with
 | .ref a,[]=>∃l y,H a=some (.lst l)/\l[l.length - 1]?=some y/\Q y (put H a (.lst l.dropLast))
 | _,_=>False
end
end
section
variable {B:Bs}
theorem qU(lo:Int)(n i:Nat)(h:i<n):(cW lo n).drop i=PV.int (lo+(i:Nat))::(cW lo n).drop (i+1):=by
 have hl:i<(cW lo n).length:=by simpa[cW]using h
 rw[Gh hl];simp[cW]
theorem rQ(lo:Int)(n:Nat):(cW lo n).drop n=[]:=by
 apply List.drop_of_length_le;simp[cW]
theorem fQ{ok:PHp->Prop}{g:TG'}{tb:TS'}{D:cz}{lo:Int}{n:Nat}(Pv:Nat->St'->PHp->Prop)(hd:∀σ H,Pv n σ H->ok H/\D.nx σ H)
  (hs:∀(G:St'->PHp->Prop) i σ H,i<n->Pv i σ H->(∀σ' H',Pv (i+1) σ' H'->G σ' H')->ok H/\g (.int (lo+(i:Nat))) σ H fun σ2 H2=>tb { D with nx:=G,ct:=G,bk:=D.nx } σ2 H2)
  {σ:St'} {H:PHp} (h0:Pv 0 σ H):dD ok g tb D (cW lo n) σ H:=by
 have key:∀(k i:Nat) {σ:St'} {H:PHp},i+k=n->Pv i σ H->dD ok g tb D ((cW lo n).drop i) σ H:=by
  intro k
  induction k with
  | zero =>
   intro i σ H hk p;have:i=n:=hk;subst this;rw[rQ];exact hd σ H p
  | succ k ih =>
   intro i σ H hk p;have hi:i<n:=hk▸Nat.lt_add_of_pos_right (Nat.succ_pos k);rw[qU lo n i hi];exact hs _ i σ H hi p fun σ' H' p'=>ih (i+1) ((Nat.succ_add_eq_add_succ i k).trans hk) p'
 exact key n 0 (Nat.zero_add n) h0
theorem zd{ok:PHp->Prop}{g:TG'}{tb:TS'}{D:cz}{xs:List PV}(Pv:Nat->St'->PHp->Prop)(hd:∀σ H,Pv xs.length σ H->ok H/\D.nx σ H)
  (hs:∀(G:St'->PHp->Prop) i x σ H,xs[i]?=some x->Pv i σ H->(∀σ' H',Pv (i+1) σ' H'->G σ' H')->ok H/\g x σ H fun σ2 H2=>tb { D with nx:=G,ct:=G,bk:=D.nx } σ2 H2)
  {σ:St'} {H:PHp} (h0:Pv 0 σ H):dD ok g tb D xs σ H:=by
 have key:∀(k i:Nat) {σ:St'} {H:PHp},xs.length - i=k->i≤xs.length->Pv i σ H->dD ok g tb D (xs.drop i) σ H:=by
  intro k
  induction k with
  | zero =>
   intro i σ H hk hi p;have:i=xs.length:=by omega
   subst this;rw[List.drop_length];exact hd σ H p
  | succ k ih =>
   intro i σ H hk hi p;have hl:i<xs.length:=by omega
   rw[Gh hl];exact hs _ i _ σ H (EO hl) p fun σ' H' p'=>ih (i+1) (by omega) (by omega) p'
 have:=key xs.length 0 (by omega) (by omega) h0;simpa using this
theorem dn{m:List Int}{z:Int}(h0:0≤z)(h1:z<m.length):atI (m.map PV.int) z=some (.int (m.getD z.toNat 0)):=by
 unfold atI ixN;rw[Fq h0,EM,Fq h1];show(m.map PV.int)[z.toNat]?=_;rw[E7,ER];have:z.toNat<m.length:=by omega
 rw[EO this];rfl
theorem w_V{v:PV}{k:PV->Prop}:lQ (some (some v)) k=k v:=rfl
theorem w_B{b:Bool}{k:Bool->Prop}:eK (.bl b) k=k b:=rfl
theorem w_I{b:Int}{k:Int->Prop}:cc (.int b) k=k b:=rfl
theorem w_O{b:PV}{k:PV->Prop}:di (some b) k=k b:=rfl
theorem Ck{l:List PV}{H:PHp}{k:List PV->Prop}:bR (.tup l) H k=k l:=rfl
theorem BW{l:List PV}{H:PHp}{k:List PV->Prop}:bR (.fls l) H k=k l:=rfl
theorem Br{a:Addr}{H:PHp}{k:List PV->Prop}:bR (.ref a) H k=∃l,H a=some (.lst l)/\k l:=rfl
theorem A8{a:Addr}{H:PHp}{k:PV->Prop}:dc (.ref a) H k=∃l,H a=some (.lst l)/\k (.fls l):=rfl
theorem DE{H:PHp}{k:PV->Prop}:dc .non H k=k .non:=rfl
theorem EE{b:Bool}{H:PHp}{k:PV->Prop}:dc (.bl b) H k=k (.bl b):=rfl
theorem Cn{b:Int}{H:PHp}{k:PV->Prop}:dc (.int b) H k=k (.int b):=rfl
theorem Et{b:Str}{H:PHp}{k:PV->Prop}:dc (.str b) H k=k (.str b):=rfl
theorem Be{b:List PV}{H:PHp}{k:PV->Prop}:dc (.tup b) H k=k (.tup b):=rfl
theorem BY{b:List PV}{H:PHp}{k:PV->Prop}:dc (.fls b) H k=k (.fls b):=rfl
theorem Es{H:PHp}{k:BT->Prop}:dG .non H k=k .non:=rfl
theorem Bl{b:Bool}{H:PHp}{k:BT->Prop}:dG (.bl b) H k=k .bool:=rfl
theorem AS{b:Int}{H:PHp}{k:BT->Prop}:dG (.int b) H k=k .int:=rfl
theorem Ep{b:Str}{H:PHp}{k:BT->Prop}:dG (.str b) H k=k .str:=rfl
theorem Bz{b:List PV}{H:PHp}{k:BT->Prop}:dG (.tup b) H k=k .tuple:=rfl
theorem Dt{b:List PV}{H:PHp}{k:BT->Prop}:dG (.fls b) H k=k .list:=rfl
theorem Ea{a:Addr}{H:PHp}{k:BT->Prop}:dG (.ref a) H k=∃l,H a=some (.lst l)/\k .list:=rfl
theorem CV{b:Int}{k:Int->Prop}:intOf (.int b) k=k b:=rfl
theorem Em{b:Bool}{k:Int->Prop}:intOf (.bl b) k=k (b2n b):=rfl
theorem Dz{l:List PV}{lo hi:Option Int}{H:PHp}{Q:VK'}:sliceOf (.fls l) lo hi H Q=∀p,H p=none->Q (.ref p) (put H p (.lst (cX l lo hi))):=rfl
theorem Dm{a:Addr}{lo hi:Option Int}{H:PHp}{Q:VK'}:sliceOf (.ref a) lo hi H Q=∃l,H a=some (.lst l)/\∀p,H p=none->Q (.ref p) (put H p (.lst (cX l lo hi))):=rfl
theorem Ed{l:List PV}{lo hi:Option Int}{H:PHp}{Q:VK'}:sliceOf (.tup l) lo hi H Q=(¬(HT.sIx l.length 0 lo=0/\HT.sIx l.length l.length hi=l.length)/\Q (.tup (cX l lo hi)) H):=rfl
theorem BF{l:List PV}{H:PHp}{R:It'->PHp->Prop}:sV (.tup l) H R=R ⟨l,fun _=>True⟩ H:=rfl
theorem BK{l:List PV}{H:PHp}{R:It'->PHp->Prop}:sV (.fls l) H R=R ⟨l,fun _=>True⟩ H:=rfl
theorem A4{a:Addr}{H:PHp}{R:It'->PHp->Prop}:sV (.ref a) H R=∃l,H a=some (.lst l)/\R ⟨l,fun H=>H a=some (.lst l)⟩ H:=rfl
theorem w_1{f:PV->PHp->VK'->Prop}{x:PV}{H:PHp}{Q:VK'}:du f [x] H Q=f x H Q:=rfl
theorem xM{c:BT}{x:PV}{n:String}{H:PHp}{Q:VK'}:Dq c [x,.oth (.ty n)] H Q=(n=c.nm/\dG x H fun t=>Q (.bl (t.sub c)) H):=rfl
theorem BR{g:Bool->Bool}{H:PHp}{Q:VK'}:tW g .non .non H Q=Q (.bl (g true)) H:=rfl
theorem Bt{g:Bool->Bool}{a:Addr}{H:PHp}{Q:VK'}:tW g (.ref a) .non H Q=Q (.bl (g false)) H:=rfl
theorem Ce{g:Bool->Bool}{l:List PV}{H:PHp}{Q:VK'}:tW g (.tup l) .non H Q=Q (.bl (g false)) H:=rfl
theorem Dw{g:Bool->Bool}{l:Int}{H:PHp}{Q:VK'}:tW g (.int l) .non H Q=Q (.bl (g false)) H:=rfl
theorem Ef{g:Bool->Bool}{l:Bool}{H:PHp}{Q:VK'}:tW g (.bl l) .non H Q=Q (.bl (g false)) H:=rfl
theorem BH{n:Nat}{t:gn}{l:List PV}{σ:St'}{H:PHp}{Q:St'->PHp->Prop}:sW n t (.tup l) σ H Q=(l.length=n/\t l σ H Q):=rfl
theorem CA{t:TG'}{u:gn}{v:PV}{r:List PV}{σ:St'}{H:PHp}{Q:St'->PHp->Prop}:eA t u (v::r) σ H Q=t v σ H fun σ' H'=>u r σ' H' Q:=rfl
theorem AL{σ:St'}{H:PHp}{Q:St'->PHp->Prop}:nQ [] σ H Q=(True/\Q σ H):=by simp[nQ]
theorem CO{t:TA'}{σ:St'}{H:PHp}{R:It'->PHp->Prop}:tE t σ H R=t σ H fun vs H1=>vg vs H1 R:=rfl
theorem xD{j:Int}{H1:PHp}{R:It'->PHp->Prop}:vg [.int j] H1 R=((-(2 ^ 62)≤j/\j<2 ^ 62)/\R ⟨cW 0 j.toNat,fun _=>True⟩ H1):=rfl
theorem Ez{t:TA'}{σ:St'}{H:PHp}{R:It'->PHp->Prop}:Co t σ H R=t σ H fun vs H1=>yp vs H1 R:=rfl
theorem BJ{i j:Int}{H1:PHp}{R:It'->PHp->Prop}:yp [.int i,.int j] H1 R=((-(2 ^ 62)≤i/\i<2 ^ 62/\-(2 ^ 62)≤j/\j<2 ^ 62)/\R ⟨cW i (j - i).toNat,fun _=>True⟩ H1):=rfl
theorem Ah{a:Addr}{y:PV}{H:PHp}{Q:VK'}:eS (.ref a) [y] H Q=∃l,H a=some (.lst l)/\l.length<sizeLine/\Q .non (put H a (.lst (l++[y]))):=rfl
theorem D9{a b:Addr}{H:PHp}{Q:VK'}:fY (.ref a) [.ref b] H Q=∃l m,H a=some (.lst l)/\H b=some (.lst m)/\l.length+m.length≤sizeLine/\Q .non (put H a (.lst (l++m))):=rfl
theorem DJ{a:Addr}{H:PHp}{Q:VK'}:Ej (.ref a) [] H Q=∃l y,H a=some (.lst l)/\l[l.length - 1]?=some y/\Q y (put H a (.lst l.dropLast)):=rfl
theorem yf{r:PV->List PV->PHp->VK'->Prop}{to:TE'}{t:TA'}{σ:St'}{H:PHp}{Q:VK'}:uBM r to t σ H Q=to σ H fun x H1=>isL x H1/\t σ H1 fun xs H2=>r x xs H2 Q:=rfl
theorem zD{a:Addr}{H:PHp}:isL (.ref a) H=∃l,H a=some (.lst l):=rfl
theorem ak{n:Nat}(h:n≤1000):n≤sizeLine:=Nat.le_of_lt (bz h)
end
section
theorem au{t u:TS'}{D:cz}{σ:St'}{H:PHp}(h:∀R:TS',R=u->bZ t R D σ H):bZ t u D σ H:=h u rfl
end
section
variable {B:Bs}
def xH(h:Heap)(a C T:Addr)(fl:Value):Prop :=
 ∃(oe:Obj) (vs:Array Value) (oT:Obj) (ts:Array Value) (a0:Value),h.get? a=some oe/\oe.cls=.ref C/\vs[0]?=some a0/\oe.data=.fields vs/\vs[1]?=some (.ref T)/\T≠a/\h.get? T=some oT/\oT.data=.fields ts/\ts[3]?=some fl
theorem pS{P:Program}{w:World}{H:Hp}{h:Heap}{a:Addr}{o:HO}(k:cB P w H h a o):∃ob,h.get? a=some ob:=by
 cases o with
 | lst _=>obtain⟨_,_,_,_,e⟩:=k;exact⟨_,e⟩
 | tup _=>obtain⟨_,_,_,o,e,_⟩:=k;exact⟨o,e⟩
 | dK _=>obtain⟨_,_,_,_,o,_,_,e,_⟩:=k;exact⟨o,e⟩
 | dT _=>obtain⟨_,_,_,_,o,_,_,e,_⟩:=k;exact⟨o,e⟩
 | set _ _=>obtain⟨o,_,_,_,e,_⟩:=k;exact⟨o,e⟩
 | ins _ _ _=>obtain⟨_,_,_,e,_⟩:=k;exact⟨_,e⟩
 | own _=>obtain⟨o,e⟩:=k;exact⟨o,e⟩
 | xd _=>obtain⟨_,⟨o,_,_,e,_⟩,_⟩:=k;exact⟨o,e⟩
 | rng _ _=>obtain⟨_,_,_,e⟩:=k;exact⟨_,e⟩
 | frz o _=>obtain⟨e,_⟩:=k;exact⟨o,e⟩
 | tbl _=>exact⟨_,k⟩
 | met _ _=>exact⟨_,k⟩
 | ext _=>obtain⟨_,⟨o,e⟩,_⟩:=k;exact⟨o,e⟩
theorem lU{P:Program}{w:World}{H:Hp}{h:Heap}{a:Addr}(x:HOk P w H h)(e:h.get? a=none):H a=none:=by
 cases q:H a with
 | none=>rfl
 | some o=>obtain⟨ob,z⟩:=pS (x a o q);rw[e]at z;cases z
section
variable {X:Cx}{pins:List (Addr×Obj)}{σ:L2.St}{H H':Hp}{s:Shared}{h':Heap}{a C T:Addr}{fl:Value}
structure Plain (X:Cx):Prop where
 ex:X.ex=[]
 stk:X.stack=X.env::X.outer
 fr:X.env.frame=some X.env.locals
theorem Plain.frs(pl:Plain X):L2.frs X.stack=X.env.locals::X.fs:=by
 rw[pl.stk];show(X.env::X.outer).filterMap (·.frame)=_;rw[List.filterMap_cons,pl.fr];rfl
structure XAt (X:Cx) (pins:List (Addr × Obj)) (H:Hp) (s:Shared) (a C T:Addr) (fl:Value):Prop where
 fly:xH s.heap a C T fl
 ha:H a=none
 hT:H T=none
 na:X.s₀.heap.get? a=none
 nT:X.s₀.heap.get? T=none
 pin:∀p∈X.pn++pins,p.1≠a/\p.1≠T
theorem dM(I:Inv X pins σ H s)(pl:Plain X){b:Addr}(e:s.heap.get? b=none):X.s₀.heap.get? b=none:=by
 cases q:X.s₀.heap.get? b with
 | none=>rfl
 | some o =>
  obtain⟨o',z⟩:=I.base.there b o q (by rw[pl.ex];simp);rw[e]at z;cases z
theorem zT(I:Inv X pins σ H s)(pl:Plain X)(ha:H a=none)(hT:H T=none)(na:X.s₀.heap.get? a=none)(nT:X.s₀.heap.get? T=none)(pin:∀p∈X.pn++pins,p.1≠a/\p.1≠T)
  (fa:∀o,s.heap.get? a=some o->∃vs,o.data=.fields vs) (fT:∀o,s.heap.get? T=some o->∃vs,o.data=.fields vs)
  (keep:∀b o,s.heap.get? b=some o->b∉L2.frs X.stack->b≠a->b≠T->h'.get? b=some o) (up:s.heap.UpToSlots h'):Inv X pins σ H { s with heap:=h' }:=by
 have frData:∀b o,b∈L2.frs X.stack->s.heap.get? b=some o->∀vs,o.data≠.fields vs:=fun b o hb e=>by
  obtain⟨_,o',e',hd⟩:=I.stack.mem (b:=b) hb;rw[e]at e';cases e';exact hd
 have inFr:∀b,b=X.env.locals∨b∈X.fs->b∈L2.frs X.stack:=fun b hb=>by
  rw[pl.frs];exact Fd.mpr hb
 have neA:∀b o,s.heap.get? b=some o->(∀vs,o.data≠.fields vs)->b≠a/\b≠T:=fun b o e hd=>by
  constructor
  ·rintro rfl;obtain⟨vs,z⟩:=fa o e;exact hd vs z
  ·rintro rfl;obtain⟨vs,z⟩:=fT o e;exact hd vs z
 have any:∀b o,b≠a->b≠T->s.heap.get? b=some o->∃sl,h'.get? b=some { o with slots:=sl }:=fun b o n1 n2 e=>by
  by_cases hb:b∈L2.frs X.stack
  ·exact up b o e (frData b o hb e)
  ·exact⟨o.slots,keep b o e hb n1 n2⟩
 have entry:∀b o,X.s₀.heap.get? b=some o->b≠a/\b≠T:=fun b o e=>⟨(fun z=>by subst z;rw[na]at e;cases e),(fun z=>by subst z;rw[nT]at e;cases e)⟩;have neL:∀b o,X.s₀.heap.get? b=some o->b≠X.env.locals:=fun b o e=>Fe (Fb (E5 e) I.ok.above);have hx:∀b,b∉X.ex:=fun b=>by rw[pl.ex];simp
 have notFr:∀b o,X.s₀.heap.get? b=some o->b∉X.fs->b∉L2.frs X.stack:=fun b o e hb hm=>by
  rw[pl.frs]at hm;rcases Fd.mp hm with z | z
  ·exact neL b o e z
  ·exact hb z
 refine⟨I.ok,I.os,I.bare,⟨fun b o e n hb hx'=>?_,fun b o e n hb hx'=>?_,I.base.free,fun b o e hx'=>?_,I.base.tups,I.base.frzs,I.base.tbls⟩,?_,fun x c e=>?_,I.free,I.freeC,fun p hp=>?_,fun b u e=>?_,I.len⟩
 ·exact keep b o (I.base.keep b o e n hb hx') (notFr b o e hb) (entry b o e).1 (entry b o e).2
 ·obtain⟨sl,e1⟩:=I.base.slot b o e n hb hx';obtain⟨sl',e2⟩:=any b _ (entry b o e).1 (entry b o e).2 e1;exact⟨sl',e2⟩
 ·obtain⟨o',e1⟩:=I.base.there b o e hx';obtain⟨sl',e2⟩:=any b _ (entry b o e).1 (entry b o e).2 e1;exact⟨_,e2⟩
 ·obtain⟨m,hn,hl⟩:=I.loc;refine⟨m,up.ns hn,fun i x v e1 e2 e3=>?_⟩;obtain⟨u,r,l⟩:=hl i x v e1 e2 e3;refine⟨u,r,?_⟩;rcases l with l |⟨k,c,e,o,ho,hd⟩
  ·exact .inl l
  ·have nd:∀vs,o.data≠.fields vs:=fun vs z=>by rw[hd]at z;cases z
   obtain⟨sl,q⟩:=any c o (neA c o ho nd).1 (neA c o ho nd).2 ho;exact .inr ⟨k,c,e,_,q,hd⟩
 ·obtain⟨v,o,ho,hd⟩:=I.cell x c e;have nd:∀vs,o.data≠.fields vs:=fun vs z=>by rw[hd]at z;cases z
  obtain⟨sl,q⟩:=any c o (neA c o ho nd).1 (neA c o ho nd).2 ho;exact⟨v,_,q,hd⟩
 ·obtain⟨e,n,ne,nf,d⟩:=I.pin p hp;refine⟨keep p.1 p.2 e (fun z=>?_) (pin p hp).1 (pin p hp).2,n,ne,nf,d⟩;rw[pl.frs]at z;rcases Fd.mp z with z | z
  ·exact ne z
  ·exact nf z
 ·refine(I.hok b u e).stay (fun c v hc q=>?_) (fun _ q=>q) fun _ _ q=>q;have hc':∃o,H c=some o:=by
   rcases hc with rfl | hc
   ·exact⟨_,e⟩
   ·exact⟨_,hc⟩
  obtain⟨oc,ec⟩:=hc';refine keep c v q (fun z=>?_) (fun z=>by subst z;rw[ha]at ec;cases ec) (fun z=>by subst z;rw[hT]at ec;cases ec);rw[I.stkFree c z]at ec;cases ec
open PySem.W in
theorem jO(I:Inv X pins σ H s)(pl:Plain X)(ha:H a=none)(na:X.s₀.heap.get? a=none)(pa:∀p∈X.pn++pins,p.1≠a)(fa:∀o,s.heap.get? a=some o->∃vs,o.data=.fields vs)
  (T0:Addr) (hT0:H T0=none) (nT0:X.s₀.heap.get? T0=none) (pT0:∀p∈X.pn++pins,p.1≠T0) (fT0:∀o,s.heap.get? T0=some o->∃vs,o.data=.fields vs)
  (a0:Value) (st:(hideAll s.heap (L2.frs X.stack++[a,T0])).StaysIn h') (ff:h'.FunFrames (hideAll s.heap (L2.frs X.stack++[a,T0])) X.stack) (tr:h'.TracedAtW (hideAll s.heap (L2.frs X.stack++[a,T0])) a (.ref C) a0 fl) (up:s.heap.UpToSlots h') :
  Inv X pins σ H { s with heap:=h' }/\∃T,XAt X pins H { s with heap:=h' } a C T fl:=by
 have I':Inv X pins σ H { s with heap:=h' }:=zT I pl ha hT0 na nT0 (fun p hp=>⟨pa p hp,pT0 p hp⟩) fa fT0 (fun b o e n1 n2 n3=>st b o (hideAll_get _ e (by simp[n1,n2,n3]))) up;refine⟨I',?_⟩;obtain⟨oe,vs,T,oT,ts,e1,⟨e2,e3⟩,e4,e5,e6,e7,e8,e9,e10⟩:=tr;have key:T=T0∨s.heap.get? T=none:=by
  by_cases hT:T=T0
  ·exact .inl hT
  ·right;cases q:s.heap.get? T with
   | none=>rfl
   | some o =>
    have nfr:T∉L2.frs X.stack:=fun hm=>by
     obtain⟨_,o',e',hd⟩:=ff.mem (b:=T) hm;rw[e8]at e';cases e';exact hd ts e9
    have:=hideAll_get (L2.frs X.stack++[a,T0]) q (by simp[nfr,e7,hT]);rw[e6]at this;cases this
 refine⟨T,⟨oe,vs,oT,ts,a0,e1,e2,e3,e4,e5,e7,e8,e9,e10⟩,ha,?_,na,?_,fun p hp=>⟨pa p hp,?_⟩⟩
 ·rcases key with rfl | k
  ·exact hT0
  ·exact lU I.hok k
 ·rcases key with rfl | k
  ·exact nT0
  ·exact dM I pl k
 ·rcases key with rfl | k
  ·exact pT0 p hp
  ·intro z;have:=(I.pin p hp).1;rw[z,k]at this;cases this
open PySem.W in
theorem my(I:Inv X pins σ H s)(as:List Addr):s.heap.FunFrames (hideAll s.heap (L2.frs X.stack++as)) X.stack :=
 funFrames_hide I.stack fun env he b hb=>Fy _ (List.mem_filterMap.mpr ⟨env,he,hb⟩)
theorem XAt.data(x:XAt X pins H s a C T fl):(∀o,s.heap.get? a=some o->∃vs,o.data=.fields vs)/\∀o,s.heap.get? T=some o->∃vs,o.data=.fields vs:=by
 obtain⟨oe,vs,oT,ts,a0,e1,e2,e3,e4,e5,e7,e8,e9,e10⟩:=x.fly;exact⟨fun o e=>by rw[e1]at e;cases e;exact⟨_,e4⟩,fun o e=>by rw[e8]at e;cases e;exact⟨_,e9⟩⟩
open PySem.W in
theorem XAt.traced(x:XAt X pins H s a C T fl):∃a0,s.heap.TracedAtW (hideAll s.heap (L2.frs X.stack++[a,T])) a (.ref C) a0 fl:=by
 obtain⟨oe,vs,oT,ts,a0,e1,e2,e3,e4,e5,e7,e8,e9,e10⟩:=x.fly;exact⟨a0,oe,vs,T,oT,ts,e1,⟨e2,e3⟩,e4,e5,hideAll_none _ (by simp),e7,e8,e9,e10⟩
variable {M:Model}{E:Value->Shared->Prop}{Q:Unit->Shared->Prop}
open PySem.W in
theorem zZ(I:Inv X pins σ H s)(pl:Plain X)(x:XAt X pins H s a C T .none)
  (h:∀h' T',Inv X pins σ H { s with heap:=h' }->XAt X pins H { s with heap:=h' } a C T' (rawInt X.env.locals)->Q () { s with heap:=h' }):wpAny M X.A (noteFrame (.ref a) X.env) Q E s:=by
 obtain⟨a0,tr⟩:=x.traced;obtain⟨d1,d2⟩:=x.data;have ff:=my I [a,T];have hfr:=I.ok.frames;rw[pl.stk]at ff tr hfr;refine wpAny_noteFrame_onW hfr ff pl.fr tr (fun b o e=>of_hideAll _ e) (hideAll_none _ (by simp)) fun h' y_=>?_;obtain⟨k1,k2,k3,k4⟩:=y_;rw[←pl.stk]at k1 k2 k3;obtain⟨I',T',x'⟩:=jO I pl x.ha x.na (fun p hp=>(x.pin p hp).1) d1 T x.hT x.nT (fun p hp=>(x.pin p hp).2) d2 a0 k1 k2 k3 k4;exact h h' T' I' x'
open PySem.W in
theorem uo{A:Around}(I:Inv X pins σ H s)(pl:Plain X)(x:XAt X pins H s a C T fl)
  (h:∀h' T',Inv X pins σ H { s with heap:=h' }->XAt X pins H { s with heap:=h' } a C T' .none->Q () { s with heap:=h' }):wpAny M A (setFlight (.ref a) none) Q E s:=by
 obtain⟨a0,tr⟩:=x.traced;obtain⟨d1,d2⟩:=x.data;refine wpAny_setFlight_noneW (fun b o e=>of_hideAll _ e) (my I [a,T]) tr fun h' k1 k2 k3 k4=>?_;obtain⟨I',T',x'⟩:=jO I pl x.ha x.na (fun p hp=>(x.pin p hp).1) d1 T x.hT x.nT (fun p hp=>(x.pin p hp).2) d2 a0 k1 k2 k3 fun b o e hd=>⟨o.slots,k4 b o e hd⟩;exact h h' T' I' x'
def CXU(P:Program)(w:World):CXT:=fun outer H s E e s'=>∃(a C T:Addr) (H1:Hp),e=.ref a/\xH s'.heap a C T .none/\(H1 a=none/\H1 T=none)/\(s.heap.get? a=none/\s.heap.get? T=none) /\
 s'.os=s.os/\AllBare s'.gens/\Un (L2.frs outer) [] H H1 s.heap s'.heap/\HOk P w H1 s'.heap/\E (.ref C) none H1
open PySem.W in
theorem nI{XE:XK}{h1:Heap}{args:List Value}(I:Inv X pins σ H s)(pl:Plain X)(mx:Heap.MadeExcOf s.heap h1 a (.ref C) args)(hE:XE (.ref C) none H) :
  wpAny M X.A (leaving X.env (.ref a)) (fun _ s''=>CXU X.prog X.w X.outer X.H₀ X.s₀ XE (.ref a) s'') E { s with heap:=h1 }:=by
 have I1:Inv X pins σ H { s with heap:=h1 }:=I.kept (t':=s.toks) mx.keeps;obtain⟨t,e1,e2,e3⟩:=mx.there;have ha:=lU I.hok mx.new;have na:=dM I pl mx.new;have pa:∀p∈X.pn++pins,p.1≠a:=fun p hp z=>by have:=(I.pin p hp).1;rw[z,mx.new]at this;cases this
 have fa:∀o,h1.get? a=some o->∃vs,o.data=.fields vs:=fun o e=>by rw[e1]at e;cases e;exact⟨_,rfl⟩
 have ff:=my I1 [a,a];have hfr:=I1.ok.frames;rw[pl.stk]at ff hfr;refine wpAny_leaving_firstW hfr ff pl.fr e1 (fun b o e=>of_hideAll _ e) (hideAll_none _ (by simp)) rfl rfl rfl fun h' y_=>?_;obtain⟨k1,k2,k3,k4⟩:=y_;rw[←pl.stk]at k1 k2 k3;obtain⟨I',T',x'⟩:=jO I1 pl ha na pa fa a ha na pa fa _ k1 k2 k3 k4;have hu:=I'.base;rw[pl.ex]at hu;exact⟨a,C,T',H,rfl,x'.fly,⟨x'.ha,x'.hT⟩,⟨x'.na,x'.nT⟩,I'.os,I'.bare,hu,I'.hok,hE⟩
theorem rp{XE:XK}{e:Value}{s':Shared}(I:Inv X pins σ H s)(pl:Plain X)(c:CXU X.prog X.w X.stack H s XE e s') :
  ∃a C T H1,e=.ref a/\Inv X pins σ H1 s'/\XAt X pins H1 s' a C T .none/\XE (.ref C) none H1/\Kp H H1:=by
 obtain⟨a,C,T,H1,rfl,fl,⟨h1,h2⟩,⟨n1,n2⟩,os,ba,un,hok,hE⟩:=c;refine⟨a,C,T,H1,rfl,I.call' (ch:=[]) os un hok ba (fun _ z=>nomatch z),⟨fl,h1,h2,dM I pl n1,dM I pl n2,fun p hp=>⟨fun z=>?_,fun z=>?_⟩⟩,hE,⟨un.tups,un.frzs⟩⟩
 ·have:=(I.pin p hp).1;rw[z,n1]at this;cases this
 ·have:=(I.pin p hp).1;rw[z,n2]at this;cases this
end
end
end U
namespace U
open L2 PySem.W
theorem sN:entryFor table "BaseException.__getattribute__"=some Builtin.«object.__getattribute__» :=
 entryFor_alias (id':="object.__getattribute__") (by kernel_rfl) (by first | rfl | decide +kernel) (by decide +kernel) (by kernel_rfl)
section
variable {prog:Program}{w:World}{A:Around}{E:Value->Shared->Prop}{h:Heap}{g:Array GenState}{d:Drawn}{t:Nat}{os:OsState}{a C:Addr}{o:Obj}{K:Frag}
theorem vq(X:K.In h)(hx:h.get? a=some o)(hc:o.cls=.ref C)(hm:mroIn K C (.type "object")=some true)(hq:R (.ok (.ret (.ref C))) ⟨h,g,d,t,os⟩) :
  codeAny (model prog w) A (.call (.builtin "getset_descriptor.__get__") ⟨[.builtin "object.__class__",.ref a,.ref C],[]⟩) R ⟨h,g,d,t,os⟩:=by
 have hT5:(⟨h,g,d,t,os⟩:Shared).TypeIs (.builtin "object.__class__") "getset_descriptor":=F.typeOf_object_class;have LS:Looks (model prog w) h (isSubtype (.ref C) (.type "object")) true:=looks_mroIn X hm;have f8:=F.owner_object_class;refine codeAny_call_builtin F.slot_gs_get.plain F.entry_gs_get (F.slot_gs_get.check _ _ _ _ _ _ _ _ hT5 (F.args_gs_get _ _ _) ?_)
 repeat (any_goals (first | assumption | wp_step))
 rw[hc,f8];refine LS.at ?_
 repeat (any_goals (first | assumption | wp_step))
 refine⟨Code.quiet_builtin _ (by decide +kernel),codeAny_builtin F.entry_object_class ?_⟩
 repeat (any_goals (first | assumption | wp_step))
 all_goals (rw[hc];exact hq)
theorem qe(X:K.In h)(hx:h.get? a=some o)(hc:o.cls=.ref C)(hm:mroIn K C (.type "object")=some true)(hf:findIn K (.ref C) "__class__"=some (some (.builtin "object.__class__")))(hq:Q (.done (.ret (.ref C))) ⟨h,g,d,t,os⟩) :
  wpAny (model prog w) A (Builtin.«object.__getattribute__» ⟨[.ref a,.str "__class__" tk],[]⟩) Q E ⟨h,g,d,t,os⟩:=by
 have hT5:(⟨h,g,d,t,os⟩:Shared).TypeIs (.builtin "object.__class__") "getset_descriptor":=F.typeOf_object_class;have LF:Looks (model prog w) h (typeLookup (.ref C) "__class__") (some (.builtin "object.__class__")):=looks_findIn X hf;have f5:=F.typeOf_object_class;have f6:=F.slot_gs_get.lookup;have f7:=F.slot_gs_set.lookup
 repeat (any_goals (first | assumption | wp_step))
 rw[hc];refine LF.at ?_
 repeat (any_goals (first | assumption | wp_step))
 refine vq X hx hc hm ?_
 repeat (any_goals (first | assumption | wp_step))
theorem oV:builtinKind "BaseException.__getattribute__"=some .slot:=by decide +kernel
theorem tf:splitId "BaseException.__getattribute__"=some ("BaseException","__getattribute__"):=by decide +kernel
theorem pX(X:K.In h)(hx:h.get? a=some o)(hc:o.cls=.ref C)(hm:mroIn K C (.type "BaseException")=some true)(hq:Q () ⟨h,g,d,t,os⟩) :
  wpAny M A (checkBuiltinCall "BaseException.__getattribute__" ⟨[.ref a,.str "__class__" tk],[]⟩) Q E ⟨h,g,d,t,os⟩:=by
 have LB:Looks M h (isSubtype (.ref C) (.type "BaseException")) true:=looks_mroIn X hm;simp only[checkBuiltinCall,oV,tf]
 repeat (first |(with_reducible refine wpAny_loadPart_at hx ?_;rw[hc]) | with_reducible refine LB.at ?_ | wp_step)
 exact hq
theorem ux(X:K.In h)(hx:h.get? a=some o)(hc:o.cls=.ref C)(hm:mroIn K C (.type "object")=some true)(hb:mroIn K C (.type "BaseException")=some true)
  (hf:findIn K (.ref C) "__class__"=some (some (.builtin "object.__class__"))) (hq:R (.ok (.ret (.ref C))) ⟨h,g,d,t,os⟩) :
  codeAny (model prog w) A (.call (.builtin "BaseException.__getattribute__") ⟨[.ref a,.str "__class__" tk],[]⟩) R ⟨h,g,d,t,os⟩ :=
 codeAny_call_builtin_at (Code.quiet_builtin _ (by decide +kernel)) sN (pX X hx hc hb (qe X hx hc hm hf hq))
theorem wb(self:Value):bindSpecial (.builtin "BaseException.__getattribute__") self=pure (.builtin "BaseException.__getattribute__",[self]):=by
 have hop:withoutEnding? "BaseException.__getattribute__" "#opaque"=none:=by decide +kernel
 have hdat:withoutEnding? "BaseException.__getattribute__" "#data"=none:=by decide +kernel
 simp only[bindSpecial,typeOf,builtinType,hop,hdat,oV];rfl
theorem zI(X:K.In h)(hx:h.get? a=some o)(hc:o.cls=.ref C)(hm:mroIn K C (.type "object")=some true)(hb:mroIn K C (.type "BaseException")=some true)
  (hf:findIn K (.ref C) "__class__"=some (some (.builtin "object.__class__"))) (hg:findIn K (.ref C) "__getattribute__"=some (some (.builtin "BaseException.__getattribute__"))) (hh:findIn K (.ref C) "__getattr__"=some none) (hq:Q (.ref C) ⟨h,g,d,t,os⟩) :
  wpAny (model prog w) A (getAttrBy (.ref a) (.str "__class__" tk) false) Q E ⟨h,g,d,t,os⟩:=by
 have LG:Looks (model prog w) h (typeLookup (.ref C) "__getattribute__") (some (.builtin "BaseException.__getattribute__")):=looks_findIn X hg;have LH:Looks (model prog w) h (typeLookup (.ref C) "__getattr__") none:=looks_findIn X hh;have f3:=wb (.ref a);unfold getAttrBy;refine Gb ?_
 repeat (first |(with_reducible refine wpAny_loadPart_at hx ?_;rw[hc]) | with_reducible refine LG.at ?_ | with_reducible refine LH.at ?_ | wp_step)
 refine ux X hx hc hm hb hf ?_;show wpAny (model prog w) A (handedOut (.ref C)) Q E _;exact handed_on rfl hq
theorem uN(X:K.In h)(hx:h.get? a=some o)(hc:o.cls=.ref C)(hm:mroIn K C (.type "object")=some true)(hb:mroIn K C (.type "BaseException")=some true)
  (hf:findIn K (.ref C) "__class__"=some (some (.builtin "object.__class__"))) (hg:findIn K (.ref C) "__getattribute__"=some (some (.builtin "BaseException.__getattribute__"))) (hh:findIn K (.ref C) "__getattr__"=some none)
  (hq:Q (some (.ref C)) ⟨h,g,d,t+1,os⟩):wpAny (model prog w) A (getAttr? (.ref a) "__class__") Q E ⟨h,g,d,t,os⟩:=by
 unfold getAttr? getAttrBy?
 repeat (any_goals (first | assumption | with_reducible apply zI X hx hc hm hb hf hg hh | wp_step))
end
structure fM (K:Frag) (C:Addr):Prop where
 ex:excIn K C [.type "ValueError",.type "Exception",.type "BaseException",.type "object"] "ValueError.__new__"=true
 ob:mroIn K C (.type "object")=some true
 be:mroIn K C (.type "BaseException")=some true
 ga:findIn K (.ref C) "__getattribute__"=some (some (.builtin "BaseException.__getattribute__"))
 gt:findIn K (.ref C) "__getattr__"=some none
 cl:findIn K (.ref C) "__class__"=some (some (.builtin "object.__class__"))
theorem fM.obj{K:Frag}(c:fM K C):∃(dd:Option Addr) (cd:ClassData) (sl:Array (Option Value)),K.lookup C=some ⟨.type "type",dd,.cls cd,sl⟩:=by
 have q:=c.ex;unfold excIn at q;split at q
 ·rename_i dd cd sl ho;exact⟨dd,cd,sl,ho⟩
 ·cases q
theorem tj{K:Frag}(c:fM K C):KitX K (.ref a) (.ref C) (jW a C) where
 ty:=fun M h _ ⟨o,h1,h2⟩=>h2▸(Looks.ld h1).andThen .now
 it:=fun M h X _=>by
  obtain⟨dd,cd,sl,ho⟩:=c.obj;intro A' Q' E' s' k q;unfold isType loadHead;exact ES (wpAny_loadPart (k _ _ (X _ _ ho)) (E4 q))
 ne:=fun h tp dd its n sl X htp=>by
  obtain⟨dd,cd,sl,ho⟩:=c.obj;refine Bool.eq_false_iff.mpr fun q=>?_;have e:C=tp:=Value.ref.inj (Gd.mp q);subst e;have z:=(X _ _ ho).symm.trans htp;exact absurd (congrArg Obj.cls (Fn z)) (by show ¬Value.type "type"=Value.type "tuple";decide)
 ca:=fun {_ _ _ _ _ s} X y_ k=>by
  obtain⟨o,h1,h2⟩:=y_;obtain⟨h,g,d,t,os⟩:=s;exact uN X h1 h2 c.ob c.be c.cl c.ga c.gt k
end U
namespace U
open L2
section
variable {B:Bs}
def XL(K:PySem.W.Frag)(B:Bs)(E':XK')(E:XK):Prop:=∀c d H1' H1,E' c d H1'->HR K H1' H1->Ev B.1 B.2 H1' H1->E c d H1
section
variable {P:Program}{w:World}{K:PySem.W.Frag}{mg:Str->Option Value}{base:Heap}
theorem fu:Plain (j8 CX P w K mg base N qual sc f cdv A outer s H E):=⟨rfl,rfl,rfl⟩
theorem okX{st:Stmt}(F:Fun K x qual st f fd)(S:aG N ps (ai st))(len:∀vs H Q E,sp vs H Q E->vs.length=ps.length)
  (hbody:∀(cdv:Value) (A:Around) (outer:List Env) (s:Shared) (H:Hp) (E:XK) (vs':List PV) (H':PHp) (Q':VK') (E':XK'),cv k (A.deeper (envOfC qual (ai st) s.heap.objs.size f cdv))->XL K (H',H) E' E->sp vs' H' Q' E' ->
   ∃t,gT (j8 (CXU P w) P w K mg base N qual (ai st) f cdv A outer s H E) (H',H) (aD st) t/\t (ends Q') (cZ N vs') H'):aT P w K mg base (CXU P w) (k+1) f fd ps sp:=by
 obtain⟨oc,od,kV,doc,pm,an,cdv,ct,osl,rfl,lk,hcd⟩:=F.ex;refine xo lk hcd S (fun vs H Q E zz=>by obtain⟨vs',H',Q',E',r,hr,h,_⟩:=zz;rw[RPs.length _ r];exact len _ _ _ _ h) fun A outer s H vs Q E hr hsp=>?_;obtain⟨vs',H',Q',E',r,hh,h,k1,k2⟩:=hsp;obtain⟨t,ht,hq⟩:=hbody cdv A outer s H E vs' H' Q' E' hr k2 h;refine⟨_,ht,cZ N vs',H',_,lM r hh,hq,?_,?_,?_,?_⟩
 ·rintro σ1' H1' σ1 H1 ⟨H3,sb,q⟩ s1 e1;exact k1 _ H3 _ H1 q (by simp[RP]) (s1.hp.sub sb) (e1.sub sb)
 ·rintro v' H1' v H1 ⟨H3,sb,q⟩ r1 s1 e1;exact k1 _ H3 _ H1 q r1 (s1.sub sb) (e1.sub sb)
 ·intro _ _ _ _ z;exact z.elim
 ·intro _ _ _ _ z;exact z.elim
end
section
variable {X:Cx}{k:Nat}{f C D:Addr}{fd:FuncData}{ps:List Str}{sp:Sp'}{E:XK}{E':XK'}{x m n:Str}{p np pos apos cpos:Pos}{e o:Expr}{es:List Expr}{ta:TE'}{t:TA'}
def Lv(X:Cx)(E:XK):Prop:=X.xe=fun e s'=>wpAny (model X.prog X.w) X.A (leaving X.env e) (fun _ s''=>CXU X.prog X.w X.outer X.H₀ X.s₀ E e s'') (fun e' s''=>CXU X.prog X.w X.outer X.H₀ X.s₀ E e' s'') s'
theorem r8{K:PySem.W.Frag}(KX:K.In h)(c:fM K C):∃(bm:List Value) (N:Addr) (nm q:Str) (bs:List Value) (hdct:Bool) (sn:List Str) (sub:List Value) (ab:Bool) (col:Option Bool) (dd:Option Addr) (k0 k1 k2 k3 k5:Option Value) (mN:Str->Option Value),
  h.get? C=some (excClassObj nm q C N bs bm hdct sn sub ab col dd k0 k1 k2 k3 k5 "ValueError.__new__")/\h.Ns N mN/\mN "__init__"=none/\OwnTail h [.type "ValueError",.type "Exception",.type "BaseException",.type "object"] bm:=by
 have q:=c.ex;unfold PySem.W.excIn at q;split at q
 ·rename_i dd cd sl ho;split at q
  ·rename_i C' bm k0 k1 k2 k3 n k5 hm hs;simp only[F8,Gd,Bool.not_eq_true']at q;obtain⟨⟨⟨⟨⟨rfl,rfl⟩,hdel⟩,ht⟩,hok⟩,hni⟩:=q;obtain⟨nm,bs,mro,ns,qn,hd,sn,sub,ab,col,del⟩:=cd;dsimp only at hm hdel hok hni;subst hm hdel;have hsl:sl=#[k0,k1,k2,k3,some (.builtin "ValueError.__new__"),k5]:=by
    obtain⟨l⟩:=sl;simp only at hs;rw[hs]
   subst hsl;exact⟨bm,ns,nm,qn,bs,hd,sn,sub,ab,col,dd,k0,k1,k2,k3,k5,_,KX _ _ ho,.of_isNs (PySem.W.isNs_of_in KX hok),PySem.W.nsMap_none_of_in KX hok hni,PySem.W.tail_of_in KX ht⟩
  ·cases q
 ·cases q
def mF(C:Addr)(E':XK'):TS':=fun _ _ H=>E' (.ref C) none H
theorem fF{msg:Str}{j:Nat}{mp:Pos}(l:Lv X E)(pl:Plain X)(hE:XL X.K B E' E)(hc:X.calm=true)(c:fM X.K C)(hg:Gl X x)(hm:X.mg x=some (.ref C))(hdb:(x==("__debug__":Str))=false:=by decide) :
  PS' X B (.Raise (some (.Call (.Name x np) [.Constant (.str msg) j mp] [] cpos)) none pos) (mF C E'):=by
 intro pins s σ H Dn I ⟨σ',H',D',sr,h,dr⟩;have hE1:E (.ref C) none H:=hE _ _ H' H h sr.hp sr.ev;obtain⟨bm,N,nm,q,bs,hdct,sn,sub,ab,col,dd,k0,k1,k2,k3,k5,mN,hC,hN,hni,TL⟩:=r8 I.mod.kin c;refine wpAny_Raise_call_subT (C:=C) (nm:=nm) (q:=q) (N:=N) (bs:=bs) (bm:=bm) (hdct:=hdct) (sn:=sn) (sub:=sub) (ab:=ab) (col:=col) (dd:=dd) (k0:=k0) (k1:=k1) (k2:=k2) (k3:=k3) (k5:=k5) PySem.F.excBase_ValueError (TL.hasType (by decide)) (I.ok.hd hc) rfl hni (eQ I hg hm ⟨rfl,?_⟩ hdb);refine Calls.evalArgs_plain ?_;refine thn (dk (X:=X) uT gf rfl cpos pins s σ H (fun vs H1=>vs=[.str msg]/\H1=H) I ⟨rfl,rfl⟩) fun us s2 y_=>?_;obtain⟨vs,H1,I2,r,ev,eh⟩:=y_;subst ev;subst eh;have hl:us.length=1:=by rw[←r.length];rfl
 refine⟨rfl,by show us.length≤sizeLine;rw[hl];exact ak (by decide),I2.bk _ _ hC,hN.keeps I2.bk,TL.keeps I2.bk,fun h' a mx=>?_⟩;rw[l];exact nI I2 pl mx hE1
end
end
section
variable {B:Bs}
section
variable {X:Cx}{pins:List (Addr×Obj)}{σ:L2.St}{H:Hp}{s:Shared}{a C T:Addr}{fl:Value}
theorem name_goes(I:Inv X pins σ H s)(hN:X.N.Nodup)(hi:X.N[i]?=some n)(hl:X.env.scope.names.lookup n=some .local)
  (h:∀s',Inv X pins (σ.set i none) H s'->Q () s'):wpAny M A (do bindName X.env n .none;unbindBehindTheSuite X.env n pos) Q E s:=by
 obtain⟨m,hn,hlo⟩:=id I.loc;have hcls:(X.env.scope.kind==.class||(X.env.scope.kind==.module&&X.env.locals !=X.env.globals))=false:=by rw[I.ok.kind];rfl
 refine wpAny_nameGoes_keeps hl hn hcls fun h' v hn' hs=>h _ ?_;obtain⟨oL,_,_,hoL,_⟩:=id hn;have cne:=I.cne;refine⟨I.ok,I.os,I.bare,⟨fun b o e n' hb hx=>?_,fun b o e n' hb hx=>?_,I.base.free,fun b o e hx=>?_,I.base.tups,I.base.frzs,I.base.tbls⟩,⟨_,hn',fun j y v' e1 e2 e3=>?_⟩,fun y c e=>?_,I.free,I.freeC,fun p hp=>?_,fun b ob e=>?_,by rw[FR];exact I.len⟩
 ·exact(hs.2 b (Fe (Fb (E5 e) I.ok.above))).trans (I.base.keep b o e n' hb hx)
 ·obtain⟨sl,e1⟩:=I.base.slot b o e n' hb hx;exact⟨sl,(hs.2 b (Fe (Fb (E5 e) I.ok.above))).trans e1⟩
 ·obtain⟨o',e1⟩:=I.base.there b o e hx;exact⟨o',(hs.2 b (Fe (Fb (E5 e) I.ok.above))).trans e1⟩
 ·by_cases hj:j=i
  ·subst hj;by_cases hlt:j<σ.length
   ·rw[FA hlt]at e2;cases e2
   ·rw[FN (by simpa using Nat.le_of_not_lt hlt)]at e2;cases e2
  ·rw[Gm (Ne.symm hj)]at e2;obtain⟨u',r',q⟩:=hlo j y v' e1 e2 e3;refine⟨u',r',?_⟩;rcases q with⟨k,e⟩ |⟨k,c,e,z⟩
   ·refine .inl ⟨k,?_⟩;have:y≠n:=fun e=>hj (iM hN e1 (e▸hi));simp[this,e]
   ·exact .inr ⟨k,c,e,z.sameBut hs (cne y c e)⟩
 ·obtain⟨w',z⟩:=I.cell y c e;exact⟨w',z.sameBut hs (cne y c e)⟩
 ·obtain⟨e,n',ne,nf,d⟩:=I.pin p hp;exact⟨(hs.2 p.1 ne).trans e,n',ne,nf,d⟩
 ·refine(I.hok b ob e).stay (fun c w' hc q=>(hs.2 c ?_).trans q) (fun _ q=>q) fun _ _ q=>q;rintro rfl;rcases hc with rfl | hc
  ·rw[I.free]at e;cases e
  ·rw[I.free]at hc;cases hc
theorem vP(I:Inv X pins σ H s)(x:XAt X pins H s a C T fl):Inv X pins σ (upd H a (.ext (jW a C))) s:=by
 obtain⟨oe,vs,oT,ts,a0,e1,e2,e3,e4,e5,e7,e8,e9,e10⟩:=x.fly;have hL:X.env.locals≠a:=by
  rintro rfl;obtain⟨m,⟨o,es,ep,ho,hd,_⟩,_⟩:=I.loc;rw[e1]at ho;cases ho;rw[e4]at hd;cases hd
 refine⟨I.ok,I.os,I.bare,⟨I.base.keep,I.base.slot,fun b o e n hx=>?_,I.base.there,fun b xs e=>?_,fun b o u e=>?_,fun b ps e=>?_⟩,I.loc,I.cell,?_,fun y c e=>?_,fun p hp=>?_,fun b ob e=>?_,I.len⟩
 ·rw[aJ (fun z=>by subst z;rw[x.na]at e;cases e)];exact I.base.free b o e n hx
 ·have:=I.base.tups b xs e;rw[aJ (aN this x.ha)];exact this
 ·have:=I.base.frzs b o u e;rw[aJ (aN this x.ha)];exact this
 ·obtain⟨more,this⟩:=I.base.tbls b ps e;exact⟨more,by rw[aJ (aN this x.ha)];exact this⟩
 ·rw[aJ hL];exact I.free
 ·refine(aJ ?_).trans (I.freeC y c e);rintro rfl;obtain⟨v,o,ho,hd⟩:=I.cell y c e;rw[e1]at ho;cases ho;rw[e4]at hd;cases hd
 ·obtain⟨e,n,ne,nf,d⟩:=I.pin p hp;exact⟨e,by rw[aJ (x.pin p hp).1];exact n,ne,nf,d⟩
 ·by_cases hb:b=a
  ·subst hb;rw[bC]at e;cases e;exact⟨⟨oe,e1,e2⟩,⟨oe,e1⟩,fun h1 h2 y_ k=>by obtain⟨o,q1,q2⟩:=y_;exact ⟨o,k o q1,q2⟩⟩
  ·rw[aJ hb]at e;exact(I.hok b ob e).stay (fun _ _ _ q=>q) (fun c q=>by rw[aJ (aN q x.ha)];exact q) fun c xs q=>by rw[aJ (aN q x.ha)];exact q
abbrev mk(X:Cx)(e:Value):Cx:={ X with A:=X.A.mark (some e),calm:=false,xe:=fun _ _=>False }
theorem rM(I:Inv X pins σ H s)(e:Value):Inv (mk X e) pins σ H s :=
 ⟨⟨I.ok.mod,I.ok.kind,I.ok.glob,I.ok.blt,I.ok.above,I.ok.inj,I.ok.has,I.ok.cab,(fun z=>by cases z),I.ok.frames,I.ok.stk,I.ok.exf,I.ok.bs,I.ok.bsz,I.ok.noex,I.ok.exfs,I.ok.funs,I.ok.frf⟩,I.os,I.bare,I.base,I.loc,I.cell,I.free,I.freeC,I.pin,I.hok,I.len⟩
theorem sJ(ok:X.Ok)(I:Inv (mk X e) pins σ H s):Inv X pins σ H s:=⟨ok,I.os,I.bare,I.base,I.loc,I.cell,I.free,I.freeC,I.pin,I.hok,I.len⟩
theorem ua(pl:Plain X)(e:Value):Plain (mk X e):=⟨pl.ex,pl.stk,pl.fr⟩
open PySem.W in
theorem iw{M:Model}{A:Around}{E:Value->Shared->Prop}{D:Addr}{b:Bool}{Q:Bool->Shared->Prop}(KX:X.K.In s.heap)(cD:fM X.K D)(hm:mroIn X.K C (.ref D)=some b)(x:∃o,s.heap.get? a=some o/\o.cls=.ref C)
  (h:Q b s):wpAny M A (excMatches (.ref a) (.ref D)) Q E s:=by
 obtain⟨oe,he,hcls⟩:=x;obtain⟨bm,N,nm,q,bs,hdct,sn,sub,ab,col,dd,k0,k1,k2,k3,k5,mN,hC,hN,hni,TL⟩:=r8 KX cD;have hcB:(Value.ref D::bm).contains (.type "BaseException")=true:=by rw[List.contains_cons,TL.hasType (X:="BaseException") (b:=true) (by decide),Bool.or_true]
 have LS:Looks M s.heap (isSubtype (.ref C) (.ref D)) b:=looks_mroIn KX hm;have f:=tc_notTuple;obtain⟨hp,g,d,t,os⟩:=s;unfold excMatches
 repeat (first |(with_reducible refine wpAny_loadPart_at he ?_;rw[hcls]) | with_reducible refine wpAny_loadPart_at hC ?_ |(with_reducible refine wpAny_isSubtype_exc hC ?_;rw[hcB]) | with_reducible refine LS.at ?_ | wp_step)
 cases b with
 | true=>wp_walk;exact h
 | false=>wp_walk;exact h
end
end
section
variable {B:Bs}
abbrev TX':=St'->PHp->VK'->XK'->Prop
abbrev iB:=cz->(St'->XK')->St'->PHp->Prop
structure nL (X:Cx) (B:Bs) (pins:List (Addr × Obj)) (σ':St') (H':PHp) (H:Hp) (E':XK') (σ1:L2.St) (a:Addr) (s1:Shared):Prop where
 ex:∃H1' H1 C T,Inv X pins σ1 H1 s1/\XAt X pins H1 s1 a C T .none/\SR X.K B σ' H1' σ1 H1/\Ev H' H H1' H1/\E' (.ref C) none H1'
def PXE(X:Cx)(B:Bs)(e:Expr)(t:TX'):Prop:=∀(Ex:Value->Shared->Prop) (pins:List (Addr×Obj)) (s:Shared) (σ:L2.St) (H:Hp) (Q:VK) (σ':St') (H':PHp) (Q':VK') (E':XK'),Inv X pins σ H s->SR X.K B σ' H' σ H->t σ' H' Q' E' ->
 (∀v' H1' v H1,Q' v' H1'->RP X.K H1 v' v->SR X.K B σ' H1' σ H1->Ev H' H H1' H1->Q v H1)->(∀a s1,nL X B pins σ' H' H E' σ a s1->Ex (.ref a) s1)->wpAny (model X.prog X.w) X.A (eval e X.env) (EP X pins σ Q) Ex s
def PSX(X:Cx)(B:Bs)(st:Stmt)(t:iB):Prop:=∀(Ex:Value->Shared->Prop) (pins:List (Addr×Obj)) (s:Shared) (σ:L2.St) (H:Hp) (D:Ends) (σ':St') (H':PHp) (D':cz) (E':St'->XK'),Inv X pins σ H s->SR X.K B σ' H' σ H->t D' E' σ' H'->DR X.K B D' D H' H ->
 (∀σ1' σ1 a s1,nL X B pins σ1' H' H (E' σ1') σ1 a s1->Ex (.ref a) s1)->wpAny (model X.prog X.w) X.A (exec st X.env) (SP X pins D) Ex s
def AF(X:Cx)(B:Bs)(sts:List Stmt)(t:iB):Prop:=∀(Ex:Value->Shared->Prop) (pins:List (Addr×Obj)) (s:Shared) (σ:L2.St) (H:Hp) (D:Ends) (σ':St') (H':PHp) (D':cz) (E':St'->XK'),Inv X pins σ H s->SR X.K B σ' H' σ H->t D' E' σ' H'->DR X.K B D' D H' H ->
 (∀σ1' σ1 a s1,nL X B pins σ1' H' H (E' σ1') σ1 a s1->Ex (.ref a) s1)->wpAny (model X.prog X.w) X.A (execs sts X.env) (SP X pins D) Ex s
section
variable {X:Cx}{k:Nat}{f C D:Addr}{fd:FuncData}{ps:List Str}{sp:Sp'}{x m n:Str}{p np pos apos cpos:Pos}{e o:Expr}{es:List Expr}{ta:TE'}{t:TA'}
theorem xP{tr:Sem α}{Q:α->Shared->Prop}(h:wpAny M A tr Q (fun _ _=>False) s):wpAny M A tr Q Ex s:=Gu h (fun _ _ q=>q) fun _ _ z=>z.elim
theorem nL.later(c:nL X B pins σ' H1' H1 E' σ1 a s1)(e:Ev H' H H1' H1):nL X B pins σ' H' H E' σ1 a s1:=by
 obtain⟨H2',H2,C,T,i,x,s,v,q⟩:=c.ex;exact⟨H2',H2,C,T,i,x,s,e.trans v,q⟩
def xA(sp:Sp')(t:TA'):TX':=fun σ H Q E=>t σ H fun vs H1=>sp vs H1 Q E
def Ca(i:Nat)(t:TX'):iB:=fun D E σ H=>t σ H (fun v H1=>D.nx (σ.set i (some v)) H1) (E σ)
def uV(t:TX'):iB:=fun D E σ H=>t σ H (fun _ H1=>D.nx σ H1) (E σ)
theorem v9{tx:TX'}(he:PXE X B e tx)(hs:swapsWith e none pos.line X.env=pure false:=by rfl):PSX X B (.Expr e pos) (uV tx):=by
 intro Ex pins s σ H D σ' H' D' E' I sr h dr hE;refine wpAny_Expr_any (thn (he Ex pins s σ H (fun v H1=>∃v' H1',D'.nx σ' H1'/\RP X.K H1 v' v/\SR X.K B σ' H1' σ H1/\Ev H' H H1' H1) σ' H' _ (E' σ') I sr h (fun v' H1' v H1 q r s1 e1=>⟨v',H1',q,r,s1,e1⟩) fun a s1 c=>hE σ' σ a s1 c) fun v s1 ⟨y,H1,I1,r1,v',H1',q,r,s1',e1⟩=>?_) I.quiet hs;exact⟨σ,H1,I1,dr.nx _ _ _ _ q s1' e1⟩
def CH(t u:iB):iB:=fun D E σ H=>t { D with nx:=u D E } E σ H
theorem vp{st:Stmt}(h:PSX X B st ts):AF X B [st] ts:=by
 intro Ex pins s σ H D σ' H' D' E' I sr ht dr hE;refine wpAny_execs_cons (thn (h Ex pins s σ H D σ' H' D' E' I sr ht dr hE) fun f s1 q=>?_);cases f with
 | next=>exact wpAny_execs_nil q
 | _=>exact q
def xIf(c:TT')(t u:iB):iB:=fun D E σ H=>c σ H fun b H1=>cif b (t D E σ H1) (u D E σ H1)
def zi(K:PySem.W.Frag)(D:Addr)(t:iB)(i j:Nat):TS':=fun Dn σ H=>t Dn (fun σ1 c d H1=>∃C,c=.ref C/\(fM K C/\PySem.W.mroIn K C (.ref D)=some true)/\∀a,H1 a=none->Dn.nx (((σ1.set i (some (.ref a))).set j (some (.ref a))).set i none) (put H1 a (.exc C))) σ H
theorem ya{body:List Stmt}{tb:iB}{i j:Nat}{z:Str}{zp n2 ap hp:Pos}(pl:Plain X)(hN:X.N.Nodup)(hi:X.N[i]?=some n)(hj:X.N[j]?=some z)(hln:X.env.scope.names.lookup n=some .local)(hlz:X.env.scope.names.lookup z=some .local)
  (cD:fM X.K D) (hg:Gl X x) (hm:X.mg x=some (.ref D)) (hb:AF X B body tb)
  (hdb:(x==("__debug__":Str))=false:=by decide) (hnd:(n==("__debug__":Str))=false:=by decide) (hncd:(n==("__classdict__":Str))=false:=by decide)
  (hsw:swapsWith (.Name n n2) (some (.Name z zp)) ap.line X.env=pure false:=by rfl) :
  PS' X B (.Try body [.ExceptHandler (some (.Name x np)) (some n) [.Assign [.Name z zp] (.Name n n2) ap] hp] [] [] pos) (zi X.K D tb i j):=by
 intro pins s σ H Dn I ⟨σ',H',D',sr,h,dr⟩;refine wpAny_Try_except (Gu (hb (fun e s₁=>wpAny (model X.prog X.w) X.A (noteFrame e X.env) (fun _ s₂=>wpAny (model X.prog X.w) X.A (setFlight e none) (fun _ s₃=>wpAny (model X.prog X.w) X.A (handleBy e X.env [.ExceptHandler (some (.Name x np)) (some n) [.Assign [.Name z zp] (.Name n n2) ap] hp]) (SP X pins Dn) X.xe s₃) X.xe s₂) X.xe s₁)
  pins s σ H Dn σ' H' D' _ I sr h dr ?_) (fun f s₁ q=>?_) fun _ _ q=>q)
 ·rintro σ1' σ1 a s1 ⟨H1',H1,C,T,I1,x1,sr1,e1,C',ec,⟨cC,hmC⟩,hn⟩;cases ec;refine zZ I1 pl x1 fun h2 T2 I2 x2=>?_;refine uo I2 pl x2 fun h3 T3 I3 x3=>?_;obtain⟨oe,vs,oT,ts,a0,q1,q2,_⟩:=id x3.fly;refine wpAny_handleBy_cons (codeAny_handlers_test (eQ (rM I3 (.ref a)) hg hm ?_ hdb)) (by intro q;cases q);refine iw (X:=X) I3.kIn cD hmC ⟨oe,q1,q2⟩ ?_;show codeAny _ _ (.handlers (.ref a) [.ExceptHandler none (some n) [.Assign [.Name z zp] (.Name n n2) ap] hp] X.env) _ _;refine codeAny_handlers_suite_as ?_;refine uo (X:=mk X (.ref a)) (rM I3 (.ref a)) (ua pl _) (T:=T3) (fl:=.none) ⟨x3.fly,x3.ha,x3.hT,x3.na,x3.nT,x3.pin⟩ fun h4 T4 I4 x4=>?_;have I5:=vP I4 x4;refine iV (X:=mk X (.ref a)) (v:=.ref a) I5 hN hi (Or.inl hln) rfl (fun s5 I6=>?_) (.inr hln);have ps:=oA (uD (X:=mk X (.ref a)) (pos:=ap) (i:=j) hN hj (Or.inl hlz) (sX (pos:=n2) hi (Or.inl hln) hnd hncd) hsw (.inr hlz));have hiσ:i<σ1.length:=by rw[I1.len];exact(EV.mp hi).1
  refine xP (thn (ps pins s5 _ _ { nx:=fun σ6 H6=>σ6=(σ1.set i (some (.ref a))).set j (some (.ref a))/\H6=upd H1 a (.ext (jW a C)),rt:=fun _ _=>False } I6 ⟨.ref a,FA hiσ,rfl,rfl⟩) fun f s6 q=>?_);cases f with
  | next =>
   obtain⟨σ6,H6,I7,rfl,rfl⟩:=q;show wpAny _ X.A (do bindName X.env n .none;unbindBehindTheSuite X.env n hp) _ _ _;refine name_goes (sJ I.ok I7) hN hi hln fun s7 I8=>?_;refine⟨_,_,I8,dr.nx _ _ _ _ (hn a (sr1.hp.free x1.ha)) ?_ (e1.trans (Ev.new x1.ha))⟩;have srn:SR X.K B σ1' (put H1' a (.exc C)) σ1 (upd H1 a (.ext (jW a C))):=sr1.new x1.ha (bC);have r:RP X.K (upd H1 a (.ext (jW a C))) (.ref a) (.ref a):=by simp[RP]
   have sr2:=(srn.set r i).set r j;refine⟨by simp[sr2.len],fun k v' ek=>?_,sr2.hp,sr2.ev⟩;by_cases hk:i=k
   ·subst hk;by_cases hlt:i<σ1'.length
    ·rw[FA (by simpa using hlt)]at ek;cases ek
    ·rw[FN (by simpa using Nat.le_of_not_lt hlt)]at ek;cases ek
   ·rw[Gm hk]at ek ⊢;exact sr2.loc k v' ek
  | ret v=>obtain⟨_,_,_,_,_,z⟩:=q;exact z.elim
  | brk=>obtain⟨_,_,_,z⟩:=q;exact z.elim
  | cont=>obtain⟨_,_,_,z⟩:=q;exact z.elim
 ·cases f with
  | next=>exact wpAny_execs_nil q
  | ret v=>exact q
  | brk=>exact q
  | cont=>exact q
def xB(K:PySem.W.Frag)(D:Value)(x:PV)(H:PHp)(Q:VK'):Prop:=match x with
 | .ref a=>∃C b,H a=some (.exc C)/\fM K C/\PySem.W.kitOne K (.ref C) D=some b/\Q (.bl b) H
 | _=>False
def cM(K:PySem.W.Frag)(D:Value)(ta:TE'):TE':=fun σ H Q=>ta σ H fun x H1=>xB K D x H1 Q
theorem kQ(Dv:Value)(hD:∀u,RelV dv u->u=Dv):cU X (.builtin "isinstance") (fun xs H Q=>∃a C b,xs=[.ref a,dv]/\H a=some (.ext (jW a C))/\fM X.K C/\PySem.W.kitOne X.K (.ref C) Dv=some b/\Q (.bl b) H):=by
 intro pins s σ H xs us Q I r h;obtain⟨a,C,b,rfl,ha,c,k,q⟩:=h;obtain⟨u,w',rfl,rx,rc⟩:=vals2 r;have e1:w'=Dv:=hD _ rc;subst e1;cases rx;obtain⟨ph,_,_⟩:=(show cB X.prog X.w H s.heap a (.ext (jW a C))from I.hok a _ ha);exact PySem.W.kia_one (tj c) I.kIn ph k (fun z=>nomatch z) fun tk=>⟨.bl b,H,I.tok _,rfl,q⟩
theorem nY{K:PySem.W.Frag}(rd:∀H,RP K H dv' dv){σ:L2.St}{H:Hp}{Q:VK}(h:low K B (cM K Dv ta) σ H Q) :
  tCB (fun xs H Q=>∃a C b,xs=[.ref a,dv]/\H a=some (.ext (jW a C))/\fM K C/\PySem.W.kitOne K (.ref C) Dv=some b/\Q (.bl b) H) (sZ (low K B ta) (sZ (tC dv) BV)) σ H Q:=by
 obtain⟨σ',H',Q',s,h,k⟩:=h;refine⟨σ',H',_,s,h,fun x' H1' x H1 h1 rx s1 e1=>?_⟩;cases x' with
 | ref a =>
  obtain⟨C,b,ea,c,kk,q⟩:=h1;simp only[RP]at rx;subst rx;exact⟨a,C,b,rfl,s1.hp _ _ ea,c,kk,k _ _ _ _ q (by simp[RP]) s1 e1⟩
 | _=>exact h1.elim
theorem bN{pD:Pos}(hm:X.mg x=some (.ref D))(hgD:Gl X x)(hg:Gl X "isinstance")(hi:X.mg "isinstance"=none)(ha:PE' X B e ta)(hdb:(x==("__debug__":Str))=false:=by decide)
  (he:starEach [e,.Name x pD] X.env=(false,eval e X.env)::starEach [.Name x pD] X.env:=by rfl) (he2:starEach [.Name x pD] X.env=(false,eval (.Name x pD) X.env)::starEach [] X.env:=by rfl) (hpl:(backTo pos (starEach [.Name x pD] X.env)).any (·.1)=false:=by rfl) :
  PE' X B (.Call (.Name "isinstance" p) [e,.Name x pD] [] pos) (cM X.K (.ref D) ta) :=
 bu (fD (kQ (dv:=.ref D) (.ref D) fun u r=>r) hg hi boot_isinstance (dk ha (dk (oC hgD hm (v:=.ref D) rfl hdb) gf he2) he) (by decide) (by decide) he hpl) fun _ _ _ h=>nY (dv':=.ref D) (fun _=>by simp[RP]) h
theorem wK{pD:Pos}{T:String}(hm:X.mg x=none)(hv:bootBuiltins x=some (.type T))(hgD:Gl X x)(hg:Gl X "isinstance")(hi:X.mg "isinstance"=none)(ha:PE' X B e ta)(hdb:(x==("__debug__":Str))=false:=by decide)(hxn:x≠"__name__":=by decide)
  (he:starEach [e,.Name x pD] X.env=(false,eval e X.env)::starEach [.Name x pD] X.env:=by rfl) (he2:starEach [.Name x pD] X.env=(false,eval (.Name x pD) X.env)::starEach [] X.env:=by rfl) (hpl:(backTo pos (starEach [.Name x pD] X.env)).any (·.1)=false:=by rfl) :
  PE' X B (.Call (.Name "isinstance" p) [e,.Name x pD] [] pos) (cM X.K (.type T) ta) :=
 bu (fD (kQ (dv:=.ty T) (.type T) fun u r=>r) hg hi boot_isinstance (dk ha (dk (vz hgD hm hv (v:=.ty T) rfl hxn hdb) gf he2) he) (by decide) (by decide) he hpl) fun _ _ _ h=>nY (dv':=.oth (.ty T)) (fun _=>by simp[RP]) h
end
end
section
def pr(p:Str×Bool):PV:=.tup [.str p.1,.bl p.2]
def told(xs:List (Str×Bool)):List PV:=(xs.filter (·.2)).map fun p=>PV.str p.1
theorem nM(hrq:r≠q)(hok:∀H:PHp,(∀b,b≠r->H b=H0 b)->ok H)(h:H0 r=some (.lst []))(hl:xs.length≤100)
  (hD:∀H u v,H r=some (.lst (told xs))->(∀b,b≠r->H b=H0 b)->D.nx [some a,some (.ref r),some (.ref q),u,v] H) :
  dD ok (sW 2 (eA (bc 3) (eA (bc 4) nQ))) (d9 (bY (az 4)) (gF (uBM eS (az 1) (av (az 3) aX))) cI) D (xs.map pr) [some a,some (.ref r),some (.ref q),u,v] H0:=by
 suffices key:∀(ys:List (Str×Bool)) (acc:List PV) (H:PHp) u v,H r=some (.lst acc)->(∀b,b≠r->H b=H0 b)->acc++told ys=told xs->acc.length+ys.length≤100 ->
   dD ok (sW 2 (eA (bc 3) (eA (bc 4) nQ))) (d9 (bY (az 4)) (gF (uBM eS (az 1) (av (az 3) aX))) cI) D (ys.map pr) [some a,some (.ref r),some (.ref q),u,v] H from
  key xs [] H0 u v h (fun _ _=>rfl) rfl (by simpa using hl)
 intro ys
 induction ys with
 | nil =>
  intro acc H u v hr hb e _;refine⟨hok H hb,hD H u v ?_ hb⟩;rw[hr,← e];simp[told]
 | cons y ys ih =>
  intro acc H u v hr hb e hl;obtain⟨n,b⟩:=y;refine⟨hok H hb,?_⟩;simp only[pr,BH,CA,bc,AL,F7,FY,d9,bY,az,List.getElem?_cons_zero,List.getElem?_cons_succ,w_V,EU,Fh,true_and];simp only[EU]at hl;cases b with
  | false =>
   simp only[w_B,sA,cI];exact ih acc H _ _ hr hb (by rw[←e];simp[told]) (by omega)
  | true =>
   simp only[w_B,uM,gF,yf,az,List.getElem?_cons_zero,List.getElem?_cons_succ,w_V,zD,av,aX,Ah];refine⟨⟨_,hr⟩,acc,hr,bz (by omega),?_⟩;refine ih (acc++[.str n]) _ _ _ ah (fun b hb'=>(aj hb').trans (hb b hb')) (by rw[←e];simp[told]) (by simp;omega)
end
section
def IsV(σ:St')(H:PHp)(te:TE')(b:Bool):Prop:=∀Q:VK',Q (.bl b) H->te σ H Q
theorem bA{K:PySem.W.Frag}{σ:St'}(ha:H a=some (.exc C))(c:fM K C)(k:PySem.W.kitOne K (.ref C) D=some b):IsV (some (.ref a)::σ) H (cM K D (az 0)) b :=
 fun Q h=>(⟨C,b,ha,c,k,h⟩:xB K D (.ref a) H Q)
theorem wt(h:IsV σ H te b):IsV σ H (kR te) (!b):=fun Q q=>h _ q
def gv:List (Str×TE')->TA'
 | []=>aX
 |(n,te)::r=>av (gS (av (uC (.str n)) (av te aX))) (gv r)
def vy(σ:St')(H:PHp):List (Str×TE')->List Bool->Prop
 | [],[]=>True
 |(_,te)::r,b::bs=>IsV σ H te b/\vy σ H r bs
 | _,_=>False
def pairs:List (Str×TE')->List Bool->List PV
 |(n,_)::r,b::bs=>.tup [.str n,.bl b]::pairs r bs
 | _,_=>[]
theorem iq{σ:St'}{H:PHp}:∀{l:List (Str×TE')} {bs:List Bool} {Q:List PV->PHp->Prop},vy σ H l bs->Q (pairs l bs) H->gv l σ H Q
 | [],[],Q,_,q=>q
 |(n,te)::r,b::bs,Q,⟨h,hr⟩,q=>by
  have s2:(2:Nat)≤sizeLine:=ak (by decide);show te σ H fun v H1=>_;refine h _ ?_;refine⟨s2,?_⟩;exact iq (Q:=fun vs H'=>Q (.tup [.str n,.bl b]::vs) H') hr q
structure KI (H0 H:PHp) (a r q C:Addr) (L:List PV):Prop where
 ha:H a=some (.exc C)
 hr:H r=some (.lst [])
 hq:H q=some (.lst L)
 sb:Sub H0 H
 nq:H0 q=none
 ln:L.length≤100
 rq:r≠q
theorem pairs_len:∀(l:List (Str×TE')) (bs:List Bool),(pairs l bs).length≤l.length
 | [],bs=>by cases bs<;>simp[pairs]
 | _::_,[]=>by simp[pairs]
 |(n,te)::r,b::bs=>by simpa[pairs]using pairs_len r bs
theorem v8(ha:H a=some (.exc C))(hr:H r=some (.lst []))(sb:Sub H0 H)(hl:l.length≤4)
  (hv:vy [some (.ref a),some (.ref r),o,u,v] H l bs) (h:∀q H',KI H0 H' a r q C (pairs l bs)->R D [some (.ref a),some (.ref r),some (.ref q),u,v] H') :
  bZ (cj (ck (gv l)) (bc 2)) R D [some (.ref a),some (.ref r),o,u,v] H:=by
 show gv l _ H fun xs H1=>_;have hn:=pairs_len l bs;refine iq hv ⟨ak (by omega),fun q hq=>?_⟩;exact h q _ ⟨(aj (ao ha hq)).trans ha,(aj (ao hr hq)).trans hr,ah,sb.put (sb.free hq),sb.free hq,by omega,ao hr hq⟩
theorem dH(i:KI H0 H a r q C L)(hl:l.length≤4/\L.length≤50)
  (hv:vy [some (.ref a),some (.ref r),some (.ref q),u,v] H l bs) (h:∀H',KI H0 H' a r q C (L++pairs l bs)->R D [some (.ref a),some (.ref r),some (.ref q),u,v] H') :
  bZ (gF (uBM fY (az 2) (av (ck (gv l)) aX))) R D [some (.ref a),some (.ref r),some (.ref q),u,v] H:=by
 show isL (.ref q) H/\gv l _ H fun xs H1=>_;have hn:=pairs_len l bs;refine⟨⟨_,i.hq⟩,iq hv ⟨ak (by omega),fun p hp=>?_⟩⟩;have qp:=ao i.hq hp;show fY (.ref q) [.ref p] (put H p (.lst (pairs l bs))) fun _ H1=>R D [some (.ref a),some (.ref r),some (.ref q),u,v] H1;refine⟨L,pairs l bs,(aj qp).trans i.hq,ah,ak (by omega),?_⟩;have aq:a≠q:=by rintro rfl;have:=i.ha.symm.trans i.hq;cases this
 exact h _ ⟨(aj aq).trans ((aj (ao i.ha hp)).trans i.ha),(aj i.rq).trans ((aj (ao i.hr hp)).trans i.hr),ah,(i.sb.put (i.sb.free hp)).put i.nq,i.nq,by rw[EX];omega,i.rq⟩
theorem zM(i:KI H0 H a r q C (xs.map pr))(hn:told xs=[.str nm])
  (h:∀H' u v,Sub (put H0 r (.lst [.str nm])) H'->R D [some (.ref a),some (.ref r),some (.ref q),u,v] H') :
  bZ (qa (l7 (az 2)) (sW 2 (eA (bc 3) (eA (bc 4) nQ))) (d9 (bY (az 4)) (gF (uBM eS (az 1) (av (az 3) aX))) cI)) R D [some (.ref a),some (.ref r),some (.ref q),u,v] H:=by
 show ∃l,H q=some (.lst l)/\_;refine⟨_,i.hq,?_⟩;have hl:xs.length≤100:=by simpa using i.ln
 refine nM i.rq (fun H' hb=>(hb q (Ne.symm i.rq)).trans i.hq) i.hr hl fun H1 u v e1 e2=>h H1 u v fun b o e=>?_;by_cases hb:b=r
 ·subst hb;rw[ah]at e;rw[e1,← e,hn]
 ·rw[aj hb]at e;rw[e2 b hb];exact i.sb b o e
end
end U
namespace U
theorem len0{P:List Value->Prop}(h:P [])(us:List Value)(hl:us.length=0):P us:=by
 cases us with
 | nil=>exact h
 | cons a r=>exact absurd hl (Nat.succ_ne_zero _)
theorem gU{P:List Value->Prop}(h:∀a,P [a])(us:List Value)(hl:us.length=1):P us:=by
 cases us with
 | nil=>exact absurd hl.symm (Nat.succ_ne_zero _)
 | cons a r=>exact len0 (P:=fun r=>P (a::r)) (h a) r (Nat.succ.inj hl)
theorem dR{P:List Value->Prop}(h:∀a b,P [a,b])(us:List Value)(hl:us.length=2):P us:=by
 cases us with
 | nil=>exact absurd hl.symm (Nat.succ_ne_zero _)
 | cons a r=>exact gU (P:=fun r=>P (a::r)) (h a) r (Nat.succ.inj hl)
theorem qw{P:List Value->Prop}(h:∀a b c,P [a,b,c])(us:List Value)(hl:us.length=3):P us:=by
 cases us with
 | nil=>exact absurd hl.symm (Nat.succ_ne_zero _)
 | cons a r=>exact dR (P:=fun r=>P (a::r)) (h a) r (Nat.succ.inj hl)
theorem nA{P:List Value->Prop}(h:∀a b c d,P [a,b,c,d])(us:List Value)(hl:us.length=4):P us:=by
 cases us with
 | nil=>exact absurd hl.symm (Nat.succ_ne_zero _)
 | cons a r=>exact qw (P:=fun r=>P (a::r)) (h a) r (Nat.succ.inj hl)
end U
namespace U
open L2
variable {B:Bs}{X:Cx}
theorem ng:OpR X (compareOp .Eq) (rI0 fun i j=>.bl (i==j)):=qR fun _ _ _ _ _ _ _ q=>eq_int q
theorem zA:OpR X (compareOp .NotEq) (rI0 fun i j=>.bl (!(i==j))):=qR fun _ _ _ _ _ _ _ q=>ne_int q
theorem mL{K:PySem.W.Frag}:VR K B (uI0 fun i j=>.bl (i==j)) (rI0 fun i j=>.bl (i==j)):=gI fun _ _ _=>by simp[RP]
theorem yN{K:PySem.W.Frag}:VR K B (uI0 fun i j=>.bl (!(i==j))) (rI0 fun i j=>.bl (!(i==j))):=gI fun _ _ _=>by simp[RP]
end U
namespace L2
section
def de(X:Cx)(N2:List Str)(scope:Scope)(cl:List (Str×Addr))(s0:Shared)(H0:Hp)(fp:List Addr)(ps:List (Addr×Obj)):Cx :=
 { X with N:=N2,s₀:=s0,H₀:=H0,env:=compEnvC scope cl s0.heap.objs.size X.env,outer:=X.stack,stack:=X.stack,ex:=fp,fn:=fun x=>(cl.lookup x).isNone,pn:=ps,xe:=fun _ _=>False }
def kN(nt:Nat)(js:List Nat)(σ:St):St:=List.replicate nt none++js.map fun j=>(σ[j]?).join
theorem cT{env:Env}:∀{names:List (Str×NameKind)} {x:Str},names.lookup x=some .free ->
  (names.map fun(n,k)=>if (k==NameKind.free&&env.scope.kind==.function&&env.kindOf n==some .cell)then(n,NameKind.cell)else(n,k)).lookup x=some .cell ∨
  (names.map fun(n,k)=>if (k==NameKind.free&&env.scope.kind==.function&&env.kindOf n==some .cell)then(n,NameKind.cell)else(n,k)).lookup x=some .free
 | [],_,h=>by simp at h
 |(n,k)::r,x,h=>by
  have ih:=@cT env r x;show List.lookup x ((if (k==NameKind.free&&env.scope.kind==.function&&env.kindOf n==some .cell)=true then(n,NameKind.cell)else(n,k))::_)=_∨List.lookup x ((if (k==NameKind.free&&env.scope.kind==.function&&env.kindOf n==some .cell)=true then(n,NameKind.cell)else(n,k))::_)=_;cases hx:x==n with
  | true =>
   simp only[FG,hx]at h;cases h;by_cases hc:(NameKind.free==NameKind.free&&env.scope.kind==.function&&env.kindOf n==some .cell)=true
   ·rw[Fq hc];simp[FG,hx]
   ·rw[Fo hc];simp[FG,hx]
  | false =>
   simp only[FG,hx]at h;by_cases hc:(k==NameKind.free&&env.scope.kind==.function&&env.kindOf n==some .cell)=true
   ·rw[Fq hc];simp only[FG,hx];exact ih h
   ·rw[Fo hc];simp only[FG,hx];exact ih h
structure cQ (X:Cx) (N2:List Str) (nt:Nat) (js:List Nat) (scope:Scope) (cl:List (Str × Addr)) (sc:Scope):Prop where
 clos:closureFor scope X.env=pure cl
 sub:∀x c,cl.lookup x=some c->X.env.cells.lookup x=some c
 xsc:X.env.scope=sc
 kind:scope.kind=.function
 nocell:∀y∈scope.names,y.2≠.cell
 loc:∀y∈scope.names,y.2=.local->scope.names.lookup y.1=some .local
 has:∀y∈scope.names,y.2=.free->y.1∈cl.map (·.1)
 frs:∀x∈N2.drop nt,scope.names.lookup x=some .free/\sc.names.lookup x=some .cell
 len:N2.length=nt+js.length
 pl:∀(k j:Nat),js[k]?=some j->X.N[j]?=N2[nt+k]?
theorem mem_lookup{α:Type}:∀{l:List (Str×α)} {x:Str},x∈l.map (·.1)->∃c,l.lookup x=some c
 | [],_,h=>by simp at h
 |(n,k)::r,x,h=>by
  cases hx:x==n with
  | true=>exact⟨k,by simp[FG,hx]⟩
  | false =>
   have h':x=n∨x∈r.map (·.1):=by simpa using h
   have hn:x≠n:=by intro e;subst e;simp at hx
   obtain⟨c,e⟩:=mem_lookup (h'.resolve_left hn);exact⟨c,by simp[FG,hx,e]⟩
theorem lookup_mem{α:Type}:∀{l:List (Str×α)} {x:Str} {c:α},l.lookup x=some c->(x,c)∈l
 | [],_,_,h=>by simp at h
 |(n,k)::r,x,c,h=>by
  cases hx:x==n with
  | true =>
   simp only[FG,hx]at h;have e:x=n:=by simpa using hx
   cases h;subst e;exact E1
  | false =>
   simp only[FG,hx]at h;exact EY _ (lookup_mem h)
section
variable {X:Cx}{pins:List (Addr×Obj)}{σ:St}{H:Hp}{s:Shared}{N2:List Str}{nt:Nat}{js:List Nat}{scope sc:Scope}{cl:List (Str×Addr)}{fp:List Addr}
theorem cQ.kindOf(O:cQ X N2 nt js scope cl sc){x:Str}{C:Addr}(h:(compEnvC scope cl C X.env).kindOf x=some .cell∨(compEnvC scope cl C X.env).kindOf x=some .free):∃c,cl.lookup x=some c:=by
 have h':(relabel scope X.env).names.lookup x=some .cell∨(relabel scope X.env).names.lookup x=some .free:=h;have key:∀(k:NameKind),(relabel scope X.env).names.lookup x=some k->(k=.cell∨k=.free)->∃y∈scope.names,y.1=x/\(y.2=.cell∨y.2=.free):=fun k e hk=>by
  have m:=lookup_mem e;obtain⟨⟨n,k'⟩,hm,e'⟩:=E3.mp m;by_cases hc:(k'==NameKind.free&&X.env.scope.kind==.function&&X.env.kindOf n==some .cell)=true
  ·simp only[hc,if_true]at e';have e1:n=x:=congrArg Prod.fst e';refine⟨(n,k'),hm,e1,.inr ?_⟩;rw[F8,F8]at hc;exact Gd.mp hc.1.1
  ·have e'':(n,k')=(x,k):=by
    dsimp only at e';rw[Fo hc]at e';exact e'
   cases e'';exact⟨(x,k),hm,rfl,hk⟩
 obtain⟨y,hy,rfl,hk⟩:=h'.elim (fun e=>key _ e (.inl rfl)) fun e=>key _ e (.inr rfl);rcases hk with hk | hk
 ·exact absurd hk (O.nocell y hy)
 ·exact mem_lookup (O.has y hy hk)
theorem pN(O:cQ X N2 nt js scope cl sc)(I:Inv X pins σ H s)(hf:∀b∈fp,fZ X pins H b)(hlt:∀b∈fp,b<s.heap.objs.size):(de X N2 scope cl s H fp (X.pn++pins)).Ok where
 mod:=I.ok.mod
 kind:=O.kind
 glob:=I.ok.glob
 blt:=I.ok.blt
 above:=E2 _
 inj:=fun x y c h1 h2=>I.ok.inj x y c (O.sub x c h1) (O.sub y c h2)
 has:=fun x h=>O.kindOf h
 cab:=fun x c h1 h2=>by
  have h1':(cl.lookup x).isNone=true:=h1;have h2':cl.lookup x=some c:=h2;rw[h2']at h1';cases h1'
 hd:=I.ok.hd
 frames:=I.ok.frames
 stk:=.inl rfl
 exf:=fun b hb=>⟨Fe (hlt b hb),fun x c e=>(hf b hb).2.2.2.2.1 x c (O.sub x c e)⟩
 bs:=I.bs
 bsz:=Gx I.ok.bsz I.sz
 noex:=fun b o e hb=>by
  obtain⟨_,_,_,h3,_⟩:=hf b hb;rcases h3 with h3 | h3
  ·exact I.ok.noex b o e h3
  ·exact absurd (Fb (E5 (I.ok.bs b o e).1) h3) (Gy _)
 exfs:=fun b hb hs=>by
  obtain⟨_,h1,h2,_⟩:=hf b hb;rcases Fd.mp (I.stkSub b hs)with e | e
  ·exact h1 e
  ·exact h2 e
 funs:=I.stack
 frf:=I.stkFree
theorem nP(O:cQ X N2 nt js scope cl sc)(I:Inv X pins σ H s)(hf:∀b∈fp,fZ X pins H b)(hlt:∀b∈fp,b<s.heap.objs.size){h4:Heap}{t4:Nat}(hn:h4.Ns s.heap.objs.size fun _=>none)
  (hk:∀b o,s.heap.get? b=some o->h4.get? b=some o):Inv (de X N2 scope cl s H fp (X.pn++pins)) [] (kN nt js σ) H { s with heap:=h4,toks:=t4 }:=by
 refine⟨pN O I hf hlt,rfl,I.bare,Un.kept hk,⟨_,hn,fun i x v e1 e2 e3=>?_⟩,fun x c e=>?_,I.hok.fresh (E2 _),fun x c e=>I.freeC x c (O.sub x c e),fun p hp=>?_,I.hok.kept hk,?_⟩
 ·unfold kN at e2;by_cases hi:i<nt
  ·rw[FJ (by simpa using hi),List.getElem?_replicate]at e2;split at e2<;>cases e2
  ·obtain⟨k,rfl⟩:∃k,i=nt+k:=⟨i - nt,by omega⟩;rw[FI (by simp),FL,Nat.add_sub_cancel_left,E7]at e2;cases ej:js[k]? with
   | none=>rw[ej]at e2;cases e2
   | some j =>
    rw[ej]at e2;have e2':(σ[j]?).join=some v:=Fn e2;have eσ:σ[j]?=some (some v):=by
     cases q:σ[j]? with
     | none=>rw[q]at e2';cases e2'
     | some o=>rw[q]at e2';exact congrArg some e2'
    have eN:X.N[j]?=some x:=(O.pl k j ej).trans e1;have hx:x∈N2.drop nt:=by
     have:(N2.drop nt)[k]?=some x:=by rw[List.getElem?_drop];exact e1
     exact EZ this
    obtain⟨f1,f2⟩:=O.frs x hx;have vis:Vis X.env.scope x:=.inr (.inl (by rw[O.xsc];exact f2));obtain⟨m,hnX,hl⟩:=I.loc;obtain⟨u,r,l⟩:=hl j x v eN eσ vis;refine⟨u,r,.inr ⟨?_,?_⟩⟩
    ·exact cT f1
    ·rcases l with⟨k1,_⟩ |⟨_,c,ec,ic⟩
     ·have k2:sc.names.lookup x=some .local:=by rw[←O.xsc];exact k1
      rw[f2]at k2;cases k2
     ·obtain⟨c',ec'⟩:=mem_lookup (O.has (x,.free) (lookup_mem f1) rfl);have:=O.sub x c' ec';rw[ec]at this;cases this;obtain⟨o,ho,hd⟩:=ic;exact⟨c,ec',o,hk _ _ ho,hd⟩
 ·obtain⟨v,o,ho,hd⟩:=I.cell x c (O.sub x c e);exact⟨v,o,hk _ _ ho,hd⟩
 ·have hp':p∈X.pn++pins:=by
   have hp2:p∈(X.pn++pins)++[]:=hp
   rwa [FH]at hp2
  obtain⟨e,n,ne,nf,d⟩:=I.pin p hp';refine⟨hk _ _ e,n,Fe (E5 e),fun hb=>?_,d⟩;rcases Fd.mp (I.stkSub p.1 hb)with z | z
  ·exact ne z
  ·exact nf z
 ·unfold kN;show _=N2.length;rw[EX,FL,EM,O.len]
theorem sC{σ':St}(I:Inv X pins σ H s)(hf:∀b∈fp,fZ X pins H b)(J:Inv (de X N2 scope cl s H fp (X.pn++pins)) pl σ' H' s'):Inv X pins σ H' s' :=
 I.call' (ch:=fp) J.os J.base J.hok J.bare fun b hb=>by
  obtain⟨h0,h1,h2,h3,h4,h5⟩:=hf b hb;exact⟨h3,h1,h4,h5⟩
end
end
section
def PIf(Y:Cx)(ifs:List Expr)(t:TT):Prop :=
 ∀(pins:List (Addr×Obj)) (s:Shared) (σ:St) (H:Hp) (Q:Bool->Hp->Prop),Inv Y pins σ H s->t σ H Q ->
  wpAny (model Y.prog Y.w) Y.A (forIn ifs true fun c r=>if r=true then do let ok←isTrue c Y.env (eval c Y.env);pure (ForInStep.yield ok)else pure (ForInStep.yield r)) (TP Y pins σ Q) Y.xe s
def De:TT:=fun _ H Q=>Q true H
theorem wG:PIf Y [] De:=fun _ _ _ H _ I h=>wpAny_tests_nil ⟨H,I,h⟩
theorem wR(h:PT Y c t):PIf Y [c] t:=fun pins s σ H Q I hw=>wpAny_tests_one (h pins s σ H Q I hw)
def xN(acc:Addr)(J:It)(g:TG)(tt:TT)(te:TE)(W:Nat->Nat->L2.St->Hp->Prop)(i m:Nat)(σ0:L2.St)(H:Hp):Prop :=
 J.go i H/\∀x H',J.yld i H x H'->g x σ0 H' fun σ3 H2=>tt σ3 H2 fun b H3 =>
  if b=true then te σ3 H3 fun y H4=>∃ys,H4 acc=some (.lst ys)/\ys.length<sizeLine/\∃m',m'<m/\W (i+1) m' σ3 (upd H4 acc (.lst (ys++[y])))
  else ∃m',m'<m/\W (i+1) m' σ3 H3
def tT(nt:Nat)(js:List Nat)(wi:TI)(g:TG)(tt:TT)(te:TE):TE:=fun σ H Q=>wi σ H fun J H1=>∀acc,H1 acc=none ->
 ∃W:Nat->Nat->L2.St->Hp->Prop,(∃m,W 0 m (kN nt js σ) (upd H1 acc (.lst [])))/\∀i m σ0 H,W i m σ0 H->(J.stop i H/\Q (.ref acc) H)∨xN acc J g tt te W i m σ0 H
structure ui (Y:Cx) (tg:Expr) (ifs:List Expr) (elt:Expr) (g:TG) (tt:TT) (te:TE):Prop where
 tgt:PG Y tg g
 tst:PIf Y ifs tt
 elt:PE Y elt te
theorem ke(I:Nat->Shared->Prop)
  (turn:∀n s,I n s->wpAny (model prog w) A (pyNext it) (fun r s₁=>match r with
   | none=>R (.ok .next) s₁
   | some v=>wpAny (model prog w) A (letOwnedTupleGo target it v) (fun _ s₀=>wpAny (model prog w) A (assign target env v) (fun _ s₂ =>
     wpAny (model prog w) A (forIn ifs true fun c r=>if r=true then do let ok←isTrue c env (eval c env);pure (ForInStep.yield ok)else pure (ForInStep.yield r)) (fun ok s₃ =>
      if ok=true then wpAny (model prog w) A (eval elt env) (fun x s₄ =>
       wpAny (model prog w) A (call (.builtin "list.append") [acc,x]) (fun _ s₅=>∃m,m<n/\I m s₅) (fun _ _=>False) s₄) (fun _ _=>False) s₃
      else ∃m,m<n/\I m s₃) (fun _ _=>False) s₂) (fun _ _=>False) s₀) (fun _ _=>False) s₁) (fun _ _=>False) s)
  (n:Nat) (h:I n s) :
  codeAny (model prog w) A (.compLoop (.ListComp elt [⟨target,iter,ifs,0⟩] scope pos) 0 it acc env) R s:=by
 refine codeAny_loop rfl I (fun n s hI=>?_) n h;show wpAny _ A ((compTurn (.ListComp elt [⟨target,iter,ifs,0⟩] scope pos) 0 it acc env).onRaise (fun x=>do noteFrame x env;theTreesLotGoes x)) _ _ s;refine wpAny_noted ?_;rw[compTurn_list];refine ES (wpAny_standAt (ES (Gu (turn n s hI) (fun r s₁ h₁=>?_) fun _ _ h'=>h'.elim)));cases r with
 | none=>exact E4 h₁
 | some v =>
  refine ES (Gu h₁ (fun _ s₀ h₀=>?_) fun _ _ h'=>h'.elim);refine ES (Gu h₀ (fun _ s₂ h₂=>ES (Gu h₂ (fun ok s₃ h₃=>?_) fun _ _ h'=>h'.elim)) fun _ _ h'=>h'.elim);cases ok with
  | false=>exact E4 ⟨rfl,h₃⟩
  | true =>
   exact ES (ES (Gu h₃ (fun x s₄ h₄=>ES (Gu h₄ (fun _ s₅ h₅=>E4 (E4 ⟨rfl,h₅⟩)) fun _ _ h'=>h'.elim)) fun _ _ h'=>h'.elim))
section
variable {X:Cx}{pins:List (Addr×Obj)}{σ:St}{H:Hp}{s:Shared}{N2:List Str}{nt:Nat}{js:List Nat}{scope sc:Scope}{cl:List (Str×Addr)}{fp:List Addr}{elt iter tg:Expr}{ifs:List Expr}{pos:Pos}
 {wi:TI} {g:TG} {tt:TT} {te:TE}
theorem kX(O:cQ X N2 nt js scope cl sc)(hc:X.calm=true)(B:∀(s0:Shared) (H0:Hp) (fp:List Addr) (ps:List (Addr×Obj)),ui (de X N2 scope cl s0 H0 fp ps) tg ifs elt g tt te)
  {it:Addr} {tn:Nat->Heap->Prop} {J:It} {E:Value->Shared->Prop} {Q:VK} {RR:Value->Addr->Result->Shared->Prop}
  (I:Inv X pins σ H s) (T:Turn X.prog X.w X.K tg J fp it tn) (st:tn 0 s.heap) (hf:∀b∈fp,fZ X pins H b)
  (h:∀acc,H acc=none->∃W:Nat->Nat->L2.St->Hp->Prop,(∃m,W 0 m (kN nt js σ) (upd H acc (.lst [])))/\∀i m σ0 H,W i m σ0 H->(J.stop i H/\Q (.ref acc) H)∨xN acc J g tt te W i m σ0 H)
  (hRR:∀(acc C:Addr) (s':Shared) (H':Hp) (m:Str->Option Value),s'.heap.Ns C m->Inv X pins σ H' s'->H' C=none->C≠X.env.locals->X.s₀.heap.objs.size≤C->(∀x c,X.env.cells.lookup x=some c->c≠C)->(∀p∈X.pn++pins,p.1≠C)->Q (.ref acc) H'->RR (.ref acc) C (.ok .next) s') :
  wpAny (model X.prog X.w) X.A (newList []) (fun acc s₃=>wpAny (model X.prog X.w) X.A (newFunctionEnv scope X.env.globals cl [] X.env.qual none .none (some X.env)) (fun cenv s₄ =>
   codeAny (model X.prog X.w) X.A (.compStart (.ListComp elt [⟨tg,iter,ifs,0⟩] scope pos) 0 (.ref it) acc { cenv with scope:=relabel scope X.env }) (RR acc cenv.locals) s₄) E s₃) E s:=by
 have hlt:∀b∈fp,b<s.heap.objs.size:=fun b hb=>by
  obtain⟨o,e,_⟩:=T.obj _ _ st b hb;exact E5 e
 have hnA:H s.heap.objs.size=none:=I.hok.fresh (E2 _);obtain⟨W,⟨m0,w0⟩,turn⟩:=h s.heap.objs.size hnA;refine Gr (wpAny_newFunctionEnv O.nocell (by intro y hy;simp at hy) (fun h₁ hns₁ hsb₁=>?_) O.kind);dsimp only at hns₁ hsb₁ ⊢;have I3:Inv X pins σ (upd H s.heap.objs.size (.lst [])) { s with heap:=s.heap.push { cls:=.type "list",dict:=none,data:=.seq ([]:List Value).toArray } } :=
  I.laid (t':=s.toks) (fun b u e=>ET _ e) (E2 _) ⟨by show 0≤sizeLine;exact FP _,[],0,.nil,E9 _ rfl⟩
 generalize hs3:({ s with heap:=s.heap.push { cls:=.type "list",dict:=none,data:=.seq ([]:List Value).toArray } }:Shared)=s3 at I3;have e3:s3.heap=s.heap.push { cls:=.type "list",dict:=none,data:=.seq ([]:List Value).toArray }:=by rw[←hs3]
 rw[←e3]at hns₁ hsb₁ ⊢;have et:s3.toks=s.toks:=by rw[←hs3]
 have hf3:∀b∈fp,fZ X pins (upd H s.heap.objs.size (.lst [])) b:=fun b hb=>by
  obtain⟨f0,f⟩:=hf b hb;exact⟨by rw[aJ (Fe (hlt b hb))];exact f0,f⟩
 have hlt3:∀b∈fp,b<s3.heap.objs.size:=fun b hb=>by rw[e3,F4];exact Nat.lt_succ_of_lt (hlt b hb)
 have hk4:∀b o,s3.heap.get? b=some o->h₁.get? b=some o:=fun b o e=>hsb₁.extBut b o (Fe (E5 e)) (ET _ e);have hns':h₁.Ns s3.heap.objs.size fun _=>none:=hns₁;have I4:=nP (t4:=s3.toks+([]:List (Str×Value)).length) O I3 hf3 hlt3 hns' hk4;have st4:tn 0 h₁:=T.keep _ _ _ st fun b hb o e=>hk4 b o (by rw[e3];exact ET _ e);have B4:=B s3 (upd H s.heap.objs.size (.lst [])) fp (X.pn++pins);generalize hY:de X N2 scope cl s3 (upd H s.heap.objs.size (.lst [])) fp (X.pn++pins)=Y at I4 B4;have yP:Y.prog=X.prog:=by rw[←hY];rfl
 have yw:Y.w=X.w:=by rw[←hY];rfl
 have yK:Y.K=X.K:=by rw[←hY];rfl
 have yA:Y.A=X.A:=by rw[←hY];rfl
 have yc:Y.calm=true:=by rw[←hY];exact hc
 have yx:Y.xe=fun _ _=>False:=by rw[←hY];rfl
 have ye:Y.env=compEnvC scope cl s3.heap.objs.size X.env:=by rw[←hY];rfl
 have fpY:∀{H':Hp},(∀b∈fp,H' b=none)->∀b∈fp,fZ Y [] H' b:=fun hn b hb=>by
  obtain⟨f0,f1,f2,f3,f4,f5⟩:=hf3 b hb;rw[←hY];refine⟨hn b hb,Fe (hlt3 b hb),fun hs=>?_,.inl hb,fun x c e=>f4 x c (O.sub x c e),fun p hp=>?_⟩
  ·rcases Fd.mp (I3.stkSub b hs)with e | e
   ·exact f1 e
   ·exact f2 e
  ·have hp2:p∈(X.pn++pins)++[]:=hp;rw[FH]at hp2;exact f5 p hp2
 have fin:∀{σ':St} {H':Hp} {s':Shared} {pl:List (Addr×Obj)},Inv Y pl σ' H' s'->Q (.ref s.heap.objs.size) H'->RR (.ref s.heap.objs.size) s3.heap.objs.size (.ok .next) s':=fun {σ' H' s' pl} I' q=>by
  have J':Inv X pins σ H' s':=sC I3 hf3 (hY▸I');obtain⟨m,hn,_⟩:=I'.loc;have hfr:=I'.free;rw[ye]at hn hfr;refine hRR _ _ s' H' m hn J' hfr (GF I3.lt) I3.sz (fun x c e z=>?_) (fun p hp z=>?_) q
  ·obtain⟨v,q⟩:=I3.cell x c e;exact absurd (Fb q.lt (by rw[z];exact E2 _)) (Gy _)
  ·exact absurd (Fb (E5 (I3.pin p hp).1) (by rw[z];exact E2 _)) (Gy _)
 have loop:∀s4:Shared,s4={ s3 with heap:=h₁,toks:=s3.toks+([]:List (Str×Value)).length } ->
   codeAny (model X.prog X.w) X.A (.compLoop (.ListComp elt [⟨tg,iter,ifs,0⟩] scope pos) 0 (.ref it) (.ref s.heap.objs.size) (compEnvC scope cl s3.heap.objs.size X.env)) (RR (.ref s.heap.objs.size) s3.heap.objs.size) s4:=by
  rintro s4 rfl;refine ke (fun n s'=>∃i σ0 H',Inv Y [] σ0 H' s'/\tn i s'.heap/\(∀b∈fp,H' b=none)/\W i n σ0 H') ?_ m0
   ⟨0,_,_,I4,st4,fun b hb=>(hf3 b hb).1,w0⟩
  rintro n s5 ⟨i,σ5,H5,I5,st5,fr5,w5⟩;rcases turn i n σ5 H5 w5 with⟨stop,q⟩ |⟨go,step⟩
  ·have r:=T.done Y yP yw yK yc i [] s5 _ H5 (fun _ _=>False) I5 (fpY fr5) st5 stop;rw[yA]at r;refine thn r fun r s6 y_=>?_;obtain⟨hr,I6⟩:=y_;subst hr;exact fin I6 q
  ·have r:=T.item Y yP yw yK yc i [] s5 _ H5 (fun _ _=>False) I5 (fpY fr5) st5 go;rw[yA]at r;refine thn r fun r s6 y_=>?_;obtain⟨u,hr,h6⟩:=y_;subst hr;refine thn h6 fun _ s7 y_=>?_;obtain⟨x,H7,I7,r7,y7,st7,fr7⟩:=y_;have I7':=I7.pinned (fpY fr7) (T.obj _ _ st7);have r:=B4.tgt _ s7 _ H7 x u _ I7' r7 (step x H7 y7);rw[yP,yw,yA,yx,ye]at r;refine thn r fun _ s8 y_=>?_;obtain⟨σ8,H8,I8,q8⟩:=y_;have r:=B4.tst _ s8 σ8 H8 _ I8 q8;rw[yP,yw,yA,yx,ye]at r;refine thn r fun ok s9 y_=>?_;obtain⟨H9,I9,q9⟩:=y_;have back:∀{s':Shared} {H':Hp},Inv Y ([]++iE fp s7.heap) σ8 H' s'->(Inv Y [] σ8 H' s'/\tn (i+1) s'.heap/\∀b∈fp,H' b=none):=fun {s' H'} I'=>by
    refine⟨I'.unpinned,T.keep _ _ _ st7 fun b hb o e=>(I'.pin (b,o) (Ff _ (Ff _ (dN hb e)))).1,fun b hb=>?_⟩;obtain⟨o,e,d⟩:=T.obj _ _ st7 b hb;exact(I'.pin (b,o) (Ff _ (Ff _ (dN hb e)))).2.1
   cases ok with
   | false =>
    have q9':∃m',m'<n/\W (i+1) m' σ8 H9:=q9;obtain⟨m',hm,w9⟩:=q9';obtain⟨b1,b2,b3⟩:=back I9;show ∃m,m<n/\_;exact⟨m',hm,i+1,σ8,H9,b1,b2,b3,w9⟩
   | true =>
    have q9':te σ8 H9 fun y H4=>∃ys,H4 s.heap.objs.size=some (.lst ys)/\ys.length<sizeLine/\∃m',m'<n/\W (i+1) m' σ8 (upd H4 s.heap.objs.size (.lst (ys++[y]))):=q9;have r:=B4.elt _ s9 σ8 H9 _ I9 q9';rw[yP,yw,yA,yx,ye]at r;show wpAny _ _ (eval elt _) _ _ s9;refine thn r fun y s10 y_=>?_;obtain⟨yv,H10,I10,r10,q10⟩:=y_;obtain⟨ys,a1,a2,m',hm,w10⟩:=q10;have r:=bU (X:=Y) _ s10 σ8 H10 (.ref s.heap.objs.size) [yv] (.ref s.heap.objs.size) [y] (fun _ H'=>H'=upd H10 s.heap.objs.size (.lst (ys++[yv]))) I10 rfl (.cons r10 .nil) ⟨_,ys,yv,rfl,rfl,a1,a2,rfl⟩;rw[yP,yw,yA,yx]at r;refine thn r fun _ s11 y_=>?_;obtain⟨_,H11,I11,_,e11⟩:=y_;subst e11;obtain⟨b1,b2,b3⟩:=back I11;exact⟨m',hm,i+1,σ8,_,b1,b2,b3,w10⟩
 have st4':tn 0 ({ s3 with heap:=h₁,toks:=s3.toks+([]:List (Str×Value)).length }:Shared).heap:=st4;have hs4:({ s with heap:=h₁,toks:=s.toks+([]:List (Str×Value)).length }:Shared)={ s3 with heap:=h₁,toks:=s3.toks+([]:List (Str×Value)).length }:=by rw[←hs3]
 exact codeAny_compStart_list (loop _ hs4) (T.self _ 0 _ _ _ st4 (loop _ hs4))
theorem ud(O:cQ X N2 nt js scope cl sc)(hc:X.calm=true)(hi:PI X tg iter wi)(B:∀(s0:Shared) (H0:Hp) (fp:List Addr) (ps:List (Addr×Obj)),ui (de X N2 scope cl s0 H0 fp ps) tg ifs elt g tt te)
  (hs:∀x,foldedSetIterable iter X.env x=pure x:=by intro _;rfl):PE X (.ListComp elt [⟨tg,iter,ifs,0⟩] scope pos) (tT nt js wi g tt te):=by
 intro pins s σ H Q I h;rw[eval_ListComp];refine wpAny_comprehension_free (use:=none) rfl hs O.clos O.kind O.loc (thn (hi pins s σ H _ I h) fun xv s1 h1=>thn h1 fun itv s2 h2=>?_);obtain⟨it,fp,tn,J,H2,e,I2,T,st2,f2,q⟩:=h2;subst e;refine kX (RR:=fun acc C=>compPost (model X.prog X.w) X.A X.xe none (EP X pins σ Q) acc C) O hc B I2 T st2 f2 q ?_;intro acc C s' H' m hn J' c1 c2 c3 c4 c5 q';refine⟨m,hn,fun h' hsb=>⟨.ref acc,H',?_,rfl,q'⟩⟩;exact J'.turned (t':=s'.toks) (fun b o hb e=>hsb.extBut b o hb e) c1 (Ne.symm c2 |> fun z=>fun y=>z y.symm) (.inr c3) c4 c5
theorem t7{i:Nat}{y:Str}{py spos:Pos}(hN:X.N.Nodup)(hy:X.N[i]?=some y)(hl:Loc X.env.scope y)(O:cQ X N2 nt js scope cl sc)(hc:X.calm=true)(hi:PI X tg iter wi)
  (B:∀(s0:Shared) (H0:Hp) (fp:List Addr) (ps:List (Addr×Obj)),ui (de X N2 scope cl s0 H0 fp ps) tg ifs elt g tt te)
  (hsw:swapsWith (.ListComp elt [⟨tg,iter,ifs,0⟩] scope pos) (some (.Name y py)) spos.line X.env=pure true:=by rfl)
  (hs:∀x,foldedSetIterable iter X.env x=pure x:=by intro _;rfl) (hfn:X.fn y=true∨X.env.scope.names.lookup y=some .local:=by first | exact .inl rfl | exact .inr rfl | assumption) :
  PS X (.Assign [.Name y py] (.ListComp elt [⟨tg,iter,ifs,0⟩] scope pos) spos) (wz (tT nt js wi g tt te) (pj i)):=by
 intro pins s σ H D I h;rw[exec_Assign_Name_used _ _ _ _ hsw];refine ES (wpAny_standAt (ES ?_));show wpAny _ X.A (do let _←comprehension (.ListComp elt [⟨tg,iter,ifs,0⟩] scope pos) scope X.env _ (newList []) false (eval iter X.env) (some (assign (.Name y py) X.env))) _ _ s;refine ES (Gu (wpAny_comprehension_free (use:=some (assign (.Name y py) X.env)) (Q:=fun _ s'=>SP X pins D .next s') rfl hs O.clos O.kind O.loc
  (thn (hi pins s σ H _ I h) fun xv s1 h1=>thn h1 fun itv s2 h2=>?_)) (fun _ s' hq=>E4 (E4 hq)) fun _ _ e=>e)
 obtain⟨it,fp,tn,J,H2,e,I2,T,st2,f2,q⟩:=h2;subst e;refine kX (Q:=fun v H1=>pj i v σ H1 D.nx) (RR:=fun acc C=>compPost (model X.prog X.w) X.A X.xe (some (assign (.Name y py) X.env)) (fun _ s'=>SP X pins D .next s') acc C) O hc B I2 T st2 f2 q ?_;intro acc C s' H' m hn J' c1 c2 c3 c4 c5 q';show wpAny _ X.A (assign (.Name y py) X.env (.ref acc)) _ _ _;refine wpAny_assign_Name (jj (v:=.ref acc) J' hN hy hl rfl (fun s2 I2' ⟨a,sb,ha⟩=>?_) hfn);have hCa:C≠a:=by
  rcases ha with ha | ha
  ·rw[ha];exact c2
  ·exact fun z=>c4 y a ha z.symm
 refine⟨m,hn.sameBut sb hCa,fun h' hsb=>⟨_,H',?_,q'⟩⟩;exact I2'.turned (t':=s2.toks) (fun b o hb e=>hsb.extBut b o hb e) c1 c2 (.inr c3) c4 c5
end
end
end L2
namespace U
open L2
section
variable {B:Bs}{X:Cx}{pos:Pos}
def vF(nt:Nat)(js:List Nat)(σ:St'):St':=List.replicate nt none++js.map fun j=>(σ[j]?).join
theorem SR.sig{K:PySem.W.Frag}(s:SR K B σ' H' σ H)(nt:Nat)(js:List Nat):SR K B (vF nt js σ') H' (kN nt js σ) H:=by
 refine⟨by simp[vF,kN],fun i v' e=>?_,s.hp,s.ev⟩;unfold vF at e;unfold kN;by_cases hi:i<nt
 ·rw[FJ (by simpa using hi),List.getElem?_replicate]at e;split at e<;>cases e
 ·rw[FI (by simp;omega),FL,E7]at e ⊢;cases ej:js[i - nt]? with
  | none=>rw[ej]at e;cases e
  | some j =>
   rw[ej]at e;have e2:(σ'[j]?).join=some v':=Fn e;cases q:σ'[j]? with
   | none=>rw[q]at e2;cases e2
   | some o =>
    rw[q]at e2;have e3:σ'[j]?=some (some v'):=by rw[q];exact congrArg some e2
    obtain⟨v,a,b⟩:=s.loc j v' e3;exact⟨v,by show some ((σ[j]?).join)=_;rw[a];rfl,b⟩
def dY(ok:PHp->Prop)(g:TG')(tt:TT')(te:TE')(acc:Addr)(Q:VK'):List PV->St'->PHp->Prop
 | [],σ,H=>ok H/\Q (.ref acc) H
 | x::r,σ,H=>ok H/\g x σ H fun σ3 H2=>tt σ3 H2 fun b H3=>cif b (te σ3 H3 fun y H4=>∃l,H4 acc=some (.lst l)/\l.length<sizeLine/\dY ok g tt te acc Q r σ3 (put H4 acc (.lst (l++[y])))) (dY ok g tt te acc Q r σ3 H3)
def ie(nt:Nat)(js:List Nat)(wi:TI')(g:TG')(tt:TT')(te:TE'):TE':=fun σ H Q=>wi σ H fun J H1=>∀acc,H1 acc=none->dY J.ok g tt te acc Q J.items (vF nt js σ) (put H1 acc (.lst []))
def yo(Y:Cx)(B:Bs)(ifs:List Expr)(t:TT'):Prop:=PIf Y ifs (nU Y.K B t)
def vU:TT':=fun _ H Q=>Q true H
theorem aZ:yo Y B [] vU:=fun pins s σ H Q I ⟨σ',H',Q',sr,h,k⟩=>wG pins s σ H Q I (k true H' H h sr (Ev.refl _ _))
theorem h9(h:PT' Y B c t):yo Y B [c] t:=wR h
theorem jr{K:PySem.W.Frag}(h:low K B (ie nt js wi g tt te) σ H Q) :
  tT nt js (xV K B wi) (lowG K B g) (nU K B tt) (low K B te) σ H Q:=by
 obtain⟨σ',H',Q',s,h,k⟩:=h;refine⟨σ',H',_,s,h,fun J' H1' J H1 h1 wk s1 e1 acc ha=>?_⟩;have h1:=h1 acc (s1.hp.free ha);have sn:SR K B σ' (put H1' acc (.lst [])) σ (upd H1 acc (.lst [])):=s1.new ha ⟨[],bC,RPs.nil _⟩;have en:Ev H1' H1 (put H1' acc (.lst [])) (upd H1 acc (.lst [])):=Ev.new ha;refine⟨fun i m σ2 H2=>i≤J'.items.length/\m=J'.items.length - i/\∃σ2' H2',SR K B σ2' H2' σ2 H2/\SR K B σ' H2' σ H2/\Ev H1' H1 H2' H2/\dY J'.ok g tt te acc Q' (J'.items.drop i) σ2' H2',
  ⟨J'.items.length,FP _,by simp,_,_,sn.sig nt js,sn,en,h1⟩,?_⟩
 rintro i m σ2 H2 ⟨hi,rfl,σ2',H2',s2,so,e2,h2⟩;have k2:=e2.kp s1.hp;by_cases hlt:i<J'.items.length
 ·obtain⟨x',hx⟩:∃x',J'.items[i]?=some x':=⟨_,EO hlt⟩;have hd:J'.items.drop i=x'::J'.items.drop (i+1):=by
   rw[Gh hlt];rw[EO hlt]at hx;cases hx;rfl
  rw[hd]at h2;obtain⟨ok2,h2⟩:=(show J'.ok H2'/\_ from h2);refine .inr ⟨wk.go H2' H2 i k2 s2.hp ok2 hlt,fun x H3 y=>?_⟩;obtain⟨hr3,ev3,rx⟩:=wk.yld H2' H2 i x H3 k2 s2.hp ok2 y;have s2b:=s2.kp ev3 hr3;have sob:=so.kp ev3 hr3;have e2b:=e2.trans ev3;refine⟨x',σ2',H2',_,rx x' hx,s2b,h2,fun σ3' H3' σ3 H3 h3 s3 e3=>⟨σ3',H3',_,s3,h3,fun b H4' H4 h4 s4 e4=>?_⟩⟩;cases b with
  | false =>
   have e24:=e3.trans e4;exact jL ⟨J'.items.length - (i+1),by omega,hlt,rfl,σ3',H4',s4,sob.kp e24 s4.hp,e2b.trans e24,h4⟩
  | true =>
   refine jK ⟨σ3',H4',_,s4,h4,fun y' H5' y H5 h5 ry5 s5 e5=>?_⟩;obtain⟨l,a1,a2,h5⟩:=h5;have e25:=(e3.trans e4).trans e5;obtain⟨us,q1,q2⟩:=s5.hp _ _ a1;have wr:=wrL s5.hp a1 (RPs.append _ q2 (RPs.cons _ ry5 (RPs.nil _)));refine⟨us,q1,by rw[RPs.length _ q2];exact a2,J'.items.length - (i+1),by omega,hlt,rfl,σ3',_,s5.wr a1 wr,(sob.kp e25 s5.hp).wr a1 wr,(e2b.trans e25).trans (Ev.wr a1),h5⟩
 ·have hi':i=J'.items.length:=by omega
  subst hi';rw[List.drop_length]at h2;obtain⟨ok2,h2⟩:=(show J'.ok H2'/\_ from h2);exact .inl ⟨wk.stop H2' H2 k2 s2.hp ok2,k _ _ _ _ h2 (by simp[RP]) so (e1.trans e2)⟩
section
variable {N2:List Str}{nt:Nat}{js:List Nat}{scope sc:Scope}{cl:List (Str×Addr)}{elt iter tg:Expr}{ifs:List Expr}{wi:TI'}{g:TG'}{tt:TT'}{te:TE'}
structure kj (Y:Cx) (B:Bs) (tg:Expr) (ifs:List Expr) (elt:Expr) (g:TG') (tt:TT') (te:TE'):Prop where
 tgt:PG' Y B tg g
 tst:yo Y B ifs tt
 elt:PE' Y B elt te
theorem iQ(O:cQ X N2 nt js scope cl sc)(hc:X.calm=true)(hi:PIH X B tg iter wi)(b:∀(s0:Shared) (H0:Hp) (fp:List Addr) (ps:List (Addr×Obj)),kj (de X N2 scope cl s0 H0 fp ps) B tg ifs elt g tt te)
  (hs:∀x,foldedSetIterable iter X.env x=pure x:=by intro _;rfl):PE' X B (.ListComp elt [⟨tg,iter,ifs,0⟩] scope pos) (ie nt js wi g tt te) :=
 bu (ud (g:=lowG X.K B g) (tt:=nU X.K B tt) (te:=low X.K B te) O hc hi (fun s0 H0 fp ps=>⟨(b s0 H0 fp ps).tgt,(b s0 H0 fp ps).tst,(b s0 H0 fp ps).elt⟩) hs) fun _ _ _ h=>jr h
theorem bt(O:cQ X N2 nt js scope cl sc)(hc:X.calm=true)(hi:PI' X B tg iter wi)(b:∀(s0:Shared) (H0:Hp) (fp:List Addr) (ps:List (Addr×Obj)),kj (de X N2 scope cl s0 H0 fp ps) B tg ifs elt g tt te)
  (hs:∀x,foldedSetIterable iter X.env x=pure x:=by intro _;rfl):PE' X B (.ListComp elt [⟨tg,iter,ifs,0⟩] scope pos) (ie nt js wi g tt te):=iQ O hc (mw hi) b hs
theorem uf{i:Nat}{y:Str}{py spos:Pos}(hN:X.N.Nodup)(hy:X.N[i]?=some y)(hl:Loc X.env.scope y)(O:cQ X N2 nt js scope cl sc)(hc:X.calm=true)(hi:PIH X B tg iter wi)
  (b:∀(s0:Shared) (H0:Hp) (fp:List Addr) (ps:List (Addr×Obj)),kj (de X N2 scope cl s0 H0 fp ps) B tg ifs elt g tt te)
  (hsw:swapsWith (.ListComp elt [⟨tg,iter,ifs,0⟩] scope pos) (some (.Name y py)) spos.line X.env=pure true:=by rfl)
  (hs:∀x,foldedSetIterable iter X.env x=pure x:=by intro _;rfl) (hfn:X.fn y=true∨X.env.scope.names.lookup y=some .local:=by first | exact .inl rfl | exact .inr rfl | assumption) :
  PS' X B (.Assign [.Name y py] (.ListComp elt [⟨tg,iter,ifs,0⟩] scope pos) spos) (cj (ie nt js wi g tt te) (bc i)) :=
 dF (t7 (g:=lowG X.K B g) (tt:=nU X.K B tt) (te:=low X.K B te) hN hy hl O hc hi (fun s0 H0 fp ps=>⟨(b s0 H0 fp ps).tgt,(b s0 H0 fp ps).tst,(b s0 H0 fp ps).elt⟩) hsw hs hfn) fun D σ H y_=>by
  obtain⟨σ',H',D',s,h,d⟩:=y_;refine jr ⟨σ',H',_,s,h,fun v' H1' v H1 q r s1 e1=>?_⟩;exact d.nx _ _ _ _ q (s1.set r i) e1
theorem fJ{i:Nat}{y:Str}{py spos:Pos}(hN:X.N.Nodup)(hy:X.N[i]?=some y)(hl:Loc X.env.scope y)(O:cQ X N2 nt js scope cl sc)(hc:X.calm=true)(hi:PI' X B tg iter wi)
  (b:∀(s0:Shared) (H0:Hp) (fp:List Addr) (ps:List (Addr×Obj)),kj (de X N2 scope cl s0 H0 fp ps) B tg ifs elt g tt te)
  (hsw:swapsWith (.ListComp elt [⟨tg,iter,ifs,0⟩] scope pos) (some (.Name y py)) spos.line X.env=pure true:=by rfl)
  (hs:∀x,foldedSetIterable iter X.env x=pure x:=by intro _;rfl) (hfn:X.fn y=true∨X.env.scope.names.lookup y=some .local:=by first | exact .inl rfl | exact .inr rfl | assumption) :
  PS' X B (.Assign [.Name y py] (.ListComp elt [⟨tg,iter,ifs,0⟩] scope pos) spos) (cj (ie nt js wi g tt te) (bc i)):=uf hN hy hl O hc (mw hi) b hsw hs hfn
end
end
section
def rO(cs:List (Str×Addr)):List (Str×Addr)->Prop
 | []=>True
 | p::r=>cs.lookup p.1=some p.2/\rO cs r
theorem rO.mem{cs:List (Str×Addr)}:∀{l:List (Str×Addr)} {p:Str×Addr},rO cs l->p∈l->cs.lookup p.1=some p.2
 | q::r,p,h,m=>by
  rcases Fd.mp m with rfl | m
  ·exact h.1
  ·exact rO.mem h.2 m
theorem cok(clos:closureFor scope X.env=pure cl)(sub:rO X.env.cells cl)(xsc:X.env.scope=sc)(kind:scope.kind=.function)
  (nocell:∀y∈scope.names,y.2≠.cell) (loc:∀y∈scope.names,y.2=.local->scope.names.lookup y.1=some .local) (names:cl.map (·.1)=((scope.names.filter (·.2==.free)).map (·.1)).reverse)
  (frs:∀x∈N2.drop nt,scope.names.lookup x=some .free/\sc.names.lookup x=some .cell) (len:N2.length=nt+js.length) (pl:js.map (fun j=>X.N[j]?)=(N2.drop nt).map some):cQ X N2 nt js scope cl sc :=
 ⟨clos,fun x c e=>sub.mem (lookup_mem e),xsc,kind,nocell,loc,fun y m f=>by rw[names];exact List.mem_reverse.mpr (List.mem_map_of_mem (F0.mpr ⟨m,by rw[f];rfl⟩)),frs,len,fun k j e=>by
  have h:(js.map (fun j=>X.N[j]?))[k]?=((N2.drop nt).map some)[k]?:=by rw[pl]
  rw[E7,E7,e,List.getElem?_drop]at h;cases q:N2[nt+k]? with
  | none=>rw[q]at h;cases h
  | some x=>rw[q]at h;exact Fn h⟩
end
section
theorem Bg{K:PySem.W.Frag}(F:aT P w K mg base (CXU P w) k f fd ps sp) :
  aT P w K mg base CX0 k f fd ps (fun vs H Q _=>sp vs H Q fun _ _ _=>False) :=
 ⟨fun vs H Q E y_=>by obtain⟨vs',H',Q',E',a,b,c,d,e⟩:=y_;exact F.len vs H Q (fun _ _ _=>False) ⟨vs',H',Q',fun _ _ _=>False,a,b,c,d,fun _ _ _ _ z=>z.elim⟩,fun A outer s H args us vs Q E hr he hb hv ⟨vs',H',Q',E',a,b,c,d,e⟩ =>
  GG (F.run A outer s H args us vs Q (fun _ _ _=>False) hr he hb hv ⟨vs',H',Q',fun _ _ _=>False,a,b,c,d,fun _ _ _ _ z=>z.elim⟩) fun r s' hq=>by
   cases r with
   | error e =>
    have hq':CXU P w outer H s (fun _ _ _=>False) e s':=hq;obtain⟨_,_,_,_,_,_,_,_,_,_,_,_,z⟩:=hq';exact z.elim
   | ok fl=>cases fl<;>exact hq⟩
end
end U
namespace L2
variable {X:Cx}{a b c d:Expr}{pos:Pos}{ta tb tc td:TE}
def vA(r r' r'':R2)(ta tb tc td:TE):TE:=fun σ H Q=>ta σ H fun x H1=>tb σ H1 fun y H2=>r x y H2 fun z H3=>∃k,z=.bl k /\
 (if k=true then tc σ H3 fun w' H4=>r' y w' H4 fun z' H5=>∃k',z'=.bl k'/\(if k'=true then td σ H5 fun v' H6=>r'' w' v' H6 Q else Q (.bl false) H5)else Q (.bl false) H3)
theorem qo{op op' op'':CmpOp}{r r' r'':R2}(ho:OpR X (compareOp op) r)(ho':OpR X (compareOp op') r')(ho'':OpR X (compareOp op'') r'')(ha:PE X a ta)(hb:PE X b tb)(hc:PE X c tc)(hd:PE X d td)
  (hm:lastMarks [op,op',op''] [b,c,d]=false:=by with_unfolding_all rfl):PE X (.Compare a [op,op',op''] [b,c,d] pos) (vA r r' r'' ta tb tc td):=by
 intro pins s σ H Q I h;refine Compare_chain (thn (ha pins s σ H _ I h) fun v s1 ⟨x,H1,I1,r1,q1⟩=>chain_link (thn (hb pins s1 σ H1 _ I1 q1) fun u s2 ⟨y,H2,I2,r2,q2⟩ =>
  thn (ho pins s2 σ H2 x y v u _ I2 r1 r2 q2) fun d s3 ⟨z,H3,I3,r3,k,e,q3⟩=>?_)) hm
 subst e;cases r3;refine F2 ?_;cases k with
 | false=>exact ite_ff ⟨.bl false,H3,I3,rfl,q3⟩
 | true =>
  refine ite_tt (chain_link (thn (hc pins s3 σ H3 _ I3 q3) fun w' s4 ⟨z',H4,I4,r4,q4⟩=>thn (ho' pins s4 σ H4 y z' u w' _ I4 r2 r4 q4) fun d' s5 y_=>?_));obtain⟨z5,H5,I5,r5,k5,e5,q5⟩:=y_;subst e5;cases r5;refine F2 ?_;cases k5 with
  | false=>exact ite_ff ⟨.bl false,H5,I5,rfl,q5⟩
  | true=>exact ite_tt (chain_last (thn (hd pins s5 σ H5 _ I5 q5) fun w6 s6 y_=>by obtain⟨z6,H6,I6,r6,q6⟩:=y_;exact ho'' pins s6 σ H6 z' z6 w' w6 Q I6 r4 r6 q6))
end L2
namespace U
open L2
variable {B:Bs}{X:Cx}{a b c d e o value:Expr}{pos pos' apos p:Pos}{ta tb tc td tv:TE'}{f m x:Str}{C g:Addr}
def pL(r r' r'':R2')(ta tb tc td:TE'):TE':=fun σ H Q=>ta σ H fun x H1=>tb σ H1 fun y H2=>r x y H2 fun z H3=>eK z fun k=>cif k (tc σ H3 fun w' H4=>r' y w' H4 fun z' H5=>eK z' fun k'=>cif k' (td σ H5 fun v' H6=>r'' w' v' H6 Q) (Q (.bl false) H5)) (Q (.bl false) H3)
theorem qL{op op' op'':CmpOp}{r1' r2' r3':R2'}{r1 r2 r3:R2}(ho:OpR X (compareOp op) r1)(v1:VR X.K B r1' r1)(ho':OpR X (compareOp op') r2)(v2:VR X.K B r2' r2)(ho'':OpR X (compareOp op'') r3)(v3:VR X.K B r3' r3)
  (ha:PE' X B a ta) (hb:PE' X B b tb) (hc:PE' X B c tc) (hd:PE' X B d td)
  (hm:lastMarks [op,op',op''] [b,c,d]=false:=by with_unfolding_all rfl):PE' X B (.Compare a [op,op',op''] [b,c,d] pos) (pL r1' r2' r3' ta tb tc td):=bu (qo ho ho' ho'' ha hb hc hd hm) fun σ H Q y_=>by
 obtain⟨σ',H',Q',s,h,k⟩:=y_;refine⟨σ',H',_,s,h,fun x' H1' x H1 h1 rx s1 e1=>⟨σ',H1',_,s1,h1,fun y' H2' y H2 h2 ry s2 e2=>?_⟩⟩;refine v1 σ' σ H2' H2 x' y' x y _ _ s2 (RP.kp X.K (e2.kp s1.hp) rx) ry h2 fun z' H3' z H3 q rz s3 e3=>?_;obtain⟨b,rfl,q⟩:=q.ex;simp only[RP]at rz;refine⟨b,rz,?_⟩;cases b with
 | false=>exact jL (k _ _ _ _ q (by simp[RP]) s3 ((e1.trans e2).trans e3))
 | true =>
  refine jK ⟨σ',H3',_,s3,q,fun w' H4' w H4 h4 rw4 s4 e4=>?_⟩;refine v2 σ' σ H4' H4 y' w' y w _ _ s4 (RP.kp X.K ((e3.trans e4).kp s2.hp) ry) rw4 h4 fun z5' H5' z5 H5 q5 rz5 s5 e5=>?_;obtain⟨b5,rfl,q5⟩:=q5.ex;simp only[RP]at rz5;refine⟨b5,rz5,?_⟩;cases b5 with
  | false=>exact jL (k _ _ _ _ q5 (by simp[RP]) s5 ((((e1.trans e2).trans e3).trans e4).trans e5))
  | true =>
   refine jK ⟨σ',H5',_,s5,q5,fun v' H6' v H6 h6 rv s6 e6=>?_⟩;exact v3 σ' σ H6' H6 w' v' w v _ _ s6 (RP.kp X.K ((e5.trans e6).kp s4.hp) rw4) rv h6 fun z7' H7' z7 H7 q7 rz7 s7 e7=>k _ _ _ _ q7 rz7 s7 ((((((e1.trans e2).trans e3).trans e4).trans e5).trans e6).trans e7)
def xO(C:Addr)(f:Str)(x:PV)(H:PHp)(Q:VK'):Prop:=match x with
 | .ref a=>∃dx fs v,H a=some (.ins C dx fs)/\fs.lookup f=some v/\Q v H
 | _=>False
def vW(C:Addr)(f:Str)(ta:TE'):TE':=fun σ H Q=>ta σ H fun x H1=>xO C f x H1 Q
theorem lG{K:PySem.W.Frag}(h:fh K H fs gs)(e:fs.lookup f=some v):∃u,gs.lookup f=some u/\RP K H v u:=by
 induction h with
 | nil=>simp at e
 | @cons a b _ _ h t ih =>
  obtain⟨n,y⟩:=a;obtain⟨m,z⟩:=b;obtain⟨rfl,hr⟩:=h;dsimp only at hr;cases hx:f==n with
  | true =>
   simp only[FG,hx]at e ⊢;cases e;exact⟨z,rfl,hr⟩
  | false =>
   simp only[FG,hx]at e ⊢;exact ih e
theorem qG{K:PySem.W.Frag}(h:fh K H fs gs)(e:fs.lookup f=none):gs.lookup f=none:=by
 induction h with
 | nil=>rfl
 | @cons a b _ _ h t ih =>
  obtain⟨n,y⟩:=a;obtain⟨m,z⟩:=b;obtain⟨rfl,hr⟩:=h;cases hx:f==n with
  | true=>simp only[FG,hx]at e;cases e
  | false =>
   simp only[FG,hx]at e ⊢;exact ih e
theorem um{K:PySem.W.Frag}{H:Hp}{gs:List (Str×V)}(h:fh K H fs gs):gs.length=fs.length:=by
 induction h with
 | nil=>rfl
 | cons _ _ ih=>simp[ih]
theorem cR(ha:PE' X B e ta)(cl:Cls X.K C)(n:cq X.K C f)(hb:attributeBase e f X.env (eval e X.env)=eval e X.env):PE' X B (.Attribute e f pos) (vW C f ta):=bu (zH ha hb) fun σ H Q y_=>by
 obtain⟨σ',H',Q',s,h,k⟩:=y_;refine⟨σ',H',_,s,h,fun x' H1' x H1 h1 rx s1 e1=>?_⟩;cases x' with
 | ref a =>
  obtain⟨dx,fs,v,ea,l,q⟩:=h1;simp only[RP]at rx;subst rx;obtain⟨gs,eg,fr⟩:=s1.hp _ _ ea;obtain⟨u,lu,ru⟩:=lG fr l;exact⟨a,C,dx,gs,u,rfl,eg,cl,n,lu,k _ _ _ _ q ru s1 e1⟩
 | _=>exact h1.elim
def fV(f:Str)(v:PV):List (Str×PV)->List (Str×PV)
 | []=>[(f,v)]
 |(g,x)::r=>if g=f then(g,v)::r else(g,x)::fV f v r
theorem tZ{K:PySem.W.Frag}(rv:RP K H v u){fs:List (Str×PV)}{gs:List (Str×V)}(h:fh K H fs gs):fh K H (fV f v fs) (dI f u gs):=by
 induction h with
 | nil=>exact .cons ⟨rfl,rv⟩ .nil
 | @cons a b _ _ h t ih =>
  obtain⟨n,y⟩:=a;obtain⟨m,z⟩:=b;obtain⟨rfl,hr⟩:=h;unfold fV dI;by_cases hn:n=f
  ·rw[Fq hn,Fq hn];exact .cons ⟨rfl,rv⟩ t
  ·rw[Fo hn,Fo hn];exact .cons ⟨rfl,hr⟩ ih
def xK(C:Addr)(f:Str)(x y:PV)(H:PHp)(Q:PHp->Prop):Prop:=match x with
 | .ref a=>∃dx fs,H a=some (.ins C dx fs)/\fs.length<1000/\Q (put H a (.ins C dx (fV f y fs)))
 | _=>False
def tI(C:Addr)(f:Str)(ta tv:TE'):TS':=fun D σ H=>tv σ H fun y H1=>ta σ H1 fun x H2=>xK C f x y H2 fun H3=>D.nx σ H3
theorem eC(ha:PE' X B o ta)(hv:PE' X B value tv)(cl:Cls X.K C)(n:cq X.K C f)(hs:swapsWith value (some (.Attribute o f pos')) pos.line X.env=pure false):PS' X B (.Assign [.Attribute o f pos'] value pos) (tI C f ta tv):=dF (Ao ha hv hs) fun D σ H y_=>by
 obtain⟨σ',H',D',s,h,dd⟩:=y_;refine⟨σ',H',_,s,h,fun y' H1' y H1 h1 ry s1 e1=>⟨σ',H1',_,s1,h1,fun x' H2' x H2 h2 rx s2 e2=>?_⟩⟩;cases x' with
 | ref a =>
  obtain⟨dx,fs,ea,l,q⟩:=h2;simp only[RP]at rx;subst rx;obtain⟨gs,eg,fr⟩:=s2.hp _ _ ea;have ry2:=RP.kp X.K (e2.kp s1.hp) ry;have new:OAt X.K (upd H2 a (.ins C dx (dI f y gs))) a (.ins C dx (fV f y' fs)):=⟨_,bC,fh.kp (s2.hp.kpw ea) (tZ ry2 fr)⟩;exact⟨a,C,dx,gs,rfl,eg,cl,n,by rw[um fr];exact l,dd.nx _ _ _ _ q (s2.wr ea new) ((e1.trans e2).trans (Ev.wr ea))⟩
 | _=>exact h2.elim
def isIn(C:Addr)(m:Str)(x:PV)(H:PHp):Prop:=match x with
 | .ref a=>∃dx fs,H a=some (.ins C dx fs)/\fs.lookup m=none
 | _=>False
def pE(C:Addr)(m:Str)(sp:Sp')(E':XK')(ta:TE')(t:TA'):TE':=fun σ H Q=>ta σ H fun x H1=>isIn C m x H1/\t σ H1 fun vs H2=>sp (x::vs) H2 Q E'
section
variable {k:Nat}{fd:FuncData}{ps:List Str}{sp:Sp'}{es:List Expr}{t:TA'}
theorem qD{K:PySem.W.Frag}(h:low K B (pE C m sp X0 ta t) σ H Q):xF C m (fG K sp) [] E0 (low K B ta) (uj K B t) σ H Q:=by
 obtain⟨σ',H',Q',s,h,k⟩:=h;refine⟨σ',H',_,s,h,fun x' H1' x H1 h1 rx s1 e1=>?_⟩;obtain⟨hi,h1⟩:=h1;cases x' with
 | ref a =>
  obtain⟨dx,fs,ea,l⟩:=hi;simp only[RP]at rx;subst rx;obtain⟨gs,eg,fr⟩:=s1.hp _ _ ea;refine⟨a,dx,gs,rfl,eg,qG fr l,σ',H1',_,s1,h1,fun vs' H2' vs H2 h2 r2 s2 e2=>?_⟩;show fG K sp (V.ref a::(vs++[])) H2 Q E0;rw[FH];exact⟨.ref a::vs',H2',Q',X0,RPs.cons _ (by simp[RP]) r2,s2.hp,h2,fun v' H3' v H3 q r3 h3 e3=>k v' H3' v H3 q r3 (s2.kp e3 h3) ((e1.trans e2).trans e3),fun _ _ _ _ z=>z.elim⟩
 | _=>exact hi.elim
theorem oY{pl:Sem Bool}(he:PE' X B o ta)(cl:Cls X.K C)(hm:Meth X.K C m g)(F:aT X.prog X.w X.K X.mg X.base CX0 k g fd ps sp)(hr:cv k X.A)(hb:Binds X.K fd ps [])(ha:PA' X B (e::es) t)
  (hst:starEach (e::es) X.env=(false,eval e X.env)::starEach es X.env:=by rfl) (hpl:(backTo pos (starEach es X.env)).any (·.1)=false:=by rfl)
  (ht:eval (.Call (.Attribute o m apos) (e::es) [] pos) X.env=(do
   let ov←eval o X.env
   standAt apos.atName
   let (f,first)←holding [ov] (getMethod ov m pl)
   callWith pos f first (backTo pos (starEach (e::es) X.env)) (backToKw pos (keywordEach [] X.env))):=by rfl) :
  PE' X B (.Call (.Attribute o m apos) (e::es) [] pos) (pE C m sp X0 ta t):=bu (wa he cl hm F hr hb .nil uF ha hst hpl ht) fun _ _ _ h=>qD h
def pH(C:Addr)(sp:Sp')(E':XK')(t:TA'):TE':=fun σ H Q=>t σ H fun vs H1=>∀x dx,H1 x=none->H1 dx=none->dx≠x->sp (.ref x::vs) (put H1 x (.ins C dx [])) (fun v H2=>v=.non/\Q (.ref x) H2) E'
theorem gc(M:Mk X.K C g)(F:aT X.prog X.w X.K X.mg X.base CX0 k g fd ps sp)(hr:cv (k+1) X.A)(hg:Gl X x)(hm:X.mg x=some (.ref C))(hb:Binds X.K fd ps [])
  (ha:PA' X B (e::es) t) (hdb:(x==("__debug__":Str))=false:=by decide) (he:starEach (e::es) X.env=(false,eval e X.env)::starEach es X.env:=by rfl) (hpl:(backTo pos (starEach es X.env)).any (·.1)=false:=by rfl) :
  PE' X B (.Call (.Name x p) (e::es) [] pos) (pH C sp X0 t):=bu (wo M F hr hg hm hb .nil uF ha hdb he hpl) fun σ H Q y_=>by
 obtain⟨σ',H',Q',s,h,k⟩:=y_;refine⟨σ',H',_,s,h,fun vs' H1' vs H1 h1 r1 s1 e1=>?_⟩;intro x dx nx nd ne;have h2:=h1 x dx (s1.hp.free nx) (s1.hp.free nd) ne;have nx2:upd H1 dx (.own x) x=none:=by rw[aJ (Ne.symm ne)];exact nx
 have sd:=s1.hid (o:=.own x) nd;have new:OAt X.K (upd (upd H1 dx (.own x)) x (.ins C dx [])) x (.ins C dx []):=⟨[],bC,.nil⟩;have s2:=sd.new nx2 new;have e2:Ev H1' H1 (put H1' x (.ins C dx [])) (upd (upd H1 dx (.own x)) x (.ins C dx [])):=(Ev.hid nd).trans (Ev.new nx2);show fG X.K sp (.ref x::(vs++[])) _ _ E0;rw[FH];refine⟨.ref x::vs',_,_,X0,RPs.cons _ (by simp[RP]) (RPs.kp X.K (e2.kp s1.hp) r1),s2.hp,h2,fun v' H3' v H3 q r3 h3 e3=>?_,fun _ _ _ _ z=>z.elim⟩;obtain⟨rfl,q⟩:=q;simp only[RP]at r3;exact⟨r3,k _ _ _ _ q (by simp[RP]) (s2.kp e3 h3) ((e1.trans e2).trans e3)⟩
end
end U
namespace L2
variable {X:Cx}
def Cs(K:PySem.W.Frag):List V->Hp->VK->Prop:=fun xs H Q=>∃(p:Addr) (bs:List Bool),xs=[.ref p]/\SqL K H p (bs.map V.bl)/\Q (.bl (bs.all id)) H
theorem iR:∀{bs:List Bool} {us:List Value},Vals (bs.map V.bl) us->us=bs.map Value.bool
 | [],_,.nil=>rfl
 | b::bs,_,.cons r t=>by rw[iR t];cases r;rfl
theorem dC(hc:X.calm=true):cU X (.builtin "all") (Cs X.K):=by
 intro pins s σ H xs us Q I r h;obtain⟨a,bs,rfl,hq,q⟩:=h;obtain⟨u,rfl,ru⟩:=Vals.one r;cases ru;obtain⟨its,rv,p,hz⟩:=I.list hq;have e:=iR rv;subst e;have hl:s.heap.IsList a (bs.map Value.bool).toArray:=p.isList;have llt:a<s.heap.objs.size:=by obtain⟨o,e,_⟩:=hl;exact E5 e
 have hne:a≠s.heap.objs.size:=Fe llt;refine call_all_walk (wpAny_pyIter_list hl ?_);refine⟨s.heap.objs.size,[s.heap.objs.size,a],[s.heap.objs.size],(bs.map Value.bool).toArray.size,_,_,fun i=>bs.getD i false,rfl,Walks.list (by simpa using I.ok.hd hc) _ a hne _,⟨⟨_,E9 _ rfl,rfl,rfl⟩,hl.at fun o e=>ET _ e⟩,?_,?_⟩
 ·intro i v s' Q' E' hv hQ;have:v=Value.bool (bs.getD i false):=by
   have hv':(bs.map Value.bool)[i]?=some v:=by simpa using hv
   rw[E7]at hv';cases hb:bs[i]? with
   | none=>rw[hb]at hv';cases hv'
   | some b=>rw[hb]at hv';cases hv';rw[ER,hb];rfl
  subst this;exact F2 hQ
 ·intro h' tk kp;have e:(List.range (bs.map Value.bool).toArray.size).all (fun i=>bs.getD i false)=bs.all id:=by
   have hs:(bs.map Value.bool).toArray.size=bs.length:=by simp
   rw[hs];rw[Gv,Fj,Fj];constructor
   ·intro h b hb;obtain⟨i,hi,e⟩:=List.getElem_of_mem hb;have:=h i (Ft.mpr hi);rw[ER,EO hi,e]at this;exact this
   ·intro h i hi;have hi:=Ft.mp hi;rw[ER,EO hi];exact h _ (FK hi)
  rw[e];refine⟨.bl (bs.all id),H,I.kept (t':=tk) fun b o e=>?_,rfl,q⟩;exact kp b o (by simpa using Fe (E5 e)) (ET _ e)
end L2
namespace U
open L2
variable {B:Bs}{X:Cx}
theorem jx{K:PySem.W.Frag}{H:Hp}:∀{bs:List Bool} {us:List V},RPs K H (bs.map PV.bl) us->us=bs.map V.bl
 | [],us,h=>by simpa[RPs]using h
 | b::bs,us,h=>by
  simp only[Fp,RPs,RP]at h;obtain⟨u,r,rfl,rfl,h2⟩:=h;rw[jx h2];rfl
theorem kz{K:PySem.W.Frag}{H:Hp}:∀{bs:List Int} {us:List V},RPs K H (bs.map PV.int) us->us=bs.map V.int
 | [],us,h=>by simpa[RPs]using h
 | b::bs,us,h=>by
  simp only[Fp,RPs,RP]at h;obtain⟨u,r,rfl,rfl,h2⟩:=h;rw[kz h2];rfl
def AW:List PV->PHp->VK'->Prop:=du fun x H Q=>match x with
 | .ref a=>∃bs:List Bool,H a=some (.lst (bs.map PV.bl))/\Q (.bl (bs.all id)) H
 | _=>False
theorem gi{K:PySem.W.Frag}:VC K B AW (Cs K):=by
 intro σ' σ H' H xs' xs Q' Q s r h k;obtain⟨x',x,rfl,rfl,rx,h⟩:=du.ex h r;cases x' with
 | ref a =>
  obtain⟨bs,ea,q⟩:=h;simp only[RP]at rx;subst rx;obtain⟨us,e,r2⟩:=s.hp _ _ ea;rw[jx r2]at e;exact⟨a,bs,rfl,.inl (.inl e),k _ _ _ _ q (by simp[RP]) s (Ev.refl _ _)⟩
 | _=>exact h.elim
end U
namespace SP
def hs:List Int:=[-1950498447580522560,7204814214171964562,-3550055125485641917,-4734289103435588629,-1440771752368011620,
 8409376899596376432,1773351652666409796,-6333845781340707986,3516302870623680066,1079245023883434373,
 -3119722376306286570,173794974761290439,-8422800446983873125,7586885779985432798,-1009709641759730766]
def prs:List (Int×Int):=[(0,1),(0,2),(1,2),(0,3),(1,3),(2,3),(0,4),(1,4),(2,4),(3,4),(0,5),(1,5),(2,5),(3,5),(4,5)]
def hp(p:Int×Int):Int:=reduceHash (Builtin.Tuple.tupleHashOf [p.1,p.2])
theorem AU:prs.map hp=hs:=by decide +kernel
theorem mh(h:p∈prs):hp p∈hs:=by rw[←AU];exact E3.mpr ⟨p,h,rfl⟩
theorem AE:∀p∈prs,∀q∈prs,hp p=hp q->p=q:=by decide +kernel
theorem vn(h0:0≤u)(h1:u<v)(h2:v<6):(u,v)∈prs:=by
 have hv:v=1∨v=2∨v=3∨v=4∨v=5:=by omega
 have hu:u=0∨u=1∨u=2∨u=3∨u=4:=by omega
 rcases hv with rfl | rfl | rfl | rfl | rfl<;>rcases hu with rfl | rfl | rfl | rfl | rfl<;>first |(exfalso;omega) | decide
def qZ(mask:Nat)(p:SetTable.Probe):SetTable.Probe :=
 if p.more>0 then { p with j:=p.j+1,more:=p.more - 1 }else
 let (i,perturb):=SetTable.leap mask p.i p.perturb
 { p with j:=i,more:=SetTable.runEnd mask i - i,i,perturb }
theorem yn(t:SetTable)(p:SetTable.Probe):t.advance p=qZ t.mask p:=rfl
theorem rC(mask:Nat)(p:SetTable.Probe):(qZ mask p).dummy=p.dummy:=by unfold qZ;split<;>rfl
def visit(mask:Nat):Nat->SetTable.Probe->List Nat
 | 0,_=>[]
 | f+1,p=>p.j::visit mask f (qZ mask p)
def startM(mask:Nat)(h:Int):SetTable.Probe :=
 let i:=SetTable.bits h % (mask+1)
 { j:=i,more:=SetTable.runEnd mask i - i,i,perturb:=SetTable.bits h,dummy:=none }
theorem tD(t:SetTable)(h:Int):t.probeStart h=startM t.mask h:=rfl
theorem Au:∀h∈hs,∀j∈List.range 8,j∈visit 7 220 (startM 7 h):=by decide +kernel
theorem vi:∀h∈hs,∀j∈List.range 32,j∈visit 31 460 (startM 31 h):=by decide +kernel
theorem uw:∀(n:Nat) (l:List Nat),(∀j,j<n->j∈l)->n≤l.length
 | 0,_,_=>FP _
 | n+1,l,h=>by
  have hm:=h n (Nat.lt_succ_self n);have:=uw n (l.erase n) fun j hj=>(List.mem_erase_of_ne (by omega)).mpr (h j (by omega));rw[List.length_erase_of_mem hm]at this;have:0<l.length:=List.length_pos_of_mem hm;omega
theorem rW{l:List Nat}(h:l.length<n):∃j,j<n/\j∉l :=
 Classical.byContradiction fun c=>absurd (uw n l fun j hj=>Classical.byContradiction fun q=>c ⟨j,hj,q⟩) (by omega)
theorem slot_of{t:SetTable}(hd:t.dummies=#[])(j:Nat):t.slot j=.empty∨∃i,t.slot j=.live i/\i<t.place.size/\j∈t.place.toList:=by
 unfold SetTable.slot;dsimp only;split
 ·rename_i h;have h':=Gd.mp h;obtain⟨hi,e⟩:=Array.getElem?_eq_some_iff.mp h';refine .inr ⟨_,rfl,hi,?_⟩;rw[←e];exact Array.getElem_mem_toList hi
 ·left;have:SetTable.has t.dummies j=false:=by
   rw[hd];rfl
  rw[this];rfl
theorem lK{t:SetTable}{hashAt:Nat->Int}{h:Int}(hd:t.dummies=#[])(hn:∀i,i<t.place.size->hashAt i≠h):∀(fuel:Nat) (p:SetTable.Probe),p.dummy=none ->
  (∃j∈visit t.mask fuel p,j∉t.place.toList)->∃j,SetTable.probe.go t hashAt h fuel p=some (.empty j none)
 | 0,_,_,⟨_,hj,_⟩=>by simp[visit]at hj
 | f+1,p,hp,⟨j,hj,hjn⟩=>by
  unfold SetTable.probe.go;rcases slot_of hd p.j with e |⟨i,e,hi,hm⟩
  ·rw[e];dsimp only;exact⟨p.j,by rw[hp]⟩
  ·rw[e];dsimp only;rw[Fo (by intro q;exact hn i hi (Gd.mp q)),yn];refine lK hd hn f (qZ t.mask p) (by rw[rC];exact hp) ⟨j,?_,hjn⟩;have hj':j=p.j∨j∈visit t.mask f (qZ t.mask p):=Fd.mp hj;rcases hj' with rfl | hj'
   ·exact absurd hm hjn
   ·exact hj'
theorem rL{t:SetTable}(hh:h∈hs)(hd:t.dummies=#[])(hn:∀i,i<t.place.size->hashAt i≠h)(hm:t.mask=7∨t.mask=31)(hsz:t.place.size≤t.mask) :
  ∃j,t.probe hashAt h (t.probeStart h)=some (.empty j none):=by
 unfold SetTable.probe;refine lK hd hn _ _ rfl ?_;obtain⟨j,hj,hjn⟩:=rW (n:=t.mask+1) (l:=t.place.toList) (by simpa using Nat.lt_succ_of_le hsz);refine⟨j,?_,hjn⟩;rw[tD];rcases hm with e | e
 ·rw[e]at hj ⊢;exact Au h hh j (Ft.mpr hj)
 ·rw[e]at hj ⊢;exact vi h hh j (Ft.mpr hj)
theorem t9(t:SetTable)(j:Nat):(t.put j).1.place.size=t.place.size+1:=by
 unfold SetTable.put SetTable.insertAt;dsimp only;simp only[Array.size_append,Array.size_push,Array.size_extract];omega
theorem lF{t:SetTable}(hd:t.dummies=#[])(j:Nat):(t.put j).1.dummies=#[]:=by
 unfold SetTable.put;dsimp only;rw[hd];rfl
theorem uL(t:SetTable)(j:Nat):(t.put j).1.mask=t.mask/\(t.put j).1.plain=t.plain:=⟨rfl,rfl⟩
theorem insertAt_perm(xs:Array α)(p:Nat)(x:α):(SetTable.insertAt xs p x).toList.Perm (x::xs.toList):=by
 unfold SetTable.insertAt;rw[Array.toList_append,Array.toList_push,List.append_assoc];have e:xs.toList=(xs.extract 0 p).toList++(xs.extract p xs.size).toList:=by
  rw[Array.toList_extract,Array.toList_extract];unfold List.extract;rw[List.drop_zero,Nat.sub_zero];have e2:(List.drop p xs.toList).take (xs.size - p)=List.drop p xs.toList:=List.take_of_length_le (by rw[Gi];simp);rw[e2,List.take_append_drop]
 rw[e];exact List.perm_middle
def runs(mask:Nat):Nat->Nat->Nat->List Nat
 | 0,_,_=>[]
 | f+1,i,pt=>((List.range (SetTable.runEnd mask i+1 - i)).map (i+·))++runs mask f (SetTable.leap mask i pt).1 (SetTable.leap mask i pt).2
theorem y6:∀h∈hs,∀j∈List.range 32,j∈runs 31 46 (SetTable.bits h % 32) (SetTable.bits h):=by decide +kernel
theorem jF{mask:Nat}{owner:Array (Option Nat)}:∀(f i pt:Nat),(∃j∈runs mask f i pt,(owner.getD j (some 0)).isNone=true)->∃j,SetTable.layClean.free mask owner f i pt=some j/\(owner.getD j (some 0)).isNone=true
 | 0,_,_,⟨_,hj,_⟩=>by simp[runs]at hj
 | f+1,i,pt,⟨j,hj,hn⟩=>by
  unfold SetTable.layClean.free;cases e:(List.range (SetTable.runEnd mask i+1 - i)).find? fun k=>(owner.getD (i+k) (some 0)).isNone with
  | some k =>
   dsimp only;exact⟨i+k,rfl,by have:=List.find?_some e;exact this⟩
  | none =>
   dsimp only;rcases Fu.mp hj with hj | hj
   ·obtain⟨k,hk,rfl⟩:=E3.mp hj;have:=List.find?_eq_none.mp e k hk;exact absurd hn this
   ·exact jF f _ _ ⟨j,hj,hn⟩
theorem il{α:Type}:∀(l:List (Option α)) (j:Nat) (k:α),l[j]?=some none->((l.set j (some k)).filterMap id).Perm (k::l.filterMap id)
 | [],_,_,h=>by simp at h
 | none::l,0,k,_=>by simp
 | some x::l,0,k,h=>by simp at h
 | none::l,j+1,k,h=>by
  have:=il l j k (by simpa using h);simpa using this
 | some x::l,j+1,k,h=>by
  have:=il l j k (by simpa using h);simp only[FY,List.filterMap_cons_some (f:=id) rfl];exact(this.cons x).trans (List.Perm.swap k x _)
theorem dj{α:Type}:∀(l:List (Option α)),(l.filterMap id).length<l.length->∃j:Nat,l[j]?=some none
 | [],h=>by simp at h
 | none::l,_=>⟨0,rfl⟩
 | some x::l,h=>by
  have h':(l.filterMap id).length<l.length:=by simpa using h
  obtain⟨j,e⟩:=dj l h';exact⟨j+1,by simpa using e⟩
def hV(mask:Nat)(acc:Option (Array (Option Nat)×Nat))(h:Int):Option (Array (Option Nat)×Nat):=do
 let (owner,k)←acc
 let j←SetTable.layClean.free mask owner (SetTable.turns mask) (SetTable.bits h % (mask+1)) (SetTable.bits h)
 pure (owner.setIfInBounds j (some k),k+1)
theorem kY:∀(l:List Int) (owner:Array (Option Nat)) (k:Nat),(∀h∈l,h∈hs)->owner.size=32->(owner.toList.filterMap id).Perm (List.range k)->k+l.length≤32 ->
  ∃ow',l.foldl (hV 31) (some (owner,k))=some (ow',k+l.length)/\ow'.size=32/\(ow'.toList.filterMap id).Perm (List.range (k+l.length))
 | [],owner,k,_,hs,hp,_=>⟨owner,rfl,hs,hp⟩
 | h::l,owner,k,hh,hsz,hp,hl=>by
  have hlen:(owner.toList.filterMap id).length=k:=by rw[hp.length_eq,Fv]
  obtain⟨j,hj⟩:=dj owner.toList (by rw[hlen];simp only[EU]at hl;rw[show owner.toList.length=32 by simpa using hsz];omega);have hjlt:j<32:=by
   have:=(EV.mp hj).1;simpa[hsz]using this
  have hnone:∀j,(owner.getD j (some 0)).isNone=true->owner.toList[j]?=some none:=fun j q=>by
   rw[Array.getElem?_toList];unfold Array.getD at q;split at q
   ·rename_i hlt;rw[Fs hlt];cases e:owner[j]with
    | none=>rfl
    | some x =>
     have q':(owner[j]).isNone=true:=q;rw[e]at q';cases q'
   ·cases q
  obtain⟨j',ej,hn⟩:=jF (mask:=31) (owner:=owner) 46 (SetTable.bits h % 32) (SetTable.bits h) ⟨j,y6 h (hh h E1) j (Ft.mpr hjlt),by
   unfold Array.getD;rw[dif_pos (by rw[hsz];exact hjlt)];rw[Array.getElem?_toList,Fs (by rw[hsz];exact hjlt)]at hj;have:=Fn hj;show(owner[j]).isNone=true;rw[this];rfl⟩
  have est:hV 31 (some (owner,k)) h=some (owner.setIfInBounds j' (some k),k+1):=by
   unfold hV;show(SetTable.layClean.free 31 owner (SetTable.turns 31) (SetTable.bits h % 32) (SetTable.bits h) >>= fun j=>pure (owner.setIfInBounds j (some k),k+1))=_;rw[show SetTable.turns 31=46 from rfl,ej];rfl
  have hp':((owner.setIfInBounds j' (some k)).toList.filterMap id).Perm (List.range (k+1)):=by
   rw[Array.toList_setIfInBounds];refine(il _ _ _ (hnone j' hn)).trans ?_;rw[List.range_succ];exact(hp.cons k).trans (List.perm_append_singleton k _).symm
  obtain⟨ow',e1,e2,e3⟩:=kY l (owner.setIfInBounds j' (some k)) (k+1) (fun x hx=>hh x (EY _ hx)) (by simpa using hsz) hp' (by simp only[EU]at hl;omega);refine⟨ow',?_,e2,?_⟩
  ·rw[List.foldl_cons,est,e1];simp only[EU];congr 2;omega
  ·rw[EU,show k+(l.length+1)=k+1+l.length by omega];exact e3
theorem pT{t:SetTable}(hw:SetTable.sizeAbove wanted=32)(hh:∀h∈hashes.toList,h∈hs)(hl:hashes.size≤32) :
  ∃t' order,t.relaid hashes wanted=some (t',order)/\t'.mask=31/\t'.dummies=#[]/\t'.place.size=hashes.size/\order.toList.Perm (List.range hashes.size)/\t'.plain=t.plain:=by
 have e0:(Array.replicate 32 (none:Option Nat)).toList.filterMap id=[]:=by decide
 obtain⟨ow,e1,e2,e3⟩:=kY hashes.toList (Array.replicate 32 none) 0 hh (by simp) (by rw[e0];exact Gn _) (by simpa using hl);rw[Nat.zero_add]at e1 e3;have hlc:SetTable.layClean 31 hashes=some ow:=by
  unfold SetTable.layClean;rw[←Array.foldl_toList];show Option.map (·.1) (hashes.toList.foldl (hV 31) (some (Array.replicate 32 none,0)))=_;rw[e1];rfl
 have live2:((List.range 32).filterMap fun j=>(ow.getD j none).map ((j,·):Nat->Nat×Nat)).map (·.2)=ow.toList.filterMap id:=by
  have gen:∀(l:List (Option Nat)) (n:Nat),((l.zipIdx n).filterMap (fun q=>q.1.map ((q.2,·):Nat->Nat×Nat))).map (·.2)=l.filterMap id:=by
   intro l
   induction l with
   | nil=>intro n;rfl
   | cons a l ih =>
    intro n;rw[List.zipIdx_cons];cases a with
    | none=>simpa using ih (n+1)
    | some x=>simpa using ih (n+1)
  rw[←gen ow.toList 0];congr 1;have ez:ow.toList.zipIdx 0=(List.range 32).map fun j=>(ow.getD j none,j):=by
   apply List.ext_getElem?;intro j;rw[List.getElem?_zipIdx,E7];by_cases hj:j<32
   ·rw[List.getElem?_range hj,Array.getElem?_toList,Fs (by rw[e2];exact hj)];simp[Array.getD,e2,hj]
   ·rw[FN (show ow.toList.length≤j by simpa[e2]using Nat.le_of_not_lt hj),FN (show(List.range 32).length≤j by simpa using Nat.le_of_not_lt hj)];rfl
  rw[ez,List.filterMap_map];rfl
 have hlen:(ow.toList.filterMap id).length=hashes.size:=by rw[e3.length_eq,Fv];simp
 refine⟨{ mask:=31,place:=(((List.range 32).filterMap fun j=>(ow.getD j none).map ((j,·):Nat->Nat×Nat)).map (·.1)).toArray,dummies:=#[],finger:=t.finger,led:=t.led,moves:=t.movedTo 31,plain:=t.plain },
  (((List.range 32).filterMap fun j=>(ow.getD j none).map ((j,·):Nat->Nat×Nat)).map (·.2)).toArray,by
  unfold SetTable.relaid SetTable.laid;rw[hw];show(SetTable.layClean 31 hashes >>= _)=_;rw[hlc];rfl,rfl,rfl,?_,?_,rfl⟩
 ·show(((List.range 32).filterMap fun j=>(ow.getD j none).map ((j,·):Nat->Nat×Nat)).map (·.1)).toArray.size=_;rw[E6,EM,← hlen,← live2,EM]
 ·show((((List.range 32).filterMap fun j=>(ow.getD j none).map ((j,·):Nat->Nat×Nat)).map (·.2)).toArray).toList.Perm _;rw[live2];have:hashes.size=hashes.toList.length:=by simp
  rw[this];exact e3
theorem mJ{α:Type}{es:Array α}{order:Array Nat}(h:order.toList.Perm (List.range es.size)):(order.filterMap (es[·]?)).toList.Perm es.toList:=by
 have e:(order.filterMap (es[·]?)).toList=order.toList.filterMap (es[·]?):=by simp
 rw[e];refine(h.filterMap _).trans ?_;have:(List.range es.size).filterMap (es[·]?)=es.toList:=by
  apply List.ext_getElem?;intro i;have gen:∀n,n≤es.size->(List.range n).filterMap (es[·]?)=es.toList.take n:=by
   intro n
   induction n with
   | zero=>intro _;simp
   | succ n ih =>
    intro hn;rw[List.range_succ,List.filterMap_append,ih (by omega),FX];simp[Fs (show n<es.size by omega)]
  rw[gen es.size (E2 _),List.take_of_length_le (by simp)]
 rw[this]
end SP
namespace SP
section
variable {prog:Program}{w:World}{A:Around}{E:Value->Shared->Prop}{s:Shared}
structure ja (h:Heap) (S:Addr) (done:List (Int × Int)):Prop where
 is:∃es ep t,h.get? S=some { cls:=.type "set",dict:=none,data:=.set es ep t }/\t.dummies=#[]/\t.place.size=es.size/\es.size=done.length/\((t.mask=7/\es.size≤4)∨(t.mask=31/\es.size≤18)) /\
  ∀e∈es.toList,∃p∈done,e.1=hp p
theorem fits_of{t:SetTable}(hd:t.dummies=#[])(h1:t.place.size=n)(h2:n≤t.mask):t.fits n=true:=by
 unfold SetTable.fits SetTable.fill;rw[hd];simp[h1,h2]
theorem qq(u v:Int)(h:(u,v)∈prs):tupleKeyHash (intKind prog w) [u,v]=hp (u,v):=by
 have key:∀p∈prs,hashInt p.1=p.1/\hashInt p.2=p.2:=by decide +kernel
 obtain⟨h1,h2⟩:=key _ h;show reduceHash (Builtin.Tuple.tupleHashOf [hashInt u,hashInt v])=reduceHash (Builtin.Tuple.tupleHashOf [u,v]);have h1':hashInt u=u:=h1;have h2':hashInt v=v:=h2;rw[h1',h2']
theorem vv(h:ItemsAre (intKind prog w) ks vs):∀x∈vs,∃i t,x=.int i t:=by
 induction h with
 | nil=>intro x hx;simp at hx
 | cons h1 _ ih =>
  intro x hx;rcases Fd.mp hx with rfl | hx
  ·obtain⟨t,rfl⟩:=Value.isInt_shape h1;exact⟨_,t,rfl⟩
  ·exact ih x hx
theorem gj(hk:IsTupleKey (intKind prog w) s.heap [u,v] a)(h:Q true s):wpAny (model prog w) A (hashByValue 8 (.ref a)) Q E s:=by
 have hT:=hk.typeIs;obtain⟨o,items,n,ho,hc,hd,hi⟩:=hk;unfold hashByValue;refine ES (wpAny_specialOf hT F.slot_tuple_hash.lookup ?_);show wpAny _ _ (seqItems? (.ref a) >>= _) _ _ s;refine ES (Gp ho hd ?_);refine ES ?_;show wpAny _ _ (forIn items _ _) _ _ s;rw[←Array.forIn_toList];have hall:=vv hi;refine wpAny_forIn_list _ (fun rest r s'=>r.1=none/\s'=s/\∀v∈rest,∃i t,v=.int i t) _ ?_ ?_ _ _ ⟨rfl,rfl,hall⟩
 ·rintro v rest r s' ⟨hr,rfl,hall⟩;obtain⟨i,t,rfl⟩:=hall v E1;show wpAny _ _ (pure true >>= _) _ _ _;refine ES (E4 ?_);simp only[Bool.not_true,Bool.false_eq_true,if_false];exact E4 ⟨rfl,rfl,fun u hu'=>hall u (EY _ hu')⟩
 ·rintro⟨r1,r2⟩ s' ⟨hr,rfl,_⟩;simp only at hr;subst hr;exact E4 h
theorem ma(hu:A.units<cLine)(hk:IsTupleKey (intKind prog w) s.heap [u,v] a)(hP:ja s.heap S done)(hin:(u,v)∈prs)(hd:∀p∈done,p∈prs)
  (hn:(u,v)∉done) (hlen:done.length<15)
  (h:∀h' tk,Heap.SameBut S s.heap h'->ja h' S (done++[(u,v)])->Q true { s with heap:=h',toks:=tk }):wpAny (model prog w) A (setAdd S (.ref a)) Q E s:=by
 obtain⟨es,ep,t,ho,htd,hts,hes,hm,hh⟩:=hP.is;have hsa:S≠a:=by
  rintro rfl;obtain⟨o,items,n,ho',hc,_⟩:=hk;rw[ho]at ho';cases ho';exact absurd (show Value.type "set"=Value.type "tuple" from hc) (by decide)
 unfold setAdd;refine Gb (ES (wpAny_pyHash_tuple hu hk ?_));rw[qq u v hin];generalize hs':({ s with toks:=s.toks+([u,v].length+1) }:Shared)=s1;have e1:s1.heap=s.heap:=by rw[←hs']
 have ho1:s1.heap.get? S=some { cls:=.type "set",dict:=none,data:=.set es ep t }:=by rw[e1];exact ho
 have hk1:IsTupleKey (intKind prog w) s1.heap [u,v] a:=by rw[e1];exact hk
 have hmk:es.size≤t.mask:=by omega
 have hf:t.fits es.size=true:=fits_of htd hts hmk;unfold setAddHashed;refine Gb ?_;show wpAny _ _ (setAddHashedIn S (.ref a) (hp (u,v)) (99999+1)) _ _ _;unfold setAddHashedIn;refine ES (wpAny_setState_of ho1 rfl hf ?_);dsimp only;have hbs:byScan (.ref a) es=false:=rfl;rw[hbs];simp only[Bool.false_eq_true,if_false];obtain⟨j,hj⟩:=rL (t:=t) (hashAt:=fun i=>(es[i]?.map (·.1)).getD 0) (h:=hp (u,v)) (mh hin) htd (fun i hi q=>by
  rw[hts]at hi;rw[Fs hi]at q;have q':(es[i]).1=hp (u,v):=q;obtain⟨p,hpd,e⟩:=hh es[i] (Array.getElem_mem_toList hi);rw[e]at q';exact hn (AE p (hd p hpd) _ hin q'▸hpd)) (by omega) (by omega)
 unfold setSearch;show wpAny _ _ (setSearchFrom S (.ref a) (hp (u,v)) true (99999+1) none >>= _) _ _ _;unfold setSearchFrom;refine ES (ES (wpAny_setState_of ho1 rfl hf ?_));dsimp only;have hgw:t.gaveWay=false:=by
  unfold SetTable.gaveWay;rcases hm with hm | hm<;>rw[hm.1]<;>rfl
 rw[hgw,Fo (by decide)];generalize hX:t.probe _ (hp (u,v)) (none.getD (t.probeStart (hp (u,v))))=X0;have hX':X0=some (.empty j none):=by rw[←hX];exact hj
 subst hX';dsimp only;refine E4 ?_;dsimp only;refine ES (wpAny_setState_of ho1 rfl hf ?_);dsimp only;have hps:=t9 t j;have hpd:=lF htd j;obtain⟨hpm,hpp⟩:=uL t j;have hip:=insertAt_perm es (t.put j).2 (hp (u,v),Value.ref a);have his:(SetTable.insertAt es (t.put j).2 (hp (u,v),Value.ref a)).size=es.size+1:=by
  have:=hip.length_eq;simpa using this
 have hash':∀e∈(SetTable.insertAt es (t.put j).2 (hp (u,v),Value.ref a)).toList,∃p∈done++[(u,v)],e.1=hp p:=fun e he=>by
  rcases Fd.mp (hip.mem_iff.mp he)with rfl | he
  ·exact⟨(u,v),by simp,rfl⟩
  ·obtain⟨p,h1,h2⟩:=hh e he;exact⟨p,Fy _ h1,h2⟩
 have last:wpAny (model prog w) A (do
   storeSet S (SetTable.insertAt es (t.put j).2 (hp (u,v),Value.ref a)) (t.put j).1
   if (!false&&(t.put j).1.tooFull)=true then do
    setRelay S (SetTable.grown (es.size+1))
    pure true
   else pure true) Q E s1:=by
  refine ES (wpAny_storeSet_of ho1 rfl ?_ (by rw[his,Gg];omega));have hg:(s1.heap.update S (Obj.putSet (SetTable.insertAt es (t.put j).2 (hp (u,v),Value.ref a)) (t.put j).1)).get? S=some { cls:=.type "set",dict:=none,data:=.set (SetTable.insertAt es (t.put j).2 (hp (u,v),Value.ref a)) (ep+1) (t.put j).1 } :=
   Heap.get?_update_self _ ho1 rfl
  have sb1:Heap.SameBut S s.heap (s1.heap.update S (Obj.putSet (SetTable.insertAt es (t.put j).2 (hp (u,v),Value.ref a)) (t.put j).1)):=by rw[e1];exact Heap.SameBut.update ..
  have hs1:∀hh':Heap,({ s1 with heap:=hh' }:Shared)={ s with heap:=hh',toks:=s1.toks }:=fun hh'=>by rw[←hs']
  by_cases hfull:(t.put j).1.tooFull=true
  ·rw[hfull,Fq (by rfl)];have hfu:((t.put j).1.place.size+(t.put j).1.dummies.size)*5≥(t.put j).1.mask*3:=by
    have q:=hfull;unfold SetTable.tooFull SetTable.fill at q;exact Gf q
   rw[hps,hpd,hpm,hts]at hfu;have hz:(#[]:Array Nat).size=0:=rfl;rw[hz]at hfu;have h5:t.mask=7/\es.size=4:=by omega
   have hw:SetTable.grown (es.size+1)=20:=by rw[h5.2];rfl
   rw[hw];have hf2:(t.put j).1.fits (SetTable.insertAt es (t.put j).2 (hp (u,v),Value.ref a)).size=true:=fits_of hpd (by rw[hps,his,hts]) (by rw[his,hpm];omega);obtain⟨t',order,r1,r2,r3,r4,r5,r6⟩:=pT (t:=(t.put j).1) (hashes:=(SetTable.insertAt es (t.put j).2 (hp (u,v),Value.ref a)).map (·.1)) (wanted:=20) rfl (fun h0 hm0=>by
    rw[Array.toList_map]at hm0;obtain⟨e,he,rfl⟩:=E3.mp hm0;obtain⟨p,hp1,hp2⟩:=hash' e he;rw[hp2];rcases Fu.mp hp1 with q | q
    ·exact mh (hd p q)
    ·rw[Fc.mp q];exact mh hin) (by rw[Array.size_map,his];omega)
   rw[Array.size_map]at r4 r5;have op:=mJ r5;have osz:(order.filterMap ((SetTable.insertAt es (t.put j).2 (hp (u,v),Value.ref a))[·]?)).size=(SetTable.insertAt es (t.put j).2 (hp (u,v),Value.ref a)).size:=by
    rw[←Gw,← Gw];exact op.length_eq
   unfold setRelay;refine ES (ES (wpAny_setState_of hg rfl hf2 ?_));dsimp only;rw[Fo (show ¬SetTable.sizeAbove 20>sizeLine by rw[Gg];decide)];refine ES ?_;rw[r1];show wpAny _ _ (if (Array.size (order.filterMap ((SetTable.insertAt es (t.put j).2 (hp (u,v),Value.ref a))[·]?)) !=(SetTable.insertAt es (t.put j).2 (hp (u,v),Value.ref a)).size)=true then _ else _) _ _ _;rw[Fo (by rw[osz];simp)];refine E4 ?_;dsimp only;refine wpAny_storeSet_of hg rfl ?_ (by rw[osz,his,Gg];omega);refine E4 ?_;have hg3:=Heap.get?_update_self (Obj.putSet (order.filterMap ((SetTable.insertAt es (t.put j).2 (hp (u,v),Value.ref a))[·]?)) t') hg rfl;rw[hs1];refine h _ _ (sb1.trans (Heap.SameBut.update ..)) ⟨_,_,_,hg3,r3,by rw[r4,osz],by rw[osz,his,hes];simp,.inr ⟨r2,by rw[osz,his];omega⟩,fun e he=>hash' e (op.mem_iff.mp he)⟩
  ·rw[Bool.not_eq_true]at hfull;rw[hfull,Fo (by decide)];refine E4 ?_;rw[hs1];refine h _ _ sb1 ⟨_,_,_,hg,hpd,by rw[hps,his,hts],by rw[his,hes];simp,?_,hash'⟩;have hfu:¬((t.put j).1.place.size+(t.put j).1.dummies.size)*5≥(t.put j).1.mask*3:=by
    have q:=hfull;unfold SetTable.tooFull SetTable.fill at q;exact of_decide_eq_false q
   rw[hps,hpd,hpm,hts]at hfu;have hz:(#[]:Array Nat).size=0:=rfl;rw[hz]at hfu;rw[his,hpm];omega
 by_cases hpl:(t.put j).1.plain=true
 ·rw[Fq hpl];refine ES (gj hk1 ?_);exact last
 ·rw[Fo hpl];refine ES (E4 ?_);exact last
def uE(h:Heap)(vs:List Value)(ps:List (Int×Int)):Prop:=∀(i:Nat) (v:Value),vs[i]?=some v->∃a p,v=.ref a/\ps[i]?=some p/\IsTupleKey (intKind prog w) h [p.1,p.2] a
theorem uY(x:IsTupleKey (intKind prog w) h [u,v] a)(ho:h.get? S=some { cls:=.type "set",dict:=none,data:=.set es ep t })
  (sb:∀b o,b≠S->h.get? b=some o->h'.get? b=some o):IsTupleKey (intKind prog w) h' [u,v] a:=by
 obtain⟨o,items,n,e,c,d,i⟩:=x;refine⟨o,items,n,sb a o ?_ e,c,d,i⟩;rintro rfl;rw[ho]at e;cases e;cases d
theorem ql(hu:A.units+1<cLine)(hh:A.in1.handled=none)(hlen:vs.length=ps.length)(hl15:ps.length≤15)(hnd:ps.Nodup)(hin:∀p∈ps,p∈prs)
  (hSI:S≠I) (hSl:S≠l) (hlI:l≠I):∀(k i:Nat) (s:Shared),ps.length - i=k->i≤ps.length->s.heap.IsListIter I l i->s.heap.IsList l vs.toArray->uE (prog:=prog) (w:=w) s.heap vs ps->ja s.heap S (ps.take i) ->
   (∀h' tk,(∀b o,b≠S->b≠I->s.heap.get? b=some o->h'.get? b=some o)->ja h' S ps->R (.ok (.ret .none)) { s with heap:=h',toks:=tk }) ->
   codeAny (model prog w) A (.builtin "set.update.loop" ⟨[.ref S,.ref I],[]⟩) R s:=by
 intro k
 induction k with
 | zero =>
  intro i s hk hi hit hl hT hP hR;have e:i=ps.length:=by omega
  subst e;rw[F9]at hP;refine codeAny_builtin F.entry_set_update_loop ?_;rw[Around.under_plainId F.plain_set_update_loop _];show wpAny _ A.in1 (pyNext (.ref I) >>= _) _ _ s;refine ES (wpAny_pyNext_list_end hh hit hl (by simp[hlen]) fun h' eb=>?_);show wpAny _ A.in1 (ret Value.none) _ _ _;refine E4 (hR h' s.toks (fun b o _ hb e=>eb b o hb e) ?_);obtain⟨es,ep,t,ho,r⟩:=hP.is;exact⟨es,ep,t,eb S _ hSI ho,r⟩
 | succ k ih =>
  intro i s hk hi hit hl hT hP hR;have hlt:i<ps.length:=by omega
  have hvi:vs[i]?=some vs[i]:=EO (by omega);obtain⟨a,p,ev,ep,key⟩:=hT i _ hvi;refine codeAny_builtin F.entry_set_update_loop ?_;rw[Around.under_plainId F.plain_set_update_loop _];show wpAny _ A.in1 (pyNext (.ref I) >>= _) _ _ s;refine ES (wpAny_pyNext_list_item hit hl (x:=.ref a) (by rw[←ev];simp) fun h1 hit1 sb1=>?_);have k1:∀b o,b≠I->s.heap.get? b=some o->h1.get? b=some o:=fun b o hb e=>sb1.extBut b o hb e;obtain⟨es,epo,t,ho,r⟩:=id hP.is;have hP1:ja h1 S (ps.take i):=⟨es,epo,t,k1 S _ hSI ho,r⟩;have key1:IsTupleKey (intKind prog w) h1 [p.1,p.2] a:=by
   obtain⟨o,items,n,e,c,d,ii⟩:=key;refine⟨o,items,n,k1 a o ?_ e,c,d,ii⟩;rintro rfl;obtain⟨oi,hoi,hci,_⟩:=hit;rw[hoi]at e;cases e;rw[hci]at c;exact absurd c (by decide)
  show wpAny _ A.in1 (holding [Value.ref a] (setAdd S (.ref a)) >>= _) _ _ _;have hmem:p∈ps:=EZ ep;have hnot:p∉ps.take i:=fun hm=>by
   obtain⟨j,hj,e⟩:=List.mem_iff_getElem.mp hm;rw[List.getElem_take]at e;rw[FT]at hj;obtain⟨hi',e'⟩:=EV.mp ep;have:=(List.getElem_inj hnd (h₀:=by omega) (h₁:=hi')).mp (e.trans e'.symm);omega
  refine ES (Gb (ma (u:=p.1) (v:=p.2) (A:=A.in1) (by show A.units+1<cLine;exact hu) key1 hP1 (hin p hmem) (fun q hq=>hin q (List.mem_of_mem_take hq)) hnot (by rw[FT];omega) fun h2 tk sb2 hP2=>?_));have k2:∀b o,b≠S->h1.get? b=some o->h2.get? b=some o:=fun b o hb e=>sb2.extBut b o hb e;have et:ps.take i++[p]=ps.take (i+1):=by rw[FX,ep];rfl
  refine E4 ⟨plainId_quiet F.plain_set_update_loop _,ih (i+1) { s with heap:=h2,toks:=tk } (by omega) (by omega) (hit1.extBut (fun b o hb e=>k2 b o hb e) (Ne.symm hSI)) ?_ ?_ (by rw[←et];exact hP2) ?_⟩
  ·exact(hl.extBut (fun b o hb e=>k1 b o hb e) hlI).extBut (fun b o hb e=>k2 b o hb e) (Ne.symm hSl)
  ·intro j v hv;obtain⟨a',p',e1',e2',key'⟩:=hT j v hv;refine⟨a',p',e1',e2',uY ?_ (k1 S _ hSI ho) k2⟩;obtain⟨o,items,n,e,c,d,ii⟩:=key';refine⟨o,items,n,k1 a' o ?_ e,c,d,ii⟩;rintro rfl;obtain⟨oi,hoi,hci,_⟩:=hit;rw[hoi]at e;cases e;rw[hci]at c;exact absurd c (by decide)
  ·intro h3 tk3 kp hP3;exact hR h3 tk3 (fun b o hb hb' e=>kp b o hb hb' (k2 b o hb (k1 b o hb' e))) hP3
set_option maxHeartbeats 4000000 in
theorem iL(hu:A.units+8<cLine)(hh:A.handled=none)(hl:s.heap.IsList l vs.toArray)(hlen:vs.length=ps.length)(hl15:ps.length≤15)
  (hnd:ps.Nodup) (hin:∀p∈ps,p∈prs) (hT:uE (prog:=prog) (w:=w) s.heap vs ps)
  (h:∀h' tk,(∀b o,b<s.heap.objs.size->s.heap.get? b=some o->h'.get? b=some o)->ja h' s.heap.objs.size ps->Q (.ref s.heap.objs.size) { s with heap:=h',toks:=tk }) :
  wpAny (model prog w) A (call (.type "set") [.ref l]) Q E s:=by
 obtain⟨c0,tl0,mro0⟩:=F.called_set.mro;have made0:=F.called_set.made;have sub0:=F.called_set.sub;have nt0:=F.called_set.notType;have cc0:=F.called_set.canCreate;have tc0:=F.typeCall_set_1 (.ref l);refine wpAny_call (codeAny_of_tree ?_);show wpAny _ _ (callAny (.type "set") _) _ _ _;refine E4 ⟨Code.quiet_builtin _ (by decide +kernel),codeAny_builtin F.entry_type_call ?_⟩;rw[Around.under_plain (weight_type_call_type "set" [.ref l] []) rfl]
 repeat (any_goals (first | assumption | wp_step))
 refine GG (code_set_new_1 (.ref l) (E:=E) (Q₁:=fun obj s1=>∃led:Bool,obj=.ref s.heap.objs.size /\
  s1={ s with heap:=s.heap.push { cls:=.type "set",dict:=none,data:=.set #[] 0 (.fresh 0 0 led) } }) fun led=>⟨led,rfl,rfl⟩) fun r s1 hr=>?_
 cases r with
 | error e=>exact hr
 | ok fl =>
  cases fl with
  | ret obj =>
   obtain⟨led,rfl,rfl⟩:=hr;generalize hH:s.heap.push { cls:=.type "set",dict:=none,data:=.set #[] 0 (.fresh 0 0 led) }=H1;have hS:H1.get? s.heap.objs.size=some { cls:=.type "set",dict:=none,data:=.set #[] 0 (.fresh 0 0 led) }:=by rw[←hH];exact E9 _ rfl
   have old:∀b o,s.heap.get? b=some o->H1.get? b=some o:=fun b o e=>by rw[←hH];exact ET _ e
   have hsz:H1.objs.size=s.heap.objs.size+1:=by rw[←hH,F4]
   have tyS:Shared.TypeIs { s with heap:=H1 } (.ref s.heap.objs.size) "set":=⟨_,hS,rfl⟩;have li0:=F.called_set.init.lookup;have bi0:=F.called_set.init.bind (.ref s.heap.objs.size)
   repeat (any_goals (first | assumption | wp_step))
   refine GG (codeAny_call_builtin (R:=wants (fun r s2=>r=.none/\∃h' tk,s2={ s with heap:=h',toks:=tk }/\ja h' s.heap.objs.size ps /\
    (∀b o,b<s.heap.objs.size->s.heap.get? b=some o->h'.get? b=some o)) E) F.called_set.init.plain F.entry_set_init (check_set_init_1 tyS ?_)) fun r2 s2 hr2=>?_
   ·obtain⟨ol,hol,hcl,nl,hdl⟩:=hl;obtain⟨oc,od,oda,osl⟩:=ol;simp only at hcl hdl;subst hcl;subst hdl;have hol1:H1.get? l=some { cls:=.type "list",dict:=od,data:=.seq vs.toArray nl,slots:=osl }:=old _ _ hol;have sls:=F.sub_list_set;have slf:=F.sub_list_frozenset;have nld:(Value.type "list"==Value.type "dict")=false:=by decide
    have hl1:H1.IsList l vs.toArray:=⟨_,hol1,rfl,nl,rfl⟩;have llt:l<s.heap.objs.size:=E5 hol;unfold Builtin.«set.__init__» noKeywords Builtin.Frozenset.updateFrom;generalize hPI:pyIter=PI
    wp_walk
    subst hPI;refine wpAny_pyIter_list hl1 ?_;refine ES (wpAny_runValue ?_);generalize hH2:H1.push { cls:=.type "list_iterator",data:=.fields #[.ref l,.int 0 0] }=H2;have old2:∀b o,H1.get? b=some o->H2.get? b=some o:=fun b o e=>by rw[←hH2];exact ET _ e
    refine ql (l:=l) (ps:=ps) (vs:=vs) (by show A.units+1+1+1<cLine;omega) (by simp[hh]) hlen hl15 hnd hin (by show s.heap.objs.size≠H1.objs.size;rw[hsz];exact Fe (Nat.lt_succ_self _)) (GF llt) (by show l≠H1.objs.size;rw[hsz];exact Fe (Nat.lt_succ_of_lt llt)) ps.length 0 _ (by omega) (FP _) ?_ ?_ ?_ ?_ ?_
    ·rw[←hH2];exact⟨_,E9 _ rfl,rfl,rfl⟩
    ·exact⟨_,old2 _ _ hol1,rfl,nl,rfl⟩
    ·intro i v hv;obtain⟨a,p,e1,e2,o,items,n,e,r⟩:=hT i v hv;exact⟨a,p,e1,e2,o,items,n,old2 _ _ (old _ _ e),r⟩
    ·exact⟨#[],0,.fresh 0 0 led,old2 _ _ hS,rfl,rfl,rfl,.inl ⟨rfl,by decide⟩,fun e he=>by simp at he⟩
    ·intro h' tk kp hP;show wpAny _ _ (pure ()) _ _ _;refine E4 ?_;show wpAny _ _ (ret Value.none) _ _ _;refine E4 ⟨rfl,h',tk,rfl,hP,fun b o hb e=>?_⟩;refine kp b o (Fe hb) ?_ (old2 _ _ (old _ _ e));show b≠H1.objs.size;rw[hsz];exact Fe (Nat.lt_succ_of_lt hb)
   ·cases r2 with
    | error e=>exact hr2
    | ok f2 =>
     cases f2 with
     | ret r =>
      obtain⟨rfl,h',tk,rfl,hP,hk⟩:=hr2
      repeat (any_goals (first | assumption | wp_step))
      exact h _ _ hk hP
     | _=>exact hr2.elim
  | _=>exact hr.elim
end
end SP
namespace L2
variable {X:Cx}
def wW(S:Addr)(n:Nat):Heap->Prop:=fun h=>∃es ep t,h.get? S=some { cls:=.type "set",dict:=none,data:=.set es ep t }/\es.size=n/\t.fits es.size=true
def Prs(K:PySem.W.Frag)(H:Hp)(us:List V)(ps:List (Int×Int)):Prop:=Paired (fun(u:V) (p:Int×Int)=>∃t,u=.ref t/\SqT K H t [.int p.1,.int p.2]) us ps
theorem kv{K:PySem.W.Frag}{H:Hp}:∀{us:List V} {ps:List (Int×Int)} {i:Nat} {u:V},Prs K H us ps->us[i]?=some u->∃p t,ps[i]?=some p/\u=.ref t/\SqT K H t [.int p.1,.int p.2]
 | [],_,i,u,_,e=>by simp at e
 | _::_,_::_,0,u,.cons h _,e=>by
  obtain⟨t,h1,h2⟩:=h;simp at e;subst e;exact⟨_,t,by simp,h1,h2⟩
 | _::_,_::_,i+1,u,.cons _ t,e=>by
  obtain⟨p,a,e1,e2⟩:=kv (i:=i) (u:=u) t (by simpa using e);exact⟨p,a,by simpa using e1,e2⟩
theorem j4{K:PySem.W.Frag}(h:Prs K H us ps):us.length=ps.length:=Paired.length h
theorem qK(hc:X.calm=true)(hu:X.A.units+64<cLine):cU X (.type "set") (fun xs H Q=>∃(a:Addr) (us:List V) (ps:List (Int×Int)),xs=[.ref a]/\SqL X.K H a us/\Prs X.K H us ps/\ps.Nodup/\(∀p∈ps,p∈SP.prs)/\ps.length≤15/\∀S,H S=none->Q (.ref S) (upd H S (.ext (wW S ps.length)))):=by
 intro pins s σ H xs us Q I r h;obtain⟨a,ws,ps,rfl,hq,hP,nd,hin,h15,q⟩:=h;obtain⟨u,rfl,ru⟩:=Vals.one r;cases ru;obtain⟨its,rv,p,hz⟩:=I.list hq;have hlen:its.length=ps.length:=rv.length.symm.trans (j4 hP);refine SP.iL (by omega) (I.ok.hd hc) p.isList hlen h15 nd hin ?_ fun h' tk kp P=>?_
 ·intro i v hv;have hi:i<ws.length:=by rw[rv.length];exact(EV.mp hv).1
  obtain⟨pr,t,e1,e2,hs⟩:=kv (i:=i) hP (EO hi);obtain⟨u,eu,ru⟩:=rv.get (EO hi);rw[hv]at eu;cases eu;rw[e2]at ru;cases ru;obtain⟨is,r2,⟨o,ho,hcl,n,hd⟩,_⟩:=I.tuple hs;obtain⟨x,y,rfl,rx,ry⟩:=vals2 r2;obtain⟨t1,rfl⟩:=rx;obtain⟨t2,rfl⟩:=ry;exact⟨t,pr,rfl,e1,o,_,n,ho,hcl,hd,.cons (by simp[intKind,Value.isInt]) (.cons (by simp[intKind,Value.isInt]) .nil)⟩
 ·have hn:H s.heap.objs.size=none:=I.hok.fresh (E2 _);obtain⟨es,ep,t,ho,hd,hp,hl,hm,_⟩:=P.is;have hf:t.fits es.size=true:=SP.fits_of hd hp (by rcases hm with⟨e,k⟩ |⟨e,k⟩<;>omega);refine⟨.ref s.heap.objs.size,_,I.laid (t':=tk) (o:=.ext (wW s.heap.objs.size ps.length)) (fun b o e=>kp b o (E5 e) e) (E2 _) ?_,rfl,q _ hn⟩;exact⟨⟨es,ep,t,ho,hl,hf⟩,⟨_,ho⟩,fun h1 h2 y_ k=>by obtain⟨es,ep,t,e,l,f⟩:=y_;exact ⟨es,ep,t,k _ e,l,f⟩⟩
theorem qd:cU X (.builtin "len") (fun xs H Q=>∃(S:Addr) (n:Nat),xs=[.ref S]/\H S=some (.ext (wW S n))/\n<1000/\Q (.int n) H):=by
 intro pins s σ H xs us Q I r h;obtain⟨S,n,rfl,hS,hn,q⟩:=h;obtain⟨u,rfl,ru⟩:=Vals.one r;cases ru;obtain⟨⟨es,ep,t,ho,hl,hf⟩,_,_⟩:=(show cB X.prog X.w H s.heap S (.ext (wW S n))from I.hok S _ hS);subst hl;exact call_len_set ho ⟨rfl,rfl,rfl⟩ rfl hf (by omega) ⟨.int es.size,H,I.tok _,⟨_,rfl⟩,q⟩
end L2
namespace U
open L2
section
variable {B:Bs}{X:Cx}{e:Expr}{ta:TE'}{p p2 pos pos2:Pos}
def prV(p:Int×Int):PV:=.tup [.int p.1,.int p.2]
theorem nj{K:PySem.W.Frag}{H:Hp}:∀{ps:List (Int×Int)} {us:List V},RPs K H (ps.map prV) us->Prs K H us ps
 | [],us,h=>by
  have:us=[]:=by simpa[RPs]using h
  subst this;exact .nil
 | q::ps,us,h=>by
  simp only[Fp,RPs,RP,prV]at h;obtain⟨u,r,rfl,⟨t,ws,rfl,hs,w1,r1,rfl,rfl,w2,r2,rfl,rfl,rfl⟩,h2⟩:=h;exact .cons ⟨t,rfl,hs⟩ (nj h2)
def ue(x:PV)(H:PHp)(Q:VK'):Prop:=match x with
 | .ref a=>∃ps:List (Int×Int),H a=some (.lst (ps.map prV))/\ps.Nodup/\(∀p∈ps,p∈SP.prs)/\ps.length≤15/\Q (.int ps.length) H
 | _=>False
def ou(ta:TE'):TE':=fun σ H Q=>ta σ H fun x H1=>ue x H1 Q
theorem nu(hc:X.calm=true)(hu:X.A.units+64<cLine)(hgl:Gl X "len")(hml:X.mg "len"=none)(hgs:Gl X "set")(hms:X.mg "set"=none)(bs:bootBuiltins "set"=some (.type "set"))(ha:PE' X B e ta)
  (he:starEach [.Call (.Name "set" p2) [e] [] pos2] X.env=[(false,eval (.Call (.Name "set" p2) [e] [] pos2) X.env)]:=by rfl) (he2:starEach [e] X.env=[(false,eval e X.env)]:=by rfl) :
  PE' X B (.Call (.Name "len" p) [.Call (.Name "set" p2) [e] [] pos2] [] pos) (ou ta) :=
 bu (fD qd hgl hml Fl (dk (jq (qK hc hu) hgs hms bs (dk ha gf he2) (by decide) (by decide) he2 rfl) gf he) (by decide) (by decide) he rfl) fun σ H Q h=>by
  obtain⟨σ',H',Q',s,h,k⟩:=h;refine⟨σ',H',_,s,h,fun x' H1' x H1 h1 rx s1 e1=>?_⟩;cases x' with
  | ref a =>
   obtain⟨ps,ea,nd,hin,h15,q⟩:=h1;simp only[RP]at rx;subst rx;obtain⟨us,eg,r2⟩:=s1.hp _ _ ea;refine⟨a,us,ps,rfl,.inl (.inl eg),nj r2,nd,hin,h15,fun S hS=>?_⟩;exact⟨S,ps.length,rfl,bC,by omega,k _ _ _ _ q (by simp[RP]) (s1.hid hS) (e1.trans (Ev.hid hS))⟩
  | _=>exact h1.elim
end
section
variable {B:Bs}{X:Cx}{a b:Expr}{ta tb:TE'}{pos:Pos}
end
end U
namespace ST
open PySem.W
def key(K:Nat->Int)(p:Array Nat)(i:Nat):Int:=K ((p[i]?).getD 0)
structure Ok (n:Nat) (p:Array Nat):Prop where
 perm:p.toList.Perm (List.range n)
def S(K:Nat->Int)(p:Array Nat)(m:Nat):Prop:=∀i j,i<j->j<m->key K p i<key K p j
theorem Ok.size(h:Ok n p):p.size=n:=by
 have:=h.perm.length_eq;simpa using this
theorem Ok.lt(h:Ok n p)(h0:0<n)(i:Nat):p.getD i 0<n:=by
 rw[Array.getD_eq_getD_getElem?];cases e:p[i]? with
 | none=>exact h0
 | some x =>
  have:x∈p.toList:=by
   obtain⟨hi,rfl⟩:=Array.getElem?_eq_some_iff.mp e;simp
  exact Ft.mp (h.perm.mem_iff.mp this)
theorem Ok.of(h:Ok n p)(r:q.Perm p):Ok n q:=⟨(Array.perm_iff_toList_perm.mp r).trans h.perm⟩
section
variable {cmp:Nat->Nat->(Bool->Shared->Prop)->Shared->Prop}{s:Shared}{n:Nat}{K:Nat->Int}{p:Array Nat}
theorem Ok.ne(hK:∀i j,i<n->j<n->K i=K j->i=j)(h:Ok n p){i j:Nat}(hi:i<n)(hj:j<n)(hne:i≠j):key K p i≠key K p j:=by
 intro e;have hs:=h.size;have h0:0<n:=by omega
 unfold key at e;rw[Fs (by omega),Fs (by omega)]at e;simp only[Option.getD_some]at e;have nd:p.toList.Nodup:=(h.perm.nodup_iff).mpr List.nodup_range;have l1:p[i]<n:=by have:=h.lt h0 i;rwa [Array.getD_eq_getD_getElem?,Fs (by omega)]at this
 have l2:p[j]<n:=by have:=h.lt h0 j;rwa [Array.getD_eq_getD_getElem?,Fs (by omega)]at this
 have q:=hK _ _ l1 l2 e;have:i=j:=by
  exact(List.getElem_inj nd (h₀:=by simpa[hs]using hi) (h₁:=by simpa[hs]using hj)).mp (by simpa using q)
 exact hne this
theorem lH(K:Nat->Int)(p:Array Nat)(i:Nat):K (p.getD i 0)=key K p i:=by
 unfold key;rw[Array.getD_eq_getD_getElem?]
variable (hc:∀i j C,i<n->j<n->C (decide (K i<K j)) s->cmp i j C s)(hK:∀i j,i<n->j<n->K i=K j->i=j)
include hc
theorem iK(h0:0<n)(ok:Ok n p){i j:Nat}(h:G (decide (key K p i<key K p j)) s):cmp (p.getD i 0) (p.getD j 0) G s:=by
 refine hc _ _ _ (ok.lt h0 i) (ok.lt h0 j) ?_;rw[lH K p i,lH K p j];exact h
include hK
theorem gk(ok:Ok n p)(hi:i<n)(hj:j<n)(hne:i≠j)(h:¬key K p i<key K p j):key K p j<key K p i:=by
 have:=ok.ne hK hi hj hne;omega
theorem asc(ok:Ok n p):∀(f m:Nat) {G:Nat->Shared->Prop},1≤m->m+f≤n->S K p m ->
  (∀m',m≤m'->m'≤m+f->S K p m'->(m'<m+f->key K p m'<key K p (m' - 1))->G m' s)->(kas_asc p f m).kasWp cmp G s
 | 0,m,G,_,_,hS,h=>h m (E2 _) (E2 _) hS fun q=>absurd q (Gy _)
 | f+1,m,G,h1,hm,hS,h=>by
  refine iK hc (by omega) ok (G:=fun c s'=>(if c=true then KasT.ret m else kas_asc p f (m+1)).kasWp cmp G s') ?_;by_cases q:key K p m<key K p (m - 1)
  ·rw[Ge q];show G m s;exact h m (E2 _) (by omega) hS fun _=>q
  ·rw[FZ q];show(kas_asc p f (m+1)).kasWp cmp G s;have q':=gk hc hK ok (by omega) (by omega) (by omega) q;refine asc ok f (m+1) (by omega) (by omega) ?_ fun m' a b c d=>h m' (by omega) (by omega) c fun e=>d (by omega);intro i j hij hj;by_cases hjm:j<m
   ·exact hS i j hij hjm
   ·have:j=m:=by omega
    subst this;by_cases him:i=j - 1
    ·subst him;exact q'
    ·have:=hS i (j - 1) (by omega) (by omega);omega
theorem desc(ok:Ok n p):∀(f m:Nat) {G:Array Nat×Nat×Nat->Shared->Prop},1≤m->m+f≤n->(∀i j,i<j->j<m->key K p j<key K p i) ->
  (∀m',m≤m'->m'≤m+f->(∀i j,i<j->j<m'->key K p j<key K p i)->G (p,m',0) s)->(kas_desc f p m 0).kasWp cmp G s
 | 0,m,G,_,_,hS,h=>h m (E2 _) (E2 _) hS
 | f+1,m,G,h1,hm,hS,h=>by
  refine iK hc (by omega) ok (G:=fun c s'=>(if c=true then(if 0>0 then kas_desc f (kas_rev p (m - (0+1)) m) (m+1) 0 else kas_desc f p (m+1) 0)
   else KasT.ask (p.getD (m - 1) 0) (p.getD m 0) fun d=>if d=true then KasT.ret (p,m,0)else kas_desc f p (m+1) (0+1)).kasWp cmp G s') ?_
  by_cases q:key K p m<key K p (m - 1)
  ·rw[Ge q,Fq rfl,Fo (by omega)];refine desc ok f (m+1) (by omega) (by omega) ?_ fun m' a b c=>h m' (by omega) (by omega) c;intro i j hij hj;by_cases hjm:j<m
   ·exact hS i j hij hjm
   ·have:j=m:=by omega
    subst this;by_cases him:i=j - 1
    ·subst him;exact q
    ·have:=hS i (j - 1) (by omega) (by omega);omega
  ·rw[FZ q];have q':=gk hc hK ok (by omega) (by omega) (by omega) q;refine iK hc (by omega) ok (G:=fun d s'=>(if d=true then KasT.ret (p,m,0)else kas_desc f p (m+1) (0+1)).kasWp cmp G s') ?_;rw[Ge q',Fq rfl];exact h m (E2 _) (by omega) hS
theorem o8(ok:Ok n p)(hm:m≤n)(i:Nat):key K (kas_rev p 0 m) i=if i<m then key K p (m - 1 - i)else key K p i:=by
 unfold key kas_rev;rw[getElem?_mirror_all (by rw[ok.size];exact hm)];by_cases h:i<m
 ·rw[Fq ⟨FP _,h⟩,Fq h];congr 3;omega
 ·rw[Fo (by omega),Fo h]
theorem count(ok:Ok n p)(h1:1≤n)(h:∀m p',Ok n p'->1≤m->m≤n->S K p' m->G (m,p') s):(kas_count n p).kasWp cmp G s:=by
 unfold kas_count;rw[KasT.kasWp_bind];refine asc hc hK ok (n - 1) 1 (E2 _) (by omega) (fun i j a b=>by omega) fun m' a b hS st=>?_;by_cases e:m'=n
 ·subst e;rw[Fq (by simp)];exact h _ _ ok (by omega) (E2 _) hS
 ·rw[Fo (by simpa using e)];by_cases e1:m'>1
  ·rw[Fq e1];refine iK hc (by omega) ok (G:=fun c s'=>(if c=true then KasT.ret (m',p)else kas_descPart m' n (kas_rev p 0 m')).kasWp cmp G s') ?_;rw[Ge (hS 0 (m' - 1) (by omega) (by omega)),Fq rfl];exact h _ _ ok (by omega) (by omega) hS
  ·rw[Fo e1];have:m'=1:=by omega
   subst this;unfold kas_descPart;rw[KasT.kasWp_bind];have st1:=st (by omega);refine desc hc hK ok (n - (1+1)) (1+1) (by omega) (by omega) (fun i j hij hj=>?_) fun m' a b hD=>?_
   ·have h1:j=1:=by omega
    have h2:i=0:=by omega
    subst h1;subst h2;exact st1
   ·rw[Fo (by simp)];unfold kas_tail3;rw[KasT.kasWp_bind];have ok2:Ok n (kas_rev p 0 m'):=ok.of (mirror_perm _ _ _ _);refine asc hc hK ok2 (n - m') m' (by omega) (by omega) (fun i j hij hj=>?_) fun m2 a2 b2 hS2 _=>?_
    ·rw[o8 hc hK ok (by omega),o8 hc hK ok (by omega),Fq (by omega),Fq hj];exact hD _ _ (by omega) (by omega)
    ·exact h m2 _ ok2 (by omega) (by omega) hS2
theorem place(ok:Ok n p){k:Nat}(hk:k<n)(hS:S K p k):∀(f l r:Nat) {G:Nat->Shared->Prop},l≤r->r≤k->r - l≤f->(∀i,i<l->key K p i<key K p k)->(∀i,r≤i->i<k->key K p k<key K p i) ->
  (∀l',l'≤k->(∀i,i<l'->key K p i<key K p k)->(∀i,l'≤i->i<k->key K p k<key K p i)->G l' s)->(kas_place p k f l r).kasWp cmp G s
 | 0,l,r,G,h1,h2,h3,ha,hb,h=>h l (by omega) ha fun i x y=>hb i (by omega) y
 | f+1,l,r,G,h1,h2,h3,ha,hb,h=>by
  unfold kas_place;by_cases e:l≥r
  ·rw[Fq e];exact h l (by omega) ha fun i x y=>hb i (by omega) y
  ·rw[Fo e];refine iK hc (by omega) ok (G:=fun c s'=>(if c=true then kas_place p k f l ((l+r) / 2)else kas_place p k f ((l+r) / 2+1) r).kasWp cmp G s') ?_;have hmid:(l+r) / 2<k:=by omega
   generalize hm:(l+r) / 2=mid at *;by_cases q:key K p k<key K p mid
   ·rw[Ge q,Fq rfl];refine place ok hk hS f l mid (by omega) (by omega) (by omega) ha (fun i x y=>?_) h;by_cases z:i=mid
    ·subst z;exact q
    ·have:=hS mid i (by omega) y;omega
   ·rw[FZ q,Fo (by simp)];have q':=gk hc hK ok hk (by omega) (by omega) q;refine place ok hk hS f (mid+1) r (by omega) h2 (by omega) (fun i x=>?_) hb h;by_cases z:i=mid
    ·subst z;exact q'
    ·have:=hS i mid (by omega) hmid;omega
theorem oG(ok:Ok n p)(hk:k<n)(hl:l≤k)(i:Nat):key K (bubble p k (k - l)) i=if i=l then key K p k else if l<i/\i≤k then key K p (i - 1)else key K p i:=by
 unfold key;rw[getElem?_bubble (by rw[ok.size];exact hk) _ (Nat.sub_le _ _)];rw[show k - (k - l)=l by omega];split
 ·rfl
 ·split<;>rfl
theorem bin:∀(f k:Nat) (p:Array Nat) {G:Array Nat->Shared->Prop},Ok n p->1≤k->k+f=n->S K p k->(∀p',Ok n p'->S K p' n->G p' s)->(kas_bin f p k).kasWp cmp G s
 | 0, k, p, G, ok, h1, h2, hS, h => h p ok (by have : k = n := by omega
                                               subst this; exact hS)
 | f+1,k,p,G,ok,h1,h2,hS,h=>by
  unfold kas_bin;rw[KasT.kasWp_bind];refine place hc hK ok (by omega) hS k 0 k (by omega) (E2 _) (by omega) (fun i x=>by omega) (fun i x y=>by omega) fun l hl ha hb=>?_;refine bin f (k+1) _ (ok.of (bubble_perm _ _ _)) (by omega) (by omega) (fun i j hij hj=>?_) h;rw[oG hc hK ok (by omega) hl,oG hc hK ok (by omega) hl];by_cases c1:i=l
  ·rw[Fq c1];rw[Fo (by omega),Fq (by omega)];exact hb _ (by omega) (by omega)
  ·rw[Fo c1];by_cases c2:j=l
   ·rw[Fq c2,Fo (by omega)];exact ha _ (by omega)
   ·rw[Fo c2];by_cases c3:l<i/\i≤k
    ·rw[Fq c3,Fq (by omega)];exact hS _ _ (by omega) (by omega)
    ·rw[Fo c3];by_cases c4:l<j/\j≤k
     ·rw[Fq c4];by_cases c5:i=j - 1
      ·omega
      ·exact hS _ _ (by omega) (by omega)
     ·rw[Fo c4];exact hS _ _ hij (by omega)
theorem sorts(h1:1≤n)(h:∀p,Ok n p->S K p n->G p s):(kas_sort n).kasWp cmp G s:=by
 unfold kas_sort;rw[KasT.kasWp_bind];refine count hc hK (p:=(List.range n).toArray) ⟨by simp⟩ h1 fun m p' ok a b hS=>?_;show(if m<n then kas_bin (n - max m 1) p' (max m 1)else KasT.ret p').kasWp cmp G s;by_cases e:m<n
 ·rw[Fq e,show max m 1=m by omega];exact bin hc hK (n - m) m p' ok a (by omega) hS h
 ·rw[Fo e];have:m=n:=by omega
  subst this;exact h p' ok hS
end
end ST
namespace ST
open PySem.W
def pk(p:Int×Int):Int:=6*p.1+p.2
def Tp(h:Heap)(v:Value)(p:Int×Int):Prop:=∃t o k u1 u2,v=.ref t/\h.get? t=some o/\o.cls=.type "tuple"/\o.data=.seq #[.int p.1 u1,.int p.2 u2] k
def Tps(h:Heap)(vs:List Value)(ps:List (Int×Int)):Prop:=vs.length=ps.length/\∀i v,vs[i]?=some v->Tp h v (ps.getD i (0,0))
theorem Tp.kp(x:Tp h v p)(k:∀b o,o.cls=.type "tuple"->h.get? b=some o->h'.get? b=some o):Tp h' v p:=by
 obtain⟨t,o,n,u1,u2,e,ho,hc,hd⟩:=x;exact⟨t,o,n,u1,u2,e,k _ _ hc ho,hc,hd⟩
section
variable {prog:Program}{w:World}{A:Around}{E:Value->Shared->Prop}{s:Shared}
theorem wU(hx:Tp s.heap x p)(hy:Tp s.heap y q)(bp:0≤p.2/\p.2<6)(bq:0≤q.2/\q.2<6)(h:C (decide (pk p<pk q)) s) :
  wpAny (model prog w) A (keyLt' (tuples' true) x y) C E s:=by
 obtain⟨t,o,n,u1,u2,rfl,ho,hc,hd⟩:=hx;obtain⟨t',o',n',w1,w2,rfl,ho',hc',hd'⟩:=hy;refine kat_lt ho hd ho' hd' ?_;show KatLex prog w A true (decide (2<2)) C [(.int p.1 u1,.int q.1 w1),(.int p.2 u2,.int q.2 w2)] 0 s;refine kat_cons (wpAny_eqBool_int ?_);refine kat_go (fun e1=>kat_yes (kat_cons (wpAny_eqBool_int ?_))) (fun e1=>kat_no ?_)
 ·have e1:p.1=q.1:=by simpa using e1
  refine kat_go (fun e2=>kat_yes (kat_nil ?_)) (fun e2=>kat_no ?_)
  ·have e2:p.2=q.2:=by simpa using e2
   have:decide (pk p<pk q)=decide (2<2):=by unfold pk;rw[e1,e2];simp
   rw[←this];exact h
  ·refine kat_one _ _ (PyProof.Rows.lt_int ?_);have:decide (pk p<pk q)=decide (p.2<q.2):=by
    rw[decide_eq_decide];unfold pk;omega
   show C (decide (p.2<q.2)) s;rw[←this];exact h
 ·have e1:¬p.1=q.1:=by simpa using e1
  refine oneLt_int ?_;have:decide (pk p<pk q)=decide (p.1<q.1):=by
   rw[decide_eq_decide];unfold pk;omega
  rw[←this];exact h
theorem ot{h:Heap}:∀{vs:List Value} {ps:List (Int×Int)},Tps h vs ps->∃fs,KatTups h vs fs/\fs.length=vs.length/\∀v∈fs,∃i t,v=.int i t
 | [],ps,_=>⟨[],KatTups.nil,rfl,by simp⟩
 | v::vs,[],x=>by have:=x.1;simp at this
 | v::vs,p::ps,x=>by
  obtain⟨fs,t,l,q⟩:=ot (h:=h) (vs:=vs) (ps:=ps) ⟨by have:=x.1;simpa using this,fun i v e=>by simpa using x.2 (i+1) v (by simpa using e)⟩;obtain⟨t0,o,n,u1,u2,rfl,ho,hc,hd⟩:=x.2 0 v (by simp);refine⟨.int _ u1::fs,KatTups.cons ho hc hd rfl t,by simp[l],?_⟩;intro z hz;rcases Fd.mp hz with rfl | hz
  ·exact⟨_,_,rfl⟩
  ·exact q z hz
theorem gQ(ho:s.heap.get? a=some (seqObj "list" vs.toArray n))(hT:Tps s.heap vs ps)(nd:ps.Nodup)
  (hb:∀p∈ps,0≤p.2/\p.2<6) (h64:vs.length<64)
  (h:∀q:List Nat,q.Perm (List.range vs.length)->(q.map fun i=>ps.getD i (0,0)).Pairwise (fun x y=>pk x<pk y)->P (.done (.ret .none)) { s with heap:=sortedHeap s.heap a vs (q.map fun i=>vs.getD i Value.none).toArray }) :
  wpAny (model prog w) A (Builtin.«list.sort» ⟨[.ref a],[]⟩) P E s:=by
 rw[list_sort_plain];have hls:vs.length≤sizeLine:=by rw[Gg];omega
 refine ES (listItems_at ho rfl (ES ?_));refine(listUpdate_at ho rfl ?_ (by rw[E6];omega) (FP _));obtain⟨ea0,oa0⟩:∃ea0,(s.heap.update a (Obj.mapSeq fun _=>#[])).get? a=some (seqObj "list" #[] ea0):=⟨_,get?_update_seq ho (fun _=>#[])⟩;refine ES (seqEpoch_at oa0 rfl ?_);refine ES (wpAny_newTuple ?_ (by show vs.length≤_;omega));refine ES (wpAny_newList ?_ (FP _));refine Gb ?_;have kq0:∀b o,b≠a->s.heap.get? b=some o->(((s.heap.update a (Obj.mapSeq fun _=>#[])).push (seqObj "tuple" vs.toArray 0)).push (seqObj "list" #[] 0)).get? b=some o:=fun b o hne q =>
  ET _ (ET _ (by rw[Heap.get?_update_ne _ _ _ _ hne];exact q))
 have og0:(((s.heap.update a (Obj.mapSeq fun _=>#[])).push (seqObj "tuple" vs.toArray 0)).push (seqObj "list" #[] 0)).get? a=some (seqObj "list" #[] ea0) :=
  ET _ (ET _ oa0)
 have hT6:Tps (((s.heap.update a (Obj.mapSeq fun _=>#[])).push (seqObj "tuple" vs.toArray 0)).push (seqObj "list" #[] 0)) vs ps:=⟨hT.1,fun i v e=>(hT.2 i v e).kp fun b o hcl q=>kq0 b o (fun z=>by
  subst z;rw[ho]at q;cases q;exact absurd hcl (by simp[seqObj])) q⟩
 show wpAny (model prog w) _ _ P _ { s with heap:=((s.heap.update a (Obj.mapSeq fun _=>#[])).push (seqObj "tuple" vs.toArray 0)).push (seqObj "list" #[] 0) };dsimp only;have zq0:vs.toArray.size=vs.length:=by simp
 by_cases hq2:vs.toArray.size<2
 ·rw[Fq hq2,Fq hq2];refine ES (E4 ?_);rw[StateT.run_pure];refine ES (E4 ?_);dsimp only;refine ES (seqEpoch_at og0 rfl ?_);refine ES (listUpdate_at og0 rfl ?_ (FP _) (by rw[Array.size_map];show(pairsOf vs).size≤_;rw[pairsOf_size];omega));simp only[bne_self_eq_false,Bool.false_eq_true,if_false];have hq:=h (List.range vs.length) (Gn _) ?_
  ·have e:(arrOf (SortSt.mk' general' (vs.toArray.zip vs.toArray) #[] 7 none)).map (·.2)=((List.range vs.length).map fun i=>vs.getD i Value.none).toArray:=by
    show(vs.toArray.zip vs.toArray).map (·.2)=_
    match vs,hq2 with
    | [],_=>apply Array.toList_inj.mp;simp
    | [v],_=>apply Array.toList_inj.mp;simp[List.range_succ]
    | _::_::_,hq2=>exact absurd hq2 (by simp)
   refine E4 ?_;rw[e];exact hq
  ·match vs,hq2 with
   | [],_=>exact List.Pairwise.nil
   | [v],_=>exact List.pairwise_singleton _ _
   | _::_::_,hq2=>exact absurd hq2 (by simp)
 ·rw[Fo hq2,Fo hq2];obtain⟨fs,hfs,hfl,hfi⟩:=ot hT6;rw[zq0]at hq2;refine ES (kat_kind hfs (by omega) (T:=.type "int") (fun v hv=>?_) rfl ?_)
  ·obtain⟨i,t,rfl⟩:=hfi v hv;exact Looks.of_pure rfl
  ·show wpAny (model prog w) A _ P E _;have hinj:∀i j,i<vs.length->j<vs.length->pk (ps.getD i (0,0))=pk (ps.getD j (0,0))->i=j:=by
    intro i j hi hj e;have hi':i<ps.length:=by rw[←hT.1];exact hi
    have hj':j<ps.length:=by rw[←hT.1];exact hj
    have g1:ps.getD i (0,0)=ps[i]:=by rw[ER,EO hi'];rfl
    have g2:ps.getD j (0,0)=ps[j]:=by rw[ER,EO hj'];rfl
    rw[g1,g2]at e;have b1:=hb _ (FK hi');have b2:=hb _ (FK hj');unfold pk at e;have e2:ps[i]=ps[j]:=Prod.ext (by omega) (by omega);exact(List.getElem_inj nd).mp e2
   refine ES (Gu (kat_run (ks:=vs) (vs:=vs) (κ:=tuples' true)
    (Q:=fun st' s'=>s'={ s with heap:=((s.heap.update a (Obj.mapSeq fun _=>#[])).push (seqObj "tuple" vs.toArray 0)).push (seqObj "list" #[] 0) }/\∃p:Array Nat,Ok vs.length p/\S (fun i=>pk (ps.getD i (0,0))) p vs.length/\arrOf st'=p.map (kas_item (vs.toArray.zip vs.toArray))/\failedOf st'=none)
    (G:=fun p s'=>s'={ s with heap:=((s.heap.update a (Obj.mapSeq fun _=>#[])).push (seqObj "tuple" vs.toArray 0)).push (seqObj "list" #[] 0) }/\Ok vs.length p/\S (fun i=>pk (ps.getD i (0,0))) p vs.length)
    rfl (by omega) h64 (fun p st' s' a1 a2 a3 a4=>⟨a4.1,p,a4.2.1,a4.2.2,a2,a3⟩) ?run) ?post fun _ _ e=>e)
   case run =>
    refine sorts (n:=vs.length) (K:=fun i=>pk (ps.getD i (0,0))) (fun i j C hi hj hC=>?_) hinj (by omega) fun p ok sS=>⟨rfl,ok,sS⟩;unfold kas_ask;have hi':i<ps.length:=by rw[←hT.1];exact hi
    have hj':j<ps.length:=by rw[←hT.1];exact hj
    refine wU (hT6.2 i _ ?_) (hT6.2 j _ ?_) (hb _ ?_) (hb _ ?_) hC
    ·rw[ER,EO hi];rfl
    ·rw[ER,EO hj];rfl
    ·rw[ER,EO hi'];exact FK hi'
    ·rw[ER,EO hj'];exact FK hj'
   case post =>
    rintro⟨⟨⟩,st'⟩ s' ⟨rfl,p,ok,sS,har,hf⟩;dsimp only;have hout:=kat_snds (ks:=vs) (vs:=vs) rfl har;have hpz:(List.toArray (p.toList.map fun i=>vs.getD i Value.none)).size=vs.length:=by rw[E6,EM,Gw,ok.size]
    rw[hout];refine ES (seqEpoch_at og0 rfl ?_);refine ES (listUpdate_at og0 rfl ?_ (FP _) (by omega));rw[hf];simp only[bne_self_eq_false,Bool.false_eq_true,if_false];refine E4 (h p.toList ok.perm ?_);rw[List.pairwise_map,List.pairwise_iff_getElem];intro i j hi hj hij;have:=sS i j hij (by rw[←ok.size];simpa using hj);unfold key at this;have hi2:i<p.size:=by simpa using hi
    have hj2:j<p.size:=by simpa using hj
    rw[Fs hi2,Fs hj2]at this;simpa using this
theorem jY(hl:s.heap.IsList l vs.toArray)(hT:Tps s.heap vs ps)(nd:ps.Nodup)(hb:∀p∈ps,0≤p.2/\p.2<6)(h64:vs.length<64)
  (h:∀q:List Nat,q.Perm (List.range vs.length)->(q.map fun i=>ps.getD i (0,0)).Pairwise (fun x y=>pk x<pk y)->Q (.ref (s.heap.objs.size+1)) { s with heap:=sortedAll s.heap vs (q.map fun i=>vs.getD i Value.none).toArray }) :
  wpAny (model prog w) A (call (.builtin "sorted") [.ref l]) Q E s:=by
 refine Calls.call_function_entry kind_sorted plain_sorted entry_sorted (args_sorted1 _) ?_;unfold Builtin.«sorted»;refine ES (m:=checkCount "sorted" 1 1 _) (E4 (ES (collect_list hl (ES (wpAny_newList ?_ (by rw[Gg];omega))) (by rw[Gg];omega))));have zq0:((s.heap.push (seqObj "list" #[] 0)).update s.heap.objs.size (Obj.mapSeq (·++vs.toArray))).objs.size=s.heap.objs.size+1:=by
  rw[Heap.size_update,size_push']
 have oq0:(((s.heap.push (seqObj "list" #[] 0)).update s.heap.objs.size (Obj.mapSeq (·++vs.toArray))).push (seqObj "list" vs.toArray 0)).get? (s.heap.objs.size+1)=some (seqObj "list" vs.toArray 0):=by
  rw[←zq0];exact E9 _ rfl
 have kq0:∀b o,s.heap.get? b=some o->(((s.heap.push (seqObj "list" #[] 0)).update s.heap.objs.size (Obj.mapSeq (·++vs.toArray))).push (seqObj "list" vs.toArray 0)).get? b=some o:=fun b o q=>by
  have lq0:b<s.heap.objs.size:=E5 q;rw[Heap.get?_push_ne _ _ _ (by rw[zq0];exact Fe (Nat.lt_succ_of_lt lq0)),Heap.get?_update_ne _ _ _ _ (Fe lq0),Heap.get?_push_ne _ _ _ (Fe lq0)];exact q
 show wpAny (model prog w) _ _ _ _ { s with heap:=((s.heap.push (seqObj "list" #[] 0)).update s.heap.objs.size (Obj.mapSeq (·++vs.toArray))).push (seqObj "list" vs.toArray 0) };rw[zq0];refine ES (Gb (wpAny_call_entry slot_list_sort ⟨_,oq0,rfl⟩ entry_list_sort (gQ (ps:=ps) oq0 ⟨hT.1,fun i v e=>(hT.2 i v e).kp fun b o _ q=>kq0 b o q⟩ nd hb h64 fun q a1 a2=>⟨_,rfl,?_⟩) (args_list_sort _)));exact E4 ⟨_,rfl,h q a1 a2⟩
end
end ST
namespace L2
variable {X:Cx}
def uK(K:PySem.W.Frag):List V->Hp->VK->Prop:=fun xs H Q=>∃(a:Addr) (us:List V) (ps:List (Int×Int)),xs=[.ref a]/\SqL K H a us/\Prs K H us ps/\ps.Nodup/\(∀p∈ps,0≤p.2/\p.2<6)/\ps.length<64 /\
 ∀(r:Addr) (q:List Nat),H r=none->q.Perm (List.range ps.length)->(q.map fun i=>ps.getD i (0,0)).Pairwise (fun x y=>ST.pk x<ST.pk y)->Q (.ref r) (upd H r (.lst (q.map fun i=>us.getD i .non)))
theorem jn{us:List V}{vs:List Value}(r:Vals us vs):∀(q:List Nat),(∀i∈q,i<us.length)->Vals (q.map fun i=>us.getD i .non) (q.map fun i=>vs.getD i Value.none)
 | [],_=>.nil
 | i::q,h=>by
  have hi:=h i E1;obtain⟨u,eu,ru⟩:=r.get (EO hi);refine .cons ?_ (jn r q fun j hj=>h j (EY _ hj));dsimp only;rw[ER,EO hi,ER,eu];exact ru
theorem dO:cU X (.builtin "sorted") (uK X.K):=by
 intro pins s σ H xs us Q I r h;obtain⟨a,ws,ps,rfl,hq,hP,nd,hb,h64,q⟩:=h;obtain⟨u,rfl,ru⟩:=Vals.one r;cases ru;obtain⟨its,rv,p,hz⟩:=I.list hq;have hlen:its.length=ps.length:=rv.length.symm.trans (j4 hP);refine ST.jY (ps:=ps) p.isList ⟨hlen,fun i v hv=>?_⟩ nd hb (by omega) fun qs h1 h2=>?_
 ·have hi:i<ws.length:=by rw[rv.length];exact(EV.mp hv).1
  obtain⟨pr,t,e1,e2,hs⟩:=kv (i:=i) hP (EO hi);obtain⟨u,eu,ru⟩:=rv.get (EO hi);rw[hv]at eu;cases eu;rw[e2]at ru;cases ru;obtain⟨is,r2,⟨o,ho,hcl,n,hd⟩,_⟩:=I.tuple hs;obtain⟨x,y,rfl,rx,ry⟩:=vals2 r2;obtain⟨t1,rfl⟩:=rx;obtain⟨t2,rfl⟩:=ry;refine⟨t,o,n,t1,t2,rfl,ho,hcl,?_⟩;rw[ER,e1];exact hd
 ·have hn:H (s.heap.objs.size+1)=none:=I.hok.fresh (Nat.le_succ _);obtain⟨e,he⟩:=sortedAll_at s.heap its (qs.map fun i=>its.getD i Value.none).toArray;rw[hlen]at h1;have hin:∀i∈qs,i<ws.length:=fun i hi=>by
   have:=Ft.mp (h1.mem_iff.mp hi);rw[j4 hP];exact this
  have hv:=jn rv qs hin;have hz2:(qs.map fun i=>ws.getD i V.non).length≤sizeLine:=by rw[EM,h1.length_eq,Fv,Gg];omega
  refine⟨.ref (s.heap.objs.size+1),_,I.laid (t':=s.toks) (o:=.lst (qs.map fun i=>ws.getD i V.non)) (fun b o e=>sortedAll_old e) (Nat.le_succ _) ?_,rfl,q _ qs hn h1 h2⟩;exact⟨hz2,_,e,hv,he⟩
end L2
namespace U
open L2
section
variable {B:Bs}{X:Cx}{a b:Expr}{ta tb:TE'}{pos:Pos}
def sk:List PV->PHp->VK'->Prop:=du fun x H Q=>match x with
 | .ref a=>∃ps:List (Int×Int),H a=some (.lst (ps.map prV))/\ps.Nodup/\(∀p∈ps,0≤p.2/\p.2<6)/\ps.length<64/\∀(r:Addr) (qs:List (Int×Int)),H r=none->qs.Perm ps->qs.Pairwise (fun x y=>ST.pk x<ST.pk y)->Q (.ref r) (put H r (.lst (qs.map prV)))
 | _=>False
theorem kS{K:PySem.W.Frag}{H:Hp}{ps:List (Int×Int)}{us:List V}(r:RPs K H (ps.map prV) us):∀(q:List Nat),(∀i∈q,i<ps.length)->RPs K H ((q.map fun i=>ps.getD i (0,0)).map prV) (q.map fun i=>us.getD i V.non)
 | [],_=>RPs.nil _
 | i::q,h=>by
  have hi:=h i E1;obtain⟨u,eu,ru⟩:=RPs.get _ (i:=i) (x:=prV ps[i]) r (by rw[E7,EO hi];rfl);refine RPs.cons _ ?_ (kS r q fun j hj=>h j (EY _ hj));dsimp only;rw[ER,EO hi,ER,eu];exact ru
theorem gu{α:Type}(l:List α)(d:α){q:List Nat}(h:q.Perm (List.range l.length)):(q.map fun i=>l.getD i d).Perm l:=by
 refine(h.map _).trans ?_;have:(List.range l.length).map (fun i=>l.getD i d)=l:=by
  apply List.ext_getElem
  ·simp
  ·intro i h1 h2;simp[ER,EO h2]
 rw[this]
theorem fP{K:PySem.W.Frag}:VC K B sk (uK K):=by
 intro σ' σ H' H xs' xs Q' Q s r h k;obtain⟨x',x,rfl,rfl,rx,h⟩:=du.ex h r;cases x' with
 | ref a =>
  obtain⟨ps,ea,nd,hb,h64,q⟩:=h;simp only[RP]at rx;subst rx;obtain⟨us,e,r2⟩:=s.hp _ _ ea;refine⟨a,us,ps,rfl,.inl (.inl e),nj r2,nd,hb,h64,fun r qs hr h1 h2=>?_⟩;have hin:∀i∈qs,i<ps.length:=fun i hi=>Ft.mp (h1.mem_iff.mp hi);exact k _ _ _ _ (q r _ (s.hp.free hr) (gu ps (0,0) h1) h2) (by simp[RP]) (s.new hr (mE hr (kS r2 qs hin))) (Ev.new hr)
 | _=>exact h.elim
def t8:PV->List PV->PHp->VK'->Prop:=fun x vs H Q=>match x,vs with
 | .ref a,[]=>∃l,H a=some (.lst l)/\Q .non (put H a (.lst l.reverse))
 | _,_=>False
def zX:PV->List PV->PHp->VK'->Prop:=fun x vs H Q=>match x,vs with
 | .ref a,[]=>∃l,H a=some (.lst l)/\Q .non (put H a (.lst []))
 | _,_=>False
def vf:PV->List PV->PHp->VK'->Prop:=fun x vs H Q=>match x,vs with
 | .ref a,[.int i,y]=>∃l,H a=some (.lst l)/\0≤i/\i.toNat≤l.length/\l.length<1000/\Q .non (put H a (.lst (l.take i.toNat++y::l.drop i.toNat)))
 | _,_=>False
theorem Ec{a:Addr}:t8 (.ref a) [] H Q=∃l,H a=some (.lst l)/\Q .non (put H a (.lst l.reverse)):=rfl
theorem D6{a:Addr}:zX (.ref a) [] H Q=∃l,H a=some (.lst l)/\Q .non (put H a (.lst [])):=rfl
theorem DK{a:Addr}:vf (.ref a) [.int i,y] H Q=∃l,H a=some (.lst l)/\0≤i/\i.toNat≤l.length/\l.length<1000/\Q .non (put H a (.lst (l.take i.toNat++y::l.drop i.toNat))):=rfl
end
section
theorem dA{B:Bs}{X:Cx}{x:Str}{v':PV}{v:V}{pos:Pos}(hg:Gl X x)(h:∃u,X.mg x=some u/\RelV v u)(r':∀H,RP X.K H v' v)(hd:(x==("__debug__":Str))=false:=by decide):PE' X B (.Name x pos) (uC v'):=by
 obtain⟨u,hm,r⟩:=h;exact xl hg hm r r' hd
theorem aQ(f:PV->PV)(pz:PV->Bool)(Iv:St'->Prop)(hlen:xs.length≤1000)(hok:∀l,ok (put H1 acc (.lst l)))
  (hs:∀x∈xs,∀(l:List PV) (σ:St') (R:St'->PHp->Prop),Iv σ->l.length<sizeLine->(pz x=true->∀σ3,Iv σ3->R σ3 (put H1 acc (.lst (l++[f x]))))->(pz x=false->∀σ3,Iv σ3->R σ3 (put H1 acc (.lst l))) ->
   g x σ (put H1 acc (.lst l)) fun σ3 H2=>tt σ3 H2 fun b H3=>cif b (te σ3 H3 fun y H4=>∃l',H4 acc=some (.lst l')/\l'.length<sizeLine/\R σ3 (put H4 acc (.lst (l'++[y])))) (R σ3 H3))
  (hq:Q (.ref acc) (put H1 acc (.lst ((xs.filter pz).map f)))) {σ:St'} (h0:Iv σ):dY ok g tt te acc Q xs σ (put H1 acc (.lst [])):=by
 have key:∀(r d:List PV) (σ:St'),xs=d++r->Iv σ->dY ok g tt te acc Q r σ (put H1 acc (.lst ((d.filter pz).map f))):=by
  intro r
  induction r with
  | nil =>
   intro d σ e hv;have:d=xs:=by rw[e,FH]
   subst this;exact⟨hok _,hq⟩
  | cons x r ih =>
   intro d σ e hv;have hd:((d.filter pz).map f).length<sizeLine:=by
    have h1:d.length+(r.length+1)=xs.length:=by rw[e,EX,EU]
    have h2:=List.length_filter_le pz d;have:=bz (n:=1000) (by decide);rw[EM];omega
   refine⟨hok _,hs x (by rw[e];simp) _ σ _ hv hd (fun hp σ3 h3=>?_) (fun hp σ3 h3=>?_)⟩
   ·have:=ih (d++[x]) σ3 (by rw[e];simp) h3;rw[List.filter_append,Fi]at this;simpa[hp]using this
   ·have:=ih (d++[x]) σ3 (by rw[e];simp) h3;rw[List.filter_append,Fi]at this;simpa[hp]using this
 exact key xs [] σ rfl h0
end
section
theorem Dj:xO C f (.ref a) H Q=∃dx fs v,H a=some (.ins C dx fs)/\fs.lookup f=some v/\Q v H:=rfl
theorem C5:xK C f (.ref a) y H Q=∃dx fs,H a=some (.ins C dx fs)/\fs.length<1000/\Q (put H a (.ins C dx (fV f y fs))):=rfl
theorem Cm:isIn C m (.ref a) H=∃dx fs,H a=some (.ins C dx fs)/\fs.lookup m=none:=rfl
theorem CZ:AW [.ref a] H Q=∃bs:List Bool,H a=some (.lst (bs.map PV.bl))/\Q (.bl (bs.all id)) H:=rfl
theorem D0:ue (.ref a) H Q=∃ps:List (Int×Int),H a=some (.lst (ps.map prV))/\ps.Nodup/\(∀p∈ps,p∈SP.prs)/\ps.length≤15/\Q (.int ps.length) H:=rfl
theorem C9:sk [.ref a] H Q=∃ps:List (Int×Int),H a=some (.lst (ps.map prV))/\ps.Nodup/\(∀p∈ps,0≤p.2/\p.2<6)/\ps.length<64/\∀(r:Addr) (qs:List (Int×Int)),H r=none->qs.Perm ps->qs.Pairwise (fun x y=>ST.pk x<ST.pk y)->Q (.ref r) (put H r (.lst (qs.map prV))):=rfl
end
end U
namespace SI
def tb(led:Bool)(L:List Nat):SetTable:={ mask:=if L.length≤4 then 7 else 31,place:=L.toArray,dummies:=#[],finger:=0,led:=led,moves:=if L.length≤4 then 0 else 1,plain:=true }
def pos(L:List Nat)(x:Nat):Nat:=(L.filter (·<x)).length
def ins(L:List Nat)(x:Nat):List Nat:=L.take (pos L x)++x::L.drop (pos L x)
def tp(led:Bool)(L:List Nat)(x:Nat):SetTable:={ tb led L with place:=(ins L x).toArray }
section
variable {prog:Program}{w:World}{A:Around}{E:Value->Shared->Prop}{s:Shared}
end
end SI
namespace SI
theorem ix{α:Type}:∀(l:List α) (i:Nat) (h:i<l.length),(l[i]::l.eraseIdx i).Perm l
 | x::l,0,_=>Gn _
 | x::l,i+1,h=>by
  have ih:=ix l i (by simpa using h);have h':i<l.length:=by simpa using h
  show(l[i]::x::l.eraseIdx i).Perm (x::l);exact(List.Perm.swap _ _ _).trans (ih.cons x)
theorem gu{α:Type}(next:Nat->Nat):∀(f k:Nat) (l:List α) (out:Array α),f=l.length->(pickOrder.go next f k l out).toList.Perm (out.toList++l)
 | 0,k,l,out,h=>by
  have:l=[]:=List.length_eq_zero_iff.mp h.symm;subst this;show out.toList.Perm _;rw[FH]
 | f+1,k,l,out,h=>by
  have hlt:next k % l.length<l.length:=Nat.mod_lt _ (by omega)
  unfold pickOrder.go;rw[EO hlt];dsimp only;refine(gu next f (k+1) _ _ (by rw[List.length_eraseIdx_of_lt hlt];omega)).trans ?_;rw[Array.toList_push,List.append_assoc];refine List.Perm.append_left _ ?_;exact ix l _ hlt
section
variable {prog:Program}{w:World}{A:Around}{E:Value->Shared->Prop}{s:Shared}
end
end SI
namespace SI
section
variable {prog:Program}{w:World}{A:Around}{E:Value->Shared->Prop}{s:Shared}
end
end SI
namespace L2
variable {X:Cx}
end L2
namespace U
open L2
variable {B:Bs}{X:Cx}{e:Expr}{ta:TE'}{p p2 pos pos2:Pos}
end U
namespace L2
variable {X:Cx}{tg:Expr}
end L2
namespace U
open L2
section
variable {B:Bs}{X:Cx}{a b c:Expr}{pos:Pos}
end
section
variable {B:Bs}{X:Cx}{a b:Expr}{ta tb:TE'}{pos:Pos}
def gW:R2':=fun x y H Q=>match x,y with
 | .ref a,.ref b=>∃l m,H a=some (.lst l)/\H b=some (.lst m)/\l.length+m.length≤sizeLine/\∀p,H p=none->Q (.ref p) (put H p (.lst (l++m)))
 | _,_=>False
theorem Ds{a b:Addr}:gW (.ref a) (.ref b) H Q=∃l m,H a=some (.lst l)/\H b=some (.lst m)/\l.length+m.length≤sizeLine/\∀p,H p=none->Q (.ref p) (put H p (.lst (l++m))):=rfl
theorem yz{K:PySem.W.Frag}:VR K B gW Bu:=by
 intro σ' σ H' H x' y' x y Q' Q s rx ry h k;unfold gW at h;split at h
 ·rename_i a b;obtain⟨l,m,e1,e2,hl,h⟩:=h;simp only[RP]at rx ry;subst rx;subst ry;obtain⟨us,q1,r1⟩:=s.hp _ _ e1;obtain⟨ws,q2,r2⟩:=s.hp _ _ e2;refine⟨a,b,us,ws,rfl,rfl,q1,q2,by rw[RPs.length _ r1,RPs.length _ r2];exact hl,fun p hp=>?_⟩;exact k _ _ _ _ (h p (s.hp.free hp)) (by simp[RP]) (s.new hp (mE hp (RPs.append _ r1 r2))) (Ev.new hp)
 ·exact h.elim
theorem cS(ha:PE' X B a ta)(hb:PE' X B b tb):PE' X B (.BinOp a .Add b pos) (uOp gW ta tb):=fC zf yz ha hb
theorem eH(xs:List PV)(k:Nat):cX xs (some (k:Int)) none=xs.drop k:=by
 unfold cX;rw[HT.nX,HT.rZ];rw[List.take_of_length_le (by rw[Gi];omega)];by_cases h:k≤xs.length
 ·rw[Nat.min_eq_left h]
 ·rw[Nat.min_eq_right (by omega),List.drop_length,List.drop_eq_nil_of_le (by omega)]
theorem sD(ns:List Int)(lo hi:Option Int):∃ms:List Int,cX (ns.map PV.int) lo hi=ms.map PV.int/\ms.length≤ns.length:=by
 unfold cX;refine⟨(ns.drop (HT.sIx (ns.map PV.int).length 0 lo)).take (HT.sIx (ns.map PV.int).length (ns.map PV.int).length hi - HT.sIx (ns.map PV.int).length 0 lo),?_,?_⟩
 ·rw[List.map_take,List.map_drop]
 ·rw[FT,Gi];omega
end
end U
namespace L2
variable {X:Cx}
theorem pre_take(ns:List Int):∀i,i≤ns.length->preSum (fun j=>ns.getD j 0) i=(ns.take i).sum
 | 0,_=>by simp[preSum]
 | i+1,h=>by
  have hi:i<ns.length:=by omega
  rw[preSum,pre_take ns i (by omega),List.take_succ,EO hi,List.sum_append];simp[ER,EO hi]
theorem gC(hc:X.calm=true):cU X (.builtin "sum") (fun xs H Q=>∃(a:Addr) (ns:List Int),xs=[.ref a]/\SqL X.K H a (ns.map V.int)/\Q (.int ns.sum) H):=by
 intro pins s σ H xs us Q I r h;obtain⟨a,ns,rfl,hq,q⟩:=h;obtain⟨u,rfl,ru⟩:=Vals.one r;cases ru;obtain⟨its,rv,p,hz⟩:=I.list hq;have hl:s.heap.IsList a its.toArray:=p.isList;have llt:a<s.heap.objs.size:=by obtain⟨o,e,_⟩:=hl;exact E5 e
 have hne:a≠s.heap.objs.size:=Fe llt;have hlen:its.length=ns.length:=by have:=Paired.length rv;rw[EM]at this;exact this.symm
 refine call_sum_walkAnyS (wpAny_pyIter_list hl ?_);refine⟨s.heap.objs.size,[s.heap.objs.size,a],[s.heap.objs.size],_,its.toArray.size,_,_,fun i=>ns.getD i 0,rfl,(Walks.list (by simpa using I.ok.hd hc) _ a hne _).toS,⟨⟨_,E9 _ rfl,rfl,rfl⟩,hl.at fun o e=>ET _ e⟩,fun b hb=>?_,fun i v hv=>?_,fun s' t' hm=>?_⟩
 ·rw[F4];simp only[Fd,Gj,or_false]at hb;rcases hb with e | e
  ·rw[e];exact Nat.lt_succ_self _
  ·rw[e];exact Nat.lt_succ_of_lt llt
 ·have hv':its[i]?=some v:=by simpa using hv
  have hi:i<ns.length:=by rw[←hlen];exact(EV.mp hv').1
  obtain⟨u,eu,ru⟩:=rv.get (EO (by rw[EM];exact hi));rw[hv']at eu;cases eu;rw[Ga]at ru;obtain⟨tk,rfl⟩:=ru;refine⟨tk,?_⟩;show _=Value.int (ns.getD i 0) tk;rw[ER,EO hi];rfl
 ·have e:preSum (fun i=>ns.getD i 0) its.toArray.size=ns.sum:=by
   rw[E6,hlen,pre_take ns ns.length (E2 _),F9]
  rw[e,Moved.eq_with hm];refine⟨.int ns.sum,H,I.kept (t':=s'.toks) fun b o e=>?_,⟨_,rfl⟩,q⟩;exact hm.heap b o (by simpa using Fe (E5 e)) (ET _ e)
end L2
namespace U
open L2
variable {B:Bs}{X:Cx}{a b:Expr}{ta tb:TE'}{pos:Pos}
def yF:List PV->PHp->VK'->Prop:=du fun x H Q=>match x with
 | .ref a=>∃ns:List Int,H a=some (.lst (ns.map PV.int))/\Q (.int ns.sum) H
 | _=>False
theorem D5{a:Addr}:yF [.ref a] H Q=∃ns:List Int,H a=some (.lst (ns.map PV.int))/\Q (.int ns.sum) H:=rfl
theorem mQ{K:PySem.W.Frag}:VC K B yF (fun xs H Q=>∃(a:Addr) (ns:List Int),xs=[.ref a]/\SqL K H a (ns.map V.int)/\Q (.int ns.sum) H):=by
 intro σ' σ H' H xs' xs Q' Q s r h k;obtain⟨x',x,rfl,rfl,rx,h⟩:=du.ex h r;cases x' with
 | ref a =>
  obtain⟨ns,ea,q⟩:=h;simp only[RP]at rx;subst rx;obtain⟨us,e,r2⟩:=s.hp _ _ ea;rw[kz r2]at e;exact⟨a,ns,rfl,.inl (.inl e),k _ _ _ _ q (by simp[RP]) s (Ev.refl _ _)⟩
 | _=>exact h.elim
def zc:List PV->PHp->VK'->Prop:=fun xs H Q=>match xs with
 | [.int i,.int j]=>Q (.int (if j<i then j else i)) H
 | _=>False
theorem ED:zc [.int i,.int j] H Q=Q (.int (if j<i then j else i)) H:=rfl
theorem x5{K:PySem.W.Frag}:VC K B zc (fun xs H Q=>∃i j,xs=[.int i,.int j]/\Q (.int (if j<i then j else i)) H):=by
 intro σ' σ H' H xs' xs Q' Q s r h k;unfold zc at h;split at h
 ·rename_i i j;simp only[RPs,RP]at r;obtain⟨_,_,rfl,rfl,_,_,rfl,rfl,rfl⟩:=r;exact⟨i,j,rfl,k _ _ _ _ h (by simp[RP]) s (Ev.refl _ _)⟩
 ·exact h.elim
end U
namespace EN
section
variable {prog:Program}{w:World}{A:Around}{E:Value->Shared->Prop}{s:Shared}
theorem mS(hi:s.heap.IsTupleIter it a j)(ht:s.heap.IsTuple a its)(hx:its[j]?=some x)
  (q:∀h1,h1.IsTupleIter it a (j+1)->Heap.SameBut it s.heap h1->Q x { s with heap:=h1 }):wpAny (model prog w) A (Builtin.SmallTypes.nextOf (.ref it)) Q E s:=by
 obtain⟨u,hu,k1,k2⟩:=id hi;obtain⟨v,hv,_,m,k3⟩:=ht;unfold Builtin.SmallTypes.nextOf;refine ES (Gq (name:=Str.ofString "__next__") hi.typeIs F.slot_tuple_iterator_next (wpAny_call_entry F.slot_tuple_iterator_next hi.typeIs F.entry_tuple_iterator_next ?_ (F.args_tuple_iterator_next_1 _)));show wpAny _ _ (field (Value.ref it) 0 >>= _) _ _ s;refine ES (F3 hu k2 (x:=.ref a) rfl ?_);show wpAny _ _ (if (Value.ref a==Value.none)=true then _ else _) _ _ s;rw[Fo (show ¬(Value.ref a==Value.none)=true from F6)];show wpAny _ _ (field (Value.ref it) 1 >>= _) _ _ s;refine ES (F3 hu k2 (x:=.int j 0) rfl ?_);show wpAny _ _ (seqItems? (Value.ref a) >>= _) _ _ s;refine ES (Gp hv k3 ?_);simp only[FW,hx];refine ES (wpAny_setField hu k2 (by simp) (E4 ⟨x,rfl,E4 (q _ ?_ (Heap.SameBut.update ..))⟩));refine⟨_,Heap.get?_update_self _ hu (Obj.isFreed_of_fields (Obj.data_mapFields k2 _)),(Obj.cls_mapFields ..).trans k1,?_⟩;rw[Obj.data_mapFields k2];simp[rawInt]
theorem xJ(hA:A.handled=none)(hi:s.heap.IsTupleIter it a j)(ht:s.heap.IsTuple a its)(hx:its[j]?=none)
  (q:∀h1 e,Heap.ExtBut it s.heap h1->(∃o,h1.get? e=some o/\o.cls=.type "StopIteration")->E (.ref e) { s with heap:=h1 }):wpAny (model prog w) A (Builtin.SmallTypes.nextOf (.ref it)) Q E s:=by
 obtain⟨u,hu,k1,k2⟩:=id hi;obtain⟨v,hv,_,m,k3⟩:=ht;unfold Builtin.SmallTypes.nextOf;refine ES (Gq (name:=Str.ofString "__next__") hi.typeIs F.slot_tuple_iterator_next (wpAny_call_entry F.slot_tuple_iterator_next hi.typeIs F.entry_tuple_iterator_next ?_ (F.args_tuple_iterator_next_1 _)));show wpAny _ _ (field (Value.ref it) 0 >>= _) _ _ s;refine ES (F3 hu k2 (x:=.ref a) rfl ?_);show wpAny _ _ (if (Value.ref a==Value.none)=true then _ else _) _ _ s;rw[Fo (show ¬(Value.ref a==Value.none)=true from F6)];show wpAny _ _ (field (Value.ref it) 1 >>= _) _ _ s;refine ES (F3 hu k2 (x:=.int j 0) rfl ?_);show wpAny _ _ (seqItems? (Value.ref a) >>= _) _ _ s;refine ES (Gp hv k3 ?_);simp only[FW,hx];refine ES (wpAny_rule (ES (wpAny_setField hu k2 (by simp) ?_)));show wpAny _ _ (newExc (Value.type "StopIteration") [] >>= _) _ _ _;refine ES (?_);simp only[newTuple,newExc];refine ES (Gr (?_) (by size_fits));refine ES (m:=firstArgMember _ _) (wpAny_of_eq (a:=Value.none) (by first | rfl |(simp only[firstArgMember];rfl)) (?_));refine Gr (?_) (by size_fits);simp only[raiseNew,bind_assoc];refine ES (wpAny_handled (?_))
 first | rw[show A.in1.handled=none from hA] | rw[hA]
 refine ES (E4 (wpAny_throw (?_)));exact q _ _ (((Heap.SameBut.update ..).extBut.push _).push _) ⟨_,E9 _ rfl,rfl⟩
end
theorem pf(hA:A.handled=none)(it a:Addr)(ne:a≠it)(its:Array Value) :
  Draws prog w A it [it,a] its.size (fun i v=>its[i]?=some v) (fun i h=>h.IsTupleIter it a i/\h.IsTuple a its) where
 live:=fun _ _ st=>let ⟨o,ho,_⟩:=st.1;⟨o,ho⟩
 frame:=fun _ _ _ st hk=>⟨st.1.at fun o e=>hk it (by simp) o e,st.2.at fun o e=>hk a (by simp) o e⟩
 item:=fun i s Q E hi st q=>mS st.1 st.2 (x:=its[i]) (by simp[hi]) fun h1 t1 b1=>q _ h1 s.toks (by simp[hi]) ⟨t1,st.2.extBut b1.extBut ne⟩ b1
 done:=fun s Q E st q=>xJ hA st.1 st.2 (by simp) q
theorem vj(a:Addr)(its:Array Value) :
  Meets (Builtin.«enumerate.__new__» ⟨[.type "enumerate",.ref a],[]⟩) (fun _ R s=>s.heap.IsTuple a its /\
   R (.ok (.ret (.ref (s.heap.push { cls:=.type "tuple_iterator",data:=.fields #[.ref a,.int 0 0] }).objs.size)))
    { s with heap:=(s.heap.push { cls:=.type "tuple_iterator",data:=.fields #[.ref a,.int 0 0] }).push { cls:=.type "enumerate",data:=.fields #[.none,.bool false,.ref s.heap.objs.size,rawInt 0,.none,.none] } }) :=
 .of_wp fun prog w A R s h=>by
  obtain⟨hp,g,d,tk,os⟩:=s;obtain⟨ht,h⟩:=h;have hsub:=sub_enumerate;obtain⟨o,ho,hc,n,hd⟩:=id ht
  wp_walk using AutoSeq1.wpAny_loadPart' ho
  refine wpAny_stack_any fun st=>E4 ?_;split
  ·rename_i c _ _ _ _ _;cases (c==Value.type "enumerate") <;>
    (wp_walk using AutoSeq1.wpAny_loadPart' ho,wpAny_pyIter_tuple ht
     exact ⟨_,rfl,h⟩)
  ·wp_walk using AutoSeq1.wpAny_loadPart' ho,wpAny_pyIter_tuple ht
   exact⟨_,rfl,h⟩
theorem yl{s:Shared}(ht:s.heap.IsTuple a its)
  (h:∀h1,IsEnum h1 (s.heap.objs.size+1) s.heap.objs.size 0 .none->h1.IsTupleIter s.heap.objs.size a 0->(∀b o,s.heap.get? b=some o->h1.get? b=some o)->Q (.ref (s.heap.objs.size+1)) { s with heap:=h1 }) :
  wpAny (model prog w) A (call (.type "enumerate") [.ref a]) Q E s:=by
 refine callType_new F.called_enumerate (by decide) (F.typeCall_enumerate_1 _) (F.newCall_enumerate_1 _) (fun obj=>F.args_object_init_2 obj _) F.entry_enumerate_new (vj a its) ⟨ht,?_⟩;have hz:(s.heap.push { cls:=.type "tuple_iterator",data:=.fields #[.ref a,.int 0 0] }).objs.size=s.heap.objs.size+1:=F4 ..;show _/\_;rw[hz];have he:IsEnum ((s.heap.push { cls:=.type "tuple_iterator",data:=.fields #[.ref a,.int 0 0] }).push { cls:=.type "enumerate",data:=.fields #[.none,.bool false,.ref s.heap.objs.size,rawInt 0,.none,.none] }) (s.heap.objs.size+1) s.heap.objs.size 0 .none:=by
  have q:=E9 (s.heap.push { cls:=.type "tuple_iterator",data:=.fields #[.ref a,.int 0 0] }) (o:={ cls:=.type "enumerate",data:=.fields #[.none,.bool false,.ref s.heap.objs.size,rawInt 0,.none,.none] }) rfl;rw[hz]at q;exact q
 exact⟨⟨_,he,rfl⟩,h _ he ⟨_,ET _ (E9 _ rfl),rfl,rfl⟩ fun b o x=>ET _ (ET _ x)⟩
end EN
namespace L2
def Ite(K:PySem.W.Frag)(a:Addr):It :=
 ⟨fun i H=>∃xs x,SqT K H a xs/\xs[i]?=some x,fun i H x H'=>∃T y,H T=none/\x=.ref T/\H'=upd H T (.tup [.int (i:Nat),y])/\∀xs,SqT K H a xs->xs[i]?=some y,fun i H=>∃xs,SqT K H a xs/\xs.length=i⟩
theorem j7{h:Heap}(ha:h.get? a=some o)(hb:h.get? b=some u)(ca:o.cls=.type n)(cb:u.cls=.type m)(ne:(Value.type n:Value)≠.type m):a≠b:=by
 rintro rfl;rw[ha]at hb;cases hb;exact ne (ca.symm.trans cb)
theorem vN{K:PySem.W.Frag}(a it e:Addr):Turn P w K (.Tuple elts k1 tpos) (Ite K a) [e,it] e (fun i h=>(∃old,IsEnum h e it (i:Nat) old)/\h.IsTupleIter it a i) where
 mem:=by simp
 obj:=fun i h st b hb=>by
  obtain⟨⟨old,he⟩,o,ho,hc,hd⟩:=st;rcases Fd.mp hb with rfl | hb
  ·exact⟨_,he,fun v z=>by
    have z':Data.fields _=Data.cell v:=z;cases z'⟩
  ·rw[Fc.mp hb];exact⟨o,ho,fun v z=>by rw[hd]at z;cases z⟩
 keep:=fun i h h' st k=>by
  obtain⟨⟨old,he⟩,hi⟩:=st;exact⟨⟨old,k e (by simp) _ he⟩,hi.at fun o x=>k it (by simp) o x⟩
 item:=by
  intro X hP hw hK hc i pins s σ H E I hf st hg;subst hP hw hK;obtain⟨xs,x,hq,hx⟩:=hg;obtain⟨its,rv,p,hz⟩:=I.tuple hq;obtain⟨u,hu,ru⟩:=rv.get hx;obtain⟨⟨old,he⟩,hi⟩:=st;have p':s.heap.IsTuple a its.toArray:=p;obtain⟨oa,ha,ca,_⟩:=id p';obtain⟨oi,hoi,ci,_⟩:=id hi;have nai:a≠it:=j7 ha hoi ca ci (by decide);have nei:e≠it:=j7 he hoi rfl ci (by decide);have nea:e≠a:=j7 he ha rfl ca (by decide);have hlt:i<its.toArray.size:=by
   have:=(EV.mp hu).1;simpa using this
  refine wpAny_pyNext_enum_itemD (EN.pf (A:=X.A.in1) (I.ok.hd hc) it a nai its.toArray) he ⟨hi,p'⟩ hlt nei (by simp[nei,nea]) fun y h1 tk hy ho hs1 hT hsz hk=>?_;have ey:y=u:=by
   have:its.toArray[i]?=some u:=by simpa using hu
   rw[this]at hy;exact(Fn hy).symm
  subst ey;refine⟨_,rfl,wpAny_letOwnedTupleGo_enum (s:={ s with heap:=h1,toks:=tk+1 }) ho fun h2 he2 sb=>?_⟩;have sb2:Heap.SameBut e h1 h2:=sb;have hlte:e<s.heap.objs.size:=E5 he;have hT2:h2.get? s.heap.objs.size=some { cls:=.type "tuple",data:=.seq #[.int i tk,y] }:=(sb2.2 _ (GF hlte)).trans hT;have kk:∀b o,b≠e->b≠it->s.heap.get? b=some o->h2.get? b=some o:=fun b o n1 n2 q=>(sb2.2 b n1).trans (hk b o n1 n2 q);have hn:H s.heap.objs.size=none:=I.hok.fresh (E2 _);have fe:=hf e (by simp);have fi:=hf it (by simp);have nit:∀b v,H b=some v->b≠e/\b≠it:=fun b v q=>⟨fun z=>(by rw[z,fe.1]at q;cases q),fun z=>(by rw[z,fi.1]at q;cases q)⟩;refine⟨.ref s.heap.objs.size,upd H s.heap.objs.size (.tup [.int (i:Nat),x]),?_,rfl,⟨_,x,hn,rfl,rfl,fun ys hy'=>by rw[I.tuple_inj hy' hq];exact hx⟩,⟨⟨y,by simpa using he2⟩,?_⟩,fun b hb=>?_⟩
  ·show Inv X pins σ _ { s with heap:=h2,toks:=tk+1 };refine I.step (h':=h2) (g':=s.gens) (d':=s.drawn) (t':=tk+1) (ch:=[e,it]) (fun b hb=>?_) (fun b o _ _ hc q _=>kk b o (fun z=>hc (by simp[z])) (fun z=>hc (by simp[z])) q) (fun b o _ _ hc q _=>⟨o.slots,kk b o (fun z=>hc (by simp[z])) (fun z=>hc (by simp[z])) q⟩)
    (fun b o _ q n=>by rw[aJ (Fe (E5 q))];exact n) (fun b o hc q=>⟨o,kk b o (fun z=>hc (by simp[z])) (fun z=>hc (by simp[z])) q⟩) (fun b ys q=>by rw[aJ (aN q hn)];exact q) (fun b o v q=>by rw[aJ (aN q hn)];exact q)
    (fun b ps q=>⟨#[],by rw[aJ (aN q hn),q];simp⟩) (fun m hm=>?_) (fun b v q=>?_) I.bare
   ·rcases Fd.mp hb with rfl | hb
    ·exact⟨fe.2.2.2.1,fe.2.1,fe.2.2.2.2.1,fe.2.2.2.2.2⟩
    ·rw[Fc.mp hb];exact⟨fi.2.2.2.1,fi.2.1,fi.2.2.2.2.1,fi.2.2.2.2.2⟩
   ·obtain⟨o,es,ep,q,r⟩:=hm;exact⟨o,es,ep,kk _ o (Ne.symm fe.2.1) (Ne.symm fi.2.1) q,r⟩
   ·by_cases hb:b=s.heap.objs.size
    ·subst hb;rw[bC]at q;cases q;exact⟨by show 2≤sizeLine;rw[Gg];omega,[.int i tk,y],.cons ⟨tk,rfl⟩ (.cons ru .nil),⟨_,hT2,rfl,_,rfl⟩⟩
    ·rw[aJ hb]at q;refine(I.hok b v q).stay (fun c z hc q2=>?_) (fun c q2=>by rw[aJ (aN q2 hn)];exact q2) fun c ys q2=>by rw[aJ (aN q2 hn)];exact q2
     have nn:c≠e/\c≠it:=by
      rcases hc with z | z
      ·rw[z];exact nit b v q
      ·exact nit c _ z
     exact kk c z nn.1 nn.2 q2
  ·obtain⟨o,q,r⟩:=hs1.1;exact⟨o,(sb2.2 _ (Ne.symm nei)).trans q,r⟩
  ·have hb2:b<s.heap.objs.size:=by
    rcases Fd.mp hb with rfl | hb
    ·exact hlte
    ·rw[Fc.mp hb];exact E5 hoi
   rw[aJ (Fe hb2)];exact(hf b hb).1
 done:=by
  intro X hP hw hK hc i pins s σ H E I hf st hg;subst hP hw hK;obtain⟨xs,hq,rfl⟩:=hg;obtain⟨its,rv,p,hz⟩:=I.tuple hq;obtain⟨⟨old,he⟩,hi⟩:=st;have p':s.heap.IsTuple a its.toArray:=p;obtain⟨oa,ha,ca,_⟩:=id p';obtain⟨oi,hoi,ci,_⟩:=id hi;have nai:a≠it:=j7 ha hoi ca ci (by decide);have hl:=rv.length;have es:xs.length=its.toArray.size:=by simp;omega
  obtain⟨f0,f1,f2,f3,f4,f5⟩:=hf it (by simp);refine wpAny_pyNext_enum_endD (EN.pf (A:=X.A.in1) (I.ok.hd hc) it a nai its.toArray) he ⟨by rw[←es];exact hi,p'⟩ fun h1 eb=>⟨rfl,I.turned (t':=s.toks) (fun b o hb q=>eb b o hb q) f0 f1 f3 f4 f5⟩
 self:=fun _ _ _ _ _ st h=>let ⟨⟨_,he⟩,_⟩:=st;wpAny_pyIter_enum he h
section
variable {X:Cx}
theorem xg:bootBuiltins "enumerate"=some (.type "enumerate"):=by decide +kernel
def iEn(K:PySem.W.Frag)(ta:TA):TI:=fun σ H R=>ta σ H fun vs H1=>∃a,vs=[.ref a]/\(∃xs,SqT K H1 a xs)/\R (Ite K a) H1
theorem Ci{elts:List Expr}{k1}{tpos:Pos}{c:Expr}{ta:TA}{p pos:Pos}(hg:Gl X "enumerate")(hm:X.mg "enumerate"=none)(ha:PA X [c] ta)(hs:starEach [c] X.env=[(false,eval c X.env)]:=by rfl) :
  PI X (.Tuple elts k1 tpos) (.Call (.Name "enumerate" p) [c] [] pos) (iEn X.K ta):=by
 intro pins s σ H R I h;refine Call_ (gg I hg hm xg (PyProof.Rows.callWith_type1 (thn (ha pos pins s σ H _ I h) fun us s1 ⟨vs,H1,I1,r1,q1⟩=>?_) hs rfl));obtain⟨a,e,⟨xs,hq⟩,q⟩:=q1;subst e;cases r1 with
 | cons r rr =>
  cases rr;cases r;obtain⟨its,rv,p,hz⟩:=I1.tuple hq;refine EN.yl (show s1.heap.IsTuple a its.toArray from p) fun h1 he hi kk=>wpAny_pyIter_enum he ?_;refine⟨s1.heap.objs.size+1,[s1.heap.objs.size+1,s1.heap.objs.size],_,_,H1,rfl,I1.kept (t':=s1.toks) kk,vN a _ _,⟨⟨_,he⟩,hi⟩,fun b hb=>?_,q⟩;have hb2:s1.heap.objs.size≤b:=by
   rcases Fd.mp hb with rfl | hb
   ·exact Nat.le_succ _
   ·rw[Fc.mp hb];exact E2 _
  exact I1.fpOk hb2 (I1.hok.fresh hb2)
end
end L2
namespace U
open L2
variable {B:Bs}{X:Cx}{pos:Pos}
def gy(l:List PV):List PV:=l.mapIdx fun i x=>.tup [.int (i:Nat),x]
def en1(vs:List PV)(H1:PHp)(R:It'->PHp->Prop):Prop:=match vs with
 | [.tup l]=>R ⟨gy l,fun _=>True⟩ H1
 | _=>False
theorem DO:en1 [.tup l] H R=R ⟨gy l,fun _=>True⟩ H:=rfl
def uEn(t:TA'):TI':=fun σ H R=>t σ H fun vs H1=>en1 vs H1 R
theorem A9{elts:List Expr}{k1}{tpos:Pos}{c:Expr}{t:TA'}{p:Pos}(hg:Gl X "enumerate")(hm:X.mg "enumerate"=none)(ha:PA' X B [c] t)(hs:starEach [c] X.env=[(false,eval c X.env)]:=by rfl) :
  PIH X B (.Tuple elts k1 tpos) (.Call (.Name "enumerate" p) [c] [] pos) (uEn t):=iG (Ci hg hm ha hs) fun σ H R y_=>by
 obtain⟨σ',H',R',s,h,k⟩:=y_;refine⟨σ',H',_,s,h,fun vs' H1' vs H1 h1 r1 s1 e1=>?_⟩;unfold en1 at h1;split at h1
 ·rename_i l;simp only[RPs,RP]at r1;obtain⟨u,r,rfl,⟨a,us,rfl,q,rl⟩,rfl⟩:=r1;refine⟨a,rfl,⟨us,q⟩,k _ H1' _ H1 h1 ⟨fun H2' H2 i k2 hr _ hi=>?_,fun H2' H2 i x H3 k2 hr _ y=>?_,fun H2' H2 k2 hr _=>?_⟩ s1 e1⟩
  ·have hi':i<l.length:=by simpa[gy]using hi
   obtain⟨u,e,_⟩:=RPs.get _ rl (EO hi');exact⟨us,u,k2.sqT q,e⟩
  ·obtain⟨T,y1,hT,rfl,rfl,hy⟩:=y;refine⟨hr.hid hT,Ev.hid hT,fun x' hx=>?_⟩;obtain⟨z,hz,rfl⟩:∃z,l[i]?=some z/\x'=.tup [.int (i:Nat),z]:=by
    unfold gy at hx;rw[List.getElem?_mapIdx]at hx;cases e:l[i]? with
    | none=>rw[e]at hx;cases hx
    | some z=>rw[e]at hx;exact⟨z,rfl,(Fn hx).symm⟩
   obtain⟨u,e,ru⟩:=RPs.get _ (RPs.kp _ k2 rl) hz;have ey:=hy us (k2.sqT q);rw[e]at ey;cases ey;exact sP hT (RPs.cons _ (by simp[RP]) (RPs.cons _ ru (RPs.nil _)))
  ·refine⟨us,k2.sqT q,?_⟩;rw[RPs.length _ rl];simp[gy]
 ·exact h1.elim
end U
namespace L2
section
variable {X:Cx}{pins:List (Addr×Obj)}{σ:St}{H:Hp}{s:Shared}{h':Heap}
theorem Inv.turnedN{ch:List Addr}(I:Inv X pins σ H s)(k:∀b o,b∉ch->s.heap.get? b=some o->h'.get? b=some o)(hf:∀b∈ch,fZ X pins H b):Inv X pins σ H { s with heap:=h',toks:=t' }:=by
 have nit:∀b u,H b=some u->b∉ch:=fun b u e z=>by rw[(hf b z).1]at e;cases e
 refine I.step (g':=s.gens) (d':=s.drawn) (ch:=ch) (fun b hb=>?_) (fun b o _ _ hc e _=>k b o hc e) (fun b o _ _ hc e _=>⟨o.slots,k b o hc e⟩) (fun _ _ _ _ n=>n)
  (fun b o hc e=>⟨o,k b o hc e⟩) (fun _ _ e=>e) (fun _ _ _ e=>e) (fun b ps e=>⟨#[],by rw[e];simp⟩) (fun m hm=>?_) (fun b u e=>?_) I.bare
 ·have f:=hf b hb;exact⟨f.2.2.2.1,f.2.1,f.2.2.2.2.1,f.2.2.2.2.2⟩
 ·obtain⟨o,es,ep,ho,r⟩:=hm;exact⟨o,es,ep,k _ o (fun z=>(hf _ z).2.1 rfl) ho,r⟩
 ·refine(I.hok b u e).stay (fun c z hc q2=>?_) (fun c q2=>q2) fun c ys q2=>q2;have nn:c∉ch:=by
   rcases hc with z | z
   ·rw[z];exact nit b u e
   ·exact nit c _ z
  exact k c z nn q2
end
theorem qF:∀{xs:List V} {its:List Value} {i:Nat},Vals xs its->xs[i]?=none->its[i]?=none:=fun {xs its i} r h=>by
 have hl:=r.length;rw[List.getElem?_eq_none_iff]at h ⊢;omega
section
variable {X:Cx}
end
end L2
namespace U
open L2
variable {B:Bs}{X:Cx}{pos:Pos}
end U
namespace EN
abbrev Is3(h:Heap)(T:Addr)(a b c:Value):Prop:=h.get? T=some { cls:=.type "tuple",data:=.seq #[a,b,c] }
section
variable {prog:Program}{w:World}{A:Around}{E:Value->Shared->Prop}{s:Shared}
theorem up3(hT:Is3 s.heap T a b c)
  (q:∀h1,h1.get? T=some { cls:=.type "tuple",data:=.seq ((#[a,b,c]:Array Value).setIfInBounds k x) }->Heap.SameBut T s.heap h1->Q () { s with heap:=h1 }) :
  wpAny (model prog w) A (updateSeq T (·.setIfInBounds k x)) Q E s:=by
 refine wpAny_updateSeq hT rfl (q _ ?_ (Heap.SameBut.update ..));rw[Heap.get?_update_self _ hT rfl];simp[Obj.mapSeq]
theorem apt{n i j:Nat}(h:i≠j):n+i≠n+j:=by omega
theorem wM{n a b c k:Nat}{Q:Value->Shared->Prop}(ha:a<n)(hb:b<n)(hc:c<n)
  (hz:IsZip s.heap (n+5) (n+3) (n+4) .none) (hI:Is3 s.heap (n+3) (.ref n) (.ref (n+1)) (.ref (n+2))) (hO:Is3 s.heap (n+4) p q r)
  (i1:s.heap.IsTupleIter n a k) (i2:s.heap.IsListIter (n+1) b k) (i3:s.heap.IsTupleIter (n+2) c k) (t1:s.heap.IsTuple a xs) (t2:s.heap.IsList b ys) (t3:s.heap.IsTuple c us)
  (e1:xs[k]?=some x) (e2:ys[k]?=some y) (e3:us[k]?=some u)
  (k0:∀h1,IsZip h1 (n+5) (n+3) (n+4) (rawInt s.heap.objs.size)->Is3 h1 (n+4) x y u->h1.IsTupleIter n a (k+1)->h1.IsListIter (n+1) b (k+1)->h1.IsTupleIter (n+2) c (k+1)->Is3 h1 s.heap.objs.size x y u ->
   (∀d o,d≠n->d≠n+1->d≠n+2->d≠n+4->d≠n+5->s.heap.get? d=some o->h1.get? d=some o)->Q (.ref s.heap.objs.size) { s with heap:=h1 }) :
  wpAny (model prog w) A (Builtin.«zip.__next__» ⟨[.ref (n+5)],[]⟩) (fun fin s1=>∃v,fin=.done (.ret v)/\Q v s1) E s:=by
 have a5:a≠n+5:=by omega
 have b5:b≠n+5:=by omega
 have b4:b≠n+4:=by omega
 have b0:b≠n:=by omega
 have c5:c≠n+5:=by omega
 have c4:c≠n+4:=by omega
 have c0:c≠n:=by omega
 have c1:c≠n+1:=by omega
 have n5:n≠n+5:=by omega
 have n4:n≠n+4:=by omega
 have n1:n≠n+1:=by omega
 have n2:n≠n+2:=by omega
 show wpAny _ _ (field (Value.ref (n+5)) 2 >>= _) _ _ _;refine ES (F3 hz rfl (x:=Value.bool false) rfl ?_);show wpAny _ _ (field (Value.ref (n+5)) 3 >>= _) _ _ _;refine ES (F3 hz rfl (x:=Value.ref (n+3)) rfl ?_);refine ES (Gp hI rfl ?_);show wpAny _ _ (Builtin.SmallTypes.ownedTupleIsFree (Value.ref (n+5)) >>= _) _ _ _;refine ES ?_;unfold Builtin.SmallTypes.ownedTupleIsFree;refine ES (F3 hz rfl (x:=Value.none) rfl (E4 ?_));simp only[if_true];refine ES (wpAny_rule ?_);refine ES (F3 hz rfl (x:=Value.ref (n+4)) rfl ?_);refine ES (wpAny_setField_rec hz (by simp) fun g1 z1 s1=>?_)
 replace z1:IsZip g1 (n+5) (n+3) (n+4) .ellipsis:=z1
 refine ES ?_;simp only[List.zipIdx_cons,List.zipIdx_nil,List.forIn_cons,List.forIn_nil];have B1:=s1.extBut;refine ES (ES (wpAny_onRaise ?_));show wpAny _ _ (Builtin.SmallTypes.nextOf (Value.ref n) >>= _) _ _ _;refine ES (mS (i1.extBut B1 n5) (t1.extBut B1 a5) e1 fun g2 j1 s2=>E4 ?_);have B2:=s2.extBut;have o2:Is3 g2 (n+4) p q r:=B2 _ _ (Ne.symm n4) (B1 _ _ (apt (by decide)) hO);refine ES (Gp o2 rfl ?_);refine ES (up3 o2 fun g3 o3 s3=>?_)
 replace o3:Is3 g3 (n+4) x q r:=o3
 have B3:=s3.extBut;refine ES (wpAny_letGo (E4 ?_));refine ES (ES (wpAny_onRaise ?_));show wpAny _ _ (Builtin.SmallTypes.nextOf (Value.ref (n+1)) >>= _) _ _ _;refine ES (wpAny_nextOf_list_item (((i2.extBut B1 (apt (by decide))).extBut B2 (Ne.symm n1)).extBut B3 (apt (by decide))) (((t2.extBut B1 b5).extBut B2 b0).extBut B3 b4) e2 fun g4 j2 s4=>E4 ?_);have B4:=s4.extBut;have o4:Is3 g4 (n+4) x q r:=B4 _ _ (apt (by decide)) o3;refine ES (Gp o4 rfl ?_);refine ES (up3 o4 fun g5 o5 s5=>?_)
 replace o5:Is3 g5 (n+4) x y r:=o5
 have B5:=s5.extBut;refine ES (wpAny_letGo (E4 ?_));refine ES (ES (wpAny_onRaise ?_));show wpAny _ _ (Builtin.SmallTypes.nextOf (Value.ref (n+2)) >>= _) _ _ _;refine ES (mS (((((i3.extBut B1 (apt (by decide))).extBut B2 (Ne.symm n2)).extBut B3 (apt (by decide))).extBut B4 (apt (by decide))).extBut B5 (apt (by decide))) (((((t3.extBut B1 c5).extBut B2 c0).extBut B3 c4).extBut B4 c1).extBut B5 c4) e3 fun g6 j3 s6=>E4 ?_);have B6:=s6.extBut;have o6:Is3 g6 (n+4) x y r:=B6 _ _ (apt (by decide)) o5;refine ES (Gp o6 rfl ?_);refine ES (up3 o6 fun g7 o7 s7=>?_)
 replace o7:Is3 g7 (n+4) x y u:=o7
 have B7:=s7.extBut;refine ES (wpAny_letGo (E4 (E4 ?_)));refine ES (Gp o7 rfl ?_);refine ES (wpAny_newTuple ?_);have sz:g7.objs.size=s.heap.objs.size:=by rw[s7.1,s6.1,s5.1,s4.1,s3.1,s2.1,s1.1]
 have z7:IsZip g7 (n+5) (n+3) (n+4) .ellipsis:=B7 _ _ (apt (by decide)) (B6 _ _ (apt (by decide)) (B5 _ _ (apt (by decide)) (B4 _ _ (apt (by decide)) (B3 _ _ (apt (by decide)) (B2 _ _ (Ne.symm n5) z1)))));have k7:∀d o,d≠n->d≠n+1->d≠n+2->d≠n+4->d≠n+5->s.heap.get? d=some o->g7.get? d=some o:=fun d o d0 d1 d2 d4 d5 e =>
  B7 _ _ d4 (B6 _ _ d2 (B5 _ _ d4 (B4 _ _ d1 (B3 _ _ d4 (B2 _ _ d0 (B1 _ _ d5 e))))))
 have f1:g7.IsTupleIter n a (k+1):=((((j1.extBut B3 n4).extBut B4 n1).extBut B5 n4).extBut B6 n2).extBut B7 n4;have f2:g7.IsListIter (n+1) b (k+1):=((j2.extBut B5 (apt (by decide))).extBut B6 (apt (by decide))).extBut B7 (apt (by decide));have f3:g7.IsTupleIter (n+2) c (k+1):=j3.extBut B7 (apt (by decide));have lz:n+5<g7.objs.size:=E5 z7;show wpAny _ _ (Builtin.SmallTypes.ownedTupleHandOut (Value.ref (n+5)) (Value.ref g7.objs.size) >>= _) _ _ _;refine ES ?_;unfold Builtin.SmallTypes.ownedTupleHandOut;have z8:IsZip (g7.push { cls:=.type "tuple",data:=.seq #[x,y,u] }) (n+5) (n+3) (n+4) .ellipsis:=ET _ z7;refine ES (wpAny_setField_rec z8 (by simp) fun g8 z9 s8=>?_)
 replace z9:IsZip g8 (n+5) (n+3) (n+4) (rawInt g7.objs.size):=z9
 refine wpAny_setField_rec z9 (by simp) fun g9 z10 s9=>?_
 replace z10:IsZip g9 (n+5) (n+3) (n+4) (rawInt g7.objs.size):=z10
 have up:∀d o,d≠n+5->g7.get? d=some o->g9.get? d=some o:=fun d o ne e=>s9.extBut _ _ ne (s8.extBut _ _ ne (ET _ e));have T9:Is3 g9 g7.objs.size x y u:=s9.extBut _ _ (GF lz) (s8.extBut _ _ (GF lz) (E9 _ rfl));rw[sz]at z10 T9;refine E4 ⟨_,rfl,?_⟩;show Q (.ref g7.objs.size) _;rw[sz];exact k0 g9 z10 (up _ _ (apt (by decide)) o7) (f1.at fun o e=>up _ o n5 e) (f2.at fun o e=>up _ o (apt (by decide)) e) (f3.at fun o e=>up _ o (apt (by decide)) e) T9 fun d o d0 d1 d2 d4 d5 e=>up d o d5 (k7 d o d0 d1 d2 d4 d5 e)
theorem yb{n a b c k:Nat}(hA:A.handled=none)(ha:a<n)
  (hz:IsZip s.heap (n+5) (n+3) (n+4) .none) (hI:Is3 s.heap (n+3) (.ref n) (.ref (n+1)) (.ref (n+2)))
  (i1:s.heap.IsTupleIter n a k) (t1:s.heap.IsTuple a xs) (e1:xs[k]?=none)
  (q:∀h1 e,(∀d o,d≠n->d≠n+5->s.heap.get? d=some o->h1.get? d=some o)->(∃o,h1.get? e=some o/\o.cls=.type "StopIteration")->E (.ref e) { s with heap:=h1 }) :
  wpAny (model prog w) A (Builtin.«zip.__next__» ⟨[.ref (n+5)],[]⟩) Q E s:=by
 have a5:a≠n+5:=by omega
 have n5:n≠n+5:=by omega
 show wpAny _ _ (field (Value.ref (n+5)) 2 >>= _) _ _ _;refine ES (F3 hz rfl (x:=Value.bool false) rfl ?_);show wpAny _ _ (field (Value.ref (n+5)) 3 >>= _) _ _ _;refine ES (F3 hz rfl (x:=Value.ref (n+3)) rfl ?_);refine ES (Gp hI rfl ?_);show wpAny _ _ (Builtin.SmallTypes.ownedTupleIsFree (Value.ref (n+5)) >>= _) _ _ _;refine ES ?_;unfold Builtin.SmallTypes.ownedTupleIsFree;refine ES (F3 hz rfl (x:=Value.none) rfl (E4 ?_));simp only[if_true];refine ES (wpAny_rule ?_);refine ES (F3 hz rfl (x:=Value.ref (n+4)) rfl ?_);refine ES (wpAny_setField_rec hz (by simp) fun g1 z1 s1=>?_)
 replace z1:IsZip g1 (n+5) (n+3) (n+4) .ellipsis:=z1
 refine ES ?_;simp only[List.zipIdx_cons,List.zipIdx_nil,List.forIn_cons,List.forIn_nil];refine ES (ES (wpAny_onRaise ?_));show wpAny _ _ (Builtin.SmallTypes.nextOf (Value.ref n) >>= _) _ _ _;refine ES (xJ hA (i1.extBut s1.extBut n5) (t1.extBut s1.extBut a5) e1 fun g2 e s2 he=>?_);obtain⟨oe,hoe,hce⟩:=he;have z2:IsZip g2 (n+5) (n+3) (n+4) .ellipsis:=s2 _ _ (Ne.symm n5) z1;have ne:e≠n+5:=fun x=>by subst x;rw[z2]at hoe;cases hoe;simp at hce
 refine wpAny_setField_rec z2 (by simp) fun g3 _ s3=>q g3 e (fun d o d0 d5 x=>s3.extBut _ _ d5 (s2 _ _ d0 (s1.extBut _ _ d5 x))) ⟨oe,s3.extBut _ _ ne hoe,hce⟩
theorem nx3{n a b c k:Nat}(ha:a<n)(hb:b<n)(hc:c<n)
  (hz:IsZip s.heap (n+5) (n+3) (n+4) .none) (hI:Is3 s.heap (n+3) (.ref n) (.ref (n+1)) (.ref (n+2))) (hO:Is3 s.heap (n+4) p q r)
  (i1:s.heap.IsTupleIter n a k) (i2:s.heap.IsListIter (n+1) b k) (i3:s.heap.IsTupleIter (n+2) c k) (t1:s.heap.IsTuple a xs) (t2:s.heap.IsList b ys) (t3:s.heap.IsTuple c us)
  (e1:xs[k]?=some x) (e2:ys[k]?=some y) (e3:us[k]?=some u)
  (k0:∀h1,IsZip h1 (n+5) (n+3) (n+4) (rawInt s.heap.objs.size)->Is3 h1 (n+4) x y u->h1.IsTupleIter n a (k+1)->h1.IsListIter (n+1) b (k+1)->h1.IsTupleIter (n+2) c (k+1)->Is3 h1 s.heap.objs.size x y u ->
   (∀d o,d≠n->d≠n+1->d≠n+2->d≠n+4->d≠n+5->s.heap.get? d=some o->h1.get? d=some o)->Q (some (.ref s.heap.objs.size)) { s with heap:=h1 }) :
  wpAny (model prog w) A (pyNext (.ref (n+5))) Q E s:=by
 have hT:s.TypeIs (.ref (n+5)) "zip":=⟨_,hz,rfl⟩;unfold pyNext;refine ES (wpAny_attempt (Gq (name:=Str.ofString "__next__") hT F.slot_zip_next (wpAny_call_entry F.slot_zip_next hT F.entry_zip_next ?_ (F.args_zip_next_1 _))));exact wM ha hb hc hz hI hO i1 i2 i3 t1 t2 t3 e1 e2 e3 fun h1 w1 w2 w3 w4 w5 w6 w7=>E4 (k0 h1 w1 w2 w3 w4 w5 w6 w7)
theorem CQ{n a k:Nat}(hA:A.handled=none)(ha:a<n)
  (hz:IsZip s.heap (n+5) (n+3) (n+4) .none) (hI:Is3 s.heap (n+3) (.ref n) (.ref (n+1)) (.ref (n+2)))
  (i1:s.heap.IsTupleIter n a k) (t1:s.heap.IsTuple a xs) (e1:xs[k]?=none)
  (q:∀h1,(∀d o,d≠n->d≠n+5->s.heap.get? d=some o->h1.get? d=some o)->Q none { s with heap:=h1 }):wpAny (model prog w) A (pyNext (.ref (n+5))) Q E s:=by
 have hT:s.TypeIs (.ref (n+5)) "zip":=⟨_,hz,rfl⟩;unfold pyNext;refine ES (wpAny_attempt (Gq (name:=Str.ofString "__next__") hT F.slot_zip_next (wpAny_call_entry F.slot_zip_next hT F.entry_zip_next ?_ (F.args_zip_next_1 _))));refine yb (b:=a) (c:=a) hA ha hz hI i1 t1 e1 fun h1 e hk he=>?_;obtain⟨o,ho,hc⟩:=he;refine ES (wpAny_isInstance (T:="StopIteration") (b:=true) ⟨o,ho,hc⟩ isSubtype_stop (E4 (q _ hk)))
end
abbrev zg2(h:Heap)(a b:Addr):Heap:=(h.push { cls:=.type "tuple_iterator",data:=.fields #[.ref a,.int 0 0] }).push { cls:=.type "list_iterator",data:=.fields #[.ref b,.int 0 0] }
abbrev zg3(h:Heap)(a b c:Addr):Heap:=(zg2 h a b).push { cls:=.type "tuple_iterator",data:=.fields #[.ref c,.int 0 0] }
abbrev zg4(h:Heap)(a b c:Addr):Heap:=(zg3 h a b c).push { cls:=.type "tuple",data:=.seq #[.ref h.objs.size,.ref (h.push { cls:=.type "tuple_iterator",data:=.fields #[.ref a,.int 0 0] }).objs.size,.ref (zg2 h a b).objs.size] }
abbrev zg5(h:Heap)(a b c:Addr):Heap:=(zg4 h a b c).push { cls:=.type "tuple",data:=.seq #[.none,.none,.none] }
abbrev zg6(h:Heap)(a b c:Addr):Heap:=(zg5 h a b c).push { cls:=.type "zip",data:=.fields #[.none,.bool false,.bool false,.ref (zg3 h a b c).objs.size,.ref (zg4 h a b c).objs.size] }
theorem tH(a b c:Addr)(xs ys us:Array Value) :
  Meets (Builtin.«zip.__new__» ⟨[.type "zip",.ref a,.ref b,.ref c],[]⟩) (fun _ R s=>s.heap.IsTuple a xs/\s.heap.IsList b ys/\s.heap.IsTuple c us/\R (.ok (.ret (.ref (zg5 s.heap a b c).objs.size))) { s with heap:=zg6 s.heap a b c }) :=
 .of_wp fun prog w A R s h=>by
  obtain⟨hp,g,d,tk,os⟩:=s;obtain⟨t1,t2,t3,h⟩:=h;have hsub:=sub_zip;have u1:Heap.IsTuple (Shared.heap ⟨hp,g,d,tk,os⟩) a xs:=t1;have u2:Heap.IsList (Shared.heap ⟨hp.push { cls:=.type "tuple_iterator",data:=.fields #[.ref a,.int 0 0] },g,d,tk,os⟩) b ys:=Heap.IsList.push t2 _;have u3:Heap.IsTuple (Shared.heap ⟨(hp.push { cls:=.type "tuple_iterator",data:=.fields #[.ref a,.int 0 0] }).push { cls:=.type "list_iterator",data:=.fields #[.ref b,.int 0 0] },g,d,tk,os⟩) c us:=Heap.IsTuple.push (Heap.IsTuple.push t3 _) _
  wp_walk using wpAny_pyIter_tuple u1,wpAny_pyIter_list u2,wpAny_pyIter_tuple u3
  exact⟨_,rfl,h⟩
theorem DC(a b c:Value):checkTypeCall "zip" ⟨[a,b,c],[]⟩=pure ():=by kernel_rfl
theorem D8(a b c:Value):checkBuiltinCall "zip.__new__" ⟨[.type "zip",a,b,c],[]⟩=pure ():=by kernel_rfl
open F in
theorem Ew(a b c d:Value):argsOk "object.__init__" ⟨[a,b,c,d],[]⟩:=by
 unfold argsOk;rw[signature?_of (id:="object.__init__") (n:=['_','_','t','i','n','i','_','_']) (o:=['t','c','e','j','b','o']) (by kernel_rfl) owner_object];kernel_rfl
theorem wJ{s:Shared}(t1:s.heap.IsTuple a xs)(t2:s.heap.IsList b ys)(t3:s.heap.IsTuple c us)
  (h:∀h1,IsZip h1 (s.heap.objs.size+5) (s.heap.objs.size+3) (s.heap.objs.size+4) .none->Is3 h1 (s.heap.objs.size+3) (.ref s.heap.objs.size) (.ref (s.heap.objs.size+1)) (.ref (s.heap.objs.size+2)) ->
   Is3 h1 (s.heap.objs.size+4) .none .none .none->h1.IsTupleIter s.heap.objs.size a 0->h1.IsListIter (s.heap.objs.size+1) b 0->h1.IsTupleIter (s.heap.objs.size+2) c 0 ->
   (∀d o,s.heap.get? d=some o->h1.get? d=some o)->Q (.ref (s.heap.objs.size+5)) { s with heap:=h1 }) :
  wpAny (model prog w) A (call (.type "zip") [.ref a,.ref b,.ref c]) Q E s:=by
 refine callType_new F.called_zip (by decide) (DC _ _ _) (D8 _ _ _) (fun obj=>Ew obj _ _ _) F.entry_zip_new (tH a b c xs ys us) ⟨t1,t2,t3,?_⟩;have z1:(s.heap.push { cls:=.type "tuple_iterator",data:=.fields #[.ref a,.int 0 0] }).objs.size=s.heap.objs.size+1:=F4 ..;have z2:(zg2 s.heap a b).objs.size=s.heap.objs.size+2:=by rw[F4,z1]
 have z3:(zg3 s.heap a b c).objs.size=s.heap.objs.size+3:=by rw[F4,z2]
 have z4:(zg4 s.heap a b c).objs.size=s.heap.objs.size+4:=by rw[F4,z3]
 have z5:(zg5 s.heap a b c).objs.size=s.heap.objs.size+5:=by rw[F4,z4]
 have g6:(zg6 s.heap a b c).get? (zg5 s.heap a b c).objs.size=some _:=E9 _ rfl;have g5:(zg6 s.heap a b c).get? (zg4 s.heap a b c).objs.size=some _:=ET _ (E9 _ rfl);have g4:(zg6 s.heap a b c).get? (zg3 s.heap a b c).objs.size=some _:=ET _ (ET _ (E9 _ rfl));have g3:(zg6 s.heap a b c).get? (zg2 s.heap a b).objs.size=some _:=ET _ (ET _ (ET _ (E9 _ rfl)));have g2:(zg6 s.heap a b c).get? (s.heap.push { cls:=.type "tuple_iterator",data:=.fields #[.ref a,.int 0 0] }).objs.size=some _:=ET _ (ET _ (ET _ (ET _ (E9 _ rfl))));have g1:(zg6 s.heap a b c).get? s.heap.objs.size=some _:=ET _ (ET _ (ET _ (ET _ (ET _ (E9 _ rfl)))));show _/\_;rw[z3,z4,z5]at g6;rw[z4]at g5;rw[z1,z2,z3]at g4;rw[z2]at g3;rw[z1]at g2;rw[z5];exact⟨⟨_,g6,rfl⟩,h _ g6 g4 g5 ⟨_,g1,rfl,rfl⟩ ⟨_,g2,rfl,rfl⟩ ⟨_,g3,rfl,rfl⟩ fun d o x=>ET _ (ET _ (ET _ (ET _ (ET _ (ET _ x)))))⟩
end EN
namespace L2
open EN
def Iz3(K:PySem.W.Frag)(a b c:Addr):It :=
 ⟨fun i H=>∃xs ys us x y u,SqT K H a xs/\SqL K H b ys/\SqT K H c us/\xs[i]?=some x/\ys[i]?=some y/\us[i]?=some u,
  fun i H v H'=>∃T x y u,H T=none/\v=.ref T/\H'=upd H T (.tup [x,y,u])/\∀xs ys us,SqT K H a xs->SqL K H b ys->SqT K H c us->xs[i]?=some x/\ys[i]?=some y/\us[i]?=some u,
  fun i H=>∃xs,SqT K H a xs/\xs[i]?=none⟩
theorem wY{K:PySem.W.Frag}(n a b c:Nat)(ha:a<n)(hb:b<n)(hc3:c<n):Turn P w K (.Tuple elts k1 tpos) (Iz3 K a b c) [n,n+1,n+2,n+3,n+4,n+5] (n+5)
  (fun i h=>IsZip h (n+5) (n+3) (n+4) .none/\Is3 h (n+3) (.ref n) (.ref (n+1)) (.ref (n+2))/\(∃x y z,Is3 h (n+4) x y z)/\h.IsTupleIter n a i/\h.IsListIter (n+1) b i/\h.IsTupleIter (n+2) c i) where
 mem:=by simp
 obj:=fun i h st d hd=>by
  obtain⟨hz,hI,⟨x,y,z,hO⟩,⟨o1,e1,_,d1⟩,⟨o2,e2,_,d2⟩,⟨o3,e3,_,d3⟩⟩:=st;simp only[Fd,Gj,or_false]at hd;rcases hd with rfl | rfl | rfl | rfl | rfl | rfl
  ·exact⟨_,e1,fun v q=>by rw[d1]at q;cases q⟩
  ·exact⟨_,e2,fun v q=>by rw[d2]at q;cases q⟩
  ·exact⟨_,e3,fun v q=>by rw[d3]at q;cases q⟩
  ·exact⟨_,hI,fun v q=>by cases (show Data.seq _ _=Data.cell v from q)⟩
  ·exact⟨_,hO,fun v q=>by cases (show Data.seq _ _=Data.cell v from q)⟩
  ·exact⟨_,hz,fun v q=>by cases (show Data.fields _=Data.cell v from q)⟩
 keep:=fun i h h' st k=>by
  obtain⟨hz,hI,⟨x,y,z,hO⟩,i1,i2,i3⟩:=st;exact⟨k (n+5) (by simp) _ hz,k (n+3) (by simp) _ hI,⟨x,y,z,k (n+4) (by simp) _ hO⟩,i1.at fun o e=>k n (by simp) o e,i2.at fun o e=>k (n+1) (by simp) o e,i3.at fun o e=>k (n+2) (by simp) o e⟩
 item:=by
  intro X hP hw hK hc i pins s σ H E I hf st hg;subst hP hw hK;obtain⟨xs,ys,us,x,y,u,qx,qy,qu,hx,hy,hu⟩:=hg;obtain⟨l1,r1,p1,_⟩:=I.tuple qx;obtain⟨l2,r2,p2,_⟩:=I.list qy;obtain⟨l3,r3,p3,_⟩:=I.tuple qu;obtain⟨x',hx',rx⟩:=r1.get hx;obtain⟨y',hy',ry⟩:=r2.get hy;obtain⟨u',hu',ru⟩:=r3.get hu;obtain⟨hz,hI,⟨x0,y0,z0,hO⟩,i1,i2,i3⟩:=st;refine nx3 ha hb hc3 hz hI hO i1 i2 i3 (show s.heap.IsTuple a l1.toArray from p1) p2.isList (show s.heap.IsTuple c l3.toArray from p3) (x:=x') (y:=y') (u:=u') (by simpa using hx') (by simpa using hy') (by simpa using hu') fun h' w1 w2 w3 w4 w5 w6 hk=>?_;refine⟨_,rfl,wpAny_letOwnedTupleGo_zip (s:={ s with heap:=h' }) w1 fun g gz sb=>?_⟩;have sb2:Heap.SameBut (n+5) h' g:=sb;have lz:n+5<s.heap.objs.size:=E5 hz;have T2:g.get? s.heap.objs.size=some { cls:=.type "tuple",data:=.seq #[x',y',u'] }:=(sb2.2 _ (GF lz)).trans w6;have kk:∀d o,d∉[n,n+1,n+2,n+4,n+5]->s.heap.get? d=some o->g.get? d=some o:=fun d o m q=>by
   simp only[Fd,Gj,or_false,not_or]at m;exact(sb2.2 d m.2.2.2.2).trans (hk d o m.1 m.2.1 m.2.2.1 m.2.2.2.1 m.2.2.2.2 q)
  have hn:H s.heap.objs.size=none:=I.hok.fresh (E2 _);have sub5:∀d,d∈[n,n+1,n+2,n+4,n+5]->d∈[n,n+1,n+2,n+3,n+4,n+5]:=fun d hd=>by
   simp only[Fd,Gj,or_false]at hd ⊢;rcases hd with e | e | e | e | e<;>simp[e]
  have hf5:∀d∈[n,n+1,n+2,n+4,n+5],fZ X pins H d:=fun d hd=>hf d (sub5 d hd);have nit:∀d v,H d=some v->d∉[n,n+1,n+2,n+4,n+5]:=fun d v q m=>by rw[(hf5 d m).1]at q;cases q
  have up:∀{d o},d≠n+5->h'.get? d=some o->g.get? d=some o:=fun {d o} m e=>(sb2.2 d m).trans e;refine⟨.ref s.heap.objs.size,upd H s.heap.objs.size (.tup [x,y,u]),?_,rfl,⟨_,x,y,u,hn,rfl,rfl,fun as bs cs q1 q2 q3=>⟨by rw[I.tuple_inj q1 qx];exact hx,by rw[I.list_inj q2 qy];exact hy,by rw[I.tuple_inj q3 qu];exact hu⟩⟩,?_,fun d hd=>?_⟩
  ·show Inv X pins σ _ { s with heap:=g,toks:=s.toks };refine I.step (h':=g) (g':=s.gens) (d':=s.drawn) (t':=s.toks) (ch:=[n,n+1,n+2,n+4,n+5]) (fun d hd=>?_) (fun d o _ _ m q _=>kk d o m q) (fun d o _ _ m q _=>⟨o.slots,kk d o m q⟩)
    (fun d o _ q m=>by rw[aJ (Fe (E5 q))];exact m) (fun d o m q=>⟨o,kk d o m q⟩) (fun d ys q=>by rw[aJ (aN q hn)];exact q) (fun d o v q=>by rw[aJ (aN q hn)];exact q)
    (fun d ps q=>⟨#[],by rw[aJ (aN q hn),q];simp⟩) (fun m hm=>?_) (fun d v q=>?_) I.bare
   ·have f:=hf5 d hd;exact⟨f.2.2.2.1,f.2.1,f.2.2.2.2.1,f.2.2.2.2.2⟩
   ·obtain⟨o,es,ep,q,r⟩:=hm;exact⟨o,es,ep,kk _ o (fun m=>(hf5 _ m).2.1 rfl) q,r⟩
   ·by_cases hd:d=s.heap.objs.size
    ·subst hd;rw[bC]at q;cases q;exact⟨by show 3≤sizeLine;rw[Gg];omega,[x',y',u'],.cons rx (.cons ry (.cons ru .nil)),⟨_,T2,rfl,_,rfl⟩⟩
    ·rw[aJ hd]at q;refine(I.hok d v q).stay (fun e z he q2=>?_) (fun e q2=>by rw[aJ (aN q2 hn)];exact q2) fun e ys q2=>by rw[aJ (aN q2 hn)];exact q2
     have m:e∉[n,n+1,n+2,n+4,n+5]:=by
      rcases he with z | z
      ·rw[z];exact nit d v q
      ·exact nit e _ z
     exact kk e z m q2
  ·refine⟨gz,?_,⟨_,_,_,up (apt (by decide)) w2⟩,w3.at fun o e=>up (Fe (Nat.lt_add_of_pos_right (by decide))) e,w4.at fun o e=>up (apt (by decide)) e,w5.at fun o e=>up (apt (by decide)) e⟩;exact kk _ _ (by simp) hI
  ·have d2:d<s.heap.objs.size:=by
    have lz':d≤n+5:=by
     simp only[Fd,Gj,or_false]at hd;rcases hd with e | e | e | e | e | e<;>rw[e]
     ·exact Nat.le_add_right n 5
     all_goals exact Nat.add_le_add_left (by decide) n
    exact Gz lz' lz
   rw[aJ (Fe d2)];exact(hf d hd).1
 done:=by
  intro X hP hw hK hc i pins s σ H E I hf st hg;subst hP hw hK;obtain⟨xs,qx,hend⟩:=hg;obtain⟨l1,r1,p1,_⟩:=I.tuple qx;obtain⟨hz,hI,_,i1,_,_⟩:=st;refine CQ (I.ok.hd hc) ha hz hI i1 (show s.heap.IsTuple a l1.toArray from p1) (by simpa using qF r1 hend) fun h' hk=>⟨rfl,I.turnedN (t':=s.toks) (ch:=[n,n+5]) (fun d o m q=>?_) fun d hd=>hf d ?_⟩
  ·simp only[Fd,Gj,or_false,not_or]at m;exact hk d o m.1 m.2 q
  ·simp only[Fd,Gj,or_false]at hd ⊢;rcases hd with e | e<;>simp[e]
 self:=fun _ _ _ _ _ st h=>wpAny_pyIter_zip st.1 h
section
variable {X:Cx}
def iZ3(K:PySem.W.Frag)(ta:TA):TI:=fun σ H R=>ta σ H fun vs H1=>∃a b c,vs=[.ref a,.ref b,.ref c]/\(∃xs,SqT K H1 a xs)/\(∃ys,SqL K H1 b ys)/\(∃us,SqT K H1 c us)/\R (Iz3 K a b c) H1
theorem AZ{elts:List Expr}{k1}{tpos:Pos}{c d e:Expr}{ta:TA}{p pos:Pos}(hg:Gl X "zip")(hm:X.mg "zip"=none)(ha:PA X [c,d,e] ta)
  (hs:starEach [c,d,e] X.env=[(false,eval c X.env),(false,eval d X.env),(false,eval e X.env)]:=by rfl) (hs2:starEach [d,e] X.env=[(false,eval d X.env),(false,eval e X.env)]:=by rfl) :
  PI X (.Tuple elts k1 tpos) (.Call (.Name "zip" p) [c,d,e] [] pos) (iZ3 X.K ta):=by
 intro pins s σ H R I h;refine Call_ (gg I hg hm PyProof.Rows.boot_zip (PyProof.Rows.callWith_type1 (thn (ha pos pins s σ H _ I h) fun us s1 ⟨vs,H1,I1,r1,q1⟩=>?_) (by rw[hs,hs2]) (by rw[hs2];rfl)));obtain⟨a,b,c,e,⟨xs,qx⟩,⟨ys,qy⟩,⟨us,qu⟩,q⟩:=q1;subst e;cases r1 with
 | cons r rr =>
  cases rr with
  | cons r' rr =>
   cases rr with
   | cons r'' rr =>
    cases rr;cases r;cases r';cases r'';obtain⟨l1,_,p1,_⟩:=I1.tuple qx;obtain⟨l2,_,p2,_⟩:=I1.list qy;obtain⟨l3,_,p3,_⟩:=I1.tuple qu;have p1':s1.heap.IsTuple a l1.toArray:=p1;have p3':s1.heap.IsTuple c l3.toArray:=p3;obtain⟨_,ea,_⟩:=id p1';obtain⟨_,eb,_⟩:=id p2.isList;obtain⟨_,ec,_⟩:=id p3';refine wJ p1' p2.isList p3' fun h1 hz hI hO i1 i2 i3 kk=>wpAny_pyIter_zip hz ?_;refine⟨_,_,_,_,H1,rfl,I1.kept (t':=s1.toks) kk,wY _ a b c (E5 ea) (E5 eb) (E5 ec),⟨hz,hI,⟨_,_,_,hO⟩,i1,i2,i3⟩,fun f hf=>?_,q⟩;have hb2:s1.heap.objs.size≤f:=by
     simp only[Fd,Gj,or_false]at hf;rcases hf with e | e | e | e | e | e<;>rw[e]
     ·exact E2 _
     all_goals exact Nat.le_add_right _ _
    exact I1.fpOk hb2 (I1.hok.fresh hb2)
end
end L2
namespace U
open L2
variable {B:Bs}{X:Cx}{pos:Pos}
def iX(l m r:List PV):List PV:=(List.range l.length).map fun i=>.tup [l.getD i .non,m.getD i .non,r.getD i .non]
def Ab(vs:List PV)(H1:PHp)(R:It'->PHp->Prop):Prop:=match vs with
 | [.tup l,.ref b,.tup r]=>∃m,H1 b=some (.lst m)/\m.length=l.length/\r.length=l.length/\R ⟨iX l m r,fun H=>H b=some (.lst m)⟩ H1
 | _=>False
theorem DZ:Ab [.tup l,.ref b,.tup r] H R=∃m,H b=some (.lst m)/\m.length=l.length/\r.length=l.length/\R ⟨iX l m r,fun H=>H b=some (.lst m)⟩ H:=rfl
def uZ3(t:TA'):TI':=fun σ H R=>t σ H fun vs H1=>Ab vs H1 R
theorem getD_at{l:List PV}(h:i<l.length):l[i]?=some (l.getD i .non):=by
 rw[ER,EO h];rfl
theorem BM{elts:List Expr}{k1}{tpos:Pos}{c d e:Expr}{t:TA'}{p:Pos}(hg:Gl X "zip")(hm:X.mg "zip"=none)(ha:PA' X B [c,d,e] t)
  (hs:starEach [c,d,e] X.env=[(false,eval c X.env),(false,eval d X.env),(false,eval e X.env)]:=by rfl) (hs2:starEach [d,e] X.env=[(false,eval d X.env),(false,eval e X.env)]:=by rfl) :
  PIH X B (.Tuple elts k1 tpos) (.Call (.Name "zip" p) [c,d,e] [] pos) (uZ3 t):=iG (AZ hg hm ha hs hs2) fun σ H R y_=>by
 obtain⟨σ',H',R',s,h,k⟩:=y_;refine⟨σ',H',_,s,h,fun vs' H1' vs H1 h1 r1 s1 e1=>?_⟩;unfold Ab at h1;split at h1
 ·rename_i l b r;simp only[RPs,RP]at r1;obtain⟨v1,r1,rfl,⟨a,us,rfl,q1,rl⟩,v2,r2,rfl,rfl,v3,r3,rfl,⟨c,ws,rfl,q3,rr⟩,rfl⟩:=r1;obtain⟨m,hb,lm,lr,h1⟩:=h1;obtain⟨ms,q2,_⟩:=s1.hp _ _ hb;have zl:(iX l m r).length=l.length:=by unfold iX;rw[EM,Fv]
  have lk:∀H2' H2,HR X.K H2' H2->H2' b=some (.lst m)->∃ms,SqL X.K H2 b ms/\RPs X.K H2 m ms:=fun H2' H2 hr o=>by
   obtain⟨ms,a1,a2⟩:=hr _ _ o;exact⟨ms,SqL.of a1,a2⟩
  refine⟨a,b,c,rfl,⟨us,q1⟩,⟨ms,SqL.of q2⟩,⟨ws,q3⟩,k _ H1' _ H1 h1 ⟨fun H2' H2 i k2 hr o hi=>?_,fun H2' H2 i x H3 k2 hr o y=>?_,fun H2' H2 k2 hr o=>?_⟩ s1 e1⟩
  ·have hi:i<l.length:=by rw[←zl];exact hi
   obtain⟨ms,c2,d2⟩:=lk _ _ hr o;obtain⟨u,f1,_⟩:=RPs.get _ rl (getD_at hi);obtain⟨v,f2,_⟩:=RPs.get _ d2 (getD_at (l:=m) (i:=i) (by omega));obtain⟨z,f3,_⟩:=RPs.get _ rr (getD_at (l:=r) (i:=i) (by omega));exact⟨us,ms,ws,u,v,z,k2.sqT q1,c2,k2.sqT q3,f1,f2,f3⟩
  ·obtain⟨T,u,v,z,hT,rfl,rfl,hy⟩:=y;obtain⟨ms,c2,d2⟩:=lk _ _ hr o;refine⟨hr.hid hT,Ev.hid hT,fun x' hx=>?_⟩;have hi:i<l.length:=by rw[←zl];exact(EV.mp hx).1
   have ex:x'=.tup [l.getD i .non,m.getD i .non,r.getD i .non]:=by
    have hx:(iX l m r)[i]?=some x':=hx;unfold iX at hx;rw[E7,List.getElem?_range hi]at hx;exact(Fn hx).symm
   subst ex;obtain⟨u',f1,g1⟩:=RPs.get _ (RPs.kp _ k2 rl) (getD_at hi);obtain⟨v',f2,g2⟩:=RPs.get _ d2 (getD_at (l:=m) (i:=i) (by omega));obtain⟨z',f3,g3⟩:=RPs.get _ (RPs.kp _ k2 rr) (getD_at (l:=r) (i:=i) (by omega));obtain⟨y1,y2,y3⟩:=hy us ms ws (k2.sqT q1) c2 (k2.sqT q3);rw[f1]at y1;cases y1;rw[f2]at y2;cases y2;rw[f3]at y3;cases y3;exact sP hT (RPs.cons _ g1 (RPs.cons _ g2 (RPs.cons _ g3 (RPs.nil _))))
  ·refine⟨us,k2.sqT q1,?_⟩;show us[(iX l m r).length]?=none;rw[zl,List.getElem?_eq_none_iff,RPs.length _ rl];exact E2 _
 ·exact h1.elim
end U
set_option Elab.async false
namespace L2
section
variable {κ:Type}[DecidableEq κ]
end
section
variable {P:Program}{w:World}{H:Hp}{h:Heap}{a:Addr}
end
section
variable {X:Cx}{pins:List (Addr×Obj)}{σ:St}{H:Hp}{s:Shared}{a:Addr}{y v:V}{u r:Value}{o:Option V}{A:Around}{E:Value->Shared->Prop}
theorem Inv.big(I:Inv X pins σ H s):sysModules<s.heap.objs.size:=by
 have h:mainGlobals<s.heap.objs.size:=(I.mod.glob.keeps I.bk).lt;exact Nat.lt_trans (by decide) h
end
section
variable {X:Cx}{pins:List (Addr×Obj)}{σ:St}{H:Hp}{s:Shared}{a:Addr}{kvs:List (Key×V)}{k:Key}{u:Value}{A:Around}{E:Value->Shared->Prop}
end
section
variable {X:Cx}{o i e value:Expr}{pos pos' tpos:Pos}{td ty tv:TE}
end
theorem uh(h:Heap)(hb:sysModules<h.objs.size):cB P w H (h.push { cls:=.type "dict",data:=.dict #[] }) h.objs.size (.dK []) :=
 ⟨FP _,beq_eq_false_iff_ne.mpr (Ne.symm (Fe hb)),[],.nil,Heap.DictOf.new h⟩
def zk:TE:=fun _ H Q=>∀p,H p=none->Q (.ref p) (upd H p (.dK []))
section
variable {X:Cx}{pos:Pos}
theorem sE:PE X (.Dict [] [] pos) zk:=fun pins s σ H Q I h =>
 wpAny_Dict_empty ⟨.ref s.heap.objs.size,_,I.laid (a:=s.heap.objs.size) (o:=.dK []) (t':=s.toks) (fun _ _ q=>ET _ q) (E2 _) (uh s.heap I.big),rfl,h _ (I.hok.fresh (E2 _))⟩
end
end L2
namespace SI
section
variable {prog:Program}{w:World}{A:Around}{E:Value->Shared->Prop}{s:Shared}{T:String}{r d:Addr}{n:Nat}{P:Nat->Value->Prop}{OK:Heap->Prop}
end
end SI
namespace L2
variable {X:Cx}
end L2
namespace U
open L2
section
variable {B:Bs}{X:Cx}{a b o i value:Expr}{ta tb td ty:TE'}{pos pos':Pos}
end
section
end
end U
namespace L2
variable {X:Cx}
end L2
namespace U
open L2
section
variable {B:Bs}{X:Cx}{a b e:Expr}{ta tb:TE'}{p p2 pos pos2:Pos}
def B8:R2':=uI xf fun i j=>.int (i*2 ^ j.toNat)
theorem yW(ha:PE' X B a ta)(hb:PE' X B b tb):PE' X B (.BinOp a .LShift b pos) (uOp B8 ta tb):=fC y9 (uG fun _ _ _=>by simp[RP]) ha hb
end
section
variable {B:Bs}{X:Cx}{a b:Expr}{ta tb:TE'}{pos:Pos}
theorem AA{K:PySem.W.Frag}(r:RPs K H l us)(k:Nat):RPs K H (List.replicate k l).flatten (List.replicate k us).flatten:=by
 induction k with
 | zero=>exact RPs.nil _
 | succ k ih =>
  rw[FO,FO,GC,GC];exact RPs.append _ r ih
def jU:R2':=fun x y H Q=>match x,y with
 | .ref a,.int k=>∃l,H a=some (.lst l)/\(0≤k/\k≤100)/\l.length≤100/\∀p,H p=none->Q (.ref p) (put H p (.lst (List.replicate k.toNat l).flatten))
 | _,_=>False
theorem Cb{a:Addr}:jU (.ref a) (.int k) H Q=∃l,H a=some (.lst l)/\(0≤k/\k≤100)/\l.length≤100/\∀p,H p=none->Q (.ref p) (put H p (.lst (List.replicate k.toNat l).flatten)):=rfl
theorem yG{K:PySem.W.Frag}:VR K B jU BZ:=by
 intro σ' σ H' H x' y' x y Q' Q s rx ry h k;unfold jU at h;split at h
 ·rename_i a n;obtain⟨l,e1,hn,hl,h⟩:=h;simp only[RP]at rx ry;subst rx;subst ry;obtain⟨us,q1,r1⟩:=s.hp _ _ e1;have lu:=RPs.length _ r1;refine⟨a,n,us,rfl,rfl,q1,by omega,by omega,?_,fun p hp=>?_⟩
  ·have:us.length*n.toNat≤100*100:=Nat.mul_le_mul (by omega) (by omega);rw[Gg];omega
  ·exact k _ _ _ _ (h p (s.hp.free hp)) (by simp[RP]) (s.new hp (mE hp (AA r1 _))) (Ev.new hp)
 ·exact h.elim
theorem km(ha:PE' X B a ta)(hb:PE' X B b tb):PE' X B (.BinOp a .Mult b pos) (uOp jU ta tb):=fC yk yG ha hb
def yH(g:Bool->Bool):R2:=fun x y H Q=>∃a b xs,x=.ref a/\y=.ref b/\H a=some (.lst xs)/\H b=some (.lst [])/\Q (.bl (g (xs.isEmpty))) H
open SeqAt in
theorem yD(hu:X.A.units+64<cLine):OpR X (compareOp .Eq) (yH fun b=>b):=by
 intro pins s σ H x y v u Q I rx ry h;obtain⟨a,b,xs,rfl,rfl,ha,hb,q⟩:=h;cases rx;cases ry;obtain⟨z,its,n,r,hl,e⟩:=I.lstM ha;obtain⟨z2,its2,n2,r2,hl2,e2⟩:=I.lstM hb;cases r2;have p:s.heap.IsList a its.toArray:=⟨_,e,rfl,_,rfl⟩;have p':s.heap.IsList b ([]:List Value).toArray:=⟨_,e2,rfl,_,rfl⟩;cases r with
 | nil =>
  have:=RcAt.lists (A:=X.A) (e:=fun _=>true) p p' rfl (by omega) fun j h1 h2=>absurd h1 (by simp);exact this _ _ _ _ ⟨.bl _,H,I,rfl,q⟩
 | cons a r =>
  exact RcAt.lists_lengths (A:=X.A) p p' (by simp) (by omega) _ _ _ _ ⟨.bl _,H,I,rfl,q⟩
open SeqAt in
theorem ug(hu:X.A.units+64<cLine):OpR X (compareOp .NotEq) (yH fun b=>!b):=by
 intro pins s σ H x y v u Q I rx ry h;obtain⟨a,b,xs,rfl,rfl,ha,hb,q⟩:=h;cases rx;cases ry;obtain⟨z,its,n,r,hl,e⟩:=I.lstM ha;obtain⟨z2,its2,n2,r2,hl2,e2⟩:=I.lstM hb;cases r2;have p:s.heap.IsList a its.toArray:=⟨_,e,rfl,_,rfl⟩;have p':s.heap.IsList b ([]:List Value).toArray:=⟨_,e2,rfl,_,rfl⟩;cases r with
 | nil =>
  have:=RcNeAt.lists (A:=X.A) (e:=fun _=>true) p p' rfl (by omega) fun j h1 h2=>absurd h1 (by simp);exact this _ _ _ _ ⟨.bl _,H,I,rfl,q⟩
 | cons a r =>
  exact RcNeAt.lists_lengths (A:=X.A) p p' (by simp) (by omega) _ _ _ _ ⟨.bl _,H,I,rfl,q⟩
def nR(g:Bool->Bool):R2':=fun x y H Q=>match x,y with
 | .ref a,.ref b=>∃l,H a=some (.lst l)/\H b=some (.lst [])/\Q (.bl (g l.isEmpty)) H
 | _,_=>False
theorem AN{a b:Addr}:nR g (.ref a) (.ref b) H Q=∃l,H a=some (.lst l)/\H b=some (.lst [])/\Q (.bl (g l.isEmpty)) H:=rfl
theorem mr{K:PySem.W.Frag}:VR K B (nR g) (yH g):=by
 intro σ' σ H' H x' y' x y Q' Q s rx ry h k;unfold nR at h;split at h
 ·rename_i a b;obtain⟨l,e1,e2,h⟩:=h;simp only[RP]at rx ry;subst rx;subst ry;obtain⟨us,q1,r1⟩:=s.hp _ _ e1;obtain⟨ws,q2,r2⟩:=s.hp _ _ e2;have lu:=RPs.length _ r1;have lw:=RPs.length _ r2;have ew:ws=[]:=List.eq_nil_of_length_eq_zero (by simpa using lw);subst ew;have ee:us.isEmpty=l.isEmpty:=by
   cases l<;>cases us<;>simp_all
  exact⟨a,b,us,rfl,rfl,q1,q2,by rw[ee];exact k _ H' _ H h (by simp[RP]) s (Ev.refl _ _)⟩
 ·exact h.elim
end
end U
namespace L2
section
variable {prog:Program}{w:World}{A:Around}{E:Value->Shared->Prop}{s:Shared}
end
variable {X:Cx}
end L2
namespace U
open L2
section
variable {B:Bs}{X:Cx}{e:Expr}{ta:TE'}{pos:Pos}
def uu(x:PV)(lo hi:Option Int)(H3:PHp)(Q:VK'):Prop:=match x with
 | .tup l=>Q (.tup (cX l lo hi)) H3
 | _=>False
theorem DU{lo hi:Option Int}:uu (.tup l) lo hi H Q=Q (.tup (cX l lo hi)) H:=rfl
def wy(ta:TE')(tl th:TO'):TE':=fun σ H Q=>ta σ H fun x H1=>tl σ H1 fun lo H2=>th σ H2 fun hi H3=>uu x lo hi H3 Q
end
section
variable {B:Bs}{X:Cx}{e:Expr}{t u:TE'}
def uEi(t u:TE'):TE':=fun σ H Q=>t σ H Q∨u σ H Q
end
end U
namespace L2
variable {X:Cx}{pos:Pos}
def Eg(K:PySem.W.Frag)(n:Nat)(t:TGs):TG:=fun v σ H Q=>∃a xs,v=.ref a/\SqL K H a xs/\xs.length=n/\t xs σ H Q
theorem yt{es:List Expr}{k:Nat}{t:TGs}{n:Nat}(hc:X.calm=true)(h:PGs X es t)(hn:(assignEach es X.env).length=n:=by rfl)(hst:(assignEach es X.env).findIdx? (·.1)=none:=by rfl) :
  PG X (.Tuple es k pos) (Eg X.K n t):=by
 intro pins s σ H v u Q I r hw;obtain⟨a,xs,e1,hq,hl,hw⟩:=hw;subst e1;cases r;obtain⟨its,rv,p,hz⟩:=I.list hq;rw[assign_Tuple];refine ES (wpAny_standAt ?_);unfold unpack;rw[hst,show(assignEach es X.env).length=its.toArray.size by simp[hn,← hl,rv.length]];refine ES (Gb (PySem.W.kun_itemsOf (I.ok.hd hc) p.isList fun h' hx=>?_));have I1:Inv X pins σ H { s with heap:=h' }:=I.kept (t':=s.toks) fun b o e=>hx b o (Fe (E5 e)) e;exact h pins _ σ H xs _ Q I1 (by simpa using rv) hw
end L2
namespace U
open L2
variable {B:Bs}{X:Cx}{es:List Expr}{pos:Pos}
def yY(n:Nat)(t:gn):TG':=fun v σ H Q=>match v with
 | .ref a=>∃l,H a=some (.lst l)/\l.length=n/\t l σ H Q
 | _=>False
theorem Dy:yY n t (.ref a) σ H Q=∃l,H a=some (.lst l)/\l.length=n/\t l σ H Q:=rfl
theorem Al{k:Nat}{t:gn}{n:Nat}(hc:X.calm=true)(h:tK X B es t)(hn:(assignEach es X.env).length=n:=by rfl)(hst:(assignEach es X.env).findIdx? (·.1)=none:=by rfl):PG' X B (.Tuple es k pos) (yY n t) :=
 kf (yt hc h hn hst) fun v σ H Q y_=>by
 obtain⟨v',σ',H',Q',r,s,h,k⟩:=y_;cases v' with
 | ref a =>
  obtain⟨l,e,hl,h⟩:=h;simp only[RP]at r;subst r;obtain⟨us,q,r⟩:=s.hp _ _ e;exact⟨a,us,rfl,.inl (.inl q),by rw[RPs.length _ r];exact hl,l,σ',H',Q',r,s,h,k⟩
 | _=>exact h.elim
end U
namespace L2
variable {X:Cx}
def sT(l:List Nat):Str:=⟨l.toArray⟩
end L2
namespace U
open L2
variable {B:Bs}{X:Cx}{a b o e:Expr}{es:List Expr}{ta tb to:TE'}{t:TA'}{pos apos cpos:Pos}{name:Str}
abbrev tx(l:List Nat):PV:=.str (sT l)
def EL:R2':=fun x y H Q=>match x,y with
 | .str z,.int i=>z.length≤sizeLine/\∃c,atI z.cps.toList i=some c/\Q (.str ⟨#[c]⟩) H
 | _,_=>False
def EJ:PV->List PV->PHp->VK'->Prop:=fun x vs H Q=>match x,vs with
 | .str z,[.ref a]=>∃ys:List Str,H a=some (.lst (ys.map PV.str))/\z.length≤16/\(ys.map (·.length)).sum+ys.length≤1048576/\Q (.str (Txt.join z ys)) H
 | _,_=>False
def xY(o i v:PV)(H:PHp)(Q:PHp->Prop):Prop:=match o,i with
 | .ref a,.int k=>∃l j,H a=some (.lst l)/\ixN l.length k=some j/\Q (put H a (.lst (l.set j v)))
 | _,_=>False
theorem DS{a:Addr}:xY (.ref a) (.int k) v H Q=∃l j,H a=some (.lst l)/\ixN l.length k=some j/\Q (put H a (.lst (l.set j v))):=rfl
def kq(to ti:TE'):TG':=fun v σ H Q=>to σ H fun o H1=>ti σ H1 fun i H2=>xY o i v H2 fun H3=>Q σ H3
theorem dt{i:Expr}{ti:TE'}(ho:PE' X B o to)(hi:PE' X B i ti) (ha:∀v,assign (.Subscript o i pos) X.env v=(do
   let ov←holding [v] (eval o X.env)
   let iv←holding [v,ov] (eval i X.env)
   standAt pos
   holding [v,ov,iv] (setItem ov iv v)
   release [v,ov,iv] []):=by intro _;rfl):PG' X B (.Subscript o i pos) (kq to ti):=kf (yS ho hi set_list ha) fun v σ H Q h=>by
 obtain⟨v',σ',H',Q',rv,s,h,k⟩:=h;refine⟨σ',H',_,s,h,fun o' H1' o H1 h1 ro s1 e1=>⟨σ',H1',_,s1,h1,fun i' H2' i H2 h2 ri s2 e2=>?_⟩⟩;unfold xY at h2;split at h2
 ·rename_i a n;obtain⟨l,j,ea,ej,q⟩:=h2;have ro2:=RP.kp X.K (e2.kp s1.hp) ro;have rv2:=RP.kp X.K ((e1.trans e2).kp s.hp) rv;simp only[RP]at ro2 ri;obtain⟨us,eg,r⟩:=s2.hp _ _ ea;have new:OAt X.K (upd H2 a (.lst (us.set j v))) a (.lst (l.set j v')):=⟨_,bC,RPs.kp X.K (s2.hp.kpw ea) (RPs.set X.K rv2 j r)⟩;exact⟨a,us,n,j,ro2,ri,eg,by rw[RPs.length _ r];exact ej,k _ _ _ _ q (s2.wr ea new) ((e1.trans e2).trans (Ev.wr ea))⟩
 ·exact h2.elim
end U
namespace L2
variable {X:Cx}
section
variable {e e3:Expr}{te:TE}{ts:TO}{pos p2:Pos}
end
end L2
namespace U
open L2
section
variable {B:Bs}{X:Cx}{a b o e e3:Expr}{es:List Expr}{ta tb to:TE'}{t:TA'}{pos p2 apos cpos:Pos}{name:Str}
end
section
variable {B:Bs}
section
variable {X:Cx}{k:Nat}{f C:Addr}{fd:FuncData}{ps:List Str}{sp:Sp'}{E:XK}{E':XK'}{x m:Str}{p pos apos:Pos}{e o:Expr}{es:List Expr}{ta:TE'}{t:TA'}
def xI(C:Addr)(sp:Sp')(t:TA'):TX':=fun σ H Q E=>t σ H fun vs H1=>∀x dx,H1 x=none->H1 dx=none->dx≠x->sp (.ref x::vs) (put H1 x (.ins C dx [])) (fun v H2=>v=.non/\Q (.ref x) H2) E
theorem runM{σ:L2.St}{Q':VK'}(pn:Plain X)
  (M:Mk X.K C f) (F:aT X.prog X.w X.K X.mg X.base (CXU X.prog X.w) k f fd ps sp) (hr:cv (k+1) X.A) (hb:Binds X.K fd ps []) (I:Inv X pins σ H s) (sr:SR X.K B σ' H' σ H) (r:Vals vs us) (r':RPs X.K H vs' vs)
  (h:∀x dx,H' x=none->H' dx=none->dx≠x->sp (.ref x::vs') (put H' x (.ins C dx [])) (fun v H2=>v=.non/\Q' (.ref x) H2) E')
  (hQ:∀v' H1' v H1,Q' v' H1'->RP X.K H1 v' v->SR X.K B σ' H1' σ H1->Ev H' H H1' H1->Q v H1) (hE:∀a s1,nL X B pins σ' H' H E' σ a s1->Ex (.ref a) s1) :
  wpAny (model X.prog X.w) X.A (call (.ref C) us) (EP X pins σ Q) Ex s:=by
 have nx:H (s.heap.objs.size+1)=none:=I.hok.fresh (Nat.le_succ _);have nd:H s.heap.objs.size=none:=I.hok.fresh (E2 _);have ne:s.heap.objs.size≠s.heap.objs.size+1:=Fe (Nat.lt_succ_self _);have h2:=h (s.heap.objs.size+1) s.heap.objs.size (sr.hp.free nx) (sr.hp.free nd) ne;have I2:=Inv.made (C:=C) I;have nx2:upd H s.heap.objs.size (.own (s.heap.objs.size+1)) (s.heap.objs.size+1)=none:=by rw[aJ (Ne.symm ne)];exact nx
 have sd:=sr.hid (o:=.own (s.heap.objs.size+1)) nd;have new:OAt X.K (upd (upd H s.heap.objs.size (.own (s.heap.objs.size+1))) (s.heap.objs.size+1) (.ins C s.heap.objs.size [])) (s.heap.objs.size+1) (.ins C s.heap.objs.size []):=⟨[],bC,.nil⟩;have s2:=sd.new nx2 new;have e2:Ev H' H (put H' (s.heap.objs.size+1) (.ins C s.heap.objs.size [])) (upd (upd H s.heap.objs.size (.own (s.heap.objs.size+1))) (s.heap.objs.size+1) (.ins C s.heap.objs.size [])):=(Ev.hid nd).trans (Ev.new nx2);have hsp:fG X.K sp (V.ref (s.heap.objs.size+1)::vs) (upd (upd H s.heap.objs.size (.own (s.heap.objs.size+1))) (s.heap.objs.size+1) (.ins C s.heap.objs.size [])) (fun v H2=>v=.non/\Q (.ref (s.heap.objs.size+1)) H2) (fun c d H1=>∃H1',E' c d H1'/\HR X.K H1' H1/\Ev H' H H1' H1):=by
  refine⟨.ref (s.heap.objs.size+1)::vs',_,_,E',RPs.cons _ (by simp[RP]) (RPs.kp X.K (e2.kp sr.hp) r'),s2.hp,h2,fun v' H3' v H3 q r3 h3 e3=>?_,fun c d H3' H3 q h3 e3=>⟨H3',q,h3,e2.trans e3⟩⟩;obtain⟨rfl,q⟩:=q;simp only[RP]at r3;exact⟨r3,hQ _ _ _ _ q (by simp[RP]) (s2.kp e3 h3) (e2.trans e3)⟩
 have r2:Vals (V.ref (s.heap.objs.size+1)::vs) (Value.ref (s.heap.objs.size+1)::us):=.cons rfl r;have hl:(Value.ref (s.heap.objs.size+1)::us++[]).length=ps.length:=by
  rw[FH,← r2.length];exact F.len _ _ _ _ hsp
 have hb':=hb _ (Value.ref (s.heap.objs.size+1)::us) I2.kIn hl;rw[FH]at hb';refine wpAny_call (lP (f:=f) I.kIn M.makes M.init (Gd.mp M.fn) (GG (F.run _ X.stack _ _ ⟨Value.ref (s.heap.objs.size+1)::us,[]⟩ (Value.ref (s.heap.objs.size+1)::us) _ _ _ (hr.make C us [])
  (I2.env0.make C us []) hb' r2 hsp) fun r s' hq'=>?_))
 cases r with
 | error e =>
  have hq:CXU X.prog X.w X.stack _ _ (fun c d H1=>∃H1',E' c d H1'/\HR X.K H1' H1/\Ev H' H H1' H1) e s':=hq';obtain⟨a,C1,T,H1,rfl,I1,x1,⟨H1',q,h1,e1⟩,_⟩:=rp I2 pn hq;exact hE a s' ⟨H1',H1,C1,T,I1,x1,sr.kp e1 h1,e1,q⟩
 | ok fl =>
  cases fl with
  | ret u =>
   obtain⟨v,H',I3,rv,ev,q3⟩:=I2.after hq';subst ev;exact⟨rv,⟨V.ref (s.heap.objs.size+1),H',I3,rfl,q3⟩⟩
  | next=>exact False.elim hq'
  | brk=>exact False.elim hq'
  | cont=>exact False.elim hq'
theorem xh(pn:Plain X)(M:Mk X.K C f)(F:aT X.prog X.w X.K X.mg X.base (CXU X.prog X.w) k f fd ps sp)(hr:cv (k+1) X.A)(hg:Gl X x)(hm:X.mg x=some (.ref C))(hb:Binds X.K fd ps [])
  (ha:PA' X.nox B (e::es) t) (hdb:(x==("__debug__":Str))=false:=by decide) (he:starEach (e::es) X.env=(false,eval e X.env)::starEach es X.env:=by rfl) (hpl:(backTo pos (starEach es X.env)).any (·.1)=false:=by rfl) :
  PXE X B (.Call (.Name x p) (e::es) [] pos) (xI C sp t):=by
 intro Ex pins s σ H Q σ' H' Q' E' I sr h hQ hE;refine wpAny_Call_Name_kw (eQ I hg hm ?_ hdb);have hA:=ha pos pins s σ H (fun vs H1=>∃vs' H1',RPs X.K H1 vs' vs/\SR X.K B σ' H1' σ H1/\Ev H' H H1' H1/\∀x dx,H1' x=none->H1' dx=none->dx≠x->sp (.ref x::vs') (put H1' x (.ins C dx [])) (fun v H2=>v=.non/\Q' (.ref x) H2) E') (I.wish _) ⟨σ',H',_,sr,h,fun vs' H1' vs H1 q r s1 e1=>⟨vs',H1',r,s1,e1,q⟩⟩;refine PySem.W.callWith_K (h₀:=X.base) I.ok.mod.kin M.kp (thn (xP hA) fun us s1 ⟨vs,H1,I1,r,vs',H1',r',s1',e1,q⟩=>⟨I1.kIn,?_⟩) he hpl;exact runM pn M F hr hb I1.unwish s1' r r' q (fun v' H2' v H2 q r2 s2 e2=>hQ v' H2' v H2 q r2 s2 (e1.trans e2)) fun a s2 c=>hE a s2 (c.later e1)
end
end
end U
namespace NM
open Sem (wp)
variable {prog:Program}{w:World}{A:Around}{E:Value->Shared->Prop}{s:Shared}
def b2(b:Bool):Int:=if b then 1 else 0
end NM
namespace L2
variable {X:Cx}
end L2
namespace U
open L2
variable {B:Bs}{X:Cx}{pos:Pos}
def uP:TE':=fun _ H Q=>∀p,H p=none->Q (.ref p) (put H p (.dK []))
theorem uW:PE' X B (.Dict [] [] pos) uP:=bu sE fun σ H Q y_ p hp=>by
 obtain⟨σ',H',Q',s,h,k⟩:=y_;have hp':=s.hp.free hp;refine k _ _ _ _ (h p hp') (by simp[RP]) (s.new hp ⟨[],bC,.nil⟩) (Ev.new hp)
end U
namespace DM
abbrev P2:=Int×Int
def pk(p:P2):Int:=6*p.1+p.2
structure Good (c:Int) (l:List P2):Prop where
 nd:l.Nodup
 lo:∀p∈l,0≤p.1/\p.1<p.2/\p.2<c
theorem gx{α:Type}(k:α->Int):∀{a b:List α},a.Pairwise (fun x y=>k x<k y)->b.Pairwise (fun x y=>k x<k y)->(∀x,x∈a↔x∈b)->a=b
 | [],[],_,_,_=>rfl
 | [],y::b,_,_,h=>by have:=(h y).mpr E1;simp at this
 | x::a,[],_,_,h=>by have:=(h x).mp E1;simp at this
 | x::a,y::b,ha,hb,h=>by
  obtain⟨h1,h2⟩:=List.pairwise_cons.mp ha;obtain⟨g1,g2⟩:=List.pairwise_cons.mp hb;have e:x=y:=by
   rcases Fd.mp ((h x).mp E1)with e | m
   ·exact e
   ·rcases Fd.mp ((h y).mpr E1)with e | m'
    ·exact e.symm
    ·have a1:=g1 x m;have a2:=h1 y m';omega
  subst e;congr 1;refine gx k h2 g2 fun z=>⟨fun m=>?_,fun m=>?_⟩
  ·rcases Fd.mp ((h z).mp (EY _ m))with e | m'
   ·subst e;have:=h1 z m;omega
   ·exact m'
  ·rcases Fd.mp ((h z).mpr (EY _ m))with e | m'
   ·subst e;have:=g1 z m;omega
   ·exact m'
theorem eM{a b l:List P2}(ha:a.Perm l)(sa:a.Pairwise (fun x y=>pk x<pk y))(hb:b.Perm l)(sb:b.Pairwise (fun x y=>pk x<pk y)):a=b :=
 gx pk sa sb fun x=>ha.mem_iff.trans hb.mem_iff.symm
theorem Good.perm(g:Good c l)(h:m.Perm l):Good c m:=⟨h.nodup_iff.mpr g.nd,fun p hp=>g.lo p (h.mem_iff.mp hp)⟩
theorem Good.prs(g:Good c l)(hc:c≤6):∀p∈l,p∈SP.prs:=fun p hp=>by
 have:=g.lo p hp;exact SP.vn (u:=p.1) (v:=p.2) this.1 this.2.1 (by omega)
theorem ib{α:Type}[BEq α][LawfulBEq α]{l m:List α}(nd:l.Nodup)(h:∀x∈l,x∈m):l.length≤m.length:=by
 induction l generalizing m with
 | nil=>simp
 | cons x l ih =>
  obtain⟨h1,h2⟩:=List.nodup_cons.mp nd;have hx:=h x E1;have:=ih (m:=m.erase x) h2 fun y hy=>(List.mem_erase_of_ne (by rintro rfl;exact h1 hy)).mpr (h y (EY _ hy));have e:=List.length_erase_of_mem hx;have:0<m.length:=List.length_pos_of_mem hx;simp only[EU];omega
theorem Good.len(g:Good c l)(hc:c≤6):l.length≤15:=ib g.nd (g.prs hc)
theorem vd(hc:c≤6){l:List P2}(g:Good c l)(s:l.Pairwise (fun x y=>pk x<pk y))(hn:n<c) :
  (l.filter (fun p=>decide (p.2=n))).map (·.1)=((List.range n.toNat).map fun k=>((k:Nat):Int)).filter (fun u=>decide ((u,n)∈l)):=by
 refine gx id ?_ ?_ fun x=>?_
 ·rw[List.pairwise_map];refine List.Pairwise.imp_of_mem (fun {a b} ha hb h=>?_) (s.filter _);have h1:=F0.mp ha;have h2:=F0.mp hb;have e1:a.2=n:=by simpa using h1.2
  have e2:b.2=n:=by simpa using h2.2
  unfold pk at h;show a.1<b.1;omega
 ·refine List.Pairwise.filter _ ?_;rw[List.pairwise_map];refine List.Pairwise.imp (fun h=>?_) List.pairwise_lt_range;simp only[id];omega
 ·simp only[E3,F0,decide_eq_true_eq,Ft];constructor
  ·rintro⟨p,⟨hp,e⟩,rfl⟩;have:=g.lo p hp;refine⟨⟨p.1.toNat,by omega,by omega⟩,?_⟩;rw[←e];exact hp
  ·rintro⟨⟨k,hk,rfl⟩,hm⟩;exact⟨_,⟨hm,rfl⟩,rfl⟩
def tri:Nat->Nat
 | 0=>0
 | n+1=>tri n+n
theorem yM:∀v,v<6->tri v+v≤15:=by decide
end DM
namespace My
def gd(a b:Int):Int:=(Int.gcd a b:Nat)
theorem pw(a:Int):gd a 0=if a<0 then -a else a:=by
 unfold gd;rw[Int.gcd_zero_right];split<;>omega
theorem Ar(a b:Int):gd (if a<0 then -a else a) (if b<0 then -b else b)=gd a b:=by
 unfold gd;have h:∀x:Int,(if x<0 then -x else x)=(x.natAbs:Int):=fun x=>by split<;>omega
 rw[h,h];simp[Int.gcd]
theorem oX(a b:Int):gd b (Int.fmod a b)=gd a b:=by
 unfold gd;congr 1;apply Nat.dvd_antisymm
 ·apply Int.dvd_gcd
  ·have h1:=Int.gcd_dvd_left b (a.fmod b);have h2:=Int.gcd_dvd_right b (a.fmod b);have e:a=b*a.fdiv b+a.fmod b:=by rw[Int.fmod_def];omega
   have h3:((b.gcd (a.fmod b):Nat):Int) ∣ b*a.fdiv b+a.fmod b:=Int.dvd_add (Int.dvd_mul_of_dvd_left h1) h2;rw[←e]at h3;exact h3
  ·exact Int.gcd_dvd_left b (a.fmod b)
 ·apply Int.dvd_gcd
  ·exact Int.gcd_dvd_right a b
  ·have h1:=Int.gcd_dvd_left a b;have h2:=Int.gcd_dvd_right a b;rw[Int.fmod_def];exact Int.dvd_sub h1 (Int.dvd_mul_of_dvd_left h2)
theorem cK(a b:Int)(h:b≠0):0<gd a b:=by
 unfold gd;have:0<a.gcd b:=Int.gcd_pos_iff.mpr (Or.inr h);omega
theorem dw(a b:Int):gd a b ∣ a:=Int.gcd_dvd_left a b
theorem dB(a b:Int):gd a b ∣ b:=Int.gcd_dvd_right a b
theorem xx(a b:Int)(h:b≠0):gd a b≤if b<0 then -b else b:=by
 have d:=dB a b;have:gd a b ∣ (if b<0 then -b else b):=by
  split
  ·exact Int.dvd_neg.mpr d
  ·exact d
 exact Int.le_of_dvd (by split<;>omega) this
theorem uR(a b:Int)(h:b≠0){x y:Int}(ex:a=gd a b*x)(ey:b=gd a b*y):gd x y=1:=by
 have hp:=cK a b h;have hd:gd a b*gd x y ∣ gd a b:=by
  have h1:gd a b*gd x y ∣ a:=by
   conv=>rhs;rw[ex]
   exact Int.mul_dvd_mul_left _ (dw x y)
  have h2:gd a b*gd x y ∣ b:=by
   conv=>rhs;rw[ey]
   exact Int.mul_dvd_mul_left _ (dB x y)
  have h3:=Int.dvd_coe_gcd h1 h2;exact h3
 obtain⟨k,hk⟩:=hd;have e1:gd a b*(gd x y*k)=gd a b*1:=by rw[←FU,← hk,Int.mul_one]
 have e2:gd x y*k=1:=Int.eq_of_mul_eq_mul_left (by omega) e1;have hn:0≤gd x y:=Int.natCast_nonneg _;have:gd x y ∣ 1:=⟨k,e2.symm⟩;exact Int.eq_one_of_dvd_one hn this
abbrev ab(x:Int):Int:=if x<0 then -x else x
theorem zh(h:gd a b=gd c d)(p:0≤b)(z:b≠0):0≤b/\0≤Int.fmod a b/\gd b (Int.fmod a b)=gd c d :=
 ⟨p,Int.fmod_nonneg_of_pos a (by omega),(oX a b).trans h⟩
theorem oJ(a b:Int):0<b->0<gd a b/\gd a b≤b:=fun h=>by
 have:=xx a b (by omega);rw[Fo (by omega)]at this;exact⟨cK a b (by omega),this⟩
theorem zJ(a b:Int):gd (-a) (-b)=gd a b:=by
 unfold gd;simp[Int.gcd]
structure Low (a b x y:Int):Prop where
 ex:∃g,a=g*x/\b=g*y
 one:gd x y=1
theorem zw(hb:b≠0)(hg:g=gd a b∨g=-gd a b)(ex:a=g*x)(ey:b=g*y):Low a b x y:=by
 refine⟨⟨g,ex,ey⟩,?_⟩;rcases hg with rfl | rfl
 ·exact uR a b hb ex ey
 ·have h:=uR (-a) (-b) (by omega) (x:=x) (y:=y);rw[zJ]at h;refine h ?_ ?_
  ·conv=>lhs;rw[ex]
   rw[Int.neg_mul,Int.neg_neg]
  ·conv=>lhs;rw[ey]
   rw[Int.neg_mul,Int.neg_neg]
theorem Low.cross(h:Low a b x y):x*b=a*y:=by
 obtain⟨g,e1,e2⟩:=h.ex;rw[e1,e2,← FU,F1 x g]
theorem fc(hg:g≠0)(d:g ∣ a):a=g*Int.fdiv a g:=by
 rw[Int.fdiv_eq_ediv_of_dvd d];exact(Int.mul_ediv_cancel' d).symm
theorem div_pos(hb:b≠0)(hg:g≠0)(d:g ∣ b)(s:(0<b/\0<g)∨(b<0/\g<0)):0<Int.fdiv b g:=by
 have e:=fc hg d;generalize Int.fdiv b g=q at e;rcases (show q≤0∨0<q by omega)with h | h
 ·rcases s with⟨s1,s2⟩ |⟨s1,s2⟩
  ·have:=Int.mul_nonpos_of_nonneg_of_nonpos (Int.le_of_lt s2) h;omega
  ·have:=Int.mul_nonneg_of_nonpos_of_nonpos (Int.le_of_lt s2) h;omega
 ·exact h
theorem wV(hb:b≠0)(hg:(0<b/\g=gd a b)∨(b<0/\g=-gd a b)):Low a b (Int.fdiv a g) (Int.fdiv b g)/\0<Int.fdiv b g:=by
 have hp:=cK a b hb;have hgn:g≠0:=by omega
 have d1:g ∣ a:=by
  rcases hg with⟨_,rfl⟩ |⟨_,rfl⟩
  ·exact dw a b
  ·exact Int.neg_dvd.mpr (dw a b)
 have d2:g ∣ b:=by
  rcases hg with⟨_,rfl⟩ |⟨_,rfl⟩
  ·exact dB a b
  ·exact Int.neg_dvd.mpr (dB a b)
 refine⟨zw hb (by omega) (fc hgn d1) (fc hgn d2),div_pos hb hgn d2 (by omega)⟩
end My
namespace My
open U
theorem kC(a b:Int)(h:b≠0):(a.fmod b).natAbs<b.natAbs:=by
 rcases (show 0<b∨b<0 by omega)with hb | hb
 ·have h1:=Int.fmod_nonneg_of_pos a hb;have h2:=Int.fmod_lt_of_pos a hb;omega
 ·have e:a.fmod b=-((-a).fmod (-b)):=by rw[Int.neg_fmod_neg];omega
  have h1:=Int.fmod_nonneg_of_pos (-a) (show 0 < -b by omega);have h2:=Int.fmod_lt_of_pos (-a) (show 0 < -b by omega);omega
def BN(n:Nat)(i:Int):Prop:=i.natAbs<2 ^ n
theorem BN.fit(h:BN n i)(hn:n≤9000):Fit i:=by
 unfold Fit;unfold BN at h;rcases Nat.eq_zero_or_pos i.natAbs with h0 | hp
 ·rw[h0,Nat.log2_zero];omega
 ·have:=(Nat.log2_lt (GF hp)).mpr h;omega
theorem BN.of_le(h:BN n i)(g:j.natAbs≤i.natAbs):BN n j:=Gz g h
def num(c:Int):Int:=if c.fmod 4=0 then(c.fdiv 4*982451653).fmod (2*10 ^ 60 - 1) - 10 ^ 60+1 else if c.fmod 4=1 then(c.fdiv 4).fmod 2001 - 1000 else(c.fdiv 4).fmod 25 - 12
def j5(a b:Int):Int×Int:=(a.fdiv (gd a (if b=0 then 1 else b)),(if b=0 then 1 else b).fdiv (gd a (if b=0 then 1 else b)))
def cF(a b:Int):Int×Int:=if b<0 then j5 (-a) (-b)else j5 a b
end My
namespace My
abbrev P2:=Int×Int
theorem ib:∀(m:Nat) (f:List Int),f.Nodup->(∀x∈f,0≤x/\x<(m:Int))->f.length≤m
 | 0,f,_,h=>by
  cases f with
  | nil=>exact E2 _
  | cons x f=>have:=h x E1;omega
 | m+1,f,hn,h=>by
  have q:=ib m (f.erase (m:Int)) (hn.erase _) (fun x hx=>by
   have hx':=List.mem_of_mem_erase hx;have:=h x hx';have ne:x≠(m:Int):=(List.Nodup.mem_erase_iff hn).mp hx |>.1
   omega)
  by_cases hm:(m:Int)∈f
  ·rw[List.length_erase_of_mem hm]at q;omega
  ·rw[List.erase_of_not_mem hm]at q;omega
end My
namespace Lw
open L2 U
theorem boot_all:bootBuiltins "all"=some (.builtin "all"):=by decide +kernel
theorem boot_sorted:bootBuiltins "sorted"=some (.builtin "sorted"):=by decide +kernel
theorem boot_set:bootBuiltins "set"=some (.type "set"):=by decide +kernel
theorem gX:bootBuiltins "ValueError"=some (.type "ValueError"):=by decide +kernel
theorem boot_min:bootBuiltins "min"=some (.builtin "min"):=by decide +kernel
theorem uX{x y:PV}:atI [x,y] 0=some x:=rfl
theorem sF{x y:PV}:atI [x,y] 1=some y:=rfl
def top(i:Nat):Stmt:=PySem.Challenge.pw_doingbook_k22_what_makes_no_world.main.body.getD i (.Pass ⟨0,0,0,0⟩)
abbrev qj:Stmt:=top 2
local macro_rules | `(tactic| walk_at "q") => `(tactic| exact ⟨rfl, rfl, rfl, by decide +kernel, rfl, by decide +kernel, by decide +kernel⟩)
theorem oS:aG ["numbers","told","number"] ["numbers"] (ai qj):=by walk_at "q"
abbrev qB:Stmt:=top 28
theorem Bo:aG ["count","pair"] ["count","pair"] (ai qB):=by walk_at "q"
abbrev mR:Stmt:=top 29
theorem BG:aG ["count","pairs"] ["count","pairs"] (ai mR):=by walk_at "q"
abbrev kD:Stmt:=inClass (top 31) 0
theorem sg:aG ["self","count","ties","bows","own_ties","own_bows"] ["self","count","ties","bows"] (ai kD):=by walk_at "q"
abbrev rD:Stmt:=inClass (top 31) 2
theorem Cw:aG ["self","name"] ["self","name"] (ai rD):=by walk_at "q"
abbrev nC:Stmt:=inClass (top 31) 4
theorem CC:aG ["self","name"] ["self","name"] (ai nC):=by walk_at "q"
abbrev qb:Stmt:=top 33
theorem oZ:aG ["a","b","rest"] ["a","b"] (ai qb):=by walk_at "q"
abbrev rG:Stmt:=top 34
theorem se:aG ["top","bottom","divisor"] ["top","bottom"] (ai rG):=by walk_at "q"
abbrev qS:Stmt:=top 35
theorem oR:aG ["parts","bottom","part"] ["parts"] (ai qS):=by walk_at "q"
abbrev mX:Stmt:=top 36
theorem BD:aG ["parts","bottom"] ["parts","bottom"] (ai mX):=by walk_at "q"
abbrev qT:Stmt:=top 37
theorem xR:aG ["parts","bottom"] ["parts"] (ai qT):=by walk_at "q"
abbrev rF:Stmt:=top 43
theorem B9:aG ["part"] ["part"] (ai rF):=by walk_at "q"
abbrev mY:Stmt:=top 44
theorem Bb:aG ["parts"] ["parts"] (ai mY):=by walk_at "q"
abbrev mm:Stmt:=top 45
theorem Cz:aG ["parts"] ["parts"] (ai mm):=by walk_at "q"
abbrev mZ:Stmt:=top 46
theorem BE:aG ["drawing","sizes"] ["drawing","sizes"] (ai mZ):=by walk_at "q"
abbrev nV:Stmt:=top 47
theorem Cj:aG ["drawing","hidden"] ["drawing","hidden"] (ai nV):=by walk_at "q"
abbrev nK:Stmt:=top 48
theorem AJ:aG ["drawing","name"] ["drawing","name"] (ai nK):=by walk_at "q"
abbrev nE:Stmt:=top 49
theorem A6:aG ["drawing","hidden","name"] ["drawing","hidden","name"] (ai nE):=by walk_at "q"
abbrev mG:Stmt:=top 50
theorem Bx:aG ["drawing","sizes","hidden","name"] ["drawing","sizes","hidden","name"] (ai mG):=by walk_at "q"
abbrev nS:Stmt:=top 51
theorem Bh:aG ["table","rows","size"] ["table","rows","size"] (ai nS):=by walk_at "q"
abbrev kU:Stmt:=top 52
theorem xW:aG ["drawing","sizes","hidden","tables","rows"] ["drawing","sizes","hidden","tables"] (ai kU):=by walk_at "q"
abbrev jQ:Stmt:=inClass (top 53) 0
theorem kK:aG ["self","drawing","sizes","hidden","tables","own_drawing","own_sizes","own_hidden","own_tables"] ["self","drawing","sizes","hidden","tables"] (ai jQ):=by walk_at "q"
abbrev qA:Stmt:=top 55
theorem Cv:aG ["_law_script","_law_k"] ["_law_script","_law_k"] (ai qA):=by walk_at "q"
abbrev qk:Stmt:=top 56
theorem gH:aG ["_law_cell","_law_many","_law_found","_law_number","_law_k"] ["_law_cell","_law_many"] (ai qk):=by walk_at "q"
abbrev qz:Stmt:=top 57
theorem pI:aG ["_law_one","_law_other","_law_rest"] ["_law_one","_law_other"] (ai qz):=by walk_at "q"
abbrev rB:Stmt:=top 58
theorem ji:aG ["_law_top","_law_bottom","_law_share"] ["_law_top","_law_bottom"] (ai rB):=by walk_at "q"
abbrev qg:Stmt:=top 59
theorem eD:aG ["_law_script","_law_at","_law_first","_law_count","_law_kind","_law_xs","_law_ties","_law_bows","_law_k","_law_v","_law_u"] ["_law_script","_law_at"] (ai qg):=by walk_at "q"
abbrev qN:Stmt:=top 60
theorem oq:aG ["_law_digit","_law_size","_law_full","_law_found","_law_k"] ["_law_digit","_law_size","_law_full"] (ai qN):=by walk_at "q"
abbrev nh:Stmt:=top 61
theorem xU:aG ["_law_cell","_law_many","_law_size","_law_full","_law_xs"] ["_law_cell","_law_many","_law_size","_law_full"] (ai nh):=by walk_at "q"
abbrev lI:Stmt:=top 62
theorem xG:aG ["_law_shape","_law_name","_law_bows"] ["_law_shape","_law_name"] (ai lI):=by walk_at "q"
abbrev mD:Stmt:=top 63
theorem bT:aG ["_law_script","_law_at","_law_shape","_law_most","_law_count","_law_ties","_law_bows","_law_xs","_law_full","_law_sizes","_law_ways","_law_name","_law_size","_law_hidden","_law_k","_law_width","_law_tables","_law_sources","_law_under","_law_many","_law_other"] ["_law_script","_law_at","_law_shape","_law_most"] (ai mD):=by walk_at "q"
abbrev mW:Stmt:=top 64
theorem Cc:aG ["_law_weights_here"] ["_law_weights_here"] (ai mW):=by walk_at "q"
abbrev lN:Stmt:=top 65
theorem kO:aG ["_law_world_here","_law_sizes","_law_hidden","_law_tables","_law_rows_here"] ["_law_world_here"] (ai lN):=by walk_at "q"
abbrev lA:Stmt:=top 66
theorem ia:aG ["_law_told","_law_bits","_law_sizes","_law_hidden","_law_tables","_law_rows_here","_law_table"] ["_law_told","_law_bits"] (ai lA):=by walk_at "q"
abbrev qV:Stmt:=top 67
theorem oo:aG ["_law_script","_law_count","_law_ties","_law_bows"] ["_law_script"] (ai qV):=by walk_at "q"
abbrev qi:Stmt:=top 68
theorem xu:aG ["_law_shape","_law_told","_law_bits","_law_rows_here"] ["_law_shape","_law_told","_law_bits"] (ai qi):=by walk_at "q"
abbrev qQ:Stmt:=top 69
theorem lZ:aG ["_law_e","_law_found","_law_told","_law_name","_law_truth"] ["_law_e"] (ai qQ):=by walk_at "q"
abbrev qr:Stmt:=top 70
theorem xt:aG ["_law_row","_law_way","_law_far","_law_less"] ["_law_row","_law_way","_law_far"] (ai qr):=by walk_at "q"
abbrev rA:Stmt:=top 71
theorem d8:aG ["_law_rows_here","_law_way","_law_cell","_law_far","_law_sizes","_law_hidden","_law_tables","_law_at","_law_told","_law_row","_law_held"] ["_law_rows_here","_law_way","_law_cell","_law_far"] (ai rA):=by walk_at "q"
abbrev qY:Stmt:=top 72
theorem tF:aG ["_law_drawing","_law_rows_here","_law_caught","_law_e"] ["_law_drawing","_law_rows_here"] (ai qY):=by walk_at "q"
abbrev mK:Stmt:=top 73
theorem d6:aG ["_law_script","_law_shape","_law_told","_law_drawing","_law_cell","_law_way","_law_far","_law_rows_here","_law_great","_law_six","_law_world_here"] ["_law_script"] (ai mK):=by walk_at "q"
set_option genInjectivity false
structure Ad where
 a_zL:Addr
 d_zL:FuncData
 a_zM:Addr
 d_zM:FuncData
 a_zD:Addr
 d_zD:FuncData
 a_zg:Addr
 d_zg:FuncData
 a_za:Addr
 d_za:FuncData
 a_zc:Addr
 d_zc:FuncData
 a_zb:Addr
 d_zb:FuncData
 a_zH:Addr
 d_zH:FuncData
 a_ze:Addr
 d_ze:FuncData
 a_zB:Addr
 d_zB:FuncData
 a_zO:Addr
 d_zO:FuncData
 a_zK:Addr
 d_zK:FuncData
 a_zt:Addr
 d_zt:FuncData
 a_zN:Addr
 d_zN:FuncData
 a_zE:Addr
 d_zE:FuncData
 a_zv:Addr
 d_zv:FuncData
 a_zn:Addr
 d_zn:FuncData
 a_zf:Addr
 d_zf:FuncData
 a_zq:Addr
 d_zq:FuncData
 a_zI:Addr
 d_zI:FuncData
 a_zo:Addr
 d_zo:FuncData
 a_zs:Addr
 d_zs:FuncData
 a_zl:Addr
 d_zl:FuncData
 a_zz:Addr
 d_zz:FuncData
 a_zk:Addr
 d_zk:FuncData
 a_zp:Addr
 d_zp:FuncData
 a_zy:Addr
 d_zy:FuncData
 a_zm:Addr
 d_zm:FuncData
 a_zF:Addr
 d_zF:FuncData
 a_zw:Addr
 d_zw:FuncData
 a_zC:Addr
 d_zC:FuncData
 a_zr:Addr
 d_zr:FuncData
 a_zd:Addr
 d_zd:FuncData
 a_zu:Addr
 d_zu:FuncData
 a_zx:Addr
 d_zx:FuncData
 a_zG:Addr
 d_zG:FuncData
 a_zA:Addr
 d_zA:FuncData
 a_zh:Addr
 d_zh:FuncData
 a_zJ:Addr
 d_zJ:FuncData
 a_zj:Addr
 d_zj:FuncData
 a_zT:Addr
 d_zT:FuncData
 a_A:Addr
 a_B:Addr
 a_C:Addr
 a_D:Addr
 a_E:Addr
 a_F:Addr
 a_G:Addr
 a_H:Addr
 a_I:Addr
 a_J:Addr
 a_K:Addr
 a_L:Addr
 a_M:Addr
 a_N:Addr
 a_O:Addr
 a_P:Addr
 a_Q:Addr
 a_R:Addr
 a_S:Addr
 a_T:Addr
 a_U:Addr
 a_V:Addr
 a_W:Addr
abbrev kX1(K:PySem.W.Frag)(a b:Addr):=PySem.W.kitOne K (.ref a) (.ref b)=some false
abbrev nX1(K:PySem.W.Frag)(x:Str)(a:Addr):=PySem.W.nsIn K mainGlobals x=some (some (.ref a))
abbrev nX2(K:PySem.W.Frag)(x:Str):=PySem.W.nsIn K mainGlobals x=some none
abbrev fX1(K:PySem.W.Frag)(c:Addr)(x:Str)(a:Addr):=PySem.W.findIn K (.ref c) x=some (some (.ref a))
structure Tx (K:PySem.W.Frag) (mg:Str→Option Value) (t:Ad):Prop where
 F_zL:Fun K "product" "product" qj t.a_zL t.d_zL
 B_zL:Binds K t.d_zL ["numbers"] []
 g_zL:mg "product"=some (.ref t.a_zL)
 F_zM:Fun K "is_pair" "is_pair" qB t.a_zM t.d_zM
 B_zM:Binds K t.d_zM ["count","pair"] []
 g_zM:mg "is_pair"=some (.ref t.a_zM)
 F_zD:Fun K "are_pairs" "are_pairs" mR t.a_zD t.d_zD
 B_zD:Binds K t.d_zD ["count","pairs"] []
 g_zD:mg "are_pairs"=some (.ref t.a_zD)
 F_zg:Fun K "__init__" "Drawing.__init__" kD t.a_zg t.d_zg
 B_zg:Binds K t.d_zg ["self","count","ties","bows"] []
 F_za:Fun K "need_name" "Drawing.need_name" rD t.a_za t.d_za
 B_za:Binds K t.d_za ["self","name"] []
 m_za:Meth K t.a_D "need_name" t.a_za
 F_zc:Fun K "sources" "Drawing.sources" nC t.a_zc t.d_zc
 B_zc:Binds K t.d_zc ["self","name"] []
 m_zc:Meth K t.a_D "sources" t.a_zc
 F_zb:Fun K "greatest_divisor" "greatest_divisor" qb t.a_zb t.d_zb
 B_zb:Binds K t.d_zb ["a","b"] []
 g_zb:mg "greatest_divisor"=some (.ref t.a_zb)
 F_zH:Fun K "fraction" "fraction" rG t.a_zH t.d_zH
 B_zH:Binds K t.d_zH ["top","bottom"] []
 g_zH:mg "fraction"=some (.ref t.a_zH)
 F_ze:Fun K "common_bottom" "common_bottom" qS t.a_ze t.d_ze
 B_ze:Binds K t.d_ze ["parts"] []
 g_ze:mg "common_bottom"=some (.ref t.a_ze)
 F_zB:Fun K "tops_over" "tops_over" mX t.a_zB t.d_zB
 B_zB:Binds K t.d_zB ["parts","bottom"] []
 g_zB:mg "tops_over"=some (.ref t.a_zB)
 F_zO:Fun K "total" "total" qT t.a_zO t.d_zO
 B_zO:Binds K t.d_zO ["parts"] []
 g_zO:mg "total"=some (.ref t.a_zO)
 F_zK:Fun K "is_share" "is_share" rF t.a_zK t.d_zK
 B_zK:Binds K t.d_zK ["part"] []
 g_zK:mg "is_share"=some (.ref t.a_zK)
 F_zt:Fun K "are_shares" "are_shares" mY t.a_zt t.d_zt
 B_zt:Binds K t.d_zt ["parts"] []
 g_zt:mg "are_shares"=some (.ref t.a_zt)
 F_zN:Fun K "copied" "copied" mm t.a_zN t.d_zN
 B_zN:Binds K t.d_zN ["parts"] []
 g_zN:mg "copied"=some (.ref t.a_zN)
 F_zE:Fun K "are_sizes" "are_sizes" mZ t.a_zE t.d_zE
 B_zE:Binds K t.d_zE ["drawing","sizes"] []
 g_zE:mg "are_sizes"=some (.ref t.a_zE)
 F_zv:Fun K "are_hidden" "are_hidden" nV t.a_zv t.d_zv
 B_zv:Binds K t.d_zv ["drawing","hidden"] []
 g_zv:mg "are_hidden"=some (.ref t.a_zv)
 F_zn:Fun K "bow_places" "bow_places" nK t.a_zn t.d_zn
 B_zn:Binds K t.d_zn ["drawing","name"] []
 g_zn:mg "bow_places"=some (.ref t.a_zn)
 F_zf:Fun K "hidden_sizes" "hidden_sizes" nE t.a_zf t.d_zf
 B_zf:Binds K t.d_zf ["drawing","hidden","name"] []
 g_zf:mg "hidden_sizes"=some (.ref t.a_zf)
 F_zq:Fun K "head_sizes" "head_sizes" mG t.a_zq t.d_zq
 B_zq:Binds K t.d_zq ["drawing","sizes","hidden","name"] []
 g_zq:mg "head_sizes"=some (.ref t.a_zq)
 F_zI:Fun K "is_table" "is_table" nS t.a_zI t.d_zI
 B_zI:Binds K t.d_zI ["table","rows","size"] []
 g_zI:mg "is_table"=some (.ref t.a_zI)
 F_zo:Fun K "are_tables" "are_tables" kU t.a_zo t.d_zo
 B_zo:Binds K t.d_zo ["drawing","sizes","hidden","tables"] []
 g_zo:mg "are_tables"=some (.ref t.a_zo)
 F_zs:Fun K "__init__" "World.__init__" jQ t.a_zs t.d_zs
 B_zs:Binds K t.d_zs ["self","drawing","sizes","hidden","tables"] []
 F_zl:Fun K "_law_cell_at" "_law_cell_at" qA t.a_zl t.d_zl
 B_zl:Binds K t.d_zl ["_law_script","_law_k"] []
 g_zl:mg "_law_cell_at"=some (.ref t.a_zl)
 F_zz:Fun K "_law_mixed" "_law_mixed" qk t.a_zz t.d_zz
 B_zz:Binds K t.d_zz ["_law_cell","_law_many"] []
 g_zz:mg "_law_mixed"=some (.ref t.a_zz)
 F_zk:Fun K "_law_divisor" "_law_divisor" qz t.a_zk t.d_zk
 B_zk:Binds K t.d_zk ["_law_one","_law_other"] []
 g_zk:mg "_law_divisor"=some (.ref t.a_zk)
 F_zp:Fun K "_law_lowest" "_law_lowest" rB t.a_zp t.d_zp
 B_zp:Binds K t.d_zp ["_law_top","_law_bottom"] []
 g_zp:mg "_law_lowest"=some (.ref t.a_zp)
 F_zy:Fun K "_law_pairs" "_law_pairs" qg t.a_zy t.d_zy
 B_zy:Binds K t.d_zy ["_law_script","_law_at"] []
 g_zy:mg "_law_pairs"=some (.ref t.a_zy)
 F_zm:Fun K "_law_weights" "_law_weights" qN t.a_zm t.d_zm
 B_zm:Binds K t.d_zm ["_law_digit","_law_size","_law_full"] []
 g_zm:mg "_law_weights"=some (.ref t.a_zm)
 F_zF:Fun K "_law_rows" "_law_rows" nh t.a_zF t.d_zF
 B_zF:Binds K t.d_zF ["_law_cell","_law_many","_law_size","_law_full"] []
 g_zF:mg "_law_rows"=some (.ref t.a_zF)
 F_zw:Fun K "_law_heads" "_law_heads" lI t.a_zw t.d_zw
 B_zw:Binds K t.d_zw ["_law_shape","_law_name"] []
 g_zw:mg "_law_heads"=some (.ref t.a_zw)
 F_zC:Fun K "_law_world" "_law_world" mD t.a_zC t.d_zC
 B_zC:Binds K t.d_zC ["_law_script","_law_at","_law_shape","_law_most"] []
 g_zC:mg "_law_world"=some (.ref t.a_zC)
 F_zr:Fun K "_law_shares" "_law_shares" mW t.a_zr t.d_zr
 B_zr:Binds K t.d_zr ["_law_weights_here"] []
 g_zr:mg "_law_shares"=some (.ref t.a_zr)
 F_zd:Fun K "_law_told_world" "_law_told_world" lN t.a_zd t.d_zd
 B_zd:Binds K t.d_zd ["_law_world_here"] []
 g_zd:mg "_law_told_world"=some (.ref t.a_zd)
 F_zu:Fun K "_law_handed" "_law_handed" lA t.a_zu t.d_zu
 B_zu:Binds K t.d_zu ["_law_told","_law_bits"] []
 g_zu:mg "_law_handed"=some (.ref t.a_zu)
 F_zx:Fun K "_law_drawn" "_law_drawn" qV t.a_zx t.d_zx
 B_zx:Binds K t.d_zx ["_law_script"] []
 g_zx:mg "_law_drawn"=some (.ref t.a_zx)
 F_zG:Fun K "_law_made" "_law_made" qi t.a_zG t.d_zG
 B_zG:Binds K t.d_zG ["_law_shape","_law_told","_law_bits"] []
 g_zG:mg "_law_made"=some (.ref t.a_zG)
 F_zA:Fun K "_law_kinds" "_law_kinds" qQ t.a_zA t.d_zA
 B_zA:Binds K t.d_zA ["_law_e"] []
 g_zA:mg "_law_kinds"=some (.ref t.a_zA)
 F_zh:Fun K "_law_bent_row" "_law_bent_row" qr t.a_zh t.d_zh
 B_zh:Binds K t.d_zh ["_law_row","_law_way","_law_far"] []
 g_zh:mg "_law_bent_row"=some (.ref t.a_zh)
 F_zJ:Fun K "_law_bent" "_law_bent" rA t.a_zJ t.d_zJ
 B_zJ:Binds K t.d_zJ ["_law_rows_here","_law_way","_law_cell","_law_far"] []
 g_zJ:mg "_law_bent"=some (.ref t.a_zJ)
 F_zj:Fun K "_law_refused" "_law_refused" qY t.a_zj t.d_zj
 B_zj:Binds K t.d_zj ["_law_drawing","_law_rows_here"] []
 g_zj:mg "_law_refused"=some (.ref t.a_zj)
 F_zT:Fun K "law" "law" mK t.a_zT t.d_zT
 B_zT:Binds K t.d_zT ["_law_script"] []
 g_zT:mg "law"=some (.ref t.a_zT)
 g_A:mg "BadPaper"=some (.ref t.a_A)
 g_B:mg "BadStep"=some (.ref t.a_B)
 g_C:mg "DoingError"=some (.ref t.a_C)
 g_D:mg "Drawing"=some (.ref t.a_D)
 cl_D:Cls K t.a_D
 mk_D:Mk K t.a_D t.a_zg
 g_E:mg "NoAnswer"=some (.ref t.a_E)
 g_F:mg "NoBow"=some (.ref t.a_F)
 g_G:mg "NoCount"=some (.ref t.a_G)
 g_H:mg "NoDoor"=some (.ref t.a_H)
 g_I:mg "NoFormula"=some (.ref t.a_I)
 g_J:mg "NoFraction"=some (.ref t.a_J)
 g_K:mg "NoName"=some (.ref t.a_K)
 g_L:mg "NoNest"=some (.ref t.a_L)
 g_M:mg "NoQuestion"=some (.ref t.a_M)
 g_N:mg "NoRoad"=some (.ref t.a_N)
 g_O:mg "NoRule"=some (.ref t.a_O)
 g_P:mg "NoSets"=some (.ref t.a_P)
 g_Q:mg "NoShare"=some (.ref t.a_Q)
 g_R:mg "NoText"=some (.ref t.a_R)
 g_S:mg "NoThinning"=some (.ref t.a_S)
 g_T:mg "NoTie"=some (.ref t.a_T)
 g_U:mg "NoValue"=some (.ref t.a_U)
 g_V:mg "NoWorld"=some (.ref t.a_V)
 g_W:mg "World"=some (.ref t.a_W)
 cl_W:Cls K t.a_W
 mk_W:Mk K t.a_W t.a_zs
 x_C:fM K t.a_C
 x_V:fM K t.a_V
 s_V:PySem.W.mroIn K t.a_V (.ref t.a_C)=some true
 kV_:PySem.W.kitOne K (.ref t.a_V) (.type "ValueError")=some true
 kVR:kX1 K t.a_V t.a_R
 kVB:kX1 K t.a_V t.a_B
 kVI:kX1 K t.a_V t.a_I
 kVM:kX1 K t.a_V t.a_M
 kVE:kX1 K t.a_V t.a_E
 kVS:kX1 K t.a_V t.a_S
 kVH:kX1 K t.a_V t.a_H
 kVL:kX1 K t.a_V t.a_L
 kVA:kX1 K t.a_V t.a_A
 kVO:kX1 K t.a_V t.a_O
 kVN:kX1 K t.a_V t.a_N
 kVQ:kX1 K t.a_V t.a_Q
 kVU:kX1 K t.a_V t.a_U
 kVV:PySem.W.kitOne K (.ref t.a_V) (.ref t.a_V)=some true
 kVP:kX1 K t.a_V t.a_P
 kVK:kX1 K t.a_V t.a_K
 kVF:kX1 K t.a_V t.a_F
 kVT:kX1 K t.a_V t.a_T
 kVG:kX1 K t.a_V t.a_G
 kVJ:kX1 K t.a_V t.a_J
 b_ValueError:mg "ValueError"=none
 b_abs:mg "abs"=none
 b_all:mg "all"=none
 b_enumerate:mg "enumerate"=none
 b_int:mg "int"=none
 b_isinstance:mg "isinstance"=none
 b_len:mg "len"=none
 b_list:mg "list"=none
 b_min:mg "min"=none
 b_range:mg "range"=none
 b_set:mg "set"=none
 b_sorted:mg "sorted"=none
 b_sum:mg "sum"=none
 b_tuple:mg "tuple"=none
 b_zip:mg "zip"=none
 c_LEAST_SIZE:∃u,mg "LEAST_SIZE"=some u/\RelV (.int 2) u
 c_MOST_BOWS:∃u,mg "MOST_BOWS"=some u/\RelV (.int 6) u
 c_MOST_HIDDEN:∃u,mg "MOST_HIDDEN"=some u/\RelV (.int 4) u
 c_MOST_NAMES:∃u,mg "MOST_NAMES"=some u/\RelV (.int 6) u
 c_MOST_SIZE:∃u,mg "MOST_SIZE"=some u/\RelV (.int 4) u
 c_MOST_WEIGHTS:∃u,mg "MOST_WEIGHTS"=some u/\RelV (.int 200000) u
 nfD_bows:cq K t.a_D "bows"
 nfD_count:cq K t.a_D "count"
 nfD_ties:cq K t.a_D "ties"
 nf_World_drawing:cq K t.a_W "drawing"
 nf_World_hidden:cq K t.a_W "hidden"
 nf_World_sizes:cq K t.a_W "sizes"
 nf_World_tables:cq K t.a_W "tables"
 nf_World_weighed:cq K t.a_W "weighed"
section
variable {P:Program}{w:World}{K:PySem.W.Frag}{mg:Str->Option Value}{base:Heap}{t:Ad}
open DM (P2 Good)
def DF(c:Int)(ts bs:List P2):List (Str×PV):=[("count",.int c),("ties",.tup (ts.map prV)),("bows",.tup (bs.map prV))]
def Srt(l:List P2):Prop:=l.Pairwise (fun x y=>ST.pk x<ST.pk y)
def Row(H:PHp)(y:PV)(p:P2):Prop:=y=prV p∨∃r,y=.ref r/\H r=some (.lst [.int p.1,.int p.2])
abbrev Rows(H:PHp):List PV->List P2->Prop:=Paired (Row H)
inductive Kn | R | I | T | F | V
def Sg:List Kn->Type
 | []=>Prop
 | .R::ks=>Addr->Sg ks
 | .I::ks=>Int->Sg ks
 | .T::ks=>List PV->Sg ks
 | .F::ks=>List PV->Sg ks
 | .V::ks=>PV->Sg ks
def ap:(ks:List Kn)->Sg ks->List PV->Prop
 | [],p,[]=>p
 | .R::ks,f,.ref x::r=>ap ks (f x) r
 | .I::ks,f,.int x::r=>ap ks (f x) r
 | .T::ks,f,.tup x::r=>ap ks (f x) r
 | .F::ks,f,.fls x::r=>ap ks (f x) r
 | .V::ks,f,x::r=>ap ks (f x) r
 | _,_,_=>False
def Ei:(ks:List Kn)->Sg ks->List PV->Prop
 | [],p,vs=>vs=[]/\p
 | .R::ks,f,vs=>∃x r,vs=.ref x::r/\Ei ks (f x) r
 | .I::ks,f,vs=>∃x r,vs=.int x::r/\Ei ks (f x) r
 | .T::ks,f,vs=>∃x r,vs=.tup x::r/\Ei ks (f x) r
 | .F::ks,f,vs=>∃x r,vs=.fls x::r/\Ei ks (f x) r
 | .V::ks,f,vs=>∃x r,vs=x::r/\Ei ks (f x) r
theorem bO(h:ap ks f vs):Ei ks f vs:=by
 induction ks generalizing vs with
 | nil =>
  cases vs with
  | nil=>exact⟨rfl,h⟩
  | cons v r=>exact h.elim
 | cons k ks ih =>
  cases vs with
  | nil=>cases k<;>exact h.elim
  | cons v r =>
   cases k<;>first | exact⟨_,_,rfl,ih h⟩ |(cases v<;>first | exact⟨_,_,rfl,ih h⟩ | exact h.elim)
theorem bP(h:ap ks f vs):vs.length=ks.length:=by
 induction ks generalizing vs with
 | nil =>
  cases vs with
  | nil=>rfl
  | cons v r=>exact h.elim
 | cons k ks ih =>
  cases vs with
  | nil=>cases k<;>exact h.elim
  | cons v r =>
   cases k<;>first | exact congrArg (·+1) (ih h) |(cases v<;>first | exact congrArg (·+1) (ih h) | exact h.elim)
theorem CG{p:Prop}:ap [] p []=p:=rfl
theorem CJ:ap (.R::ks) f (.ref x::r)=ap ks (f x) r:=rfl
theorem AO:ap (.I::ks) f (.int x::r)=ap ks (f x) r:=rfl
theorem BC:ap (.T::ks) f (.tup x::r)=ap ks (f x) r:=rfl
theorem A0:ap (.F::ks) f (.fls x::r)=ap ks (f x) r:=rfl
theorem BL:ap (.V::ks) f (x::r)=ap ks (f x) r:=rfl
def jo:Sp':=fun vs H Q _=>ap [.I,.V] (fun c w=>∃u v,w=PV.tup [.int u,.int v]/\((0≤u/\u<v/\v<c)/\Q (.bl true) H)) vs
theorem tq:jo [.int c,.tup [.int u,.int v]] H Q E=((0≤u/\u<v/\v<c)/\Q (.bl true) H):=by
 refine propext ⟨fun h=>?_,fun h=>?_⟩
 ·obtain⟨_,_,e0,h⟩:=h;cases e0;exact h
 ·exact⟨_,_,rfl,h⟩
def gK:Sp':=fun vs H Q _=>ap [.I,.R] (fun c a=>∃ps,H a=some (.lst (ps.map prV))/\Good c ps/\c≤6/\Q (.bl true) H) vs
theorem ni:gK [.int c,.ref a] H Q E=∃ps,H a=some (.lst (ps.map prV))/\Good c ps/\c≤6/\Q (.bl true) H:=rfl
def Seq(H:PHp)(v:PV)(xs:List PV):Prop:=v=.tup xs∨∃a,v=.ref a/\H a=some (.lst xs)
theorem Seq.up(h:Seq H v xs)(s:U.Sub H H1):Seq H1 v xs:=h.elim .inl fun⟨a,e,q⟩=>.inr ⟨a,e,s _ _ q⟩
theorem m5(q:Seq H v ys)(k:∀ok:PHp->Prop,(∀H1,U.Sub H H1->ok H1)->R ⟨ys,ok⟩ H):sV v H R:=by
 rcases q with rfl |⟨a,rfl,e⟩
 ·exact k _ fun _ _=>trivial
 ·exact⟨ys,e,k _ fun H1 s=>s _ _ e⟩
def h8(t:Ad):Sp':=fun vs H Q _=>ap [.R,.I,.V,.V] (fun x c va vb=>∃dx ys zs ps qs,H x=some (.ins t.a_D dx [])/\Seq H va ys/\Seq H vb zs/\Rows H ys ps/\Rows H zs qs/\Good c ps/\Good c qs/\(1≤c/\c≤6/\qs.length≤6) /\
  ∀ts bs,ts.Perm ps->Srt ts->bs.Perm qs->Srt bs->Q .non (put H x (.ins t.a_D dx (DF c ts bs)))) vs
theorem zq:h8 t [.ref x,.int c,va,vb] H Q E=∃dx ys zs ps qs,H x=some (.ins t.a_D dx [])/\Seq H va ys/\Seq H vb zs/\Rows H ys ps/\Rows H zs qs/\Good c ps/\Good c qs/\(1≤c/\c≤6/\qs.length≤6) /\
  ∀ts bs,ts.Perm ps->Srt ts->bs.Perm qs->Srt bs->Q .non (put H x (.ins t.a_D dx (DF c ts bs))):=rfl
def gG(t:Ad):Sp':=fun vs H Q _=>ap [.R,.I] (fun x n=>∃dx c ts bs,H x=some (.ins t.a_D dx (DF c ts bs))/\(0≤n/\n<c)/\Q .non H) vs
theorem ny:gG t [.ref x,.int n] H Q E=∃dx c ts bs,H x=some (.ins t.a_D dx (DF c ts bs))/\(0≤n/\n<c)/\Q .non H:=rfl
def iU(t:Ad):Sp':=fun vs H Q _=>ap [.R,.I] (fun x n=>∃dx c ts bs,H x=some (.ins t.a_D dx (DF c ts bs))/\(0≤n/\n<c)/\ts.length≤15/\Q (.tup (((ts.filter (fun p=>decide (p.2=n))).map (·.1)).map PV.int)) H) vs
theorem pR:iU t [.ref x,.int n] H Q E=∃dx c ts bs,H x=some (.ins t.a_D dx (DF c ts bs))/\(0≤n/\n<c)/\ts.length≤15/\Q (.tup (((ts.filter (fun p=>decide (p.2=n))).map (·.1)).map PV.int)) H:=rfl
def jX:Sp':=fun vs H Q _=>ap [.F,.I] (fun l k=>(0≤k/\k<100)/\∃ns:List Int,l=ns.map PV.int/\Q (.int (ns.getD k.toNat 0)) H) vs
theorem zb:jX [.fls l,.int k] H Q E=((0≤k/\k<100)/\∃ns:List Int,l=ns.map PV.int/\Q (.int (ns.getD k.toNat 0)) H):=rfl
def kE:Sp':=fun vs H Q _=>ap [.I,.I] (fun c m=>(0≤m/\m≤64)/\∀p (xs:List Int),H p=none->xs.length=m.toNat->Q (.ref p) (put H p (.lst (xs.map PV.int)))) vs
theorem wL:kE [.int c,.int m] H Q E=((0≤m/\m≤64)/\∀p (xs:List Int),H p=none->xs.length=m.toNat->Q (.ref p) (put H p (.lst (xs.map PV.int)))):=rfl
def kG:Sp':=fun vs H Q _=>ap [.F,.I] (fun l k=>(0≤k/\k<60)/\∃ns:List Int,l=ns.map PV.int/\∀c ts bs p q,(1≤c/\c≤6)->Good c ts->Good c bs->bs.length≤6->H p=none->H q=none->p≠q->Q (.tup [.int c,.ref p,.ref q]) (put (put H p (.lst (ts.map prV))) q (.lst (bs.map prV)))) vs
theorem vw:kG [.fls l,.int k] H Q E=((0≤k/\k<60)/\∃ns:List Int,l=ns.map PV.int/\∀c ts bs p q,(1≤c/\c≤6)->Good c ts->Good c bs->bs.length≤6->H p=none->H q=none->p≠q->Q (.tup [.int c,.ref p,.ref q]) (put (put H p (.lst (ts.map prV))) q (.lst (bs.map prV)))):=rfl
theorem fj{l:List PV}(h:i<l.length):atI l ((i:Nat):Int)=some l[i]:=by
 unfold atI ixN;rw[Fq (by omega),Fq (by omega)];show l[((i:Nat):Int).toNat]?=_;rw[FW,EO h]
theorem dX{R:α->β->Prop}{l:List α}{m:List β}(h:Paired R l m)(hi:i<l.length)(hj:i<m.length):R l[i] m[i]:=by
 induction h generalizing i with
 | nil=>cases hi
 | cons x _ ih =>
  cases i with
  | zero=>exact x
  | succ i=>exact ih (Nat.lt_of_succ_lt_succ hi) (Nat.lt_of_succ_lt_succ hj)
theorem dq{R:α->β->Prop}{x:α}{l:List α}{m:List β}(h:Paired R l m)(hx:x∈l):∃y∈m,R x y:=by
 induction h with
 | nil=>cases hx
 | cons h t ih =>
  rcases Fd.mp hx with rfl | hx
  ·exact⟨_,E1,h⟩
  ·obtain⟨y,hy,r⟩:=ih hx;exact⟨y,EY _ hy,r⟩
theorem fm{a b:Int}(h:0<b):0≤a.fmod b/\a.fmod b<b:=by
 rw[Int.fmod_eq_emod_of_nonneg _ (by omega)];exact⟨Int.emod_nonneg _ (by omega),Int.emod_lt_of_pos _ h⟩
theorem o9(s:U.Sub A B)(h:B x=some o):U.Sub (put A x o) B:=fun a u e=>by
 by_cases q:a=x
 ·subst q;rw[ah]at e;cases e;exact h
 ·rw[aj q]at e;exact s a u e
theorem rN(s:∀a u,a≠x->A a=some u->B a=some u)(h:B x=some o):U.Sub (put A x o) B:=fun a u e=>by
 by_cases q:a=x
 ·subst q;rw[ah]at e;cases e;exact h
 ·rw[aj q]at e;exact s a u q e
theorem iI{f:Str}{v:PV}:∀{fs:List (Str×PV)},(fV f v fs).length≤fs.length+1
 | []=>by simp[fV]
 |(g,y)::r=>by
  unfold fV;split
  ·simp
  ·have:=iI (f:=f) (v:=v) (fs:=r);simp only[EU];omega
theorem dh(h:j≠0)(f:j.natAbs<2 ^ 64):oM i j:=⟨h,(show My.BN 64 j from f).fit (by decide)⟩
theorem gO(f:i.natAbs<2 ^ 64):Fit i:=(show My.BN 64 i from f).fit (by decide)
def jc(H:PHp)(y:PV):PV:=match y with
 | .ref r=>(match H r with | some (.lst l)=>.tup l | _=>.non)
 | y=>y
theorem eB(h:H r=some (.lst l)):jc H (.ref r)=.tup l:=by
 unfold jc;dsimp only;rw[h]
theorem lL(h:Rows H ys ps):ys.map (jc H)=ps.map prV:=by
 induction h with
 | nil=>rfl
 | cons h t ih =>
  rw[Fp,Fp,ih];congr 1;rcases h with rfl |⟨r,rfl,hr⟩
  ·rfl
  ·exact eB hr
theorem Rows.up(h:Rows H ys ps)(s:U.Sub H H1):Rows H1 ys ps:=Paired.mapP h fun y p r=>r.elim .inl fun⟨q,e,hq⟩=>.inr ⟨q,e,s _ _ hq⟩
theorem cO{H:PHp}:∀{ps:List P2},Rows H (ps.map prV) ps
 | []=>.nil
 | _::_=>.cons (.inl rfl) cO
def at1(n:Int)(y:PV):Bool:=match y with | .tup [.int _,.int v]=>decide (v=n) | _=>false
def at0(n:Int)(y:PV):Bool:=match y with | .tup [.int u,.int _]=>decide (u=n) | _=>false
def g0(y:PV):PV:=match y with | .tup [u,_]=>u | _=>.non
def g1(y:PV):PV:=match y with | .tup [_,v]=>v | _=>.non
theorem src_list{n:Int}:∀{ts:List P2},((ts.map prV).filter (at1 n)).map g0=((ts.filter (fun p=>decide (p.2=n))).map (·.1)).map PV.int
 | []=>rfl
 | p::ts=>by
  have e:at1 n (prV p)=decide (p.2=n):=rfl;rw[Fp,List.filter_cons,List.filter_cons,e];by_cases q:decide (p.2=n)=true
  ·rw[Fq q,Fq q,Fp,Fp,Fp,src_list];rfl
  ·rw[Fo q,Fo q,src_list]
structure GJ (v j:Int) (l:List P2):Prop where
 nd:l.Nodup
 lo:∀p∈l,0≤p.1/\p.1<p.2/\(p.2<v∨(p.2=v/\p.1<j))
theorem GJ.app(h:GJ v j l)(h0:0≤j)(hj:j<v):GJ v (j+1) (l++[(j,v)]):=by
 refine⟨List.nodup_append.mpr ⟨h.nd,by simp,?_⟩,fun p hp=>?_⟩
 ·intro a ha b hb e;rw[Fc]at hb;subst hb;subst e;have:=h.lo _ ha;simp only at this;omega
 ·rcases Fu.mp hp with hp | hp
  ·have:=h.lo p hp;omega
  ·rw[Fc]at hp;subst hp;exact⟨h0,hj,.inr ⟨rfl,Int.lt_succ j⟩⟩
theorem GJ.up(h:GJ v j l):GJ v (j+1) l:=⟨h.nd,fun p hp=>by have:=h.lo p hp;omega⟩
theorem GJ.of(h:Good v l):GJ v 0 l:=⟨h.nd,fun p hp=>by have:=h.lo p hp;omega⟩
theorem GJ.good(h:GJ v v l):Good (v+1) l:=⟨h.nd,fun p hp=>by have:=h.lo p hp;omega⟩
theorem D4(h0:0≤d)(h:d<4):∃e,atI [PV.int 2,PV.int 3,PV.int 2,PV.int 4] d=some (.int e)/\e≠0:=by
 have:d=0∨d=1∨d=2∨d=3:=by omega
 rcases this with rfl | rfl | rfl | rfl
 ·exact⟨2,rfl,by decide⟩
 ·exact⟨3,rfl,by decide⟩
 ·exact⟨2,rfl,by decide⟩
 ·exact⟨4,rfl,by decide⟩
theorem DT(h0:0≤d)(h:d<4):∃e,atI [PV.int 2,PV.int 3,PV.int 5,PV.int 2] d=some (.int e)/\e≠0:=by
 have:d=0∨d=1∨d=2∨d=3:=by omega
 rcases this with rfl | rfl | rfl | rfl
 ·exact⟨2,rfl,by decide⟩
 ·exact⟨3,rfl,by decide⟩
 ·exact⟨5,rfl,by decide⟩
 ·exact⟨2,rfl,by decide⟩
def ij:Sp':=fun vs H Q _=>ap [.I,.I] (fun a b=>Q (.int (My.gd a b)) H) vs
theorem qc:ij [.int a,.int b] H Q E=Q (.int (My.gd a b)) H:=rfl
def vV(p:Int×Int):PV:=.tup [.int p.1,.int p.2]
def pA:Sp':=fun vs H Q _=>ap [.I,.I] (fun a b=>(0≤b/\My.BN 300 b)/\Q (vV (My.j5 a b)) H) vs
def je:Sp':=fun vs H Q _=>ap [.I,.I] (fun a b=>My.BN 300 b/\Q (vV (My.cF a b)) H) vs
theorem zu:pA [.int a,.int b] H Q E=((0≤b/\My.BN 300 b)/\Q (.tup [.int (My.j5 a b).1,.int (My.j5 a b).2]) H):=rfl
theorem ur:je [.int a,.int b] H Q E=(My.BN 300 b/\Q (.tup [.int (My.cF a b).1,.int (My.cF a b).2]) H):=rfl
theorem eL(hb:My.BN 300 b)(h:b≠0):Fit (My.gd a b):=by
 refine(hb.of_le ?_).fit (by decide);have h1:=My.xx a b h;have h2:=My.cK a b h;split at h1<;>omega
theorem kr:My.BN 300 1:=by unfold My.BN;exact Nat.one_lt_two_pow (by decide)
theorem Dc{P:List Value->Prop}(h:∀a b c d e,P [a,b,c,d,e])(us:List Value)(hl:us.length=5):P us:=by
 cases us with
 | nil=>exact absurd hl.symm (Nat.succ_ne_zero _)
 | cons a r=>exact nA (P:=fun r=>P (a::r)) (h a) r (Nat.succ.inj hl)
theorem dZ(Pv:Nat->St'->PHp->Prop)(hd:∀σ H,Pv xs.length σ H->ok H/\D.nx σ H)
  (hs:∀(D':cz) i x σ H,xs[i]?=some x->Pv i σ H->(∀σ' H',Pv (i+1) σ' H'->D'.nx σ' H')->ok H/\g x σ H fun σ2 H2=>tb D' σ2 H2)
  {σ:St'} {H:PHp} (h0:Pv 0 σ H):dD ok g tb D xs σ H:=zd Pv hd (fun G i x σ H hx p k=>hs _ i x σ H hx p k) h0
theorem fv{lo:Int}(Pv:Nat->St'->PHp->Prop)(hd:∀σ H,Pv n σ H->ok H/\D.nx σ H)
  (hs:∀(D':cz) i σ H,i<n->Pv i σ H->(∀σ' H',Pv (i+1) σ' H'->D'.nx σ' H')->ok H/\g (.int (lo+(i:Nat))) σ H fun σ2 H2=>tb D' σ2 H2)
  {σ:St'} {H:PHp} (h0:Pv 0 σ H):dD ok g tb D (cW lo n) σ H:=fQ Pv hd (fun G i σ H hi p k=>hs _ i σ H hi p k) h0
def shr(s w:Int):P2:=My.j5 w s
theorem gZ{s w:Int}(hs:0<s)(hw:0≤w):0≤(shr s w).1/\1≤(shr s w).2/\(shr s w).1*s=w*(shr s w).2/\(shr s w).2 ∣ s/\My.gd (shr s w).1 (shr s w).2=1/\(shr s w).1≤w:=by
 have hn:¬s=0:=by omega
 obtain⟨lo,po⟩:=My.wV (a:=w) (b:=s) (g:=My.gd w s) hn (.inl ⟨hs,rfl⟩);have g1:=My.cK w s hn;have e:shr s w=(w.fdiv (My.gd w s),s.fdiv (My.gd w s)):=by
  unfold shr My.j5;rw[Fo hn]
 rw[e];have x0:0≤w.fdiv (My.gd w s):=Int.fdiv_nonneg hw (by omega);have ew:=My.fc (a:=w) (g:=My.gd w s) (by omega) (My.dw w s);obtain⟨k,_,e2⟩:=lo.ex;refine⟨x0,by show 1≤s.fdiv _;omega,lo.cross,⟨k,by rw[F1];exact e2⟩,lo.one,?_⟩;have:=Int.mul_le_mul_of_nonneg_right (show 1≤My.gd w s by omega) x0;show w.fdiv (My.gd w s)≤w;omega
theorem zG{B b s:Int}(hB:0<B)(hb:0<b)(h1:B ∣ s)(h2:b ∣ s):0<B.fdiv (My.gd B b)*b/\B ∣ B.fdiv (My.gd B b)*b/\b ∣ B.fdiv (My.gd B b)*b/\B.fdiv (My.gd B b)*b ∣ s:=by
 have g1:=My.cK B b (by omega);have e:=My.fc (a:=B) (g:=My.gd B b) (by omega) (My.dw B b);have x0:0≤B.fdiv (My.gd B b):=Int.fdiv_nonneg (by omega) (by omega);have x1:0<B.fdiv (My.gd B b):=by
  rcases Int.lt_or_eq_of_le x0 with h | h
  ·exact h
  ·rw[←h,Int.mul_zero]at e;omega
 have hl:((Int.lcm B b:Nat):Int)=B.fdiv (My.gd B b)*b:=by
  have q:Int.gcd B b*Int.lcm B b=B.natAbs*b.natAbs:=Int.gcd_mul_lcm B b;have q2:My.gd B b*((Int.lcm B b:Nat):Int)=B*b:=by
   unfold My.gd;rw[←Int.natCast_mul,q,Int.natCast_mul,Int.natAbs_of_nonneg (Int.le_of_lt hB),Int.natAbs_of_nonneg (Int.le_of_lt hb)]
  refine Int.eq_of_mul_eq_mul_left (show My.gd B b≠0 by omega) ?_;rw[q2,← FU,← e]
 refine⟨Int.mul_pos x1 hb,?_,⟨B.fdiv (My.gd B b),by rw[F1]⟩,?_⟩
 ·rw[←hl];exact Int.dvd_lcm_left _ _
 ·rw[←hl];exact Int.coe_lcm_dvd h1 h2
def Sh(ws:List Int)(s:Int):Prop:=s=ws.sum/\0<s/\(∀w∈ws,0≤w)/\s≤1000/\ws.length≤100
def pJ:Sp':=fun vs H Q _=>ap [.I,.I] (fun a b=>(0≤a/\0≤b)/\Q (.int (My.gd a b)) H) vs
theorem Ay:pJ [.int a,.int b] H Q E=((0≤a/\0≤b)/\Q (.int (My.gd a b)) H):=rfl
def wX(s B w:Int):Int:=(shr s w).1*(B.fdiv (shr s w).2)
theorem wg{s B w:Int}(hs:0<s)(hw:0≤w)(hd:(shr s w).2 ∣ B):wX s B w*s=w*B:=by
 obtain⟨p1,p2,p3,_⟩:=gZ hs hw;have e:=My.fc (a:=B) (g:=(shr s w).2) (by omega) hd;unfold wX;rw[Int.mul_right_comm,p3,FU,← e]
theorem oz{s B:Int}(hs:0<s):∀{ws:List Int},(∀w∈ws,0≤w)->(∀w∈ws,(shr s w).2 ∣ B)->(ws.map (wX s B)).sum*s=ws.sum*B
 | [],_,_=>by simp
 | w::ws,h0,hd=>by
  rw[Fp,F5,F5,Int.add_mul,Int.add_mul,wg hs (h0 w E1) (hd w E1),oz hs (fun x hx=>h0 x (EY _ hx)) fun x hx=>hd x (EY _ hx)]
theorem v5(h:Sh ws s)(hd:∀w∈ws,(shr s w).2 ∣ B):(ws.map (wX s B)).sum=B:=by
 obtain⟨e,hs,h0,_⟩:=h;have q:=oz hs h0 hd;rw[←e,F1 s B]at q;exact Int.eq_of_mul_eq_mul_right (by omega) q
def fT(B:Int)(y:PV):PV:=match y with | .tup [.int a,.int b]=>.int (a*B.fdiv b) | _=>.non
theorem Sh.le{s w:Int}(h:Sh ws s)(hw:w∈ws):0≤(shr s w).1/\(shr s w).1≤1000/\1≤(shr s w).2/\(shr s w).2≤1000:=by
 obtain⟨e,hs,h0,s1,_⟩:=h;obtain⟨p1,p2,p3,p4,_,p6⟩:=gZ hs (h0 w hw);have q:=Int.le_of_dvd hs p4;have sm:∀{l:List Int},(∀x∈l,0≤x)->w∈l->w≤l.sum:=by
  intro l
  induction l with
  | nil=>intro _ z;cases z
  | cons x l ih =>
   intro hx z;have x0:=hx x E1;have l0:0≤l.sum:=by
    have:∀{l:List Int},(∀x∈l,0≤x)->0≤l.sum:=by
     intro l
     induction l with
     | nil=>intro _;simp
     | cons y l ih=>intro h;rw[F5];have:=h y E1;have:=ih fun z hz=>h z (EY _ hz);omega
    exact this fun z hz=>hx z (EY _ hz)
   rw[F5];rcases Fd.mp z with rfl | z
   ·omega
   ·have:=ih (fun z hz=>hx z (EY _ hz)) z;omega
 have:=sm h0 hw;omega
theorem h7{a b:Int}(h0:0≤a)(h1:0<b):0≤a.fdiv b/\a.fdiv b≤a:=by
 refine⟨Int.fdiv_nonneg h0 (by omega),?_⟩;rw[Int.fdiv_eq_ediv_of_nonneg _ (by omega)];exact Int.ediv_le_self _ h0
theorem dW  (h0 : 0 ≤ i) (h1 : i ≤ 1000000) : Fit i := gO (by have:=(by decide:(1000000:Nat)<2^64);omega)
theorem tu{a b:Int}(h:0<b)(e:a.fmod b=0):b ∣ a:=by
 rw[Int.fmod_eq_emod_of_nonneg _ (by omega)]at e;exact Int.dvd_of_emod_eq_zero e
def jv:Sp':=fun vs H Q _=>ap [.V] (fun v=>∃ps:List P2,Seq H v (ps.map prV)/\ps.length≤500/\Q (.tup (ps.map prV)) H) vs
theorem sQ:jv [v] H Q E=∃ps:List P2,Seq H v (ps.map prV)/\ps.length≤500/\Q (.tup (ps.map prV)) H:=rfl
def prod(l:List Int):Int:=l.foldl (·*·) 1
def iT:Sp':=fun vs H Q _=>ap [.V] (fun v=>∃ns:List Int,Seq H v (ns.map PV.int)/\ns.length≤500/\(∀k,(prod (ns.take k)).natAbs≤1000000)/\(∀n∈ns,n.natAbs≤1000000)/\Q (.int (prod ns)) H) vs
theorem qC:iT [v] H Q E=∃ns:List Int,Seq H v (ns.map PV.int)/\ns.length≤500/\(∀k,(prod (ns.take k)).natAbs≤1000000)/\(∀n∈ns,n.natAbs≤1000000)/\Q (.int (prod ns)) H:=rfl
theorem cA:prod (l++[n])=prod l*n:=by unfold prod;rw[List.foldl_append];rfl
theorem wC(h:i.natAbs≤1000000):Fit i:=gO (Gz h (by decide))
def shT(ws:List Int):PV:=.tup (ws.map fun w=>prV (shr ws.sum w))
def Shr(ws:List Int):Prop:=Sh ws ws.sum
def iN(n:Int)(p:P2):Bool:=decide (p.1=n)||decide (p.2=n)
def bpl(bs:List P2)(n:Int):List Nat:=(List.range bs.length).filter fun k=>match bs[k]? with | some p=>iN n p | none=>false
def jC(t:Ad):Sp':=fun vs H Q _=>ap [.R,.I] (fun x n=>∃dx c ts bs,H x=some (.ins t.a_D dx (DF c ts bs))/\bs.length≤6/\∀p,H p=none->Q (.ref p) (put H p (.lst ((bpl bs n).map fun k=>PV.int (k:Nat))))) vs
theorem uQ:jC t [.ref x,.int n] H Q E=∃dx c ts bs,H x=some (.ins t.a_D dx (DF c ts bs))/\bs.length≤6/\∀p,H p=none->Q (.ref p) (put H p (.lst ((bpl bs n).map fun k=>PV.int (k:Nat)))):=rfl
theorem rY:gy (l++[x])=gy l++[.tup [.int (l.length:Nat),x]]:=by
 unfold gy;rw[List.mapIdx_concat]
theorem snoc_ind{α:Type}{P:List α->Prop}(h0:P [])(h1:∀l x,P l->P (l++[x]))(l:List α):P l:=by
 have key:∀r:List α,P r.reverse:=fun r=>by
  induction r with
  | nil=>exact h0
  | cons x r ih=>rw[List.reverse_cons];exact h1 _ _ ih
 have:=key l.reverse
 rwa [List.reverse_reverse]at this
def fB(y:PV):PV:=match y with | .tup [.int k,_]=>.int k | _=>.non
def pB(n:Int)(y:PV):Bool:=match y with | .tup [_,.tup [.int u,.int v]]=>iN n (u,v) | _=>false
theorem tU:bpl (bs++[p]) n=bpl bs n++(if iN n p then [bs.length]else []):=by
 unfold bpl;rw[EX,List.length_singleton,List.range_succ,List.filter_append];congr 1
 ·refine List.filter_congr fun k hk=>?_;rw[FJ (Ft.mp hk)]
 ·rw[List.filter_cons,List.filter_nil,FI (E2 _),Nat.sub_self];rfl
theorem wD:((gy (bs.map prV)).filter (pB n)).map fB=(bpl bs n).map fun k=>PV.int (k:Nat):=by
 refine snoc_ind (P:=fun bs=>((gy (bs.map prV)).filter (pB n)).map fB=(bpl bs n).map fun k=>PV.int (k:Nat)) rfl (fun l p ih=>?_) bs;rw[Fi,Fp,List.map_nil,rY,List.filter_append,Fi,ih,tU,Fi,EM];congr 1;rw[List.filter_cons,List.filter_nil];have e:pB n (.tup [.int (l.length:Nat),prV p])=iN n p:=rfl;rw[e];split
 ·rfl
 ·rfl
theorem Ae{bs:List P2}(h:y∈gy (bs.map prV)):∃(k:Nat) (p:P2),y=.tup [.int (k:Nat),prV p]:=by
 unfold gy at h;rw[List.mem_mapIdx]at h;obtain⟨i,hi,rfl⟩:=h;rw[Ga];exact⟨i,_,rfl⟩
theorem oj:([PV.int p.1,PV.int p.2].any fun z=>deq z (.int n))=iN n p:=by
 unfold iN;simp[deq,List.any];rfl
def hsz{α:Type}(Hd:List (List α))(bs:List P2)(n:Int):List Int:=(bpl bs n).map fun k=>((Hd.getD k []).length:Int)
def ssz(ns:List Int)(ts:List P2)(n:Int):List Int:=((ts.filter fun p=>decide (p.2=n)).map (·.1)).map fun u=>ns.getD u.toNat 0
theorem mI(h:k∈bpl bs n):k<bs.length:=Ft.mp (F0.mp h).1
theorem kd:(bpl bs n).length≤bs.length:=by
 unfold bpl;have:=List.length_filter_le (fun k=>match bs[k]? with | some p=>iN n p | none=>false) (List.range bs.length)
 rwa [Fv]at this
def r9(t:Ad):Sp':=fun vs H Q _=>ap [.R,.T,.I] (fun x l n=>∃dx c ts bs,∃Hd:List (List PV),H x=some (.ins t.a_D dx (DF c ts bs))/\l=Hd.map PV.tup/\Hd.length=bs.length/\bs.length≤6/\∀p H1,Sub H H1->H p=none->H1 p=some (.lst ((hsz Hd bs n).map PV.int))->Q (.ref p) H1) vs
theorem BQ:r9 t [.ref x,.tup l,.int n] H Q E=∃dx c ts bs,∃Hd:List (List PV),H x=some (.ins t.a_D dx (DF c ts bs))/\l=Hd.map PV.tup/\Hd.length=bs.length/\bs.length≤6/\∀p H1,Sub H H1->H p=none->H1 p=some (.lst ((hsz Hd bs n).map PV.int))->Q (.ref p) H1:=rfl
def fH(Hd:List (List PV))(y:PV):PV:=match y with | .int k=>.int ((Hd.getD k.toNat []).length:Nat) | _=>.non
theorem Am{Hd:List (List PV)}(h:k<Hd.length):atI (Hd.map PV.tup) (k:Nat)=some (.tup (Hd.getD k [])):=by
 rw[fj (by rw[EM];exact h),Ga,ER,EO h];rfl
def lX(t:Ad):Sp':=fun vs H Q _=>ap [.R,.T,.T,.I] (fun x k l n=>∃dx c ts bs,∃(ns:List Int) (Hd:List (List PV)),H x=some (.ins t.a_D dx (DF c ts bs))/\k=ns.map PV.int/\(ns.length:Int)=c/\Good c ts/\c≤6/\l=Hd.map PV.tup/\Hd.length=bs.length/\bs.length≤6/\(0≤n/\n<c)/\∀p H1,Sub H H1->H p=none->H1 p=some (.lst ((ssz ns ts n++hsz Hd bs n).map PV.int))->Q (.ref p) H1) vs
theorem vM:lX t [.ref x,.tup k,.tup l,.int n] H Q E=∃dx c ts bs,∃(ns:List Int) (Hd:List (List PV)),H x=some (.ins t.a_D dx (DF c ts bs))/\k=ns.map PV.int/\(ns.length:Int)=c/\Good c ts/\c≤6/\l=Hd.map PV.tup/\Hd.length=bs.length/\bs.length≤6/\(0≤n/\n<c)/\∀p H1,Sub H H1->H p=none->H1 p=some (.lst ((ssz ns ts n++hsz Hd bs n).map PV.int))->Q (.ref p) H1:=rfl
def fN(ns:List Int)(y:PV):PV:=match y with | .int k=>.int (ns.getD k.toNat 0) | _=>.non
theorem wu(h:n≤100000):n≤sizeLine:=by rw[Gg];omega
def kc:Sp':=fun vs H Q _=>match vs with
 | [.int d,.int z,.bl f]=>(1≤z/\z≤4)/\∀p (ws:List Int),H p=none->(ws.length:Int)=z->Shr ws->Q (.ref p) (put H p (.lst (ws.map PV.int)))
 | _=>False
theorem BP:kc [.int d,.int z,.bl f] H Q E=((1≤z/\z≤4)/\∀p (ws:List Int),H p=none->(ws.length:Int)=z->Shr ws->Q (.ref p) (put H p (.lst (ws.map PV.int)))):=rfl
theorem mz{b:Int}:∀{ws:List Int},(∀w∈ws,0≤w/\w≤b)->0≤ws.sum/\ws.sum≤b*ws.length
 | [],_=>by simp
 | w::ws,h=>by
  obtain⟨h1,h2⟩:=h w E1;obtain⟨i1,i2⟩:=mz (ws:=ws) fun x hx=>h x (EY _ hx);rw[F5,EU];have:b*((ws.length+1:Nat):Int)=b*ws.length+b:=by rw[Int.natCast_add,Int.mul_add];simp
  omega
theorem uU(h:∀w∈ws,0≤w/\w≤8)(hl:ws.length≤4)(hs:ws.sum≠0):Shr ws:=by
 obtain⟨a,b⟩:=mz h;exact⟨rfl,by omega,fun w hw=>(h w hw).1,by omega,by omega⟩
def iu:Sp':=fun vs H Q _=>ap [.R] (fun a=>∃ws:List Int,H a=some (.lst (ws.map PV.int))/\Shr ws/\Q (shT ws) H) vs
theorem qW:iu [.ref a] H Q E=∃ws:List Int,H a=some (.lst (ws.map PV.int))/\Shr ws/\Q (shT ws) H:=rfl
def fW(s:Int)(y:PV):PV:=match y with | .int w=>prV (shr s w) | _=>.non
theorem bnS(h0:0≤i)(h1:i≤1000):My.BN 300 i:=by
 have : i.natAbs < 2 ^ 10 := by have : (1000 : Nat) < 2 ^ 10 := by decide
                                omega
 exact Fb this (Nat.pow_le_pow_right (by decide) (by decide))
theorem iH{s w:Int}(h:0<s):My.cF w s=shr s w:=by unfold My.cF;rw[Fo (by omega)];rfl
structure Shp (c:Int) (ts bs:List P2):Prop where
 hc:1≤c/\c≤6
 gt:Good c ts
 gb:Good c bs
 l6:bs.length≤6
 st:Srt ts
 sb:Srt bs
def iJ:Sp':=fun vs H Q _=>ap [.F] (fun l=>∃ns:List Int,l=ns.map PV.int/\∀c ts bs,Shp c ts bs->Q (.tup [.int c,.tup (ts.map prV),.tup (bs.map prV)]) H) vs
theorem vR:iJ [.fls l] H Q E=∃ns:List Int,l=ns.map PV.int/\∀c ts bs,Shp c ts bs->Q (.tup [.int c,.tup (ts.map prV),.tup (bs.map prV)]) H:=rfl
def eo(ts:List P2)(n:Int):List Int:=((List.range n.toNat).map fun k:Nat=>(k:Int)).filter fun u=>decide ((u,n)∈ts)
def jG:Sp':=fun vs H Q _=>ap [.V,.I] (fun u n=>∃c k l,u=PV.tup [.int c,.tup k,.tup l]/\(∃ts bs,k=ts.map prV/\l=bs.map prV/\(0≤n/\n≤6)/\bs.length≤6/\∀p q,H q=none->H p=none->p≠q->Q (.tup [.ref p,.ref q]) (put (put H q (.lst ((bpl bs n).map fun k=>PV.int (k:Nat)))) p (.lst ((eo ts n).map PV.int))))) vs
theorem uA:jG [.tup [.int c,.tup k,.tup l],.int n] H Q E=∃ts bs,k=ts.map prV/\l=bs.map prV/\(0≤n/\n≤6)/\bs.length≤6/\∀p q,H q=none->H p=none->p≠q->Q (.tup [.ref p,.ref q]) (put (put H q (.lst ((bpl bs n).map fun k=>PV.int (k:Nat)))) p (.lst ((eo ts n).map PV.int))):=by
 refine propext ⟨fun h=>?_,fun h=>?_⟩
 ·obtain⟨_,_,_,e0,h⟩:=h;cases e0;exact h
 ·exact⟨_,_,_,rfl,h⟩
def idP(y:PV):PV:=y
def pK(bs:List P2)(n:Int)(y:PV):Bool:=match y with | .int k=>(match bs[k.toNat]? with | some p=>iN n p | none=>false) | _=>false
def pU(ts:List P2)(n:Int)(y:PV):Bool:=match y with | .int u=>decide ((u,n)∈ts) | _=>false
theorem zN{x y z:PV}:atI [x,y,z] 1=some y:=rfl
theorem zy{x y z:PV}:atI [x,y,z] 2=some z:=rfl
theorem gP:cW 0 n=(List.range n).map fun k=>PV.int (k:Nat):=by
 unfold cW;refine Fz fun k _=>?_;rw[Int.zero_add]
theorem vT:((cW 0 bs.length).filter (pK bs n)).map idP=(bpl bs n).map fun k=>PV.int (k:Nat):=by
 rw[gP,List.filter_map,E8];unfold bpl;rfl
theorem uO:((cW 0 n.toNat).filter (pU ts n)).map idP=(eo ts n).map PV.int:=by
 rw[gP,List.filter_map,E8];unfold eo;rw[List.filter_map,E8];rfl
theorem vC{bs:List P2}{p:P2}(h:bs[k]?=some p):atI (bs.map prV) (k:Nat)=some (prV p):=by
 have hl:=(EV.mp h).1;rw[fj (by rw[EM];exact hl),Ga,(EV.mp h).2]
theorem rT{ts:List P2}:((ts.map prV).any fun z=>deq z (.tup [.int u,.int n]))=decide ((u,n)∈ts):=by
 rw[Gv,List.any_eq_true,decide_eq_true_eq];constructor
 ·rintro⟨z,hz,e⟩;obtain⟨p,hp,rfl⟩:=E3.mp hz;have:p=(u,n):=by
   unfold prV at e;simp[deq,eV]at e;exact Prod.ext e.1 e.2
  rw[←this];exact hp
 ·intro h;exact⟨_,E3.mpr ⟨_,h,rfl⟩,by unfold prV;simp[deq,eV]⟩
theorem sI{ts:List P2}:(ts.map prV).all (flat 8)=true:=by
 rw[Fj];intro y hy;obtain⟨p,_,rfl⟩:=E3.mp hy;rfl
theorem eI(I:Nat->St'->PHp->Prop)
  (hs:∀(i:Nat) (x:PV) (σ:St') (H:PHp) (R:St'->PHp->Prop),xs[i]?=some x->I i σ H->(∀σ' H',I (i+1) σ' H'->R σ' H') ->
   ok H/\g x σ H fun σ3 H2=>tt σ3 H2 fun b H3=>cif b (te σ3 H3 fun y H4=>∃l',H4 acc=some (.lst l')/\l'.length<sizeLine/\R σ3 (put H4 acc (.lst (l'++[y])))) (R σ3 H3))
  (hq:∀σ H,I xs.length σ H->ok H/\Q (.ref acc) H) {σ:St'} {H:PHp} (h0:I 0 σ H):dY ok g tt te acc Q xs σ H:=by
 have key:∀(r d:List PV) (σ:St') (H:PHp),xs=d++r->I d.length σ H->dY ok g tt te acc Q r σ H:=by
  intro r
  induction r with
  | nil =>
   intro d σ H e hv;rw[FH]at e;subst e;exact hq σ H hv
  | cons x r ih =>
   intro d σ H e hv;refine hs d.length x σ H _ (by rw[e];simp) hv fun σ' H' h'=>?_;exact ih (d++[x]) σ' H' (by rw[e];simp) (by rw[EX];exact h')
 exact key xs [] σ H rfl h0
def RowW(H0 H1:PHp)(p:Addr)(y:PV)(ws:List Int):Prop:=∃r,y=.ref r/\H1 r=some (.lst (ws.map PV.int))/\r≠p/\H0 r=none
def ft:Sp':=fun vs H Q _=>match vs with
 | [.int cell,.int m,.int z,.bl f]=>(1≤m/\m≤400)/\(1≤z/\z≤4)/\∀p H1 ys Rw,Sub H H1->H p=none->H1 p=some (.lst ys)->Paired (RowW H H1 p) ys Rw->(Rw.length:Int)=m->(∀ws∈Rw,Shr ws/\(ws.length:Int)=z)->Q (.ref p) H1
 | _=>False
theorem vY:ft [.int cell,.int m,.int z,.bl f] H Q E=((1≤m/\m≤400)/\(1≤z/\z≤4)/\∀p H1 ys Rw,Sub H H1->H p=none->H1 p=some (.lst ys)->Paired (RowW H H1 p) ys Rw->(Rw.length:Int)=m->(∀ws∈Rw,Shr ws/\(ws.length:Int)=z)->Q (.ref p) H1):=rfl
theorem dS{R:α->β->Prop}{x:α}{y:β}(h:R x y):∀{l:List α} {m:List β},Paired R l m->Paired R (l++[x]) (m++[y]):=by
 intro l m p
 induction p with
 | nil=>exact .cons h .nil
 | cons a _ ih=>exact .cons a ih
theorem bF{R:α->β->Prop}{l:List α}{m:List β}(p:Paired R l m):l.length=m.length:=by
 induction p with
 | nil=>rfl
 | cons _ _ ih=>rw[EU,EU,ih]
theorem bX{R S:α->β->Prop}(h:∀x y,R x y->S x y){l:List α}{m:List β}(p:Paired R l m):Paired S l m:=by
 induction p with
 | nil=>exact .nil
 | cons a _ ih=>exact .cons (h _ _ a) ih
def ka(H:PHp)(y:PV)(ws:List Int):Prop:=∃r,y=.ref r/\H r=some (.lst (ws.map PV.int))
def wj(H:PHp)(z:PV)(Rw:List (List Int)):Prop:=∃r ys,z=.ref r/\H r=some (.lst ys)/\Paired (ka H) ys Rw
def tbT(Rw:List (List Int)):PV:=.tup (Rw.map shT)
def jJ:Sp':=fun vs H Q _=>ap [.V] (fun u=>∃a b d,u=PV.tup [.ref a,.ref b,.ref d]/\(∃(ns:List Int) (Hd:List (List Int)) (Tb:List (List (List Int))) (ys zs:List PV),H a=some (.lst (ns.map PV.int))/\H b=some (.lst ys)/\H d=some (.lst zs)/\Paired (ka H) ys Hd/\Paired (wj H) zs Tb/\((∀ws∈Hd,Shr ws)/\Hd.length≤6)/\((∀Rw∈Tb,Rw.length≤400/\∀ws∈Rw,Shr ws)/\Tb.length≤6)/\Q (.tup [.tup (ns.map PV.int),.tup (Hd.map shT),.tup (Tb.map tbT)]) H)) vs
theorem yC:jJ [.tup [.ref a,.ref b,.ref d]] H Q E=∃(ns:List Int) (Hd:List (List Int)) (Tb:List (List (List Int))) (ys zs:List PV),H a=some (.lst (ns.map PV.int))/\H b=some (.lst ys)/\H d=some (.lst zs)/\Paired (ka H) ys Hd/\Paired (wj H) zs Tb/\((∀ws∈Hd,Shr ws)/\Hd.length≤6)/\((∀Rw∈Tb,Rw.length≤400/\∀ws∈Rw,Shr ws)/\Tb.length≤6)/\Q (.tup [.tup (ns.map PV.int),.tup (Hd.map shT),.tup (Tb.map tbT)]) H:=by
 refine propext ⟨fun h=>?_,fun h=>?_⟩
 ·obtain⟨_,_,_,e0,h⟩:=h;cases e0;exact h
 ·exact⟨_,_,_,rfl,h⟩
def unI(y:PV):Int:=match y with | .int i=>i | _=>0
theorem yJ{l:List Int}:(l.map PV.int).map unI=l:=by
 rw[E8];exact List.map_id'' (fun _=>rfl) l
def fR(H:PHp)(y:PV):PV:=match y with
 | .ref r=>(match H r with | some (.lst l)=>shT (l.map unI) | _=>.non)
 | _=>.non
theorem nW(h:ka H y ws):fR H y=shT ws:=by
 obtain⟨r,rfl,e⟩:=h;show(match H r with | some (.lst l)=>shT (l.map unI) | _=>.non)=_;rw[e];show shT ((ws.map PV.int).map unI)=_;rw[yJ]
theorem pe(p:Paired (ka H) ys Rw):((ys.filter fun _=>true).map (fR H))=Rw.map shT:=by
 rw[Fm.mpr (fun _ _=>rfl)]
 induction p with
 | nil=>rfl
 | cons a _ ih=>rw[Fp,Fp,ih,nW a]
theorem jM{a b:Int}(h0:0≤a)(h1:1≤b):a≤a*b:=by
 have:=Int.mul_le_mul_of_nonneg_left h1 h0
 rwa [Int.mul_one]at this
theorem c7:prod (a++b)=prod a*prod b:=by
 refine snoc_ind (P:=fun b=>prod (a++b)=prod a*prod b) (by rw[FH];exact(Int.mul_one _).symm) (fun l n ih=>?_) b;rw[←List.append_assoc,cA,cA,ih,FU]
theorem bS:∀{l:List Int},(∀n∈l,1≤n)->1≤prod l:=fun {l}=>by
 refine snoc_ind (P:=fun l=>(∀n∈l,1≤n)->1≤prod l) (fun _=>Int.le_refl _) (fun l n ih h=>?_) l;rw[cA];have a:=ih fun x hx=>h x (Fy _ hx);have b:=h n (Ff _ E1);exact Int.le_trans a (jM (by omega) b)
theorem dE(h:∀n∈l,1≤n)(k:Nat):prod (l.take k)≤prod l/\1≤prod (l.take k):=by
 have a:=bS (l:=l.take k) fun x hx=>h x (List.mem_of_mem_take hx);have b:=bS (l:=l.drop k) fun x hx=>h x (List.mem_of_mem_drop hx);have e:prod l=prod (l.take k)*prod (l.drop k):=by rw[←c7,List.take_append_drop]
 exact⟨by rw[e];exact jM (by omega) b,a⟩
theorem iO{a b c d:Int}(ha:0≤a)(hc:0≤c)(h1:a≤b)(h2:c≤d):a*c≤b*d:=Int.mul_le_mul h1 h2 hc (by omega)
theorem kZ{α:Type}{p:α->Bool}{f:α->Int}:∀{L:List α},(∀x∈L,1≤f x)->prod ((L.filter p).map f)≤prod (L.map f):=fun {L}=>by
 refine snoc_ind (P:=fun L=>(∀x∈L,1≤f x)->prod ((L.filter p).map f)≤prod (L.map f)) (fun _=>Int.le_refl _) (fun l n ih h=>?_) L;have a:=ih fun x hx=>h x (Fy _ hx);have b:=h n (Ff _ E1);have c:=bS (l:=(l.filter p).map f) fun y hy=>by
  obtain⟨x,hx,rfl⟩:=E3.mp hy;exact h x (Fy _ (F0.mp hx).1)
 rw[List.filter_append,Fi,Fi,c7,c7];refine iO (by omega) ?_ a ?_
 ·rw[List.filter_cons,List.filter_nil];split
  ·show 0≤prod [f n];unfold prod;simp;omega
  ·show(0:Int)≤1;decide
 ·rw[List.filter_cons,List.filter_nil];split
  ·exact Int.le_refl _
  ·show 1≤prod [f n];unfold prod;simp;omega
def hdz{α:Type}(ns:List Int)(Hd:List (List α))(ts bs:List P2)(n:Int):List Int:=ssz ns ts n++hsz Hd bs n
structure Wld (c:Int) (ts bs:List P2) (ns:List Int) (Hd:List (List Int)) (Tb:List (List (List Int))):Prop where
 ln:(ns.length:Int)=c
 n4:∀n∈ns,2≤n/\n≤4
 lh:Hd.length=bs.length
 h4:∀ws∈Hd,Shr ws/\1≤ws.length/\ws.length≤4
 lt:Tb.length=ns.length
 most:prod ns*prod (Hd.map fun ws=>(ws.length:Int))≤200000
 tb:∀(k:Nat) Rw,Tb[k]?=some Rw->(Rw.length:Int)=prod (hdz ns Hd ts bs (k:Nat))/\Rw.length≤400/\∀ws∈Rw,Shr ws/\(ws.length:Int)=ns.getD k 0
theorem hW(ln:(ns.length:Int)=c)(n4:∀n∈ns,2≤n/\n≤4)(lh:Hd.length=bs.length)(h4:∀ws∈Hd,Shr ws/\1≤ws.length/\ws.length≤4)(g:Good c ts)(n:Int):∀x∈hdz ns Hd ts bs n,1≤x/\x≤4:=fun x hx=>by
 unfold hdz ssz hsz at hx;rcases Fu.mp hx with hx | hx
 ·obtain⟨u,hu,rfl⟩:=E3.mp hx;obtain⟨p,hp,rfl⟩:=E3.mp hu;have b:=g.lo p (F0.mp hp).1;have hk:p.1.toNat<ns.length:=by omega
  rw[ER,EO hk];have:=n4 _ (FK hk);exact⟨by show 1≤ns[p.1.toNat];omega,this.2⟩
 ·obtain⟨k,hk,rfl⟩:=E3.mp hx;have hk2:k<Hd.length:=by rw[lh];exact mI hk
  rw[ER,EO hk2];have:=h4 _ (FK hk2);exact⟨by show(1:Int)≤((Hd[k]).length:Nat);omega,by show((Hd[k].length:Nat):Int)≤4;omega⟩
theorem Wld.pos(h:Wld c ts bs ns Hd Tb)(g:Good c ts)(n:Int):∀x∈hdz ns Hd ts bs n,1≤x/\x≤4:=hW h.ln h.n4 h.lh h.h4 g n
theorem ve{Hd:List (List Int)}:(hdz ns Hd ts bs n).length≤ts.length+bs.length:=by
 unfold hdz ssz hsz;rw[EX,EM,EM,EM];have a:(ts.filter fun p=>decide (p.2=n)).length≤ts.length:=List.length_filter_le _ _;have b:=kd (bs:=bs) (n:=n);omega
def uc(H:PHp)(y:PV)(ws:List Int):Prop:=Seq H y (ws.map fun w=>prV (shr ws.sum w))
theorem yd:shT ws=.tup ((ws.map (shr ws.sum)).map prV):=by unfold shT;rw[E8];rfl
theorem uc.tp(h:uc H y ws):jc H y=shT ws:=by
 rcases h with rfl |⟨r,rfl,e⟩
 ·rfl
 ·exact eB e
theorem uc.up(s:U.Sub H H1){ys:List PV}{Hd:List (List Int)}(h:Paired (uc H) ys Hd):Paired (uc H1) ys Hd:=bX (fun _ _ r=>Seq.up r s) h
def fL(y:PV):PV:=match y with | .tup l=>.int (l.length:Nat) | _=>.non
theorem lJ:prod (n::l)=n*prod l:=by
 have:=c7 (a:=[n]) (b:=l);rw[List.singleton_append]at this;rw[this];show(1*n)*prod l=_;rw[Int.one_mul]
theorem lD(h:l[i]?=some v):prod (l.set i s)*v=prod l*s:=by
 obtain⟨hi,rfl⟩:=EV.mp h;have e:prod l=prod (l.take i)*(l[i]*prod (l.drop (i+1))):=by
  rw[←lJ,← c7,← Gh hi,List.take_append_drop]
 rw[List.set_eq_take_append_cons_drop,Fq hi,c7,lJ,e];simp only[FU,F1,Gs]
theorem kP{α:Type}{l:List α}{d:α}(h:n≤l.length):(List.range n).map (fun k=>l.getD k d)=l.take n:=by
 refine List.ext_getElem (by rw[EM,Fv,FT];omega) fun i h1 h2=>?_;rw[Ga,List.getElem_range,List.getElem_take,ER,EO (by rw[FT]at h2;omega)];rfl
theorem yT{Hd:List (List Int)}(hs:Shp c ts bs)(hn:n<c):hdz ns Hd ts bs n=((eo ts n).map fun u=>ns.getD u.toNat 0)++hsz Hd bs n:=by
 unfold hdz ssz eo;rw[DM.vd hs.hc.2 hs.gt hs.st hn]
theorem jR(hs:Shp c ts bs)(hn:0≤n/\n<c)(ln:(ns.length:Int)=c)(n4:∀n∈ns,2≤n/\n≤4)(lh:Hd.length=bs.length)(h4:∀ws∈Hd,Shr ws/\1≤ws.length/\ws.length≤4):1≤prod (hdz ns Hd ts bs n)/\prod (hdz ns Hd ts bs n)≤prod ns*prod (Hd.map fun ws=>(ws.length:Int)):=by
 have pos:=hW ln n4 lh h4 hs.gt n;refine⟨bS fun x hx=>(pos x hx).1,?_⟩;have p1:=bS (l:=ssz ns ts n) fun x hx=>(pos x (Fy _ hx)).1;have p2:=bS (l:=hsz Hd bs n) fun x hx=>(pos x (Ff _ hx)).1;unfold hdz;rw[c7];have n1:∀k:Nat,k<ns.length->1≤ns.getD k 0:=fun k hk=>by
  rw[ER,EO hk];have:=n4 _ (FK hk);show 1≤ns[k];omega
 refine iO (by omega) (by omega) ?_ ?_
 ·unfold ssz;rw[DM.vd hs.hc.2 hs.gt hs.st hn.2];refine Int.le_trans (kZ fun x hx=>?_) ?_
  ·obtain⟨k,hk,rfl⟩:=E3.mp hx;have:=Ft.mp hk;exact n1 _ (by rw[FW];omega)
  ·rw[E8];have e:(List.range n.toNat).map ((fun u:Int=>ns.getD u.toNat 0) ∘ fun k:Nat=>(k:Int))=ns.take n.toNat:=by
    rw[←kP (d:=0) (show n.toNat≤ns.length by omega)];rfl
   rw[e];exact(dE (fun x hx=>by have:=n4 x hx;omega) _).1
 ·unfold hsz bpl;refine Int.le_trans (kZ fun k hk=>?_) ?_
  ·have hk2:k<Hd.length:=by rw[lh];exact Ft.mp hk
   rw[ER,EO hk2];have:=h4 _ (FK hk2);show(1:Int)≤((Hd[k]).length:Nat);omega
  ·have e:(List.range bs.length).map (fun k=>((Hd.getD k []).length:Int))=Hd.map fun ws=>(ws.length:Int):=by
    have:=congrArg (List.map fun ws:List Int=>(ws.length:Int)) (kP (l:=Hd) (d:=[]) (n:=bs.length) (by omega));rw[E8,← lh,F9]at this;rw[←lh];exact this
   rw[e];exact Int.le_refl _
def Kx(p:Addr)(H H1:PHp):Prop:=∀a u,a≠p->H a=some u->H1 a=some u
def kA(p:Addr)(H:PHp)(y:PV)(ws:List Int):Prop:=∃r,y=.ref r/\r≠p/\H r=some (.lst (ws.map PV.int))
def pV(p:Addr)(H:PHp)(z:PV)(Rw:List (List Int)):Prop:=∃r ys,z=.ref r/\r≠p/\H r=some (.lst ys)/\Paired (kA p H) ys Rw
theorem kA.up(k:Kx p H H1){ys:List PV}{Hd:List (List Int)}(h:Paired (kA p H) ys Hd):Paired (kA p H1) ys Hd:=bX (fun _ _ y_=>by obtain⟨r,e,n,q⟩:=y_;exact ⟨r,e,n,k _ _ n q⟩) h
theorem pV.up(k:Kx p H H1){ys:List PV}{Tb:List (List (List Int))}(h:Paired (pV p H) ys Tb):Paired (pV p H1) ys Tb:=bX (fun _ _ y_=>by obtain⟨r,ys,e,n,q,w⟩:=y_;exact ⟨r,ys,e,n,k _ _ n q,kA.up k w⟩) h
def iy:Sp':=fun vs H Q _=>ap [.F,.I,.V,.I] (fun l k u m=>∃c tv bv,u=PV.tup [.int c,.tup tv,.tup bv]/\(∃(is:List Int) (ts bs:List P2),l=is.map PV.int/\tv=ts.map prV/\bv=bs.map prV/\(0≤k/\k≤10)/\m=300/\Shp c ts bs /\
  ∀a b d ns Hd Tb ys zs H1,Sub H H1->H1 a=some (.lst (ns.map PV.int))->H1 b=some (.lst ys)->H1 d=some (.lst zs)->Paired (ka H1) ys Hd->Paired (wj H1) zs Tb->Wld c ts bs ns Hd Tb->Q (.tup [.ref a,.ref b,.ref d]) H1)) vs
theorem vD:iy [.fls l,.int k,.tup [.int c,.tup tv,.tup bv],.int m] H Q E=∃(is:List Int) (ts bs:List P2),l=is.map PV.int/\tv=ts.map prV/\bv=bs.map prV/\(0≤k/\k≤10)/\m=300/\Shp c ts bs /\
  ∀a b d ns Hd Tb ys zs H1,Sub H H1->H1 a=some (.lst (ns.map PV.int))->H1 b=some (.lst ys)->H1 d=some (.lst zs)->Paired (ka H1) ys Hd->Paired (wj H1) zs Tb->Wld c ts bs ns Hd Tb->Q (.tup [.ref a,.ref b,.ref d]) H1:=by
 refine propext ⟨fun h=>?_,fun h=>?_⟩
 ·obtain⟨_,_,_,e0,h⟩:=h;cases e0;exact h
 ·exact⟨_,_,_,rfl,h⟩
theorem Eb(h0:0≤d)(h:d<4):∃e,atI [PV.int 2,PV.int 2,PV.int 3,PV.int 4] d=some (.int e)/\2≤e/\e≤4:=by
 rcases (show d=0∨d=1∨d=2∨d=3 by omega)with rfl | rfl | rfl | rfl
 ·exact⟨2,rfl,by decide⟩
 ·exact⟨2,rfl,by decide⟩
 ·exact⟨3,rfl,by decide⟩
 ·exact⟨4,rfl,by decide⟩
theorem Df(h0:0≤d)(h:d<5):∃e,atI [PV.int 1,PV.int 2,PV.int 2,PV.int 3,PV.int 4] d=some (.int e)/\1≤e/\e≤4:=by
 rcases (show d=0∨d=1∨d=2∨d=3∨d=4 by omega)with rfl | rfl | rfl | rfl | rfl
 ·exact⟨1,rfl,by decide⟩
 ·exact⟨2,rfl,by decide⟩
 ·exact⟨2,rfl,by decide⟩
 ·exact⟨3,rfl,by decide⟩
 ·exact⟨4,rfl,by decide⟩
structure Sz (c:Int) (i:Nat) (ns:List Int):Prop where
 ln:ns.length=c.toNat
 n4:∀n∈ns,2≤n/\n≤4
 tw:∀j,i≤j->j<ns.length->ns[j]?=some 2
 le:prod ns≤150
theorem Sz.zero(h:1≤c/\c≤6):Sz c 0 (List.replicate c.toNat 2)/\prod (List.replicate c.toNat 2)=1*2 ^ c.toNat:=by
 refine⟨⟨FL,fun n hn=>by rw[(Gk.mp hn).2];decide,fun j _ hj=>by rw[FL]at hj;exact List.getElem?_replicate_of_lt hj,?_⟩,?_⟩
 ·rcases (show c=1∨c=2∨c=3∨c=4∨c=5∨c=6 by omega)with rfl | rfl | rfl | rfl | rfl | rfl<;>decide
 ·rcases (show c=1∨c=2∨c=3∨c=4∨c=5∨c=6 by omega)with rfl | rfl | rfl | rfl | rfl | rfl<;>decide
theorem Sz.up(h:Sz c i ns):Sz c (i+1) ns:=⟨h.ln,h.n4,fun j hj hl=>h.tw j (by omega) hl,h.le⟩
theorem Sz.half(h:Sz c i ns)(hi:i<ns.length)(s:Int):(prod ns).fdiv 2*s=prod (ns.set i s):=by
 have q:=lD (s:=s) (h.tw i (E2 _) hi);have o:=lD (s:=1) (h.tw i (E2 _) hi);rw[Int.mul_one]at o;rw[←o,Int.mul_fdiv_cancel _ (by decide)];rw[←o]at q;have:prod (ns.set i s)*2=(prod (ns.set i 1)*s)*2:=by rw[q];simp only[FU,F1,Gs]
 omega
theorem Sz.set(h:Sz c i ns){s:Int}(hs:2≤s/\s≤4)(hl:prod (ns.set i s)≤150):Sz c (i+1) (ns.set i s):=by
 refine⟨by rw[FR];exact h.ln,fun n hn=>?_,fun j hj hl=>?_,hl⟩
 ·rcases FQ hn with hn | rfl
  ·exact h.n4 n hn
  ·exact hs
 ·rw[FR]at hl;rw[Gm (by omega)];exact h.tw j (by omega) hl
theorem jz{Z:List Int}(h:Z[m]?=some v):prod (Z.take (m+1))=prod (Z.take m)*v:=by
 rw[FX,h];exact cA
theorem n6:prod ((Hd++[ws]).map fun ws:List Int=>(ws.length:Int))=prod (Hd.map fun ws:List Int=>(ws.length:Int))*(ws.length:Int):=by
 rw[Fi];exact cA
theorem kx{α:Type}{l:List α}{x y:α}(h:(l++[x])[k]?=some y):l[k]?=some y∨(k=l.length/\y=x):=by
 rcases Nat.lt_trichotomy k l.length with q | q | q
 ·rw[FJ q]at h;exact .inl h
 ·rw[FI (by omega),q,Nat.sub_self]at h;exact .inr ⟨q,(Fn h).symm⟩
 ·rw[FN (by rw[EX];simp;omega)]at h;cases h
theorem wI(h:u∈eo ts n):0≤u/\u<n:=by
 obtain⟨k,hk,rfl⟩:=E3.mp (F0.mp h).1;have:=Ft.mp hk;omega
def shs(ws:List Int):List PV:=ws.map fun w=>prV (shr ws.sum w)
def fb(b:Int):Bool:=decide (b.fmod 2=1)
def gb(b:Int):Bool:=decide ((b.fdiv 2).fmod 2=1)
def bj(b:Int):Nat->Int
 | 0=>b
 | n+1=>(bj b n).fdiv 4
def iC(f:Bool)(N:Addr->Prop)(H:PHp)(y:PV)(ws:List Int):Prop:=(f=true/\y=shT ws)∨(f=false/\∃r,y=.ref r/\¬N r/\H r=some (.lst (shs ws)))
def qh(f g:Bool)(N:Addr->Prop)(d:Addr)(H:PHp)(z:PV)(Rw:List (List Int)):Prop:=∃ys,Paired (iC f N H) ys Rw/\((g=true/\z=.tup ys)∨(g=false/\∃t,z=.ref t/\t≠d/\N t/\H t=some (.lst ys)))
theorem iC.imp(k:∀r u,¬N r->H r=some u->¬N' r/\H' r=some u){ys:List PV}{Rw:List (List Int)}(h:Paired (iC f N H) ys Rw):Paired (iC f N' H') ys Rw :=
 bX (fun _ _ q=>q.elim .inl fun y_=>by obtain⟨e,r,e1,n,e2⟩:=y_;exact .inr ⟨e,r,e1,(k r _ n e2).1,(k r _ n e2).2⟩) h
theorem qh.imp(k:∀r u,¬N r->H r=some u->¬N' r/\H' r=some u)(m:∀r u,r≠d->N r->H r=some u->N' r/\H' r=some u){z:PV}{Rw:List (List Int)}(h:qh f g N d H z Rw):qh f g N' d H' z Rw:=by
 obtain⟨ys,p,q⟩:=h;refine⟨ys,iC.imp k p,q.elim .inl fun y_=>by obtain⟨e,t,e1,n,nt,e2⟩:=y_;exact .inr ⟨e,t,e1,n,(m t _ n nt e2).1,(m t _ n nt e2).2⟩⟩
structure Hnd (bits:Int) (N:Addr→Prop) (d:Addr) (H:PHp) (zs:List PV) (Tb:List (List (List Int))):Prop where
 nd:N d
 ls:∀x,N x->H x≠none
 tb:∀i z Rw,zs[i]?=some z->Tb[i]?=some Rw->qh (fb (bj bits i)) (gb (bj bits i)) N d H z Rw
theorem oI{x:PV}:ixN (l++[x]).length (-1)=some l.length:=by
 unfold ixN;rw[Fo (by decide),Fq (by rw[EX];simp;omega)];congr 1;rw[EX];simp;omega
theorem nZ{x:PV}:atI (l++[x]) (-1)=some x:=by
 unfold atI;rw[oI];show(l++[x])[l.length]?=some x;rw[FI (E2 _),Nat.sub_self];rfl
theorem su{x y:PV}:(l++[x]).set l.length y=l++[y]:=by
 rw[List.set_append_right _ _ (E2 _),Nat.sub_self];rfl
theorem n9{α β:Type}{R:α->β->Prop}:∀{l:List α} {m:List β},l.length=m.length->(∀(i:Nat) x y,l[i]?=some x->m[i]?=some y->R x y)->Paired R l m
 | [],[],_,_=>.nil
 | [],_::_,h,_=>by cases h
 | _::_,[],h,_=>by cases h
 | x::l,y::m,h,k=>.cons (k 0 x y rfl rfl) (n9 (by simpa using h) fun i a b ha hb=>k (i+1) a b ha hb)
theorem Hnd.up(h:Hnd bits N d H zs Tb)(s:U.Sub H H1):Hnd bits N d H1 zs Tb:=by
 refine⟨h.nd,fun x nx e=>h.ls x nx (s.free e),fun i z Rw e1 e2=>qh.imp (fun r u n e=>⟨n,s _ _ e⟩) (fun r u _ n e=>⟨n,s _ _ e⟩) (h.tb i z Rw e1 e2)⟩
structure Mt (H H1:PHp):Prop where
 ls:∀x l,H x=some (.lst l)->∃m,H1 x=some (.lst m)
 el:∀x u,H x=some u->(∀l,u≠.lst l)->H1 x=some u
theorem Mt.refl(H:PHp):Mt H H:=⟨fun _ l e=>⟨l,e⟩,fun _ _ e _=>e⟩
theorem Mt.trans(h:Mt A B)(k:Mt B C):Mt A C:=⟨fun x l e=>let ⟨m,q⟩:=h.ls x l e;k.ls x m q,fun x u e n=>k.el x u (h.el x u e n) n⟩
theorem Mt.set(h:Mt A B)(e:B p=some (.lst l)):Mt A (put B p (.lst m)):=by
 refine⟨fun x k q=>?_,fun x u q n=>?_⟩
 ·by_cases xp:x=p
  ·rw[xp];exact⟨m,ah⟩
  ·rw[aj xp];exact h.ls x k q
 ·have b:=h.el x u q n;have xp:x≠p:=fun z=>by rw[z,e]at b;exact n l (Fn b).symm
  rw[aj xp];exact b
def Ty(N:Addr->Prop)(d r0:Addr)(H0 H:PHp)(zs:List PV):Prop:=∀z∈zs,∃ys,(z=.tup ys∨∃t,z=.ref t/\N t/\t≠d/\(t≠r0/\H0 t=none)/\H t=some (.lst ys))/\∀y∈ys,(∃l,y=.tup l)∨∃r l,y=.ref r/\¬N r/\H r=some (.lst l)
theorem Ty.of(h:Hnd bits N d H zs Tb)(hl:zs.length=Tb.length)(n0:∀t,PV.ref t∈zs->t≠r0/\H0 t=none):Ty N d r0 H0 H zs:=fun z hz=>by
 obtain⟨i,hi,rfl⟩:=List.getElem_of_mem hz;obtain⟨ys,p,q⟩:=h.tb i _ (Tb[i]'(by omega)) (EO hi) (EO (by omega));refine⟨ys,q.imp (fun q=>q.2) fun y_=>by obtain⟨_,t,e,n1,n,e2⟩:=y_;exact ⟨t,e,n,n1,n0 t (by rw[←e];exact hz),e2⟩,fun y hy=>?_⟩;obtain⟨ws,_,row⟩:=dq p hy;exact Or.imp (fun q=>⟨_,q.2⟩) (fun y_=>by obtain⟨_,r,e,n,e2⟩:=y_;exact ⟨r,_,e,n,e2⟩) row
theorem Ak{x y z:PV}:atI [x,y,z] 0=some x:=rfl
def shB(p:P2):Bool:=decide (0≤p.1)&&decide (My.gd p.1 p.2=1)
def tpO(B:Int)(p:P2):Int:=p.1*B.fdiv p.2
def One(ps:List P2):Prop:=∀B,0<B->(∀p∈ps,p.2 ∣ B)->(ps.map (tpO B)).sum=B
def eX(ps:List P2):Prop:=(∀p∈ps,shB p=true)/\One ps
def cE(ps:List P2):Prop:=ps.length≤500/\(∀p∈ps,1≤p.2/\My.BN 300 p.2)/\((∀p∈ps,shB p=true)->∃S,(0<S/\My.BN 300 S)/\∀p∈ps,p.2 ∣ S/\My.BN 300 p.1)
def rwV(ps:List P2):PV:=.tup (ps.map prV)
theorem jm(h0:0≤a)(h:a≤b)(hb:My.BN n b):My.BN n a:=Gz (by omega) hb
theorem j9(h0:0<a)(hb:0<b)(h:a ∣ b)(q:My.BN n b):My.BN n a:=jm (by omega) (Int.le_of_dvd hb h) q
theorem iY(h:My.BN 300 i):Fit i:=h.fit (by decide)
theorem wN(h0:0<j)(h:My.BN 300 j):oM i j:=⟨by omega,iY h⟩
def gD:Sp':=fun vs H Q _=>ap [.I,.I] (fun a b=>(0≤a/\0<b/\My.BN 300 b)/\Q (.tup [.int (a.fdiv (My.gd a b)),.int (b.fdiv (My.gd a b))]) H) vs
theorem nk:gD [.int a,.int b] H Q E=((0≤a/\0<b/\My.BN 300 b)/\Q (.tup [.int (a.fdiv (My.gd a b)),.int (b.fdiv (My.gd a b))]) H):=rfl
def pq:Sp':=fun vs H Q _=>ap [.T] (fun l=>∃(ps:List P2) (S:Int),l=ps.map prV/\(0<S/\My.BN 300 S)/\(∀p∈ps,1≤p.2/\p.2 ∣ S)/\∀B,0<B->B ∣ S->(∀p∈ps,p.2 ∣ B)->Q (.int B) H) vs
theorem zQ:pq [.tup l] H Q E=∃(ps:List P2) (S:Int),l=ps.map prV/\(0<S/\My.BN 300 S)/\(∀p∈ps,1≤p.2/\p.2 ∣ S)/\∀B,0<B->B ∣ S->(∀p∈ps,p.2 ∣ B)->Q (.int B) H:=rfl
def pC:Sp':=fun vs H Q _=>ap [.T,.I] (fun l B=>∃ps:List P2,l=ps.map prV/\ps.length≤500/\(0<B/\My.BN 300 B)/\(∀p∈ps,1≤p.2/\p.2 ∣ B/\My.BN 300 p.1)/\∀p,H p=none->Q (.ref p) (put H p (.lst ((ps.map (tpO B)).map PV.int)))) vs
theorem y8:pC [.tup l,.int B] H Q E=∃ps:List P2,l=ps.map prV/\ps.length≤500/\(0<B/\My.BN 300 B)/\(∀p∈ps,1≤p.2/\p.2 ∣ B/\My.BN 300 p.1)/\∀p,H p=none->Q (.ref p) (put H p (.lst ((ps.map (tpO B)).map PV.int))):=rfl
def lg:Sp':=fun vs H Q _=>ap [.T] (fun l=>∃(ps:List P2) (S:Int),l=ps.map prV/\ps.length≤500/\(0<S/\My.BN 300 S)/\(∀p∈ps,1≤p.2/\p.2 ∣ S/\0≤p.1/\My.BN 300 p.1)/\∀B:Int,0<B->(∀p∈ps,p.2 ∣ B)->0≤(ps.map (tpO B)).sum->Q (.tup [.int ((ps.map (tpO B)).sum.fdiv (My.gd (ps.map (tpO B)).sum B)),.int (B.fdiv (My.gd (ps.map (tpO B)).sum B))]) H) vs
theorem vZ:lg [.tup l] H Q E=∃(ps:List P2) (S:Int),l=ps.map prV/\ps.length≤500/\(0<S/\My.BN 300 S)/\(∀p∈ps,1≤p.2/\p.2 ∣ S/\0≤p.1/\My.BN 300 p.1)/\∀B:Int,0<B->(∀p∈ps,p.2 ∣ B)->0≤(ps.map (tpO B)).sum->Q (.tup [.int ((ps.map (tpO B)).sum.fdiv (My.gd (ps.map (tpO B)).sum B)),.int (B.fdiv (My.gd (ps.map (tpO B)).sum B))]) H:=rfl
def iP:Sp':=fun vs H Q _=>ap [.V] (fun u=>∃a b,u=PV.tup [.int a,.int b]/\((1≤b/\My.BN 300 b)/\Q (.bl (shB (a,b))) H)) vs
theorem rm:iP [.tup [.int a,.int b]] H Q E=((1≤b/\My.BN 300 b)/\Q (.bl (shB (a,b))) H):=by
 refine propext ⟨fun h=>?_,fun h=>?_⟩
 ·obtain⟨_,_,e0,h⟩:=h;cases e0;exact h
 ·exact⟨_,_,rfl,h⟩
def jH:Sp':=fun vs H Q _=>ap [.T] (fun l=>∃ps:List P2,l=ps.map prV/\cE ps/\∀v:Bool,(v=true↔eX ps)->Q (.bl v) H) vs
theorem rR:jH [.tup l] H Q E=∃ps:List P2,l=ps.map prV/\cE ps/\∀v:Bool,(v=true↔eX ps)->Q (.bl v) H:=rfl
theorem cY{B b:Int}(hb:0<b)(h:b ∣ B):B.fdiv b*b=B:=by
 have:=My.fc (a:=B) (g:=b) (by omega) h;rw[F1];exact this.symm
theorem sL(hp:0<p.2)(hB:p.2 ∣ B)(hC:p.2 ∣ C):tpO B p*C=tpO C p*B:=by
 have e1:=cY hp hB;have e2:=cY hp hC;unfold tpO;have:(p.1*B.fdiv p.2*C)=(p.1*C.fdiv p.2*B):=by
  calc p.1*B.fdiv p.2*C=p.1*B.fdiv p.2*(C.fdiv p.2*p.2):=by rw[e2]
   _=p.1*C.fdiv p.2*(B.fdiv p.2*p.2):=by simp only[FU,F1,Gs]
   _=p.1*C.fdiv p.2*B:=by rw[e1]
 exact this
theorem jE{B C:Int}:∀{ps:List P2},(∀p∈ps,0<p.2/\p.2 ∣ B/\p.2 ∣ C)->(ps.map (tpO B)).sum*C=(ps.map (tpO C)).sum*B
 | [],_=>by simp
 | p::ps,h=>by
  obtain⟨a,b,c⟩:=h p E1;rw[Fp,Fp,F5,F5,Int.add_mul,Int.add_mul,sL a b c,jE fun x hx=>h x (EY _ hx)]
theorem One.iff(hp:∀p∈ps,0<p.2)(hB:0<B)(hd:∀p∈ps,p.2 ∣ B):One ps↔(ps.map (tpO B)).sum=B:=by
 refine⟨fun h=>h B hB hd,fun e C hC hc=>?_⟩;have q:=jE (B:=B) (C:=C) fun p h=>⟨hp p h,hd p h,hc p h⟩;rw[e,F1]at q;exact(Int.eq_of_mul_eq_mul_right (by omega) q).symm
theorem oE{B:Int}(hB:0<B):∀{ps:List P2},(∀p∈ps,0≤p.1/\1≤p.2)->0≤(ps.map (tpO B)).sum
 | [],_=>by simp
 | p::ps,h=>by
  obtain⟨a,b⟩:=h p E1;have i:=oE hB (ps:=ps) fun x hx=>h x (EY _ hx);rw[Fp,F5];have:0≤tpO B p:=Int.mul_nonneg a (Int.fdiv_nonneg (by omega) (by omega));omega
theorem vG{T B:Int}(hT:0≤T)(hB:0<B):(((T.fdiv (My.gd T B)==1)&&(B.fdiv (My.gd T B)==1))=true)↔T=B:=by
 have g:=My.cK T B (by omega);have e1:=cY (B:=T) (b:=My.gd T B) g (My.dw T B);have e2:=cY (B:=B) (b:=My.gd T B) g (My.dB T B);rw[F8,Gd,Gd];constructor
 ·rintro⟨a,b⟩;rw[a]at e1;rw[b]at e2;omega
 ·rintro rfl;have gB:My.gd T T=T:=by unfold My.gd;rw[Int.gcd_self];omega
  rw[gB,Int.fdiv_self (by omega)];exact⟨rfl,rfl⟩
theorem zm(ha:0≤a)(hb:0<b):((a.fdiv (My.gd a b)==a)&&(b.fdiv (My.gd a b)==b))=decide (My.gd a b=1):=by
 have g:=My.cK a b (by omega);have e2:=cY (B:=b) (b:=My.gd a b) g (My.dB a b);rw[Gv,F8,Gd,Gd,decide_eq_true_eq];constructor
 ·rintro⟨_,q⟩;rw[q]at e2;have:b*My.gd a b=b*1:=by omega
  exact Int.eq_of_mul_eq_mul_left (by omega) this
 ·intro q;rw[q,Int.fdiv_one,Int.fdiv_one];exact⟨rfl,rfl⟩
def unR(y:PV):P2:=match y with | .tup [.int a,.int b]=>(a,b) | _=>(0,0)
theorem xk{ps:List P2}:(ps.map prV).map unR=ps:=by rw[E8];exact List.map_id'' (fun _=>rfl) ps
def unW(y:PV):List P2:=match y with | .tup l=>l.map unR | _=>[]
theorem iF:unW (rwV ps)=ps:=xk
def kI(t:Ad):Sp':=fun vs H Q _=>ap [.R,.T] (fun x l=>∃dx c ts bs,∃ns:List Int,H x=some (.ins t.a_D dx (DF c ts bs))/\l=ns.map PV.int/\ns.length≤20/\∀v:Bool,(v=true↔(ns.length:Int)=c/\∀n∈ns,2≤n/\n≤4)->Q (.bl v) H) vs
theorem vS:kI t [.ref x,.tup l] H Q E=(∃dx c ts bs,∃ns:List Int,H x=some (.ins t.a_D dx (DF c ts bs))/\l=ns.map PV.int/\ns.length≤20/\∀v:Bool,(v=true↔(ns.length:Int)=c/\∀n∈ns,2≤n/\n≤4)->Q (.bl v) H):=rfl
def HdO(bs:List P2)(Hs:List (List P2)):Prop:=Hs.length=bs.length/\∀ps∈Hs,(1≤ps.length/\ps.length≤4)/\eX ps
def TbO(r z:Int)(Rs:List (List P2)):Prop:=(Rs.length:Int)=r/\∀ps∈Rs,(ps.length:Int)=z/\eX ps
noncomputable def hB (ps:List P2):Bool:=@decide ((1≤ps.length/\ps.length≤4)/\eX ps) (Classical.propDecidable _)
noncomputable def zB (z:Int) (ps:List P2):Bool:=@decide ((ps.length:Int)=z/\eX ps) (Classical.propDecidable _)
theorem m8{ps:List P2}:hB ps=true↔(1≤ps.length/\ps.length≤4)/\eX ps:=by unfold hB;exact @decide_eq_true_iff _ (Classical.propDecidable _)
theorem mV{z:Int}{ps:List P2}:zB z ps=true↔(ps.length:Int)=z/\eX ps:=by unfold zB;exact @decide_eq_true_iff _ (Classical.propDecidable _)
theorem hJ{α:Type}{f:α->Bool}{l:List α}:(l.map f).all id=true↔∀x∈l,f x=true:=by
 rw[Fj];refine⟨fun h x hx=>h _ (E3.mpr ⟨x,hx,rfl⟩),fun h b hb=>?_⟩;obtain⟨x,hx,rfl⟩:=E3.mp hb;exact h x hx
def jy(t:Ad):Sp':=fun vs H Q _=>ap [.R,.T] (fun x l=>∃dx c ts bs,∃Hs:List (List P2),H x=some (.ins t.a_D dx (DF c ts bs))/\l=Hs.map rwV/\Hs.length≤20/\(∀ps∈Hs,cE ps)/\∀v:Bool,(v=true↔HdO bs Hs)->Q (.bl v) H) vs
theorem sy:jy t [.ref x,.tup l] H Q E=(∃dx c ts bs,∃Hs:List (List P2),H x=some (.ins t.a_D dx (DF c ts bs))/\l=Hs.map rwV/\Hs.length≤20/\(∀ps∈Hs,cE ps)/\∀v:Bool,(v=true↔HdO bs Hs)->Q (.bl v) H):=rfl
def kM:Sp':=fun vs H Q _=>ap [.T,.I,.I] (fun l r z=>∃Rs:List (List P2),l=Rs.map rwV/\Rs.length≤1000/\(∀ps∈Rs,cE ps)/\∀v:Bool,(v=true↔TbO r z Rs)->Q (.bl v) H) vs
theorem vX:kM [.tup l,.int r,.int z] H Q E=(∃Rs:List (List P2),l=Rs.map rwV/\Rs.length≤1000/\(∀ps∈Rs,cE ps)/\∀v:Bool,(v=true↔TbO r z Rs)->Q (.bl v) H):=rfl
def tbV(Rs:List (List P2)):PV:=.tup (Rs.map rwV)
def TsO(ts bs:List P2)(ns:List Int)(Hs:List (List P2))(Ts:List (List (List P2))):Prop:=Ts.length=ns.length/\∀(k:Nat) Rs,Ts[k]?=some Rs->TbO (prod (hdz ns Hs ts bs (k:Nat))) (ns.getD k 0) Rs
def dP(c:Int)(ts bs:List P2)(ns:List Int)(Hs:List (List P2))(Ts:List (List (List P2))):Prop:=((ns.length:Int)=c/\∀n∈ns,2≤n/\n≤4)/\HdO bs Hs/\prod ns*prod (Hs.map fun ps=>(ps.length:Int))≤200000/\TsO ts bs ns Hs Ts
theorem xi{Hs:List (List α)}{Hd:List (List β)}(h:Hs.map List.length=Hd.map List.length):hsz Hs bs n=hsz Hd bs n:=by
 unfold hsz;refine Fz fun k _=>?_;have e:(Hs.getD k []).length=(Hs.map List.length).getD k 0:=by rw[ER,ER,E7];cases Hs[k]?<;>rfl
 have e':(Hd.getD k []).length=(Hd.map List.length).getD k 0:=by rw[ER,ER,E7];cases Hd[k]?<;>rfl
 rw[e,e',h]
theorem ir{Hs:List (List α)}{Hd:List (List β)}(h:Hs.map List.length=Hd.map List.length):hdz ns Hs ts bs n=hdz ns Hd ts bs n:=by unfold hdz;rw[xi h]
def sur(ps:List P2):List Int:=List.replicate ps.length 1
theorem n8{Hs:List (List P2)}:Hs.map List.length=(Hs.map sur).map List.length:=by
 rw[E8];refine Fz fun ps _=>?_;exact FL.symm
theorem oO:(List.replicate n (1:Int)).sum=n:=by
 induction n with
 | zero=>rfl
 | succ n ih=>rw[FO,F5,ih];omega
theorem zO(h:1≤ps.length/\ps.length≤4):Shr (sur ps)/\1≤(sur ps).length/\(sur ps).length≤4:=by
 unfold sur;rw[FL];refine⟨⟨rfl,?_,fun w hw=>?_,?_,?_⟩,h.1,h.2⟩
 ·rw[oO];omega
 ·rw[(Gk.mp hw).2];decide
 ·rw[oO];omega
 ·rw[FL];omega
theorem lW{α:Type}{Hs:List (List α)}:(Hs.map fun ps=>(ps.length:Int))=(Hs.map List.length).map fun n:Nat=>(n:Int):=by rw[E8];rfl
def jt(t:Ad):Sp':=fun vs H Q _=>ap [.R,.T,.T,.T] (fun x k l m=>∃dx c ts bs,∃(ns:List Int) (Hs:List (List P2)) (Ts:List (List (List P2))),H x=some (.ins t.a_D dx (DF c ts bs))/\k=ns.map PV.int/\l=Hs.map rwV/\m=Ts.map tbV/\Shp c ts bs/\((ns.length:Int)=c/\∀n∈ns,2≤n/\n≤4)/\HdO bs Hs/\prod ns*prod (Hs.map fun ps=>(ps.length:Int))≤200000/\(∀Rs∈Ts,Rs.length≤1000/\∀ps∈Rs,cE ps)/\∀v:Bool,(v=true↔TsO ts bs ns Hs Ts)->Q (.bl v) H) vs
theorem uz:jt t [.ref x,.tup k,.tup l,.tup m] H Q E=(∃dx c ts bs,∃(ns:List Int) (Hs:List (List P2)) (Ts:List (List (List P2))),H x=some (.ins t.a_D dx (DF c ts bs))/\k=ns.map PV.int/\l=Hs.map rwV/\m=Ts.map tbV/\Shp c ts bs/\((ns.length:Int)=c/\∀n∈ns,2≤n/\n≤4)/\HdO bs Hs/\prod ns*prod (Hs.map fun ps=>(ps.length:Int))≤200000/\(∀Rs∈Ts,Rs.length≤1000/\∀ps∈Rs,cE ps)/\∀v:Bool,(v=true↔TsO ts bs ns Hs Ts)->Q (.bl v) H):=rfl
theorem TsO.imp:TsO ts bs ns Hs Ts↔Ts.length=ns.length/\∀(k:Nat) Rs,Ts[k]?=some Rs->TbO (prod (hdz ns Hs ts bs (k:Nat))) (ns.getD k 0) Rs:=Iff.rfl
noncomputable def tB (r z:Int) (Rs:List (List P2)):Bool:=@decide (TbO r z Rs) (Classical.propDecidable _)
theorem nJ:tB r z Rs=true↔TbO r z Rs:=by unfold tB;exact @decide_eq_true_iff _ (Classical.propDecidable _)
def unT(y:PV):List (List P2):=match y with | .tup l=>l.map unW | _=>[]
theorem tJ:unT (tbV Rs)=Rs:=by
 show(Rs.map rwV).map unW=Rs;rw[E8];exact List.map_id'' (fun ps=>iF) Rs
noncomputable def fTb (y:PV):PV:=match y with | .tup [v,.int r,.int z]=>.bl (tB r z (unT v)) | _=>.non
def cN(H:PHp)(y:PV)(ps:List P2):Prop:=Seq H y (ps.map prV)
def sj(H:PHp)(z:PV)(Rs:List (List P2)):Prop:=∃ys,Seq H z ys/\Paired (cN H) ys Rs
theorem cN.up(s:U.Sub H H1){ys:List PV}{Hs:List (List P2)}(h:Paired (cN H) ys Hs):Paired (cN H1) ys Hs:=bX (fun _ _ r=>Seq.up r s) h
theorem cN.tp(h:cN H y ps):jc H y=rwV ps:=by
 rcases h with rfl |⟨r,rfl,e⟩
 ·rfl
 ·exact eB e
theorem t6(h:Paired (cN H) ys Hs):((ys.filter fun _=>true).map (jc H))=Hs.map rwV:=by
 rw[Fm.mpr (fun _ _=>rfl)]
 induction h with
 | nil=>rfl
 | cons a _ ih=>rw[Fp,Fp,ih,cN.tp a]
def WFP(y w:Addr)(ns:List Int)(Hs:List (List P2))(Ts:List (List (List P2))):List (Str×PV):=[("drawing",.ref y),("sizes",.tup (ns.map PV.int)),("hidden",.tup (Hs.map rwV)),("tables",.tup (Ts.map tbV)),("weighed",.ref w)]
theorem zF{Hs:List (List P2)}:(((Hs.map rwV).filter fun _=>true).map fL)=(Hs.map fun ps=>((ps.length:Nat):Int)).map PV.int:=by
 rw[Fm.mpr (fun _ _=>rfl),E8,E8];refine Fz fun ps _=>?_;show PV.int _=PV.int _;rw[EM]
theorem tO:∀{l:List Int},(∀n∈l,1≤n/\n≤4)->prod l≤4 ^ l.length:=fun {l}=>by
 refine snoc_ind (P:=fun l=>(∀n∈l,1≤n/\n≤4)->prod l≤4 ^ l.length) (fun _=>Int.le_refl _) (fun l n ih h=>?_) l;have a:=ih fun x hx=>h x (Fy _ hx);have b:=h n (Ff _ E1);have c:=bS (l:=l) fun x hx=>(h x (Fy _ hx)).1;rw[cA,EX,Int.pow_add];exact iO (by omega) (by omega) a (by show n≤4 ^ 1;omega)
theorem jg(h:∀n∈l,1≤n/\n≤4)(hl:l.length≤6):prod l≤4096:=by
 have:=tO h;rcases (show l.length=0∨l.length=1∨l.length=2∨l.length=3∨l.length=4∨l.length=5∨l.length=6 by omega)with e | e | e | e | e | e | e<;>rw[e]at this<;>exact Int.le_trans this (by decide)
def la(t:Ad):Sp':=fun vs H Q E=>ap [.R,.R,.R,.R,.R] (fun x d0 a b d=>∃dx d1 c ts bs,∃(ns:List Int) (Hs:List (List P2)) (Ts:List (List (List P2))) (ys zs:List PV),H x=some (.ins t.a_W dx [])/\H d0=some (.ins t.a_D d1 (DF c ts bs))/\H a=some (.lst (ns.map PV.int))/\H b=some (.lst ys)/\H d=some (.lst zs)/\Paired (cN H) ys Hs/\Paired (sj H) zs Ts/\Shp c ts bs/\(ns.length≤20/\Hs.length≤20/\Ts.length≤20)/\(∀ps∈Hs,cE ps)/\(∀Rs∈Ts,Rs.length≤1000/\∀ps∈Rs,cE ps) /\
  (dP c ts bs ns Hs Ts->∀y dy w H1,(∀a u,a≠x->H a=some u->H1 a=some u)->H1 x=some (.ins t.a_W dx (WFP y w ns Hs Ts))->H1 y=some (.ins t.a_D dy (DF c ts bs))->H y=none->Q .non H1)/\(¬dP c ts bs ns Hs Ts->∀H1,Sub H H1->E (.ref t.a_V) none H1)) vs
theorem vt:la t [.ref x,.ref d0,.ref a,.ref b,.ref d] H Q E=(∃dx d1 c ts bs,∃(ns:List Int) (Hs:List (List P2)) (Ts:List (List (List P2))) (ys zs:List PV),H x=some (.ins t.a_W dx [])/\H d0=some (.ins t.a_D d1 (DF c ts bs))/\H a=some (.lst (ns.map PV.int))/\H b=some (.lst ys)/\H d=some (.lst zs)/\Paired (cN H) ys Hs/\Paired (sj H) zs Ts/\Shp c ts bs/\(ns.length≤20/\Hs.length≤20/\Ts.length≤20)/\(∀ps∈Hs,cE ps)/\(∀Rs∈Ts,Rs.length≤1000/\∀ps∈Rs,cE ps) /\
  (dP c ts bs ns Hs Ts->∀y dy w H1,(∀a u,a≠x->H a=some u->H1 a=some u)->H1 x=some (.ins t.a_W dx (WFP y w ns Hs Ts))->H1 y=some (.ins t.a_D dy (DF c ts bs))->H y=none->Q .non H1)/\(¬dP c ts bs ns Hs Ts->∀H1,Sub H H1->E (.ref t.a_V) none H1)):=rfl
def bg(ws:List Int):List P2:=ws.map (shr ws.sum)
theorem sM:shT ws=rwV (bg ws):=yd
theorem Af:shs ws=(bg ws).map prV:=by unfold shs bg;rw[E8];rfl
def M4(a b d r0:Addr)(x:Addr):Prop:=x=a∨x=b∨x=d∨x=r0
def jN(M:Addr->Prop)(H:PHp)(y:PV)(ps:List P2):Prop:=y=rwV ps∨∃r,y=.ref r/\¬M r/\H r=some (.lst (ps.map prV))
def qO(M:Addr->Prop)(H:PHp)(z:PV)(Rs:List (List P2)):Prop:=∃ys,Paired (jN M H) ys Rs/\(z=.tup ys∨∃t,z=.ref t/\¬M t/\H t=some (.lst ys))
structure Hnm (H0 H:PHp) (r0 a b d:Addr) (ns:List Int) (Hs:List (List P2)) (Ts:List (List (List P2))) (ys zs:List PV):Prop where
 sb:U.Sub H0 H
 er:H r0=some (.lst [.ref a,.ref b,.ref d])
 ea:H a=some (.lst (ns.map PV.int))
 eb:H b=some (.lst ys)
 ed:H d=some (.lst zs)
 ne:a≠b/\a≠d/\b≠d/\a≠r0/\b≠r0/\d≠r0
 fr:H0 a=none/\H0 b=none/\H0 d=none
 rw:Paired (jN (M4 a b d r0) H) ys Hs
 tb:Paired (qO (M4 a b d r0) H) zs Ts
theorem jN.imp(k:∀r u,¬M r->H r=some u->¬M' r/\H' r=some u){ys:List PV}{Rs:List (List P2)}(h:Paired (jN M H) ys Rs):Paired (jN M' H') ys Rs :=
 bX (fun _ _ q=>q.elim .inl fun y_=>by obtain⟨r,e,n,e2⟩:=y_;exact .inr ⟨r,e,(k r _ n e2).1,(k r _ n e2).2⟩) h
theorem qO.imp(k:∀r u,¬M r->H r=some u->¬M' r/\H' r=some u){zs:List PV}{Ts:List (List (List P2))}(h:Paired (qO M H) zs Ts):Paired (qO M' H') zs Ts :=
 bX (fun _ _ y_=>by obtain⟨ys,p,q⟩:=y_;exact ⟨ys,jN.imp k p,q.elim .inl fun y_=>by obtain⟨r,e,n,e2⟩:=y_;exact .inr ⟨r,e,(k r _ n e2).1,(k r _ n e2).2⟩⟩) h
theorem fX(h:Paired (jN M H) ys Rs):Paired (cN H) ys Rs:=bX (fun _ _ q=>q.elim .inl fun y_=>by obtain⟨r,e,_,e2⟩:=y_;exact .inr ⟨r,e,e2⟩) h
theorem oB(h:Paired (qO M H) zs Ts):Paired (sj H) zs Ts:=bX (fun _ _ y_=>by obtain⟨ys,p,q⟩:=y_;exact ⟨ys,q.elim .inl fun y_=>by obtain⟨r,e,_,e2⟩:=y_;exact .inr ⟨r,e,e2⟩,fX p⟩) h
theorem oQ{R:α->γ->Prop}{f:β->γ}{l:List α}{m:List β}(h:Paired (fun x y=>R x (f y)) l m):Paired R l (m.map f):=by
 induction h with
 | nil=>exact .nil
 | cons a _ ih=>exact .cons a ih
theorem ox(k:∀r u,¬N r->H r=some u->¬M r/\H' r=some u){ys:List PV}{Rw:List (List Int)}(h:Paired (iC f N H) ys Rw):Paired (jN M H') ys (Rw.map bg):=oQ (bX (fun y ws q=>by
 rcases q with⟨_,e⟩ |⟨_,r,e,n,e2⟩
 ·exact .inl (e.trans sM)
 ·rw[Af]at e2;exact .inr ⟨r,e,(k r _ n e2).1,(k r _ n e2).2⟩) h)
def gr:Sp':=fun vs H Q _=>ap [.V,.I] (fun u bits=>∃a b c,u=PV.tup [.tup a,.tup b,.tup c]/\(∃(ns:List Int) (Hd:List (List Int)) (Tb:List (List (List Int))),a=ns.map PV.int/\b=Hd.map shT/\c=Tb.map tbT/\(Hd.length≤6/\Tb.length≤6/\∀Rw∈Tb,Rw.length≤400) /\
  ∀r0 a b d ys zs H1,Hnm H H1 r0 a b d ns (Hd.map bg) (Tb.map fun Rw=>Rw.map bg) ys zs->Q (.ref r0) H1)) vs
theorem t5:gr [.tup [.tup a,.tup b,.tup c],.int bits] H Q E=(∃(ns:List Int) (Hd:List (List Int)) (Tb:List (List (List Int))),a=ns.map PV.int/\b=Hd.map shT/\c=Tb.map tbT/\(Hd.length≤6/\Tb.length≤6/\∀Rw∈Tb,Rw.length≤400) /\
  ∀r0 a b d ys zs H1,Hnm H H1 r0 a b d ns (Hd.map bg) (Tb.map fun Rw=>Rw.map bg) ys zs->Q (.ref r0) H1):=by
 refine propext ⟨fun h=>?_,fun h=>?_⟩
 ·obtain⟨_,_,_,e0,h⟩:=h;cases e0;exact h
 ·exact⟨_,_,_,rfl,h⟩
structure Bnt (way:Int) (ws:List Int) (ps:List P2):Prop where
 rb:cE ps
 w0:way=0->ps.length+1=ws.length
 w1:way=1->ps.length=ws.length+1
 w2:way=2->ps.length=ws.length/\(2≤ws.length->¬eX ps)
 w3:way=3->ps.length=ws.length/\¬eX ps
def A1(H H1:PHp)(v:PV)(ps:List P2):Prop:=v=rwV ps∨∃p,v=.ref p/\H p=none/\H1 p=some (.lst (ps.map prV))
def dQ:Sp':=fun vs H Q _=>ap [.V,.I,.I] (fun v way far=>∃ws,Shr ws/\1≤ws.length/\Seq H v ((bg ws).map prV)/\(0≤way/\way≤3)/\(0≤far/\My.BN 150 far)/\∀w ps H1,Sub H H1->A1 H H1 w ps->Bnt way ws ps->Q w H1) vs
theorem pO:dQ [v,.int way,.int far] H Q E=(∃ws,Shr ws/\1≤ws.length/\Seq H v ((bg ws).map prV)/\(0≤way/\way≤3)/\(0≤far/\My.BN 150 far)/\∀w ps H1,Sub H H1->A1 H H1 w ps->Bnt way ws ps->Q w H1):=rfl
theorem bK(q:Seq H v l)(h:k l):bR v H k:=by
 rcases q with rfl |⟨a,rfl,e⟩
 ·exact h
 ·exact⟨l,e,h⟩
theorem oN:∀{l:List Int},(∀x∈l,0≤x)->0≤l.sum/\∀x∈l,x≤l.sum
 | [],_=>⟨by simp,fun x hx=>by cases hx⟩
 | y::l,h=>by
  obtain⟨a,b⟩:=oN (l:=l) fun z hz=>h z (EY _ hz);have y0:=h y E1;rw[F5];refine⟨by omega,fun x hx=>?_⟩;rcases Fd.mp hx with rfl | hx
  ·omega
  ·have:=b x hx;omega
theorem yu(sh:Shr ws){w:Int}(hw:w∈ws):w≤ws.sum:=(oN sh.2.2.1).2 w hw
structure Shf (s:Int) (p:P2):Prop where
 a0:0≤p.1
 ab:p.1≤p.2
 b1:1≤p.2
 bk:p.2≤1000
 dv:p.2 ∣ s
 sh:shB p=true
theorem df(sh:Shr ws):∀p∈bg ws,Shf ws.sum p:=fun p hp=>by
 obtain⟨w,hw,rfl⟩:=E3.mp hp;obtain⟨p1,p2,p3,p4,p5,p6⟩:=gZ sh.2.1 (sh.2.2.1 w hw);obtain⟨q1,q2,q3,q4⟩:=sh.le hw;refine⟨p1,?_,p2,q4,p4,?_⟩
 ·have hl:w≤ws.sum:=yu sh hw;have:(shr ws.sum w).1*ws.sum≤(shr ws.sum w).2*ws.sum:=by
   rw[p3,F1];exact Int.mul_le_mul_of_nonneg_left hl (by omega)
  exact Int.le_of_mul_le_mul_right this sh.2.1
 ·unfold shB;rw[Ge p1,p5];rfl
theorem md(sh:Shr ws):One (bg ws):=fun B b0 hd=>by
 have:=v5 (B:=B) sh fun w hw=>hd _ (E3.mpr ⟨w,hw,rfl⟩);unfold bg;rw[E8];exact this
theorem dg(h0:0≤i)(h1:i≤100000):My.BN 300 i:=by
 have : i.natAbs < 2 ^ 20 := by have : (100000 : Nat) < 2 ^ 20 := by decide
                                omega
 exact Fb this (Nat.pow_le_pow_right (by decide) (by decide))
theorem fE(sh:Shr ws){ps:List P2}(hl:ps.length≤500)(h:∀p∈ps,Shf ws.sum p):cE ps:=by
 have s1:=sh.2.2.2.1;refine⟨hl,fun p hp=>⟨(h p hp).b1,dg (by have:=(h p hp).b1;omega) (by have:=(h p hp).bk;omega)⟩,fun _=>⟨ws.sum,⟨sh.2.1,dg (by have:=sh.2.1;omega) (by omega)⟩,fun p hp=>⟨(h p hp).dv,dg (h p hp).a0 (by have:=(h p hp).ab;have:=(h p hp).bk;omega)⟩⟩⟩
theorem oK(sh:Shr ws):eX (bg ws):=⟨fun p hp=>(df sh p hp).sh,md sh⟩
theorem cf:(bg ws).length=ws.length:=EM _
theorem Cq:Shf s (0,1):=⟨by decide,by decide,by decide,by decide,Int.one_dvd _,by decide⟩
theorem A5(sh:Shr (w0::wr)){p0:P2}{pr:List P2}(e:bg (w0::wr)=p0::pr):Bnt 0 (w0::wr) pr:=by
 have hl:=cf (ws:=w0::wr);rw[e,EU]at hl;have l5:=sh.2.2.2.2;exact⟨fE sh (by omega) fun p hp=>df sh p (by rw[e];exact EY _ hp),fun _=>hl,(fun z=>(by cases z)),(fun z=>(by cases z)),(fun z=>(by cases z))⟩
theorem Eo(sh:Shr ws):Bnt 1 ws (bg ws++[(0,1)]):=by
 have hl:=cf (ws:=ws);have l5:=sh.2.2.2.2;refine⟨fE sh (by rw[EX];simp;omega) fun p hp=>?_,(fun z=>(by cases z)),fun _=>by rw[EX,hl];rfl,(fun z=>(by cases z)),(fun z=>(by cases z))⟩;rcases Fu.mp hp with hp | hp
 ·exact df sh p hp
 ·rw[Fc.mp hp];exact Cq
theorem Dp(sh:Shr (w0::wr)){p0 l:P2}{pr qs:List P2}{k:Int}(hk:2≤k)(e:bg (w0::wr)=p0::pr)(eq:(p0.1 - k*p0.2,p0.2)::pr=qs++[l]):Bnt 2 (w0::wr) (qs++[(l.1+k*l.2,l.2)]):=by
 have hl:=cf (ws:=w0::wr);rw[e,EU]at hl;have l5:=sh.2.2.2.2;have ll:qs.length=pr.length:=by
  have:=congrArg List.length eq;rw[EU,EX]at this;simpa using this.symm
 have f0:=df sh p0 (by rw[e];exact E1);have fm:∀p∈(p0.1 - k*p0.2,p0.2)::pr,1≤p.2/\p.2≤1000:=fun p hp=>by
  rcases Fd.mp hp with rfl | hp
  ·exact⟨f0.b1,f0.bk⟩
  ·have:=df sh p (by rw[e];exact EY _ hp);exact⟨this.b1,this.bk⟩
 have fb:∀p∈qs++[(l.1+k*l.2,l.2)],1≤p.2/\p.2≤1000:=fun p hp=>by
  rw[eq]at fm;rcases Fu.mp hp with hp | hp
  ·exact fm p (Fy _ hp)
  ·rw[Fc.mp hp];exact fm l (Ff _ E1)
 have neg:p0.1 - k*p0.2<0:=by
  have a:=f0.ab;have b:=f0.b1;have:2*p0.2≤k*p0.2:=Int.mul_le_mul_of_nonneg_right hk (by omega);omega
 have bad:qs≠[]->¬∀p∈qs++[(l.1+k*l.2,l.2)],shB p=true:=fun n al=>by
  cases qs with
  | nil=>exact n rfl
  | cons q qs =>
   rw[List.cons_append]at eq;have e1:=(List.cons.inj eq).1;have:=al q (by simp);rw[←e1]at this;unfold shB at this;rw[F8]at this;have:=Gf this.1;dsimp only at this;omega
 have lr:(qs++[(l.1+k*l.2,l.2)]).length=(w0::wr).length:=by rw[EX,ll];simpa using hl
 refine⟨⟨by omega,fun p hp=>⟨(fb p hp).1,dg (by have:=fb p hp;omega) (by have:=fb p hp;omega)⟩,fun al=>?_⟩,(fun z=>(by cases z)),(fun z=>(by cases z)),fun _=>⟨lr,fun l2 o=>bad (fun z=>?_) o.1⟩,(fun z=>(by cases z))⟩
 ·cases qs with
  | nil =>
   cases pr with
   | nil =>
    rw[List.nil_append]at eq;have e1:(p0.1 - k*p0.2,p0.2)=l:=(List.cons.inj eq).1;have:([]:List P2)++[(l.1+k*l.2,l.2)]=[p0]:=by
     rw[←e1];show [(p0.1 - k*p0.2+k*p0.2,p0.2)]=[p0];rw[Int.sub_add_cancel]
    rw[this];have rb:=fE sh (ps:=[p0]) (by simp) fun p hp=>by rw[Fc.mp hp];exact f0
    exact rb.2.2 fun p hp=>by rw[Fc.mp hp];exact f0.sh
   | cons x pr=>simp at ll
  | cons q qs=>exact absurd al (bad (by simp))
 ·rw[z]at ll;rw[EU]at l2 hl;simp at ll;omega
theorem DI(sh:Shr ws){l:P2}{qs:List P2}(e:bg ws=qs++[l]):Bnt 3 ws (qs++[shr (l.2*7) (l.1*7+l.2)]):=by
 have hl:=cf (ws:=ws);rw[e,EX]at hl;have l5:=sh.2.2.2.2;have fl:=df sh l (by rw[e];exact Ff _ E1);have fq:∀p∈qs,Shf ws.sum p:=fun p hp=>df sh p (by rw[e];exact Fy _ hp);have s0:=sh.2.1;have s1:=sh.2.2.2.1;have a0:=fl.a0;have ab:=fl.ab;have b1:=fl.b1;have bk:=fl.bk;obtain⟨r1,r2,r3,r4,r5,r6⟩:=gZ (s:=l.2*7) (w:=l.1*7+l.2) (by omega) (by omega);have d7:∀p∈qs++[shr (l.2*7) (l.1*7+l.2)],0<p.2/\p.2 ∣ ws.sum*7/\p.2≤7000/\0≤p.1/\p.1≤8000:=fun p hp=>by
  rcases Fu.mp hp with hp | hp
  ·have f:=fq p hp;exact⟨by have:=f.b1;omega,Int.dvd_trans f.dv ⟨7,rfl⟩,by have:=f.bk;omega,f.a0,by have:=f.ab;have:=f.bk;omega⟩
  ·rw[Fc.mp hp];refine⟨by omega,Int.dvd_trans r4 ?_,by have:=Int.le_of_dvd (by omega) r4;omega,r1,by omega⟩;obtain⟨c,hc⟩:=fl.dv;exact⟨c,by rw[hc];simp only[FU,F1,Gs]⟩
 have no:¬One (qs++[shr (l.2*7) (l.1*7+l.2)]):=by
  rw[One.iff (B:=ws.sum*7) (fun p hp=>(d7 p hp).1) (by omega) fun p hp=>(d7 p hp).2.1];intro z;have o:=md sh (ws.sum*7) (by omega) (by rw[e];exact fun p hp=>Int.dvd_trans (df sh p (by rw[e];exact hp)).dv ⟨7,rfl⟩);rw[e,Fi,List.sum_append]at o;rw[Fi,List.sum_append]at z;have t1:([l].map (tpO (ws.sum*7))).sum=tpO (ws.sum*7) l:=by simp
  have t2:([shr (l.2*7) (l.1*7+l.2)].map (tpO (ws.sum*7))).sum=tpO (ws.sum*7) (shr (l.2*7) (l.1*7+l.2)):=by simp
  rw[t1]at o;rw[t2]at z;have q1:tpO (ws.sum*7) l*(l.2*7)=l.1*7*(ws.sum*7):=by
   unfold tpO;have:=cY (B:=ws.sum*7) (b:=l.2) (by omega) (Int.dvd_trans fl.dv ⟨7,rfl⟩)
   calc l.1*(ws.sum*7).fdiv l.2*(l.2*7)=l.1*7*((ws.sum*7).fdiv l.2*l.2):=by simp only[FU,F1,Gs]
    _=l.1*7*(ws.sum*7):=by rw[this]
  have q2:tpO (ws.sum*7) (shr (l.2*7) (l.1*7+l.2))*(l.2*7)=(l.1*7+l.2)*(ws.sum*7):=by
   have dd:=(d7 _ (Ff _ E1)).2.1;have:=cY (B:=ws.sum*7) (b:=(shr (l.2*7) (l.1*7+l.2)).2) (by omega) dd;unfold tpO
   calc (shr (l.2*7) (l.1*7+l.2)).1*(ws.sum*7).fdiv (shr (l.2*7) (l.1*7+l.2)).2*(l.2*7)=(shr (l.2*7) (l.1*7+l.2)).1*(l.2*7)*(ws.sum*7).fdiv (shr (l.2*7) (l.1*7+l.2)).2:=by simp only[FU,F1,Gs]
    _=(l.1*7+l.2)*(shr (l.2*7) (l.1*7+l.2)).2*(ws.sum*7).fdiv (shr (l.2*7) (l.1*7+l.2)).2:=by rw[r3]
    _=(l.1*7+l.2)*((ws.sum*7).fdiv (shr (l.2*7) (l.1*7+l.2)).2*(shr (l.2*7) (l.1*7+l.2)).2):=by simp only[FU,F1,Gs]
    _=(l.1*7+l.2)*(ws.sum*7):=by rw[this]
  have eqt:tpO (ws.sum*7) l=tpO (ws.sum*7) (shr (l.2*7) (l.1*7+l.2)):=by omega
  rw[eqt,q2,Int.add_mul]at q1;have:0<l.2*(ws.sum*7):=Int.mul_pos (by omega) (by omega);omega
 refine⟨⟨by rw[EX];simp at hl ⊢;omega,fun p hp=>⟨by have:=(d7 p hp).1;omega,dg (by have:=(d7 p hp).1;omega) (by have:=(d7 p hp).2.2.1;omega)⟩,fun _=>⟨ws.sum*7,⟨by omega,dg (by omega) (by omega)⟩,fun p hp=>⟨(d7 p hp).2.1,dg (d7 p hp).2.2.2.1 (by have:=(d7 p hp).2.2.2.2;omega)⟩⟩⟩,(fun z=>(by cases z)),(fun z=>(by cases z)),(fun z=>(by cases z)),fun _=>⟨by rw[EX];exact hl,fun o=>no o.2⟩⟩
theorem ig:cX (l++[x]) none (some (-1))=l:=by
 unfold cX;have e1:HT.sIx (l++[x]).length 0 none=0:=rfl;have e2:HT.sIx (l++[x]).length (l++[x]).length (some (-1))=l.length:=by
  unfold HT.sIx;rw[EX];simp;omega
 rw[e1,e2,List.drop_zero,Nat.sub_zero,List.take_left]
theorem f9:cX (x::l) (some 1) none=l:=eH (x::l) 1
theorem cn0{x:PV}:atI (x::l) 0=some x:=by
 unfold atI ixN;rw[Fq (by decide),Fq (by rw[EU];omega)];rfl
theorem bn2(h0:0≤far)(h:My.BN 150 far):My.BN 300 (2+far):=by
 unfold My.BN at *;have:far.natAbs+2<2 ^ 300:=Fb (Nat.add_lt_add_right h 2) (by decide);omega
theorem Bp:atI [PV.int a,PV.int b] 0=some (.int a):=rfl
theorem CM:atI [PV.int a,PV.int b] 1=some (.int b):=rfl
theorem B0{p:P2}:atI (prV p::l) 0=some (.tup [.int p.1,.int p.2]):=cn0
theorem AI{p:P2}:atI (l++[prV p]) (-1)=some (.tup [.int p.1,.int p.2]):=nZ
theorem nF{lo hi:Option Int}{K:VK'}(q:Seq H v l)(ne:¬(HT.sIx l.length 0 lo=0/\HT.sIx l.length l.length hi=l.length))(kT:K (.tup (cX l lo hi)) H)(kL:∀p,H p=none->K (.ref p) (put H p (.lst (cX l lo hi)))):sliceOf v lo hi H K:=by
 rcases q with rfl |⟨a,rfl,e⟩
 ·exact⟨ne,kT⟩
 ·exact⟨l,e,kL⟩
theorem sf{l:List PV}(h:1≤l.length):¬(HT.sIx l.length 0 (some 1)=0/\HT.sIx l.length l.length none=l.length):=fun z=>by
 have:=z.1;rw[show(some (1:Int))=some ((1:Nat):Int)from rfl,HT.nX]at this;omega
theorem zW{l:List PV}(h:1≤l.length):¬(HT.sIx l.length 0 none=0/\HT.sIx l.length l.length (some (-1))=l.length):=fun z=>by
 have:=z.2;unfold HT.sIx at this;simp at this;omega
structure Fnb (H0 H:PHp) (a b d:Addr) (ns:List Int) (Hs:List (List P2)) (Ts:List (List (List P2))) (ys zs:List PV):Prop where
 sb:U.Sub H0 H
 ea:H a=some (.lst (ns.map PV.int))
 eb:H b=some (.lst ys)
 ed:H d=some (.lst zs)
 rw:Paired (cN H) ys Hs
 tb:Paired (sj H) zs Ts
 ln:ns.length≤20/\Hs.length≤20/\Ts.length≤20
 hb:∀ps∈Hs,cE ps
 hT:∀Rs∈Ts,Rs.length≤1000/\∀ps∈Rs,cE ps
theorem Fnb.up(h:Fnb H0 H a b d ns Hs Ts ys zs)(s:U.Sub H H1):Fnb H0 H1 a b d ns Hs Ts ys zs:=⟨h.sb.trans s,s _ _ h.ea,s _ _ h.eb,s _ _ h.ed,cN.up s h.rw,bX (fun _ _ y_=>by obtain⟨ys,q,p⟩:=y_;exact ⟨ys,q.up s,cN.up s p⟩) h.tb,h.ln,h.hb,h.hT⟩
structure Org (c:Int) (ts bs:List P2) (ns:List Int) (Hd:List (List Int)) (Tb:List (List (List Int))):Prop where
 hs:Shp c ts bs
 hw:Wld c ts bs ns Hd Tb
theorem Org.rb(o:Org c ts bs ns Hd Tb):∀ps∈Hd.map bg,cE ps:=fun ps hp=>by
 obtain⟨ws,hw,rfl⟩:=E3.mp hp;have:=o.hw.h4 ws hw;exact fE this.1 (by rw[cf];omega) (df this.1)
theorem Org.tb(o:Org c ts bs ns Hd Tb):∀Rs∈Tb.map fun Rw=>Rw.map bg,Rs.length≤400/\∀ps∈Rs,cE ps:=fun Rs hR=>by
 obtain⟨Rw,hw,rfl⟩:=E3.mp hR;obtain⟨k,hk,rfl⟩:=List.getElem_of_mem hw;have tb:=o.hw.tb k _ (EO hk);refine⟨by rw[EM];exact tb.2.1,fun ps hp=>?_⟩;obtain⟨ws,hws,rfl⟩:=E3.mp hp;have:=(tb.2.2 ws hws).1;exact fE this (by rw[cf];have:=this.2.2.2.2;omega) (df this)
theorem Hnm.fnb(h:Hnm H0 H r0 a b d ns (Hd.map bg) (Tb.map fun Rw=>Rw.map bg) ys zs)(o:Org c ts bs ns Hd Tb):Fnb H0 H a b d ns (Hd.map bg) (Tb.map fun Rw=>Rw.map bg) ys zs:=by
 have c6:=o.hs.hc;have l6:=o.hs.l6;have ln:=o.hw.ln;have lh:=o.hw.lh;have lt:=o.hw.lt;exact⟨h.sb,h.ea,h.eb,h.ed,fX h.rw,oB h.tb,⟨by omega,by rw[EM];omega,by rw[EM];omega⟩,o.rb,fun Rs hR=>⟨by have:=(o.tb Rs hR).1;omega,(o.tb Rs hR).2⟩⟩
def BSt(H0:PHp)(r0:Addr)(c:Int)(ts bs:List P2)(ns0:List Int)(Hd:List (List Int))(Tb:List (List (List Int)))(way cell far k:Int)(σ:St')(H:PHp):Prop :=
 (k≤way/\∃a b d ys zs z8 z9 z10,σ=[some (.ref r0),some (.int way),some (.int cell),some (.int far),some (.ref a),some (.ref b),some (.ref d),some (.int (cell.fmod (ns0.length:Nat))),z8,z9,z10]/\Hnm H0 H r0 a b d ns0 (Hd.map bg) (Tb.map fun Rw=>Rw.map bg) ys zs) ∨
 (way<k/\∃a b d ns Hs Ts ys zs z7 z8 z9 z10,σ=[some (.ref r0),some (.int way),some (.int cell),some (.int far),some (.ref a),some (.ref b),some (.ref d),z7,z8,z9,z10]/\Fnb H0 H a b d ns Hs Ts ys zs/\¬dP c ts bs ns Hs Ts)
def hG:Sp':=fun vs H Q _=>ap [.R,.I,.I,.I] (fun r0 way cell far=>∃H0 a b d c ts bs,∃(ns:List Int) (Hd:List (List Int)) (Tb:List (List (List Int))) (ys zs:List PV),Hnm H0 H r0 a b d ns (Hd.map bg) (Tb.map fun Rw=>Rw.map bg) ys zs/\Org c ts bs ns Hd Tb/\(0≤way/\way<8)/\((way=3∨way=4)->bs≠[])/\(0≤far/\My.BN 150 far) /\
  ∀r1 a1 b1 d1 ns1 Hs1 Ts1 ys1 zs1 H1,H1 r1=some (.lst [.ref a1,.ref b1,.ref d1])->Fnb H0 H1 a1 b1 d1 ns1 Hs1 Ts1 ys1 zs1->¬dP c ts bs ns1 Hs1 Ts1->Q (.ref r1) H1) vs
theorem yI:hG [.ref r0,.int way,.int cell,.int far] H Q E=(∃H0 a b d c ts bs,∃(ns:List Int) (Hd:List (List Int)) (Tb:List (List (List Int))) (ys zs:List PV),Hnm H0 H r0 a b d ns (Hd.map bg) (Tb.map fun Rw=>Rw.map bg) ys zs/\Org c ts bs ns Hd Tb/\(0≤way/\way<8)/\((way=3∨way=4)->bs≠[])/\(0≤far/\My.BN 150 far) /\
  ∀r1 a1 b1 d1 ns1 Hs1 Ts1 ys1 zs1 H1,H1 r1=some (.lst [.ref a1,.ref b1,.ref d1])->Fnb H0 H1 a1 b1 d1 ns1 Hs1 Ts1 ys1 zs1->¬dP c ts bs ns1 Hs1 Ts1->Q (.ref r1) H1):=rfl
theorem eU{n:Nat}{i:Int}(h0:0≤i)(h1:i<n):ixN n i=some i.toNat:=by unfold ixN;rw[Fq h0,Fq h1]
theorem DP(hf:0≤far)(h0:0≤d)(h:d<4):∃e,atI [PV.int 1,PV.int 5,PV.int (0 - far),PV.int (6+far)] d=some (.int e)/\¬(2≤e/\e≤4):=by
 rcases (show d=0∨d=1∨d=2∨d=3 by omega)with rfl | rfl | rfl | rfl
 ·exact⟨1,rfl,by decide⟩
 ·exact⟨5,rfl,by decide⟩
 ·exact⟨_,rfl,by omega⟩
 ·exact⟨_,rfl,by omega⟩
theorem two{x:Int}:x.fmod 2=0∨x.fmod 2=1:=by have:=fm (a:=x) (b:=2) (by decide);omega
theorem iS{R:α->β->Prop}{l:List α}{m:List β}(h:Paired R l m){i:Nat}{x:α}{y:β}(r:R x y):Paired R (l.set i x) (m.set i y):=by
 induction h generalizing i with
 | nil=>exact .nil
 | cons a t ih =>
  cases i with
  | zero=>exact .cons r t
  | succ i=>exact .cons a ih
theorem Hnm.ch(h:Hnm H0 H r0 a b d ns Hs Ts ys zs)(s:U.Sub H H')(m:M4 a b d r0 x):Paired (cN (put H' x o)) ys Hs/\Paired (sj (put H' x o)) zs Ts:=by
 have k:∀r u,¬M4 a b d r0 r->H r=some u->¬(fun _:Addr=>False) r/\put H' x o r=some u:=fun r u n e=>⟨id,(aj fun z=>n (by rw[z];exact m)).trans (s _ _ e)⟩;exact⟨fX (jN.imp k h.rw),oB (qO.imp k h.tb)⟩
theorem vx(hn:n∈ns)(h:¬(2≤n/\n≤4)):¬dP c ts bs ns Hs Ts:=fun f=>h (f.1.2 n hn)
theorem u0(h:(ns.length:Int)≠c):¬dP c ts bs ns Hs Ts:=fun f=>h f.1.1
theorem mP(h:Hs.length≠bs.length):¬dP c ts bs ns Hs Ts:=fun f=>h f.2.1.1
theorem uB(hp:ps∈Hs)(h:¬((1≤ps.length/\ps.length≤4)/\eX ps)):¬dP c ts bs ns Hs Ts:=fun f=>h (f.2.1.2 ps hp)
theorem tN(h:Ts.length≠ns.length):¬dP c ts bs ns Hs Ts:=fun f=>h f.2.2.2.1
theorem sG(hk:Ts[k]?=some Rs)(h:¬TbO (prod (hdz ns Hs ts bs (k:Nat))) (ns.getD k 0) Rs):¬dP c ts bs ns Hs Ts:=fun f=>h (f.2.2.2.2 k Rs hk)
theorem mO:hdz ns (Hd.map bg) ts bs n=hdz ns Hd ts bs n:=ir (by
 rw[E8];exact Fz fun ws _=>cf)
theorem bnC(h:0≤i/\i≤9):My.BN 300 i:=dg h.1 (by omega)
theorem xX:cE []:=⟨by simp,fun p hp=>(by cases hp),fun _=>⟨1,⟨by decide,bnC (by decide)⟩,fun p hp=>(by cases hp)⟩⟩
theorem xq:cE [(1,1)]:=⟨by simp,fun p hp=>by rw[Fc.mp hp];exact⟨by decide,bnC (by decide)⟩,fun _=>⟨1,⟨by decide,bnC (by decide)⟩,fun p hp=>by rw[Fc.mp hp];exact⟨Int.dvd_refl _,bnC (by decide)⟩⟩⟩
theorem Cu:cE (List.replicate 5 (1,5)):=⟨by simp,fun p hp=>by rw[(Gk.mp hp).2];exact⟨by decide,bnC (by decide)⟩,fun _=>⟨5,⟨by decide,bnC (by decide)⟩,fun p hp=>by rw[(Gk.mp hp).2];exact⟨Int.dvd_refl _,bnC (by decide)⟩⟩⟩
theorem zj(h0:0≤far)(h:My.BN 150 far):cE [(1+far,2+far)]/\¬eX [(1+far,2+far)]:=by
 have b2:=bn2 h0 h;have b1:My.BN 300 (1+far):=jm (by omega) (by omega) b2;refine⟨⟨by simp,fun p hp=>by rw[Fc.mp hp];exact⟨by show 1≤2+far;omega,b2⟩,fun _=>⟨2+far,⟨by omega,b2⟩,fun p hp=>by rw[Fc.mp hp];exact⟨Int.dvd_refl _,b1⟩⟩⟩,fun o=>?_⟩;have:=o.2 (2+far) (by omega) fun p hp=>by rw[Fc.mp hp];exact Int.dvd_refl _
 rw[Fp,List.map_nil,F5,List.sum_nil]at this;unfold tpO at this;dsimp only at this;rw[Int.fdiv_self (by omega)]at this;omega
theorem Bf(F:aT P w K mg base CX k f fd ps sp)(h:∀vs H Q E,sp' vs H Q E->sp vs H Q E):aT P w K mg base CX k f fd ps sp':=F.imp fun vs H Q E q=>by
 obtain⟨a,b,c,d,r1,r2,r3,r4⟩:=q;exact⟨a,b,c,d,r1,r2,h _ _ _ _ r3,r4⟩
def ju(t:Ad):Sp':=fun vs H Q _=>ap [.R,.R,.R,.R,.R] (fun x d0 a b d=>∃H0 dx d1 c ts bs,∃(ns:List Int) (Hs:List (List P2)) (Ts:List (List (List P2))) (ys zs:List PV),H x=some (.ins t.a_W dx [])/\H d0=some (.ins t.a_D d1 (DF c ts bs))/\Fnb H0 H a b d ns Hs Ts ys zs/\Shp c ts bs/\dP c ts bs ns Hs Ts/\∀y w H1,(∀a u,a≠x->H a=some u->H1 a=some u)->H1 x=some (.ins t.a_W dx (WFP y w ns Hs Ts))->Q .non H1) vs
theorem uJ:ju t [.ref x,.ref d0,.ref a,.ref b,.ref d] H Q E=(∃H0 dx d1 c ts bs,∃(ns:List Int) (Hs:List (List P2)) (Ts:List (List (List P2))) (ys zs:List PV),H x=some (.ins t.a_W dx [])/\H d0=some (.ins t.a_D d1 (DF c ts bs))/\Fnb H0 H a b d ns Hs Ts ys zs/\Shp c ts bs/\dP c ts bs ns Hs Ts/\∀y w H1,(∀a u,a≠x->H a=some u->H1 a=some u)->H1 x=some (.ins t.a_W dx (WFP y w ns Hs Ts))->Q .non H1):=rfl
def dJ(t:Ad):Sp':=fun vs H Q _=>ap [.R,.R] (fun x r1=>∃H0 dx c ts bs a b d,∃(ns:List Int) (Hs:List (List P2)) (Ts:List (List (List P2))) (ys zs:List PV),H x=some (.ins t.a_D dx (DF c ts bs))/\H r1=some (.lst [.ref a,.ref b,.ref d])/\Fnb H0 H a b d ns Hs Ts ys zs/\Shp c ts bs/\¬dP c ts bs ns Hs Ts/\Q (.bl true) H) vs
theorem rH:dJ t [.ref x,.ref r1] H Q E=(∃H0 dx c ts bs a b d,∃(ns:List Int) (Hs:List (List P2)) (Ts:List (List (List P2))) (ys zs:List PV),H x=some (.ins t.a_D dx (DF c ts bs))/\H r1=some (.lst [.ref a,.ref b,.ref d])/\Fnb H0 H a b d ns Hs Ts ys zs/\Shp c ts bs/\¬dP c ts bs ns Hs Ts/\Q (.bl true) H):=rfl
def kn(t:Ad):Sp':=fun vs H Q _=>ap [.V,.V,.I] (fun u v bits=>∃c tv bv na nb nc,u=PV.tup [.int c,.tup tv,.tup bv]/\v=PV.tup [.tup na,.tup nb,.tup nc]/\(∃ts bs,∃(ns:List Int) (Hd:List (List Int)) (Tb:List (List (List Int))),tv=ts.map prV/\bv=bs.map prV/\na=ns.map PV.int/\nb=Hd.map shT/\nc=Tb.map tbT/\Org c ts bs ns Hd Tb/\∀x dx y w H1,Sub H H1->H1 x=some (.ins t.a_W dx (WFP y w ns (Hd.map bg) (Tb.map fun Rw=>Rw.map bg)))->Q (.ref x) H1)) vs
theorem yO:kn t [.tup [.int c,.tup tv,.tup bv],.tup [.tup na,.tup nb,.tup nc],.int bits] H Q E=(∃ts bs,∃(ns:List Int) (Hd:List (List Int)) (Tb:List (List (List Int))),tv=ts.map prV/\bv=bs.map prV/\na=ns.map PV.int/\nb=Hd.map shT/\nc=Tb.map tbT/\Org c ts bs ns Hd Tb/\∀x dx y w H1,Sub H H1->H1 x=some (.ins t.a_W dx (WFP y w ns (Hd.map bg) (Tb.map fun Rw=>Rw.map bg)))->Q (.ref x) H1):=by
 refine propext ⟨fun h=>?_,fun h=>?_⟩
 ·obtain⟨_,_,_,_,_,_,e0,e1,h⟩:=h;cases e0;cases e1;exact h
 ·exact⟨_,_,_,_,_,_,rfl,rfl,h⟩
theorem Org.fine(o:Org c ts bs ns Hd Tb):dP c ts bs ns (Hd.map bg) (Tb.map fun Rw=>Rw.map bg):=by
 refine⟨⟨o.hw.ln,o.hw.n4⟩,⟨by rw[EM];exact o.hw.lh,fun ps hp=>?_⟩,?_,by rw[EM];exact o.hw.lt,fun k Rs hk=>?_⟩
 ·obtain⟨ws,hw,rfl⟩:=E3.mp hp;have:=o.hw.h4 ws hw;exact⟨by rw[cf];exact this.2,oK this.1⟩
 ·have e:((Hd.map bg).map fun ps=>(ps.length:Int))=Hd.map fun ws=>(ws.length:Int):=by
   rw[E8];exact Fz fun ws _=>by show((bg ws).length:Int)=_;rw[cf]
  rw[e];exact o.hw.most
 ·rw[E7]at hk;obtain⟨Rw,hR,rfl⟩:=Option.map_eq_some_iff.mp hk;have tb:=o.hw.tb k Rw hR;refine⟨by rw[EM,mO];exact tb.1,fun ps hp=>?_⟩;obtain⟨ws,hw,rfl⟩:=E3.mp hp;have:=tb.2.2 ws hw;exact⟨by rw[cf];exact this.2,oK this.1⟩
theorem e30:(10:Int) ^ Int.toNat 30=1000000000000000000000000000000:=by decide
theorem zP(hx:0≤x/\x<3)(hy:0≤y/\y<1000000000000000000000000000000):0≤x*y/\My.BN 150 (x*y)/\My.BN 300 y:=by
 have a:0≤x*y:=Int.mul_nonneg hx.1 hy.1;have b:x*y≤2*y:=Int.mul_le_mul_of_nonneg_right (by omega) hy.1;refine⟨a,?_,?_⟩
 ·unfold My.BN;exact Fb (show(x*y).natAbs<2000000000000000000000000000001 by omega) (by decide)
 ·unfold My.BN;exact Fb (show y.natAbs<1000000000000000000000000000001 by omega) (by decide)
theorem Ct:cE (List.replicate 4 (1,4)):=⟨by simp,fun p hp=>by rw[(Gk.mp hp).2];exact⟨by decide,bnC (by decide)⟩,fun _=>⟨4,⟨by decide,bnC (by decide)⟩,fun p hp=>by rw[(Gk.mp hp).2];exact⟨Int.dvd_refl _,bnC (by decide)⟩⟩⟩
def mj:List P2:=[(0,1),(1,2),(2,3),(3,4),(4,5),(0,2)]
theorem xS:Good 6 mj:=⟨by decide,by decide⟩
theorem good0:Good c []:=⟨List.nodup_nil,fun p hp=>by cases hp⟩
theorem tP:¬dP c ts bs (List.replicate 6 4) (List.replicate 6 (List.replicate 4 (1,4))) Ts:=fun f=>absurd f.2.2.1 (by decide)
def fK(y:PV):PV:=match y with | .int k=>.tup [.int k,.int (k+1)] | _=>.non
theorem Aw:tbV (Rw.map bg)=tbT Rw:=by
 unfold tbV tbT;rw[E8];congr 1;exact Fz fun ws _=>sM.symm
theorem vL{Tb:List (List (List Int))}:(Tb.map fun Rw=>Rw.map bg).map tbV=Tb.map tbT:=by
 rw[E8];exact Fz fun Rw _=>Aw
theorem jT{ns:List Int}:(ns.map PV.int).all (flat 8)=true:=by
 rw[Fj];intro y hy;obtain⟨n,_,rfl⟩:=E3.mp hy;rfl
theorem CL{p:P2}:flat (n+1) (prV p)=true:=by cases n<;>rfl
theorem Cp:flat (n+2) (shT ws)=true:=by
 show(ws.map fun w=>prV (shr ws.sum w)).all (flat (n+1))=true;rw[Fj];intro y hy;obtain⟨w,_,rfl⟩:=E3.mp hy;exact CL
theorem Bn:flat (n+3) (tbT Rw)=true:=by
 show(Rw.map shT).all (flat (n+2))=true;rw[Fj];intro y hy;obtain⟨w,_,rfl⟩:=E3.mp hy;exact Cp
theorem mi{Tb:List (List (List Int))}:(Tb.map tbT).all (flat 8)=true:=by
 rw[Fj];intro y hy;obtain⟨w,_,rfl⟩:=E3.mp hy;exact Bn
theorem lC(n:Nat)(l:List PV)(h:l.all (flat 8)=true):eV l l=true:=eF (n:=9) (x:=.tup l) h
def Kd(t:Ad)(C:Addr)(nm:Str):Prop:=(C=t.a_V/\nm="NoWorld")
def lb(t:Ad):Sp':=fun vs H Q _=>ap [.R] (fun a=>∃C nm,H a=some (.exc C)/\Kd t C nm/\∀r,H r=none->Q (.ref r) (put H r (.lst [.str nm]))) vs
theorem vm:lb t [.ref a] H Q E=∃C nm,H a=some (.exc C)/\Kd t C nm/\∀r,H r=none->Q (.ref r) (put H r (.lst [.str nm])):=rfl
end
section
variable {P:Program}{w:World}{K:PySem.W.Frag}{mg:Str->Option Value}{base:Heap}{t:Ad}
local macro_rules | `(tactic| ac_rfl) => `(tactic| simp only [CG, CJ, AO, BC, A0, BL, rh, xm, uOp, uI, uI0, uIx, az, uC, bZ, cj, bc, d9, cI, gF, bY, mC, rE, uOr, wB, lE, EI, kR, uIf, uUn, aX, av, gS, ck, uCB, j0, As, yE, jI, tG, fg, eO, gE,
 c8,ie,vU,pL,vW,Dj,tI,C5,pE,Cm,pH,CZ,D0,C9,ou,Ec,D6,DK,mF,xA,Ca,uV,CH,xIf,xI,zi,jU,Cb,nR,AN,uEi,wy,DU,Dy,gW,Ds,yF,D5,uEn,DO,pE,Cm,kq,DS,ED,uZ3,DZ,uP,B8, qa,l7,eW,x8,BT.sub,BT.nm,yf,zD,D1,ends,yL,AY,cZ,flat,deq,eV,w_V,w_B,w_I,w_O,Ck,BW,Br,A8,DE,EE,Cn,Et,Be,BY,Es,Bl,AS,Ep,Bz,Dt,Ea,CV,Em,Dz,Dm,Ed,BF,BK,A4,w_1,xM,BR,Bt,Ce,Dw,Ef,BH,CA,AL,CO,xD,Ez,BJ,Ah,D9,DJ,uM,sA,
 Fp,List.map_nil,EU,Fh,Nat.reduceAdd,Nat.reduceSub,Nat.add_sub_cancel,Nat.sub_self,Nat.zero_add,FO,List.replicate_zero,List.cons_append,List.nil_append,FH,List.getElem?_cons_zero,List.getElem?_cons_succ,F7,FY,
 uX,sF,List.all_cons,List.all_nil,Bool.and_self,Bool.and_true,Bool.true_and,Bool.not_true,Bool.not_false,true_and,and_true,ah,Option.some.injEq,PO.lst.injEq,exists_eq_left',Int.zero_add ,tq,ni,zq,ny,pR,zb,wL,vw,qc,zu,ur,Ay,sQ,qC,uQ,BQ,vM,BP,qW,vR,uA,zN,zy,vY,yC,vD,Ak,nk,zQ,y8,vZ,rm,rR,vS,sy,vX,uz,vt,t5,pO,Bp,CM,B0,AI,yI,uJ,rH,yO,vm])
local macro_rules | `(tactic| walk_at "rk") => `(tactic| simp only [CG, CJ, AO, BC, A0, BL, rh, xm, uOp, uI, uI0, uIx, az, uC, bZ, cj, bc, d9, cI, gF, bY, rE, uOr, wB, lE, kR, uUn, aX, av, gS, ck, uCB, j0, As, 
 c8,mF,cM,xA,Ca,uV,CH,xIf,zi,qa,l7,eW,BT.sub,BT.nm,yf,zD,ends,cZ,flat,deq,eV,w_V,w_B,w_I,w_O,Ck,BW,Br,A8,Cn,Be,BY,Bl,AS,Bz,BF,BK,A4,w_1,xM,BR,Bt,Ce,CO,xD,Ah,uM,sA,
 Fp,List.map_nil,EU,Fh,Nat.reduceAdd,Nat.reduceSub,Nat.add_sub_cancel,Nat.sub_self,Nat.zero_add,FO,List.replicate_zero,List.cons_append,List.nil_append,FH,List.getElem?_cons_zero,List.getElem?_cons_succ,F7,FY,
 uX,sF,List.all_cons,List.all_nil,Bool.and_self,Bool.and_true,Bool.true_and,Bool.not_true,Bool.not_false,true_and,and_true,ah,Option.some.injEq,PO.lst.injEq,exists_eq_left',Int.zero_add])
theorem DB(T:Tx K mg t):aT P w K mg base CX0 1 t.a_zM t.d_zM ["count","pair"] jo:=by
 refine okU (k:=0) T.F_zM Bo (fun vs H Q E h=>bP h) (fun cdv A outer s H E B hr=>⟨_,(ar (aO (cP (cy (bo hr.units) bD (aB aA bG rfl T.b_len Fl (aa (qv 1) ae)) af (aH _)) (dU (qL jk jB fO fA fO fA af (aC (qv 1) af (fun _ _=>rfl)) (aC (qv 1) af (fun _ _=>rfl)) (qv 0)))))),?_⟩);intro vs H Q E h
 replace h:=bO h
 obtain⟨c,_,rfl,w,_,rfl,rfl,h⟩:=h;obtain⟨u,v,rfl,h⟩:=h;obtain⟨⟨h1,h2,h3⟩,h⟩:=h;ac_rfl;exact bM rfl (bM (by simpa using h1) (bM (by simpa using h2) ⟨H,Sub.refl _,by rw[Ge h3];exact h⟩))
theorem A2(T:Tx K mg t):aT P w K mg base CX0 2 t.a_zD t.d_zD ["count","pairs"] gK:=by
 refine okU (k:=1) T.F_zD BG (fun vs H Q E h=>bP h) (fun cdv A outer s H E B hr=>⟨_,(ar (aO (cP (aB (dC rfl) gi rfl T.b_all boot_all (aa (bt (N2:=["pair","count"]) (nt:=1) (js:=[0]) (cok (sc:=ai mR) (by exact rfl) (by repeat (first | exact trivial | refine⟨rfl,?_⟩)) rfl (by rfl) (by decide +kernel) (by decide +kernel) (by rfl) (by decide +kernel) (by rfl) (by rfl)) rfl (br (qv 1)) (fun s0 H0 fp ps=>⟨(aw (i:=0) (show List.Nodup (["pair","count"]:List Str) by decide +kernel) rfl (by first | exact Or.inl rfl | exact Or.inr rfl)),aZ,(ay (DB T) (hr.mono (by decide)) rfl T.g_zM T.F_zM.kp T.B_zM (aa (qv 1) (aa (qv 0) ae)))⟩)) ae)) (dU (cy (bo hr.units) bD (nu rfl hr.units rfl T.b_len rfl T.b_set boot_set (qv 1)) (aB aA bG rfl T.b_len Fl (aa (qv 1) ae)) (aH _)))))),?_⟩);intro vs H Q E h
 replace h:=bO h
 obtain⟨c,_,rfl,a,_,rfl,rfl,h⟩:=h;obtain⟨ps,ha,gd,hc,h⟩:=h;have h15:=gd.len hc;ac_rfl;refine⟨_,ha,fun acc hacc=>?_⟩;have hna:=ao ha hacc;refine aQ (fun _=>.bl true) (fun _=>true) (fun σ=>∃x,σ=[x,some (.int c)]) (by rw[EM];omega) (fun l=>(aj hna).trans ha) ?step ?fin ⟨_,rfl⟩
 case step =>
  rintro y hy l σ R ⟨x,rfl⟩ hl kT kF;obtain⟨p,hp,rfl⟩:=E3.mp hy;have b:=gd.lo p hp;unfold prV;ac_rfl;exact⟨b,hl,by rw[aM];exact kT rfl _ ⟨_,rfl⟩⟩
 case fin =>
  ac_rfl;refine⟨ps.map fun _=>true,by rw[Fm.mpr (fun _ _=>rfl),E8,E8];rfl,bM (by simp) ⟨ps,(aj hna).trans ha,gd.nd,gd.prs hc,h15,_,(aj hna).trans ha,H,Sub.put (Sub.refl _) hacc,?_⟩⟩;rw[EM,beq_self_eq_true];exact h
theorem wm(T:Tx K mg t):aT P w K mg base CX0 3 t.a_zg t.d_zg ["self","count","ties","bows"] (h8 t):=by
 refine okU (k:=2) T.F_zg sg (fun vs H Q E h=>bP h) (fun cdv A outer s H E B hr=>⟨_,(ag (bh (eP (xQ (aP fO fA (qv 1) af (aH _)) (uH (aP lS lj (qv 1) (dA (v':=.int 6) rfl T.c_MOST_NAMES (fun _=>by simp[RP])) (aH _)))))
  cJ
  aL)
  (ag (fJ (i:=4) sg.nd rfl (by first | exact Or.inl rfl | exact Or.inr rfl) (N2:=["tie"]) (nt:=1) (js:=[]) (cok (sc:=ai kD) (by exact rfl) (by repeat (first | exact trivial | refine⟨rfl,?_⟩)) rfl (by rfl) (by decide +kernel) (by decide +kernel) (by rfl) (by decide +kernel) (by rfl) (by rfl)) rfl (br (qv 2)) (fun s0 H0 fp ps=>⟨(aw (i:=0) (show List.Nodup (["tie"]:List Str) by decide +kernel) rfl (by first | exact Or.inl rfl | exact Or.inr rfl)),aZ,(aE aK bx rfl T.b_tuple FV (aa (qv 0) ae))⟩))
  (ag (bh (gw (eY (ay (A2 T) (hr.mono (by decide)) rfl T.g_zD T.F_zD.kp T.B_zD (aa (qv 1) (aa (qv 4) ae)))))
  cJ
  aL)
  (ag (fJ (i:=5) sg.nd rfl (by first | exact Or.inl rfl | exact Or.inr rfl) (N2:=["bow"]) (nt:=1) (js:=[]) (cok (sc:=ai kD) (by exact rfl) (by repeat (first | exact trivial | refine⟨rfl,?_⟩)) rfl (by rfl) (by decide +kernel) (by decide +kernel) (by rfl) (by decide +kernel) (by rfl) (by rfl)) rfl (br (qv 3)) (fun s0 H0 fp ps=>⟨(aw (i:=0) (show List.Nodup (["bow"]:List Str) by decide +kernel) rfl (by first | exact Or.inl rfl | exact Or.inr rfl)),aZ,(aE aK bx rfl T.b_tuple FV (aa (qv 0) ae))⟩))
  (ag (bh (gw (eY (ay (A2 T) (hr.mono (by decide)) rfl T.g_zD T.F_zD.kp T.B_zD (aa (qv 1) (aa (qv 5) ae)))))
  cJ
  aL)
  (ag (bh (aP lS lj (aB aA bG rfl T.b_len Fl (aa (qv 5) ae)) (dA (v':=.int 6) rfl T.c_MOST_BOWS (fun _=>by simp[RP])) (aH _))
  cJ
  aL)
  (ag (eC (qv 0) (qv 1) T.cl_D T.nfD_count rfl)
  (ag (eC (qv 0) (aE aK bx rfl T.b_tuple FV (aa (aB dO fP rfl T.b_sorted boot_sorted (aa (qv 4) ae)) ae)) T.cl_D T.nfD_ties rfl)
  (ar (eC (qv 0) (aE aK bx rfl T.b_tuple FV (aa (aB dO fP rfl T.b_sorted boot_sorted (aa (qv 5) ae)) ae)) T.cl_D T.nfD_bows rfl)))))))))),?_⟩)
 intro vs H Q E h
 replace h:=bO h
 obtain⟨x,_,rfl,c,_,rfl,a,_,rfl,b,_,rfl,rfl,h⟩:=h;obtain⟨dx,ys,zs,ps,qs,hx,ha,hb,ry,rz,gp,gq,⟨c1,c6,q6⟩,h⟩:=h;have hp15:=gp.len c6;have hq15:=gq.len c6;refine au fun R hR=>?_;ac_rfl;refine bw (by simp;omega) (bw (by simp;omega) ?_);subst hR;refine au fun R hR=>?_;ac_rfl;refine m5 ha fun ok hok p1 hp1=>?_;refine aQ (jc H) (fun _=>true) (fun σ=>∃z,σ=[z]) (by rw[ry.length];omega) (fun l=>hok _ ((Sub.refl _).put hp1)) ?_ ?_ ⟨_,rfl⟩
 ·rintro y hy l σ R' ⟨z,rfl⟩ hl kT kF;obtain⟨p,hp,row⟩:=dq ry hy;rcases row with rfl |⟨r,rfl,hr⟩
  ·unfold prV;ac_rfl;exact⟨hl,by rw[aM];exact kT rfl _ ⟨_,rfl⟩⟩
  ·rw[eB hr]at kT;ac_rfl;exact⟨_,(aj (ao hr hp1)).trans hr,hl,by rw[aM];exact kT rfl _ ⟨_,rfl⟩⟩
 rw[Fm.mpr (fun _ _=>rfl),lL ry];subst hR;have sb1:U.Sub H (put H p1 (.lst (ps.map prV))):=Sub.put (Sub.refl _) hp1;refine au fun R hR=>?_;ac_rfl;refine⟨ps,rfl,gp,c6,?_⟩
 try ac_rfl
 subst hR;have hp1s:put H p1 (.lst (ps.map prV)) p1=some (.lst (ps.map prV)):=ah;have hx1:=sb1 _ _ hx;have hb1:=hb.up sb1;have rz1:=rz.up sb1;generalize put H p1 (.lst (ps.map prV))=H1 at *;refine au fun R hR=>?_;ac_rfl;refine m5 hb1 fun ok hok p2 hp2=>?_;refine aQ (jc H1) (fun _=>true) (fun σ=>∃z,σ=[z]) (by rw[rz1.length];omega) (fun l=>hok _ ((Sub.refl _).put hp2)) ?_ ?_ ⟨_,rfl⟩
 ·rintro y hy l σ R' ⟨z,rfl⟩ hl kT kF;obtain⟨p,hp,row⟩:=dq rz1 hy;rcases row with rfl |⟨r,rfl,hr⟩
  ·unfold prV;ac_rfl;exact⟨hl,by rw[aM];exact kT rfl _ ⟨_,rfl⟩⟩
  ·rw[eB hr]at kT;ac_rfl;exact⟨_,(aj (ao hr hp2)).trans hr,hl,by rw[aM];exact kT rfl _ ⟨_,rfl⟩⟩
 rw[Fm.mpr (fun _ _=>rfl),lL rz1];subst hR;have sb2:U.Sub H1 (put H1 p2 (.lst (qs.map prV))):=Sub.put (Sub.refl _) hp2;have hp1t:=sb2 _ _ hp1s;have hx2:=sb2 _ _ hx1;have hp2s:put H1 p2 (.lst (qs.map prV)) p2=some (.lst (qs.map prV)):=ah;refine au fun R hR=>?_;ac_rfl;refine⟨qs,rfl,gq,c6,?_⟩
 try ac_rfl
 subst hR;have sb3:=sb1.trans sb2;generalize put H1 p2 (.lst (qs.map prV))=H2 at *;refine au fun R hR=>?_;ac_rfl;refine⟨_,hp2s,bw (by rw[EM];simp;omega) ?_⟩;subst hR;refine au fun R hR=>?_;ac_rfl;refine⟨_,_,hx2,by simp,?_⟩;subst hR;have n1:p1≠x:=fun e=>by subst e;rw[hx2]at hp1t;cases hp1t
 have n2:p2≠x:=fun e=>by subst e;rw[hx2]at hp2s;cases hp2s
 refine au fun R hR=>?_;ac_rfl;refine⟨ps,(aj n1).trans hp1t,gp.nd,fun p hp=>?_,by omega,fun r1 ts hr1 pt st=>?_⟩
 ·have:=gp.lo p hp;omega
 try ac_rfl
 have nx1:x≠r1:=fun e=>by subst e;rw[ah]at hr1;cases hr1
 refine⟨_,_,(aj nx1).trans ah,Gz iI (by decide),?_⟩;subst hR;have n3:p2≠r1:=fun e=>by subst e;rw[aj n2,hp2s]at hr1;cases hr1
 ac_rfl;refine⟨qs,(aj n2).trans ((aj n3).trans ((aj n2).trans hp2s)),gq.nd,fun p hp=>?_,by omega,fun r2 bs hr2 pb sb=>?_⟩
 ·have:=gq.lo p hp;omega
 try ac_rfl
 have nx2:x≠r2:=fun e=>by subst e;rw[ah]at hr2;cases hr2
 have ul:=fun f v fs=>@iI f v fs;refine⟨_,_,(aj nx2).trans ah,?_,put H x (.ins t.a_D dx (DF c ts bs)),rN ?_ ah,h ts bs pt st pb sb⟩
 ·have l1:=ul "ties" (.tup (ts.map prV)) (fV "count" (.int c) []);have l2:=ul "count" (.int c) [];simp only[Fh]at l2;omega
 ·intro z o hzx hz;have hz2:=sb3 _ _ hz;have z1:z≠r1:=fun e=>by subst e;rw[aj hzx,hz2]at hr1;cases hr1
  have z2:z≠r2:=fun e=>by subst e;rw[aj hzx,aj z1,aj hzx,hz2]at hr2;cases hr2
  rw[aj hzx,aj z2,aj hzx,aj z1,aj hzx];exact hz2
theorem CT(T:Tx K mg t):aT P w K mg base CX0 1 t.a_za t.d_za ["self","name"] (gG t):=by
 refine okU (k:=0) T.F_za Cw (fun vs H Q E h=>bP h) (fun cdv A outer s H E B hr=>⟨_,(ar (bh (eP (xQ (aP fO fA (qv 1) af (aH _)) (uH (aP sY rS (qv 1) (cR (qv 0) T.cl_D T.nfD_count rfl) (aH _)))))
  cJ
  aL)),?_⟩)
 intro vs H Q E h
 replace h:=bO h
 obtain⟨x,_,rfl,n,_,rfl,rfl,h⟩:=h;obtain⟨dx,c,ts,bs,hx,⟨h0,h1⟩,h⟩:=h;ac_rfl;exact bw (by simpa using h0) ⟨_,_,_,hx,rfl,bw (by simpa using h1) ⟨H,Sub.refl _,h⟩⟩
theorem El(T:Tx K mg t):aT P w K mg base CX0 2 t.a_zc t.d_zc ["self","name"] (iU t):=by
 refine okU (k:=1) T.F_zc CC (fun vs H Q E h=>bP h) (fun cdv A outer s H E B hr=>⟨_,(ag (bH (oY (qv 0) T.cl_D T.m_za (CT T) (hr.mono (by decide)) T.B_za (aa (qv 1) ae)))
  (ar (aO (aE aK bx rfl T.b_tuple FV (aa (bt (N2:=["tie","name"]) (nt:=1) (js:=[1]) (cok (sc:=ai nC) (by exact rfl) (by repeat (first | exact trivial | refine⟨rfl,?_⟩)) rfl (by rfl) (by decide +kernel) (by decide +kernel) (by rfl) (by decide +kernel) (by rfl) (by rfl)) rfl (br (cR (qv 0) T.cl_D T.nfD_ties rfl)) (fun s0 H0 fp ps=>⟨(aw (i:=0) (show List.Nodup (["tie","name"]:List Str) by decide +kernel) rfl (by first | exact Or.inl rfl | exact Or.inr rfl)),(h9 (aP (bo hr.units) bD (aC (qv 0) af (fun _ _=>rfl)) (qv 1) (aH _))),(aC (qv 0) af (fun _ _=>rfl))⟩)) ae))))),?_⟩)
 intro vs H Q E h
 replace h:=bO h
 obtain⟨x,_,rfl,n,_,rfl,rfl,h⟩:=h;obtain⟨dx,c,ts,bs,hx,⟨h0,h1⟩,h15,h⟩:=h;ac_rfl;refine⟨⟨_,_,hx,rfl⟩,_,_,_,_,hx,⟨h0,h1⟩,_,_,_,hx,rfl,?_⟩;show ∀acc,H acc=none->_;intro acc hacc;refine aQ g0 (at1 n) (fun σ=>∃z,σ=[z,some (.int n)]) (by rw[EM];omega) (fun _=>trivial) ?step ?fin ⟨_,rfl⟩
 case step =>
  rintro y hy l σ R ⟨z,rfl⟩ hl kT kF;obtain⟨p,hp,rfl⟩:=E3.mp hy;have e:at1 n (prV p)=decide (p.2=n):=rfl;rw[e]at kT kF;unfold prV at *;ac_rfl;refine aU (fun q=>?_) (fun q=>?_)
  ·exact⟨hl,by rw[aM];exact kT (by simpa using q) _ ⟨_,rfl⟩⟩
  ·exact kF (by simpa using q) _ ⟨_,rfl⟩
 case fin =>
  refine⟨_,ah,H,Sub.put (Sub.refl _) hacc,?_⟩;rw[src_list];exact h
theorem qE(T:Tx K mg t):aT P w K mg base CX0 1 t.a_zl t.d_zl ["_law_script","_law_k"] jX:=by
 refine okU (k:=0) T.F_zl Cv (fun vs H Q E h=>bP h) (fun cdv A outer s H E B hr=>⟨_,(ag (bh (aP fO fA (qv 1) (aB aA bG rfl T.b_len Fl (aa (qv 0) ae)) (aH _))
  (ar (aO (aC (qv 0) (qv 1) (fun _ _=>rfl))))
  aL)
  (ar (aO af))),?_⟩)
 intro vs H Q E h
 replace h:=bO h
 obtain⟨l,_,rfl,k,_,rfl,rfl,h⟩:=h
 try dsimp only at h
 obtain⟨⟨h0,h1⟩,ns,rfl,h⟩:=h;ac_rfl;by_cases hk:k<ns.length
 ·refine bM (by rw[EM];simpa using hk) ?_;rw[dn h0 hk];exact⟨H,Sub.refl _,h⟩
 ·refine bw (by rw[EM];simpa using hk) ⟨H,Sub.refl _,?_⟩;rw[ER,FN (by omega)]at h;exact h
theorem zV(T:Tx K mg t):aT P w K mg base CX0 1 t.a_zz t.d_zz ["_law_cell","_law_many"] kE:=by
 refine okU (k:=0) T.F_zz gH (fun vs H Q E h=>bP h) (fun cdv A outer s H E B hr=>⟨_,(ag (ax (i:=2) gH.nd rfl (by first | exact Or.inl rfl | exact Or.inr rfl) (aF ae))
  (ag (ax (i:=3) gH.nd rfl (by first | exact Or.inl rfl | exact Or.inr rfl) (aV (qv 0) af))
  (ag (bh (aP (bo hr.units) bD (aY (qv 0) af) af (aH _))
  (ag (cx Fx rfl (bE rfl T.b_range (aa (qv 1) ae)) (aw (i:=4) gH.nd rfl (by first | exact Or.inl rfl | exact Or.inr rfl))
   (ag (bH (cH FC FD bU cn (qv 2) (aa (aY (qv 3) af) ae)))
    (ar (ax (i:=3) gH.nd rfl (by first | exact Or.inl rfl | exact Or.inr rfl) (aV (qv 3) af)))))
   (ar (aO (qv 2))))
  aL)
  (ag (ax (i:=3) gH.nd rfl (by first | exact Or.inl rfl | exact Or.inr rfl) (aY (bI (bQ (aY (qv 3) af) af) af) af))
  (ag (cx Fx rfl (bE rfl T.b_range (aa (qv 1) ae)) (aw (i:=4) gH.nd rfl (by first | exact Or.inl rfl | exact Or.inr rfl))
  (ag (ax (i:=3) gH.nd rfl (by first | exact Or.inl rfl | exact Or.inr rfl) (aY (bI (bI (bI (bQ (qv 3) (qv 3)) (bQ af (qv 3))) (qv 4)) af) af))
   (ar (bH (cH FC FD bU cn (qv 2) (aa (qv 3) ae))))))
  (ar (aO (qv 2)))))))),?_⟩)
 intro vs H Q E h
 replace h:=bO h
 obtain⟨c,_,rfl,m,_,rfl,rfl,h⟩:=h
 try dsimp only at h
 obtain⟨⟨h0,h1⟩,h⟩:=h;ac_rfl;refine⟨ak (by decide),fun p hp=>⟨dh (by decide) (by decide),by decide,?_⟩⟩;have hs:∀(xs:List Int) (i:Nat),xs.length=i->i<m.toNat->(xs.map PV.int).length<sizeLine:=fun xs i h1 h2=>by
  rw[EM];exact bz (by omega)
 refine aU (fun _=>⟨⟨by omega,by omega⟩,?_⟩) (fun _=>⟨by decide,.inr ⟨?f1,?f2⟩,by decide,⟨by omega,by omega⟩,?_⟩)
 ·refine fQ (fun i σ H2=>∃num k xs,σ=[some (.int c),some (.int m),some (.ref p),some (.int num),k]/\H2=put H p (.lst (xs.map PV.int))/\xs.length=i) ?_ ?_ ⟨_,_,[],rfl,rfl,rfl⟩
  ·rintro σ H2 ⟨num,k,xs,rfl,rfl,hl⟩;exact⟨trivial,_,Sub.refl _,h p xs hp hl⟩
  ·rintro G i σ H2 hi ⟨num,k,xs,rfl,rfl,hl⟩ kk;refine⟨trivial,?_⟩;ac_rfl;exact⟨⟨_,rfl⟩,by decide,hs xs i hl hi,dh (by decide) (by decide),kk _ _ ⟨_,_,xs++[num.fmod 5040],rfl,by rw[aM,Fi];rfl,by rw[EX,hl];rfl⟩⟩
 case f1=>have:=fm (a:=c.fdiv 2) (b:=2147483647) (by decide);exact gO (by omega)
 case f2=>exact gO (by decide)
 ·have b0:=fm (a:=(c.fdiv 2).fmod 2147483647*16807+11) (b:=2147483647) (by decide);generalize ((c.fdiv 2).fmod 2147483647*16807+11).fmod 2147483647=num at *;refine fQ (fun i σ H2=>∃num k xs,(0≤num/\num<2147483647)/\σ=[some (.int c),some (.int m),some (.ref p),some (.int num),k]/\H2=put H p (.lst (xs.map PV.int))/\xs.length=i) ?_ ?_ ⟨_,_,[],b0,rfl,rfl,rfl⟩
  ·rintro σ H2 ⟨num,k,xs,_,rfl,rfl,hl⟩;exact⟨trivial,_,Sub.refl _,h p xs hp hl⟩
  ·rintro G i σ H2 hi ⟨num,k,xs,⟨b1,b2⟩,rfl,rfl,hl⟩ kk;refine⟨trivial,?_⟩;ac_rfl;exact⟨.inr ⟨gO (by omega),gO (by omega)⟩,.inr ⟨gO (by decide),gO (by omega)⟩,by decide,⟨_,rfl⟩,hs xs i hl hi,kk _ _ ⟨_,_,xs++[_],fm (by decide),rfl,by rw[aM,Fi];rfl,by rw[EX,hl];rfl⟩⟩
theorem Dk(T:Tx K mg t):aT P w K mg base CX0 2 t.a_zy t.d_zy ["_law_script","_law_at"] kG:=by
 refine okU (k:=1) T.F_zy eD (fun vs H Q E h=>bP h) (fun cdv A outer s H E B hr=>⟨_,(ag (ax (i:=2) eD.nd rfl (by first | exact Or.inl rfl | exact Or.inr rfl) (ay (qE T) (hr.mono (by decide)) rfl T.g_zl T.F_zl.kp T.B_zl (aa (qv 0) (aa (qv 1) ae))))
  (ag (ax (i:=3) eD.nd rfl (by first | exact Or.inl rfl | exact Or.inr rfl) (bI af (aY (qv 2) af)))
  (ag (ax (i:=4) eD.nd rfl (by first | exact Or.inl rfl | exact Or.inr rfl) (aY (aV (qv 2) af) af))
  (ag (ax (i:=5) eD.nd rfl (by first | exact Or.inl rfl | exact Or.inr rfl) (ay (zV T) (hr.mono (by decide)) rfl T.g_zz T.F_zz.kp T.B_zz (aa (ay (qE T) (hr.mono (by decide)) rfl T.g_zl T.F_zl.kp T.B_zl (aa (qv 0) (aa (bI (qv 1) af) ae))) (aa af ae))))
  (ag (ax (i:=6) eD.nd rfl (by first | exact Or.inl rfl | exact Or.inr rfl) (aF ae))
  (ag (ax (i:=7) eD.nd rfl (by first | exact Or.inl rfl | exact Or.inr rfl) (aF ae))
  (ag (ax (i:=8) eD.nd rfl (by first | exact Or.inl rfl | exact Or.inr rfl) af)
  (ag (cx Fx rfl (bE rfl T.b_range (aa (qv 3) ae)) (aw (i:=9) eD.nd rfl (by first | exact Or.inl rfl | exact Or.inr rfl))
  (ar (cx Fx rfl (bE rfl T.b_range (aa (qv 9) ae)) (aw (i:=10) eD.nd rfl (by first | exact Or.inl rfl | exact Or.inr rfl))
   (ag (bh (aP (bo hr.units) bD (aY (aC (qv 5) (qv 8) (fun _ _=>rfl)) (aC (aF (aa af (aa af (aa af (aa af ae))))) (qv 4) (fun _ _=>rfl))) af (aH _))
    (ar (bH (cH FC FD bU cn (qv 6) (aa (aR (aa (qv 10) (aa (qv 9) ae))) ae))))
    aL)
    (ag (bh (eP (jS (aP (bo hr.units) bD (aY (aV (aC (qv 5) (qv 8) (fun _ _=>rfl)) af) (aC (aF (aa af (aa af (aa af (aa af ae))))) (qv 4) (fun _ _=>rfl))) af (aH _)) (hU (aP fO fA (aB aA bG rfl T.b_len Fl (aa (qv 7) ae)) af (aH _)))))
    (ar (bH (cH FC FD bU cn (qv 7) (aa (aR (aa (qv 10) (aa (qv 9) ae))) ae))))
    aL)
    (ar (ax (i:=8) eD.nd rfl (by first | exact Or.inl rfl | exact Or.inr rfl) (bI (qv 8) af))))))))
  (ar (aO (aR (aa (qv 3) (aa (qv 6) (aa (qv 7) ae)))))))))))))),?_⟩)
 intro vs H Q E h
 replace h:=bO h
 obtain⟨l,_,rfl,k,_,rfl,rfl,h⟩:=h
 try dsimp only at h
 obtain⟨⟨h0,h1⟩,ns,rfl,h⟩:=h;ac_rfl;refine⟨⟨h0,by omega⟩,ns,rfl,by decide,dh (by decide) (by decide),by decide,⟨by omega,by omega⟩,ns,rfl,⟨by decide,by decide⟩,fun p xs hp hxs=>⟨ak (by decide),fun p1 hp1=>⟨ak (by decide),fun p2 hp2=>?_⟩⟩⟩;have hc:=fm (a:=ns.getD k.toNat 0) (b:=6) (by decide);have hd:=fm (a:=(ns.getD k.toNat 0).fdiv 6) (b:=4) (by decide);generalize ((ns.getD k.toNat 0).fdiv 6).fmod 4=d at *;generalize hcc:1+(ns.getD k.toNat 0).fmod 6=c at *;have hc1:1≤c/\c≤6:=by omega
 refine⟨⟨by omega,by omega⟩,?_⟩;have q1:H p1=none:=(Sub.put (Sub.refl H) hp).free hp1;have n12:p1≠p2:=fun e=>by subst e;rw[ah]at hp2;cases hp2
 have q2:H p2=none:=((Sub.put (Sub.refl H) hp).put (o:=.lst []) q1).free hp2;refine fQ (fun i σ H2=>∃v u ts bs,σ=[some (.fls (ns.map PV.int)),some (.int k),some (.int (ns.getD k.toNat 0)),some (.int c),some (.int d),some (.ref p),some (.ref p1),some (.ref p2),some (.int (DM.tri i:Nat)),v,u]/\(U.Sub H H2/\H2 p=some (.lst (xs.map PV.int))/\H2 p1=some (.lst (ts.map prV))/\H2 p2=some (.lst (bs.map prV)))/\DM.Good (i:Nat) ts/\DM.Good (i:Nat) bs/\bs.length≤6) ?_ ?_ ?_
 ·rintro σ H2 ⟨v,u,ts,bs,rfl,⟨s1,s2,s3,s4⟩,g1,g2,l6⟩;refine⟨trivial,?_⟩;ac_rfl;have ec:((c.toNat:Nat):Int)=c:=by omega
  rw[ec]at g1 g2;exact⟨ak (by decide),_,o9 (o9 s1 s3) s4,h c ts bs p1 p2 hc1 g1 g2 l6 q1 q2 n12⟩
 ·rintro G i σ H2 hi ⟨v,u,ts,bs,rfl,hH,g1,g2,l6⟩ kk;refine⟨trivial,?_⟩;ac_rfl;obtain⟨s1,s2,s3,s4⟩:=hH;obtain⟨da,hda,da0⟩:=D4 hd.1 hd.2;obtain⟨db,hdb,db0⟩:=DT hd.1 hd.2;have ht:=DM.yM i (by omega);refine⟨⟨by omega,by omega⟩,?_⟩;rw[FW];refine fQ (fun j σ H3=>∃u ts bs,σ=[some (.fls (ns.map PV.int)),some (.int k),some (.int (ns.getD k.toNat 0)),some (.int c),some (.int d),some (.ref p),some (.ref p1),some (.ref p2),some (.int (DM.tri i+j:Nat)),some (.int (i:Nat)),u]/\(U.Sub H H3/\H3 p=some (.lst (xs.map PV.int))/\H3 p1=some (.lst (ts.map prV))/\H3 p2=some (.lst (bs.map prV)))/\GJ (i:Nat) (j:Nat) ts/\GJ (i:Nat) (j:Nat) bs/\bs.length≤6) ?_ ?_ ⟨_,ts,bs,rfl,⟨s1,s2,s3,s4⟩,GJ.of g1,GJ.of g2,l6⟩
  ·rintro σ H3 ⟨u,ts,bs,rfl,hH,a1,a2,l6⟩;exact⟨trivial,kk _ _ ⟨_,_,ts,bs,rfl,hH,a1.good,a2.good,l6⟩⟩
  ·rintro G' j σ H3 hj ⟨u,ts,bs,rfl,⟨s1,s2,s3,s4⟩,a1,a2,l6⟩ kk';refine⟨trivial,?_⟩;have hx:atI (xs.map PV.int) ((DM.tri i+j:Nat):Int)=some (.int (xs.getD ((DM.tri i+j:Nat):Int).toNat 0)):=dn (by omega) (by rw[hxs];omega);generalize xs.getD ((DM.tri i+j:Nat):Int).toNat 0=xv at hx;have last:∀ts' bs' H4,(U.Sub H H4/\H4 p=some (.lst (xs.map PV.int))/\H4 p1=some (.lst (ts'.map prV))/\H4 p2=some (.lst (bs'.map prV)))->GJ (i:Nat) ((j:Nat)+1:Int) ts'->GJ (i:Nat) ((j:Nat)+1:Int) bs'->bs'.length≤6 ->
     G' [some (.fls (ns.map PV.int)),some (.int k),some (.int (ns.getD k.toNat 0)),some (.int c),some (.int d),some (.ref p),some (.ref p1),some (.ref p2),some (.int (((DM.tri i+j:Nat):Int)+1)),some (.int (i:Nat)),some (.int (j:Nat))] H4:=fun ts' bs' H4 x1 x2 x3 x4=>kk' _ _ ⟨_,ts',bs',rfl,x1,x2,x3,x4⟩
   refine au fun R hR=>?_;have second:∀(ts':List DM.P2) (H4:PHp),(U.Sub H H4/\H4 p=some (.lst (xs.map PV.int))/\H4 p1=some (.lst (ts'.map prV))/\H4 p2=some (.lst (bs.map prV)))->GJ (i:Nat) ((j:Nat)+1:Int) ts' ->
     R { nx:=G',rt:=fun v H=>∃H3,U.Sub H3 H/\Q v H3,bk:=G,ct:=G' } [some (.fls (ns.map PV.int)),some (.int k),some (.int (ns.getD k.toNat 0)),some (.int c),some (.int d),some (.ref p),some (.ref p1),some (.ref p2),some (.int ((DM.tri i+j:Nat):Int)),some (.int (i:Nat)),some (.int (j:Nat))] H4:=by
    rintro ts' H4 ⟨u1,u2,u3,u4⟩ b1;subst hR;refine au fun R hR=>?_;ac_rfl;refine⟨_,u2,?_⟩;rw[hx];ac_rfl;refine⟨dh (by decide) (by decide),ak (by decide),fun p4 hp4=>?_⟩
    try ac_rfl
    rw[hdb]
    try ac_rfl
    have m1:=ao u2 hp4;have m2:=ao u3 hp4;have m3:=ao u4 hp4;have sb4:=u1.put (o:=.lst [.int 2,.int 3,.int 5,.int 2]) (u1.free hp4);have w2:=(aj (o:=.lst [.int 2,.int 3,.int 5,.int 2]) m1).trans u2;have w3:=(aj (o:=.lst [.int 2,.int 3,.int 5,.int 2]) m2).trans u3;have w4:=(aj (o:=.lst [.int 2,.int 3,.int 5,.int 2]) m3).trans u4;generalize put H4 p4 (.lst [.int 2,.int 3,.int 5,.int 2])=H5 at *;refine⟨db0,?_⟩;have nxt:R { nx:=G',rt:=fun v H=>∃H3,U.Sub H3 H/\Q v H3,bk:=G,ct:=G' } [some (.fls (ns.map PV.int)),some (.int k),some (.int (ns.getD k.toNat 0)),some (.int c),some (.int d),some (.ref p),some (.ref p1),some (.ref p2),some (.int ((DM.tri i+j:Nat):Int)),some (.int (i:Nat)),some (.int (j:Nat))] H5:=by
     subst hR;ac_rfl;exact last ts' bs H5 ⟨sb4,w2,w3,w4⟩ b1 a2.up l6
    refine aU (fun _=>?_) (fun _=>?_)
    ·refine⟨_,w4,?_⟩;by_cases h6:bs.length<6
     ·refine bM (by rw[EM];simp;omega) ?_;refine⟨⟨_,w4⟩,ak (by decide),_,w4,by rw[EM];exact bz (by omega),?_⟩;subst hR;ac_rfl;have n12':p1≠p2:=n12;have np2:p≠p2:=fun e=>by
       subst e;rw[aj (fun e=>by subst e;rw[ah]at hp1;cases hp1),ah]at hp2;cases hp2
      refine last ts' (bs++[(((j:Nat):Int),((i:Nat):Int))]) _ ⟨sb4.put q2,(aj np2).trans w2,(aj n12).trans w3,?_⟩ b1 (a2.app (by omega) (by omega)) (by rw[EX];simp;omega);rw[ah,Fi];rfl
     ·refine bw (by rw[EM];simp;omega) nxt
    ·exact nxt
   ac_rfl;refine⟨_,s2,?_⟩;rw[hx];ac_rfl;refine⟨ak (by decide),fun p3 hp3=>?_⟩
   try ac_rfl
   rw[hda]
   try ac_rfl
   have m1:=ao s2 hp3;have m2:=ao s3 hp3;have m3:=ao s4 hp3;have sb3:=s1.put (o:=.lst [.int 2,.int 3,.int 2,.int 4]) (s1.free hp3);have w2:=(aj (o:=.lst [.int 2,.int 3,.int 2,.int 4]) m1).trans s2;have w3:=(aj (o:=.lst [.int 2,.int 3,.int 2,.int 4]) m2).trans s3;have w4:=(aj (o:=.lst [.int 2,.int 3,.int 2,.int 4]) m3).trans s4;generalize put H3 p3 (.lst [.int 2,.int 3,.int 2,.int 4])=H5 at *;have t15:ts.length≤15:=(show DM.Good ((i:Nat)+1:Int) ts from⟨a1.nd,fun p hp=>by have:=a1.lo p hp;omega⟩).len (by omega);refine⟨da0,aU (fun _=>?_) (fun _=>second ts H5 ⟨sb3,w2,w3,w4⟩ a1.up)⟩;refine⟨⟨_,w3⟩,ak (by decide),_,w3,by rw[EM];exact bz (by omega),?_⟩;have np1:p≠p1:=fun e=>by subst e;rw[ah]at hp1;cases hp1
   refine second (ts++[(((j:Nat):Int),((i:Nat):Int))]) _ ⟨sb3.put q1,(aj np1).trans w2,?_,(aj n12.symm).trans w4⟩ (a1.app (by omega) (by omega));rw[ah,Fi];rfl
 ·have np1:p≠p1:=fun e=>by subst e;rw[ah]at hp1;cases hp1
  have np2:p≠p2:=fun e=>by subst e;rw[aj np1,ah]at hp2;cases hp2
  refine⟨_,_,[],[],rfl,⟨?_,?_,?_,ah⟩,⟨List.nodup_nil,by simp⟩,⟨List.nodup_nil,by simp⟩,by simp⟩
  ·exact(((Sub.refl H).put hp).put q1).put q2
  ·rw[aj np2,aj np1,ah]
  ·rw[aj n12,ah];rfl
theorem AM(T:Tx K mg t):aT P w K mg base CX0 1 t.a_zb t.d_zb ["a","b"] pJ:=by
 refine okU (k:=0) T.F_zb oZ (fun vs H Q E h=>bP h) (fun cdv A outer s H E B hr=>⟨_,(ag (kW Fx (aP (jP hr.units) bD (qv 1) af (aH _))
  (ag (ax (i:=2) oZ.nd rfl (by first | exact Or.inl rfl | exact Or.inr rfl) (aY (qv 0) (qv 1)))
   (ag (ax (i:=0) oZ.nd rfl (by first | exact Or.inl rfl | exact Or.inr rfl) (qv 1))
   (ar (ax (i:=1) oZ.nd rfl (by first | exact Or.inl rfl | exact Or.inr rfl) (qv 2))))))
  (ar (aO (qv 0)))),?_⟩)
 intro vs H Q E h
 replace h:=bO h
 obtain⟨a,_,rfl,b,_,rfl,rfl,h⟩:=h
 try dsimp only at h
 obtain⟨⟨ha,hb⟩,h⟩:=h;ac_rfl;refine iz (fun m σ H'=>∃x y r,σ=[some (.int x),some (.int y),r]/\H'=H/\(0≤x/\0≤y/\My.gd x y=My.gd a b)/\m=y.natAbs) b.natAbs ⟨a,b,none,rfl,rfl,⟨ha,hb,rfl⟩,rfl⟩ ?_;rintro m σ H' ⟨x,y,r,rfl,rfl,⟨hx,hy0,hg⟩,rfl⟩;ac_rfl;by_cases hy:y=0
 ·refine bw (by simp[hy]) ⟨H',Sub.refl _,?_⟩;rw[←hg,hy,My.pw,Fo (by omega)]at h;exact h
 ·refine bM (by simp[hy]) ?_;exact⟨_,fun σ' H' z=>z,hy,_,My.kC x y hy,_,_,_,rfl,rfl,My.zh hg hy0 hy,rfl⟩
theorem Cg(T:Tx K mg t):aT P w K mg base CX0 2 t.a_zH t.d_zH ["top","bottom"] gD:=by
 refine okU (k:=1) T.F_zH se (fun vs H Q E h=>bP h) (fun cdv A outer s H E B hr=>⟨_,(ag (bh (aP (bo hr.units) bD (qv 1) af (aH _))
  cJ
  aL)
  (ag (ax (i:=2) se.nd rfl (by first | exact Or.inl rfl | exact Or.inr rfl) (ay (AM T) (hr.mono (by decide)) rfl T.g_zb T.F_zb.kp T.B_zb (aa (aB iD nz rfl T.b_abs boot_abs (aa (qv 0) ae)) (aa (aB iD nz rfl T.b_abs boot_abs (aa (qv 1) ae)) ae))))
  (ag (bh (aP fO fA (qv 1) af (aH _))
  (ar (ax (i:=2) se.nd rfl (by first | exact Or.inl rfl | exact Or.inr rfl) (c9 (qv 2))))
  aL)
  (ar (aO (aR (aa (aV (qv 0) (qv 2)) (aa (aV (qv 1) (qv 2)) ae)))))))),?_⟩)
 intro vs H Q E h
 replace h:=bO h
 obtain⟨a,_,rfl,b,_,rfl,rfl,h⟩:=h
 try dsimp only at h
 obtain⟨⟨h0,h1,h2⟩,h⟩:=h;have g:=My.oJ a b h1;have gb:=jm (by omega) g.2 h2;ac_rfl;refine bw (by simp;omega) ?_;rw[My.Ar];refine⟨⟨by split<;>omega,by split<;>omega⟩,bw (by simp;omega) ?_⟩
 try ac_rfl
 exact⟨wN g.1 gb,wN g.1 gb,ak (by decide),H,Sub.refl _,h⟩
theorem C4(T:Tx K mg t):aT P w K mg base CX0 2 t.a_ze t.d_ze ["parts"] pq:=by
 refine okU (k:=1) T.F_ze oR (fun vs H Q E h=>bP h) (fun cdv A outer s H E B hr=>⟨_,(ag (ax (i:=1) oR.nd rfl (by first | exact Or.inl rfl | exact Or.inr rfl) af)
  (ag (cx Fx rfl (br (qv 0)) (aw (i:=2) oR.nd rfl (by first | exact Or.inl rfl | exact Or.inr rfl))
  (ar (bh (aP (jP hr.units) bD (aY (qv 1) (aC (qv 2) af (fun _ _=>rfl))) af (aH _))
   (ar (ax (i:=1) oR.nd rfl (by first | exact Or.inl rfl | exact Or.inr rfl) (bQ (aV (qv 1) (ay (AM T) (hr.mono (by decide)) rfl T.g_zb T.F_zb.kp T.B_zb (aa (qv 1) (aa (aC (qv 2) af (fun _ _=>rfl)) ae)))) (aC (qv 2) af (fun _ _=>rfl)))))
   aL)))
  (ar (aO (qv 1))))),?_⟩)
 intro vs H Q E h
 replace h:=bO h
 obtain⟨l,_,rfl,rfl,h⟩:=h;obtain⟨ps,S,rfl,⟨S0,SB⟩,hp,h⟩:=h;refine au fun R hR=>?_;ac_rfl;subst hR;refine au fun R hR=>?_;ac_rfl;refine dZ (fun i σ H2=>∃B z,σ=[some (.tup (ps.map prV)),some (.int B),z]/\H2=H/\0<B/\B ∣ S/\∀p∈ps.take i,p.2 ∣ B) ?_ ?_ ⟨1,none,rfl,rfl,by decide,Int.one_dvd _,fun w hw=>by rw[List.take_zero]at hw;cases hw⟩
 ·rintro σ H2 ⟨B,z,rfl,rfl,b0,b1,b2⟩;refine⟨trivial,?_⟩;subst hR;ac_rfl;exact⟨H2,Sub.refl _,h B b0 b1 (by rw[EM,F9]at b2;exact b2)⟩
 ·rintro D i y σ H2 hy ⟨B,z,rfl,rfl,b0,b1,b2⟩ kk;refine⟨trivial,?_⟩;rw[E7]at hy;cases hg:ps[i]? with
  | none=>rw[hg]at hy;cases hy
  | some p =>
   rw[hg]at hy;cases hy;obtain⟨q1,d1⟩:=hp p (EZ hg);have bB:=j9 b0 S0 b1 SB;have pB:=j9 (show 0<p.2 by omega) S0 d1 SB
   try simp only[GB]
   obtain⟨l1,l2,l3,l4⟩:=zG b0 (show 0<p.2 by omega) b1 d1;have fl:=h7 (a:=B) (b:=My.gd B p.2) (by omega) (My.cK _ _ (by omega));have g:=My.oJ B p.2 (by omega);unfold prV at *;ac_rfl;refine⟨by omega,aU (fun q=>⟨⟨by omega,by omega⟩,wN g.1 (jm (by omega) g.2 pB),.inr ⟨iY (jm fl.1 fl.2 bB),iY pB⟩,kk _ _ ⟨_,_,rfl,rfl,l1,l4,fun x hx=>?_⟩⟩) (fun q=>kk _ _ ⟨B,_,rfl,rfl,b0,b1,fun x hx=>?_⟩)⟩
   ·rw[FX,hg]at hx;rcases Fu.mp hx with hx | hx
    ·exact Int.dvd_trans (b2 x hx) l2
    ·have:x=p:=by simpa using hx
     rw[this];exact l3
   ·rw[FX,hg]at hx;rcases Fu.mp hx with hx | hx
    ·exact b2 x hx
    ·have:x=p:=by simpa using hx
     rw[this];exact tu (by omega) (by simpa using q)
theorem DN(T:Tx K mg t):aT P w K mg base CX0 1 t.a_zB t.d_zB ["parts","bottom"] pC:=by
 refine okU (k:=0) T.F_zB BD (fun vs H Q E h=>bP h) (fun cdv A outer s H E B hr=>⟨_,(ar (aO (bt (N2:=["part","bottom"]) (nt:=1) (js:=[1]) (cok (sc:=ai mX) (by exact rfl) (by repeat (first | exact trivial | refine⟨rfl,?_⟩)) rfl (by rfl) (by decide +kernel) (by decide +kernel) (by rfl) (by decide +kernel) (by rfl) (by rfl)) rfl (br (qv 0)) (fun s0 H0 fp ps=>⟨(aw (i:=0) (show List.Nodup (["part","bottom"]:List Str) by decide +kernel) rfl (by first | exact Or.inl rfl | exact Or.inr rfl)),aZ,(bQ (aC (qv 0) af (fun _ _=>rfl)) (aV (qv 1) (aC (qv 0) af (fun _ _=>rfl))))⟩)))),?_⟩);intro vs H Q E h
 replace h:=bO h
 obtain⟨l,_,rfl,B,_,rfl,rfl,h⟩:=h;obtain⟨ps,rfl,hl,⟨b0,bB⟩,hp,h⟩:=h;ac_rfl;intro acc hacc;refine aQ (fT B) (fun _=>true) (fun σ=>∃z,σ=[z,some (.int B)]) (by rw[EM];omega) (fun _=>trivial) ?_ ?_ ⟨_,rfl⟩
 ·rintro y hy l σ R ⟨z,rfl⟩ hl kT kF;obtain⟨p,hw,rfl⟩:=E3.mp hy;obtain⟨q1,q2,q3⟩:=hp p hw;have pB:=j9 (show 0<p.2 by omega) b0 q2 bB;have fl:=h7 (a:=B) (b:=p.2) (by omega) (by omega);unfold prV at *;ac_rfl;exact⟨wN (by omega) pB,.inr ⟨iY q3,iY (jm fl.1 fl.2 bB)⟩,hl,by rw[aM];exact kT rfl _ ⟨_,rfl⟩⟩
 have em:(((ps.map prV).filter fun _=>true).map (fT B))=(ps.map (tpO B)).map PV.int:=by
  rw[Fm.mpr (fun _ _=>rfl),E8,E8];rfl
 rw[em];exact⟨_,Sub.refl _,h acc hacc⟩
theorem D3(T:Tx K mg t):aT P w K mg base CX0 3 t.a_zO t.d_zO ["parts"] lg:=by
 refine okU (k:=2) T.F_zO xR (fun vs H Q E h=>bP h) (fun cdv A outer s H E B hr=>⟨_,(ag (ax (i:=1) xR.nd rfl (by first | exact Or.inl rfl | exact Or.inr rfl) (ay (C4 T) (hr.mono (by decide)) rfl T.g_ze T.F_ze.kp T.B_ze (aa (qv 0) ae)))
  (ar (aO (ay (Cg T) (hr.mono (by decide)) rfl T.g_zH T.F_zH.kp T.B_zH (aa (aB (gC rfl) mQ rfl T.b_sum boot_sum (aa (ay (DN T) (hr.mono (by decide)) rfl T.g_zB T.F_zB.kp T.B_zB (aa (qv 0) (aa (qv 1) ae))) ae)) (aa (qv 1) ae)))))),?_⟩)
 intro vs H Q E h
 replace h:=bO h
 obtain⟨l,_,rfl,rfl,h⟩:=h;obtain⟨ps,S,rfl,hl,hS,hp,h⟩:=h;refine au fun R hR=>?_;ac_rfl;refine⟨ps,S,rfl,hS,fun p h=>⟨(hp p h).1,(hp p h).2.1⟩,fun B b0 b1 b2=>?_⟩;have bB:=j9 b0 hS.1 b1 hS.2;have nn:=oE b0 (ps:=ps) fun p h=>⟨(hp p h).2.2.1,(hp p h).1⟩;subst hR;ac_rfl;refine⟨ps,rfl,hl,⟨b0,bB⟩,fun p h=>⟨(hp p h).1,b2 p h,(hp p h).2.2.2⟩,fun p hp'=>⟨_,rfl,?_⟩⟩
 try ac_rfl
 exact⟨⟨nn,b0,bB⟩,H,(Sub.refl H).put hp',h B b0 b2 nn⟩
theorem CS(T:Tx K mg t):aT P w K mg base CX0 3 t.a_zK t.d_zK ["part"] iP:=by
 refine okU (k:=2) T.F_zK B9 (fun vs H Q E h=>bP h) (fun cdv A outer s H E B hr=>⟨_,(ar (aO (cP (cy (bo hr.units) bD (aB aA bG rfl T.b_len Fl (aa (qv 0) ae)) af (aH _)) (cP (cy sY rS (aC (qv 0) af (fun _ _=>rfl)) af (aH _)) (cP (cy sY rS (aC (qv 0) af (fun _ _=>rfl)) af (aH _)) (dU (cy (bo hr.units) bD (ay (Cg T) (hr.mono (by decide)) rfl T.g_zH T.F_zH.kp T.B_zH (aa (aC (qv 0) af (fun _ _=>rfl)) (aa (aC (qv 0) af (fun _ _=>rfl)) ae))) (qv 0) (aH _)))))))),?_⟩);intro vs H Q E h
 replace h:=bO h
 obtain⟨u,_,rfl,rfl,h⟩:=h;obtain⟨a,b,rfl,h⟩:=h;obtain⟨⟨h1,h2⟩,h⟩:=h;unfold shB at h;ac_rfl;refine bM rfl (aU (fun q=>?_) (fun q=>?_))
 ·have a0:0≤a:=Gf q;refine bM (by simpa using h1) ⟨⟨a0,by omega,h2⟩,H,Sub.refl _,?_⟩;rw[zm a0 (by omega)];dsimp only at h;rw[Ge a0,Bool.true_and]at h;exact h
 ·dsimp only at h;rw[q,Bool.false_and]at h;exact⟨H,Sub.refl _,h⟩
theorem Bq(T:Tx K mg t):aT P w K mg base CX0 4 t.a_zt t.d_zt ["parts"] jH:=by
 refine okU (k:=3) T.F_zt Bb (fun vs H Q E h=>bP h) (fun cdv A outer s H E B hr=>⟨_,(ar (aO (cP (aB (dC rfl) gi rfl T.b_all boot_all (aa (bt (N2:=["part"]) (nt:=1) (js:=[]) (cok (sc:=ai mY) (by exact rfl) (by repeat (first | exact trivial | refine⟨rfl,?_⟩)) rfl (by rfl) (by decide +kernel) (by decide +kernel) (by rfl) (by decide +kernel) (by rfl) (by rfl)) rfl (br (qv 0)) (fun s0 H0 fp ps=>⟨(aw (i:=0) (show List.Nodup (["part"]:List Str) by decide +kernel) rfl (by first | exact Or.inl rfl | exact Or.inr rfl)),aZ,(ay (CS T) (hr.mono (by decide)) rfl T.g_zK T.F_zK.kp T.B_zK (aa (qv 0) ae))⟩)) ae)) (dU (cy (bo hr.units) bD (ay (D3 T) (hr.mono (by decide)) rfl T.g_zO T.F_zO.kp T.B_zO (aa (qv 0) ae)) (aR (aa af (aa af ae))) (aH _)))))),?_⟩);intro vs H Q E h
 replace h:=bO h
 obtain⟨l,_,rfl,rfl,h⟩:=h;obtain⟨ps,rfl,⟨hl,hb,hS⟩,h⟩:=h;ac_rfl;intro acc hacc;refine aQ (fun y=>PV.bl (shB (unR y))) (fun _=>true) (fun σ=>∃z,σ=[z]) (by rw[EM];omega) (fun _=>trivial) ?_ ?_ ⟨_,rfl⟩
 ·rintro y hy l σ R ⟨z,rfl⟩ hl kT kF;obtain⟨p,hw,rfl⟩:=E3.mp hy;unfold prV at *;ac_rfl;exact⟨hb p hw,hl,by rw[aM];exact kT rfl _ ⟨_,rfl⟩⟩
 have em:(((ps.map prV).filter fun _=>true).map fun y=>PV.bl (shB (unR y)))=(ps.map shB).map PV.bl:=by
  rw[Fm.mpr (fun _ _=>rfl),E8,E8];rfl
 rw[em]
 try ac_rfl
 refine⟨ps.map shB,rfl,aU (fun q=>?_) (fun q=>⟨H,(Sub.refl H).put hacc,h false ⟨fun z=>(by cases z),fun z=>?_⟩⟩)⟩
 ·have al:∀p∈ps,shB p=true:=fun p hp=>by
   have:=Fj.mp q (shB p) (E3.mpr ⟨p,hp,rfl⟩);simpa using this
  obtain⟨S,s1,s2⟩:=hS al;have nn:∀p∈ps,0≤p.1:=fun p hp=>by
   have:=al p hp;unfold shB at this;rw[F8]at this;exact Gf this.1
  refine⟨ps,S,rfl,hl,s1,fun p hp=>⟨(hb p hp).1,(s2 p hp).1,nn p hp,(s2 p hp).2⟩,fun B b0 b2 b3=>⟨ak (by decide),H,(Sub.refl H).put hacc,h _ ?_⟩⟩;rw[vG b3 b0,← One.iff (fun p hp=>by have:=(hb p hp).1;omega) b0 b2];exact⟨fun o=>⟨al,o⟩,fun o=>o.2⟩
 ·exfalso;simp at q;obtain⟨a,b,m,e⟩:=q;rw[z.1 _ m]at e;cases e
theorem AK(T:Tx K mg t):aT P w K mg base CX0 1 t.a_zN t.d_zN ["parts"] jv:=by
 refine okU (k:=0) T.F_zN Cz (fun vs H Q E h=>bP h) (fun cdv A outer s H E B hr=>⟨_,(ar (aO (aE aK bx rfl T.b_tuple FV (aa (bt (N2:=["part"]) (nt:=1) (js:=[]) (cok (sc:=ai mm) (by exact rfl) (by repeat (first | exact trivial | refine⟨rfl,?_⟩)) rfl (by rfl) (by decide +kernel) (by decide +kernel) (by rfl) (by decide +kernel) (by rfl) (by rfl)) rfl (br (qv 0)) (fun s0 H0 fp ps=>⟨(aw (i:=0) (show List.Nodup (["part"]:List Str) by decide +kernel) rfl (by first | exact Or.inl rfl | exact Or.inr rfl)),aZ,(aE aK bx rfl T.b_tuple FV (aa (qv 0) ae))⟩)) ae)))),?_⟩);intro vs H Q E h
 replace h:=bO h
 obtain⟨v,_,rfl,rfl,h⟩:=h;obtain⟨ps,sq,hl,h⟩:=h;rcases sq with rfl |⟨a,rfl,ha⟩
 ·ac_rfl;intro acc hacc;refine aQ (fun y=>y) (fun _=>true) (fun σ=>∃z,σ=[z]) (by rw[EM];omega) (fun _=>trivial) ?_ ?_ ⟨_,rfl⟩
  ·rintro y hy l σ R ⟨z,rfl⟩ hl' kT kF;obtain⟨p,hp,rfl⟩:=E3.mp hy;unfold prV at *;ac_rfl;exact⟨hl',by rw[aM];exact kT rfl _ ⟨_,rfl⟩⟩
  rw[Fm.mpr (fun _ _=>rfl),List.map_id']
  try ac_rfl
  exact⟨H,(Sub.refl H).put hacc,h⟩
 ·ac_rfl;refine⟨_,ha,fun acc hacc=>?_⟩;refine aQ (fun y=>y) (fun _=>true) (fun σ=>∃z,σ=[z]) (by rw[EM];omega) (fun l=>(aj (ao ha hacc)).trans ha) ?_ ?_ ⟨_,rfl⟩
  ·rintro y hy l σ R ⟨z,rfl⟩ hl' kT kF;obtain⟨p,hp,rfl⟩:=E3.mp hy;unfold prV at *;ac_rfl;exact⟨hl',by rw[aM];exact kT rfl _ ⟨_,rfl⟩⟩
  rw[Fm.mpr (fun _ _=>rfl),List.map_id']
  try ac_rfl
  exact⟨H,(Sub.refl H).put hacc,h⟩
theorem yy(T:Tx K mg t):aT P w K mg base CX0 1 t.a_zL t.d_zL ["numbers"] iT:=by
 refine okU (k:=0) T.F_zL oS (fun vs H Q E h=>bP h) (fun cdv A outer s H E B hr=>⟨_,(ag (ax (i:=1) oS.nd rfl (by first | exact Or.inl rfl | exact Or.inr rfl) af)
  (ag (cx Fx rfl (br (qv 0)) (aw (i:=2) oS.nd rfl (by first | exact Or.inl rfl | exact Or.inr rfl))
  (ar (ax (i:=1) oS.nd rfl (by first | exact Or.inl rfl | exact Or.inr rfl) (bQ (qv 1) (qv 2)))))
  (ar (aO (qv 1))))),?_⟩)
 intro vs H Q E h
 replace h:=bO h
 obtain⟨v,_,rfl,rfl,h⟩:=h;obtain⟨ns,sq,hl,hp,hn,h⟩:=h;rcases sq with rfl |⟨a,rfl,ha⟩
 ·refine au fun R hR=>?_;ac_rfl;subst hR;refine au fun R hR=>?_;ac_rfl;refine dZ (fun i σ H2=>∃z,σ=[some (.tup (ns.map PV.int)),some (.int (prod (ns.take i))),z]/\H2=H) ?_ ?_ ⟨none,rfl,rfl⟩
  ·rintro σ H2 ⟨z,rfl,rfl⟩;refine⟨trivial,?_⟩;rw[EM,F9];subst hR;ac_rfl;exact⟨H2,Sub.refl _,h⟩
  ·rintro D i y σ H2 hy ⟨z,rfl,rfl⟩ kk;refine⟨trivial,?_⟩;rw[E7]at hy;cases hg:ns[i]? with
   | none=>rw[hg]at hy;cases hy
   | some n =>
    rw[hg]at hy;cases hy;have e:prod (ns.take (i+1))=prod (ns.take i)*n:=by rw[FX,hg];exact cA
    try simp only[GB]
    ac_rfl;exact⟨.inr ⟨wC (hp i),wC (hn n (EZ hg))⟩,kk _ _ ⟨_,by rw[e],rfl⟩⟩
 ·refine au fun R hR=>?_;ac_rfl;subst hR;refine au fun R hR=>?_;ac_rfl;refine⟨_,ha,?_⟩;refine dZ (fun i σ H2=>∃z,σ=[some (.ref a),some (.int (prod (ns.take i))),z]/\H2=H) ?_ ?_ ⟨none,rfl,rfl⟩
  ·rintro σ H2 ⟨z,rfl,rfl⟩;refine⟨ha,?_⟩;rw[EM,F9];subst hR;ac_rfl;exact⟨H2,Sub.refl _,h⟩
  ·rintro D i y σ H2 hy ⟨z,rfl,rfl⟩ kk;refine⟨ha,?_⟩;rw[E7]at hy;cases hg:ns[i]? with
   | none=>rw[hg]at hy;cases hy
   | some n =>
    rw[hg]at hy;cases hy;have e:prod (ns.take (i+1))=prod (ns.take i)*n:=by rw[FX,hg];exact cA
    try simp only[GB]
    ac_rfl;exact⟨.inr ⟨wC (hp i),wC (hn n (EZ hg))⟩,kk _ _ ⟨_,by rw[e],rfl⟩⟩
theorem CW(T:Tx K mg t):aT P w K mg base CX0 1 t.a_zn t.d_zn ["drawing","name"] (jC t):=by
 refine okU (k:=0) T.F_zn AJ (fun vs H Q E h=>bP h) (fun cdv A outer s H E B hr=>⟨_,(ar (aO (iQ (N2:=["place","bow","name"]) (nt:=2) (js:=[1]) (cok (sc:=ai nK) (by exact rfl) (by repeat (first | exact trivial | refine⟨rfl,?_⟩)) rfl (by rfl) (by decide +kernel) (by decide +kernel) (by rfl) (by decide +kernel) (by rfl) (by rfl)) rfl (A9 rfl T.b_enumerate (aa (cR (qv 0) T.cl_D T.nfD_bows rfl) ae)) (fun s0 H0 fp ps=>⟨(eE (n:=2) rfl (aW (aw (i:=0) (show List.Nodup (["place","bow","name"]:List Str) by decide +kernel) rfl (by first | exact Or.inl rfl | exact Or.inr rfl)) (aW (aw (i:=1) (show List.Nodup (["place","bow","name"]:List Str) by decide +kernel) rfl (by first | exact Or.inl rfl | exact Or.inr rfl)) cV))),(h9 (aP (jV hr.units) oW (qv 2) (qv 1) (by with_unfolding_all rfl))),(qv 0)⟩)))),?_⟩);intro vs H Q E h
 replace h:=bO h
 obtain⟨x,_,rfl,n,_,rfl,rfl,h⟩:=h;obtain⟨dx,c,ts,bs,hx,h6,h⟩:=h;ac_rfl;refine⟨dx,_,_,hx,rfl,?_⟩
 try ac_rfl
 intro acc hacc;refine aQ fB (pB n) (fun σ=>∃z0 z1,σ=[z0,z1,some (.int n)]) (by unfold gy;rw[List.length_mapIdx,EM];omega) (fun _=>trivial) ?_ ?_ ⟨_,_,rfl⟩
 ·rintro y hy l σ R ⟨z0,z1,rfl⟩ hl kT kF;obtain⟨k,p,rfl⟩:=Ae hy;have e:pB n (.tup [.int (k:Nat),prV p])=iN n p:=rfl;rw[e]at kT kF;unfold prV at *;ac_rfl;rw[oj];exact aU (fun q=>⟨hl,by rw[aM];exact kT q _ ⟨_,_,rfl⟩⟩) (fun q=>kF q _ ⟨_,_,rfl⟩)
 rw[wD];exact⟨_,Sub.refl _,h acc hacc⟩
theorem DY(T:Tx K mg t):aT P w K mg base CX0 1 t.a_zE t.d_zE ["drawing","sizes"] (kI t):=by
 refine okU (k:=0) T.F_zE BE (fun vs H Q E h=>bP h) (fun cdv A outer s H E B hr=>⟨_,(ar (aO (cP (cy ng mL (aB aA bG rfl T.b_len Fl (aa (qv 1) ae)) (cR (qv 0) T.cl_D T.nfD_count rfl) (aH _)) (dU (aB (dC rfl) gi rfl T.b_all boot_all (aa (bt (N2:=["size"]) (nt:=1) (js:=[]) (cok (sc:=ai mZ) (by exact rfl) (by repeat (first | exact trivial | refine⟨rfl,?_⟩)) rfl (by rfl) (by decide +kernel) (by decide +kernel) (by rfl) (by decide +kernel) (by rfl) (by rfl)) rfl (br (qv 1)) (fun s0 H0 fp ps=>⟨(aw (i:=0) (show List.Nodup (["size"]:List Str) by decide +kernel) rfl (by first | exact Or.inl rfl | exact Or.inr rfl)),aZ,(kH jk jB jk jB (dA (v':=.int 2) rfl T.c_LEAST_SIZE (fun _=>by simp[RP])) (qv 0) (dA (v':=.int 4) rfl T.c_MOST_SIZE (fun _=>by simp[RP])))⟩)) ae)))))),?_⟩);intro vs H Q E h
 replace h:=bO h
 obtain⟨x,_,rfl,l,_,rfl,rfl,h⟩:=h;obtain⟨dx,c,ts,bs,ns,hx,rfl,h6,h⟩:=h;ac_rfl;refine⟨dx,_,_,hx,rfl,?_⟩
 try ac_rfl
 rw[EM];refine aU (fun q=>?_) (fun q=>⟨H,Sub.refl _,h false ⟨fun z=>(by cases z),fun z=>?_⟩⟩)
 ·intro acc hacc;refine aQ (fun y=>PV.bl (decide (2≤unI y)&&decide (unI y≤4))) (fun _=>true) (fun σ=>∃z,σ=[z]) (by rw[EM];omega) (fun _=>trivial) ?_ ?_ ⟨_,rfl⟩
  ·rintro y hy l σ R ⟨z,rfl⟩ hl kT kF;obtain⟨n,hm,rfl⟩:=E3.mp hy;ac_rfl;have e:unI (.int n)=n:=rfl;rw[e]at kT;refine aU (fun q=>?_) (fun q=>?_)
   ·rw[q,Bool.true_and]at kT;exact⟨hl,by rw[aM];exact kT rfl _ ⟨_,rfl⟩⟩
   ·rw[q,Bool.false_and]at kT;exact⟨hl,by rw[aM];exact kT rfl _ ⟨_,rfl⟩⟩
  have em:(((ns.map PV.int).filter fun _=>true).map fun y=>PV.bl (decide (2≤unI y)&&decide (unI y≤4)))=(ns.map fun n=>decide (2≤n)&&decide (n≤4)).map PV.bl:=by
   rw[Fm.mpr (fun _ _=>rfl),E8,E8];rfl
  rw[em]
  try ac_rfl
  refine⟨_,rfl,H,(Sub.refl H).put hacc,h _ ?_⟩;rw[hJ];have q:(ns.length:Int)=c:=by simpa using q
  refine⟨fun z=>⟨q,fun n hn=>by have:=z n hn;simpa using this⟩,fun z n hn=>by have:=z.2 n hn;simpa using this⟩
 ·rw[z.1]at q;simp at q
theorem DH(T:Tx K mg t):aT P w K mg base CX0 5 t.a_zv t.d_zv ["drawing","hidden"] (jy t):=by
 refine okU (k:=4) T.F_zv Cj (fun vs H Q E h=>bP h) (fun cdv A outer s H E B hr=>⟨_,(ag (bh (aP (jP hr.units) bD (aB aA bG rfl T.b_len Fl (aa (qv 1) ae)) (aB aA bG rfl T.b_len Fl (aa (cR (qv 0) T.cl_D T.nfD_bows rfl) ae)) (aH _))
  (ar (aO oh))
  aL)
  (ar (aO (aB (dC rfl) gi rfl T.b_all boot_all (aa (bt (N2:=["shares"]) (nt:=1) (js:=[]) (cok (sc:=ai nV) (by exact rfl) (by repeat (first | exact trivial | refine⟨rfl,?_⟩)) rfl (by rfl) (by decide +kernel) (by decide +kernel) (by rfl) (by decide +kernel) (by rfl) (by rfl)) rfl (br (qv 1)) (fun s0 H0 fp ps=>⟨(aw (i:=0) (show List.Nodup (["shares"]:List Str) by decide +kernel) rfl (by first | exact Or.inl rfl | exact Or.inr rfl)),aZ,(cP (kH jk jB jk jB af (aB aA bG rfl T.b_len Fl (aa (qv 0) ae)) (dA (v':=.int 4) rfl T.c_MOST_HIDDEN (fun _=>by simp[RP]))) (dU (ay (Bq T) (hr.mono (by decide)) rfl T.g_zt T.F_zt.kp T.B_zt (aa (qv 0) ae))))⟩)) ae))))),?_⟩)
 intro vs H Q E h
 replace h:=bO h
 obtain⟨x,_,rfl,l,_,rfl,rfl,h⟩:=h;obtain⟨dx,c,ts,bs,Hs,hx,rfl,h6,hn,h⟩:=h;refine au fun R hR=>?_;ac_rfl;refine⟨dx,_,_,hx,rfl,?_⟩
 try ac_rfl
 rw[EM,EM];refine aU (fun q=>⟨H,Sub.refl _,h false ⟨fun z=>(by cases z),fun z=>?_⟩⟩) (fun q=>?_)
 ·rw[z.1]at q;simp at q
 have q:Hs.length=bs.length:=by
  have:(Hs.length:Int)=bs.length:=by simpa using q
  omega
 subst hR;ac_rfl;intro acc hacc;refine aQ (fun y=>PV.bl (hB (unW y))) (fun _=>true) (fun σ=>∃z,σ=[z]) (by rw[EM];omega) (fun _=>trivial) ?_ ?_ ⟨_,rfl⟩
 ·rintro y hy l σ R ⟨z,rfl⟩ hl kT kF;obtain⟨ps,hm,rfl⟩:=E3.mp hy;rw[iF]at kT;have e:=@m8 ps;unfold rwV at *;ac_rfl;rw[EM];have no:¬(1≤ps.length/\ps.length≤4)->hB ps=false:=fun n=>Bool.eq_false_iff.mpr fun z=>n (e.mp z).1;refine aU (fun q1=>aU (fun q2=>⟨ps,rfl,hn ps hm,fun v hv=>⟨hl,?_⟩⟩) (fun q2=>?_)) (fun q1=>?_)
  ·have:v=hB ps:=by
    rw[Gv,hv,e];have q1:(1:Int)≤ps.length:=Gf q1;have q2:(ps.length:Int)≤4:=Gf q2;exact⟨fun z=>⟨⟨by omega,by omega⟩,z⟩,fun z=>z.2⟩
   rw[aM,this];exact kT rfl _ ⟨_,rfl⟩
  ·rw[no (fun z=>by have:=of_decide_eq_false q2;omega)]at kT;exact⟨hl,by rw[aM];exact kT rfl _ ⟨_,rfl⟩⟩
  ·rw[no (fun z=>by have:=of_decide_eq_false q1;omega)]at kT;exact⟨hl,by rw[aM];exact kT rfl _ ⟨_,rfl⟩⟩
 have em:(((Hs.map rwV).filter fun _=>true).map fun y=>PV.bl (hB (unW y)))=(Hs.map hB).map PV.bl:=by
  rw[Fm.mpr (fun _ _=>rfl),E8,E8];refine Fz fun ps _=>?_;show PV.bl (hB (unW (rwV ps)))=_;rw[iF];rfl
 rw[em]
 try ac_rfl
 refine⟨_,rfl,H,(Sub.refl H).put hacc,h _ ?_⟩;rw[hJ];exact⟨fun z=>⟨q,fun ps hp=>m8.mp (z ps hp)⟩,fun z ps hp=>m8.mpr (z.2 ps hp)⟩
theorem Di(T:Tx K mg t):aT P w K mg base CX0 2 t.a_zf t.d_zf ["drawing","hidden","name"] (r9 t):=by
 refine okU (k:=1) T.F_zf A6 (fun vs H Q E h=>bP h) (fun cdv A outer s H E B hr=>⟨_,(ar (aO (bt (N2:=["place","hidden"]) (nt:=1) (js:=[1]) (cok (sc:=ai nE) (by exact rfl) (by repeat (first | exact trivial | refine⟨rfl,?_⟩)) rfl (by rfl) (by decide +kernel) (by decide +kernel) (by rfl) (by decide +kernel) (by rfl) (by rfl)) rfl (br (ay (CW T) (hr.mono (by decide)) rfl T.g_zn T.F_zn.kp T.B_zn (aa (qv 0) (aa (qv 2) ae)))) (fun s0 H0 fp ps=>⟨(aw (i:=0) (show List.Nodup (["place","hidden"]:List Str) by decide +kernel) rfl (by first | exact Or.inl rfl | exact Or.inr rfl)),aZ,(aB aA bG rfl T.b_len Fl (aa (aC (qv 1) (qv 0) (fun _ _=>rfl)) ae))⟩)))),?_⟩);intro vs H Q E h
 replace h:=bO h
 obtain⟨x,_,rfl,l,_,rfl,n,_,rfl,rfl,h⟩:=h;obtain⟨dx,c,ts,bs,Hd,hx,rfl,hl,h6,h⟩:=h;ac_rfl;refine⟨dx,c,ts,bs,hx,h6,fun q hq=>?_⟩
 try ac_rfl
 intro acc hacc;have s1:=(Sub.refl H).put (o:=.lst ((bpl bs n).map fun k=>PV.int (k:Nat))) hq;have eq:put H q (.lst ((bpl bs n).map fun k=>PV.int (k:Nat))) q=some (.lst ((bpl bs n).map fun k=>PV.int (k:Nat))):=ah;generalize put H q (.lst ((bpl bs n).map fun k=>PV.int (k:Nat)))=H1 at *;have bl:=kd (bs:=bs) (n:=n);refine aQ (fH Hd) (fun _=>true) (fun σ=>∃z,σ=[z,some (.tup (Hd.map PV.tup))]) (by rw[EM];omega) (fun l=>(aj (ao eq hacc)).trans eq) ?_ ?_ ⟨_,rfl⟩
 ·rintro y hy l σ R ⟨z,rfl⟩ hl' kT kF;obtain⟨k,hk,rfl⟩:=E3.mp hy;have e:=Am (Hd:=Hd) (k:=k) (by rw[hl];exact mI hk);ac_rfl;rw[e]
  try ac_rfl
  exact⟨hl',by rw[aM];exact kT rfl _ ⟨_,rfl⟩⟩
 have em:((((bpl bs n).map fun k=>PV.int (k:Nat)).filter fun _=>true).map (fH Hd))=(hsz Hd bs n).map PV.int:=by
  rw[Fm.mpr (fun _ _=>rfl),E8];unfold hsz;rw[E8];rfl
 rw[em];exact⟨_,Sub.refl _,h acc _ (s1.put (s1.free hacc)) (s1.free hacc) ah⟩
theorem Dg(T:Tx K mg t):aT P w K mg base CX0 3 t.a_zq t.d_zq ["drawing","sizes","hidden","name"] (lX t):=by
 refine okU (k:=2) T.F_zq Bx (fun vs H Q E h=>bP h) (fun cdv A outer s H E B hr=>⟨_,(ar (aO (cS (bt (N2:=["source","sizes"]) (nt:=1) (js:=[1]) (cok (sc:=ai mG) (by exact rfl) (by repeat (first | exact trivial | refine⟨rfl,?_⟩)) rfl (by rfl) (by decide +kernel) (by decide +kernel) (by rfl) (by decide +kernel) (by rfl) (by rfl)) rfl (br (oY (qv 0) T.cl_D T.m_zc (El T) (hr.mono (by decide)) T.B_zc (aa (qv 3) ae))) (fun s0 H0 fp ps=>⟨(aw (i:=0) (show List.Nodup (["source","sizes"]:List Str) by decide +kernel) rfl (by first | exact Or.inl rfl | exact Or.inr rfl)),aZ,(aC (qv 1) (qv 0) (fun _ _=>rfl))⟩)) (ay (Di T) (hr.mono (by decide)) rfl T.g_zf T.F_zf.kp T.B_zf (aa (qv 0) (aa (qv 2) (aa (qv 3) ae))))))),?_⟩);intro vs H Q E h
 replace h:=bO h
 obtain⟨x,_,rfl,k,_,rfl,l,_,rfl,n,_,rfl,rfl,h⟩:=h;obtain⟨dx,c,ts,bs,ns,Hd,hx,rfl,hc,gt,c6,rfl,hl,h6,n0,h⟩:=h;have t15:=gt.len c6;ac_rfl;refine⟨⟨dx,_,hx,rfl⟩,dx,c,ts,bs,hx,n0,t15,fun acc hacc=>?_⟩;have lf:(ts.filter fun p=>decide (p.2=n)).length≤ts.length:=List.length_filter_le _ _;refine aQ (fN ns) (fun _=>true) (fun σ=>∃z,σ=[z,some (.tup (ns.map PV.int))]) (by rw[EM,EM];omega) (fun _=>trivial) ?_ ?_ ⟨_,rfl⟩
 ·rintro y hy l σ R ⟨z,rfl⟩ hl' kT kF;obtain⟨u,hu,rfl⟩:=E3.mp hy;obtain⟨p,hp,rfl⟩:=E3.mp hu;have b:=gt.lo p (F0.mp hp).1;have e:atI (ns.map PV.int) p.1=some (.int (ns.getD p.1.toNat 0)):=dn (by omega) (by omega);ac_rfl;rw[e]
  try ac_rfl
  exact⟨hl',by rw[aM];exact kT rfl _ ⟨_,rfl⟩⟩
 have em:(((((ts.filter fun p=>decide (p.2=n)).map (·.1)).map PV.int).filter fun _=>true).map (fN ns))=(ssz ns ts n).map PV.int:=by
  rw[Fm.mpr (fun _ _=>rfl),E8];unfold ssz;rw[E8,E8,E8];rfl
 rw[em];have s1:=(Sub.refl H).put (o:=.lst ((ssz ns ts n).map PV.int)) hacc;have ea:put H acc (.lst ((ssz ns ts n).map PV.int)) acc=some (.lst ((ssz ns ts n).map PV.int)):=ah;generalize put H acc (.lst ((ssz ns ts n).map PV.int))=H1 at *
 try ac_rfl
 refine⟨dx,c,ts,bs,Hd,s1 _ _ hx,rfl,hl,h6,fun p H2 s2 hp e2=>?_⟩
 try ac_rfl
 have bl:=kd (bs:=bs) (n:=n);have s3:=s1.trans s2;refine⟨_,_,s2 _ _ ea,e2,wu ?_,fun q hq=>⟨_,Sub.refl _,h q _ (s3.put (s3.free hq)) (s3.free hq) (by rw[Fi];exact ah)⟩⟩;rw[EM,EM];unfold ssz hsz;rw[EM,EM,EM];omega
theorem CU(T:Tx K mg t):aT P w K mg base CX0 5 t.a_zI t.d_zI ["table","rows","size"] kM:=by
 refine okU (k:=4) T.F_zI Bh (fun vs H Q E h=>bP h) (fun cdv A outer s H E B hr=>⟨_,(ar (aO (cP (cy ng mL (aB aA bG rfl T.b_len Fl (aa (qv 0) ae)) (qv 1) (aH _)) (dU (aB (dC rfl) gi rfl T.b_all boot_all (aa (bt (N2:=["row","size"]) (nt:=1) (js:=[2]) (cok (sc:=ai nS) (by exact rfl) (by repeat (first | exact trivial | refine⟨rfl,?_⟩)) rfl (by rfl) (by decide +kernel) (by decide +kernel) (by rfl) (by decide +kernel) (by rfl) (by rfl)) rfl (br (qv 0)) (fun s0 H0 fp ps=>⟨(aw (i:=0) (show List.Nodup (["row","size"]:List Str) by decide +kernel) rfl (by first | exact Or.inl rfl | exact Or.inr rfl)),aZ,(cP (cy ng mL (aB aA bG rfl T.b_len Fl (aa (qv 0) ae)) (qv 1) (aH _)) (dU (ay (Bq T) (hr.mono (by decide)) rfl T.g_zt T.F_zt.kp T.B_zt (aa (qv 0) ae))))⟩)) ae)))))),?_⟩);intro vs H Q E h
 replace h:=bO h
 obtain⟨l,_,rfl,r,_,rfl,z,_,rfl,rfl,h⟩:=h;obtain⟨Rs,rfl,hl0,hn,h⟩:=h;ac_rfl;rw[EM];refine aU (fun q=>?_) (fun q=>⟨H,Sub.refl _,h false ⟨fun z=>(by cases z),fun z=>?_⟩⟩)
 ·intro acc hacc;refine aQ (fun y=>PV.bl (zB z (unW y))) (fun _=>true) (fun σ=>∃y,σ=[y,some (.int z)]) (by rw[EM];omega) (fun _=>trivial) ?_ ?_ ⟨_,rfl⟩
  ·rintro y hy l σ R ⟨z',rfl⟩ hl' kT kF;obtain⟨ps,hm,rfl⟩:=E3.mp hy;rw[iF]at kT;have e:=@mV z ps;unfold rwV at *;ac_rfl;rw[EM];refine aU (fun q1=>⟨ps,rfl,hn ps hm,fun v hv=>⟨hl',?_⟩⟩) (fun q1=>?_)
   ·have:v=zB z ps:=by
     rw[Gv,hv,e];have q1:(ps.length:Int)=z:=by simpa using q1
     exact⟨fun o=>⟨q1,o⟩,fun o=>o.2⟩
    rw[aM,this];exact kT rfl _ ⟨_,rfl⟩
   ·have:zB z ps=false:=Bool.eq_false_iff.mpr fun o=>by
     rw[(e.mp o).1]at q1;simp at q1
    rw[this]at kT;exact⟨hl',by rw[aM];exact kT rfl _ ⟨_,rfl⟩⟩
  have em:(((Rs.map rwV).filter fun _=>true).map fun y=>PV.bl (zB z (unW y)))=(Rs.map (zB z)).map PV.bl:=by
   rw[Fm.mpr (fun _ _=>rfl),E8,E8];refine Fz fun ps _=>?_;show PV.bl (zB z (unW (rwV ps)))=_;rw[iF];rfl
  rw[em]
  try ac_rfl
  refine⟨_,rfl,H,(Sub.refl H).put hacc,h _ ?_⟩;rw[hJ];have q:(Rs.length:Int)=r:=by simpa using q
  exact⟨fun o=>⟨q,fun ps hp=>mV.mp (o ps hp)⟩,fun o ps hp=>mV.mpr (o.2 ps hp)⟩
 ·rw[z.1]at q;simp at q
theorem Eh(T:Tx K mg t):aT P w K mg base CX0 6 t.a_zo t.d_zo ["drawing","sizes","hidden","tables"] (jt t):=by
 refine okU (k:=5) T.F_zo xW (fun vs H Q E h=>bP h) (fun cdv A outer s H E B hr=>⟨_,(ag (bh (aP zA yN (aB aA bG rfl T.b_len Fl (aa (qv 3) ae)) (cR (qv 0) T.cl_D T.nfD_count rfl) (aH _))
  (ar (aO oh))
  aL)
  (ag (fJ (i:=4) xW.nd rfl (by first | exact Or.inl rfl | exact Or.inr rfl) (N2:=["name","drawing","sizes","hidden"]) (nt:=1) (js:=[0,1,2]) (cok (sc:=ai kU) (by exact rfl) (by repeat (first | exact trivial | refine⟨rfl,?_⟩)) rfl (by rfl) (by decide +kernel) (by decide +kernel) (by rfl) (by decide +kernel) (by rfl) (by rfl)) rfl (bE rfl T.b_range (aa (cR (qv 0) T.cl_D T.nfD_count rfl) ae)) (fun s0 H0 fp ps=>⟨(aw (i:=0) (show List.Nodup (["name","drawing","sizes","hidden"]:List Str) by decide +kernel) rfl (by first | exact Or.inl rfl | exact Or.inr rfl)),aZ,(ay (yy T) (hr.mono (by decide)) rfl T.g_zL T.F_zL.kp T.B_zL (aa (ay (Dg T) (hr.mono (by decide)) rfl T.g_zq T.F_zq.kp T.B_zq (aa (qv 1) (aa (qv 2) (aa (qv 3) (aa (qv 0) ae))))) ae))⟩))
  (ar (aO (aB (dC rfl) gi rfl T.b_all boot_all (aa (iQ (N2:=["table","count","size"]) (nt:=3) (js:=[]) (cok (sc:=ai kU) (by exact rfl) (by repeat (first | exact trivial | refine⟨rfl,?_⟩)) rfl (by rfl) (by decide +kernel) (by decide +kernel) (by rfl) (by decide +kernel) (by rfl) (by rfl)) rfl (BM rfl T.b_zip (aa (qv 3) (aa (qv 4) (aa (qv 1) ae)))) (fun s0 H0 fp ps=>⟨(eE (n:=3) rfl (aW (aw (i:=0) (show List.Nodup (["table","count","size"]:List Str) by decide +kernel) rfl (by first | exact Or.inl rfl | exact Or.inr rfl)) (aW (aw (i:=1) (show List.Nodup (["table","count","size"]:List Str) by decide +kernel) rfl (by first | exact Or.inl rfl | exact Or.inr rfl)) (aW (aw (i:=2) (show List.Nodup (["table","count","size"]:List Str) by decide +kernel) rfl (by first | exact Or.inl rfl | exact Or.inr rfl)) cV)))),aZ,(ay (CU T) (hr.mono (by decide)) rfl T.g_zI T.F_zI.kp T.B_zI (aa (qv 0) (aa (qv 1) (aa (qv 2) ae))))⟩)) ae)))))),?_⟩)
 intro vs H Q E h
 replace h:=bO h
 obtain⟨x,_,rfl,k,_,rfl,l,_,rfl,m,_,rfl,rfl,h⟩:=h;obtain⟨dx,c,ts,bs,ns,Hs,Ts,hx,rfl,rfl,rfl,hs,⟨ln,n4⟩,hd,most,hT,h⟩:=h;have t15:=hs.gt.len hs.hc.2;have c6:=hs.hc;have b6:=hs.l6;refine au fun R hR=>?_;ac_rfl;refine⟨dx,_,_,hx,rfl,aU (fun q=>⟨H,Sub.refl _,h false ⟨fun z=>(by cases z),fun z=>?_⟩⟩) (fun q=>?_)⟩
 ·rw[EM]at q;have:=z.1;rw[this,ln]at q;simp at q
 rw[EM]at q;have lt:Ts.length=ns.length:=by
  have:(Ts.length:Int)=c:=by simpa using q
  omega
 subst hR;refine au fun R hR=>?_;ac_rfl;have el:Hs.map rwV=(Hs.map fun ps=>ps.map prV).map PV.tup:=by rw[E8];rfl
 have ml:Hs.map List.length=(Hs.map fun ps=>ps.map prV).map List.length:=by
  rw[E8];exact Fz fun ps _=>by show _=(ps.map prV).length;rw[EM]
 have dz:∀n,hdz ns (Hs.map fun ps=>ps.map prV) ts bs n=hdz ns Hs ts bs n:=fun n=>(ir ml).symm;have dz2:∀n,hdz ns Hs ts bs n=hdz ns (Hs.map sur) ts bs n:=fun n=>ir n8;have sr:∀ws∈Hs.map sur,Shr ws/\1≤ws.length/\ws.length≤4:=fun ws hw=>by
  obtain⟨ps,hp,rfl⟩:=E3.mp hw;exact zO (hd.2 ps hp).1
 have ls:(Hs.map sur).length=bs.length:=by rw[EM];exact hd.1
 have cs:(Hs.map fun ps=>(ps.length:Int))=(Hs.map sur).map fun ws=>(ws.length:Int):=by rw[lW,lW,← n8]
 refine⟨dx,_,_,hx,rfl,⟨by omega,by omega⟩,fun acc hacc=>?_⟩;refine eI (fun i σ H2=>∃z,σ=[z,some (.ref x),some (.tup (ns.map PV.int)),some (.tup (Hs.map rwV))]/\U.Sub H H2/\H2 acc=some (.lst ((List.range i).map fun k=>PV.int (prod (hdz ns Hs ts bs (k:Nat)))))) ?_ ?_ ⟨_,rfl,(Sub.refl H).put hacc,ah⟩
 ·rintro i y σ H2 R1 hy ⟨z,rfl,s2,ha2⟩ kk;refine⟨trivial,?_⟩;rw[gP]at hy;have hi:i<c.toNat:=by
   have:=(EV.mp hy).1
   rwa [EM,Fv]at this
  obtain rfl:y=.int (i:Nat):=by
   rw[E7,List.getElem?_range hi]at hy;exact(Fn hy).symm
  ac_rfl;refine⟨dx,c,ts,bs,ns,_,s2 _ _ hx,rfl,ln,hs.gt,c6.2,el,by rw[EM];exact hd.1,b6,⟨by omega,by omega⟩,fun p H3 s3 hp e3=>?_⟩
  try ac_rfl
  have ep:H3 p=some (.lst ((hdz ns Hs ts bs (i:Nat)).map PV.int)):=by rw[←dz];exact e3
  have hl:(hdz ns Hs ts bs (i:Nat)).length≤ts.length+bs.length:=by rw[dz2];exact ve
  have pos:=hW (c:=c) (ts:=ts) (bs:=bs) ln n4 ls sr hs.gt ((i:Nat):Int);have le:=jR (n:=((i:Nat):Int)) hs ⟨by omega,by omega⟩ ln n4 ls sr;rw[←dz2]at pos le;rw[←cs]at le;have pt:=fun k=>dE (l:=hdz ns Hs ts bs (i:Nat)) (fun n hn=>(pos n hn).1) k;refine⟨_,.inr ⟨p,rfl,ep⟩,by omega,fun k=>by have:=pt k;omega,fun n hn=>by have:=pos n hn;omega,_,s3 _ _ ha2,bz (by rw[EM,Fv];omega),kk _ _ ⟨_,rfl,(s2.trans s3).put hacc,?_⟩⟩;rw[ah,List.range_succ,Fi];rfl
 ·rintro σ H2 ⟨z,rfl,s2,ha2⟩;refine⟨trivial,?_⟩;rw[gP,EM,Fv]at ha2;subst hR;ac_rfl;refine⟨_,ha2,by rw[EM,EM,Fv];omega,by rw[EM,EM];omega,fun acc3 hacc3=>?_⟩;have ez:∀k,k<Ts.length->(fun i=>PV.tup [(Ts.map tbV).getD i .non,((List.range c.toNat).map fun k=>PV.int (prod (hdz ns Hs ts bs (k:Nat)))).getD i .non,(ns.map PV.int).getD i .non]) k=.tup [tbV (Ts.getD k []),.int (prod (hdz ns Hs ts bs (k:Nat))),.int (ns.getD k 0)]:=fun k hk=>by
   have e1:(Ts.map tbV).getD k .non=tbV (Ts.getD k []):=by rw[ER,ER,E7,EO hk];rfl
   have e2:((List.range c.toNat).map fun k=>PV.int (prod (hdz ns Hs ts bs (k:Nat)))).getD k .non=.int (prod (hdz ns Hs ts bs (k:Nat))):=by rw[ER,E7,List.getElem?_range (by omega)];rfl
   have e3:(ns.map PV.int).getD k .non=.int (ns.getD k 0):=by
    have:k<ns.length:=by omega
    rw[ER,ER,E7,EO this];rfl
   show PV.tup [_,_,_]=_;rw[e1,e2,e3]
  refine aQ fTb (fun _=>true) (fun σ=>∃y1 y2 y3,σ=[y1,y2,y3]) (by unfold iX;rw[EM,EM,Fv];omega) (fun l=>(aj (ao ha2 hacc3)).trans ha2) ?_ ?_ ⟨_,_,_,rfl⟩
  ·rintro y hy l σ R' ⟨y1,y2,y3,rfl⟩ hl' kT kF;obtain⟨k,hk,rfl⟩:=E3.mp hy;have hk:=Ft.mp hk;rw[EM]at hk;have hg:Ts.getD k []∈Ts:=by rw[ER,EO hk];exact FK hk
   have e:=ez k hk;dsimp only at e;rw[e]at kT ⊢;have ef:fTb (.tup [tbV (Ts.getD k []),.int (prod (hdz ns Hs ts bs (k:Nat))),.int (ns.getD k 0)])=.bl (tB (prod (hdz ns Hs ts bs (k:Nat))) (ns.getD k 0) (Ts.getD k [])):=by
    show PV.bl (tB _ _ (unT (tbV _)))=_;rw[tJ]
   rw[ef]at kT;unfold tbV at *;ac_rfl;refine⟨_,rfl,(hT _ hg).1,(hT _ hg).2,fun v hv=>⟨hl',?_⟩⟩;have:v=tB (prod (hdz ns Hs ts bs (k:Nat))) (ns.getD k 0) (Ts.getD k []):=by rw[Gv,hv,nJ]
   rw[aM,this];exact kT rfl _ ⟨_,_,_,rfl⟩
  have em:(((iX (Ts.map tbV) ((List.range c.toNat).map fun k=>PV.int (prod (hdz ns Hs ts bs (k:Nat)))) (ns.map PV.int)).filter fun _=>true).map fTb)=((List.range Ts.length).map fun k=>tB (prod (hdz ns Hs ts bs (k:Nat))) (ns.getD k 0) (Ts.getD k [])).map PV.bl:=by
   rw[Fm.mpr (fun _ _=>rfl)];unfold iX;rw[E8,E8,EM];refine Fz fun k hk=>?_;have e:=ez k (Ft.mp hk);show fTb _=PV.bl _;rw[e];show PV.bl (tB _ _ (unT (tbV _)))=_;rw[tJ]
  rw[em]
  try ac_rfl
  refine⟨_,rfl,H,s2.put (s2.free hacc3),h _ ?_⟩;rw[hJ];refine⟨fun z=>⟨lt,fun k Rs hk=>?_⟩,fun z k hk=>?_⟩
  ·have hk2:=(EV.mp hk).1;have:=nJ.mp (z k (Ft.mpr hk2))
   rwa [ER (l:=Ts),hk]at this
  ·have hk:=Ft.mp hk;rw[nJ,ER (l:=Ts),EO hk];exact z.2 k _ (EO hk)
theorem Bk(T:Tx K mg t):aT P w K mg base (CXU P w) 7 t.a_zs t.d_zs ["self","drawing","sizes","hidden","tables"] (la t):=by
 refine okX (k:=6) T.F_zs kK (fun vs H Q E h=>bP h) (fun cdv A outer s H0 E0 vs H Q E hr hE h=>⟨_,(ag (ax (i:=5) kK.nd rfl (by first | exact Or.inl rfl | exact Or.inr rfl) (gc T.mk_D (wm T) (hr.mono (by decide)) rfl T.g_D T.B_zg (aa (cR (qv 1) T.cl_D T.nfD_count rfl) (aa (cR (qv 1) T.cl_D T.nfD_ties rfl) (aa (cR (qv 1) T.cl_D T.nfD_bows rfl) ae)))))
  (ag (ax (i:=6) kK.nd rfl (by first | exact Or.inl rfl | exact Or.inr rfl) (aE aK bx rfl T.b_tuple FV (aa (qv 2) ae)))
  (ag (bh (gw (eY (ay (DY T) (hr.mono (by decide)) rfl T.g_zE T.F_zE.kp T.B_zE (aa (qv 5) (aa (qv 6) ae)))))
  (ar (fF rfl fu hE rfl T.x_V rfl T.g_V))
  aL)
  (ag (ax (i:=7) kK.nd rfl (by first | exact Or.inl rfl | exact Or.inr rfl) (aE aK bx rfl T.b_tuple FV (aa (bt (N2:=["shares"]) (nt:=1) (js:=[]) (cok (sc:=ai jQ) (by exact rfl) (by repeat (first | exact trivial | refine⟨rfl,?_⟩)) rfl (by rfl) (by decide +kernel) (by decide +kernel) (by rfl) (by decide +kernel) (by rfl) (by rfl)) rfl (br (qv 3)) (fun s0 H0 fp ps=>⟨(aw (i:=0) (show List.Nodup (["shares"]:List Str) by decide +kernel) rfl (by first | exact Or.inl rfl | exact Or.inr rfl)),aZ,(ay (AK T) (hr.mono (by decide)) rfl T.g_zN T.F_zN.kp T.B_zN (aa (qv 0) ae))⟩)) ae)))
  (ag (bh (gw (eY (ay (DH T) (hr.mono (by decide)) rfl T.g_zv T.F_zv.kp T.B_zv (aa (qv 5) (aa (qv 7) ae)))))
  (ar (fF rfl fu hE rfl T.x_V rfl T.g_V))
  aL)
  (ag (bh (aP lS lj (bQ (ay (yy T) (hr.mono (by decide)) rfl T.g_zL T.F_zL.kp T.B_zL (aa (qv 6) ae)) (ay (yy T) (hr.mono (by decide)) rfl T.g_zL T.F_zL.kp T.B_zL (aa (bt (N2:=["shares"]) (nt:=1) (js:=[]) (cok (sc:=ai jQ) (by exact rfl) (by repeat (first | exact trivial | refine⟨rfl,?_⟩)) rfl (by rfl) (by decide +kernel) (by decide +kernel) (by rfl) (by decide +kernel) (by rfl) (by rfl)) rfl (br (qv 7)) (fun s0 H0 fp ps=>⟨(aw (i:=0) (show List.Nodup (["shares"]:List Str) by decide +kernel) rfl (by first | exact Or.inl rfl | exact Or.inr rfl)),aZ,(aB aA bG rfl T.b_len Fl (aa (qv 0) ae))⟩)) ae))) (dA (v':=.int 200000) rfl T.c_MOST_WEIGHTS (fun _=>by simp[RP])) (aH _))
  (ar (fF rfl fu hE rfl T.x_V rfl T.g_V))
  aL)
  (ag (ax (i:=8) kK.nd rfl (by first | exact Or.inl rfl | exact Or.inr rfl) (aE aK bx rfl T.b_tuple FV (aa (bt (N2:=["table"]) (nt:=1) (js:=[]) (cok (sc:=ai jQ) (by exact rfl) (by repeat (first | exact trivial | refine⟨rfl,?_⟩)) rfl (by rfl) (by decide +kernel) (by decide +kernel) (by rfl) (by decide +kernel) (by rfl) (by rfl)) rfl (br (qv 4)) (fun s0 H0 fp ps=>⟨(aw (i:=0) (show List.Nodup (["table"]:List Str) by decide +kernel) rfl (by first | exact Or.inl rfl | exact Or.inr rfl)),aZ,(aE aK bx rfl T.b_tuple FV (aa (bt (N2:=["row"]) (nt:=1) (js:=[]) (cok (by exact rfl) (by repeat (first | exact trivial | refine⟨rfl,?_⟩)) rfl (by rfl) (by decide +kernel) (by decide +kernel) (by rfl) (fun x hx=>absurd hx (by simp)) (by rfl) (by rfl)) rfl (br (qv 0)) (fun s0 H0 fp ps=>⟨(aw (i:=0) (show List.Nodup (["row"]:List Str) by decide +kernel) rfl (by first | exact Or.inl rfl | exact Or.inr rfl)),aZ,(ay (AK T) (hr.mono (by decide)) rfl T.g_zN T.F_zN.kp T.B_zN (aa (qv 0) ae))⟩)) ae))⟩)) ae)))
  (ag (bh (gw (eY (ay (Eh T) (hr.mono (by decide)) rfl T.g_zo T.F_zo.kp T.B_zo (aa (qv 5) (aa (qv 6) (aa (qv 7) (aa (qv 8) ae)))))))
  (ar (fF rfl fu hE rfl T.x_V rfl T.g_V))
  aL)
  (ag (eC (qv 0) (qv 5) T.cl_W T.nf_World_drawing rfl)
  (ag (eC (qv 0) (qv 6) T.cl_W T.nf_World_sizes rfl)
  (ag (eC (qv 0) (qv 7) T.cl_W T.nf_World_hidden rfl)
  (ag (eC (qv 0) (qv 8) T.cl_W T.nf_World_tables rfl)
  (ar (eC (qv 0) uW T.cl_W T.nf_World_weighed rfl)))))))))))))),?_⟩)
 replace h:=bO h
 obtain⟨x,_,rfl,d0,_,rfl,a,_,rfl,b,_,rfl,d,_,rfl,rfl,h⟩:=h;obtain⟨dx,d1,c,ts,bs,ns,Hs,Ts,ys,zs,hx,h0,ha,hb,hd,ry,rz,hs,⟨l1,l2,l3⟩,hH,hT,h,bad⟩:=h;have t15:=hs.gt.len hs.hc.2;have c6:=hs.hc;have b6:=hs.l6;have ly:=bF ry;have lz:=bF rz;refine au fun R hR=>?_;ac_rfl;refine⟨d1,_,_,h0,rfl,d1,_,_,h0,rfl,d1,_,_,h0,rfl,fun y dy hy hdy ne=>⟨dy,_,_,ts,bs,ah,.inl rfl,.inl rfl,cO,cO,hs.gt,hs.gb,⟨c6.1,c6.2,b6⟩,fun ts' bs' pt st pb sb=>?_⟩⟩;obtain rfl:ts'=ts:=DM.eM pt st (Gn _) hs.st;obtain rfl:bs'=bs:=DM.eM pb sb (Gn _) hs.sb
 try ac_rfl
 rw[aM];have s1:=(Sub.refl H).put (o:=.ins t.a_D dy (DF c ts' bs')) hy;have hy1:put H y (.ins t.a_D dy (DF c ts' bs')) y=some (.ins t.a_D dy (DF c ts' bs')):=ah;generalize put H y (.ins t.a_D dy (DF c ts' bs'))=H1 at *;subst hR;refine au fun R hR=>?_;ac_rfl;refine⟨_,s1 _ _ ha,?_⟩;subst hR;refine au fun R hR=>?_;ac_rfl;refine⟨dy,c,ts',bs',ns,hy1,rfl,l1,fun v hv=>?_⟩
 try ac_rfl
 refine aU (fun q=>bad (fun fi=>by rw[hv.mpr fi.1]at q;cases q) _ s1) (fun q=>?_);obtain⟨ln,n4⟩:=hv.mp (by simpa using q);clear q hv v;subst hR;refine au fun R hR=>?_;ac_rfl;have ry1:=cN.up s1 ry;have hb1:=s1 _ _ hb;refine⟨_,hb1,fun p1 hp1=>?_⟩;refine aQ (jc H1) (fun _=>true) (fun σ=>∃z,σ=[z]) (by rw[bF ry1];omega) (fun l=>(aj (ao hb1 hp1)).trans hb1) ?_ ?_ ⟨_,rfl⟩
 ·rintro y' hy' l σ' R' ⟨z',rfl⟩ hl' kT kF;obtain⟨ps,hws,row⟩:=dq ry1 hy';have sw:=(hH ps hws).1;rw[cN.tp row]at kT;unfold rwV at kT;ac_rfl;exact⟨ps,Seq.up row ((Sub.refl _).put hp1),sw,hl',by rw[aM];exact kT rfl _ ⟨_,rfl⟩⟩
 rw[t6 ry1];have s2:=s1.put (o:=.lst (Hs.map rwV)) (s1.free hp1);have hy2:=(aj (o:=.lst (Hs.map rwV)) (ao hy1 hp1)).trans hy1;have hp12:put H1 p1 (.lst (Hs.map rwV)) p1=some (.lst (Hs.map rwV)):=ah;generalize put H1 p1 (.lst (Hs.map rwV))=H2 at *
 try ac_rfl
 refine⟨_,hp12,?_⟩;subst hR;refine au fun R hR=>?_;ac_rfl;refine⟨dy,c,ts',bs',Hs,hy2,rfl,l2,hH,fun v hv=>?_⟩
 try ac_rfl
 refine aU (fun q=>bad (fun fi=>by rw[hv.mpr fi.2.1]at q;cases q) _ s2) (fun q=>?_);have hdo:=hv.mp (by simpa using q);clear q hv v;subst hR;refine au fun R hR=>?_;ac_rfl;have lh:=hdo.1;have n1:∀n∈ns,1≤n:=fun n hn=>by have:=n4 n hn;omega
 have m1:∀n∈Hs.map fun ps=>((ps.length:Nat):Int),1≤n/\n≤4:=fun n hn=>by
  obtain⟨ps,hps,rfl⟩:=E3.mp hn;have:=(hdo.2 ps hps).1;omega
 have pn:=bS n1;have pm:=bS fun n hn=>(m1 n hn).1;have qn:=jg (l:=ns) (fun n hn=>by have:=n4 n hn;omega) (by omega);have qm:=jg m1 (by rw[EM];omega);refine⟨ns,.inl rfl,by omega,fun k=>by have:=dE n1 k;omega,fun n hn=>by have:=n4 n hn;omega,fun p2 hp2=>?_⟩;refine aQ fL (fun _=>true) (fun σ=>∃z,σ=[z]) (by rw[EM];omega) (fun _=>trivial) ?_ ?_ ⟨_,rfl⟩
 ·rintro y' hy' l σ' R' ⟨z',rfl⟩ hl' kT kF;obtain⟨ps,hws,rfl⟩:=E3.mp hy';unfold rwV at *;ac_rfl;exact⟨hl',by rw[aM];exact kT rfl _ ⟨_,rfl⟩⟩
 rw[zF];have s3:=s2.put (o:=.lst ((Hs.map fun ps=>((ps.length:Nat):Int)).map PV.int)) (s2.free hp2);have hy3:=(aj (o:=.lst ((Hs.map fun ps=>((ps.length:Nat):Int)).map PV.int)) (ao hy2 hp2)).trans hy2;have hp3:put H2 p2 (.lst ((Hs.map fun ps=>((ps.length:Nat):Int)).map PV.int)) p2=some (.lst ((Hs.map fun ps=>((ps.length:Nat):Int)).map PV.int)):=ah;generalize put H2 p2 (.lst ((Hs.map fun ps=>((ps.length:Nat):Int)).map PV.int))=H3 at *
 try ac_rfl
 refine⟨_,.inr ⟨p2,rfl,hp3⟩,by rw[EM];omega,fun k=>by have:=dE (fun n hn=>(m1 n hn).1) k;omega,fun n hn=>by have:=m1 n hn;omega,?_⟩
 try ac_rfl
 refine⟨.inr ⟨dW (by omega) (by omega),dW (by omega) (by omega)⟩,aU (fun q=>bad (fun fi=>by have:=Gf q;have:=fi.2.2.1;omega) _ s3) (fun q=>?_)⟩;have most:prod ns*prod (Hs.map fun ps=>((ps.length:Nat):Int))≤200000:=by have:=of_decide_eq_false q;omega
 subst hR;refine au fun R hR=>?_;ac_rfl;refine⟨_,s3 _ _ hd,fun p4 hp4=>?_⟩;refine eI (fun i σ H4=>∃z,σ=[z]/\U.Sub H3 H4/\H4 p4=some (.lst ((Ts.take i).map tbV))) ?_ ?_ ⟨_,rfl,(Sub.refl H3).put hp4,ah⟩
 ·rintro i y' σ H4 R1 hy' ⟨z,rfl,s4,ha4⟩ kk;have s34:=s3.trans s4;refine⟨s34 _ _ hd,?_⟩;have hi:=(EV.mp hy').1;have tr:=dX rz hi (by omega);rw[(EV.mp hy').2]at tr;have hg:Ts[i]?=some (Ts[i]'(by omega)):=EO (by omega);generalize Ts[i]'(by omega)=Rs at *;have tb:=hT Rs (EZ hg);obtain⟨ys',sq,pr⟩:=tr;have pr4:=cN.up s34 pr;have ll:=bF pr4;ac_rfl;refine m5 (sq.up s34) fun ok hok p5 hp5=>?_;refine aQ (jc H4) (fun _=>true) (fun σ=>∃z,σ=[z]) (by rw[bF pr4];omega) (fun l=>hok _ ((Sub.refl _).put hp5)) ?_ ?_ ⟨_,rfl⟩
  ·rintro y' hy' l σ' R' ⟨z',rfl⟩ hl' kT kF;obtain⟨ps,hws,row⟩:=dq pr4 hy';have sw:=(tb.2 ps hws).1;rw[cN.tp row]at kT;unfold rwV at kT;ac_rfl;exact⟨ps,Seq.up row ((Sub.refl _).put hp5),sw,hl',by rw[aM];exact kT rfl _ ⟨_,rfl⟩⟩
  rw[t6 pr4]
  try ac_rfl
  refine⟨_,(aj (ao ha4 hp5)).trans ha4,bz (by rw[EM,FT];omega),kk _ _ ⟨_,rfl,(s4.put (s4.free hp5)).put hp4,?_⟩⟩;rw[ah,FX,hg,Fi];rfl
 ·rintro σ H4 ⟨z,rfl,s4,ha4⟩;have s34:=s3.trans s4;refine⟨s34 _ _ hd,?_⟩;rw[lz,F9]at ha4;have hy4:=s4 _ _ hy3;have hx4:=s34 _ _ hx
  try ac_rfl
  refine⟨_,ha4,?_⟩;subst hR;refine au fun R hR=>?_;ac_rfl;refine⟨dy,c,ts',bs',ns,Hs,Ts,hy4,rfl,rfl,rfl,hs,⟨ln,n4⟩,hdo,most,hT,fun v hv=>?_⟩
  try ac_rfl
  refine aU (fun q=>bad (fun fi=>by rw[hv.mpr fi.2.2.2]at q;cases q) _ s34) (fun q=>?_);have h:=h ⟨⟨ln,n4⟩,hdo,most,hv.mp (by simpa using q)⟩;clear q hv v;subst hR;have nyx:y≠x:=fun e=>by subst e;rw[hx]at hy;cases hy
  have k4:∀a u,a≠x->H a=some u->H4 a=some u:=fun a u _ e=>s34 _ _ e;refine au fun R hR=>?_;ac_rfl;refine⟨_,_,hx4,by simp,?_⟩;subst hR;rw[show fV "drawing" (PV.ref y) ([]:List (Str×PV))=([("drawing",PV.ref y)]:List (Str×PV))from rfl];have hx5:put H4 x (.ins t.a_W dx [("drawing",PV.ref y)]) x=some (.ins t.a_W dx [("drawing",PV.ref y)]):=ah;have hy5:=(aj (o:=.ins t.a_W dx [("drawing",PV.ref y)]) nyx).trans hy4;have k5:∀a u,a≠x->H a=some u->put H4 x (.ins t.a_W dx [("drawing",PV.ref y)]) a=some u:=fun a u n e=>(aj n).trans (k4 a u n e);generalize put H4 x (.ins t.a_W dx [("drawing",PV.ref y)])=H5 at *;refine au fun R hR=>?_;ac_rfl;refine⟨_,_,hx5,by simp,?_⟩;subst hR;rw[show fV "sizes" (PV.tup (ns.map PV.int)) ([("drawing",PV.ref y)]:List (Str×PV))=([("drawing",PV.ref y),("sizes",PV.tup (ns.map PV.int))]:List (Str×PV))from rfl];have hx6:put H5 x (.ins t.a_W dx [("drawing",PV.ref y),("sizes",PV.tup (ns.map PV.int))]) x=some (.ins t.a_W dx [("drawing",PV.ref y),("sizes",PV.tup (ns.map PV.int))]):=ah;have hy6:=(aj (o:=.ins t.a_W dx [("drawing",PV.ref y),("sizes",PV.tup (ns.map PV.int))]) nyx).trans hy5;have k6:∀a u,a≠x->H a=some u->put H5 x (.ins t.a_W dx [("drawing",PV.ref y),("sizes",PV.tup (ns.map PV.int))]) a=some u:=fun a u n e=>(aj n).trans (k5 a u n e);generalize put H5 x (.ins t.a_W dx [("drawing",PV.ref y),("sizes",PV.tup (ns.map PV.int))])=H6 at *;refine au fun R hR=>?_;ac_rfl;refine⟨_,_,hx6,by simp,?_⟩;subst hR;rw[show fV "hidden" (PV.tup (Hs.map rwV)) ([("drawing",PV.ref y),("sizes",PV.tup (ns.map PV.int))]:List (Str×PV))=([("drawing",PV.ref y),("sizes",PV.tup (ns.map PV.int)),("hidden",PV.tup (Hs.map rwV))]:List (Str×PV))from rfl];have hx7:put H6 x (.ins t.a_W dx [("drawing",PV.ref y),("sizes",PV.tup (ns.map PV.int)),("hidden",PV.tup (Hs.map rwV))]) x=some (.ins t.a_W dx [("drawing",PV.ref y),("sizes",PV.tup (ns.map PV.int)),("hidden",PV.tup (Hs.map rwV))]):=ah;have hy7:=(aj (o:=.ins t.a_W dx [("drawing",PV.ref y),("sizes",PV.tup (ns.map PV.int)),("hidden",PV.tup (Hs.map rwV))]) nyx).trans hy6;have k7:∀a u,a≠x->H a=some u->put H6 x (.ins t.a_W dx [("drawing",PV.ref y),("sizes",PV.tup (ns.map PV.int)),("hidden",PV.tup (Hs.map rwV))]) a=some u:=fun a u n e=>(aj n).trans (k6 a u n e);generalize put H6 x (.ins t.a_W dx [("drawing",PV.ref y),("sizes",PV.tup (ns.map PV.int)),("hidden",PV.tup (Hs.map rwV))])=H7 at *;refine au fun R hR=>?_;ac_rfl;refine⟨_,_,hx7,by simp,?_⟩;subst hR;rw[show fV "tables" (PV.tup (Ts.map tbV)) ([("drawing",PV.ref y),("sizes",PV.tup (ns.map PV.int)),("hidden",PV.tup (Hs.map rwV))]:List (Str×PV))=([("drawing",PV.ref y),("sizes",PV.tup (ns.map PV.int)),("hidden",PV.tup (Hs.map rwV)),("tables",PV.tup (Ts.map tbV))]:List (Str×PV))from rfl];have hx8:put H7 x (.ins t.a_W dx [("drawing",PV.ref y),("sizes",PV.tup (ns.map PV.int)),("hidden",PV.tup (Hs.map rwV)),("tables",PV.tup (Ts.map tbV))]) x=some (.ins t.a_W dx [("drawing",PV.ref y),("sizes",PV.tup (ns.map PV.int)),("hidden",PV.tup (Hs.map rwV)),("tables",PV.tup (Ts.map tbV))]):=ah;have hy8:=(aj (o:=.ins t.a_W dx [("drawing",PV.ref y),("sizes",PV.tup (ns.map PV.int)),("hidden",PV.tup (Hs.map rwV)),("tables",PV.tup (Ts.map tbV))]) nyx).trans hy7;have k8:∀a u,a≠x->H a=some u->put H7 x (.ins t.a_W dx [("drawing",PV.ref y),("sizes",PV.tup (ns.map PV.int)),("hidden",PV.tup (Hs.map rwV)),("tables",PV.tup (Ts.map tbV))]) a=some u:=fun a u n e=>(aj n).trans (k7 a u n e);generalize put H7 x (.ins t.a_W dx [("drawing",PV.ref y),("sizes",PV.tup (ns.map PV.int)),("hidden",PV.tup (Hs.map rwV)),("tables",PV.tup (Ts.map tbV))])=H8 at *;ac_rfl;refine fun q hq=>⟨_,_,(aj (ao hx8 hq)).trans hx8,by simp,_,Sub.refl _,h y dy q _ (fun a u n e=>(aj n).trans ((aj (ao (k8 a u n e) hq)).trans (k8 a u n e))) ah ((aj nyx).trans ((aj (ao hy8 hq)).trans hy8)) hy⟩
theorem Cd(T:Tx K mg t):aT P w K mg base CX0 1 t.a_zk t.d_zk ["_law_one","_law_other"] ij:=by
 refine okU (k:=0) T.F_zk pI (fun vs H Q E h=>bP h) (fun cdv A outer s H E B hr=>⟨_,(ag (kW Fx (aP (jP hr.units) bD (qv 1) af (aH _))
  (ag (ax (i:=2) pI.nd rfl (by first | exact Or.inl rfl | exact Or.inr rfl) (aY (qv 0) (qv 1)))
   (ag (ax (i:=0) pI.nd rfl (by first | exact Or.inl rfl | exact Or.inr rfl) (qv 1))
   (ar (ax (i:=1) pI.nd rfl (by first | exact Or.inl rfl | exact Or.inr rfl) (qv 2))))))
  (ar (aO (aB iD nz rfl T.b_abs boot_abs (aa (qv 0) ae))))),?_⟩)
 intro vs H Q E h
 replace h:=bO h
 obtain⟨a,_,rfl,b,_,rfl,rfl,h⟩:=h
 try dsimp only at h
 ac_rfl;refine iz (fun m σ H'=>∃x y r,σ=[some (.int x),some (.int y),r]/\H'=H/\My.gd x y=My.gd a b/\m=y.natAbs) b.natAbs ⟨a,b,none,rfl,rfl,rfl,rfl⟩ ?_;rintro m σ H' ⟨x,y,r,rfl,rfl,hg,rfl⟩;ac_rfl;by_cases hy:y=0
 ·refine bw (by simp[hy]) ⟨H',Sub.refl _,?_⟩;rw[←hg,hy,My.pw]at h;exact h
 ·refine bM (by simp[hy]) ?_;exact⟨_,fun σ' H' z=>z,hy,_,My.kC x y hy,_,_,_,rfl,rfl,(My.oX x y).trans hg,rfl⟩
theorem DL(T:Tx K mg t):aT P w K mg base CX0 2 t.a_zp t.d_zp ["_law_top","_law_bottom"] pA:=by
 refine okU (k:=1) T.F_zp ji (fun vs H Q E h=>bP h) (fun cdv A outer s H E B hr=>⟨_,(ag (bh (aP fO fA (qv 1) af (aH _))
  cJ
  aL)
  (ag (bh (aP (bo hr.units) bD (qv 1) af (aH _))
  (ar (ax (i:=1) ji.nd rfl (by first | exact Or.inl rfl | exact Or.inr rfl) af))
  aL)
  (ag (ax (i:=2) ji.nd rfl (by first | exact Or.inl rfl | exact Or.inr rfl) (ay (Cd T) (hr.mono (by decide)) rfl T.g_zk T.F_zk.kp T.B_zk (aa (qv 0) (aa (qv 1) ae))))
  (ar (aO (aR (aa (aV (qv 0) (qv 2)) (aa (aV (qv 1) (qv 2)) ae)))))))),?_⟩)
 intro vs H Q E h
 replace h:=bO h
 obtain⟨a,_,rfl,b,_,rfl,rfl,h⟩:=h
 try dsimp only at h
 obtain⟨⟨h0,hb⟩,h⟩:=h;ac_rfl;refine bw (by simp;omega) ?_;unfold My.j5 vV at h;by_cases e:b=0
 ·refine bM (by simp[e]) ?_;rw[Fq e]at h;have g:=My.cK a 1 (by decide)
  try ac_rfl
  exact⟨⟨by omega,eL kr (by decide)⟩,⟨by omega,eL kr (by decide)⟩,by decide,H,Sub.refl _,h⟩
 ·refine bw (by simp[e]) ?_;rw[Fo e]at h;have g:=My.cK a b e
  try ac_rfl
  exact⟨⟨by omega,eL hb e⟩,⟨by omega,eL hb e⟩,by decide,H,Sub.refl _,h⟩
theorem Bw(T:Tx K mg t):aT P w K mg base CX0 3 t.a_zp t.d_zp ["_law_top","_law_bottom"] je:=by
 refine okU (k:=2) T.F_zp ji (fun vs H Q E h=>bP h) (fun cdv A outer s H E B hr=>⟨_,(ag (bh (aP fO fA (qv 1) af (aH _))
  (ar (aO (ay (DL T) (hr.mono (by decide)) rfl T.g_zp T.F_zp.kp T.B_zp (aa (ki af (qv 0)) (aa (ki af (qv 1)) ae)))))
  aL)
  (ag (bh (aP (bo hr.units) bD (qv 1) af (aH _))
  (ar (ax (i:=1) ji.nd rfl (by first | exact Or.inl rfl | exact Or.inr rfl) af))
  aL)
  (ag (ax (i:=2) ji.nd rfl (by first | exact Or.inl rfl | exact Or.inr rfl) (ay (Cd T) (hr.mono (by decide)) rfl T.g_zk T.F_zk.kp T.B_zk (aa (qv 0) (aa (qv 1) ae))))
  (ar (aO (aR (aa (aV (qv 0) (qv 2)) (aa (aV (qv 1) (qv 2)) ae)))))))),?_⟩)
 intro vs H Q E h
 replace h:=bO h
 obtain⟨a,_,rfl,b,_,rfl,rfl,h⟩:=h
 try dsimp only at h
 obtain⟨hb,h⟩:=h;ac_rfl;unfold My.cF at h;by_cases lt:b<0
 ·refine bM (by simpa using lt) ?_;rw[Fq lt]at h;exact⟨⟨by omega,hb.of_le (by omega)⟩,H,Sub.refl _,by rw[Int.zero_sub,Int.zero_sub];exact h⟩
 ·refine bw (by simpa using lt) ?_;rw[Fo lt]at h;unfold My.j5 vV at h;by_cases e:b=0
  ·refine bM (by simp[e]) ?_;rw[Fq e]at h;have g:=My.cK a 1 (by decide)
   try ac_rfl
   exact⟨⟨by omega,eL kr (by decide)⟩,⟨by omega,eL kr (by decide)⟩,by decide,H,Sub.refl _,h⟩
  ·refine bw (by simp[e]) ?_;rw[Fo e]at h;have g:=My.cK a b e
   try ac_rfl
   exact⟨⟨by omega,eL hb e⟩,⟨by omega,eL hb e⟩,by decide,H,Sub.refl _,h⟩
theorem Cf(T:Tx K mg t):aT P w K mg base CX0 1 t.a_zm t.d_zm ["_law_digit","_law_size","_law_full"] kc:=by
 refine okU (k:=0) T.F_zm oq (fun vs H Q E h=>by
  unfold kc at h;split at h
  ·rfl
  ·exact h.elim) (fun cdv A outer s H E B hr=>⟨_,(ag (ax (i:=3) oq.nd rfl (by first | exact Or.inl rfl | exact Or.inr rfl) (aF ae))
  (ag (cx Fx rfl (bE rfl T.b_range (aa (qv 1) ae)) (aw (i:=4) oq.nd rfl (by first | exact Or.inl rfl | exact Or.inr rfl))
  (ag (bH (cH FC FD bU cn (qv 3) (aa (bI (aY (qv 0) af) (aE jd rV rfl T.b_int boot_int (aa (qv 2) ae))) ae)))
   (ar (ax (i:=0) oq.nd rfl (by first | exact Or.inl rfl | exact Or.inr rfl) (aV (qv 0) af)))))
  (ag (bh (aP (bo hr.units) bD (aB (gC rfl) mQ rfl T.b_sum boot_sum (aa (qv 3) ae)) af (aH _))
  (ar (cp af (dt (qv 3) af)))
  aL)
  (ar (aO (qv 3)))))),?_⟩)
 intro vs H Q E h;unfold kc at h;split at h
 ·rename_i d z f;obtain⟨hz,h⟩:=h;refine au fun R hR=>?_;ac_rfl;refine⟨ak (by decide),fun p hp=>?_⟩;subst hR;refine au fun R hR=>?_;ac_rfl;refine⟨⟨by omega,by omega⟩,?_⟩;refine fv (fun i σ H2=>∃d' z4,∃ws:List Int,σ=[some (.int d'),some (.int z),some (.bl f),some (.ref p),z4]/\H2=put H p (.lst (ws.map PV.int))/\ws.length=i/\∀w∈ws,0≤w/\w≤8) ?_ ?_ ⟨d,none,[],rfl,rfl,rfl,fun w hw=>by cases hw⟩
  ·rintro σ H2 ⟨d',z4,ws,rfl,rfl,hl,hw⟩;refine⟨trivial,?_⟩;subst hR;dsimp only;refine au fun R hR=>?_;ac_rfl;have hl2:(ws.length:Int)=z:=by omega
   refine⟨ws,rfl,aU (fun q=>⟨_,0,rfl,by unfold ixN;rw[Fq (by decide),Fq (by rw[EM];omega)];rfl,?_⟩) (fun q=>?_)⟩
   ·cases ws with
    | nil=>simp at hl2;omega
    | cons w0 r =>
     rw[aM];subst hR;ac_rfl;have hr':∀w∈(1::r:List Int),0≤w/\w≤8:=fun w hw'=>by
      rcases Fd.mp hw' with rfl | hw'
      ·decide
      ·exact hw w (EY _ hw')
     obtain⟨s0,_⟩:=mz (b:=8) (ws:=r) fun w hw'=>hw w (EY _ hw');rw[EU]at hl2;exact⟨_,Sub.refl _,h p (1::r) hp (by rw[EU];exact hl2) (uU hr' (by rw[EU];omega) (by rw[F5];omega))⟩
   ·subst hR;ac_rfl;exact⟨_,Sub.refl _,h p ws hp hl2 (uU hw (by omega) (by simpa using q))⟩
  ·rintro D i σ H2 hi ⟨d',z4,ws,rfl,rfl,hl,hw⟩ kk;refine⟨trivial,?_⟩;ac_rfl;have f7:=fm (a:=d') (b:=7) (by decide);have b1:0≤b2n f/\b2n f≤1:=by cases f<;>decide
   refine⟨⟨_,rfl⟩,by decide,bz (by rw[EM];omega),dh (by decide) (by decide),kk _ _ ⟨_,_,ws++[d'.fmod 7+b2n f],rfl,by rw[aM,Fi];rfl,by rw[EX,hl];rfl,fun w hw'=>?_⟩⟩;rcases Fu.mp hw' with hw' | hw'
   ·exact hw w hw'
   ·rw[Fc.mp hw'];omega
 ·exact h.elim
theorem AH(T:Tx K mg t):aT P w K mg base CX0 4 t.a_zr t.d_zr ["_law_weights_here"] iu:=by
 refine okU (k:=3) T.F_zr Cc (fun vs H Q E h=>bP h) (fun cdv A outer s H E B hr=>⟨_,(ar (aO (aE aK bx rfl T.b_tuple FV (aa (bt (N2:=["_law_weight","_law_weights_here"]) (nt:=1) (js:=[0]) (cok (sc:=ai mW) (by exact rfl) (by repeat (first | exact trivial | refine⟨rfl,?_⟩)) rfl (by rfl) (by decide +kernel) (by decide +kernel) (by rfl) (by decide +kernel) (by rfl) (by rfl)) rfl (br (qv 0)) (fun s0 H0 fp ps=>⟨(aw (i:=0) (show List.Nodup (["_law_weight","_law_weights_here"]:List Str) by decide +kernel) rfl (by first | exact Or.inl rfl | exact Or.inr rfl)),aZ,(ay (Bw T) (hr.mono (by decide)) rfl T.g_zp T.F_zp.kp T.B_zp (aa (qv 0) (aa (aB (gC rfl) mQ rfl T.b_sum boot_sum (aa (qv 1) ae)) ae)))⟩)) ae)))),?_⟩);intro vs H Q E h
 replace h:=bO h
 obtain⟨a,_,rfl,rfl,h⟩:=h;obtain⟨ws,ha,sh,h⟩:=h;ac_rfl;refine⟨_,ha,fun acc hacc=>?_⟩;refine aQ (fW ws.sum) (fun _=>true) (fun σ=>∃z,σ=[z,some (.ref a)]) (by rw[EM];have:=sh.2.2.2.2;omega) (fun l=>(aj (ao ha hacc)).trans ha) ?_ ?_ ⟨_,rfl⟩
 ·rintro y hy l σ R ⟨z,rfl⟩ hl kT kF;obtain⟨w,hw,rfl⟩:=E3.mp hy;have e:=iH (w:=w) sh.2.1;ac_rfl;refine⟨ws,(aj (ao ha hacc)).trans ha,bnS (by have:=sh.2.1;omega) sh.2.2.2.1,hl,?_⟩;rw[aM,e];exact kT rfl _ ⟨_,rfl⟩
 have em:(((ws.map PV.int).filter fun _=>true).map (fW ws.sum))=ws.map fun w=>prV (shr ws.sum w):=by
  rw[Fm.mpr (fun _ _=>rfl),E8];rfl
 rw[em]
 try ac_rfl
 exact⟨H,(Sub.refl H).put hacc,h⟩
theorem C6(T:Tx K mg t):aT P w K mg base CX0 3 t.a_zx t.d_zx ["_law_script"] iJ:=by
 refine okU (k:=2) T.F_zx oo (fun vs H Q E h=>bP h) (fun cdv A outer s H E B hr=>⟨_,(ag (cp (ay (Dk T) (hr.mono (by decide)) rfl T.g_zy T.F_zy.kp T.B_zy (aa (qv 0) (aa af ae))) (eE (n:=3) rfl (aW (aw (i:=1) oo.nd rfl (by first | exact Or.inl rfl | exact Or.inr rfl)) (aW (aw (i:=2) oo.nd rfl (by first | exact Or.inl rfl | exact Or.inr rfl)) (aW (aw (i:=3) oo.nd rfl (by first | exact Or.inl rfl | exact Or.inr rfl)) cV)))))
  (ar (aO (aR (aa (qv 1) (aa (aE aK bx rfl T.b_tuple FV (aa (aB dO fP rfl T.b_sorted boot_sorted (aa (qv 2) ae)) ae)) (aa (aE aK bx rfl T.b_tuple FV (aa (aB dO fP rfl T.b_sorted boot_sorted (aa (qv 3) ae)) ae)) ae))))))),?_⟩)
 intro vs H Q E h
 replace h:=bO h
 obtain⟨l,_,rfl,rfl,h⟩:=h;obtain⟨ns,rfl,h⟩:=h;refine au fun R hR=>?_;ac_rfl;refine⟨⟨by decide,by decide⟩,ns,rfl,fun c ts bs p q hc gt gb l6 hp hq npq=>?_⟩
 try ac_rfl
 have t15:=gt.len hc.2;have s3:U.Sub H (put (put H p (.lst (ts.map prV))) q (.lst (bs.map prV))):=((Sub.refl H).put hp).put hq;have e1:put (put H p (.lst (ts.map prV))) q (.lst (bs.map prV)) p=some (.lst (ts.map prV)):=(aj npq).trans ah;have e2:put (put H p (.lst (ts.map prV))) q (.lst (bs.map prV)) q=some (.lst (bs.map prV)):=ah;generalize put (put H p (.lst (ts.map prV))) q (.lst (bs.map prV))=H3 at *;subst hR;ac_rfl;refine⟨ts,e1,gt.nd,fun p hp=>by have:=gt.lo p hp;omega,by omega,fun r3 T3 hr3 pT3 sT3=>?_⟩
 try ac_rfl
 refine⟨bs,(aj (ao e2 hr3)).trans e2,gb.nd,fun p hp=>by have:=gb.lo p hp;omega,by omega,fun r4 B3 hr4 pB3 sB3=>?_⟩;have s8:=s3.put (o:=.lst (T3.map prV)) (s3.free hr3)
 try ac_rfl
 exact⟨ak (by decide),H,s8.put (s8.free hr4),h c T3 B3 ⟨hc,gt.perm pT3,gb.perm pB3,by rw[pB3.length_eq];exact l6,sT3,sB3⟩⟩
theorem C2(T:Tx K mg t):aT P w K mg base CX0 1 t.a_zw t.d_zw ["_law_shape","_law_name"] jG:=by
 refine okU (k:=0) T.F_zw xG (fun vs H Q E h=>bP h) (fun cdv A outer s H E B hr=>⟨_,(ag (fJ (i:=2) xG.nd rfl (by first | exact Or.inl rfl | exact Or.inr rfl) (N2:=["_law_k","_law_name","_law_shape"]) (nt:=1) (js:=[1,0]) (cok (sc:=ai lI) (by exact rfl) (by repeat (first | exact trivial | refine⟨rfl,?_⟩)) rfl (by rfl) (by decide +kernel) (by decide +kernel) (by rfl) (by decide +kernel) (by rfl) (by rfl)) rfl (bE rfl T.b_range (aa (aB aA bG rfl T.b_len Fl (aa (aC (qv 0) af (fun _ _=>rfl)) ae)) ae)) (fun s0 H0 fp ps=>⟨(aw (i:=0) (show List.Nodup (["_law_k","_law_name","_law_shape"]:List Str) by decide +kernel) rfl (by first | exact Or.inl rfl | exact Or.inr rfl)),(h9 (aP (jV hr.units) oW (qv 1) (aC (aC (qv 2) af (fun _ _=>rfl)) (qv 0) (fun _ _=>rfl)) (by with_unfolding_all rfl))),(qv 0)⟩))
  (ar (aO (aR (aa (bt (N2:=["_law_u","_law_name","_law_shape"]) (nt:=1) (js:=[1,0]) (cok (sc:=ai lI) (by exact rfl) (by repeat (first | exact trivial | refine⟨rfl,?_⟩)) rfl (by rfl) (by decide +kernel) (by decide +kernel) (by rfl) (by decide +kernel) (by rfl) (by rfl)) rfl (bE rfl T.b_range (aa (qv 1) ae)) (fun s0 H0 fp ps=>⟨(aw (i:=0) (show List.Nodup (["_law_u","_law_name","_law_shape"]:List Str) by decide +kernel) rfl (by first | exact Or.inl rfl | exact Or.inr rfl)),(h9 (aP (jV hr.units) oW (aR (aa (qv 0) (aa (qv 1) ae))) (aC (qv 2) af (fun _ _=>rfl)) (by with_unfolding_all rfl))),(qv 0)⟩)) (aa (qv 2) ae)))))),?_⟩)
 intro vs H Q E h
 replace h:=bO h
 obtain⟨u,_,rfl,n,_,rfl,rfl,h⟩:=h;obtain⟨c,k,l,rfl,h⟩:=h;obtain⟨ts,bs,rfl,rfl,hn,h6,h⟩:=h;refine au fun R hR=>?_;ac_rfl;refine⟨⟨by omega,by rw[EM];omega⟩,fun q hq=>?_⟩;rw[FW,EM];refine aQ idP (pK bs n) (fun σ=>∃z,σ=[z,some (.int n),some (.tup [.int c,.tup (ts.map prV),.tup (bs.map prV)])]) (by rw[gP,EM,Fv];omega) (fun _=>trivial) ?_ ?_ ⟨_,rfl⟩
 ·rintro y hy l σ R' ⟨z,rfl⟩ hl kT kF;rw[gP]at hy;obtain⟨k,hk,rfl⟩:=E3.mp hy;have hk':=Ft.mp hk;have hg:bs[k]?=some bs[k]:=EO hk';have e:=vC hg;have ep:pK bs n (.int (k:Nat))=iN n bs[k]:=by
   show(match bs[((k:Nat):Int).toNat]? with | some p=>iN n p | none=>false)=_;rw[FW,hg]
  rw[ep]at kT kF;ac_rfl;rw[e];unfold prV at *
  try ac_rfl
  rw[oj];exact aU (fun q=>⟨hl,by rw[aM];exact kT q _ ⟨_,rfl⟩⟩) (fun q=>kF q _ ⟨_,rfl⟩)
 rw[vT];have s1:=(Sub.refl H).put (o:=.lst ((bpl bs n).map fun k=>PV.int (k:Nat))) hq;subst hR;ac_rfl;refine⟨⟨by omega,by omega⟩,fun p hp=>?_⟩;have npq:p≠q:=fun e=>by subst e;rw[ah]at hp;cases hp
 refine aQ idP (pU ts n) (fun σ=>∃z,σ=[z,some (.int n),some (.tup [.int c,.tup (ts.map prV),.tup (bs.map prV)])]) (by rw[gP,EM,Fv];omega) (fun _=>trivial) ?_ ?_ ⟨_,rfl⟩
 ·rintro y hy l σ R' ⟨z,rfl⟩ hl kT kF;rw[gP]at hy;obtain⟨k,hk,rfl⟩:=E3.mp hy;have ep:pU ts n (.int (k:Nat))=decide ((((k:Nat):Int),n)∈ts):=rfl;rw[ep]at kT kF;ac_rfl;rw[rT];exact⟨ak (by decide),sI,aU (fun q=>⟨hl,by rw[aM];exact kT q _ ⟨_,rfl⟩⟩) (fun q=>kF q _ ⟨_,rfl⟩)⟩
 rw[uO];exact⟨ak (by decide),_,Sub.refl _,h p q hq (s1.free hp) npq⟩
theorem Dh(T:Tx K mg t):aT P w K mg base CX0 2 t.a_zF t.d_zF ["_law_cell","_law_many","_law_size","_law_full"] ft:=by
 refine okU (k:=1) T.F_zF xU (fun vs H Q E h=>by
  unfold ft at h;split at h
  ·rfl
  ·exact h.elim) (fun cdv A outer s H E B hr=>⟨_,(ag (ax (i:=4) xU.nd rfl (by first | exact Or.inl rfl | exact Or.inr rfl) (ay (zV T) (hr.mono (by decide)) rfl T.g_zz T.F_zz.kp T.B_zz (aa (qv 0) (aa (aB (pZ rfl) x5 rfl T.b_min boot_min (aa (qv 1) (aa af ae))) ae))))
  (ar (aO (bt (N2:=["_law_k","_law_size","_law_full","_law_xs"]) (nt:=1) (js:=[2,3,4]) (cok (sc:=ai nh) (by exact rfl) (by repeat (first | exact trivial | refine⟨rfl,?_⟩)) rfl (by rfl) (by decide +kernel) (by decide +kernel) (by rfl) (by decide +kernel) (by rfl) (by rfl)) rfl (bE rfl T.b_range (aa (qv 1) ae)) (fun s0 H0 fp ps=>⟨(aw (i:=0) (show List.Nodup (["_law_k","_law_size","_law_full","_law_xs"]:List Str) by decide +kernel) rfl (by first | exact Or.inl rfl | exact Or.inr rfl)),aZ,(ay (Cf T) (hr.mono (by decide)) rfl T.g_zm T.F_zm.kp T.B_zm (aa (bI (aC (qv 3) (aY (qv 0) (aB aA bG rfl T.b_len Fl (aa (qv 3) ae))) (fun _ _=>rfl)) (bQ af (aV (qv 0) af))) (aa (qv 1) (aa (qv 2) ae))))⟩))))),?_⟩)
 intro vs H Q E h;unfold ft at h;split at h
 ·rename_i cell m z f;obtain⟨hm,hz,h⟩:=h;refine au fun R hR=>?_;ac_rfl;refine⟨⟨by split<;>omega,by split<;>omega⟩,fun q xs hq hxs=>?_⟩;have lx:1≤xs.length/\xs.length≤60:=by rw[hxs];split<;>omega
  have s1:=(Sub.refl H).put (o:=.lst (xs.map PV.int)) hq;have eq:put H q (.lst (xs.map PV.int)) q=some (.lst (xs.map PV.int)):=ah;generalize put H q (.lst (xs.map PV.int))=H1 at *;subst hR;ac_rfl;refine⟨⟨by omega,by omega⟩,fun acc hacc=>?_⟩;refine eI (fun i σ H2=>∃z0 ys Rw,σ=[z0,some (.int z),some (.bl f),some (.ref q)]/\U.Sub H H2/\H2 q=some (.lst (xs.map PV.int))/\H2 acc=some (.lst ys)/\Paired (RowW H H2 acc) ys Rw/\Rw.length=i/\∀ws∈Rw,Shr ws/\(ws.length:Int)=z) ?_ ?_ ⟨_,[],[],rfl,s1.put (s1.free hacc),(aj (ao eq hacc)).trans eq,ah,.nil,rfl,fun ws hw=>by cases hw⟩
  ·rintro i y σ H2 R hy ⟨z0,ys,Rw,rfl,s2,hq2,ha2,pd,hl,hw⟩ kk;refine⟨trivial,?_⟩;rw[gP]at hy;obtain⟨k,hk,rfl⟩:∃k:Nat,k<400/\y=.int (k:Nat):=by
    obtain⟨k,hk,rfl⟩:=E3.mp (EZ hy);exact⟨k,by have:=Ft.mp hk;omega,rfl⟩
   have hi:i<m.toNat:=by
    have:=(EV.mp hy).1
    rwa [EM,Fv]at this
   ac_rfl;refine⟨_,hq2,by rw[EM];omega,_,hq2,?_⟩;rw[EM];have fk:=fm (a:=(k:Int)) (b:=((xs.length:Nat):Int)) (by omega);have e:atI (xs.map PV.int) ((k:Int).fmod ((xs.length:Nat):Int))=some (.int (xs.getD ((k:Int).fmod ((xs.length:Nat):Int)).toNat 0)):=dn fk.1 fk.2;rw[e]
   try ac_rfl
   have fl:=h7 (a:=(k:Int)) (b:=60) (by omega) (by decide);refine⟨dh (by decide) (by decide),.inr ⟨dW (by decide) (by decide),dW fl.1 (by omega)⟩,hz,fun p ws hp hl2 sh=>?_⟩;have npa:p≠acc:=fun e=>by subst e;rw[ha2]at hp;cases hp
   have nqa:q≠acc:=ao eq hacc;have nqp:q≠p:=ao hq2 hp;have pl:=bF pd;refine⟨ys,(aj npa.symm).trans ha2,bz (by omega),kk _ _ ⟨_,ys++[.ref p],Rw++[ws],rfl,(s2.put (s2.free hp)).put (s1.free hacc),(aj nqa).trans ((aj nqp).trans hq2),ah,dS ⟨p,rfl,(aj npa).trans ah,npa,s2.free hp⟩ (bX (fun y ws y_=>by obtain⟨r,e1,e2,e3,e4⟩:=y_;exact ⟨r,e1,(aj e3).trans ((aj (ao e2 hp)).trans e2),e3,e4⟩) pd),by rw[EX,hl];rfl,fun w hw'=>?_⟩⟩;rcases Fu.mp hw' with hw' | hw'
   ·exact hw w hw'
   ·rw[Fc.mp hw'];exact⟨sh,hl2⟩
  ·rintro σ H2 ⟨z0,ys,Rw,rfl,s2,hq2,ha2,pd,hl,hw⟩;refine⟨trivial,_,Sub.refl _,h acc H2 ys Rw s2 (s1.free hacc) ha2 pd ?_ hw⟩;rw[hl,gP,EM,Fv];omega
 ·exact h.elim
theorem D7(T:Tx K mg t):aT P w K mg base CX0 5 t.a_zd t.d_zd ["_law_world_here"] jJ:=by
 refine okU (k:=4) T.F_zd kO (fun vs H Q E h=>bP h) (fun cdv A outer s H E B hr=>⟨_,(ag (cp (qv 0) (eE (n:=3) rfl (aW (aw (i:=1) kO.nd rfl (by first | exact Or.inl rfl | exact Or.inr rfl)) (aW (aw (i:=2) kO.nd rfl (by first | exact Or.inl rfl | exact Or.inr rfl)) (aW (aw (i:=3) kO.nd rfl (by first | exact Or.inl rfl | exact Or.inr rfl)) cV)))))
  (ag (ax (i:=4) kO.nd rfl (by first | exact Or.inl rfl | exact Or.inr rfl) (aE aK bx rfl T.b_tuple FV (aa (bt (N2:=["_law_table"]) (nt:=1) (js:=[]) (cok (sc:=ai lN) (by exact rfl) (by repeat (first | exact trivial | refine⟨rfl,?_⟩)) rfl (by rfl) (by decide +kernel) (by decide +kernel) (by rfl) (by decide +kernel) (by rfl) (by rfl)) rfl (br (qv 3)) (fun s0 H0 fp ps=>⟨(aw (i:=0) (show List.Nodup (["_law_table"]:List Str) by decide +kernel) rfl (by first | exact Or.inl rfl | exact Or.inr rfl)),aZ,(aE aK bx rfl T.b_tuple FV (aa (bt (N2:=["_law_row"]) (nt:=1) (js:=[]) (cok (by exact rfl) (by repeat (first | exact trivial | refine⟨rfl,?_⟩)) rfl (by rfl) (by decide +kernel) (by decide +kernel) (by rfl) (fun x hx=>absurd hx (by simp)) (by rfl) (by rfl)) rfl (br (qv 0)) (fun s0 H0 fp ps=>⟨(aw (i:=0) (show List.Nodup (["_law_row"]:List Str) by decide +kernel) rfl (by first | exact Or.inl rfl | exact Or.inr rfl)),aZ,(ay (AH T) (hr.mono (by decide)) rfl T.g_zr T.F_zr.kp T.B_zr (aa (qv 0) ae))⟩)) ae))⟩)) ae)))
  (ar (aO (aR (aa (aE aK bx rfl T.b_tuple FV (aa (qv 1) ae)) (aa (aE aK bx rfl T.b_tuple FV (aa (bt (N2:=["_law_row"]) (nt:=1) (js:=[]) (cok (sc:=ai lN) (by exact rfl) (by repeat (first | exact trivial | refine⟨rfl,?_⟩)) rfl (by rfl) (by decide +kernel) (by decide +kernel) (by rfl) (by decide +kernel) (by rfl) (by rfl)) rfl (br (qv 2)) (fun s0 H0 fp ps=>⟨(aw (i:=0) (show List.Nodup (["_law_row"]:List Str) by decide +kernel) rfl (by first | exact Or.inl rfl | exact Or.inr rfl)),aZ,(ay (AH T) (hr.mono (by decide)) rfl T.g_zr T.F_zr.kp T.B_zr (aa (qv 0) ae))⟩)) ae)) (aa (qv 4) ae)))))))),?_⟩)
 intro vs H Q E h
 replace h:=bO h
 obtain⟨u,_,rfl,rfl,h⟩:=h;obtain⟨a,b,d,rfl,h⟩:=h;obtain⟨ns,Hd,Tb,ys,zs,ha,hb,hd,ry,rz,h1,h2,h⟩:=h;refine au fun R hR=>?_;ac_rfl
 try subst hR
 refine au fun R hR=>?_;ac_rfl;refine⟨_,hd,fun acc hacc=>?_⟩;have lz:=bF rz;refine eI (fun i σ H2=>∃z,σ=[z]/\U.Sub H H2/\H2 acc=some (.lst ((Tb.take i).map tbT))) ?_ ?_ ⟨_,rfl,(Sub.refl H).put hacc,ah⟩
 ·rintro i y σ H2 R1 hy ⟨z,rfl,s2,ha2⟩ kk;refine⟨s2 _ _ hd,?_⟩;have hi:=(EV.mp hy).1;have tr:=dX rz hi (by omega);rw[(EV.mp hy).2]at tr;have hg:Tb[i]?=some (Tb[i]'(by omega)):=EO (by omega);generalize Tb[i]'(by omega)=Rw at *;have hR2:=h2.1 Rw (EZ hg);obtain⟨r,ys',rfl,er,pr⟩:=tr;have er2:=s2 _ _ er;have pr2:Paired (ka H2) ys' Rw:=bX (fun y ws y_=>by obtain⟨r,e1,e2⟩:=y_;exact ⟨r,e1,s2 _ _ e2⟩) pr;have ll:=bF pr2;ac_rfl;refine⟨_,er2,fun acc2 hacc2=>?_⟩;refine aQ (fR H2) (fun _=>true) (fun σ=>∃z,σ=[z]) (by rw[bF pr2];omega) (fun l=>(aj (ao er2 hacc2)).trans er2) ?_ ?_ ⟨_,rfl⟩
  ·rintro y' hy' l σ' R' ⟨z',rfl⟩ hl' kT kF;obtain⟨ws,hws,row⟩:=dq pr2 hy';rw[nW row]at kT;obtain⟨r',rfl,er⟩:=row;ac_rfl;exact⟨ws,(aj (ao er hacc2)).trans er,hR2.2 ws hws,hl',by rw[aM];exact kT rfl _ ⟨_,rfl⟩⟩
  rw[pe pr2]
  try ac_rfl
  refine⟨_,(aj (ao ha2 hacc2)).trans ha2,bz (by rw[EM,FT];omega),kk _ _ ⟨_,rfl,(s2.put (s2.free hacc2)).put hacc,?_⟩⟩;rw[ah,FX,hg,Fi];rfl
 ·rintro σ H2 ⟨z,rfl,s2,ha2⟩;refine⟨s2 _ _ hd,?_⟩;rw[lz,F9]at ha2
  try ac_rfl
  refine⟨_,ha2,?_⟩;subst hR;have hb2:=s2 _ _ hb;have ry2:Paired (ka H2) ys Hd:=bX (fun y ws y_=>by obtain⟨r,e1,e2⟩:=y_;exact ⟨r,e1,s2 _ _ e2⟩) ry;have ll:=bF ry2;ac_rfl;refine⟨_,s2 _ _ ha,_,hb2,fun acc3 hacc3=>?_⟩;refine aQ (fR H2) (fun _=>true) (fun σ=>∃z,σ=[z]) (by rw[bF ry2];omega) (fun l=>(aj (ao hb2 hacc3)).trans hb2) ?_ ?_ ⟨_,rfl⟩
  ·rintro y' hy' l σ' R' ⟨z',rfl⟩ hl' kT kF;obtain⟨ws,hws,row⟩:=dq ry2 hy';rw[nW row]at kT;obtain⟨r',rfl,er⟩:=row;ac_rfl;exact⟨ws,(aj (ao er hacc3)).trans er,h1.1 ws hws,hl',by rw[aM];exact kT rfl _ ⟨_,rfl⟩⟩
  rw[pe ry2]
  try ac_rfl
  exact⟨ak (by decide),H,s2.put (s2.free hacc3),h⟩
theorem CP(T:Tx K mg t):aT P w K mg base CX0 6 t.a_zC t.d_zC ["_law_script","_law_at","_law_shape","_law_most"] iy:=by
 refine okU (k:=5) T.F_zC bT (fun vs H Q E h=>bP h) (fun cdv A outer s H E B hr=>⟨_,(ag (cp (qv 2) (eE (n:=3) rfl (aW (aw (i:=4) bT.nd rfl (by first | exact Or.inl rfl | exact Or.inr rfl)) (aW (aw (i:=5) bT.nd rfl (by first | exact Or.inl rfl | exact Or.inr rfl)) (aW (aw (i:=6) bT.nd rfl (by first | exact Or.inl rfl | exact Or.inr rfl)) cV)))))
  (ag (ax (i:=7) bT.nd rfl (by first | exact Or.inl rfl | exact Or.inr rfl) (ay (zV T) (hr.mono (by decide)) rfl T.g_zz T.F_zz.kp T.B_zz (aa (ay (qE T) (hr.mono (by decide)) rfl T.g_zl T.F_zl.kp T.B_zl (aa (qv 0) (aa (qv 1) ae))) (aa af ae))))
  (ag (ax (i:=8) bT.nd rfl (by first | exact Or.inl rfl | exact Or.inr rfl) (cy lS lj (aY (ay (qE T) (hr.mono (by decide)) rfl T.g_zl T.F_zl.kp T.B_zl (aa (qv 0) (aa (bI (qv 1) af) ae))) af) af (aH _)))
  (ag (fJ (i:=9) bT.nd rfl (by first | exact Or.inl rfl | exact Or.inr rfl) (N2:=["_law_name"]) (nt:=1) (js:=[]) (cok (sc:=ai mD) (by exact rfl) (by repeat (first | exact trivial | refine⟨rfl,?_⟩)) rfl (by rfl) (by decide +kernel) (by decide +kernel) (by rfl) (by decide +kernel) (by rfl) (by rfl)) rfl (bE rfl T.b_range (aa (qv 4) ae)) (fun s0 H0 fp ps=>⟨(aw (i:=0) (show List.Nodup (["_law_name"]:List Str) by decide +kernel) rfl (by first | exact Or.inl rfl | exact Or.inr rfl)),aZ,af⟩))
  (ag (ax (i:=10) bT.nd rfl (by first | exact Or.inl rfl | exact Or.inr rfl) (yW af (qv 4)))
  (ag (cx Fx rfl (bE rfl T.b_range (aa (qv 4) ae)) (aw (i:=11) bT.nd rfl (by first | exact Or.inl rfl | exact Or.inr rfl))
  (ag (ax (i:=12) bT.nd rfl (by first | exact Or.inl rfl | exact Or.inr rfl) (aC (aF (aa af (aa af (aa af (aa af ae))))) (aY (aC (qv 7) (qv 11) (fun _ _=>rfl)) af) (fun _ _=>rfl)))
   (ar (bh (aP jk jB (bQ (aV (qv 10) af) (qv 12)) (aV (qv 3) af) (aH _))
   (ag (ax (i:=10) bT.nd rfl (by first | exact Or.inl rfl | exact Or.inr rfl) (bQ (aV (qv 10) af) (qv 12)))
    (ar (cp (qv 12) (dt (qv 9) (qv 11)))))
   aL))))
  (ag (ax (i:=13) bT.nd rfl (by first | exact Or.inl rfl | exact Or.inr rfl) (aF ae))
  (ag (cx Fx rfl (bE rfl T.b_range (aa (aB aA bG rfl T.b_len Fl (aa (qv 6) ae)) ae)) (aw (i:=14) bT.nd rfl (by first | exact Or.inl rfl | exact Or.inr rfl))
  (ag (ax (i:=15) bT.nd rfl (by first | exact Or.inl rfl | exact Or.inr rfl) (aC (aF (aa af (aa af (aa af (aa af (aa af ae)))))) (aY (aC (qv 7) (bI af (qv 14)) (fun _ _=>rfl)) af) (fun _ _=>rfl)))
   (ag (bh (aP lS lj (bQ (qv 10) (qv 15)) (qv 3) (aH _))
   (ar (ax (i:=15) bT.nd rfl (by first | exact Or.inl rfl | exact Or.inr rfl) af))
   aL)
   (ag (ax (i:=10) bT.nd rfl (by first | exact Or.inl rfl | exact Or.inr rfl) (bQ (qv 10) (qv 15)))
   (ar (bH (cH FC FD bU cn (qv 13) (aa (ay (Cf T) (hr.mono (by decide)) rfl T.g_zm T.F_zm.kp T.B_zm (aa (aV (aC (qv 7) (bI af (qv 14)) (fun _ _=>rfl)) af) (aa (qv 15) (aa oh ae)))) ae))))))))
  (ag (ax (i:=16) bT.nd rfl (by first | exact Or.inl rfl | exact Or.inr rfl) (aF ae))
  (ag (cx Fx rfl (bE rfl T.b_range (aa (qv 4) ae)) (aw (i:=11) bT.nd rfl (by first | exact Or.inl rfl | exact Or.inr rfl))
  (ag (cp (ay (C2 T) (hr.mono (by decide)) rfl T.g_zw T.F_zw.kp T.B_zw (aa (qv 2) (aa (qv 11) ae))) (eE (n:=2) rfl (aW (aw (i:=17) bT.nd rfl (by first | exact Or.inl rfl | exact Or.inr rfl)) (aW (aw (i:=18) bT.nd rfl (by first | exact Or.inl rfl | exact Or.inr rfl)) cV))))
   (ag (ax (i:=19) bT.nd rfl (by first | exact Or.inl rfl | exact Or.inr rfl) af)
   (ag (cx Fx rfl (br (qv 17)) (aw (i:=20) bT.nd rfl (by first | exact Or.inl rfl | exact Or.inr rfl))
   (ar (ax (i:=19) bT.nd rfl (by first | exact Or.inl rfl | exact Or.inr rfl) (bQ (qv 19) (aC (qv 9) (qv 20) (fun _ _=>rfl))))))
   (ag (cx Fx rfl (br (qv 18)) (aw (i:=14) bT.nd rfl (by first | exact Or.inl rfl | exact Or.inr rfl))
   (ar (ax (i:=19) bT.nd rfl (by first | exact Or.inl rfl | exact Or.inr rfl) (bQ (qv 19) (aB aA bG rfl T.b_len Fl (aa (aC (qv 13) (qv 14) (fun _ _=>rfl)) ae))))))
   (ar (bH (cH FC FD bU cn (qv 16) (aa (ay (Dh T) (hr.mono (by decide)) rfl T.g_zF T.F_zF.kp T.B_zF (aa (ay (qE T) (hr.mono (by decide)) rfl T.g_zl T.F_zl.kp T.B_zl (aa (qv 0) (aa (bI (bI (qv 1) af) (qv 11)) ae))) (aa (qv 19) (aa (aC (qv 9) (qv 11) (fun _ _=>rfl)) (aa (qv 8) ae))))) ae)))))))))
  (ar (aO (aR (aa (qv 9) (aa (qv 13) (aa (qv 16) ae)))))))))))))))),?_⟩)
 intro vs H Q E h
 replace h:=bO h
 obtain⟨l,_,rfl,k,_,rfl,u,_,rfl,m,_,rfl,rfl,h⟩:=h;obtain⟨c,tv,bv,rfl,h⟩:=h;obtain⟨is,ts,bs,rfl,rfl,rfl,hk,rfl,hs,h⟩:=h;have c6:=hs.hc;have b6:=hs.l6;refine au fun R hR=>?_;ac_rfl;subst hR;refine au fun R hR=>?_;ac_rfl;refine⟨⟨by omega,by omega⟩,is,rfl,⟨by decide,by decide⟩,fun xa xs hxa hxs=>?_⟩;have s1:=(Sub.refl H).put (o:=.lst (xs.map PV.int)) hxa;have ex:put H xa (.lst (xs.map PV.int)) xa=some (.lst (xs.map PV.int)):=ah;generalize put H xa (.lst (xs.map PV.int))=H1 at *;subst hR;refine au fun R hR=>?_;ac_rfl;refine⟨⟨by omega,by omega⟩,is,rfl,by decide,?_⟩;generalize decide (0<(is.getD (k+1).toNat 0).fmod 3)=f at *;subst hR;refine au fun R hR=>?_;ac_rfl;refine⟨⟨by omega,by omega⟩,fun sa hsa=>?_⟩;refine aQ (fun _=>PV.int 2) (fun _=>true) (fun σ=>∃z,σ=[z]) (by rw[gP,EM,Fv];omega) (fun _=>trivial) ?_ ?_ ⟨_,rfl⟩
 ·rintro y hy l σ R' ⟨z,rfl⟩ hl kT kF;ac_rfl;exact⟨hl,by rw[aM];exact kT rfl _ ⟨_,rfl⟩⟩
 have em:(((cW 0 c.toNat).filter fun _=>true).map fun _=>PV.int 2)=(List.replicate c.toNat (2:Int)).map PV.int:=by
  rw[Fm.mpr (fun _ _=>rfl),gP,E8,List.map_replicate];refine List.ext_getElem (by simp) fun j h1 h2=>?_;simp
 rw[em];obtain⟨z0,zp⟩:=Sz.zero c6;subst hR;refine au fun R hR=>?_;ac_rfl;refine⟨⟨by omega,by omega,by decide⟩,?_⟩;rw[←zp];clear zp;have s2:=s1.put (o:=.lst ((List.replicate c.toNat (2:Int)).map PV.int)) (s1.free hsa);have nxs:xa≠sa:=ao ex hsa;subst hR;refine au fun R hR=>?_;ac_rfl;refine⟨⟨by omega,by omega⟩,?_⟩;refine fv (fun i σ H2=>∃ns z11 z12,σ=[some (.fls (is.map PV.int)),some (.int k),some (.tup [.int c,.tup (ts.map prV),.tup (bs.map prV)]),some (.int 300),some (.int c),some (.tup (ts.map prV)),some (.tup (bs.map prV)),some (.ref xa),some (.bl f),some (.ref sa),some (.int (prod ns)),z11,z12,none,none,none,none,none,none,none,none]/\U.Sub H1 H2/\H2 sa=some (.lst (ns.map PV.int))/\Sz c i ns) ?_ ?_ ⟨_,_,_,rfl,(Sub.refl H1).put hsa,ah,z0⟩
 ·rintro σ H2 ⟨ns,z11,z12,rfl,s2,es,sz⟩;refine⟨trivial,?_⟩;subst hR;dsimp only;refine au fun R hR=>?_;ac_rfl;refine⟨ak (by decide),fun hb hhb=>?_⟩;subst hR;have ex2:=s2 _ _ ex;have nxh:=ao ex2 hhb;have nsh:=ao es hhb;have p1:=bS (l:=ns) fun n hn=>by have:=sz.n4 n hn;omega
  have p2:=sz.le;refine au fun R hR=>?_;ac_rfl;rw[EM];refine⟨⟨by omega,by omega⟩,?_⟩;refine fv (fun i σ H3=>∃ys Hd z12 z14 z15,σ=[some (.fls (is.map PV.int)),some (.int k),some (.tup [.int c,.tup (ts.map prV),.tup (bs.map prV)]),some (.int 300),some (.int c),some (.tup (ts.map prV)),some (.tup (bs.map prV)),some (.ref xa),some (.bl f),some (.ref sa),some (.int (prod ns*prod (Hd.map fun ws:List Int=>(ws.length:Int)))),z11,z12,some (.ref hb),z14,z15,none,none,none,none,none]/\U.Sub H2 H3/\H3 hb=some (.lst ys)/\Paired (kA hb H3) ys Hd/\Hd.length=i/\(∀ws∈Hd,Shr ws/\1≤ws.length/\ws.length≤4)/\prod ns*prod (Hd.map fun ws:List Int=>(ws.length:Int))≤300) ?_ ?_ ⟨[],[],_,_,_,by rw[List.map_nil];show _=[_,_,_,_,_,_,_,_,_,_,some (PV.int (prod ns*1)),_,_,_,_,_,_,_,_,_,_];rw[Int.mul_one],(Sub.refl H2).put hhb,ah,.nil,rfl,fun ws hw=>(by cases hw),by show prod ns*1≤300;omega⟩
  ·rintro σ H3 ⟨ys,Hd,z12,z14,z15,rfl,s3,eh,pd,lh,h4,mst⟩;refine⟨trivial,?_⟩;subst hR;dsimp only;refine au fun R hR=>?_;ac_rfl;refine⟨ak (by decide),fun td htd=>?_⟩;subst hR;have es3:=s3 _ _ es;have ly:=bF pd;have lh':Hd.length=bs.length:=lh;refine au fun R hR=>?_;ac_rfl;refine⟨⟨by omega,by omega⟩,?_⟩;refine fv (fun i σ H5=>∃zs Tb z11 z14 z17 z18 z19 z20,σ=[some (.fls (is.map PV.int)),some (.int k),some (.tup [.int c,.tup (ts.map prV),.tup (bs.map prV)]),some (.int 300),some (.int c),some (.tup (ts.map prV)),some (.tup (bs.map prV)),some (.ref xa),some (.bl f),some (.ref sa),some (.int (prod ns*prod (Hd.map fun ws:List Int=>(ws.length:Int)))),z11,z12,some (.ref hb),z14,z15,some (.ref td),z17,z18,z19,z20]/\U.Sub H3 H5/\H5 td=some (.lst zs)/\Paired (pV td H5) zs Tb/\Tb.length=i/\∀(k:Nat) Rw,Tb[k]?=some Rw->(Rw.length:Int)=prod (hdz ns Hd ts bs (k:Nat))/\Rw.length≤400/\∀ws∈Rw,Shr ws/\(ws.length:Int)=ns.getD k 0) ?_ ?_ ⟨[],[],_,_,_,_,_,_,rfl,(Sub.refl H3).put htd,ah,.nil,rfl,fun k Rw q=>by cases q⟩
   ·rintro σ H5 ⟨zs,Tb,z11,z14,z17,z18,z19,z20,rfl,s5,et,pt,lt,ht⟩;refine⟨trivial,?_⟩;subst hR;ac_rfl;have s15:=s2.trans (s3.trans s5);have ln:=sz.ln;refine⟨ak (by decide),H5,Sub.refl _,h sa hb td ns Hd Tb ys zs H5 (s1.trans s15) (s5 _ _ es3) (s5 _ _ eh) et (bX (fun y ws y_=>by obtain⟨r,e1,_,e2⟩:=y_;exact ⟨r,e1,s5 _ _ e2⟩) pd) (bX (fun z Rw y_=>by obtain⟨r,ys,e1,_,e2,w⟩:=y_;exact ⟨r,ys,e1,e2,bX (fun y ws y_=>by obtain⟨r,e1,_,e2⟩:=y_;exact ⟨r,e1,e2⟩) w⟩) pt) ⟨by omega,sz.n4,lh',h4,by omega,by omega,ht⟩⟩
   ·rintro D i σ H5 hi ⟨zs,Tb,z11,z14,z17,z18,z19,z20,rfl,s5,et,pt,lt,ht⟩ kk;refine⟨trivial,?_⟩;have ln:=sz.ln;have hic:0≤((i:Nat):Int)/\((i:Nat):Int)<c:=by omega
    have hZ:=yT (ns:=ns) (Hd:=Hd) hs hic.2;have zle:=jR hs hic (by omega) sz.n4 lh' h4;have zpos:=hW (c:=c) (by omega) sz.n4 lh' h4 hs.gt ((i:Nat):Int);have zt:=fun m=>dE (fun x hx=>(zpos x hx).1) m;generalize eZ:hdz ns Hd ts bs ((i:Nat):Int)=Z at hZ zle zpos zt;simp only[bc,F7,FY];refine au fun R hR=>?_;ac_rfl;refine⟨ts,bs,rfl,rfl,⟨by omega,by omega⟩,b6,fun p q hq hp npq=>?_⟩;have k6:∀a u,H5 a=some u->put (put H5 q (.lst ((bpl bs (i:Nat)).map fun k=>PV.int (k:Nat)))) p (.lst ((eo ts (i:Nat)).map PV.int)) a=some u:=fun a u e=>(aj (ao e hp)).trans ((aj (ao e hq)).trans e);have ep:put (put H5 q (.lst ((bpl bs (i:Nat)).map fun k=>PV.int (k:Nat)))) p (.lst ((eo ts (i:Nat)).map PV.int)) p=some (.lst ((eo ts (i:Nat)).map PV.int)):=ah;have eq:put (put H5 q (.lst ((bpl bs (i:Nat)).map fun k=>PV.int (k:Nat)))) p (.lst ((eo ts (i:Nat)).map PV.int)) q=some (.lst ((bpl bs (i:Nat)).map fun k=>PV.int (k:Nat))):=(aj npq.symm).trans ah;generalize put (put H5 q (.lst ((bpl bs (i:Nat)).map fun k=>PV.int (k:Nat)))) p (.lst ((eo ts (i:Nat)).map PV.int))=H6 at *;have s6:U.Sub H3 H6:=fun a u e=>k6 _ _ (s5 _ _ e);have et6:=k6 _ _ et;have pt6:=pV.up (fun a u _ e=>k6 a u e) pt;have es6:=s6 _ _ es3;have eh6:=s6 _ _ eh;subst hR;refine au fun R hR=>?_;ac_rfl;subst hR;refine au fun R hR=>?_;ac_rfl;refine⟨_,ep,?_⟩;refine dZ (fun j σ H7=>∃z20,σ=[some (.fls (is.map PV.int)),some (.int k),some (.tup [.int c,.tup (ts.map prV),.tup (bs.map prV)]),some (.int 300),some (.int c),some (.tup (ts.map prV)),some (.tup (bs.map prV)),some (.ref xa),some (.bl f),some (.ref sa),some (.int (prod ns*prod (Hd.map fun ws:List Int=>(ws.length:Int)))),some (.int (i:Nat)),z12,some (.ref hb),z14,z15,some (.ref td),some (.ref p),some (.ref q),some (.int (prod (Z.take j))),z20]/\H7=H6) ?_ ?_ ⟨_,rfl,rfl⟩
    ·rintro σ H7 ⟨z20,rfl,rfl⟩;refine⟨ep,?_⟩;subst hR;dsimp only;refine au fun R hR=>?_;ac_rfl;refine⟨_,eq,?_⟩;rw[EM];refine dZ (fun j σ H8=>∃z14,σ=[some (.fls (is.map PV.int)),some (.int k),some (.tup [.int c,.tup (ts.map prV),.tup (bs.map prV)]),some (.int 300),some (.int c),some (.tup (ts.map prV)),some (.tup (bs.map prV)),some (.ref xa),some (.bl f),some (.ref sa),some (.int (prod ns*prod (Hd.map fun ws:List Int=>(ws.length:Int)))),some (.int (i:Nat)),z12,some (.ref hb),z14,z15,some (.ref td),some (.ref p),some (.ref q),some (.int (prod (Z.take ((eo ts (i:Nat)).length+j)))),z20]/\H8=H7) ?_ ?_ ⟨_,rfl,rfl⟩
     ·rintro σ H8 ⟨z14,rfl,rfl⟩;refine⟨eq,?_⟩;rw[EM];have zz:Z.take ((eo ts (i:Nat)).length+(bpl bs (i:Nat)).length)=Z:=by
       refine List.take_of_length_le ?_;rw[hZ,EX,EM];unfold hsz;rw[EM];exact E2 _
      rw[zz];subst hR;ac_rfl;have hin:i<ns.length:=by omega
      have e1:atI (ns.map PV.int) (i:Nat)=some (.int (ns.getD ((i:Nat):Int).toNat 0)):=dn (by omega) (by omega);rw[FW]at e1;have nv:2≤ns.getD i 0/\ns.getD i 0≤4:=by
       rw[ER,EO hin];exact sz.n4 _ (FK hin)
      refine⟨⟨_,et6⟩,⟨by omega,by omega⟩,is,rfl,_,es6,?_⟩;rw[e1]
      try ac_rfl
      have lzt:=bF pt6;refine⟨⟨zle.1,by omega⟩,⟨by omega,nv.2⟩,fun p' H9 ys' Rw s9 hp' ep' pr lr hr'=>⟨zs,s9 _ _ et6,bz (by omega),kk _ _ ⟨zs++[.ref p'],Tb++[Rw],_,_,_,_,_,_,rfl,?_,ah,?_,by rw[EX,lt];rfl,fun k Rw' hk=>?_⟩⟩⟩
      ·exact(s6.trans s9).put htd
      ·have npt:p'≠td:=(ao et6 hp').symm;refine dS ⟨p',ys',rfl,npt,(aj npt).trans ep',bX (fun y ws ⟨r,e1,e2,_,e4⟩=>?_) pr⟩ (pV.up (fun a u n e=>(aj n).trans (s9 _ _ e)) pt6);have nrt:r≠td:=(ao et6 e4).symm;exact⟨r,e1,nrt,(aj nrt).trans e2⟩
      ·rcases kx hk with hk |⟨rfl,rfl⟩
       ·exact ht k Rw' hk
       ·rw[lt,eZ];exact⟨lr,by omega,hr'⟩
     ·rintro D2 j y σ H8 hy ⟨z14,rfl,rfl⟩ kk2;refine⟨eq,?_⟩;rw[E7]at hy;cases hg:(bpl bs (i:Nat))[j]? with
      | none=>rw[hg]at hy;cases hy
      | some k' =>
       rw[hg]at hy;cases hy;have hk':k'<bs.length:=mI (EZ hg);have ez:Z[(eo ts (i:Nat)).length+j]?=some ((Hd.getD k' []).length:Int):=by
        rw[hZ,FI (by rw[EM];omega),EM,Nat.add_sub_cancel_left];unfold hsz;rw[E7,hg];rfl
       have zn:=jz ez;have zv:=zpos _ (EZ ez);have z1:=zt ((eo ts (i:Nat)).length+j);have row:=dX pd (show k'<ys.length by omega) (show k'<Hd.length by omega);have e1:=fj (l:=ys) (show k'<ys.length by omega);have e2:Hd.getD k' []=Hd[k']'(by omega):=by rw[ER,EO (by omega)];rfl
       rw[e2]at zn zv;generalize Hd[k']'(by omega)=ws' at *;obtain⟨r',er,_,er2⟩:=row;rw[er]at e1
       try simp only[GB]
       ac_rfl;refine⟨_,eh6,?_⟩;rw[e1]
       try ac_rfl
       refine⟨_,s6 _ _ er2,?_⟩;rw[EM];exact⟨.inr ⟨dW (by omega) (by omega),dW (by omega) (by omega)⟩,kk2 _ _ ⟨_,by rw[Nat.add_assoc]at zn;rw[zn],rfl⟩⟩
    ·rintro D2 j y σ H7 hy ⟨z20,rfl,rfl⟩ kk2;refine⟨ep,?_⟩;rw[E7]at hy;cases hg:(eo ts (i:Nat))[j]? with
     | none=>rw[hg]at hy;cases hy
     | some u =>
      rw[hg]at hy;cases hy;have hu:=wI (EZ hg);have ez:Z[j]?=some (ns.getD u.toNat 0):=by
       rw[hZ,FJ (by rw[EM];exact(EV.mp hg).1),E7,hg];rfl
      have zn:=jz ez;have zv:=zpos _ (EZ ez);have z1:=zt j;have e1:atI (ns.map PV.int) u=some (.int (ns.getD u.toNat 0)):=dn (by omega) (by omega)
      try simp only[GB]
      ac_rfl;refine⟨_,es6,?_⟩;rw[e1]
      try ac_rfl
      exact⟨.inr ⟨dW (by omega) (by omega),dW (by omega) (by omega)⟩,kk2 _ _ ⟨_,by rw[zn],rfl⟩⟩
  ·rintro D i σ H3 hi ⟨ys,Hd,z12,z14,z15,rfl,s3,eh,pd,lh,h4,mst⟩ kk;refine⟨trivial,?_⟩;simp only[bc,F7,FY];refine au fun R hR=>?_;ac_rfl;have ex3:=s3 _ _ ex2;refine⟨ak (by decide),fun p hp=>⟨_,(aj (ao ex3 hp)).trans ex3,?_⟩⟩;have ei:atI (xs.map PV.int) (6+(i:Nat))=some (.int (xs.getD (6+((i:Nat):Int)).toNat 0)):=dn (by omega) (by rw[hxs];omega);rw[ei]
   try ac_rfl
   have fd:=fm (a:=xs.getD (6+((i:Nat):Int)).toNat 0) (b:=5) (by decide);obtain⟨e,he,e2⟩:=Df fd.1 fd.2;rw[he]
   try ac_rfl
   refine⟨by decide,?_⟩;have s4:=s3.put (o:=.lst [.int 1,.int 2,.int 2,.int 3,.int 4]) (s3.free hp);have eh4:=(aj (o:=.lst [.int 1,.int 2,.int 2,.int 3,.int 4]) (ao eh hp)).trans eh;have pd4:=kA.up (fun a u _ e=>(aj (o:=.lst [.int 1,.int 2,.int 2,.int 3,.int 4]) (ao e hp)).trans e) pd;generalize put H3 p (.lst [.int 1,.int 2,.int 2,.int 3,.int 4])=H4 at *;have q1:=bS (l:=Hd.map fun ws:List Int=>(ws.length:Int)) fun n hn=>by
    obtain⟨ws,hws,rfl⟩:=E3.mp hn;have:=h4 ws hws;omega
   have q2:1≤prod ns*prod (Hd.map fun ws:List Int=>(ws.length:Int)):=Int.le_trans p1 (jM (by omega) q1);subst hR;refine au fun R hR=>?_;have go:∀wd:Int,1≤wd/\wd≤4->prod ns*prod (Hd.map fun ws:List Int=>(ws.length:Int))*wd≤300->R D [some (.fls (is.map PV.int)),some (.int k),some (.tup [.int c,.tup (ts.map prV),.tup (bs.map prV)]),some (.int 300),some (.int c),some (.tup (ts.map prV)),some (.tup (bs.map prV)),some (.ref xa),some (.bl f),some (.ref sa),some (.int (prod ns*prod (Hd.map fun ws:List Int=>(ws.length:Int)))),z11,z12,some (.ref hb),some (.int (i:Nat)),some (.int wd),none,none,none,none,none] H4:=by
    intro wd w1 w3;subst hR;ac_rfl;refine⟨.inr ⟨dW (by omega) (by omega),dW (by omega) (by omega)⟩,⟨_,eh4⟩,_,s4 _ _ ex2,?_⟩;rw[ei]
    try ac_rfl
    have ly:=bF pd4;refine⟨dh (by decide) (by decide),w1,fun p' ws hp' hl sh=>⟨ys,(aj (ao eh4 hp')).trans eh4,bz (by omega),kk _ _ ⟨ys++[.ref p'],Hd++[ws],z12,some (.int (i:Nat)),some (.int wd),?_,(s4.put (s4.free hp')).put hhb,ah,?_,by rw[EX,lh];rfl,fun w hw=>?_,?_⟩⟩⟩
    ·rw[n6,hl,← FU]
    ·have npb:p'≠hb:=(ao eh4 hp').symm;exact dS ⟨p',rfl,npb,(aj npb).trans ah⟩ (kA.up (fun a u n e=>(aj n).trans ((aj (ao e hp')).trans e)) pd4)
    ·rcases Fu.mp hw with hw | hw
     ·exact h4 w hw
     ·rw[Fc.mp hw];exact⟨sh,by omega,by omega⟩
    ·rw[n6,hl,← FU];exact w3
   ac_rfl;refine⟨.inr ⟨dW (by omega) (by omega),dW (by omega) (by omega)⟩,aU (fun q=>go 1 (by decide) (by omega)) (fun q=>go e e2 ?_)⟩;have:=of_decide_eq_false q;omega
 ·rintro D i σ H2 hi ⟨ns,z11,z12,rfl,s2,es,sz⟩ kk;refine⟨trivial,?_⟩;have ln:=sz.ln;simp only[bc,F7,FY];refine au fun R hR=>?_;ac_rfl;refine⟨ak (by decide),fun p hp=>⟨_,(aj (ao (s2 _ _ ex) hp)).trans (s2 _ _ ex),?_⟩⟩;have ei:atI (xs.map PV.int) (i:Nat)=some (.int (xs.getD ((i:Nat):Int).toNat 0)):=dn (by omega) (by rw[hxs];omega);rw[ei]
  try ac_rfl
  have fd:=fm (a:=xs.getD ((i:Nat):Int).toNat 0) (b:=4) (by decide);obtain⟨e,he,e2⟩:=Eb fd.1 fd.2;rw[he]
  try ac_rfl
  have s3:=s2.put (o:=.lst [.int 2,.int 2,.int 3,.int 4]) (s2.free hp);have es3:=(aj (o:=.lst [.int 2,.int 2,.int 3,.int 4]) (ao es hp)).trans es;generalize put H2 p (.lst [.int 2,.int 2,.int 3,.int 4])=H3 at *;subst hR;ac_rfl;have p1:=bS (l:=ns) fun n hn=>by have:=sz.n4 n hn;omega
  have p2:=sz.le;have hh:=sz.half (i:=i) (by omega) e;have fd2:=h7 (a:=prod ns) (b:=2) (by omega) (by decide);have mf:gJ ((prod ns).fdiv 2) e:=.inr ⟨dW fd2.1 (by omega),dW (by omega) (by omega)⟩;refine⟨by decide,dh (by decide) (by decide),mf,dh (by decide) (by decide),aU (fun q=>⟨dh (by decide) (by decide),mf,_,i,es3,?_,kk _ _ ⟨ns.set i e,_,_,by rw[hh],s3.put hsa,by rw[ah,List.map_set],sz.set e2 ?_⟩⟩) (fun q=>kk _ _ ⟨ns,_,_,rfl,s3,es3,sz.up⟩)⟩
  ·unfold ixN;rw[Fq (by omega),Fq (by rw[EM];omega),FW]
  ·rw[←hh];exact Gf q
theorem BA{σ:St'}(hσ:∃z,σ=[z,some (.int b)])(hacc:H acc=none)(hl:Rw.length≤400)
  (k:∀ys H1,U.Sub H H1->H1 acc=some (.lst ys)->Paired (iC (fb b) (fun x=>H x≠none∨x=acc) H1) ys Rw->Q (.ref acc) H1) :
  dY (fun _=>True) (bc 0) vU (uOp uIx (ck (av (uCB (du fun x H Q=>bR x H fun l=>∀(p:Addr),H p=none->Q (PV.ref p) (put H p (PO.lst l))) (av (az 0) aX)) (av (az 0) aX))) (uOp eJ (az 1) (uC (PV.int 2)))) acc Q (Rw.map shT) σ (put H acc (.lst [])):=by
 obtain⟨z,rfl⟩:=hσ;refine eI (fun i σ H2=>∃z ys,σ=[z,some (.int b)]/\U.Sub H H2/\H2 acc=some (.lst ys)/\Paired (iC (fb b) (fun x=>H x≠none∨x=acc) H2) ys (Rw.take i)) ?_ ?_ ⟨_,[],rfl,(Sub.refl H).put hacc,ah,.nil⟩
 ·rintro i y σ H2 R hy ⟨z,ys,rfl,s2,ha,pd⟩ kk;refine⟨trivial,?_⟩;rw[E7]at hy;cases hg:Rw[i]? with
  | none=>rw[hg]at hy;cases hy
  | some ws =>
   rw[hg]at hy;cases hy;have hi:=(EV.mp hg).1;have ly:=bF pd;rw[FT]at ly;have et:Rw.take (i+1)=Rw.take i++[ws]:=by rw[FX,hg];rfl
   have sw:shT ws=.tup (shs ws):=rfl
   try simp only[GB]
   rw[sw];ac_rfl;intro p hp;refine⟨ak (by decide),fun p2 hp2=>?_⟩;have q2:=((Sub.refl H2).put (o:=.lst (shs ws)) hp).free hp2;have npa:=(ao ha hp).symm;have nqa:=(ao ha q2).symm;have npq:p≠p2:=fun e=>by subst e;rw[ah]at hp2;cases hp2
   have up:∀a u,H2 a=some u->put (put H2 p (.lst (shs ws))) p2 (.lst [.ref p,.tup (shs ws)]) a=some u:=fun a u e=>(aj (ao e q2)).trans ((aj (ao e hp)).trans e);have ep:put (put H2 p (.lst (shs ws))) p2 (.lst [.ref p,.tup (shs ws)]) p=some (.lst (shs ws)):=(aj npq).trans ah;generalize put (put H2 p (.lst (shs ws))) p2 (.lst [.ref p,.tup (shs ws)])=H3 at *;have s3:U.Sub H H3:=fun a u e=>up _ _ (s2 _ _ e);refine⟨by decide,?_⟩;have fd:=fm (a:=b) (b:=2) (by decide);have stp:∀y,iC (fb b) (fun x=>H x≠none∨x=acc) (put H3 acc (.lst (ys++[y]))) y ws->R [some (.tup (shs ws)),some (.int b)] (put H3 acc (.lst (ys++[y]))):=fun y q=>by
    refine kk _ _ ⟨_,ys++[y],rfl,s3.put hacc,ah,?_⟩;rw[et];refine dS q (iC.imp (fun r u n e=>⟨n,(aj fun e=>n (.inr e)).trans (up _ _ e)⟩) pd)
   rcases (show b.fmod 2=0∨b.fmod 2=1 by omega)with e | e
   ·rw[e];show di (some (PV.ref p)) _
    try ac_rfl
    refine⟨ys,up _ _ ha,bz (by omega),stp _ (.inr ⟨by unfold fb;rw[e];rfl,p,rfl,fun n=>?_,(aj npa).trans ep⟩)⟩;rcases n with n | n
    ·exact n (s2.free hp)
    ·exact npa n
   ·rw[e];show di (some (PV.tup (shs ws))) _
    try ac_rfl
    exact⟨ys,up _ _ ha,bz (by omega),stp _ (.inl ⟨by unfold fb;rw[e];rfl,rfl⟩)⟩
 ·rintro σ H2 ⟨z,ys,rfl,s2,ha,pd⟩;refine⟨trivial,k ys H2 s2 ha ?_⟩;rw[EM,F9]at pd;exact pd
theorem Cy(T:Tx K mg t):aT P w K mg base CX0 1 t.a_zu t.d_zu ["_law_told","_law_bits"] gr:=by
 refine okU (k:=0) T.F_zu ia (fun vs H Q E h=>bP h) (fun cdv A outer s H E B hr=>⟨_,(ag (cp (qv 0) (eE (n:=3) rfl (aW (aw (i:=2) ia.nd rfl (by first | exact Or.inl rfl | exact Or.inr rfl)) (aW (aw (i:=3) ia.nd rfl (by first | exact Or.inl rfl | exact Or.inr rfl)) (aW (aw (i:=4) ia.nd rfl (by first | exact Or.inl rfl | exact Or.inr rfl)) cV)))))
  (ag (ax (i:=5) ia.nd rfl (by first | exact Or.inl rfl | exact Or.inr rfl) (aF ae))
  (ag (cx Fx rfl (br (qv 4)) (aw (i:=6) ia.nd rfl (by first | exact Or.inl rfl | exact Or.inr rfl))
  (ag (bH (cH FC FD bU cn (qv 5) (aa (bt (N2:=["_law_row","_law_bits"]) (nt:=1) (js:=[1]) (cok (sc:=ai lA) (by exact rfl) (by repeat (first | exact trivial | refine⟨rfl,?_⟩)) rfl (by rfl) (by decide +kernel) (by decide +kernel) (by rfl) (by decide +kernel) (by rfl) (by rfl)) rfl (br (qv 6)) (fun s0 H0 fp ps=>⟨(aw (i:=0) (show List.Nodup (["_law_row","_law_bits"]:List Str) by decide +kernel) rfl (by first | exact Or.inl rfl | exact Or.inr rfl)),aZ,(aC (aF (aa (aE bf cu rfl T.b_list GD (aa (qv 0) ae)) (aa (qv 0) ae))) (aY (qv 1) af) (fun _ _=>rfl))⟩)) ae)))
   (ag (bh (aP (bo hr.units) bD (aY (aV (qv 1) af) af) af (aH _))
   (ar (cp (aE aK bx rfl T.b_tuple FV (aa (aC (qv 5) (c9 af) (fun _ _=>rfl)) ae)) (dt (qv 5) (c9 af))))
   aL)
   (ar (ax (i:=1) ia.nd rfl (by first | exact Or.inl rfl | exact Or.inr rfl) (aV (qv 1) af))))))
  (ar (aO (aF (aa (aE bf cu rfl T.b_list GD (aa (qv 2) ae)) (aa (bt (N2:=["_law_row","_law_bits"]) (nt:=1) (js:=[1]) (cok (sc:=ai lA) (by exact rfl) (by repeat (first | exact trivial | refine⟨rfl,?_⟩)) rfl (by rfl) (by decide +kernel) (by decide +kernel) (by rfl) (by decide +kernel) (by rfl) (by rfl)) rfl (br (qv 3)) (fun s0 H0 fp ps=>⟨(aw (i:=0) (show List.Nodup (["_law_row","_law_bits"]:List Str) by decide +kernel) rfl (by first | exact Or.inl rfl | exact Or.inr rfl)),aZ,(aC (aF (aa (aE bf cu rfl T.b_list GD (aa (qv 0) ae)) (aa (qv 0) ae))) (aY (qv 1) af) (fun _ _=>rfl))⟩)) (aa (qv 5) ae))))))))),?_⟩)
 intro vs H Q E h
 replace h:=bO h
 obtain⟨u,_,rfl,bits,_,rfl,rfl,h⟩:=h;obtain⟨a,b,c,rfl,h⟩:=h;obtain⟨ns,Hd,Tb,rfl,rfl,rfl,⟨l1,l2,l3⟩,h⟩:=h;refine au fun R hR=>?_;ac_rfl;subst hR;refine au fun R hR=>?_;ac_rfl;refine⟨ak (by decide),fun d hd=>?_⟩;subst hR;refine au fun R hR=>?_;ac_rfl;have m0:∀x,¬(x=d∨H x≠none)->H x=none:=fun x n=>Classical.byContradiction fun e=>n (.inr e);have m1:∀x,(x=d∨H x≠none)->put H d (.lst []) x≠none:=fun x e=>by
  by_cases q:x=d
  ·rw[q,ah];simp
  ·rw[aj q];exact e.elim (fun e=>absurd e q) id
 refine dZ (fun j σ H2=>∃N zs z6,σ=[some (.tup [.tup (ns.map PV.int),.tup (Hd.map shT),.tup (Tb.map tbT)]),some (.int (bj bits j)),some (.tup (ns.map PV.int)),some (.tup (Hd.map shT)),some (.tup (Tb.map tbT)),some (.ref d),z6]/\U.Sub H H2/\H2 d=some (.lst zs)/\zs.length=j/\(∀x,¬N x->H x=none)/\(∀t,PV.ref t∈zs->H t=none)/\Hnd bits N d H2 zs Tb) ?_ ?_ ⟨fun x=>x=d∨H x≠none,[],_,rfl,(Sub.refl H).put hd,ah,rfl,m0,(fun t q=>(by cases q)),.inl rfl,m1,fun i z Rw e=>by cases e⟩
 ·rintro σ H2 ⟨N,zs,z6,rfl,s2,ed,lz,nN,nT,hn⟩;refine⟨trivial,?_⟩;rw[EM]at *;subst hR;ac_rfl;intro a ha b hb;have s3:=s2.put (o:=.lst (ns.map PV.int)) (s2.free ha);have ea:put H2 a (.lst (ns.map PV.int)) a=some (.lst (ns.map PV.int)):=ah;have up3:∀x u,H2 x=some u->put H2 a (.lst (ns.map PV.int)) x=some u:=fun x u e=>(aj (ao e ha)).trans e;generalize put H2 a (.lst (ns.map PV.int))=H3 at *;refine BA ⟨_,rfl⟩ hb (by omega) fun ys H4 s4 eb pd=>⟨ak (by decide),fun r0 hr0=>⟨_,Sub.refl _,?_⟩⟩;have up:∀x u,H2 x=some u->put H4 r0 (.lst [.ref a,.ref b,.ref d]) x=some u:=fun x u e=>(aj (ao (s4 _ _ (up3 _ _ e)) hr0)).trans (s4 _ _ (up3 _ _ e));have s5:=(s3.trans s4).put (o:=.lst [.ref a,.ref b,.ref d]) ((s3.trans s4).free hr0);have ea4:=s4 _ _ ea;have ed4:=s4 _ _ (up3 _ _ ed);have nab:a≠b:=ao ea hb;have nda:d≠a:=ao ed ha;have ndb:d≠b:=ao (up3 _ _ ed) hb;refine h r0 a b d ys zs _ ⟨s5,ah,(aj (ao ea4 hr0)).trans ea4,(aj (ao eb hr0)).trans eb,(aj (ao ed4 hr0)).trans ed4,⟨nab,nda.symm,ndb.symm,ao ea4 hr0,ao eb hr0,ao ed4 hr0⟩,⟨s2.free ha,s3.free hb,hd⟩,ox (fun r u n e=>⟨?_,(aj (ao e hr0)).trans e⟩) pd,oQ (n9 lz fun i z Rw e1 e2=>?_)⟩
  ·rintro(q | q | q | q)
   ·exact n (.inl (by rw[q,ea];simp))
   ·exact n (.inr q)
   ·exact n (.inl (by rw[q,up3 _ _ ed];simp))
   ·exact ao e hr0 q
  ·obtain⟨ys',p,q⟩:=hn.tb i z Rw e1 e2;have m4:∀r u,r≠d->H2 r=some u->¬M4 a b d r0 r:=fun r u nd e q=>by
    rcases q with q | q | q | q
    ·exact ao e ha q
    ·exact ao (up3 _ _ e) hb q
    ·exact nd q
    ·exact ao (s4 _ _ (up3 _ _ e)) hr0 q
   refine⟨ys',ox (fun r u n e=>⟨m4 r u (fun q=>n (by rw[q];exact hn.nd)) e,up _ _ e⟩) p,?_⟩;rcases q with⟨_,q⟩ |⟨_,t,q,n1,_,e3⟩
   ·exact .inl q
   ·exact .inr ⟨t,q,m4 t _ n1 e3,up _ _ e3⟩
 ·rintro D j y σ H2 hy ⟨N,zs,z6,rfl,s2,ed,lz,nN,nT,hn⟩ kk;refine⟨trivial,?_⟩;simp only[bc,F7,FY];refine au fun R hR=>?_;rw[E7]at hy;cases hg:Tb[j]? with
  | none=>rw[hg]at hy;cases hy
  | some Rw =>
   rw[hg]at hy;cases hy;have r4:=l3 Rw (EZ hg);have hj:=(EV.mp hg).1;have tbe:tbT Rw=.tup (Rw.map shT):=rfl
   try simp only[GB]
   rw[tbe];ac_rfl;refine⟨⟨_,ed⟩,fun acc hacc=>?_⟩;refine BA ⟨_,rfl⟩ hacc r4 fun ys H3 s3 ea pd=>?_;refine⟨zs,s3 _ _ ed,bz (by omega),?_⟩;have nda:d≠acc:=ao ed hacc;have ed4:put H3 d (.lst (zs++[.ref acc])) d=some (.lst (zs++[.ref acc])):=ah;have ea4:=(aj (o:=.lst (zs++[.ref acc])) nda.symm).trans ea;have up:∀x u,x≠d->H3 x=some u->put H3 d (.lst (zs++[.ref acc])) x=some u:=fun x u n e=>(aj n).trans e;have s4:=(s2.trans s3).put (o:=.lst (zs++[.ref acc])) hd;generalize put H3 d (.lst (zs++[.ref acc]))=H4 at *;subst hR;refine au fun R hR=>?_;have go:∀z H5,U.Sub H H5->(∀x u,x≠d->H4 x=some u->H5 x=some u)->H5 d=some (.lst (zs++[z]))->(gb (bj bits j)=true/\z=.tup ys∨gb (bj bits j)=false/\z=.ref acc)->R D [some (.tup [.tup (ns.map PV.int),.tup (Hd.map shT),.tup (Tb.map tbT)]),some (.int (bj bits j)),some (.tup (ns.map PV.int)),some (.tup (Hd.map shT)),some (.tup (Tb.map tbT)),some (.ref d),some (.tup (Rw.map shT))] H5:=by
    intro z H5 s5 k5 ed5 hz;subst hR;ac_rfl;have rn:∀r u,¬(H2 r≠none∨r=acc)->H3 r=some u->¬(N r∨r=acc)/\H5 r=some u:=fun r u n e=>by
     have nd:r≠d:=fun q=>n (.inl (by rw[q,ed];simp));exact⟨fun q=>q.elim (fun q=>n (.inl (hn.ls r q))) fun q=>n (.inr q),k5 _ _ nd (up _ _ nd e)⟩
    refine⟨dh (by decide) (by decide),kk _ _ ⟨fun x=>N x∨x=acc,zs++[z],_,rfl,s5,ed5,by rw[EX,lz];rfl,fun x n=>nN x fun q=>n (.inl q),fun t ht=>?_,.inl hn.nd,?_,?_⟩⟩
    ·rcases Fu.mp ht with ht | ht
     ·exact nT t ht
     ·have e:=Fc.mp ht;rcases hz with⟨_,e'⟩ |⟨_,e'⟩
      ·rw[←e]at e';cases e'
      ·rw[←e]at e';cases e';exact s2.free hacc
    ·rintro x (nx | rfl)
     ·by_cases xd:x=d
      ·rw[xd,ed5];simp
      ·cases hx:H2 x with
       | none=>exact absurd hx (hn.ls x nx)
       | some u=>rw[k5 _ _ xd (up _ _ xd (s3 _ _ hx))];simp
     ·rw[k5 _ _ nda.symm ea4];simp
    ·intro i z' Rw' e1 e2;rcases kx e1 with e1 |⟨rfl,rfl⟩
     ·refine qh.imp (fun r u n e=>?_) (fun r u nd nr e=>⟨.inl nr,k5 _ _ nd (up _ _ nd (s3 _ _ e))⟩) (hn.tb i z' Rw' e1 e2);have nd:r≠d:=fun q=>n (by rw[q];exact hn.nd);exact⟨fun q=>q.elim n fun q=>ao e hacc q,k5 _ _ nd (up _ _ nd (s3 _ _ e))⟩
     ·rw[lz,hg]at e2;cases e2;rw[lz];refine⟨ys,iC.imp rn pd,?_⟩;rcases hz with⟨e,e'⟩ |⟨e,e'⟩
      ·exact .inl ⟨e,e'⟩
      ·exact .inr ⟨e,acc,e',nda.symm,.inr rfl,k5 _ _ nda.symm ea4⟩
   ac_rfl;refine⟨dh (by decide) (by decide),by decide,aU (fun q=>⟨_,ed4,?_⟩) (fun q=>go (.ref acc) H4 s4 (fun x u _ e=>e) ed4 (.inr ⟨FZ (by simpa using q),rfl⟩))⟩;rw[nZ]
   try ac_rfl
   refine⟨_,ea4,_,_,ed4,oI,?_⟩;rw[su];exact go (.tup ys) _ (s4.put hd) (fun x u n e=>(aj n).trans e) ah (.inl ⟨Ge (by simpa using q),rfl⟩)
theorem AR(T:Tx K mg t):aT P w K mg base CX0 4 t.a_zh t.d_zh ["_law_row","_law_way","_law_far"] dQ:=by
 refine okU (k:=3) T.F_zh xt (fun vs H Q E h=>bP h) (fun cdv A outer s H E B hr=>⟨_,(ag (ax (i:=3) xt.nd rfl (by first | exact Or.inl rfl | exact Or.inr rfl) (cS (aF (aa (aR (aa (ki (aC (aC (qv 0) af (fun _ _=>rfl)) af (fun _ _=>rfl)) (bQ (bI af (qv 2)) (aC (aC (qv 0) af (fun _ _=>rfl)) af (fun _ _=>rfl)))) (aa (aC (aC (qv 0) af (fun _ _=>rfl)) af (fun _ _=>rfl)) ae))) ae)) (aE bf cu rfl T.b_list GD (aa (cG (qv 0) (cL af) dm) ae))))
  (ag (bh (aP (bo hr.units) bD (qv 1) af (aH _))
  (ar (aO (cG (qv 0) (cL af) dm)))
  aL)
  (ag (bh (aP (bo hr.units) bD (qv 1) af (aH _))
  (ar (aO (cS (aE bf cu rfl T.b_list GD (aa (qv 0) ae)) (aF (aa (aR (aa af (aa af ae))) ae)))))
  aL)
  (ag (bh (aP (bo hr.units) bD (qv 1) af (aH _))
  (ar (aO (cS (cG (qv 3) dm (cL (c9 af))) (aF (aa (aR (aa (bI (aC (aC (qv 3) (c9 af) (fun _ _=>rfl)) af (fun _ _=>rfl)) (bQ (bI af (qv 2)) (aC (aC (qv 3) (c9 af) (fun _ _=>rfl)) af (fun _ _=>rfl)))) (aa (aC (aC (qv 3) (c9 af) (fun _ _=>rfl)) af (fun _ _=>rfl)) ae))) ae)))))
  aL)
  (ar (aO (cS (aE bf cu rfl T.b_list GD (aa (cG (qv 0) dm (cL (c9 af))) ae)) (aF (aa (ay (Bw T) (hr.mono (by decide)) rfl T.g_zp T.F_zp.kp T.B_zp (aa (bI (bQ (aC (aC (qv 0) (c9 af) (fun _ _=>rfl)) af (fun _ _=>rfl)) af) (aC (aC (qv 0) (c9 af) (fun _ _=>rfl)) af (fun _ _=>rfl))) (aa (bQ (aC (aC (qv 0) (c9 af) (fun _ _=>rfl)) af (fun _ _=>rfl)) af) ae))) ae))))))))),?_⟩)
 intro vs H Q E h
 replace h:=bO h
 obtain⟨v,_,rfl,way,_,rfl,far,_,rfl,rfl,h⟩:=h;obtain⟨ws,sh,l1,sq,hw,⟨f0,fB⟩,h⟩:=h;have fS:=fun p hp=>df sh p hp;obtain⟨w0,wr,rfl⟩:∃w0 wr,ws=w0::wr:=by
  cases ws with
  | nil=>simp at l1
  | cons w r=>exact⟨w,r,rfl⟩
 have l5:=sh.2.2.2.2;have lp:=cf (ws:=w0::wr);obtain⟨p0,pr,ep⟩:∃p0 pr,bg (w0::wr)=p0::pr:=⟨_,_,rfl⟩;have kB:=bn2 f0 fB;have fp0:=fS p0 (by rw[ep];exact E1);have e0:((bg (w0::wr)).map prV)=prV p0::pr.map prV:=by rw[ep];rfl
 have pB:My.BN 300 p0.2:=dg (by have:=fp0.b1;omega) (by have:=fp0.bk;omega);refine au fun R hR=>?_;have go:∀H3 p2,U.Sub H H3->H3 p2=some (.lst (((p0.1 - (2+far)*p0.2,p0.2)::pr).map prV))->R { nx:=fun x H=>∃H3,U.Sub H3 H/\Q PV.non H3,rt:=fun v H=>∃H3,U.Sub H3 H/\Q v H3 } [some v,some (.int way),some (.int far),some (.ref p2)] H3:=by
  intro H3 p2 s3 e2;subst hR;have sq3:=sq.up s3;have lq:1≤(prV p0::pr.map prV).length:=by rw[EU];omega
  have sq4:Seq H3 v (prV p0::pr.map prV):=by rw[←e0];exact sq3
  have lpr:pr.length+1=(w0::wr).length:=by rw[ep,EU]at lp;exact lp
  refine au fun R hR=>?_;ac_rfl;refine aU (fun q=>?_) (fun q=>?_)
  ·obtain rfl:way=0:=by simpa using q
   refine nF sq4 (sf lq) ?_ ?_
   ·rw[f9];exact⟨H3,Sub.refl _,h _ pr H3 s3 (.inl rfl) (A5 sh ep)⟩
   ·intro p hp;rw[f9];exact⟨_,Sub.refl _,h _ pr _ (s3.put (s3.free hp)) (.inr ⟨p,rfl,s3.free hp,ah⟩) (A5 sh ep)⟩
  subst hR;refine au fun R hR=>?_;ac_rfl;refine aU (fun q=>?_) (fun q=>?_)
  ·obtain rfl:way=1:=by simpa using q
   refine bK sq3 fun p hp=>?_;have s4:=s3.put (o:=.lst ((bg (w0::wr)).map prV)) (s3.free hp);have e4:put H3 p (.lst ((bg (w0::wr)).map prV)) p=some (.lst ((bg (w0::wr)).map prV)):=ah;generalize put H3 p (.lst ((bg (w0::wr)).map prV))=H4 at *
   try ac_rfl
   refine⟨ak (by decide),ak (by decide),fun p1 hp1=>⟨_,_,(aj (ao e4 hp1)).trans e4,rfl,ak (by rw[EM,lp];simp only[EU,Fh]at l5 ⊢;omega),fun p3 hp3=>?_⟩⟩;have s5:=s4.put (o:=.lst [.tup [.int 0,.int 1]]) (s4.free hp1);exact⟨_,Sub.refl _,h _ (bg (w0::wr)++[(0,1)]) _ (s5.put (s5.free hp3)) (.inr ⟨p3,rfl,s5.free hp3,by rw[ah,Fi];rfl⟩) (Eo sh)⟩
  subst hR;refine au fun R hR=>?_;obtain⟨qs,l,eq⟩:∃qs l,(p0.1 - (2+far)*p0.2,p0.2)::pr=qs++[l]:=by
   rcases List.eq_nil_or_concat ((p0.1 - (2+far)*p0.2,p0.2)::pr)with z |⟨qs,l,z⟩
   ·cases z
   ·exact⟨qs,l,by rw[z,List.concat_eq_append]⟩
  rw[eq,Fi,Fp,List.map_nil]at e2;ac_rfl;refine aU (fun q=>?_) (fun q=>?_)
  ·obtain rfl:way=2:=by simpa using q
   have lB:My.BN 300 l.2:=by
    have m:l∈(p0.1 - (2+far)*p0.2,p0.2)::pr:=by rw[eq];exact Ff _ E1
    rcases Fd.mp m with z | m
    ·rw[z];exact pB
    ·have f:=fS l (by rw[ep];exact EY _ m);exact dg (by have:=f.b1;omega) (by have:=f.bk;omega)
   have lqs:qs.length≤900:=by
    have z:=congrArg List.length eq;simp only[EU,EX,Fh]at z l5 lpr;omega
   refine⟨_,e2,fun p hp=>?_⟩;rw[ig];have s4:=s3.put (o:=.lst (qs.map prV)) (s3.free hp);have e4:=(aj (o:=.lst (qs.map prV)) (ao e2 hp)).trans e2;have g4:put H3 p (.lst (qs.map prV)) p=some (.lst (qs.map prV)):=ah;generalize put H3 p (.lst (qs.map prV))=H4 at *;refine⟨_,e4,?_⟩;ac_rfl;refine⟨_,e4,?_⟩;ac_rfl;refine⟨.inr ⟨iY kB,iY lB⟩,_,e4,?_⟩;ac_rfl;refine⟨ak (by decide),ak (by decide),fun p1 hp1=>⟨_,_,(aj (ao g4 hp1)).trans g4,rfl,ak (by rw[EM];simp only[EU,Fh];omega),fun p3 hp3=>?_⟩⟩;have s5:=s4.put (o:=.lst [.tup [.int (l.1+(2+far)*l.2),.int l.2]]) (s4.free hp1);exact⟨_,Sub.refl _,h _ (qs++[(l.1+(2+far)*l.2,l.2)]) _ (s5.put (s5.free hp3)) (.inr ⟨p3,rfl,s5.free hp3,by rw[ah,Fi];rfl⟩) (Dp sh (by omega) ep eq)⟩
  subst hR;obtain⟨rs,m,er⟩:∃rs m,bg (w0::wr)=rs++[m]:=by
   rcases List.eq_nil_or_concat (bg (w0::wr))with z |⟨qs,l,z⟩
   ·rw[ep]at z;cases z
   ·exact⟨qs,l,by rw[z,List.concat_eq_append]⟩
  have sq5:Seq H3 v (rs.map prV++[prV m]):=by rw[er,Fi]at sq3;exact sq3
  have fm:=fS m (by rw[er];exact Ff _ E1);have lrs:rs.length≤900:=by
   have z:=congrArg List.length er;rw[lp]at z;simp only[EU,EX,Fh]at z l5;omega
  obtain rfl:way=3:=by
   have:¬way=0:=by simpa using ‹(way==0)=false›
   have:¬way=1:=by simpa using ‹(way==1)=false›
   have:¬way=2:=by simpa using ‹(way==2)=false›
   omega
  have m1:=fm.a0;have m2:=fm.ab;have m3:=fm.b1;have m4:=fm.bk;ac_rfl;have go2:∀(x:PV) H4,U.Sub H H4->Seq H4 x (rs.map prV)->U.Sub H3 H4->bR x H4 fun l=>∀p,H4 p=none->bR v (put H4 p (.lst l)) fun l_1=>di (atI l_1 (-1)) fun v_1=>bR v_1 (put H4 p (.lst l)) fun l_2=>di (atI l_2 0) fun v_2=>cc v_2 fun i=>gJ i 7/\bR v (put H4 p (.lst l)) fun l_3=>di (atI l_3 (-1)) fun v_3=>bR v_3 (put H4 p (.lst l)) fun l_4=>di (atI l_4 1) fun v_4=>cc v_4 fun j=>bR v (put H4 p (.lst l)) fun l_5=>di (atI l_5 (-1)) fun v=>bR v (put H4 p (.lst l)) fun l_6=>di (atI l_6 1) fun v=>cc v fun i_1=>gJ i_1 7/\My.BN 300 (i_1*7)/\1≤sizeLine/\∀p_1,put H4 p (.lst l) p_1=none->∃l_7 m,put (put H4 p (.lst l)) p_1 (.lst [.tup [.int (My.cF (i*7+j) (i_1*7)).1,.int (My.cF (i*7+j) (i_1*7)).2]]) p=some (.lst l_7)/\[PV.tup [.int (My.cF (i*7+j) (i_1*7)).1,.int (My.cF (i*7+j) (i_1*7)).2]]=m/\l_7.length+m.length≤sizeLine/\∀p_2,put (put H4 p (.lst l)) p_1 (.lst [.tup [.int (My.cF (i*7+j) (i_1*7)).1,.int (My.cF (i*7+j) (i_1*7)).2]]) p_2=none->∃H3,U.Sub H3 (put (put (put H4 p (.lst l)) p_1 (.lst [.tup [.int (My.cF (i*7+j) (i_1*7)).1,.int (My.cF (i*7+j) (i_1*7)).2]])) p_2 (.lst (l_7++m)))/\Q (.ref p_2) H3:=by
   intro x H4 s4 sx s34;refine bK sx fun p hp=>?_;have sq6:=(sq5.up s34).up ((Sub.refl H4).put (o:=.lst (rs.map prV)) hp);have s5:=s4.put (o:=.lst (rs.map prV)) (s4.free hp);have e5:put H4 p (.lst (rs.map prV)) p=some (.lst (rs.map prV)):=ah;generalize put H4 p (.lst (rs.map prV))=H5 at *;refine bK sq6 ?_;ac_rfl;refine⟨.inr ⟨dW m1 (by omega),dW (by decide) (by decide)⟩,bK sq6 ?_⟩;ac_rfl;refine bK sq6 ?_;ac_rfl;refine⟨.inr ⟨dW (by omega) (by omega),dW (by decide) (by decide)⟩,dg (by omega) (by omega),ak (by decide),fun p1 hp1=>⟨_,_,(aj (ao e5 hp1)).trans e5,rfl,ak (by rw[EM];simp only[EU,Fh];omega),fun p3 hp3=>?_⟩⟩;rw[iH (by omega)]at *;have s6:=s5.put (o:=.lst [.tup [.int (shr (m.2*7) (m.1*7+m.2)).1,.int (shr (m.2*7) (m.1*7+m.2)).2]]) (s5.free hp1);exact⟨_,Sub.refl _,h _ (rs++[shr (m.2*7) (m.1*7+m.2)]) _ (s6.put (s6.free hp3)) (.inr ⟨p3,rfl,s6.free hp3,by rw[ah,Fi];rfl⟩) (DI sh er)⟩
  refine nF sq5 (zW (by rw[EX];simp)) ?_ ?_
  ·rw[ig];exact go2 _ H3 s3 (.inl rfl) (Sub.refl _)
  ·intro q hq;rw[ig];exact go2 _ _ (s3.put (s3.free hq)) (.inr ⟨q,rfl,ah⟩) ((Sub.refl _).put hq)
 have lq:1≤(prV p0::pr.map prV).length:=by rw[EU];omega
 have mB:gJ (2+far) p0.2:=.inr ⟨iY kB,iY pB⟩;rw[e0]at sq;ac_rfl;refine bK sq ?_;ac_rfl;refine bK sq ?_;ac_rfl;refine⟨mB,?_⟩;refine bK sq ?_;ac_rfl;refine⟨ak (by decide),ak (by decide),fun p hp=>?_⟩;have s1:=(Sub.refl H).put (o:=.lst [.tup [.int (p0.1 - (2+far)*p0.2),.int p0.2]]) hp;have e1:put H p (.lst [.tup [.int (p0.1 - (2+far)*p0.2),.int p0.2]]) p=some (.lst [.tup [.int (p0.1 - (2+far)*p0.2),.int p0.2]]):=ah;generalize put H p (.lst [.tup [.int (p0.1 - (2+far)*p0.2),.int p0.2]])=H1 at *;have sz:(pr.map prV).length≤900:=by rw[EM];rw[ep,EU]at lp;omega
 refine nF (sq.up s1) (sf lq) ?_ ?_
 ·rw[f9];ac_rfl;intro p1 hp1;refine⟨_,_,(aj (ao e1 hp1)).trans e1,rfl,ak (by simp only[EU,Fh];omega),fun p2 hp2=>go _ p2 ?_ ah⟩;exact(s1.put (s1.free hp1)).put ((s1.put (s1.free hp1)).free hp2)
 ·intro q hq;rw[f9];have s2:=s1.put (o:=.lst (pr.map prV)) (s1.free hq);have e2:=(aj (o:=.lst (pr.map prV)) (ao e1 hq)).trans e1;have g2:put H1 q (.lst (pr.map prV)) q=some (.lst (pr.map prV)):=ah;generalize put H1 q (.lst (pr.map prV))=H2 at *;ac_rfl;refine⟨_,g2,fun p1 hp1=>?_⟩;refine⟨_,_,(aj (ao e2 hp1)).trans e2,rfl,ak (by simp only[EU,Fh];omega),fun p2 hp2=>go _ p2 ?_ ah⟩;exact(s2.put (s2.free hp1)).put ((s2.put (s2.free hp1)).free hp2)
theorem EC(h:hG vs H Q E):bZ (cj (az 0) (yY 3 (eA (bc 4) (eA (bc 5) (eA (bc 6) nQ))))) (bZ (cj (uOp eJ (az 2) (uCB j0 (av (az 4) aX))) (bc 7)) (bZ (d9 (bY (uOp (eW fun b=>b) (az 1) (uC (PV.int 0)))) (cj (uOp uIx (ck (av (uC (PV.int 1)) (av (uC (PV.int 5)) (av (uOp By (uC (PV.int 0)) (az 3)) (av (uOp pY (uC (PV.int 6)) (az 3)) aX))))) (uOp eJ (uOp eG (az 2) (uC (PV.int 6))) (uC (PV.int 4)))) (kq (az 4) (az 7))) cI) (bZ (d9 (bY (uOp (eW fun b=>b) (az 1) (uC (PV.int 1)))) (cj (uOp uIx (ck (av (fg (az 4) (gE (uC (PV.int 1))) eO) (av (uOp gW (az 4) (ck (av (uC (PV.int 2)) aX))) aX))) (uOp eJ (az 2) (uC (PV.int 2)))) (bc 4)) cI) (bZ (d9 (bY (uOp (eW fun b=>b) (az 1) (uC (PV.int 2)))) (cj (uOp uIx (ck (av (uOp gW (az 5) (ck (av (ck (av (gS (av (uC (PV.int 1)) (av (uC (PV.int 1)) aX))) aX)) aX))) (av (uOp gW (fg (az 5) (gE (uC (PV.int 1))) eO) (uOp jU (ck (av (ck (av (gS (av (uC (PV.int 1)) (av (uC (PV.int 1)) aX))) aX)) aX)) (uCB yE (av (uOp (nR fun b=>b) (az 5) (ck aX)) aX)))) aX))) (uOp eJ (az 2) (uC (PV.int 2)))) (bc 5)) cI) (bZ (d9 (rE (bY (uOp (eW fun b=>b) (az 1) (uC (PV.int 3)))) (bY (uOp (nR fun b=>!b) (az 5) (ck aX)))) (cj (uOp uIx (ck (av (ck aX) (av (uOp jU (ck (av (gS (av (uC (PV.int 1)) (av (uC (PV.int 5)) aX))) aX)) (uC (PV.int 5))) aX))) (uOp eJ (uOp eG (az 2) (uC (PV.int 6))) (uC (PV.int 2)))) (kq (az 5) (uOp eJ (az 2) (uCB j0 (av (az 5) aX))))) cI) (bZ (d9 (rE (bY (uOp (eW fun b=>b) (az 1) (uC (PV.int 4)))) (bY (uOp (nR fun b=>!b) (az 5) (ck aX)))) (bZ (cj (uOp eJ (az 2) (uCB j0 (av (az 5) aX))) (bc 7)) (bZ (cj (c8 dQ X0 (av (uOp uIx (az 5) (az 7)) (av (uOp pY (uC (PV.int 2)) (uOp eJ (uOp eG (az 2) (uC (PV.int 6))) (uC (PV.int 2)))) (av (az 3) aX)))) (kq (az 5) (az 7))) (d9 (bY (uOp (eW fun b=>b) (uCB j0 (av (uOp uIx (az 5) (az 7)) aX)) (uC (PV.int 1)))) (cj (ck (av (gS (av (uOp pY (uC (PV.int 1)) (az 3)) (av (uOp pY (uC (PV.int 2)) (az 3)) aX))) aX)) (kq (az 5) (az 7))) cI))) cI) (bZ (d9 (bY (uOp (eW fun b=>b) (az 1) (uC (PV.int 5)))) (cj (uOp uIx (ck (av (fg (az 6) (gE (uC (PV.int 1))) eO) (av (uOp gW (az 6) (ck (av (uOp uIx (az 6) (uC (PV.int 0))) aX))) aX))) (uOp eJ (az 2) (uC (PV.int 2)))) (bc 6)) cI) (bZ (d9 (bY (uOp (eW fun b=>b) (az 1) (uC (PV.int 6)))) (bZ (cj (uCB jI (av (uOp uIx (az 6) (az 7)) aX)) (bc 8)) (cj (uOp uIx (ck (av (fg (az 8) (gE (uC (PV.int 1))) eO) (av (uOp gW (az 8) (ck (av (uOp uIx (az 8) (uC (PV.int 0))) aX))) aX))) (uOp eJ (uOp eG (az 2) (uC (PV.int 6))) (uC (PV.int 2)))) (kq (az 6) (az 7)))) cI) (bZ (d9 (bY (uOp (eW fun b=>b) (az 1) (uC (PV.int 7)))) (bZ (cj (uOp eJ (uOp eG (az 2) (uC (PV.int 24))) (uCB j0 (av (uOp uIx (az 6) (az 7)) aX))) (bc 9)) (bZ (cj (uCB jI (av (uOp uIx (az 6) (az 7)) aX)) (bc 10)) (bZ (cj (c8 dQ X0 (av (uOp uIx (az 10) (az 9)) (av (uOp eJ (uOp eG (az 2) (uC (PV.int 6))) (uC (PV.int 4))) (av (az 3) aX)))) (kq (az 10) (az 9))) (cj (az 10) (kq (az 6) (az 7)))))) cI) (rh (ck (av (az 4) (av (az 5) (av (az 6) aX)))))))))))))) (ends Q) (cZ [Str.ofString "_law_rows_here",Str.ofString "_law_way",Str.ofString "_law_cell",Str.ofString "_law_far",Str.ofString "_law_sizes",Str.ofString "_law_hidden",Str.ofString "_law_tables",Str.ofString "_law_at",Str.ofString "_law_told",Str.ofString "_law_row",Str.ofString "_law_held"] vs) H:=by
 replace h:=bO h
 obtain⟨r0,_,rfl,way,_,rfl,cell,_,rfl,far,_,rfl,rfl,h⟩:=h;obtain⟨H0,a,b,d,c,ts,bs,ns,Hd,Tb,ys,zs,hn,og,hw,h34,⟨f0,fB⟩,h⟩:=h;have c6:=og.hs.hc;have b6:=og.hs.l6;have ln:=og.hw.ln;have lh:=og.hw.lh;have lt:=og.hw.lt;refine au fun R hR=>?_;ac_rfl;refine⟨_,hn.er,?_⟩
 try ac_rfl
 subst hR;refine au fun R hR=>?_;ac_rfl;refine⟨_,hn.ea,by rw[EM];omega,?_⟩;rw[EM];subst hR;have st:BSt H0 r0 c ts bs ns Hd Tb way cell far 0 [some (.ref r0),some (.int way),some (.int cell),some (.int far),some (.ref a),some (.ref b),some (.ref d),some (.int (cell.fmod (ns.length:Nat))),none,none,none] H:=.inl ⟨hw.1,a,b,d,ys,zs,none,none,none,rfl,hn⟩;clear hn;revert st;generalize [some (PV.ref r0),some (.int way),some (.int cell),some (.int far),some (.ref a),some (.ref b),some (.ref d),some (.int (cell.fmod (ns.length:Nat))),none,none,none]=σ;intro st;have at0:=fm (a:=cell) (b:=((ns.length:Nat):Int)) (by omega);refine au fun R hR=>?_
 suffices nx:∀σ' H',BSt H0 r0 c ts bs ns Hd Tb way cell far 1 σ' H'->R { nx:=fun x H=>∃H3,U.Sub H3 H/\Q PV.non H3,rt:=fun v H=>∃H3,U.Sub H3 H/\Q v H3 } σ' H' by
  rcases st with⟨ge,a,b,d,ys,zs,z8,z9,z10,rfl,hn⟩ |⟨lt,a,b,d,ns1,Hs1,Ts1,ys,zs,z7,z8,z9,z10,rfl,fb,nf⟩
  ·ac_rfl;refine aU (fun q=>?_) (fun q=>?wf0)
   case wf0 =>
    have:¬way=0:=by simpa using q
    exact nx _ _ (.inl ⟨by omega,a,b,d,ys,zs,z8,z9,z10,rfl,hn⟩)
   obtain rfl:way=0:=by simpa using q
   refine⟨ak (by decide),fun p hp=>⟨dh (by decide) (by decide),by decide,?_⟩⟩;have fd:=fm (a:=cell.fdiv 6) (b:=4) (by decide);obtain⟨v,ev,nv⟩:=DP f0 fd.1 fd.2;rw[ev]
   try ac_rfl
   have u1:=(Sub.refl H).put (o:=.lst [.int 1,.int 5,.int (0 - far),.int (6+far)]) hp;generalize put H p (.lst [.int 1,.int 5,.int (0 - far),.int (6+far)])=K1 at *;have ch:=hn.ch (o:=.lst ((ns.set (cell.fmod (ns.length:Nat)).toNat v).map PV.int)) u1 (.inl rfl);have fb:=hn.fnb og;refine⟨_,_,u1 _ _ hn.ea,eU at0.1 (by rw[EM];exact at0.2),?_⟩;rw[←List.map_set];exact nx _ _ (.inr ⟨by decide,a,b,d,ns.set (cell.fmod (ns.length:Nat)).toNat v,_,_,ys,zs,_,z8,z9,z10,rfl,⟨(hn.sb.trans u1).put hn.fr.1,ah,(aj hn.ne.1.symm).trans (u1 _ _ hn.eb),(aj hn.ne.2.1.symm).trans (u1 _ _ hn.ed),ch.1,ch.2,⟨by rw[FR];exact fb.ln.1,fb.ln.2⟩,fb.hb,fb.hT⟩,vx (n:=v) (List.mem_set (by omega) v) nv⟩)
  ·ac_rfl;exact bw (by simp;omega) (nx _ _ (.inr ⟨by omega,a,b,d,ns1,Hs1,Ts1,ys,zs,z7,z8,z9,z10,rfl,fb,nf⟩))
 subst hR;clear st;intro σ H1 st;refine au fun R hR=>?_
 suffices nx:∀σ' H',BSt H0 r0 c ts bs ns Hd Tb way cell far 2 σ' H'->R { nx:=fun x H=>∃H3,U.Sub H3 H/\Q PV.non H3,rt:=fun v H=>∃H3,U.Sub H3 H/\Q v H3 } σ' H' by
  rcases st with⟨ge,a,b,d,ys,zs,z8,z9,z10,rfl,hn⟩ |⟨lt,a,b,d,ns1,Hs1,Ts1,ys,zs,z7,z8,z9,z10,rfl,fb,nf⟩
  ·ac_rfl;refine aU (fun q=>?_) (fun q=>?wf1)
   case wf1 =>
    have:¬way=1:=by simpa using q
    exact nx _ _ (.inl ⟨by omega,a,b,d,ys,zs,z8,z9,z10,rfl,hn⟩)
   obtain rfl:way=1:=by simpa using q
   have c1:cX (ns.map PV.int) (some 1) none=(ns.drop 1).map PV.int:=by rw[show cX (ns.map PV.int) (some 1) none=_ from eH (ns.map PV.int) 1,List.map_drop]
   refine⟨_,hn.ea,fun p hp=>⟨ak (by decide),fun p1 hp1=>?_⟩⟩;rw[c1]at *;have u1:=(Sub.refl H1).put (o:=.lst ((ns.drop 1).map PV.int)) hp;have e1:put H1 p (.lst ((ns.drop 1).map PV.int)) p=some (.lst ((ns.drop 1).map PV.int)):=ah;generalize put H1 p (.lst ((ns.drop 1).map PV.int))=K1 at *;have u2:=(Sub.refl K1).put (o:=.lst [.int 2]) hp1;generalize put K1 p1 (.lst [.int 2])=K2 at *;have u12:=u1.trans u2;refine⟨_,_,u12 _ _ hn.ea,rfl,ak (by rw[EM];simp only[EU,Fh];omega),fun p2 hp2=>⟨ak (by decide),fun p3 hp3=>⟨by decide,?_⟩⟩⟩;have u3:=(Sub.refl K2).put (o:=.lst (ns.map PV.int++[.int 2])) hp2;have e3:put K2 p2 (.lst (ns.map PV.int++[.int 2])) p2=some (.lst (ns.map PV.int++[.int 2])):=ah;generalize put K2 p2 (.lst (ns.map PV.int++[.int 2]))=K3 at *;have u4:=(Sub.refl K3).put (o:=.lst [.ref p,.ref p2]) hp3;generalize put K3 p3 (.lst [.ref p,.ref p2])=K4 at *;have fb:=(hn.fnb og).up (u12.trans (u3.trans u4));rcases two (x:=cell)with e | e
   ·rw[e]
    try ac_rfl
    exact nx _ _ (.inr ⟨by decide,p,b,d,ns.drop 1,_,_,ys,zs,_,z8,z9,z10,rfl,⟨fb.sb,u4 _ _ (u3 _ _ (u2 _ _ e1)),fb.eb,fb.ed,fb.rw,fb.tb,⟨by rw[Gi];omega,fb.ln.2⟩,fb.hb,fb.hT⟩,u0 (by rw[Gi];omega)⟩)
   ·rw[e]
    try ac_rfl
    exact nx _ _ (.inr ⟨by decide,p2,b,d,ns++[2],_,_,ys,zs,_,z8,z9,z10,rfl,⟨fb.sb,by rw[Fi];exact u4 _ _ e3,fb.eb,fb.ed,fb.rw,fb.tb,⟨by rw[EX];simp only[EU,Fh];omega,fb.ln.2⟩,fb.hb,fb.hT⟩,u0 (by rw[EX];simp only[EU,Fh];omega)⟩)
  ·ac_rfl;exact bw (by simp;omega) (nx _ _ (.inr ⟨by omega,a,b,d,ns1,Hs1,Ts1,ys,zs,z7,z8,z9,z10,rfl,fb,nf⟩))
 subst hR;clear st;intro σ H1 st;refine au fun R hR=>?_
 suffices nx:∀σ' H',BSt H0 r0 c ts bs ns Hd Tb way cell far 3 σ' H'->R { nx:=fun x H=>∃H3,U.Sub H3 H/\Q PV.non H3,rt:=fun v H=>∃H3,U.Sub H3 H/\Q v H3 } σ' H' by
  rcases st with⟨ge,a,b,d,ys,zs,z8,z9,z10,rfl,hn⟩ |⟨lt,a,b,d,ns1,Hs1,Ts1,ys,zs,z7,z8,z9,z10,rfl,fb,nf⟩
  ·ac_rfl;refine aU (fun q=>?_) (fun q=>?wf2)
   case wf2 =>
    have:¬way=2:=by simpa using q
    exact nx _ _ (.inl ⟨by omega,a,b,d,ys,zs,z8,z9,z10,rfl,hn⟩)
   obtain rfl:way=2:=by simpa using q
   have ly:=bF hn.rw;rw[EM]at ly;refine⟨ak (by decide),ak (by decide),fun p hp=>⟨ak (by decide),fun p1 hp1=>?_⟩⟩;have u1:=(Sub.refl H1).put (o:=.lst [.tup [.int 1,.int 1]]) hp;have e1:put H1 p (.lst [.tup [.int 1,.int 1]]) p=some (.lst [.tup [.int 1,.int 1]]):=ah;generalize put H1 p (.lst [.tup [.int 1,.int 1]])=K1 at *;have u2:=(Sub.refl K1).put (o:=.lst [.ref p]) hp1;generalize put K1 p1 (.lst [.ref p])=K2 at *;have w2:=u1.trans u2;refine⟨_,_,w2 _ _ hn.eb,rfl,ak (by simp only[EU,Fh];omega),fun p2 hp2=>?_⟩;have u3:=(Sub.refl K2).put (o:=.lst (ys++[.ref p])) hp2;have e3:put K2 p2 (.lst (ys++[.ref p])) p2=some (.lst (ys++[.ref p])):=ah;generalize put K2 p2 (.lst (ys++[.ref p]))=K3 at *;have w3:=w2.trans u3;refine⟨_,w3 _ _ hn.eb,fun p3 hp3=>?_⟩;rw[show cX ys (some 1) none=ys.drop 1 from eH ys 1]at *;have u4:=(Sub.refl K3).put (o:=.lst (ys.drop 1)) hp3;have e4:put K3 p3 (.lst (ys.drop 1)) p3=some (.lst (ys.drop 1)):=ah;generalize put K3 p3 (.lst (ys.drop 1))=K4 at *;have w4:=w3.trans u4;refine⟨ak (by decide),ak (by decide),fun p4 hp4=>⟨ak (by decide),fun p5 hp5=>⟨FP _,fun p6 hp6=>?_⟩⟩⟩;have u5:=(Sub.refl K4).put (o:=.lst [.tup [.int 1,.int 1]]) hp4;have e5:put K4 p4 (.lst [.tup [.int 1,.int 1]]) p4=some (.lst [.tup [.int 1,.int 1]]):=ah;generalize put K4 p4 (.lst [.tup [.int 1,.int 1]])=K5 at *;have u6:=(Sub.refl K5).put (o:=.lst [.ref p4]) hp5;have e6:put K5 p5 (.lst [.ref p4]) p5=some (.lst [.ref p4]):=ah;generalize put K5 p5 (.lst [.ref p4])=K6 at *;have u7:=(Sub.refl K6).put (o:=.lst []) hp6;generalize put K6 p6 (.lst [])=K7 at *;have w7:=w4.trans (u5.trans (u6.trans u7));have bb:b2n ys.isEmpty=0∨b2n ys.isEmpty=1:=by cases ys.isEmpty<;>decide
   refine⟨_,w7 _ _ hn.eb,_,u7 _ _ e6,⟨by omega,by omega⟩,by simp,fun p7 hp7=>?_⟩;have fl:(List.replicate (b2n ys.isEmpty).toNat [PV.ref p4]).flatten=if ys=[]then [PV.ref p4]else []:=by
    cases ys with
    | nil=>rfl
    | cons=>rfl
   rw[fl]at *;have u8:=(Sub.refl K7).put (o:=.lst (if ys=[]then [PV.ref p4]else [])) hp7;generalize put K7 p7 (.lst (if ys=[]then [PV.ref p4]else []))=K8 at *;have e48:=u8 _ _ (u7 _ _ (u6 _ _ (u5 _ _ e4)));refine⟨_,_,e48,rfl,ak (by rw[Gi];split<;>simp only[EU,Fh]<;>omega),fun p8 hp8=>⟨ak (by decide),fun p9 hp9=>⟨by decide,?_⟩⟩⟩;have u9:=(Sub.refl K8).put (o:=.lst (ys.drop 1++if ys=[]then [PV.ref p4]else [])) hp8;have e9:put K8 p8 (.lst (ys.drop 1++if ys=[]then [PV.ref p4]else [])) p8=some (.lst (ys.drop 1++if ys=[]then [PV.ref p4]else [])):=ah;generalize put K8 p8 (.lst (ys.drop 1++if ys=[]then [PV.ref p4]else []))=K9 at *;have u10:=(Sub.refl K9).put (o:=.lst [.ref p2,.ref p8]) hp9;generalize put K9 p9 (.lst [.ref p2,.ref p8])=K10 at *;have w8:=u8.trans (u9.trans u10);have fb:=(hn.fnb og).up (w7.trans w8);have f1:K10 p=some (.lst (([(1,1)]:List DM.P2).map prV)):=w8 _ _ (u7 _ _ (u6 _ _ (u5 _ _ (u4 _ _ (u3 _ _ (u2 _ _ e1))))));have f5:K10 p4=some (.lst (([(1,1)]:List DM.P2).map prV)):=w8 _ _ (u7 _ _ (u6 _ _ e5));rcases two (x:=cell)with e | e
   ·rw[e]
    try ac_rfl
    refine nx _ _ (.inr ⟨by decide,a,p2,d,ns,Hd.map bg++[[(1,1)]],_,ys++[.ref p],zs,_,z8,z9,z10,rfl,⟨fb.sb,fb.ea,w8 _ _ (u7 _ _ (u6 _ _ (u5 _ _ (u4 _ _ e3)))),fb.ed,dS (.inr ⟨p,rfl,f1⟩) fb.rw,fb.tb,⟨fb.ln.1,by rw[EX,EM];simp only[EU,Fh];omega,fb.ln.2.2⟩,fun ps hps=>?_,fb.hT⟩,mP (by rw[EX,EM];simp only[EU,Fh];omega)⟩);rcases Fu.mp hps with hps | hps
    ·exact fb.hb ps hps
    ·rw[Fc.mp hps];exact xq
   ·rw[e]
    try ac_rfl
    have rwq:=fb.rw;cases Hd with
    | nil =>
     cases rwq;refine nx _ _ (.inr ⟨by decide,a,p8,d,ns,[[(1,1)]],_,[.ref p4],zs,_,z8,z9,z10,rfl,⟨fb.sb,fb.ea,u10 _ _ e9,fb.ed,.cons (.inr ⟨p4,rfl,f5⟩) .nil,fb.tb,⟨fb.ln.1,by simp,fb.ln.2.2⟩,fun ps hps=>by rw[Fc.mp hps];exact xq,fb.hT⟩,mP (by simp at lh ⊢;omega)⟩)
    | cons h0 hr =>
     cases rwq with
     | cons x0 xr =>
     rename_i y0 yr;refine nx _ _ (.inr ⟨by decide,a,p8,d,ns,hr.map bg,_,yr,zs,_,z8,z9,z10,rfl,⟨fb.sb,fb.ea,?_,fb.ed,xr,fb.tb,⟨fb.ln.1,by rw[EM];simp only[EU]at lh;omega,fb.ln.2.2⟩,fun ps hps=>fb.hb ps (EY _ hps),fb.hT⟩,mP (by rw[EM];simp only[EU]at lh;omega)⟩);have:=u10 _ _ e9;rw[Fo (by simp),FH]at this;exact this
  ·ac_rfl;exact bw (by simp;omega) (nx _ _ (.inr ⟨by omega,a,b,d,ns1,Hs1,Ts1,ys,zs,z7,z8,z9,z10,rfl,fb,nf⟩))
 subst hR;clear st;intro σ H1 st;refine au fun R hR=>?_
 suffices nx:∀σ' H',BSt H0 r0 c ts bs ns Hd Tb way cell far 4 σ' H'->R { nx:=fun x H=>∃H3,U.Sub H3 H/\Q PV.non H3,rt:=fun v H=>∃H3,U.Sub H3 H/\Q v H3 } σ' H' by
  rcases st with⟨ge,a,b,d,ys,zs,z8,z9,z10,rfl,hn⟩ |⟨lt,a,b,d,ns1,Hs1,Ts1,ys,zs,z7,z8,z9,z10,rfl,fb,nf⟩
  ·ac_rfl;refine aU (fun q=>?_) (fun q=>?wf3)
   case wf3 =>
    have:¬way=3:=by simpa using q
    exact nx _ _ (.inl ⟨by omega,a,b,d,ys,zs,z8,z9,z10,rfl,hn⟩)
   obtain rfl:way=3:=by simpa using q
   have ly:=bF hn.rw;rw[EM]at ly;have ne:bs≠[]:=h34 (.inl rfl);have l1:1≤ys.length:=by
    have:bs.length≠0:=fun z=>ne (List.eq_nil_of_length_eq_zero z);omega
   refine⟨FP _,fun p hp=>?_⟩;have u1:=(Sub.refl H1).put (o:=.lst []) hp;generalize put H1 p (.lst [])=K1 at *;refine⟨_,u1 _ _ hn.eb,bM (by cases ys with
    | nil=>simp at l1
    | cons=>rfl) ?_⟩
   have jb:=fm (a:=cell) (b:=((ys.length:Nat):Int)) (by omega);have fbS:∀(K:PHp) (v:PV) (ps:List DM.P2),U.Sub H1 K->(v=rwV ps∨∃q,v=.ref q/\q≠b/\K q=some (.lst (ps.map prV)))->cE ps->¬((1≤ps.length/\ps.length≤4)/\eX ps)->∀z7,BSt H0 r0 c ts bs ns Hd Tb 3 cell far 4 [some (.ref r0),some (.int 3),some (.int cell),some (.int far),some (.ref a),some (.ref b),some (.ref d),z7,z8,z9,z10] (put K b (.lst (ys.set (cell.fmod (ys.length:Nat)).toNat v))):=fun K v ps s hv rb bad z7=>by
    have ch:=hn.ch (o:=.lst (ys.set (cell.fmod (ys.length:Nat)).toNat v)) s (.inr (.inl rfl));have fb:=hn.fnb og;refine .inr ⟨by decide,a,b,d,ns,(Hd.map bg).set (cell.fmod (ys.length:Nat)).toNat ps,_,_,zs,z7,z8,z9,z10,rfl,⟨(hn.sb.trans s).put hn.fr.2.1,(aj hn.ne.1).trans (s _ _ hn.ea),ah,(aj hn.ne.2.2.1.symm).trans (s _ _ hn.ed),iS ch.1 ?_,ch.2,⟨fb.ln.1,by rw[FR];exact fb.ln.2.1,fb.ln.2.2⟩,fun qs hq=>?_,fb.hT⟩,uB (ps:=ps) (List.mem_set (by rw[EM];omega) ps) bad⟩
    ·rcases hv with e |⟨q,e,nq,eq⟩
     ·exact .inl e
     ·exact .inr ⟨q,e,(aj nq).trans eq⟩
    ·rcases FQ hq with hq | rfl
     ·exact fb.hb qs hq
     ·exact rb
   refine⟨FP _,fun p1 hp1=>?_⟩;have u2:=(Sub.refl K1).put (o:=.lst []) hp1;have e2:put K1 p1 (.lst []) p1=some (.lst []):=ah;generalize put K1 p1 (.lst [])=K2 at *;refine⟨ak (by decide),ak (by decide),fun p2 hp2=>?_⟩;have u3:=(Sub.refl K2).put (o:=.lst [.tup [.int 1,.int 5]]) hp2;generalize put K2 p2 (.lst [.tup [.int 1,.int 5]])=K3 at *;refine⟨⟨by decide,by decide⟩,by decide,fun p3 hp3=>?_⟩;have er:(List.replicate (Int.toNat 5) [PV.tup [.int 1,.int 5]]).flatten=(List.replicate 5 ((1,5):DM.P2)).map prV:=rfl;rw[er]at *;have u4:=(Sub.refl K3).put (o:=.lst ((List.replicate 5 ((1,5):DM.P2)).map prV)) hp3;have e4:put K3 p3 (.lst ((List.replicate 5 ((1,5):DM.P2)).map prV)) p3=some (.lst ((List.replicate 5 ((1,5):DM.P2)).map prV)):=ah;generalize put K3 p3 (.lst ((List.replicate 5 ((1,5):DM.P2)).map prV))=K4 at *;refine⟨ak (by decide),fun p4 hp4=>⟨dh (by decide) (by decide),by decide,?_⟩⟩;have u5:=(Sub.refl K4).put (o:=.lst [.ref p1,.ref p3]) hp4;generalize put K4 p4 (.lst [.ref p1,.ref p3])=K5 at *;have ub:=u1.trans (u2.trans (u3.trans (u4.trans u5)));have b1:b≠p1:=ao (u1 _ _ hn.eb) hp1;have b3:b≠p3:=ao (u3 _ _ (u2 _ _ (u1 _ _ hn.eb))) hp3;rcases two (x:=cell.fdiv 6)with e | e
   ·rw[e]
    try ac_rfl
    exact⟨_,ub _ _ hn.eb,by omega,_,_,ub _ _ hn.eb,eU jb.1 jb.2,nx _ _ (fbS K5 _ [] ub (.inr ⟨p1,rfl,b1.symm,u5 _ _ (u4 _ _ (u3 _ _ e2))⟩) xX (fun z=>by have:=z.1.1;simp at this) _)⟩
   ·rw[e]
    try ac_rfl
    exact⟨_,ub _ _ hn.eb,by omega,_,_,ub _ _ hn.eb,eU jb.1 jb.2,nx _ _ (fbS K5 _ _ ub (.inr ⟨p3,rfl,b3.symm,u5 _ _ e4⟩) Cu (fun z=>by have:=z.1.2;simp at this) _)⟩
  ·ac_rfl;exact bw (by simp;omega) (nx _ _ (.inr ⟨by omega,a,b,d,ns1,Hs1,Ts1,ys,zs,z7,z8,z9,z10,rfl,fb,nf⟩))
 subst hR;clear st;intro σ H1 st;refine au fun R hR=>?_
 suffices nx:∀σ' H',BSt H0 r0 c ts bs ns Hd Tb way cell far 5 σ' H'->R { nx:=fun x H=>∃H3,U.Sub H3 H/\Q PV.non H3,rt:=fun v H=>∃H3,U.Sub H3 H/\Q v H3 } σ' H' by
  rcases st with⟨ge,a,b,d,ys,zs,z8,z9,z10,rfl,hn⟩ |⟨lt,a,b,d,ns1,Hs1,Ts1,ys,zs,z7,z8,z9,z10,rfl,fb,nf⟩
  ·ac_rfl;refine aU (fun q=>?_) (fun q=>?wf4)
   case wf4 =>
    have:¬way=4:=by simpa using q
    exact nx _ _ (.inl ⟨by omega,a,b,d,ys,zs,z8,z9,z10,rfl,hn⟩)
   obtain rfl:way=4:=by simpa using q
   have ly:=bF hn.rw;rw[EM]at ly;have ne:bs≠[]:=h34 (.inr rfl);have l1:1≤ys.length:=by
    have:bs.length≠0:=fun z=>ne (List.eq_nil_of_length_eq_zero z);omega
   refine⟨FP _,fun p hp=>?_⟩;have u1:=(Sub.refl H1).put (o:=.lst []) hp;generalize put H1 p (.lst [])=K1 at *;refine⟨_,u1 _ _ hn.eb,bM (by cases ys with
    | nil=>simp at l1
    | cons=>rfl) ?_⟩
   have jb:=fm (a:=cell) (b:=((ys.length:Nat):Int)) (by omega);have fbS:∀(K:PHp) (v:PV) (ps:List DM.P2),U.Sub H1 K->(v=rwV ps∨∃q,v=.ref q/\q≠b/\K q=some (.lst (ps.map prV)))->cE ps->¬((1≤ps.length/\ps.length≤4)/\eX ps)->∀z7,BSt H0 r0 c ts bs ns Hd Tb 4 cell far 5 [some (.ref r0),some (.int 4),some (.int cell),some (.int far),some (.ref a),some (.ref b),some (.ref d),z7,z8,z9,z10] (put K b (.lst (ys.set (cell.fmod (ys.length:Nat)).toNat v))):=fun K v ps s hv rb bad z7=>by
    have ch:=hn.ch (o:=.lst (ys.set (cell.fmod (ys.length:Nat)).toNat v)) s (.inr (.inl rfl));have fb:=hn.fnb og;refine .inr ⟨by decide,a,b,d,ns,(Hd.map bg).set (cell.fmod (ys.length:Nat)).toNat ps,_,_,zs,z7,z8,z9,z10,rfl,⟨(hn.sb.trans s).put hn.fr.2.1,(aj hn.ne.1).trans (s _ _ hn.ea),ah,(aj hn.ne.2.2.1.symm).trans (s _ _ hn.ed),iS ch.1 ?_,ch.2,⟨fb.ln.1,by rw[FR];exact fb.ln.2.1,fb.ln.2.2⟩,fun qs hq=>?_,fb.hT⟩,uB (ps:=ps) (List.mem_set (by rw[EM];omega) ps) bad⟩
    ·rcases hv with e |⟨q,e,nq,eq⟩
     ·exact .inl e
     ·exact .inr ⟨q,e,(aj nq).trans eq⟩
    ·rcases FQ hq with hq | rfl
     ·exact fb.hb qs hq
     ·exact rb
   have jl:(cell.fmod (ys.length:Nat)).toNat<ys.length:=by omega
   have row:=dX hn.rw jl (by rw[EM];omega);have eat:=fj (l:=ys) jl;rw[Int.toNat_of_nonneg jb.1]at eat
   have hg:Hd[(cell.fmod (ys.length:Nat)).toNat]?=some (Hd[(cell.fmod (ys.length:Nat)).toNat]'(by omega)):=EO (by omega);rw[Ga]at row;generalize Hd[(cell.fmod (ys.length:Nat)).toNat]'(by omega)=ws at *;have h4:=og.hw.h4 ws (EZ hg);have sq:Seq H1 ys[(cell.fmod (ys.length:Nat)).toNat] ((bg ws).map prV):=Or.imp id (fun y_=>by obtain⟨r,e,_,e2⟩:=y_;exact ⟨r,e,e2⟩) row;refine⟨_,u1 _ _ hn.eb,by omega,_,u1 _ _ hn.eb,?_⟩;rw[eat]
   try ac_rfl
   have t2:=two (x:=cell.fdiv 6);refine⟨dh (by decide) (by decide),by decide,ws,h4.1,h4.2.1,sq.up u1,⟨by omega,by omega⟩,⟨f0,fB⟩,fun w ps K2 u2 nr bn=>?_⟩;have u12:=u1.trans u2;have sv:w=rwV ps∨∃q,w=.ref q/\q≠b/\K2 q=some (.lst (ps.map prV)):=Or.imp id (fun y_=>by obtain⟨q,e,n,e2⟩:=y_;exact ⟨q,e,(ao (u1 _ _ hn.eb) n).symm,e2⟩) nr;have lps:ps.length=ws.length:=by
    rcases t2 with e | e
    ·exact(bn.w2 (by omega)).1
    ·exact(bn.w3 (by omega)).1
   refine⟨_,_,u12 _ _ hn.eb,eU jb.1 jb.2,?_⟩;have ea2:atI (ys.set (cell.fmod (ys.length:Nat)).toNat w) (cell.fmod (ys.length:Nat))=some w:=by
    unfold atI;rw[FR,eU jb.1 jb.2];show(ys.set _ w)[_]?=_;rw[FA jl]
   rw[ea2]
   try ac_rfl
   have sw:Seq (put K2 b (.lst (ys.set (cell.fmod (ys.length:Nat)).toNat w))) w (ps.map prV):=sv.imp id fun⟨q,e,n,e2⟩=>⟨q,e,(aj n).trans e2⟩;refine bK sw ?_;rw[EM];refine aU (fun q=>?_) (fun q=>?_)
   ·refine⟨ak (by decide),ak (by decide),fun p2 hp2=>?_⟩;have nb2:p2≠b:=fun z=>by rw[z,ah]at hp2;cases hp2
    have rf:=zj f0 fB;have z2:=fbS (put K2 p2 (.lst [.tup [.int (1+far),.int (2+far)]])) (.ref p2) [(1+far,2+far)] (u12.put (u12.free (by rw[aj nb2]at hp2;exact hp2))) (.inr ⟨p2,rfl,nb2,ah⟩) rf.1 (fun z=>rf.2 z.2) (some (.int (cell.fmod (ys.length:Nat))));have eq:put (put (put K2 b (.lst (ys.set (cell.fmod (ys.length:Nat)).toNat w))) p2 (.lst [.tup [.int (1+far),.int (2+far)]])) b (.lst ((ys.set (cell.fmod (ys.length:Nat)).toNat w).set (cell.fmod (ys.length:Nat)).toNat (.ref p2)))=put (put K2 p2 (.lst [.tup [.int (1+far),.int (2+far)]])) b (.lst (ys.set (cell.fmod (ys.length:Nat)).toNat (.ref p2))):=by
     rw[List.set_set];funext x;by_cases xb:x=b
     ·rw[xb,ah,ah]
     ·rw[aj xb,aj xb];by_cases xp:x=p2
      ·rw[xp,ah,ah]
      ·rw[aj xp,aj xp,aj xb]
    refine⟨_,_,(aj nb2.symm).trans ah,eU jb.1 (by rw[FR];exact jb.2),?_⟩;rw[eq];exact nx _ _ z2
   ·have q:¬(ps.length:Int)=1:=by simpa using q
    refine nx _ _ (fbS K2 w ps u12 sv bn.rb (fun z=>?_) _);rcases t2 with e | e
    ·exact(bn.w2 (by omega)).2 (by omega) z.2
    ·exact(bn.w3 (by omega)).2 z.2
  ·ac_rfl;exact bw (by simp;omega) (nx _ _ (.inr ⟨by omega,a,b,d,ns1,Hs1,Ts1,ys,zs,z7,z8,z9,z10,rfl,fb,nf⟩))
 subst hR;clear st;intro σ H1 st;refine au fun R hR=>?_
 suffices nx:∀σ' H',BSt H0 r0 c ts bs ns Hd Tb way cell far 6 σ' H'->R { nx:=fun x H=>∃H3,U.Sub H3 H/\Q PV.non H3,rt:=fun v H=>∃H3,U.Sub H3 H/\Q v H3 } σ' H' by
  rcases st with⟨ge,a,b,d,ys,zs,z8,z9,z10,rfl,hn⟩ |⟨lt,a,b,d,ns1,Hs1,Ts1,ys,zs,z7,z8,z9,z10,rfl,fb,nf⟩
  ·ac_rfl;refine aU (fun q=>?_) (fun q=>?wf5)
   case wf5 =>
    have:¬way=5:=by simpa using q
    exact nx _ _ (.inl ⟨by omega,a,b,d,ys,zs,z8,z9,z10,rfl,hn⟩)
   obtain rfl:way=5:=by simpa using q
   have lz:=bF hn.tb;rw[EM]at lz;have c1:cX zs (some 1) none=zs.drop 1:=eH zs 1;refine⟨_,hn.ed,fun p hp=>?_⟩;rw[c1]at *;have u1:=(Sub.refl H1).put (o:=.lst (zs.drop 1)) hp;have e1:put H1 p (.lst (zs.drop 1)) p=some (.lst (zs.drop 1)):=ah;generalize put H1 p (.lst (zs.drop 1))=K1 at *;refine⟨_,u1 _ _ hn.ed,?_⟩;obtain⟨z0,zr,rfl⟩:∃z0 zr,zs=z0::zr:=by
    cases zs with
    | nil=>simp at lz;omega
    | cons z r=>exact⟨z,r,rfl⟩
   rw[cn0]
   try ac_rfl
   refine⟨ak (by decide),fun p1 hp1=>?_⟩;have u2:=(Sub.refl K1).put (o:=.lst [z0]) hp1;generalize put K1 p1 (.lst [z0])=K2 at *;have u12:=u1.trans u2;refine⟨_,_,u12 _ _ hn.ed,rfl,ak (by simp only[EU,Fh]at lz ⊢;omega),fun p2 hp2=>⟨ak (by decide),fun p3 hp3=>⟨by decide,?_⟩⟩⟩;have u3:=(Sub.refl K2).put (o:=.lst (z0::zr++[z0])) hp2;have e3:put K2 p2 (.lst (z0::zr++[z0])) p2=some (.lst (z0::zr++[z0])):=ah;generalize put K2 p2 (.lst (z0::zr++[z0]))=K3 at *;have u4:=(Sub.refl K3).put (o:=.lst [.ref p,.ref p2]) hp3;generalize put K3 p3 (.lst [.ref p,.ref p2])=K4 at *;have fb:=(hn.fnb og).up (u12.trans (u3.trans u4));obtain⟨T0,Tr,eT⟩:∃T0 Tr,(Tb.map fun Rw=>Rw.map bg)=T0::Tr:=by
    cases Tb with
    | nil=>simp at lz
    | cons z r=>exact⟨_,_,rfl⟩
   have lT:=congrArg List.length eT;rw[EM,EU]at lT;have tb:=fb.tb;have hT:=fb.hT;rw[eT]at tb hT;cases tb with
   | cons t0 tr =>
   rcases two (x:=cell)with e | e
   ·rw[e]
    try ac_rfl
    exact nx _ _ (.inr ⟨by decide,a,b,p,ns,_,Tr,ys,zr,_,z8,z9,z10,rfl,⟨fb.sb,fb.ea,fb.eb,u4 _ _ (u3 _ _ (u2 _ _ e1)),fb.rw,tr,⟨fb.ln.1,fb.ln.2.1,by omega⟩,fb.hb,fun Rs hR=>hT Rs (EY _ hR)⟩,tN (by omega)⟩)
   ·rw[e]
    try ac_rfl
    refine nx _ _ (.inr ⟨by decide,a,b,p2,ns,_,(T0::Tr)++[T0],ys,z0::zr++[z0],_,z8,z9,z10,rfl,⟨fb.sb,fb.ea,fb.eb,u4 _ _ e3,fb.rw,dS t0 (.cons t0 tr),⟨fb.ln.1,fb.ln.2.1,by rw[EX,EU];simp only[EU,Fh];omega⟩,fb.hb,fun Rs hR=>?_⟩,tN (by rw[EX,EU];simp only[EU,Fh];omega)⟩);rcases Fu.mp hR with hR | hR
    ·exact hT Rs hR
    ·rw[Fc.mp hR];exact hT T0 E1
  ·ac_rfl;exact bw (by simp;omega) (nx _ _ (.inr ⟨by omega,a,b,d,ns1,Hs1,Ts1,ys,zs,z7,z8,z9,z10,rfl,fb,nf⟩))
 subst hR;clear st;intro σ H1 st;refine au fun R hR=>?_
 suffices nx:∀σ' H',BSt H0 r0 c ts bs ns Hd Tb way cell far 7 σ' H'->R { nx:=fun x H=>∃H3,U.Sub H3 H/\Q PV.non H3,rt:=fun v H=>∃H3,U.Sub H3 H/\Q v H3 } σ' H' by
  rcases st with⟨ge,a,b,d,ys,zs,z8,z9,z10,rfl,hn⟩ |⟨lt,a,b,d,ns1,Hs1,Ts1,ys,zs,z7,z8,z9,z10,rfl,fb,nf⟩
  ·ac_rfl;refine aU (fun q=>?_) (fun q=>?wf6)
   case wf6 =>
    have:¬way=6:=by simpa using q
    exact nx _ _ (.inl ⟨by omega,a,b,d,ys,zs,z8,z9,z10,rfl,hn⟩)
   obtain rfl:way=6:=by simpa using q
   have lz:=bF hn.tb;rw[EM]at lz;have jl:(cell.fmod (ns.length:Nat)).toNat<zs.length:=by omega
   have tab:=dX hn.tb jl (by rw[EM];omega);have eat:=fj (l:=zs) jl;rw[Int.toNat_of_nonneg at0.1]at eat
   have hg:Tb[(cell.fmod (ns.length:Nat)).toNat]?=some (Tb[(cell.fmod (ns.length:Nat)).toNat]'(by omega)):=EO (by omega);rw[Ga]at tab;generalize Tb[(cell.fmod (ns.length:Nat)).toNat]'(by omega)=Rw at *;have tw:=og.hw.tb _ Rw hg;obtain⟨rs,prs,hz⟩:=tab;have sq:Seq H1 zs[(cell.fmod (ns.length:Nat)).toNat] rs:=Or.imp id (fun y_=>by obtain⟨r,e,_,e2⟩:=y_;exact ⟨r,e,e2⟩) hz;have lr:=bF prs;rw[EM]at lr;have R1:1≤Rw.length:=by
    have:=(jR (n:=(((cell.fmod (ns.length:Nat)).toNat:Nat):Int)) og.hs ⟨by omega,by omega⟩ ln og.hw.n4 lh og.hw.h4).1;have:=tw.1;omega
   have fbS:∀(K:PHp) (q:Addr) (rs':List PV) (Rs:List (List DM.P2)),U.Sub H1 K->q≠d->K q=some (.lst rs')->Paired (cN K) rs' Rs->(∀y∈rs',y≠.ref d)->(Rs.length≤1000/\∀ps∈Rs,cE ps)->¬TbO (prod (hdz ns Hd ts bs (((cell.fmod (ns.length:Nat)).toNat:Nat):Int))) (ns.getD (cell.fmod (ns.length:Nat)).toNat 0) Rs->∀z8 z9 z10,BSt H0 r0 c ts bs ns Hd Tb 6 cell far 7 [some (.ref r0),some (.int 6),some (.int cell),some (.int far),some (.ref a),some (.ref b),some (.ref d),some (.int (cell.fmod (ns.length:Nat))),z8,z9,z10] (put K d (.lst (zs.set (cell.fmod (ns.length:Nat)).toNat (.ref q)))):=fun K q rs' Rs s nq eq pr nd rb bad z8 z9 z10=>by
    have ch:=hn.ch (o:=.lst (zs.set (cell.fmod (ns.length:Nat)).toNat (.ref q))) s (.inr (.inr (.inl rfl)));have fb:=hn.fnb og;have pr2:Paired (cN (put K d (.lst (zs.set (cell.fmod (ns.length:Nat)).toNat (.ref q))))) rs' Rs:=n9 (bF pr) fun i y ps e1 e2=>by
     have hi:=(EV.mp e1).1;have hj:=(EV.mp e2).1;have r:=dX pr hi hj;rw[(EV.mp e1).2,(EV.mp e2).2]at r;rcases r with r |⟨x,r,e3⟩
     ·exact .inl r
     ·exact .inr ⟨x,r,(aj fun z=>nd y (EZ e1) (by rw[r,z])).trans e3⟩
    refine .inr ⟨by decide,a,b,d,ns,_,(Tb.map fun Rw=>Rw.map bg).set (cell.fmod (ns.length:Nat)).toNat Rs,ys,_,_,z8,z9,z10,rfl,⟨(hn.sb.trans s).put hn.fr.2.2,(aj hn.ne.2.1).trans (s _ _ hn.ea),(aj hn.ne.2.2.1).trans (s _ _ hn.eb),ah,ch.1,iS ch.2 ⟨rs',.inr ⟨q,rfl,(aj nq).trans eq⟩,pr2⟩,⟨fb.ln.1,fb.ln.2.1,by rw[FR];exact fb.ln.2.2⟩,fb.hb,fun Qs hq=>?_⟩,sG (k:=(cell.fmod (ns.length:Nat)).toNat) (Rs:=Rs) (by rw[FA (by rw[EM];omega)]) (by rw[mO];exact bad)⟩;rcases FQ hq with hq | rfl
    ·exact fb.hT Qs hq
    ·exact rb
   have rbs:∀ps∈Rw.map bg,cE ps:=fun ps hp=>(og.tb _ (E3.mpr ⟨Rw,EZ hg,rfl⟩)).2 ps hp;have nds:∀y∈rs,y≠.ref d:=fun y hy z=>by
    obtain⟨ps,_,r⟩:=dq prs hy;rcases r with r |⟨x,r,n,_⟩
    ·rw[r]at z;cases z
    ·rw[r]at z;cases z;exact n (.inr (.inr (.inl rfl)))
   refine⟨_,hn.ed,?_⟩;rw[eat]
   try ac_rfl
   refine bK sq fun p hp=>?_;have u1:=(Sub.refl H1).put (o:=.lst rs) hp;have e1:put H1 p (.lst rs) p=some (.lst rs):=ah;generalize put H1 p (.lst rs)=K1 at *;rw[show cX rs (some 1) none=rs.drop 1 from eH rs 1]at *;intro p1 hp1;have u2:=(Sub.refl K1).put (o:=.lst (rs.drop 1)) hp1;have e2:put K1 p1 (.lst (rs.drop 1)) p1=some (.lst (rs.drop 1)):=ah;generalize put K1 p1 (.lst (rs.drop 1))=K2 at *;refine⟨_,u2 _ _ e1,?_⟩;obtain⟨y0,yr,rfl⟩:∃y0 yr,rs=y0::yr:=by
    cases rs with
    | nil=>simp at lr;omega
    | cons z r=>exact⟨z,r,rfl⟩
   rw[cn0]
   try ac_rfl
   refine⟨ak (by decide),fun p2 hp2=>?_⟩;have u3:=(Sub.refl K2).put (o:=.lst [y0]) hp2;generalize put K2 p2 (.lst [y0])=K3 at *;refine⟨_,_,u3 _ _ (u2 _ _ e1),rfl,ak (by have:=tw.2.1;simp only[EU,Fh]at lr ⊢;omega),fun p3 hp3=>⟨ak (by decide),fun p4 hp4=>⟨dh (by decide) (by decide),by decide,?_⟩⟩⟩;have u4:=(Sub.refl K3).put (o:=.lst (y0::yr++[y0])) hp3;have e4:put K3 p3 (.lst (y0::yr++[y0])) p3=some (.lst (y0::yr++[y0])):=ah;generalize put K3 p3 (.lst (y0::yr++[y0]))=K4 at *;have u5:=(Sub.refl K4).put (o:=.lst [.ref p1,.ref p3]) hp4;generalize put K4 p4 (.lst [.ref p1,.ref p3])=K5 at *;have w3:=u1.trans (u2.trans u3);have w5:=w3.trans (u4.trans u5);have d1:p1≠d:=(ao (u1 _ _ hn.ed) hp1).symm;have d3:p3≠d:=(ao (w3 _ _ hn.ed) hp3).symm;obtain⟨R0,Rr,eR⟩:∃R0 Rr,Rw.map bg=R0::Rr:=by
    cases Rw with
    | nil=>simp at R1
    | cons z r=>exact⟨_,_,rfl⟩
   have lR:=congrArg List.length eR;rw[EM,EU]at lR;have pr5:=cN.up w5 (fX prs);rw[eR]at pr5 rbs;cases pr5 with
   | cons x0 xr =>
   have t4:=tw.2.1;rcases two (x:=cell.fdiv 6)with e | e
   ·rw[e]
    try ac_rfl
    exact⟨_,_,w5 _ _ hn.ed,eU at0.1 (by omega),nx _ _ (fbS K5 p1 yr Rr w5 d1 (u5 _ _ (u4 _ _ (u3 _ _ e2))) xr (fun y hy=>nds y (EY _ hy)) ⟨by omega,fun ps hp=>rbs ps (EY _ hp)⟩ (fun z=>by have:=z.1;have:=tw.1;omega) _ _ _)⟩
   ·rw[e]
    try ac_rfl
    refine⟨_,_,w5 _ _ hn.ed,eU at0.1 (by omega),nx _ _ (fbS K5 p3 (y0::yr++[y0]) ((R0::Rr)++[R0]) w5 d3 (u5 _ _ e4) (dS x0 (.cons x0 xr)) (fun y hy=>?_) ⟨?_,fun ps hp=>?_⟩ (fun z=>?_) _ _ _)⟩
    ·rcases Fu.mp hy with hy | hy
     ·exact nds y hy
     ·rw[Fc.mp hy];exact nds y0 E1
    ·rw[EX,EU];simp only[EU,Fh];omega
    ·rcases Fu.mp hp with hp | hp
     ·exact rbs ps hp
     ·rw[Fc.mp hp];exact rbs R0 E1
    ·have:=z.1;have:=tw.1;rw[EX,EU]at *;simp only[EU,Fh]at *;omega
  ·ac_rfl;exact bw (by simp;omega) (nx _ _ (.inr ⟨by omega,a,b,d,ns1,Hs1,Ts1,ys,zs,z7,z8,z9,z10,rfl,fb,nf⟩))
 subst hR;clear st;intro σ H1 st;refine au fun R hR=>?_
 suffices nx:∀σ' H',BSt H0 r0 c ts bs ns Hd Tb way cell far 8 σ' H'->R { nx:=fun x H=>∃H3,U.Sub H3 H/\Q PV.non H3,rt:=fun v H=>∃H3,U.Sub H3 H/\Q v H3 } σ' H' by
  rcases st with⟨ge,a,b,d,ys,zs,z8,z9,z10,rfl,hn⟩ |⟨lt,a,b,d,ns1,Hs1,Ts1,ys,zs,z7,z8,z9,z10,rfl,fb,nf⟩
  ·ac_rfl;refine aU (fun q=>?_) (fun q=>?wf7)
   case wf7 =>
    have:¬way=7:=by simpa using q
    exact nx _ _ (.inl ⟨by omega,a,b,d,ys,zs,z8,z9,z10,rfl,hn⟩)
   obtain rfl:way=7:=by simpa using q
   have lz:=bF hn.tb;rw[EM]at lz;have jl:(cell.fmod (ns.length:Nat)).toNat<zs.length:=by omega
   have tab:=dX hn.tb jl (by rw[EM];omega);have eat:=fj (l:=zs) jl;rw[Int.toNat_of_nonneg at0.1]at eat
   have hg:Tb[(cell.fmod (ns.length:Nat)).toNat]?=some (Tb[(cell.fmod (ns.length:Nat)).toNat]'(by omega)):=EO (by omega);rw[Ga]at tab;generalize Tb[(cell.fmod (ns.length:Nat)).toNat]'(by omega)=Rw at *;have tw:=og.hw.tb _ Rw hg;obtain⟨rs,prs,hz⟩:=tab;have sq:Seq H1 zs[(cell.fmod (ns.length:Nat)).toNat] rs:=Or.imp id (fun y_=>by obtain⟨r,e,_,e2⟩:=y_;exact ⟨r,e,e2⟩) hz;have lr:=bF prs;rw[EM]at lr;have R1:1≤Rw.length:=by
    have:=(jR (n:=(((cell.fmod (ns.length:Nat)).toNat:Nat):Int)) og.hs ⟨by omega,by omega⟩ ln og.hw.n4 lh og.hw.h4).1;have:=tw.1;omega
   have fbS:∀(K:PHp) (q:Addr) (rs':List PV) (Rs:List (List DM.P2)),U.Sub H1 K->q≠d->K q=some (.lst rs')->Paired (cN K) rs' Rs->(∀y∈rs',y≠.ref d)->(Rs.length≤1000/\∀ps∈Rs,cE ps)->¬TbO (prod (hdz ns Hd ts bs (((cell.fmod (ns.length:Nat)).toNat:Nat):Int))) (ns.getD (cell.fmod (ns.length:Nat)).toNat 0) Rs->∀z8 z9 z10,BSt H0 r0 c ts bs ns Hd Tb 7 cell far 8 [some (.ref r0),some (.int 7),some (.int cell),some (.int far),some (.ref a),some (.ref b),some (.ref d),some (.int (cell.fmod (ns.length:Nat))),z8,z9,z10] (put K d (.lst (zs.set (cell.fmod (ns.length:Nat)).toNat (.ref q)))):=fun K q rs' Rs s nq eq pr nd rb bad z8 z9 z10=>by
    have ch:=hn.ch (o:=.lst (zs.set (cell.fmod (ns.length:Nat)).toNat (.ref q))) s (.inr (.inr (.inl rfl)));have fb:=hn.fnb og;have pr2:Paired (cN (put K d (.lst (zs.set (cell.fmod (ns.length:Nat)).toNat (.ref q))))) rs' Rs:=n9 (bF pr) fun i y ps e1 e2=>by
     have hi:=(EV.mp e1).1;have hj:=(EV.mp e2).1;have r:=dX pr hi hj;rw[(EV.mp e1).2,(EV.mp e2).2]at r;rcases r with r |⟨x,r,e3⟩
     ·exact .inl r
     ·exact .inr ⟨x,r,(aj fun z=>nd y (EZ e1) (by rw[r,z])).trans e3⟩
    refine .inr ⟨by decide,a,b,d,ns,_,(Tb.map fun Rw=>Rw.map bg).set (cell.fmod (ns.length:Nat)).toNat Rs,ys,_,_,z8,z9,z10,rfl,⟨(hn.sb.trans s).put hn.fr.2.2,(aj hn.ne.2.1).trans (s _ _ hn.ea),(aj hn.ne.2.2.1).trans (s _ _ hn.eb),ah,ch.1,iS ch.2 ⟨rs',.inr ⟨q,rfl,(aj nq).trans eq⟩,pr2⟩,⟨fb.ln.1,fb.ln.2.1,by rw[FR];exact fb.ln.2.2⟩,fb.hb,fun Qs hq=>?_⟩,sG (k:=(cell.fmod (ns.length:Nat)).toNat) (Rs:=Rs) (by rw[FA (by rw[EM];omega)]) (by rw[mO];exact bad)⟩;rcases FQ hq with hq | rfl
    ·exact fb.hT Qs hq
    ·exact rb
   have rbs:∀ps∈Rw.map bg,cE ps:=fun ps hp=>(og.tb _ (E3.mpr ⟨Rw,EZ hg,rfl⟩)).2 ps hp;have nds:∀y∈rs,y≠.ref d:=fun y hy z=>by
    obtain⟨ps,_,r⟩:=dq prs hy;rcases r with r |⟨x,r,n,_⟩
    ·rw[r]at z;cases z
    ·rw[r]at z;cases z;exact n (.inr (.inr (.inl rfl)))
   refine⟨dh (by decide) (by decide),_,hn.ed,?_⟩;rw[eat]
   try ac_rfl
   refine bK sq ⟨by omega,_,hn.ed,?_⟩;rw[eat]
   try ac_rfl
   refine bK sq fun p hp=>?_;have u1:=(Sub.refl H1).put (o:=.lst rs) hp;have e1:put H1 p (.lst rs) p=some (.lst rs):=ah;generalize put H1 p (.lst rs)=K1 at *;have kb:=fm (a:=cell.fdiv 24) (b:=((rs.length:Nat):Int)) (by omega);have kl:((cell.fdiv 24).fmod (rs.length:Nat)).toNat<rs.length:=by omega
   have rk:=fj (l:=rs) kl;rw[Int.toNat_of_nonneg kb.1]at rk;rw[rk]
   try ac_rfl
   have row:=dX prs kl (by rw[EM];omega);have hw':Rw[((cell.fdiv 24).fmod (rs.length:Nat)).toNat]?=some (Rw[((cell.fdiv 24).fmod (rs.length:Nat)).toNat]'(by omega)):=EO (by omega);rw[Ga]at row;generalize Rw[((cell.fdiv 24).fmod (rs.length:Nat)).toNat]'(by omega)=ws at *;have sw:=tw.2.2 ws (EZ hw');have n4:=og.hw.n4 (ns.getD (cell.fmod (ns.length:Nat)).toNat 0) (by rw[ER,EO (by omega)];exact FK _);have srow:Seq H1 rs[((cell.fdiv 24).fmod (rs.length:Nat)).toNat] ((bg ws).map prV):=Or.imp id (fun y_=>by obtain⟨r,e,_,e2⟩:=y_;exact ⟨r,e,e2⟩) row;have f4:=fm (a:=cell.fdiv 6) (b:=4) (by decide);refine⟨dh (by decide) (by decide),by decide,ws,sw.1,by omega,srow.up u1,⟨f4.1,by omega⟩,⟨f0,fB⟩,fun w ps K2 u2 nr bn=>?_⟩;have npd:p≠d:=(ao hn.ed hp).symm;have w2:=u1.trans u2;refine⟨_,_,u2 _ _ e1,eU kb.1 kb.2,_,_,(aj npd.symm).trans (w2 _ _ hn.ed),eU at0.1 (by omega),?_⟩;have npw:∀q,w=.ref q->q≠p:=fun q e z=>by
    rcases nr with n |⟨q',e',n,_⟩
    ·rw[n]at e;cases e
    ·rw[e']at e;cases e;rw[z,e1]at n;cases n
   have npr:∀y∈rs,y≠.ref p:=fun y hy z=>by
    obtain⟨ps,_,r⟩:=dq prs hy;rcases r with r |⟨x,r,_,e3⟩
    ·rw[r]at z;cases z
    ·rw[r]at z;cases z;rw[hp]at e3;cases e3
   have sK:U.Sub H1 (put K2 p (.lst (rs.set ((cell.fdiv 24).fmod (rs.length:Nat)).toNat w))):=w2.put hp;have prK:Paired (cN (put K2 p (.lst (rs.set ((cell.fdiv 24).fmod (rs.length:Nat)).toNat w)))) (rs.set ((cell.fdiv 24).fmod (rs.length:Nat)).toNat w) ((Rw.map bg).set ((cell.fdiv 24).fmod (rs.length:Nat)).toNat ps):=by
    refine iS (cN.up sK (fX prs)) ?_;rcases nr with n |⟨q,e,n,e3⟩
    ·exact .inl n
    ·exact .inr ⟨q,e,(aj (npw q e)).trans e3⟩
   have t4:=tw.2.1;refine nx _ _ (fbS _ p _ _ sK npd ah prK (fun y hy z=>?_) ⟨by rw[FR,EM];omega,fun qs hq=>?_⟩ (fun z=>?_) _ _ _)
   ·rcases FQ hy with hy | hy
    ·exact nds y hy z
    ·rw[hy]at z;rcases nr with n |⟨q,e,n,_⟩
     ·rw[n]at z;cases z
     ·rw[e]at z;cases z;rw[u1 _ _ hn.ed]at n;cases n
   ·rcases FQ hq with hq | rfl
    ·exact rbs qs hq
    ·exact bn.rb
   ·have zz:=z.2 ps (List.mem_set (by rw[EM];omega) ps);have sw2:=sw.2;rcases (show(cell.fdiv 6).fmod 4=0∨(cell.fdiv 6).fmod 4=1∨(cell.fdiv 6).fmod 4=2∨(cell.fdiv 6).fmod 4=3 by omega)with e | e | e | e
    ·have:=bn.w0 e;have:=zz.1;omega
    ·have:=bn.w1 e;have:=zz.1;omega
    ·exact(bn.w2 e).2 (by omega) zz.2
    ·exact(bn.w3 e).2 zz.2
  ·ac_rfl;exact bw (by simp;omega) (nx _ _ (.inr ⟨by omega,a,b,d,ns1,Hs1,Ts1,ys,zs,z7,z8,z9,z10,rfl,fb,nf⟩))
 subst hR;clear st;intro σ H1 st;rcases st with⟨ge,_⟩ |⟨lt8,a,b,d,ns1,Hs1,Ts1,ys,zs,z7,z8,z9,z10,rfl,fb,nf⟩
 ·omega
 ·ac_rfl;exact⟨ak (by decide),fun r1 hr1=>⟨_,Sub.refl _,h r1 a b d ns1 Hs1 Ts1 ys zs _ ah (fb.up ((Sub.refl _).put hr1)) nf⟩⟩
theorem Dl(T:Tx K mg t):aT P w K mg base CX0 5 t.a_zJ t.d_zJ ["_law_rows_here","_law_way","_law_cell","_law_far"] hG:=by
 refine okU (k:=4) T.F_zJ d8 (fun vs H Q E h=>bP h) (fun cdv A outer s H E B hr=>⟨_,(@ag _ _ _ _ _ _ (cp (qv 0) (Al (n:=3) rfl (aW (aw (i:=4) d8.nd rfl (by first | exact Or.inl rfl | exact Or.inr rfl)) (aW (aw (i:=5) d8.nd rfl (by first | exact Or.inl rfl | exact Or.inr rfl)) (aW (aw (i:=6) d8.nd rfl (by first | exact Or.inl rfl | exact Or.inr rfl)) cV)))))
  (@ag _ _ _ _ _ _ (ax (i:=7) d8.nd rfl (by first | exact Or.inl rfl | exact Or.inr rfl) (aY (qv 2) (aB aA bG rfl T.b_len Fl (aa (qv 4) ae))))
  (@ag _ _ _ _ _ _ (@bh _ _ _ _ _ _ _ _ _ (aP (bo hr.units) bD (qv 1) af (aH _))
  (@ar _ _ _ _ (cp (aC (aF (aa af (aa af (aa (ki af (qv 3)) (aa (bI af (qv 3)) ae))))) (aY (aV (qv 2) af) af) (fun _ _=>rfl)) (dt (qv 4) (qv 7))))
  aL)
  (@ag _ _ _ _ _ _ (@bh _ _ _ _ _ _ _ _ _ (aP (bo hr.units) bD (qv 1) af (aH _))
  (@ar _ _ _ _ (ax (i:=4) d8.nd rfl (by first | exact Or.inl rfl | exact Or.inr rfl) (aC (aF (aa (cG (qv 4) (cL af) dm) (aa (cS (qv 4) (aF (aa af ae))) ae))) (aY (qv 2) af) (fun _ _=>rfl))))
  aL)
  (@ag _ _ _ _ _ _ (@bh _ _ _ _ _ _ _ _ _ (aP (bo hr.units) bD (qv 1) af (aH _))
  (@ar _ _ _ _ (ax (i:=5) d8.nd rfl (by first | exact Or.inl rfl | exact Or.inr rfl) (aC (aF (aa (cS (qv 5) (aF (aa (aF (aa (aR (aa af (aa af ae))) ae)) ae))) (aa (cS (cG (qv 5) (cL af) dm) (km (aF (aa (aF (aa (aR (aa af (aa af ae))) ae)) ae)) (aE jd rV rfl T.b_int boot_int (aa (cy (yD hr.units) mr (qv 5) (aF ae) (aH _)) ae)))) ae))) (aY (qv 2) af) (fun _ _=>rfl))))
  aL)
  (@ag _ _ _ _ _ _ (@bh _ _ _ _ _ _ _ _ _ (eP (jS (aP (bo hr.units) bD (qv 1) af (aH _)) (hU (aP (ug hr.units) mr (qv 5) (aF ae) (aH _)))))
  (@ar _ _ _ _ (cp (aC (aF (aa (aF ae) (aa (km (aF (aa (aR (aa af (aa af ae))) ae)) af) ae))) (aY (aV (qv 2) af) af) (fun _ _=>rfl)) (dt (qv 5) (aY (qv 2) (aB aA bG rfl T.b_len Fl (aa (qv 5) ae))))))
  aL)
  (@ag _ _ _ _ _ _ (@bh _ _ _ _ _ _ _ _ _ (eP (jS (aP (bo hr.units) bD (qv 1) af (aH _)) (hU (aP (ug hr.units) mr (qv 5) (aF ae) (aH _)))))
  (@ag _ _ _ _ _ _ (ax (i:=7) d8.nd rfl (by first | exact Or.inl rfl | exact Or.inr rfl) (aY (qv 2) (aB aA bG rfl T.b_len Fl (aa (qv 5) ae))))
   (@ag _ _ _ _ _ _ (cp (ay (AR T) (hr.mono (by decide)) rfl T.g_zh T.F_zh.kp T.B_zh (aa (aC (qv 5) (qv 7) (fun _ _=>rfl)) (aa (bI af (aY (aV (qv 2) af) af)) (aa (qv 3) ae)))) (dt (qv 5) (qv 7)))
   (@ar _ _ _ _ (@bh _ _ _ _ _ _ _ _ _ (aP (bo hr.units) bD (aB aA bG rfl T.b_len Fl (aa (aC (qv 5) (qv 7) (fun _ _=>rfl)) ae)) af (aH _))
   (@ar _ _ _ _ (cp (aF (aa (aR (aa (bI af (qv 3)) (aa (bI af (qv 3)) ae))) ae)) (dt (qv 5) (qv 7))))
   aL))))
  aL)
  (@ag _ _ _ _ _ _ (@bh _ _ _ _ _ _ _ _ _ (aP (bo hr.units) bD (qv 1) af (aH _))
  (@ar _ _ _ _ (ax (i:=6) d8.nd rfl (by first | exact Or.inl rfl | exact Or.inr rfl) (aC (aF (aa (cG (qv 6) (cL af) dm) (aa (cS (qv 6) (aF (aa (aC (qv 6) af (fun _ _=>rfl)) ae))) ae))) (aY (qv 2) af) (fun _ _=>rfl))))
  aL)
  (@ag _ _ _ _ _ _ (@bh _ _ _ _ _ _ _ _ _ (aP (bo hr.units) bD (qv 1) af (aH _))
  (@ag _ _ _ _ _ _ (ax (i:=8) d8.nd rfl (by first | exact Or.inl rfl | exact Or.inr rfl) (aE bf cu rfl T.b_list GD (aa (aC (qv 6) (qv 7) (fun _ _=>rfl)) ae)))
   (@ar _ _ _ _ (cp (aC (aF (aa (cG (qv 8) (cL af) dm) (aa (cS (qv 8) (aF (aa (aC (qv 8) af (fun _ _=>rfl)) ae))) ae))) (aY (aV (qv 2) af) af) (fun _ _=>rfl)) (dt (qv 6) (qv 7)))))
  aL)
  (@ag _ _ _ _ _ _ (@bh _ _ _ _ _ _ _ _ _ (aP (bo hr.units) bD (qv 1) af (aH _))
  (@ag _ _ _ _ _ _ (ax (i:=9) d8.nd rfl (by first | exact Or.inl rfl | exact Or.inr rfl) (aY (aV (qv 2) af) (aB aA bG rfl T.b_len Fl (aa (aC (qv 6) (qv 7) (fun _ _=>rfl)) ae))))
   (@ag _ _ _ _ _ _ (ax (i:=10) d8.nd rfl (by first | exact Or.inl rfl | exact Or.inr rfl) (aE bf cu rfl T.b_list GD (aa (aC (qv 6) (qv 7) (fun _ _=>rfl)) ae)))
   (@ag _ _ _ _ _ _ (cp (ay (AR T) (hr.mono (by decide)) rfl T.g_zh T.F_zh.kp T.B_zh (aa (aC (qv 10) (qv 9) (fun _ _=>rfl)) (aa (aY (aV (qv 2) af) af) (aa (qv 3) ae)))) (dt (qv 10) (qv 9)))
   (@ar _ _ _ _ (cp (qv 10) (dt (qv 6) (qv 7)))))))
  aL)
  (@ar _ _ _ _ (aO (aF (aa (qv 4) (aa (qv 5) (aa (qv 6) ae)))))))))))))))),?_⟩)
 intro vs H Q E h;exact EC h
theorem EF(T:Tx K mg t):aT P w K mg base CX0 1 t.a_zA t.d_zA ["_law_e"] (lb t):=by
 refine okU (k:=0) T.F_zA lZ (fun vs H Q E h=>bP h) (fun cdv A outer s H E B hr=>⟨_,(ag (ax (i:=1) lZ.nd rfl (by first | exact Or.inl rfl | exact Or.inr rfl) (aF ae))
  (ag (ax (i:=2) lZ.nd rfl (by first | exact Or.inl rfl | exact Or.inr rfl) (aF (aa (aR (aa bJ (aa (bN T.g_J rfl rfl T.b_isinstance (qv 0)) ae))) (aa (aR (aa bJ (aa (bN T.g_G rfl rfl T.b_isinstance (qv 0)) ae))) ae))))
  (ag (bH (cH FE FF cm cg (qv 2) (aa (aF (aa (aR (aa bJ (aa (bN T.g_T rfl rfl T.b_isinstance (qv 0)) ae))) (aa (aR (aa bJ (aa (bN T.g_F rfl rfl T.b_isinstance (qv 0)) ae))) (aa (aR (aa bJ (aa (bN T.g_K rfl rfl T.b_isinstance (qv 0)) ae))) ae)))) ae)))
  (ag (bH (cH FE FF cm cg (qv 2) (aa (aF (aa (aR (aa bJ (aa (bN T.g_P rfl rfl T.b_isinstance (qv 0)) ae))) (aa (aR (aa bJ (aa (bN T.g_V rfl rfl T.b_isinstance (qv 0)) ae))) ae))) ae)))
  (ag (bH (cH FE FF cm cg (qv 2) (aa (aF (aa (aR (aa bJ (aa (bN T.g_U rfl rfl T.b_isinstance (qv 0)) ae))) (aa (aR (aa bJ (aa (bN T.g_Q rfl rfl T.b_isinstance (qv 0)) ae))) ae))) ae)))
  (ag (bH (cH FE FF cm cg (qv 2) (aa (aF (aa (aR (aa bJ (aa (bN T.g_N rfl rfl T.b_isinstance (qv 0)) ae))) (aa (aR (aa bJ (aa (bN T.g_O rfl rfl T.b_isinstance (qv 0)) ae))) ae))) ae)))
  (ag (bH (cH FE FF cm cg (qv 2) (aa (aF (aa (aR (aa bJ (aa (bN T.g_A rfl rfl T.b_isinstance (qv 0)) ae))) (aa (aR (aa bJ (aa (bN T.g_L rfl rfl T.b_isinstance (qv 0)) ae))) ae))) ae)))
  (ag (bH (cH FE FF cm cg (qv 2) (aa (aF (aa (aR (aa bJ (aa (bN T.g_H rfl rfl T.b_isinstance (qv 0)) ae))) (aa (aR (aa bJ (aa (bN T.g_S rfl rfl T.b_isinstance (qv 0)) ae))) ae))) ae)))
  (ag (bH (cH FE FF cm cg (qv 2) (aa (aF (aa (aR (aa bJ (aa (bN T.g_E rfl rfl T.b_isinstance (qv 0)) ae))) (aa (aR (aa bJ (aa (bN T.g_M rfl rfl T.b_isinstance (qv 0)) ae))) ae))) ae)))
  (ag (bH (cH FE FF cm cg (qv 2) (aa (aF (aa (aR (aa bJ (aa (bN T.g_I rfl rfl T.b_isinstance (qv 0)) ae))) (aa (aR (aa bJ (aa (bN T.g_B rfl rfl T.b_isinstance (qv 0)) ae))) ae))) ae)))
  (ag (bH (cH FE FF cm cg (qv 2) (aa (aF (aa (aR (aa bJ (aa (bN T.g_R rfl rfl T.b_isinstance (qv 0)) ae))) (aa (aR (aa bJ (aa (Ag (wK T.b_ValueError gX rfl rfl T.b_isinstance (qv 0))) ae))) ae))) ae)))
  (ag (cx Fx rfl (br (qv 2)) (eE (n:=2) rfl (aW (aw (i:=3) lZ.nd rfl (by first | exact Or.inl rfl | exact Or.inr rfl)) (aW (aw (i:=4) lZ.nd rfl (by first | exact Or.inl rfl | exact Or.inr rfl)) cV)))
  (ar (bh (eY (qv 4))
   (ar (bH (cH FC FD bU cn (qv 1) (aa (qv 3) ae))))
   aL)))
  (ar (aO (qv 1))))))))))))))),?_⟩)
 intro vs H Q E h
 replace h:=bO h
 obtain⟨a,_,rfl,rfl,h⟩:=h;obtain⟨C,nm,ha,hk,h⟩:=h;obtain⟨rfl,rfl⟩:=hk;refine au fun R0 hR=>?_;walk_at "rk";refine⟨ak (by decide),fun r hr=>?_⟩;subst hR;refine v8 (C:=t.a_V) (l:=[("NoFraction",cM K (.ref t.a_J) (az 0)),("NoCount",cM K (.ref t.a_G) (az 0))]) (bs:=[false,false]) ((aj (ao ha hr)).trans ha) ah (Sub.put (Sub.refl _) hr) (Fg rfl) ⟨bA ((aj (ao ha hr)).trans ha) T.x_V T.kVJ,⟨bA ((aj (ao ha hr)).trans ha) T.x_V T.kVG,trivial⟩⟩ fun q H0 i0=>?_;refine dH (l:=[("NoTie",cM K (.ref t.a_T) (az 0)),("NoBow",cM K (.ref t.a_F) (az 0)),("NoName",cM K (.ref t.a_K) (az 0))]) (bs:=[false,false,false]) i0 ⟨Fg rfl,Fg rfl⟩ ⟨bA i0.ha T.x_V T.kVT,⟨bA i0.ha T.x_V T.kVF,⟨bA i0.ha T.x_V T.kVK,trivial⟩⟩⟩ fun H1 i1=>?_;refine dH (l:=[("NoSets",cM K (.ref t.a_P) (az 0)),("NoWorld",cM K (.ref t.a_V) (az 0))]) (bs:=[false,true]) i1 ⟨Fg rfl,Fg rfl⟩ ⟨bA i1.ha T.x_V T.kVP,⟨bA i1.ha T.x_V T.kVV,trivial⟩⟩ fun H2 i2=>?_;refine dH (l:=[("NoValue",cM K (.ref t.a_U) (az 0)),("NoShare",cM K (.ref t.a_Q) (az 0))]) (bs:=[false,false]) i2 ⟨Fg rfl,Fg rfl⟩ ⟨bA i2.ha T.x_V T.kVU,⟨bA i2.ha T.x_V T.kVQ,trivial⟩⟩ fun H3 i3=>?_;refine dH (l:=[("NoRoad",cM K (.ref t.a_N) (az 0)),("NoRule",cM K (.ref t.a_O) (az 0))]) (bs:=[false,false]) i3 ⟨Fg rfl,Fg rfl⟩ ⟨bA i3.ha T.x_V T.kVN,⟨bA i3.ha T.x_V T.kVO,trivial⟩⟩ fun H4 i4=>?_;refine dH (l:=[("BadPaper",cM K (.ref t.a_A) (az 0)),("NoNest",cM K (.ref t.a_L) (az 0))]) (bs:=[false,false]) i4 ⟨Fg rfl,Fg rfl⟩ ⟨bA i4.ha T.x_V T.kVA,⟨bA i4.ha T.x_V T.kVL,trivial⟩⟩ fun H5 i5=>?_;refine dH (l:=[("NoDoor",cM K (.ref t.a_H) (az 0)),("NoThinning",cM K (.ref t.a_S) (az 0))]) (bs:=[false,false]) i5 ⟨Fg rfl,Fg rfl⟩ ⟨bA i5.ha T.x_V T.kVH,⟨bA i5.ha T.x_V T.kVS,trivial⟩⟩ fun H6 i6=>?_;refine dH (l:=[("NoAnswer",cM K (.ref t.a_E) (az 0)),("NoQuestion",cM K (.ref t.a_M) (az 0))]) (bs:=[false,false]) i6 ⟨Fg rfl,Fg rfl⟩ ⟨bA i6.ha T.x_V T.kVE,⟨bA i6.ha T.x_V T.kVM,trivial⟩⟩ fun H7 i7=>?_;refine dH (l:=[("NoFormula",cM K (.ref t.a_I) (az 0)),("BadStep",cM K (.ref t.a_B) (az 0))]) (bs:=[false,false]) i7 ⟨Fg rfl,Fg rfl⟩ ⟨bA i7.ha T.x_V T.kVI,⟨bA i7.ha T.x_V T.kVB,trivial⟩⟩ fun H8 i8=>?_;refine dH (l:=[("NoText",cM K (.ref t.a_R) (az 0)),("other",kR (cM K (.type "ValueError") (az 0)))]) (bs:=[false,!true]) i8 ⟨Fg rfl,Fg rfl⟩ ⟨bA i8.ha T.x_V T.kVR,⟨wt (bA i8.ha T.x_V T.kV_),trivial⟩⟩ fun H9 i9=>?_;refine zM (xs:=[("NoFraction",false),("NoCount",false),("NoTie",false),("NoBow",false),("NoName",false),("NoSets",false),("NoWorld",true),("NoValue",false),("NoShare",false),("NoRoad",false),("NoRule",false),("BadPaper",false),("NoNest",false),("NoDoor",false),("NoThinning",false),("NoAnswer",false),("NoQuestion",false),("NoFormula",false),("BadStep",false),("NoText",false),("other",(!true))]) (nm:="NoWorld") i9 rfl fun H1 u v sb=>?_;exact⟨_,sb,h r hr⟩
theorem EA(T:Tx K mg t):aT P w K mg base CX0 7 t.a_zs t.d_zs ["self","drawing","sizes","hidden","tables"] (ju t):=by
 refine Bf (Bg (Bk T)) fun vs H Q E h=>?_
 replace h:=bO h
 obtain⟨x,_,rfl,d0,_,rfl,a,_,rfl,b,_,rfl,d,_,rfl,rfl,h⟩:=h;obtain⟨H0,dx,d1,c,ts,bs,ns,Hs,Ts,ys,zs,hx,hd,fb,hs,fi,k⟩:=h;exact⟨dx,d1,c,ts,bs,ns,Hs,Ts,ys,zs,hx,hd,fb.ea,fb.eb,fb.ed,fb.rw,fb.tb,hs,fb.ln,fb.hb,fb.hT,fun _ y dy w H1 q1 q2 q3 q4=>k y w H1 q1 q2,fun n=>absurd fi n⟩
theorem C8(T:Tx K mg t):aT P w K mg base CX0 9 t.a_zG t.d_zG ["_law_shape","_law_told","_law_bits"] (kn t):=by
 refine okU (k:=8) T.F_zG xu (fun vs H Q E h=>bP h) (fun cdv A outer s H E B hr=>⟨_,(ag (ax (i:=3) xu.nd rfl (by first | exact Or.inl rfl | exact Or.inr rfl) (ay (Cy T) (hr.mono (by decide)) rfl T.g_zu T.F_zu.kp T.B_zu (aa (qv 1) (aa (qv 2) ae))))
  (ar (aO (gc T.mk_W (EA T) (hr.mono (by decide)) rfl T.g_W T.B_zs (aa (gc T.mk_D (wm T) (hr.mono (by decide)) rfl T.g_D T.B_zg (aa (aC (qv 0) af (fun _ _=>rfl)) (aa (aE bf cu rfl T.b_list GD (aa (aC (qv 0) af (fun _ _=>rfl)) ae)) (aa (aE bf cu rfl T.b_list GD (aa (aC (qv 0) af (fun _ _=>rfl)) ae)) ae)))) (aa (aC (qv 3) af (fun _ _=>rfl)) (aa (aC (qv 3) af (fun _ _=>rfl)) (aa (aC (qv 3) af (fun _ _=>rfl)) ae)))))))),?_⟩)
 intro vs H Q E h
 replace h:=bO h
 obtain⟨u,_,rfl,v,_,rfl,bits,_,rfl,rfl,h⟩:=h;obtain⟨c,tv,bv,na,nb,nc,rfl,rfl,h⟩:=h;obtain⟨ts,bs,ns,Hd,Tb,rfl,rfl,rfl,rfl,rfl,og,h⟩:=h;have hs:=og.hs;have c6:=og.hs.hc;have b6:=og.hs.l6;have ln:=og.hw.ln;have lh:=og.hw.lh;have lt:=og.hw.lt;refine au fun R hR=>?_;ac_rfl;refine⟨ns,Hd,Tb,rfl,rfl,rfl,⟨by omega,by omega,fun Rw hR=>?_⟩,fun r0 a b d ys zs H2 hn=>?_⟩
 ·have:=(og.tb _ (E3.mpr ⟨Rw,hR,rfl⟩)).1
  rwa [EM]at this
 subst hR;ac_rfl;intro p hp p1 hp1 x0 dx0 hx0 hdx0 ne0;have up3:U.Sub H2 (put H2 p (.lst (ts.map prV))):=(Sub.refl H2).put hp;have ep:put H2 p (.lst (ts.map prV)) p=some (.lst (ts.map prV)):=ah;generalize put H2 p (.lst (ts.map prV))=J3 at *;have up4:=up3.put (o:=.lst (bs.map prV)) (up3.free hp1);have ep4:=(aj (o:=.lst (bs.map prV)) (ao ep hp1)).trans ep;have eq4:put J3 p1 (.lst (bs.map prV)) p1=some (.lst (bs.map prV)):=ah;generalize put J3 p1 (.lst (bs.map prV))=J4 at *;refine⟨dx0,_,_,ts,bs,rfl,.inr ⟨p,rfl,(aj (ao ep4 hx0)).trans ep4⟩,.inr ⟨p1,rfl,(aj (ao eq4 hx0)).trans eq4⟩,cO,cO,hs.gt,hs.gb,⟨c6.1,c6.2,b6⟩,fun ts' bs' pt st pb sb=>?_⟩;obtain rfl:ts'=ts:=DM.eM pt st (Gn _) hs.st;obtain rfl:bs'=bs:=DM.eM pb sb (Gn _) hs.sb
 try ac_rfl
 rw[aM];have up5:=up4.put (o:=.ins t.a_D dx0 (DF c ts' bs')) (up4.free hx0);have ex0:put J4 x0 (.ins t.a_D dx0 (DF c ts' bs')) x0=some (.ins t.a_D dx0 (DF c ts' bs')):=ah;generalize put J4 x0 (.ins t.a_D dx0 (DF c ts' bs'))=J5 at *;refine⟨_,up5 _ _ hn.er,?_⟩
 try ac_rfl
 refine⟨_,up5 _ _ hn.er,?_⟩
 try ac_rfl
 refine⟨_,up5 _ _ hn.er,?_⟩
 try ac_rfl
 intro x dx hx hdx ne;have up6:=(Sub.refl J5).put (o:=.ins t.a_W dx []) hx;have fb:=(hn.fnb og).up (up5.trans up6);refine⟨H,dx,dx0,c,ts',bs',ns,_,_,ys,zs,rfl,up6 _ _ ex0,fb,hs,og.fine,fun y w H7 k7 ex=>?_⟩
 try ac_rfl
 refine⟨H7,Sub.refl _,h x dx y w H7 (fun q u e=>k7 q u (ao (up5 _ _ (hn.sb _ _ e)) hx) ((up5.trans up6) _ _ (hn.sb _ _ e))) ex⟩
theorem BU(T:Tx K mg t):aT P w K mg base CX0 9 t.a_zj t.d_zj ["_law_drawing","_law_rows_here"] (dJ t):=by
 refine okU (k:=8) T.F_zj tF (fun vs H Q E h=>bP h) (fun cdv A outer s H E B hr=>⟨_,(ag (ax (i:=2) tF.nd rfl (by first | exact Or.inl rfl | exact Or.inr rfl) yV)
  (ag (ya (i:=3) (j:=2) ⟨rfl,rfl,rfl⟩ tF.nd rfl rfl rfl rfl T.x_C rfl T.g_C
  (vp (v9 (xh ⟨rfl,rfl,rfl⟩ T.mk_W (Bk T) (hr.mono (by decide)) rfl T.g_W T.B_zs (aa (qv 0) (aa (aC (qv 1) af (fun _ _=>rfl)) (aa (aC (qv 1) af (fun _ _=>rfl)) (aa (aC (qv 1) af (fun _ _=>rfl)) ae))))))))
  (ar (aO (cy (bo hr.units) bD (ay (EF T) (hr.mono (by decide)) rfl T.g_zA T.F_zA.kp T.B_zA (aa (qv 2) ae)) (aF (aa bJ ae)) (aH _)))))),?_⟩)
 intro vs H Q E h
 replace h:=bO h
 obtain⟨x,_,rfl,r1,_,rfl,rfl,h⟩:=h;obtain⟨H0,dx,c,ts,bs,a,b,d,ns,Hs,Ts,ys,zs,hx,hr1,fb,hs,nf,h⟩:=h;ac_rfl;refine⟨_,hr1,?_⟩
 try ac_rfl
 refine⟨_,hr1,?_⟩
 try ac_rfl
 refine⟨_,hr1,?_⟩
 try ac_rfl
 intro x1 dx1 hx1 hdx1 ne1;have up:=(Sub.refl H).put (o:=.ins t.a_W dx1 []) hx1;have f2:=fb.up up;refine⟨dx1,dx,c,ts,bs,ns,Hs,Ts,ys,zs,rfl,up _ _ hx,f2.ea,f2.eb,f2.ed,f2.rw,f2.tb,hs,f2.ln,f2.hb,f2.hT,fun fi=>absurd fi nf,fun _ H1 s1=>⟨_,rfl,⟨T.x_V,T.s_V⟩,fun e he=>⟨_,_,rfl,⟨rfl,rfl⟩,fun r hr=>⟨ak (by decide),fun p hp=>?_⟩⟩⟩⟩;have s2:=up.trans s1;have s3:=s2.put (o:=.exc t.a_V) (s2.free he);have s4:=s3.put (o:=.lst [.str "NoWorld"]) (s3.free hr);have nrp:r≠p:=fun z=>by rw[←z,ah]at hp;cases hp
 refine⟨_,(aj nrp).trans ah,rfl,H,s4.put (s4.free hp),?_⟩;exact h
theorem EH(h:spL vs H Q E):bZ (cj (c8 iJ X0 (av (az 0) aX)) (bc 1)) (bZ (cj (c8 jJ X0 (av (c8 iy X0 (av (az 0) (av (uC (PV.int 2)) (av (az 1) (av (uC (PV.int 300)) aX))))) aX)) (bc 2)) (bZ (cj (pH t.a_D (h8 t) X0 (av (uOp uIx (az 1) (uC (PV.int 0))) (av (uCB jI (av (uOp uIx (az 1) (uC (PV.int 1))) aX)) (av (uCB jI (av (uOp uIx (az 1) (uC (PV.int 2))) aX)) aX)))) (bc 3)) (bZ (qa (l7 (uOp gW (ck (av (c8 jX X0 (av (az 0) (av (uC (PV.int 10)) aX))) aX)) (fg (az 0) (gE (uC (PV.int 11))) (gE (uC (PV.int 30)))))) (bc 4) (bZ (cj (uOp eJ (az 4) (uC (PV.int 8))) (bc 5)) (bZ (d9 (rE (bY (uOp (eW fun b=>b) (uCB j0 (av (uOp uIx (az 1) (uC (PV.int 2))) aX)) (uC (PV.int 0)))) (bY (uOp (x8 fun b=>b) (az 5) (gS (av (uC (PV.int 3)) (av (uC (PV.int 4)) aX)))))) (cj (uC (PV.int 7)) (bc 5)) cI) (bZ (cj (uOp CK (uOp eJ (uOp eG (az 4) (uC (PV.int 8))) (uC (PV.int 3))) (uOp eJ (uOp eG (az 4) (uC (PV.int 1000))) (uOp AQ (uC (PV.int 10)) (uC (PV.int 30))))) (bc 6)) (bZ (cj (c8 gr X0 (av (az 2) (av (uOp eG (az 4) (uC (PV.int 64))) aX))) (bc 7)) (d9 (wB (bY (c8 (dJ t) X0 (av (az 3) (av (c8 hG X0 (av (az 7) (av (az 5) (av (uOp eG (az 4) (uC (PV.int 64))) (av (az 6) aX))))) aX))))) (rh (uC (PV.bl false))) cI)))))) (bZ (cj (ck (av (ck (av (uC (PV.int 4)) (av (uC (PV.int 4)) (av (uC (PV.int 4)) (av (uC (PV.int 4)) (av (uC (PV.int 4)) (av (uC (PV.int 4)) aX))))))) (av (uOp jU (ck (av (uOp jU (ck (av (gS (av (uC (PV.int 1)) (av (uC (PV.int 4)) aX))) aX)) (uC (PV.int 4))) aX)) (uC (PV.int 6))) (av (ck aX) aX)))) (bc 8)) (bZ (cj (pH t.a_D (h8 t) X0 (av (uC (PV.int 6)) (av (ck aX) (av (uOp gW (ie 1 [] (tE (av (uC (PV.int 5)) aX)) (bc 0) vU (gS (av (az 0) (av (uOp pY (az 0) (uC (PV.int 1))) aX)))) (ck (av (gS (av (uC (PV.int 0)) (av (uC (PV.int 2)) aX))) aX))) aX)))) (bc 9)) (bZ (cj (c8 (kn t) X0 (av (az 1) (av (az 2) (av (uC (PV.int 0)) aX)))) (bc 10)) (rh (lE (c8 (dJ t) X0 (av (az 9) (av (az 8) aX))) (lE (uOp (eW fun b=>b) (vW t.a_W (Str.ofString "sizes") (az 10)) (uOp uIx (az 2) (uC (PV.int 0)))) (uOp (eW fun b=>b) (vW t.a_W (Str.ofString "tables") (az 10)) (uOp uIx (az 2) (uC (PV.int 2))))))))))))) (ends Q) (cZ [Str.ofString "_law_script",Str.ofString "_law_shape",Str.ofString "_law_told",Str.ofString "_law_drawing",Str.ofString "_law_cell",Str.ofString "_law_way",Str.ofString "_law_far",Str.ofString "_law_rows_here",Str.ofString "_law_great",Str.ofString "_law_six",Str.ofString "_law_world_here"] vs) H:=by
 unfold spL at h;split at h
 ·rename_i l;obtain⟨is,rfl,hl,h⟩:=h;refine au fun R hR=>?_;ac_rfl;refine⟨is,rfl,fun c ts bs hs=>?_⟩;have t15:=hs.gt.len hs.hc.2;have c6:=hs.hc;have b6:=hs.l6
  try ac_rfl
  subst hR;refine au fun R hR=>?_;ac_rfl;refine⟨is,ts,bs,rfl,rfl,rfl,⟨by decide,by decide⟩,hs,fun a b d ns Hd Tb ys zs H1 s1 ea eb ed ry rz hw=>?_⟩;have og:Org c ts bs ns Hd Tb:=⟨hs,hw⟩;have ln:=hw.ln;have lt:=hw.lt;have lh:=hw.lh;have t4:∀Rw∈Tb,Rw.length≤400/\∀ws∈Rw,Shr ws:=fun Rw hR=>by
   obtain⟨k,hk,rfl⟩:=List.getElem_of_mem hR;have tb:=hw.tb k _ (EO hk);exact⟨tb.2.1,fun ws hws=>(tb.2.2 ws hws).1⟩
  try ac_rfl
  refine⟨ns,Hd,Tb,ys,zs,ea,eb,ed,ry,rz,⟨fun ws hws=>(hw.h4 ws hws).1,by omega⟩,⟨t4,by omega⟩,?_⟩
  try ac_rfl
  clear ry rz ea eb ed;subst hR;refine au fun R hR=>?_;ac_rfl;intro p hp p1 hp1 x0 dx0 hx0 hdx0 ne0;have up3:U.Sub H1 (put H1 p (.lst (ts.map prV))):=(Sub.refl H1).put hp;have ep:put H1 p (.lst (ts.map prV)) p=some (.lst (ts.map prV)):=ah;generalize put H1 p (.lst (ts.map prV))=J3 at *;have up4:=up3.put (o:=.lst (bs.map prV)) (up3.free hp1);have ep4:=(aj (o:=.lst (bs.map prV)) (ao ep hp1)).trans ep;have eq4:put J3 p1 (.lst (bs.map prV)) p1=some (.lst (bs.map prV)):=ah;generalize put J3 p1 (.lst (bs.map prV))=J4 at *;refine⟨dx0,_,_,ts,bs,rfl,.inr ⟨p,rfl,(aj (ao ep4 hx0)).trans ep4⟩,.inr ⟨p1,rfl,(aj (ao eq4 hx0)).trans eq4⟩,cO,cO,hs.gt,hs.gb,⟨c6.1,c6.2,b6⟩,fun ts' bs' pt st pb sb=>?_⟩;obtain rfl:ts'=ts:=DM.eM pt st (Gn _) hs.st;obtain rfl:bs'=bs:=DM.eM pb sb (Gn _) hs.sb
  try ac_rfl
  rw[aM];have up5:=up4.put (o:=.ins t.a_D dx0 (DF c ts' bs')) (up4.free hx0);have ex0:put J4 x0 (.ins t.a_D dx0 (DF c ts' bs')) x0=some (.ins t.a_D dx0 (DF c ts' bs')):=ah;generalize put J4 x0 (.ins t.a_D dx0 (DF c ts' bs'))=J5 at *;subst hR;have s5:=s1.trans up5;clear up3 up4 ep ep4 eq4;refine au fun R hR=>?_;ac_rfl;refine⟨⟨by decide,by decide⟩,is,rfl,ak (by decide),fun q1 hq1=>?_⟩;obtain⟨ms,em,lm⟩:=sD is (some 11) (some 30);rw[em]at *;generalize is.getD (Int.toNat 10) 0=c0 at *;have v1:=(Sub.refl J5).put (o:=.lst [.int c0]) hq1;have g1:put J5 q1 (.lst [.int c0]) q1=some (.lst [.int c0]):=ah;generalize put J5 q1 (.lst [.int c0])=K1 at *;intro q2 hq2;have v2:=v1.put (o:=.lst (ms.map PV.int)) (v1.free hq2);have g2:=(aj (o:=.lst (ms.map PV.int)) (ao g1 hq2)).trans g1;generalize put K1 q2 (.lst (ms.map PV.int))=K2 at *;refine⟨_,_,g2,rfl,ak (by rw[EM];simp only[EU,Fh];omega),fun q3 hq3=>?_⟩;have v3:=v2.put (o:=.lst ([.int c0]++ms.map PV.int)) (v2.free hq3);have g3:put K2 q3 (.lst ([.int c0]++ms.map PV.int)) q3=some (.lst ([.int c0]++ms.map PV.int)):=ah;generalize put K2 q3 (.lst ([.int c0]++ms.map PV.int))=K3 at *;have ec:([PV.int c0]++ms.map PV.int)=(c0::ms).map PV.int:=rfl;rw[ec]at *;have ex3:=v3 _ _ ex0;refine dZ (fun i σ H'=>∃z4 z5 z6 z7,σ=[some (.fls (is.map PV.int)),some (.tup [.int c,.tup (ts'.map prV),.tup (bs'.map prV)]),some (.tup [.tup (ns.map PV.int),.tup (Hd.map shT),.tup (Tb.map tbT)]),some (.ref x0),z4,z5,z6,z7,none,none,none]/\U.Sub K3 H') ?_ ?_ ⟨_,_,_,_,rfl,Sub.refl _⟩
  ·rintro σ H9 ⟨z4,z5,z6,z7,rfl,s9⟩;refine⟨s9 _ _ g3,?_⟩;subst hR;dsimp only;refine au fun R hR=>?_;ac_rfl;refine⟨ak (by decide),fun g1 hg1=>?_⟩;have a1:=(Sub.refl H9).put (o:=.lst [.int 4,.int 4,.int 4,.int 4,.int 4,.int 4]) hg1;have b1:put H9 g1 (.lst [.int 4,.int 4,.int 4,.int 4,.int 4,.int 4]) g1=some (.lst [.int 4,.int 4,.int 4,.int 4,.int 4,.int 4]):=ah;generalize put H9 g1 (.lst [.int 4,.int 4,.int 4,.int 4,.int 4,.int 4])=L1 at *;refine⟨ak (by decide),ak (by decide),fun g2 hg2=>?_⟩;have a2:=(Sub.refl L1).put (o:=.lst [.tup [.int 1,.int 4]]) hg2;have b2:put L1 g2 (.lst [.tup [.int 1,.int 4]]) g2=some (.lst [.tup [.int 1,.int 4]]):=ah;generalize put L1 g2 (.lst [.tup [.int 1,.int 4]])=L2 at *;refine⟨⟨by decide,by decide⟩,by decide,fun g3 hg3=>?_⟩;rw[show(List.replicate (Int.toNat 4) [PV.tup [PV.int 1,PV.int 4]]).flatten=(List.replicate 4 ((1,4):DM.P2)).map prV from rfl]at *;have a3:=(Sub.refl L2).put (o:=.lst ((List.replicate 4 ((1,4):DM.P2)).map prV)) hg3;have b3:put L2 g3 (.lst ((List.replicate 4 ((1,4):DM.P2)).map prV)) g3=some (.lst ((List.replicate 4 ((1,4):DM.P2)).map prV)):=ah;generalize put L2 g3 (.lst ((List.replicate 4 ((1,4):DM.P2)).map prV))=L3 at *;refine⟨ak (by decide),fun g4 hg4=>?_⟩;have a4:=(Sub.refl L3).put (o:=.lst [.ref g3]) hg4;have b4:put L3 g4 (.lst [.ref g3]) g4=some (.lst [.ref g3]):=ah;generalize put L3 g4 (.lst [.ref g3])=L4 at *;refine⟨⟨by decide,by decide⟩,by decide,fun g5 hg5=>?_⟩;rw[show(List.replicate (Int.toNat 6) [PV.ref g3]).flatten=List.replicate 6 (PV.ref g3)from rfl]at *;have a5:=(Sub.refl L4).put (o:=.lst (List.replicate 6 (PV.ref g3))) hg5;have b5:put L4 g5 (.lst (List.replicate 6 (PV.ref g3))) g5=some (.lst (List.replicate 6 (PV.ref g3))):=ah;generalize put L4 g5 (.lst (List.replicate 6 (PV.ref g3)))=L5 at *;refine⟨FP _,fun g6 hg6=>?_⟩;have a6:=(Sub.refl L5).put (o:=.lst []) hg6;have b6:put L5 g6 (.lst []) g6=some (.lst []):=ah;generalize put L5 g6 (.lst [])=L6 at *;refine⟨ak (by decide),fun g7 hg7=>?_⟩;have a7:=(Sub.refl L6).put (o:=.lst [.ref g1,.ref g5,.ref g6]) hg7;have b7:put L6 g7 (.lst [.ref g1,.ref g5,.ref g6]) g7=some (.lst [.ref g1,.ref g5,.ref g6]):=ah;generalize put L6 g7 (.lst [.ref g1,.ref g5,.ref g6])=L7 at *;subst hR;refine au fun R hR=>?_;ac_rfl;refine⟨FP _,fun k1 hk1=>?_⟩;have a8:=(Sub.refl L7).put (o:=.lst []) hk1;have b8:put L7 k1 (.lst []) k1=some (.lst []):=ah;generalize put L7 k1 (.lst [])=L8 at *;refine⟨⟨by decide,by decide⟩,fun k2 hk2=>?_⟩;refine aQ fK (fun _=>true) (fun σ=>∃z,σ=[z]) (by decide) (fun _=>trivial) ?_ ?_ ⟨_,rfl⟩
   ·rintro y hy l σ R' ⟨z,rfl⟩ hl kT kF;obtain⟨k,rfl⟩:∃k,y=.int k:=by
     obtain⟨k,_,e⟩:=E3.mp hy;exact⟨_,e.symm⟩
    ac_rfl;exact⟨ak (by decide),hl,by rw[aM];exact kT rfl _ ⟨_,rfl⟩⟩
   rw[show(((cW 0 (Int.toNat 5)).filter fun _=>true).map fK)=([(0,1),(1,2),(2,3),(3,4),(4,5)]:List DM.P2).map prV from rfl];have a9:=(Sub.refl L8).put (o:=.lst (([(0,1),(1,2),(2,3),(3,4),(4,5)]:List DM.P2).map prV)) hk2;have b9:put L8 k2 (.lst (([(0,1),(1,2),(2,3),(3,4),(4,5)]:List DM.P2).map prV)) k2=some (.lst (([(0,1),(1,2),(2,3),(3,4),(4,5)]:List DM.P2).map prV)):=ah;generalize put L8 k2 (.lst (([(0,1),(1,2),(2,3),(3,4),(4,5)]:List DM.P2).map prV))=L9 at *
   try ac_rfl
   refine⟨ak (by decide),ak (by decide),fun k3 hk3=>?_⟩;have a10:=(Sub.refl L9).put (o:=.lst [.tup [.int 0,.int 2]]) hk3;have b10:put L9 k3 (.lst [.tup [.int 0,.int 2]]) k3=some (.lst [.tup [.int 0,.int 2]]):=ah;generalize put L9 k3 (.lst [.tup [.int 0,.int 2]])=L10 at *;refine⟨_,_,a10 _ _ b9,rfl,ak (by decide),fun k4 hk4=>?_⟩;rw[show(([(0,1),(1,2),(2,3),(3,4),(4,5)]:List DM.P2).map prV)++[PV.tup [.int 0,.int 2]]=mj.map prV from rfl]at *;have a11:=(Sub.refl L10).put (o:=.lst (mj.map prV)) hk4;have b11:put L10 k4 (.lst (mj.map prV)) k4=some (.lst (mj.map prV)):=ah;generalize put L10 k4 (.lst (mj.map prV))=L11 at *;intro x6 dx6 hx6 hdx6 ne6;have c1:=a11 _ _ (a10 _ _ (a9 _ _ b8));refine⟨dx6,[],_,[],mj,rfl,.inr ⟨k1,rfl,(aj (ao c1 hx6)).trans c1⟩,.inr ⟨k4,rfl,(aj (ao b11 hx6)).trans b11⟩,.nil,cO,good0,xS,⟨by decide,by decide,by decide⟩,fun ts2 bs2 pt2 st2 pb2 sb2=>?_⟩
   try ac_rfl
   rw[aM];have sp6:Shp 6 ts2 bs2:=⟨⟨by decide,by decide⟩,good0.perm pt2,xS.perm pb2,by rw[pb2.length_eq];decide,st2,sb2⟩;have a12:=(Sub.refl L11).put (o:=.ins t.a_D dx6 (DF 6 ts2 bs2)) hx6;have b12:put L11 x6 (.ins t.a_D dx6 (DF 6 ts2 bs2)) x6=some (.ins t.a_D dx6 (DF 6 ts2 bs2)):=ah;generalize put L11 x6 (.ins t.a_D dx6 (DF 6 ts2 bs2))=L12 at *;subst hR;refine au fun R hR=>?_;ac_rfl;refine⟨ts',bs',ns,Hd,Tb,rfl,rfl,rfl,rfl,rfl,og,fun xw dxw yw ww H8 s8 exw=>?_⟩
   try ac_rfl
   subst hR;ac_rfl;have v12:=a8.trans (a9.trans (a10.trans (a11.trans (a12.trans s8))));have e7:=v12 _ _ b7;have e6:=v12 _ _ (a7 _ _ b6);have e5:=v12 _ _ (a7 _ _ (a6 _ _ b5));have v57:=a4.trans (a5.trans (a6.trans (a7.trans v12)));have e3:=v57 _ _ b3;have e1:=(a2.trans (a3.trans v57)) _ _ b1;have vH:U.Sub H9 H8:=a1.trans (a2.trans (a3.trans v57));have fbg:Fnb H9 H8 g1 g5 g6 (List.replicate 6 4) (List.replicate 6 (List.replicate 4 (1,4))) [] (List.replicate 6 (PV.ref g3)) []:=⟨vH,e1,e5,e6,.cons (.inr ⟨g3,rfl,e3⟩) (.cons (.inr ⟨g3,rfl,e3⟩) (.cons (.inr ⟨g3,rfl,e3⟩) (.cons (.inr ⟨g3,rfl,e3⟩) (.cons (.inr ⟨g3,rfl,e3⟩) (.cons (.inr ⟨g3,rfl,e3⟩) .nil))))),.nil,⟨by decide,by decide,by decide⟩,fun ps hp=>by rw[(Gk.mp hp).2];exact Ct,fun Rs hR=>by cases hR⟩;refine⟨H9,dx6,6,ts2,bs2,g1,g5,g6,_,_,[],_,[],s8 _ _ b12,e7,fbg,sp6,tP,?_⟩
   try ac_rfl
   refine⟨dxw,_,_,exw,rfl,?_⟩
   try ac_rfl
   refine⟨jT,jT,bM (lC 8 _ jT) ⟨dxw,_,_,exw,rfl,?_⟩⟩;rw[vL]
   try ac_rfl
   refine⟨mi,mi,H,(s5.trans (v3.trans (s9.trans vH))),?_⟩;rw[lC 8 _ mi];exact h
  ·rintro DD i y σ H9 hy ⟨z4,z5,z6,z7,rfl,s9⟩ kk;refine⟨s9 _ _ g3,?_⟩;rw[E7]at hy;obtain⟨cell,hc,rfl⟩:=Option.map_eq_some_iff.mp hy;simp only[bc,F7,FY];refine au fun R hR=>?_;ac_rfl;refine⟨by decide,?_⟩;subst hR;have w8:=fm (a:=cell) (b:=8) (by decide);refine au fun R hR=>?_;have go:∀way:Int,0≤way/\way<8->((way=3∨way=4)->bs'≠[])->R DD [some (.fls (is.map PV.int)),some (.tup [.int c,.tup (ts'.map prV),.tup (bs'.map prV)]),some (.tup [.tup (ns.map PV.int),.tup (Hd.map shT),.tup (Tb.map tbT)]),some (.ref x0),some (.int cell),some (.int way),z6,z7,none,none,none] H9:=by
    intro way hway h34;subst hR;refine au fun R hR=>?_;ac_rfl;rw[e30];have fx:=fm (a:=cell.fdiv 8) (b:=3) (by decide);have fy:=fm (a:=cell.fdiv 1000) (b:=1000000000000000000000000000000) (by decide);have fo:=zP fx fy;refine⟨dh (by decide) (by decide),by decide,dh (by decide) (by decide),⟨by decide,by decide,by decide⟩,by decide,.inr ⟨dW fx.1 (by omega),iY fo.2.2⟩,?_⟩;generalize (cell.fdiv 8).fmod 3*(cell.fdiv 1000).fmod 1000000000000000000000000000000=far at *;subst hR;refine au fun R hR=>?_;ac_rfl;refine⟨dh (by decide) (by decide),ns,Hd,Tb,rfl,rfl,rfl,⟨by omega,by omega,fun Rw hR=>(t4 Rw hR).1⟩,fun r0 a b d ys zs H2 hn=>?_⟩;subst hR;ac_rfl;refine⟨dh (by decide) (by decide),H9,a,b,d,c,ts',bs',ns,Hd,Tb,ys,zs,hn,og,hway,h34,⟨fo.1,fo.2.1⟩,fun r1 a1 b1 d1 ns1 Hs1 Ts1 ys1 zs1 H3 er1 fb nf=>?_⟩
    try ac_rfl
    refine⟨H9,dx0,c,ts',bs',a1,b1,d1,ns1,Hs1,Ts1,ys1,zs1,fb.sb _ _ (s9 _ _ ex3),er1,fb,hs,nf,?_⟩
    try ac_rfl
    exact kk _ _ ⟨_,_,_,_,rfl,s9.trans fb.sb⟩
   ac_rfl;refine aU (fun q=>⟨ak (by decide),aU (fun q2=>go 7 (by decide) (fun z=>by omega)) (fun q2=>go _ w8 (fun z=>?_))⟩) (fun q=>go _ w8 (fun _ z=>?_))
   ·simp[deq]at q2;omega
   ·rw[z]at q;simp at q
 ·exact h.elim
theorem Ey(T:Tx K mg t):aT P w K mg base CX0 10 t.a_zT t.d_zT ["_law_script"] spL:=by
 refine okU (k:=9) T.F_zT d6 (fun vs H Q E h=>by
  unfold spL at h;split at h
  ·rfl
  ·exact h.elim) (fun cdv A outer s H E B hr=>⟨_,(@ag _ _ _ _ _ _ (ax (i:=1) d6.nd rfl (by first | exact Or.inl rfl | exact Or.inr rfl) (ay (C6 T) (hr.mono (by decide)) rfl T.g_zx T.F_zx.kp T.B_zx (@aa _ _ _ _ _ _ (qv 0) (@ae _ _) (by rfl))))
  (@ag _ _ _ _ _ _ (ax (i:=2) d6.nd rfl (by first | exact Or.inl rfl | exact Or.inr rfl) (ay (D7 T) (hr.mono (by decide)) rfl T.g_zd T.F_zd.kp T.B_zd (@aa _ _ _ _ _ _ (ay (CP T) (hr.mono (by decide)) rfl T.g_zC T.F_zC.kp T.B_zC (@aa _ _ _ _ _ _ (qv 0) (@aa _ _ _ _ _ _ af (@aa _ _ _ _ _ _ (qv 1) (@aa _ _ _ _ _ _ af (@ae _ _) (by rfl)) (by rfl)) (by rfl)) (by rfl))) (@ae _ _) (by rfl))))
  (@ag _ _ _ _ _ _ (ax (i:=3) d6.nd rfl (by first | exact Or.inl rfl | exact Or.inr rfl) (gc T.mk_D (wm T) (hr.mono (by decide)) rfl T.g_D T.B_zg (@aa _ _ _ _ _ _ (aC (qv 1) af (fun _ _=>rfl)) (@aa _ _ _ _ _ _ (aE bf cu rfl T.b_list GD (@aa _ _ _ _ _ _ (aC (qv 1) af (fun _ _=>rfl)) (@ae _ _) (by rfl))) (@aa _ _ _ _ _ _ (aE bf cu rfl T.b_list GD (@aa _ _ _ _ _ _ (aC (qv 1) af (fun _ _=>rfl)) (@ae _ _) (by rfl))) (@ae _ _) (by rfl)) (by rfl)) (by rfl))))
  (@ag _ _ _ _ _ _ (cx Fx rfl (br (cS (@aF _ _ _ _ _ (@aa _ _ _ _ _ _ (ay (qE T) (hr.mono (by decide)) rfl T.g_zl T.F_zl.kp T.B_zl (@aa _ _ _ _ _ _ (qv 0) (@aa _ _ _ _ _ _ af (@ae _ _) (by rfl)) (by rfl))) (@ae _ _) (by rfl))) (cG (qv 0) (cL af) (cL af)))) (aw (i:=4) d6.nd rfl (by first | exact Or.inl rfl | exact Or.inr rfl))
  (@ag _ _ _ _ _ _ (ax (i:=5) d6.nd rfl (by first | exact Or.inl rfl | exact Or.inr rfl) (aY (qv 4) af))
   (@ag _ _ _ _ _ _ (@bh _ _ _ _ _ _ _ _ _ (eP (jS (aP (bo hr.units) bD (aB aA bG rfl T.b_len Fl (@aa _ _ _ _ _ _ (aC (qv 1) af (fun _ _=>rfl)) (@ae _ _) (by rfl))) af (aH _)) (hU (aP (jV hr.units) oW (qv 5) (aR (@aa _ _ _ _ _ _ af (@aa _ _ _ _ _ _ af (@ae _ _) (by rfl)) (by rfl))) (by with_unfolding_all rfl)))))
   (@ar _ _ _ _ (ax (i:=5) d6.nd rfl (by first | exact Or.inl rfl | exact Or.inr rfl) af))
   aL)
   (@ag _ _ _ _ _ _ (ax (i:=6) d6.nd rfl (by first | exact Or.inl rfl | exact Or.inr rfl) (bQ (aY (aV (qv 4) af) af) (aY (aV (qv 4) af) (Aj af af))))
   (@ag _ _ _ _ _ _ (ax (i:=7) d6.nd rfl (by first | exact Or.inl rfl | exact Or.inr rfl) (ay (Cy T) (hr.mono (by decide)) rfl T.g_zu T.F_zu.kp T.B_zu (@aa _ _ _ _ _ _ (qv 2) (@aa _ _ _ _ _ _ (aV (qv 4) af) (@ae _ _) (by rfl)) (by rfl))))
   (@ar _ _ _ _ (@bh _ _ _ _ _ _ _ _ _ (gw (eY (ay (BU T) (hr.mono (by decide)) rfl T.g_zj T.F_zj.kp T.B_zj (@aa _ _ _ _ _ _ (qv 3) (@aa _ _ _ _ _ _ (ay (Dl T) (hr.mono (by decide)) rfl T.g_zJ T.F_zJ.kp T.B_zJ (@aa _ _ _ _ _ _ (qv 7) (@aa _ _ _ _ _ _ (qv 5) (@aa _ _ _ _ _ _ (aV (qv 4) af) (@aa _ _ _ _ _ _ (qv 6) (@ae _ _) (by rfl)) (by rfl)) (by rfl)) (by rfl))) (@ae _ _) (by rfl)) (by rfl)))))
   (@ar _ _ _ _ (aO oh))
   aL)))))))
  (@ag _ _ _ _ _ _ (ax (i:=8) d6.nd rfl (by first | exact Or.inl rfl | exact Or.inr rfl) (@aF _ _ _ _ _ (@aa _ _ _ _ _ _ (@aF _ _ _ _ _ (@aa _ _ _ _ _ _ af (@aa _ _ _ _ _ _ af (@aa _ _ _ _ _ _ af (@aa _ _ _ _ _ _ af (@aa _ _ _ _ _ _ af (@aa _ _ _ _ _ _ af (@ae _ _) (by rfl)) (by rfl)) (by rfl)) (by rfl)) (by rfl)) (by rfl))) (@aa _ _ _ _ _ _ (km (@aF _ _ _ _ _ (@aa _ _ _ _ _ _ (km (@aF _ _ _ _ _ (@aa _ _ _ _ _ _ (aR (@aa _ _ _ _ _ _ af (@aa _ _ _ _ _ _ af (@ae _ _) (by rfl)) (by rfl))) (@ae _ _) (by rfl))) af) (@ae _ _) (by rfl))) af) (@aa _ _ _ _ _ _ (@aF _ _ _ _ _ (@ae _ _)) (@ae _ _) (by rfl)) (by rfl)) (by rfl))))
  (@ag _ _ _ _ _ _ (ax (i:=9) d6.nd rfl (by first | exact Or.inl rfl | exact Or.inr rfl) (gc T.mk_D (wm T) (hr.mono (by decide)) rfl T.g_D T.B_zg (@aa _ _ _ _ _ _ af (@aa _ _ _ _ _ _ (@aF _ _ _ _ _ (@ae _ _)) (@aa _ _ _ _ _ _ (cS (bt (N2:=["_law_k"]) (nt:=1) (js:=[]) (cok (sc:=ai mK) (by exact rfl) (by repeat (first | exact trivial | refine⟨rfl,?_⟩)) rfl (by rfl) (by decide +kernel) (by decide +kernel) (by rfl) (by decide +kernel) (by rfl) (by rfl)) rfl (bE rfl T.b_range (@aa _ _ _ _ _ _ af (@ae _ _) (by rfl))) (fun s0 H0 fp ps=>⟨(aw (i:=0) (show List.Nodup (["_law_k"]:List Str) by decide +kernel) rfl (by first | exact Or.inl rfl | exact Or.inr rfl)),aZ,(@aR _ _ _ _ _ _ (@aa _ _ _ _ _ _ (qv 0) (@aa _ _ _ _ _ _ (bI (qv 0) af) (@ae _ _) (by rfl)) (by rfl)))⟩)) (@aF _ _ _ _ _ (@aa _ _ _ _ _ _ (aR (@aa _ _ _ _ _ _ af (@aa _ _ _ _ _ _ af (@ae _ _) (by rfl)) (by rfl))) (@ae _ _) (by rfl)))) (@ae _ _) (by rfl)) (by rfl)) (by rfl))))
  (@ag _ _ _ _ _ _ (ax (i:=10) d6.nd rfl (by first | exact Or.inl rfl | exact Or.inr rfl) (ay (C8 T) (hr.mono (by decide)) rfl T.g_zG T.F_zG.kp T.B_zG (@aa _ _ _ _ _ _ (qv 1) (@aa _ _ _ _ _ _ (qv 2) (@aa _ _ _ _ _ _ af (@ae _ _) (by rfl)) (by rfl)) (by rfl))))
  (@ar _ _ _ _ (aO (cP (ay (BU T) (hr.mono (by decide)) rfl T.g_zj T.F_zj.kp T.B_zj (@aa _ _ _ _ _ _ (qv 9) (@aa _ _ _ _ _ _ (qv 8) (@ae _ _) (by rfl)) (by rfl))) (cP (cy (bo hr.units) bD (cR (qv 10) T.cl_W T.nf_World_sizes rfl) (aC (qv 2) af (fun _ _=>rfl)) (aH _)) (dU (cy (bo hr.units) bD (cR (qv 10) T.cl_W T.nf_World_tables rfl) (aC (qv 2) af (fun _ _=>rfl)) (aH _)))))))))))))),?_⟩)
 intro vs H Q E h;exact EH h
end
theorem m6{K:PySem.W.Frag}(X:K.In h)(G:h.Ns mainGlobals mg)
  {od_zL an_zL od_zM an_zM od_zD an_zD od_zg an_zg od_za an_za od_zc an_zc od_zb an_zb od_zH an_zH od_ze an_ze od_zB an_zB od_zO an_zO od_zK an_zK od_zt an_zt od_zN an_zN od_zE an_zE od_zv an_zv od_zn an_zn od_zf an_zf od_zq an_zq od_zI an_zI od_zo an_zo od_zs an_zs od_zl an_zl od_zz an_zz od_zk an_zk od_zp an_zp od_zy an_zy od_zm an_zm od_zF an_zF od_zw an_zw od_zC an_zC od_zr an_zr od_zd an_zd od_zu an_zu od_zx an_zx od_zG an_zG od_zA an_zA od_zh an_zh od_zJ an_zJ od_zj an_zj od_zT an_zT:Option Addr} {sl_zL sl_zM sl_zD sl_zg sl_za sl_zc sl_zb sl_zH sl_ze sl_zB sl_zO sl_zK sl_zt sl_zN sl_zE sl_zv sl_zn sl_zf sl_zq sl_zI sl_zo sl_zs sl_zl sl_zz sl_zk sl_zp sl_zy sl_zm sl_zF sl_zw sl_zC sl_zr sl_zd sl_zu sl_zx sl_zG sl_zA sl_zh sl_zJ sl_zj sl_zT:Array (Option Value)} {oc_zL kV_zL dc_zL pm_zL cd_zL ct_zL oc_zM kV_zM dc_zM pm_zM cd_zM ct_zM oc_zD kV_zD dc_zD pm_zD cd_zD ct_zD oc_zg kV_zg dc_zg pm_zg cd_zg ct_zg oc_za kV_za dc_za pm_za cd_za ct_za oc_zc kV_zc dc_zc pm_zc cd_zc ct_zc oc_zb kV_zb dc_zb pm_zb cd_zb ct_zb oc_zH kV_zH dc_zH pm_zH cd_zH ct_zH oc_ze kV_ze dc_ze pm_ze cd_ze ct_ze oc_zB kV_zB dc_zB pm_zB cd_zB ct_zB oc_zO kV_zO dc_zO pm_zO cd_zO ct_zO oc_zK kV_zK dc_zK pm_zK cd_zK ct_zK oc_zt kV_zt dc_zt pm_zt cd_zt ct_zt oc_zN kV_zN dc_zN pm_zN cd_zN ct_zN oc_zE kV_zE dc_zE pm_zE cd_zE ct_zE oc_zv kV_zv dc_zv pm_zv cd_zv ct_zv oc_zn kV_zn dc_zn pm_zn cd_zn ct_zn oc_zf kV_zf dc_zf pm_zf cd_zf ct_zf oc_zq kV_zq dc_zq pm_zq cd_zq ct_zq oc_zI kV_zI dc_zI pm_zI cd_zI ct_zI oc_zo kV_zo dc_zo pm_zo cd_zo ct_zo oc_zs kV_zs dc_zs pm_zs cd_zs ct_zs oc_zl kV_zl dc_zl pm_zl cd_zl ct_zl oc_zz kV_zz dc_zz pm_zz cd_zz ct_zz oc_zk kV_zk dc_zk pm_zk cd_zk ct_zk oc_zp kV_zp dc_zp pm_zp cd_zp ct_zp oc_zy kV_zy dc_zy pm_zy cd_zy ct_zy oc_zm kV_zm dc_zm pm_zm cd_zm ct_zm oc_zF kV_zF dc_zF pm_zF cd_zF ct_zF oc_zw kV_zw dc_zw pm_zw cd_zw ct_zw oc_zC kV_zC dc_zC pm_zC cd_zC ct_zC oc_zr kV_zr dc_zr pm_zr cd_zr ct_zr oc_zd kV_zd dc_zd pm_zd cd_zd ct_zd oc_zu kV_zu dc_zu pm_zu cd_zu ct_zu oc_zx kV_zx dc_zx pm_zx cd_zx ct_zx oc_zG kV_zG dc_zG pm_zG cd_zG ct_zG oc_zA kV_zA dc_zA pm_zA cd_zA ct_zA oc_zh kV_zh dc_zh pm_zh cd_zh ct_zh oc_zJ kV_zJ dc_zJ pm_zJ cd_zJ ct_zJ oc_zj kV_zj dc_zj pm_zj cd_zj ct_zj oc_zT kV_zT dc_zT pm_zT cd_zT ct_zT:Value}
  {tk_LEAST_SIZE tk_MOST_BOWS tk_MOST_HIDDEN tk_MOST_NAMES tk_MOST_SIZE tk_MOST_WEIGHTS:Tok}
  (C_A:PySem.W.nsIn K mainGlobals "BadPaper"=some (some (.ref k_A)))
  (C_B:PySem.W.nsIn K mainGlobals "BadStep"=some (some (.ref k_B)))
  (C_C:PySem.W.nsIn K mainGlobals "DoingError"=some (some (.ref k_C)))
  (C_D:PySem.W.nsIn K mainGlobals "Drawing"=some (some (.ref k_D)))
  (C_E:PySem.W.nsIn K mainGlobals "NoAnswer"=some (some (.ref k_E)))
  (C_F:PySem.W.nsIn K mainGlobals "NoBow"=some (some (.ref k_F)))
  (C_G:PySem.W.nsIn K mainGlobals "NoCount"=some (some (.ref k_G)))
  (C_H:PySem.W.nsIn K mainGlobals "NoDoor"=some (some (.ref k_H)))
  (C_I:PySem.W.nsIn K mainGlobals "NoFormula"=some (some (.ref k_I)))
  (C_J:PySem.W.nsIn K mainGlobals "NoFraction"=some (some (.ref k_J)))
  (C_K:PySem.W.nsIn K mainGlobals "NoName"=some (some (.ref k_K)))
  (C_L:PySem.W.nsIn K mainGlobals "NoNest"=some (some (.ref k_L)))
  (C_M:PySem.W.nsIn K mainGlobals "NoQuestion"=some (some (.ref k_M)))
  (C_N:PySem.W.nsIn K mainGlobals "NoRoad"=some (some (.ref k_N)))
  (C_O:PySem.W.nsIn K mainGlobals "NoRule"=some (some (.ref k_O)))
  (C_P:PySem.W.nsIn K mainGlobals "NoSets"=some (some (.ref k_P)))
  (C_Q:PySem.W.nsIn K mainGlobals "NoShare"=some (some (.ref k_Q)))
  (C_R:PySem.W.nsIn K mainGlobals "NoText"=some (some (.ref k_R)))
  (C_S:PySem.W.nsIn K mainGlobals "NoThinning"=some (some (.ref k_S)))
  (C_T:PySem.W.nsIn K mainGlobals "NoTie"=some (some (.ref k_T)))
  (C_U:PySem.W.nsIn K mainGlobals "NoValue"=some (some (.ref k_U)))
  (C_V:PySem.W.nsIn K mainGlobals "NoWorld"=some (some (.ref k_V)))
  (C_W:PySem.W.nsIn K mainGlobals "World"=some (some (.ref k_W)))
  (a_zL:PySem.W.nsIn K mainGlobals "product"=some (some (.ref f_zL)))
  (l_zL:K.lookup f_zL=some ⟨oc_zL,od_zL,.func (PySem.W.fnOf "product" "product" (aI qj) (aD qj) (ai qj) .none kV_zL dc_zL pm_zL an_zL cd_zL ct_zL),sl_zL⟩)
  (c_zL:PySem.W.codeIn K cd_zL "product"=true)
  (k_zL:PySem.W.keepIn K (.ref f_zL)=true)
  (a_zM:PySem.W.nsIn K mainGlobals "is_pair"=some (some (.ref f_zM)))
  (l_zM:K.lookup f_zM=some ⟨oc_zM,od_zM,.func (PySem.W.fnOf "is_pair" "is_pair" (aI qB) (aD qB) (ai qB) .none kV_zM dc_zM pm_zM an_zM cd_zM ct_zM),sl_zM⟩)
  (c_zM:PySem.W.codeIn K cd_zM "is_pair"=true)
  (k_zM:PySem.W.keepIn K (.ref f_zM)=true)
  (a_zD:PySem.W.nsIn K mainGlobals "are_pairs"=some (some (.ref f_zD)))
  (l_zD:K.lookup f_zD=some ⟨oc_zD,od_zD,.func (PySem.W.fnOf "are_pairs" "are_pairs" (aI mR) (aD mR) (ai mR) .none kV_zD dc_zD pm_zD an_zD cd_zD ct_zD),sl_zD⟩)
  (c_zD:PySem.W.codeIn K cd_zD "are_pairs"=true)
  (k_zD:PySem.W.keepIn K (.ref f_zD)=true)
  (a_zg:PySem.W.findIn K (.ref k_D) "__init__"=some (some (.ref f_zg)))
  (i_zg:PySem.W.isFn K (.ref f_zg)=true)
  (l_zg:K.lookup f_zg=some ⟨oc_zg,od_zg,.func (PySem.W.fnOf "__init__" "Drawing.__init__" (aI kD) (aD kD) (ai kD) .none kV_zg dc_zg pm_zg an_zg cd_zg ct_zg),sl_zg⟩)
  (c_zg:PySem.W.codeIn K cd_zg "Drawing.__init__"=true)
  (k_zg:PySem.W.keepIn K (.ref f_zg)=true)
  (a_za:PySem.W.findIn K (.ref k_D) "need_name"=some (some (.ref f_za)))
  (i_za:PySem.W.isFn K (.ref f_za)=true)
  (l_za:K.lookup f_za=some ⟨oc_za,od_za,.func (PySem.W.fnOf "need_name" "Drawing.need_name" (aI rD) (aD rD) (ai rD) .none kV_za dc_za pm_za an_za cd_za ct_za),sl_za⟩)
  (c_za:PySem.W.codeIn K cd_za "Drawing.need_name"=true)
  (k_za:PySem.W.keepIn K (.ref f_za)=true)
  (a_zc:PySem.W.findIn K (.ref k_D) "sources"=some (some (.ref f_zc)))
  (i_zc:PySem.W.isFn K (.ref f_zc)=true)
  (l_zc:K.lookup f_zc=some ⟨oc_zc,od_zc,.func (PySem.W.fnOf "sources" "Drawing.sources" (aI nC) (aD nC) (ai nC) .none kV_zc dc_zc pm_zc an_zc cd_zc ct_zc),sl_zc⟩)
  (c_zc:PySem.W.codeIn K cd_zc "Drawing.sources"=true)
  (k_zc:PySem.W.keepIn K (.ref f_zc)=true)
  (a_zb:PySem.W.nsIn K mainGlobals "greatest_divisor"=some (some (.ref f_zb)))
  (l_zb:K.lookup f_zb=some ⟨oc_zb,od_zb,.func (PySem.W.fnOf "greatest_divisor" "greatest_divisor" (aI qb) (aD qb) (ai qb) .none kV_zb dc_zb pm_zb an_zb cd_zb ct_zb),sl_zb⟩)
  (c_zb:PySem.W.codeIn K cd_zb "greatest_divisor"=true)
  (k_zb:PySem.W.keepIn K (.ref f_zb)=true)
  (a_zH:PySem.W.nsIn K mainGlobals "fraction"=some (some (.ref f_zH)))
  (l_zH:K.lookup f_zH=some ⟨oc_zH,od_zH,.func (PySem.W.fnOf "fraction" "fraction" (aI rG) (aD rG) (ai rG) .none kV_zH dc_zH pm_zH an_zH cd_zH ct_zH),sl_zH⟩)
  (c_zH:PySem.W.codeIn K cd_zH "fraction"=true)
  (k_zH:PySem.W.keepIn K (.ref f_zH)=true)
  (a_ze:PySem.W.nsIn K mainGlobals "common_bottom"=some (some (.ref f_ze)))
  (l_ze:K.lookup f_ze=some ⟨oc_ze,od_ze,.func (PySem.W.fnOf "common_bottom" "common_bottom" (aI qS) (aD qS) (ai qS) .none kV_ze dc_ze pm_ze an_ze cd_ze ct_ze),sl_ze⟩)
  (c_ze:PySem.W.codeIn K cd_ze "common_bottom"=true)
  (k_ze:PySem.W.keepIn K (.ref f_ze)=true)
  (a_zB:PySem.W.nsIn K mainGlobals "tops_over"=some (some (.ref f_zB)))
  (l_zB:K.lookup f_zB=some ⟨oc_zB,od_zB,.func (PySem.W.fnOf "tops_over" "tops_over" (aI mX) (aD mX) (ai mX) .none kV_zB dc_zB pm_zB an_zB cd_zB ct_zB),sl_zB⟩)
  (c_zB:PySem.W.codeIn K cd_zB "tops_over"=true)
  (k_zB:PySem.W.keepIn K (.ref f_zB)=true)
  (a_zO:PySem.W.nsIn K mainGlobals "total"=some (some (.ref f_zO)))
  (l_zO:K.lookup f_zO=some ⟨oc_zO,od_zO,.func (PySem.W.fnOf "total" "total" (aI qT) (aD qT) (ai qT) .none kV_zO dc_zO pm_zO an_zO cd_zO ct_zO),sl_zO⟩)
  (c_zO:PySem.W.codeIn K cd_zO "total"=true)
  (k_zO:PySem.W.keepIn K (.ref f_zO)=true)
  (a_zK:PySem.W.nsIn K mainGlobals "is_share"=some (some (.ref f_zK)))
  (l_zK:K.lookup f_zK=some ⟨oc_zK,od_zK,.func (PySem.W.fnOf "is_share" "is_share" (aI rF) (aD rF) (ai rF) .none kV_zK dc_zK pm_zK an_zK cd_zK ct_zK),sl_zK⟩)
  (c_zK:PySem.W.codeIn K cd_zK "is_share"=true)
  (k_zK:PySem.W.keepIn K (.ref f_zK)=true)
  (a_zt:PySem.W.nsIn K mainGlobals "are_shares"=some (some (.ref f_zt)))
  (l_zt:K.lookup f_zt=some ⟨oc_zt,od_zt,.func (PySem.W.fnOf "are_shares" "are_shares" (aI mY) (aD mY) (ai mY) .none kV_zt dc_zt pm_zt an_zt cd_zt ct_zt),sl_zt⟩)
  (c_zt:PySem.W.codeIn K cd_zt "are_shares"=true)
  (k_zt:PySem.W.keepIn K (.ref f_zt)=true)
  (a_zN:PySem.W.nsIn K mainGlobals "copied"=some (some (.ref f_zN)))
  (l_zN:K.lookup f_zN=some ⟨oc_zN,od_zN,.func (PySem.W.fnOf "copied" "copied" (aI mm) (aD mm) (ai mm) .none kV_zN dc_zN pm_zN an_zN cd_zN ct_zN),sl_zN⟩)
  (c_zN:PySem.W.codeIn K cd_zN "copied"=true)
  (k_zN:PySem.W.keepIn K (.ref f_zN)=true)
  (a_zE:PySem.W.nsIn K mainGlobals "are_sizes"=some (some (.ref f_zE)))
  (l_zE:K.lookup f_zE=some ⟨oc_zE,od_zE,.func (PySem.W.fnOf "are_sizes" "are_sizes" (aI mZ) (aD mZ) (ai mZ) .none kV_zE dc_zE pm_zE an_zE cd_zE ct_zE),sl_zE⟩)
  (c_zE:PySem.W.codeIn K cd_zE "are_sizes"=true)
  (k_zE:PySem.W.keepIn K (.ref f_zE)=true)
  (a_zv:PySem.W.nsIn K mainGlobals "are_hidden"=some (some (.ref f_zv)))
  (l_zv:K.lookup f_zv=some ⟨oc_zv,od_zv,.func (PySem.W.fnOf "are_hidden" "are_hidden" (aI nV) (aD nV) (ai nV) .none kV_zv dc_zv pm_zv an_zv cd_zv ct_zv),sl_zv⟩)
  (c_zv:PySem.W.codeIn K cd_zv "are_hidden"=true)
  (k_zv:PySem.W.keepIn K (.ref f_zv)=true)
  (a_zn:PySem.W.nsIn K mainGlobals "bow_places"=some (some (.ref f_zn)))
  (l_zn:K.lookup f_zn=some ⟨oc_zn,od_zn,.func (PySem.W.fnOf "bow_places" "bow_places" (aI nK) (aD nK) (ai nK) .none kV_zn dc_zn pm_zn an_zn cd_zn ct_zn),sl_zn⟩)
  (c_zn:PySem.W.codeIn K cd_zn "bow_places"=true)
  (k_zn:PySem.W.keepIn K (.ref f_zn)=true)
  (a_zf:PySem.W.nsIn K mainGlobals "hidden_sizes"=some (some (.ref f_zf)))
  (l_zf:K.lookup f_zf=some ⟨oc_zf,od_zf,.func (PySem.W.fnOf "hidden_sizes" "hidden_sizes" (aI nE) (aD nE) (ai nE) .none kV_zf dc_zf pm_zf an_zf cd_zf ct_zf),sl_zf⟩)
  (c_zf:PySem.W.codeIn K cd_zf "hidden_sizes"=true)
  (k_zf:PySem.W.keepIn K (.ref f_zf)=true)
  (a_zq:PySem.W.nsIn K mainGlobals "head_sizes"=some (some (.ref f_zq)))
  (l_zq:K.lookup f_zq=some ⟨oc_zq,od_zq,.func (PySem.W.fnOf "head_sizes" "head_sizes" (aI mG) (aD mG) (ai mG) .none kV_zq dc_zq pm_zq an_zq cd_zq ct_zq),sl_zq⟩)
  (c_zq:PySem.W.codeIn K cd_zq "head_sizes"=true)
  (k_zq:PySem.W.keepIn K (.ref f_zq)=true)
  (a_zI:PySem.W.nsIn K mainGlobals "is_table"=some (some (.ref f_zI)))
  (l_zI:K.lookup f_zI=some ⟨oc_zI,od_zI,.func (PySem.W.fnOf "is_table" "is_table" (aI nS) (aD nS) (ai nS) .none kV_zI dc_zI pm_zI an_zI cd_zI ct_zI),sl_zI⟩)
  (c_zI:PySem.W.codeIn K cd_zI "is_table"=true)
  (k_zI:PySem.W.keepIn K (.ref f_zI)=true)
  (a_zo:PySem.W.nsIn K mainGlobals "are_tables"=some (some (.ref f_zo)))
  (l_zo:K.lookup f_zo=some ⟨oc_zo,od_zo,.func (PySem.W.fnOf "are_tables" "are_tables" (aI kU) (aD kU) (ai kU) .none kV_zo dc_zo pm_zo an_zo cd_zo ct_zo),sl_zo⟩)
  (c_zo:PySem.W.codeIn K cd_zo "are_tables"=true)
  (k_zo:PySem.W.keepIn K (.ref f_zo)=true)
  (a_zs:PySem.W.findIn K (.ref k_W) "__init__"=some (some (.ref f_zs)))
  (i_zs:PySem.W.isFn K (.ref f_zs)=true)
  (l_zs:K.lookup f_zs=some ⟨oc_zs,od_zs,.func (PySem.W.fnOf "__init__" "World.__init__" (aI jQ) (aD jQ) (ai jQ) .none kV_zs dc_zs pm_zs an_zs cd_zs ct_zs),sl_zs⟩)
  (c_zs:PySem.W.codeIn K cd_zs "World.__init__"=true)
  (k_zs:PySem.W.keepIn K (.ref f_zs)=true)
  (a_zl:PySem.W.nsIn K mainGlobals "_law_cell_at"=some (some (.ref f_zl)))
  (l_zl:K.lookup f_zl=some ⟨oc_zl,od_zl,.func (PySem.W.fnOf "_law_cell_at" "_law_cell_at" (aI qA) (aD qA) (ai qA) .none kV_zl dc_zl pm_zl an_zl cd_zl ct_zl),sl_zl⟩)
  (c_zl:PySem.W.codeIn K cd_zl "_law_cell_at"=true)
  (k_zl:PySem.W.keepIn K (.ref f_zl)=true)
  (a_zz:PySem.W.nsIn K mainGlobals "_law_mixed"=some (some (.ref f_zz)))
  (l_zz:K.lookup f_zz=some ⟨oc_zz,od_zz,.func (PySem.W.fnOf "_law_mixed" "_law_mixed" (aI qk) (aD qk) (ai qk) .none kV_zz dc_zz pm_zz an_zz cd_zz ct_zz),sl_zz⟩)
  (c_zz:PySem.W.codeIn K cd_zz "_law_mixed"=true)
  (k_zz:PySem.W.keepIn K (.ref f_zz)=true)
  (a_zk:PySem.W.nsIn K mainGlobals "_law_divisor"=some (some (.ref f_zk)))
  (l_zk:K.lookup f_zk=some ⟨oc_zk,od_zk,.func (PySem.W.fnOf "_law_divisor" "_law_divisor" (aI qz) (aD qz) (ai qz) .none kV_zk dc_zk pm_zk an_zk cd_zk ct_zk),sl_zk⟩)
  (c_zk:PySem.W.codeIn K cd_zk "_law_divisor"=true)
  (k_zk:PySem.W.keepIn K (.ref f_zk)=true)
  (a_zp:PySem.W.nsIn K mainGlobals "_law_lowest"=some (some (.ref f_zp)))
  (l_zp:K.lookup f_zp=some ⟨oc_zp,od_zp,.func (PySem.W.fnOf "_law_lowest" "_law_lowest" (aI rB) (aD rB) (ai rB) .none kV_zp dc_zp pm_zp an_zp cd_zp ct_zp),sl_zp⟩)
  (c_zp:PySem.W.codeIn K cd_zp "_law_lowest"=true)
  (k_zp:PySem.W.keepIn K (.ref f_zp)=true)
  (a_zy:PySem.W.nsIn K mainGlobals "_law_pairs"=some (some (.ref f_zy)))
  (l_zy:K.lookup f_zy=some ⟨oc_zy,od_zy,.func (PySem.W.fnOf "_law_pairs" "_law_pairs" (aI qg) (aD qg) (ai qg) .none kV_zy dc_zy pm_zy an_zy cd_zy ct_zy),sl_zy⟩)
  (c_zy:PySem.W.codeIn K cd_zy "_law_pairs"=true)
  (k_zy:PySem.W.keepIn K (.ref f_zy)=true)
  (a_zm:PySem.W.nsIn K mainGlobals "_law_weights"=some (some (.ref f_zm)))
  (l_zm:K.lookup f_zm=some ⟨oc_zm,od_zm,.func (PySem.W.fnOf "_law_weights" "_law_weights" (aI qN) (aD qN) (ai qN) .none kV_zm dc_zm pm_zm an_zm cd_zm ct_zm),sl_zm⟩)
  (c_zm:PySem.W.codeIn K cd_zm "_law_weights"=true)
  (k_zm:PySem.W.keepIn K (.ref f_zm)=true)
  (a_zF:PySem.W.nsIn K mainGlobals "_law_rows"=some (some (.ref f_zF)))
  (l_zF:K.lookup f_zF=some ⟨oc_zF,od_zF,.func (PySem.W.fnOf "_law_rows" "_law_rows" (aI nh) (aD nh) (ai nh) .none kV_zF dc_zF pm_zF an_zF cd_zF ct_zF),sl_zF⟩)
  (c_zF:PySem.W.codeIn K cd_zF "_law_rows"=true)
  (k_zF:PySem.W.keepIn K (.ref f_zF)=true)
  (a_zw:PySem.W.nsIn K mainGlobals "_law_heads"=some (some (.ref f_zw)))
  (l_zw:K.lookup f_zw=some ⟨oc_zw,od_zw,.func (PySem.W.fnOf "_law_heads" "_law_heads" (aI lI) (aD lI) (ai lI) .none kV_zw dc_zw pm_zw an_zw cd_zw ct_zw),sl_zw⟩)
  (c_zw:PySem.W.codeIn K cd_zw "_law_heads"=true)
  (k_zw:PySem.W.keepIn K (.ref f_zw)=true)
  (a_zC:PySem.W.nsIn K mainGlobals "_law_world"=some (some (.ref f_zC)))
  (l_zC:K.lookup f_zC=some ⟨oc_zC,od_zC,.func (PySem.W.fnOf "_law_world" "_law_world" (aI mD) (aD mD) (ai mD) .none kV_zC dc_zC pm_zC an_zC cd_zC ct_zC),sl_zC⟩)
  (c_zC:PySem.W.codeIn K cd_zC "_law_world"=true)
  (k_zC:PySem.W.keepIn K (.ref f_zC)=true)
  (a_zr:PySem.W.nsIn K mainGlobals "_law_shares"=some (some (.ref f_zr)))
  (l_zr:K.lookup f_zr=some ⟨oc_zr,od_zr,.func (PySem.W.fnOf "_law_shares" "_law_shares" (aI mW) (aD mW) (ai mW) .none kV_zr dc_zr pm_zr an_zr cd_zr ct_zr),sl_zr⟩)
  (c_zr:PySem.W.codeIn K cd_zr "_law_shares"=true)
  (k_zr:PySem.W.keepIn K (.ref f_zr)=true)
  (a_zd:PySem.W.nsIn K mainGlobals "_law_told_world"=some (some (.ref f_zd)))
  (l_zd:K.lookup f_zd=some ⟨oc_zd,od_zd,.func (PySem.W.fnOf "_law_told_world" "_law_told_world" (aI lN) (aD lN) (ai lN) .none kV_zd dc_zd pm_zd an_zd cd_zd ct_zd),sl_zd⟩)
  (c_zd:PySem.W.codeIn K cd_zd "_law_told_world"=true)
  (k_zd:PySem.W.keepIn K (.ref f_zd)=true)
  (a_zu:PySem.W.nsIn K mainGlobals "_law_handed"=some (some (.ref f_zu)))
  (l_zu:K.lookup f_zu=some ⟨oc_zu,od_zu,.func (PySem.W.fnOf "_law_handed" "_law_handed" (aI lA) (aD lA) (ai lA) .none kV_zu dc_zu pm_zu an_zu cd_zu ct_zu),sl_zu⟩)
  (c_zu:PySem.W.codeIn K cd_zu "_law_handed"=true)
  (k_zu:PySem.W.keepIn K (.ref f_zu)=true)
  (a_zx:PySem.W.nsIn K mainGlobals "_law_drawn"=some (some (.ref f_zx)))
  (l_zx:K.lookup f_zx=some ⟨oc_zx,od_zx,.func (PySem.W.fnOf "_law_drawn" "_law_drawn" (aI qV) (aD qV) (ai qV) .none kV_zx dc_zx pm_zx an_zx cd_zx ct_zx),sl_zx⟩)
  (c_zx:PySem.W.codeIn K cd_zx "_law_drawn"=true)
  (k_zx:PySem.W.keepIn K (.ref f_zx)=true)
  (a_zG:PySem.W.nsIn K mainGlobals "_law_made"=some (some (.ref f_zG)))
  (l_zG:K.lookup f_zG=some ⟨oc_zG,od_zG,.func (PySem.W.fnOf "_law_made" "_law_made" (aI qi) (aD qi) (ai qi) .none kV_zG dc_zG pm_zG an_zG cd_zG ct_zG),sl_zG⟩)
  (c_zG:PySem.W.codeIn K cd_zG "_law_made"=true)
  (k_zG:PySem.W.keepIn K (.ref f_zG)=true)
  (a_zA:PySem.W.nsIn K mainGlobals "_law_kinds"=some (some (.ref f_zA)))
  (l_zA:K.lookup f_zA=some ⟨oc_zA,od_zA,.func (PySem.W.fnOf "_law_kinds" "_law_kinds" (aI qQ) (aD qQ) (ai qQ) .none kV_zA dc_zA pm_zA an_zA cd_zA ct_zA),sl_zA⟩)
  (c_zA:PySem.W.codeIn K cd_zA "_law_kinds"=true)
  (k_zA:PySem.W.keepIn K (.ref f_zA)=true)
  (a_zh:PySem.W.nsIn K mainGlobals "_law_bent_row"=some (some (.ref f_zh)))
  (l_zh:K.lookup f_zh=some ⟨oc_zh,od_zh,.func (PySem.W.fnOf "_law_bent_row" "_law_bent_row" (aI qr) (aD qr) (ai qr) .none kV_zh dc_zh pm_zh an_zh cd_zh ct_zh),sl_zh⟩)
  (c_zh:PySem.W.codeIn K cd_zh "_law_bent_row"=true)
  (k_zh:PySem.W.keepIn K (.ref f_zh)=true)
  (a_zJ:PySem.W.nsIn K mainGlobals "_law_bent"=some (some (.ref f_zJ)))
  (l_zJ:K.lookup f_zJ=some ⟨oc_zJ,od_zJ,.func (PySem.W.fnOf "_law_bent" "_law_bent" (aI rA) (aD rA) (ai rA) .none kV_zJ dc_zJ pm_zJ an_zJ cd_zJ ct_zJ),sl_zJ⟩)
  (c_zJ:PySem.W.codeIn K cd_zJ "_law_bent"=true)
  (k_zJ:PySem.W.keepIn K (.ref f_zJ)=true)
  (a_zj:PySem.W.nsIn K mainGlobals "_law_refused"=some (some (.ref f_zj)))
  (l_zj:K.lookup f_zj=some ⟨oc_zj,od_zj,.func (PySem.W.fnOf "_law_refused" "_law_refused" (aI qY) (aD qY) (ai qY) .none kV_zj dc_zj pm_zj an_zj cd_zj ct_zj),sl_zj⟩)
  (c_zj:PySem.W.codeIn K cd_zj "_law_refused"=true)
  (k_zj:PySem.W.keepIn K (.ref f_zj)=true)
  (a_zT:PySem.W.nsIn K mainGlobals "law"=some (some (.ref f_zT)))
  (l_zT:K.lookup f_zT=some ⟨oc_zT,od_zT,.func (PySem.W.fnOf "law" "law" (aI mK) (aD mK) (ai mK) .none kV_zT dc_zT pm_zT an_zT cd_zT ct_zT),sl_zT⟩)
  (c_zT:PySem.W.codeIn K cd_zT "law"=true)
  (k_zT:PySem.W.keepIn K (.ref f_zT)=true)
  (pg_D:PySem.W.plainGet K k_D Str.empty=true)
  (hd_D:PySem.W.hasDictIn K k_D=true)
  (po_D:PySem.W.plainOver K k_D=true)
  (sa_D:PySem.W.findIn K (.ref k_D) "__setattr__"=some (some (.builtin "object.__setattr__")))
  (mk_D:PySem.W.makesIn K k_D=true)
  (kc_D:PySem.W.keepIn K (.ref k_D)=true)
  (pg_W:PySem.W.plainGet K k_W Str.empty=true)
  (hd_W:PySem.W.hasDictIn K k_W=true)
  (po_W:PySem.W.plainOver K k_W=true)
  (sa_W:PySem.W.findIn K (.ref k_W) "__setattr__"=some (some (.builtin "object.__setattr__")))
  (mk_W:PySem.W.makesIn K k_W=true)
  (kc_W:PySem.W.keepIn K (.ref k_W)=true)
  (xe_C:PySem.W.excIn K k_C [.type "ValueError",.type "Exception",.type "BaseException",.type "object"] "ValueError.__new__"=true)
  (xo_C:PySem.W.mroIn K k_C (.type "object")=some true)
  (xb_C:PySem.W.mroIn K k_C (.type "BaseException")=some true)
  (xg_C:PySem.W.findIn K (.ref k_C) "__getattribute__"=some (some (.builtin "BaseException.__getattribute__")))
  (xt_C:PySem.W.findIn K (.ref k_C) "__getattr__"=some none)
  (xc_C:PySem.W.findIn K (.ref k_C) "__class__"=some (some (.builtin "object.__class__")))
  (xe_V:PySem.W.excIn K k_V [.type "ValueError",.type "Exception",.type "BaseException",.type "object"] "ValueError.__new__"=true)
  (xo_V:PySem.W.mroIn K k_V (.type "object")=some true)
  (xb_V:PySem.W.mroIn K k_V (.type "BaseException")=some true)
  (xg_V:PySem.W.findIn K (.ref k_V) "__getattribute__"=some (some (.builtin "BaseException.__getattribute__")))
  (xt_V:PySem.W.findIn K (.ref k_V) "__getattr__"=some none)
  (xc_V:PySem.W.findIn K (.ref k_V) "__class__"=some (some (.builtin "object.__class__")))
  (s_V:PySem.W.mroIn K k_V (.ref k_C)=some true)
  (kkV_:PySem.W.kitOne K (.ref k_V) (.type "ValueError")=some true)
  (kkVR:PySem.W.kitOne K (.ref k_V) (.ref k_R)=some false)
  (kkVB:PySem.W.kitOne K (.ref k_V) (.ref k_B)=some false)
  (kkVI:PySem.W.kitOne K (.ref k_V) (.ref k_I)=some false)
  (kkVM:PySem.W.kitOne K (.ref k_V) (.ref k_M)=some false)
  (kkVE:PySem.W.kitOne K (.ref k_V) (.ref k_E)=some false)
  (kkVS:PySem.W.kitOne K (.ref k_V) (.ref k_S)=some false)
  (kkVH:PySem.W.kitOne K (.ref k_V) (.ref k_H)=some false)
  (kkVL:PySem.W.kitOne K (.ref k_V) (.ref k_L)=some false)
  (kkVA:PySem.W.kitOne K (.ref k_V) (.ref k_A)=some false)
  (kkVO:PySem.W.kitOne K (.ref k_V) (.ref k_O)=some false)
  (kkVN:PySem.W.kitOne K (.ref k_V) (.ref k_N)=some false)
  (kkVQ:PySem.W.kitOne K (.ref k_V) (.ref k_Q)=some false)
  (kkVU:PySem.W.kitOne K (.ref k_V) (.ref k_U)=some false)
  (kkVV:PySem.W.kitOne K (.ref k_V) (.ref k_V)=some true)
  (kkVP:PySem.W.kitOne K (.ref k_V) (.ref k_P)=some false)
  (kkVK:PySem.W.kitOne K (.ref k_V) (.ref k_K)=some false)
  (kkVF:PySem.W.kitOne K (.ref k_V) (.ref k_F)=some false)
  (kkVT:PySem.W.kitOne K (.ref k_V) (.ref k_T)=some false)
  (kkVG:PySem.W.kitOne K (.ref k_V) (.ref k_G)=some false)
  (kkVJ:PySem.W.kitOne K (.ref k_V) (.ref k_J)=some false)
  (z_ValueError:PySem.W.nsIn K mainGlobals "ValueError"=some none)
  (z_abs:PySem.W.nsIn K mainGlobals "abs"=some none)
  (z_all:PySem.W.nsIn K mainGlobals "all"=some none)
  (z_enumerate:PySem.W.nsIn K mainGlobals "enumerate"=some none)
  (z_int:PySem.W.nsIn K mainGlobals "int"=some none)
  (z_isinstance:PySem.W.nsIn K mainGlobals "isinstance"=some none)
  (z_len:PySem.W.nsIn K mainGlobals "len"=some none)
  (z_list:PySem.W.nsIn K mainGlobals "list"=some none)
  (z_min:PySem.W.nsIn K mainGlobals "min"=some none)
  (z_range:PySem.W.nsIn K mainGlobals "range"=some none)
  (z_set:PySem.W.nsIn K mainGlobals "set"=some none)
  (z_sorted:PySem.W.nsIn K mainGlobals "sorted"=some none)
  (z_sum:PySem.W.nsIn K mainGlobals "sum"=some none)
  (z_tuple:PySem.W.nsIn K mainGlobals "tuple"=some none)
  (z_zip:PySem.W.nsIn K mainGlobals "zip"=some none)
  (v_LEAST_SIZE:PySem.W.nsIn K mainGlobals "LEAST_SIZE"=some (some (.int 2 tk_LEAST_SIZE)))
  (v_MOST_BOWS:PySem.W.nsIn K mainGlobals "MOST_BOWS"=some (some (.int 6 tk_MOST_BOWS)))
  (v_MOST_HIDDEN:PySem.W.nsIn K mainGlobals "MOST_HIDDEN"=some (some (.int 4 tk_MOST_HIDDEN)))
  (v_MOST_NAMES:PySem.W.nsIn K mainGlobals "MOST_NAMES"=some (some (.int 6 tk_MOST_NAMES)))
  (v_MOST_SIZE:PySem.W.nsIn K mainGlobals "MOST_SIZE"=some (some (.int 4 tk_MOST_SIZE)))
  (v_MOST_WEIGHTS:PySem.W.nsIn K mainGlobals "MOST_WEIGHTS"=some (some (.int 200000 tk_MOST_WEIGHTS)))
  (nD_bows:PySem.W.findIn K (.ref k_D) "bows"=some none)
  (nD_count:PySem.W.findIn K (.ref k_D) "count"=some none)
  (nD_ties:PySem.W.findIn K (.ref k_D) "ties"=some none)
  (n_World_drawing:PySem.W.findIn K (.ref k_W) "drawing"=some none)
  (n_World_hidden:PySem.W.findIn K (.ref k_W) "hidden"=some none)
  (n_World_sizes:PySem.W.findIn K (.ref k_W) "sizes"=some none)
  (n_World_tables:PySem.W.findIn K (.ref k_W) "tables"=some none)
  (n_World_weighed:PySem.W.findIn K (.ref k_W) "weighed"=some none) :
  ∃t:Ad,Tx K mg t/\t.a_zT=f_zT/\∀(s:Shared) (v:Value),BindsTo s t.d_zT ⟨[v],[]⟩ [("_law_script",v)]:=by
 have F_zL:=aS (st:=qj) l_zL c_zL k_zL;have B_zL:=F_zL.binds (ps:=["numbers"]) fun _ _ _ _ _ _ us hl=>gU (P:=fun us=>bindArgs _ ⟨us,[]⟩=pure (List.zip _ us)) (fun _=>rfl) us hl;have F_zM:=aS (st:=qB) l_zM c_zM k_zM;have B_zM:=F_zM.binds (ps:=["count","pair"]) fun _ _ _ _ _ _ us hl=>dR (P:=fun us=>bindArgs _ ⟨us,[]⟩=pure (List.zip _ us)) (fun _ _=>rfl) us hl;have F_zD:=aS (st:=mR) l_zD c_zD k_zD;have B_zD:=F_zD.binds (ps:=["count","pairs"]) fun _ _ _ _ _ _ us hl=>dR (P:=fun us=>bindArgs _ ⟨us,[]⟩=pure (List.zip _ us)) (fun _ _=>rfl) us hl;have F_zg:=aS (st:=kD) l_zg c_zg k_zg;have B_zg:=F_zg.binds (ps:=["self","count","ties","bows"]) fun _ _ _ _ _ _ us hl=>nA (P:=fun us=>bindArgs _ ⟨us,[]⟩=pure (List.zip _ us)) (fun _ _ _ _=>rfl) us hl;have F_za:=aS (st:=rD) l_za c_za k_za;have B_za:=F_za.binds (ps:=["self","name"]) fun _ _ _ _ _ _ us hl=>dR (P:=fun us=>bindArgs _ ⟨us,[]⟩=pure (List.zip _ us)) (fun _ _=>rfl) us hl;have F_zc:=aS (st:=nC) l_zc c_zc k_zc;have B_zc:=F_zc.binds (ps:=["self","name"]) fun _ _ _ _ _ _ us hl=>dR (P:=fun us=>bindArgs _ ⟨us,[]⟩=pure (List.zip _ us)) (fun _ _=>rfl) us hl;have F_zb:=aS (st:=qb) l_zb c_zb k_zb;have B_zb:=F_zb.binds (ps:=["a","b"]) fun _ _ _ _ _ _ us hl=>dR (P:=fun us=>bindArgs _ ⟨us,[]⟩=pure (List.zip _ us)) (fun _ _=>rfl) us hl;have F_zH:=aS (st:=rG) l_zH c_zH k_zH;have B_zH:=F_zH.binds (ps:=["top","bottom"]) fun _ _ _ _ _ _ us hl=>dR (P:=fun us=>bindArgs _ ⟨us,[]⟩=pure (List.zip _ us)) (fun _ _=>rfl) us hl;have F_ze:=aS (st:=qS) l_ze c_ze k_ze;have B_ze:=F_ze.binds (ps:=["parts"]) fun _ _ _ _ _ _ us hl=>gU (P:=fun us=>bindArgs _ ⟨us,[]⟩=pure (List.zip _ us)) (fun _=>rfl) us hl;have F_zB:=aS (st:=mX) l_zB c_zB k_zB;have B_zB:=F_zB.binds (ps:=["parts","bottom"]) fun _ _ _ _ _ _ us hl=>dR (P:=fun us=>bindArgs _ ⟨us,[]⟩=pure (List.zip _ us)) (fun _ _=>rfl) us hl;have F_zO:=aS (st:=qT) l_zO c_zO k_zO;have B_zO:=F_zO.binds (ps:=["parts"]) fun _ _ _ _ _ _ us hl=>gU (P:=fun us=>bindArgs _ ⟨us,[]⟩=pure (List.zip _ us)) (fun _=>rfl) us hl;have F_zK:=aS (st:=rF) l_zK c_zK k_zK;have B_zK:=F_zK.binds (ps:=["part"]) fun _ _ _ _ _ _ us hl=>gU (P:=fun us=>bindArgs _ ⟨us,[]⟩=pure (List.zip _ us)) (fun _=>rfl) us hl;have F_zt:=aS (st:=mY) l_zt c_zt k_zt;have B_zt:=F_zt.binds (ps:=["parts"]) fun _ _ _ _ _ _ us hl=>gU (P:=fun us=>bindArgs _ ⟨us,[]⟩=pure (List.zip _ us)) (fun _=>rfl) us hl;have F_zN:=aS (st:=mm) l_zN c_zN k_zN;have B_zN:=F_zN.binds (ps:=["parts"]) fun _ _ _ _ _ _ us hl=>gU (P:=fun us=>bindArgs _ ⟨us,[]⟩=pure (List.zip _ us)) (fun _=>rfl) us hl;have F_zE:=aS (st:=mZ) l_zE c_zE k_zE;have B_zE:=F_zE.binds (ps:=["drawing","sizes"]) fun _ _ _ _ _ _ us hl=>dR (P:=fun us=>bindArgs _ ⟨us,[]⟩=pure (List.zip _ us)) (fun _ _=>rfl) us hl;have F_zv:=aS (st:=nV) l_zv c_zv k_zv;have B_zv:=F_zv.binds (ps:=["drawing","hidden"]) fun _ _ _ _ _ _ us hl=>dR (P:=fun us=>bindArgs _ ⟨us,[]⟩=pure (List.zip _ us)) (fun _ _=>rfl) us hl;have F_zn:=aS (st:=nK) l_zn c_zn k_zn;have B_zn:=F_zn.binds (ps:=["drawing","name"]) fun _ _ _ _ _ _ us hl=>dR (P:=fun us=>bindArgs _ ⟨us,[]⟩=pure (List.zip _ us)) (fun _ _=>rfl) us hl;have F_zf:=aS (st:=nE) l_zf c_zf k_zf;have B_zf:=F_zf.binds (ps:=["drawing","hidden","name"]) fun _ _ _ _ _ _ us hl=>qw (P:=fun us=>bindArgs _ ⟨us,[]⟩=pure (List.zip _ us)) (fun _ _ _=>rfl) us hl;have F_zq:=aS (st:=mG) l_zq c_zq k_zq;have B_zq:=F_zq.binds (ps:=["drawing","sizes","hidden","name"]) fun _ _ _ _ _ _ us hl=>nA (P:=fun us=>bindArgs _ ⟨us,[]⟩=pure (List.zip _ us)) (fun _ _ _ _=>rfl) us hl;have F_zI:=aS (st:=nS) l_zI c_zI k_zI;have B_zI:=F_zI.binds (ps:=["table","rows","size"]) fun _ _ _ _ _ _ us hl=>qw (P:=fun us=>bindArgs _ ⟨us,[]⟩=pure (List.zip _ us)) (fun _ _ _=>rfl) us hl;have F_zo:=aS (st:=kU) l_zo c_zo k_zo;have B_zo:=F_zo.binds (ps:=["drawing","sizes","hidden","tables"]) fun _ _ _ _ _ _ us hl=>nA (P:=fun us=>bindArgs _ ⟨us,[]⟩=pure (List.zip _ us)) (fun _ _ _ _=>rfl) us hl;have F_zs:=aS (st:=jQ) l_zs c_zs k_zs;have B_zs:=F_zs.binds (ps:=["self","drawing","sizes","hidden","tables"]) fun _ _ _ _ _ _ us hl=>Dc (P:=fun us=>bindArgs _ ⟨us,[]⟩=pure (List.zip _ us)) (fun _ _ _ _ _=>rfl) us hl;have F_zl:=aS (st:=qA) l_zl c_zl k_zl;have B_zl:=F_zl.binds (ps:=["_law_script","_law_k"]) fun _ _ _ _ _ _ us hl=>dR (P:=fun us=>bindArgs _ ⟨us,[]⟩=pure (List.zip _ us)) (fun _ _=>rfl) us hl;have F_zz:=aS (st:=qk) l_zz c_zz k_zz;have B_zz:=F_zz.binds (ps:=["_law_cell","_law_many"]) fun _ _ _ _ _ _ us hl=>dR (P:=fun us=>bindArgs _ ⟨us,[]⟩=pure (List.zip _ us)) (fun _ _=>rfl) us hl;have F_zk:=aS (st:=qz) l_zk c_zk k_zk;have B_zk:=F_zk.binds (ps:=["_law_one","_law_other"]) fun _ _ _ _ _ _ us hl=>dR (P:=fun us=>bindArgs _ ⟨us,[]⟩=pure (List.zip _ us)) (fun _ _=>rfl) us hl;have F_zp:=aS (st:=rB) l_zp c_zp k_zp;have B_zp:=F_zp.binds (ps:=["_law_top","_law_bottom"]) fun _ _ _ _ _ _ us hl=>dR (P:=fun us=>bindArgs _ ⟨us,[]⟩=pure (List.zip _ us)) (fun _ _=>rfl) us hl;have F_zy:=aS (st:=qg) l_zy c_zy k_zy;have B_zy:=F_zy.binds (ps:=["_law_script","_law_at"]) fun _ _ _ _ _ _ us hl=>dR (P:=fun us=>bindArgs _ ⟨us,[]⟩=pure (List.zip _ us)) (fun _ _=>rfl) us hl;have F_zm:=aS (st:=qN) l_zm c_zm k_zm;have B_zm:=F_zm.binds (ps:=["_law_digit","_law_size","_law_full"]) fun _ _ _ _ _ _ us hl=>qw (P:=fun us=>bindArgs _ ⟨us,[]⟩=pure (List.zip _ us)) (fun _ _ _=>rfl) us hl;have F_zF:=aS (st:=nh) l_zF c_zF k_zF;have B_zF:=F_zF.binds (ps:=["_law_cell","_law_many","_law_size","_law_full"]) fun _ _ _ _ _ _ us hl=>nA (P:=fun us=>bindArgs _ ⟨us,[]⟩=pure (List.zip _ us)) (fun _ _ _ _=>rfl) us hl;have F_zw:=aS (st:=lI) l_zw c_zw k_zw;have B_zw:=F_zw.binds (ps:=["_law_shape","_law_name"]) fun _ _ _ _ _ _ us hl=>dR (P:=fun us=>bindArgs _ ⟨us,[]⟩=pure (List.zip _ us)) (fun _ _=>rfl) us hl;have F_zC:=aS (st:=mD) l_zC c_zC k_zC;have B_zC:=F_zC.binds (ps:=["_law_script","_law_at","_law_shape","_law_most"]) fun _ _ _ _ _ _ us hl=>nA (P:=fun us=>bindArgs _ ⟨us,[]⟩=pure (List.zip _ us)) (fun _ _ _ _=>rfl) us hl;have F_zr:=aS (st:=mW) l_zr c_zr k_zr;have B_zr:=F_zr.binds (ps:=["_law_weights_here"]) fun _ _ _ _ _ _ us hl=>gU (P:=fun us=>bindArgs _ ⟨us,[]⟩=pure (List.zip _ us)) (fun _=>rfl) us hl;have F_zd:=aS (st:=lN) l_zd c_zd k_zd;have B_zd:=F_zd.binds (ps:=["_law_world_here"]) fun _ _ _ _ _ _ us hl=>gU (P:=fun us=>bindArgs _ ⟨us,[]⟩=pure (List.zip _ us)) (fun _=>rfl) us hl;have F_zu:=aS (st:=lA) l_zu c_zu k_zu;have B_zu:=F_zu.binds (ps:=["_law_told","_law_bits"]) fun _ _ _ _ _ _ us hl=>dR (P:=fun us=>bindArgs _ ⟨us,[]⟩=pure (List.zip _ us)) (fun _ _=>rfl) us hl;have F_zx:=aS (st:=qV) l_zx c_zx k_zx;have B_zx:=F_zx.binds (ps:=["_law_script"]) fun _ _ _ _ _ _ us hl=>gU (P:=fun us=>bindArgs _ ⟨us,[]⟩=pure (List.zip _ us)) (fun _=>rfl) us hl;have F_zG:=aS (st:=qi) l_zG c_zG k_zG;have B_zG:=F_zG.binds (ps:=["_law_shape","_law_told","_law_bits"]) fun _ _ _ _ _ _ us hl=>qw (P:=fun us=>bindArgs _ ⟨us,[]⟩=pure (List.zip _ us)) (fun _ _ _=>rfl) us hl;have F_zA:=aS (st:=qQ) l_zA c_zA k_zA;have B_zA:=F_zA.binds (ps:=["_law_e"]) fun _ _ _ _ _ _ us hl=>gU (P:=fun us=>bindArgs _ ⟨us,[]⟩=pure (List.zip _ us)) (fun _=>rfl) us hl;have F_zh:=aS (st:=qr) l_zh c_zh k_zh;have B_zh:=F_zh.binds (ps:=["_law_row","_law_way","_law_far"]) fun _ _ _ _ _ _ us hl=>qw (P:=fun us=>bindArgs _ ⟨us,[]⟩=pure (List.zip _ us)) (fun _ _ _=>rfl) us hl;have F_zJ:=aS (st:=rA) l_zJ c_zJ k_zJ;have B_zJ:=F_zJ.binds (ps:=["_law_rows_here","_law_way","_law_cell","_law_far"]) fun _ _ _ _ _ _ us hl=>nA (P:=fun us=>bindArgs _ ⟨us,[]⟩=pure (List.zip _ us)) (fun _ _ _ _=>rfl) us hl;have F_zj:=aS (st:=qY) l_zj c_zj k_zj;have B_zj:=F_zj.binds (ps:=["_law_drawing","_law_rows_here"]) fun _ _ _ _ _ _ us hl=>dR (P:=fun us=>bindArgs _ ⟨us,[]⟩=pure (List.zip _ us)) (fun _ _=>rfl) us hl;have F_zT:=aS (st:=mK) l_zT c_zT k_zT;have B_zT:=F_zT.binds (ps:=["_law_script"]) fun _ _ _ _ _ _ us hl=>gU (P:=fun us=>bindArgs _ ⟨us,[]⟩=pure (List.zip _ us)) (fun _=>rfl) us hl;exact⟨⟨f_zL,_,f_zM,_,f_zD,_,f_zg,_,f_za,_,f_zc,_,f_zb,_,f_zH,_,f_ze,_,f_zB,_,f_zO,_,f_zK,_,f_zt,_,f_zN,_,f_zE,_,f_zv,_,f_zn,_,f_zf,_,f_zq,_,f_zI,_,f_zo,_,f_zs,_,f_zl,_,f_zz,_,f_zk,_,f_zp,_,f_zy,_,f_zm,_,f_zF,_,f_zw,_,f_zC,_,f_zr,_,f_zd,_,f_zu,_,f_zx,_,f_zG,_,f_zA,_,f_zh,_,f_zJ,_,f_zj,_,f_zT,_,k_A,k_B,k_C,k_D,k_E,k_F,k_G,k_H,k_I,k_J,k_K,k_L,k_M,k_N,k_O,k_P,k_Q,k_R,k_S,k_T,k_U,k_V,k_W⟩,⟨F_zL,
  B_zL,
  EW X G a_zL,
  F_zM,
  B_zM,
  EW X G a_zM,
  F_zD,
  B_zD,
  EW X G a_zD,
  F_zg,
  B_zg,
  F_za,
  B_za,
  ⟨a_za,i_za,k_za⟩,
  F_zc,
  B_zc,
  ⟨a_zc,i_zc,k_zc⟩,
  F_zb,
  B_zb,
  EW X G a_zb,
  F_zH,
  B_zH,
  EW X G a_zH,
  F_ze,
  B_ze,
  EW X G a_ze,
  F_zB,
  B_zB,
  EW X G a_zB,
  F_zO,
  B_zO,
  EW X G a_zO,
  F_zK,
  B_zK,
  EW X G a_zK,
  F_zt,
  B_zt,
  EW X G a_zt,
  F_zN,
  B_zN,
  EW X G a_zN,
  F_zE,
  B_zE,
  EW X G a_zE,
  F_zv,
  B_zv,
  EW X G a_zv,
  F_zn,
  B_zn,
  EW X G a_zn,
  F_zf,
  B_zf,
  EW X G a_zf,
  F_zq,
  B_zq,
  EW X G a_zq,
  F_zI,
  B_zI,
  EW X G a_zI,
  F_zo,
  B_zo,
  EW X G a_zo,
  F_zs,
  B_zs,
  F_zl,
  B_zl,
  EW X G a_zl,
  F_zz,
  B_zz,
  EW X G a_zz,
  F_zk,
  B_zk,
  EW X G a_zk,
  F_zp,
  B_zp,
  EW X G a_zp,
  F_zy,
  B_zy,
  EW X G a_zy,
  F_zm,
  B_zm,
  EW X G a_zm,
  F_zF,
  B_zF,
  EW X G a_zF,
  F_zw,
  B_zw,
  EW X G a_zw,
  F_zC,
  B_zC,
  EW X G a_zC,
  F_zr,
  B_zr,
  EW X G a_zr,
  F_zd,
  B_zd,
  EW X G a_zd,
  F_zu,
  B_zu,
  EW X G a_zu,
  F_zx,
  B_zx,
  EW X G a_zx,
  F_zG,
  B_zG,
  EW X G a_zG,
  F_zA,
  B_zA,
  EW X G a_zA,
  F_zh,
  B_zh,
  EW X G a_zh,
  F_zJ,
  B_zJ,
  EW X G a_zJ,
  F_zj,
  B_zj,
  EW X G a_zj,
  F_zT,
  B_zT,
  EW X G a_zT,
  EW X G C_A,
  EW X G C_B,
  EW X G C_C,
  EW X G C_D,
  ⟨pg_D,hd_D,po_D,sa_D⟩,
  ⟨mk_D,a_zg,i_zg,kc_D⟩,
  EW X G C_E,
  EW X G C_F,
  EW X G C_G,
  EW X G C_H,
  EW X G C_I,
  EW X G C_J,
  EW X G C_K,
  EW X G C_L,
  EW X G C_M,
  EW X G C_N,
  EW X G C_O,
  EW X G C_P,
  EW X G C_Q,
  EW X G C_R,
  EW X G C_S,
  EW X G C_T,
  EW X G C_U,
  EW X G C_V,
  EW X G C_W,
  ⟨pg_W,hd_W,po_W,sa_W⟩,
  ⟨mk_W,a_zs,i_zs,kc_W⟩,
  ⟨xe_C,xo_C,xb_C,xg_C,xt_C,xc_C⟩,
  ⟨xe_V,xo_V,xb_V,xg_V,xt_V,xc_V⟩,
  s_V,
  kkV_,
  kkVR,
  kkVB,
  kkVI,
  kkVM,
  kkVE,
  kkVS,
  kkVH,
  kkVL,
  kkVA,
  kkVO,
  kkVN,
  kkVQ,
  kkVU,
  kkVV,
  kkVP,
  kkVK,
  kkVF,
  kkVT,
  kkVG,
  kkVJ,
  Fw X G z_ValueError,
  Fw X G z_abs,
  Fw X G z_all,
  Fw X G z_enumerate,
  Fw X G z_int,
  Fw X G z_isinstance,
  Fw X G z_len,
  Fw X G z_list,
  Fw X G z_min,
  Fw X G z_range,
  Fw X G z_set,
  Fw X G z_sorted,
  Fw X G z_sum,
  Fw X G z_tuple,
  Fw X G z_zip,
  ⟨_,EW X G v_LEAST_SIZE,⟨_,rfl⟩⟩,
  ⟨_,EW X G v_MOST_BOWS,⟨_,rfl⟩⟩,
  ⟨_,EW X G v_MOST_HIDDEN,⟨_,rfl⟩⟩,
  ⟨_,EW X G v_MOST_NAMES,⟨_,rfl⟩⟩,
  ⟨_,EW X G v_MOST_SIZE,⟨_,rfl⟩⟩,
  ⟨_,EW X G v_MOST_WEIGHTS,⟨_,rfl⟩⟩,
  nD_bows,
  nD_count,
  nD_ties,
  n_World_drawing,
  n_World_hidden,
  n_World_sizes,
  n_World_tables,
  n_World_weighed⟩,rfl,fun s v=>.of_eq rfl⟩
theorem Cr{K:PySem.W.Frag}(h:∃t:Ad,Tx K mg t/\t.a_zT=f/\∀(s:Shared) (v:Value),BindsTo s t.d_zT ⟨[v],[]⟩ [(x,v)])(e:mg "law"=some (.ref f)) :
  ∃t:Ad,Tx K mg t/\mg "law"=some (.ref t.a_zT)/\∀(s:Shared) (v:Value),BindsTo s t.d_zT ⟨[v],[]⟩ [(x,v)]:=by
 obtain⟨t,T,rfl,b⟩:=h;exact⟨t,T,e,b⟩
end Lw
end
open PySem PySem.W PyProof.Rows
set_option maxRecDepth 100000 in
set_option maxHeartbeats 0 in
theorem PySem.Challenge.cw_doingbook_k22_what_makes_no_world_holds : PySem.Challenge.rw_doingbook_k22_what_makes_no_world.Holds := by
 w_on;o_law;k_head;(case hw=>w_witness2)
 k_fill
 refine L2.rK (l:=PySem.Challenge.rw_doingbook_k22_what_makes_no_world) (n:=63) (k:=10) (x:="_law_script") (CX:=L2.CX0) (sp:=fun K=>U.fG K U.spL) rfl (by decide) rfl ⟨rfl,by decide,by decide⟩ (fun w h Y=>PySem.W.kIn_of Y) ?F (fun K H a ns hl hO hS=>U.qP hl hO hS) (fun _ _ _ _ z=>z)
 case F =>
  intro w mg fa h KX G hmg;have T:∃t:Lw.Ad,Lw.Tx (L2.KOf KX) mg t/\mg "law"=some (.ref t.a_zT)/\∀(s:Shared) (v:Value),BindsTo s t.d_zT ⟨[v],[]⟩ [("_law_script",v)]:=by
   dsimp only[L2.KOf];refine' Lw.Cr (Lw.m6 KX G ?C_A ?C_B ?C_C ?C_D ?C_E ?C_F ?C_G ?C_H ?C_I ?C_J ?C_K ?C_L ?C_M ?C_N ?C_O ?C_P ?C_Q ?C_R ?C_S ?C_T ?C_U ?C_V ?C_W ?a_zL ?l_zL ?c_zL ?k_zL ?a_zM ?l_zM ?c_zM ?k_zM ?a_zD ?l_zD ?c_zD ?k_zD ?a_zg ?i_zg ?l_zg ?c_zg ?k_zg ?a_za ?i_za ?l_za ?c_za ?k_za ?a_zc ?i_zc ?l_zc ?c_zc ?k_zc ?a_zb ?l_zb ?c_zb ?k_zb ?a_zH ?l_zH ?c_zH ?k_zH ?a_ze ?l_ze ?c_ze ?k_ze ?a_zB ?l_zB ?c_zB ?k_zB ?a_zO ?l_zO ?c_zO ?k_zO ?a_zK ?l_zK ?c_zK ?k_zK ?a_zt ?l_zt ?c_zt ?k_zt ?a_zN ?l_zN ?c_zN ?k_zN ?a_zE ?l_zE ?c_zE ?k_zE ?a_zv ?l_zv ?c_zv ?k_zv ?a_zn ?l_zn ?c_zn ?k_zn ?a_zf ?l_zf ?c_zf ?k_zf ?a_zq ?l_zq ?c_zq ?k_zq ?a_zI ?l_zI ?c_zI ?k_zI ?a_zo ?l_zo ?c_zo ?k_zo ?a_zs ?i_zs ?l_zs ?c_zs ?k_zs ?a_zl ?l_zl ?c_zl ?k_zl ?a_zz ?l_zz ?c_zz ?k_zz ?a_zk ?l_zk ?c_zk ?k_zk ?a_zp ?l_zp ?c_zp ?k_zp ?a_zy ?l_zy ?c_zy ?k_zy ?a_zm ?l_zm ?c_zm ?k_zm ?a_zF ?l_zF ?c_zF ?k_zF ?a_zw ?l_zw ?c_zw ?k_zw ?a_zC ?l_zC ?c_zC ?k_zC ?a_zr ?l_zr ?c_zr ?k_zr ?a_zd ?l_zd ?c_zd ?k_zd ?a_zu ?l_zu ?c_zu ?k_zu ?a_zx ?l_zx ?c_zx ?k_zx ?a_zG ?l_zG ?c_zG ?k_zG ?a_zA ?l_zA ?c_zA ?k_zA ?a_zh ?l_zh ?c_zh ?k_zh ?a_zJ ?l_zJ ?c_zJ ?k_zJ ?a_zj ?l_zj ?c_zj ?k_zj ?a_zT ?l_zT ?c_zT ?k_zT ?pg_D ?hd_D ?po_D ?sa_D ?mk_D ?kc_D ?pg_W ?hd_W ?po_W ?sa_W ?mk_W ?kc_W ?xe_C ?xo_C ?xb_C ?xg_C ?xt_C ?xc_C ?xe_V ?xo_V ?xb_V ?xg_V ?xt_V ?xc_V ?s_V ?kkV_ ?kkVR ?kkVB ?kkVI ?kkVM ?kkVE ?kkVS ?kkVH ?kkVL ?kkVA ?kkVO ?kkVN ?kkVQ ?kkVU ?kkVV ?kkVP ?kkVK ?kkVF ?kkVT ?kkVG ?kkVJ ?z_ValueError ?z_abs ?z_all ?z_enumerate ?z_int ?z_isinstance ?z_len ?z_list ?z_min ?z_range ?z_set ?z_sorted ?z_sum ?z_tuple ?z_zip ?v_LEAST_SIZE ?v_MOST_BOWS ?v_MOST_HIDDEN ?v_MOST_NAMES ?v_MOST_SIZE ?v_MOST_WEIGHTS ?nD_bows ?nD_count ?nD_ties ?n_World_drawing ?n_World_hidden ?n_World_sizes ?n_World_tables ?n_World_weighed) ?tl
   (case C_A=>k_is)
   (case C_B=>k_is)
   (case C_C=>k_is)
   (case C_D=>k_is)
   (case C_E=>k_is)
   (case C_F=>k_is)
   (case C_G=>k_is)
   (case C_H=>k_is)
   (case C_I=>k_is)
   (case C_J=>k_is)
   (case C_K=>k_is)
   (case C_L=>k_is)
   (case C_M=>k_is)
   (case C_N=>k_is)
   (case C_O=>k_is)
   (case C_P=>k_is)
   (case C_Q=>k_is)
   (case C_R=>k_is)
   (case C_S=>k_is)
   (case C_T=>k_is)
   (case C_U=>k_is)
   (case C_V=>k_is)
   (case C_W=>k_is)
   (case a_zL=>k_is)
   (case l_zL=>k_is)
   (case c_zL=>k_is)
   (case k_zL=>k_is)
   (case a_zM=>k_is)
   (case l_zM=>k_is)
   (case c_zM=>k_is)
   (case k_zM=>k_is)
   (case a_zD=>k_is)
   (case l_zD=>k_is)
   (case c_zD=>k_is)
   (case k_zD=>k_is)
   (case a_zg=>k_is)
   (case i_zg=>k_is)
   (case l_zg=>k_is)
   (case c_zg=>k_is)
   (case k_zg=>k_is)
   (case a_za=>k_is)
   (case i_za=>k_is)
   (case l_za=>k_is)
   (case c_za=>k_is)
   (case k_za=>k_is)
   (case a_zc=>k_is)
   (case i_zc=>k_is)
   (case l_zc=>k_is)
   (case c_zc=>k_is)
   (case k_zc=>k_is)
   (case a_zb=>k_is)
   (case l_zb=>k_is)
   (case c_zb=>k_is)
   (case k_zb=>k_is)
   (case a_zH=>k_is)
   (case l_zH=>k_is)
   (case c_zH=>k_is)
   (case k_zH=>k_is)
   (case a_ze=>k_is)
   (case l_ze=>k_is)
   (case c_ze=>k_is)
   (case k_ze=>k_is)
   (case a_zB=>k_is)
   (case l_zB=>k_is)
   (case c_zB=>k_is)
   (case k_zB=>k_is)
   (case a_zO=>k_is)
   (case l_zO=>k_is)
   (case c_zO=>k_is)
   (case k_zO=>k_is)
   (case a_zK=>k_is)
   (case l_zK=>k_is)
   (case c_zK=>k_is)
   (case k_zK=>k_is)
   (case a_zt=>k_is)
   (case l_zt=>k_is)
   (case c_zt=>k_is)
   (case k_zt=>k_is)
   (case a_zN=>k_is)
   (case l_zN=>k_is)
   (case c_zN=>k_is)
   (case k_zN=>k_is)
   (case a_zE=>k_is)
   (case l_zE=>k_is)
   (case c_zE=>k_is)
   (case k_zE=>k_is)
   (case a_zv=>k_is)
   (case l_zv=>k_is)
   (case c_zv=>k_is)
   (case k_zv=>k_is)
   (case a_zn=>k_is)
   (case l_zn=>k_is)
   (case c_zn=>k_is)
   (case k_zn=>k_is)
   (case a_zf=>k_is)
   (case l_zf=>k_is)
   (case c_zf=>k_is)
   (case k_zf=>k_is)
   (case a_zq=>k_is)
   (case l_zq=>k_is)
   (case c_zq=>k_is)
   (case k_zq=>k_is)
   (case a_zI=>k_is)
   (case l_zI=>k_is)
   (case c_zI=>k_is)
   (case k_zI=>k_is)
   (case a_zo=>k_is)
   (case l_zo=>k_is)
   (case c_zo=>k_is)
   (case k_zo=>k_is)
   (case a_zs=>k_is)
   (case i_zs=>k_is)
   (case l_zs=>k_is)
   (case c_zs=>k_is)
   (case k_zs=>k_is)
   (case a_zl=>k_is)
   (case l_zl=>k_is)
   (case c_zl=>k_is)
   (case k_zl=>k_is)
   (case a_zz=>k_is)
   (case l_zz=>k_is)
   (case c_zz=>k_is)
   (case k_zz=>k_is)
   (case a_zk=>k_is)
   (case l_zk=>k_is)
   (case c_zk=>k_is)
   (case k_zk=>k_is)
   (case a_zp=>k_is)
   (case l_zp=>k_is)
   (case c_zp=>k_is)
   (case k_zp=>k_is)
   (case a_zy=>k_is)
   (case l_zy=>k_is)
   (case c_zy=>k_is)
   (case k_zy=>k_is)
   (case a_zm=>k_is)
   (case l_zm=>k_is)
   (case c_zm=>k_is)
   (case k_zm=>k_is)
   (case a_zF=>k_is)
   (case l_zF=>k_is)
   (case c_zF=>k_is)
   (case k_zF=>k_is)
   (case a_zw=>k_is)
   (case l_zw=>k_is)
   (case c_zw=>k_is)
   (case k_zw=>k_is)
   (case a_zC=>k_is)
   (case l_zC=>k_is)
   (case c_zC=>k_is)
   (case k_zC=>k_is)
   (case a_zr=>k_is)
   (case l_zr=>k_is)
   (case c_zr=>k_is)
   (case k_zr=>k_is)
   (case a_zd=>k_is)
   (case l_zd=>k_is)
   (case c_zd=>k_is)
   (case k_zd=>k_is)
   (case a_zu=>k_is)
   (case l_zu=>k_is)
   (case c_zu=>k_is)
   (case k_zu=>k_is)
   (case a_zx=>k_is)
   (case l_zx=>k_is)
   (case c_zx=>k_is)
   (case k_zx=>k_is)
   (case a_zG=>k_is)
   (case l_zG=>k_is)
   (case c_zG=>k_is)
   (case k_zG=>k_is)
   (case a_zA=>k_is)
   (case l_zA=>k_is)
   (case c_zA=>k_is)
   (case k_zA=>k_is)
   (case a_zh=>k_is)
   (case l_zh=>k_is)
   (case c_zh=>k_is)
   (case k_zh=>k_is)
   (case a_zJ=>k_is)
   (case l_zJ=>k_is)
   (case c_zJ=>k_is)
   (case k_zJ=>k_is)
   (case a_zj=>k_is)
   (case l_zj=>k_is)
   (case c_zj=>k_is)
   (case k_zj=>k_is)
   (case a_zT=>k_is)
   (case l_zT=>k_is)
   (case c_zT=>k_is)
   (case k_zT=>k_is)
   (case pg_D=>k_is)
   (case hd_D=>k_is)
   (case po_D=>k_is)
   (case sa_D=>k_is)
   (case mk_D=>k_is)
   (case kc_D=>k_is)
   (case pg_W=>k_is)
   (case hd_W=>k_is)
   (case po_W=>k_is)
   (case sa_W=>k_is)
   (case mk_W=>k_is)
   (case kc_W=>k_is)
   case xe_C|xe_V=>kernel_rfl
   (case xo_C=>k_is)
   (case xb_C=>k_is)
   (case xg_C=>k_is)
   (case xt_C=>k_is)
   (case xc_C=>k_is)
   (case xo_V=>k_is)
   (case xb_V=>k_is)
   (case xg_V=>k_is)
   (case xt_V=>k_is)
   (case xc_V=>k_is)
   (case s_V=>k_is)
   case kkV_|kkVR|kkVB|kkVI|kkVM|kkVE|kkVS|kkVH|kkVL|kkVA|kkVO|kkVN|kkVQ|kkVU|kkVV|kkVP|kkVK|kkVF|kkVT|kkVG|kkVJ=>kit_is
   (case z_ValueError=>k_is)
   (case z_abs=>k_is)
   (case z_all=>k_is)
   (case z_enumerate=>k_is)
   (case z_int=>k_is)
   (case z_isinstance=>k_is)
   (case z_len=>k_is)
   (case z_list=>k_is)
   (case z_min=>k_is)
   (case z_range=>k_is)
   (case z_set=>k_is)
   (case z_sorted=>k_is)
   (case z_sum=>k_is)
   (case z_tuple=>k_is)
   (case z_zip=>k_is)
   (case v_LEAST_SIZE=>k_is)
   (case v_MOST_BOWS=>k_is)
   (case v_MOST_HIDDEN=>k_is)
   (case v_MOST_NAMES=>k_is)
   (case v_MOST_SIZE=>k_is)
   (case v_MOST_WEIGHTS=>k_is)
   (case nD_bows=>k_is)
   (case nD_count=>k_is)
   (case nD_ties=>k_is)
   (case n_World_drawing=>k_is)
   (case n_World_hidden=>k_is)
   (case n_World_sizes=>k_is)
   (case n_World_tables=>k_is)
   (case n_World_weighed=>k_is)
   (case tl=>exact PySem.W.mg_of KX G (by k_is))
  obtain⟨t,T,e,hb⟩:=T;have e0:=hmg.symm.trans e;cases e0;exact⟨t.d_zT,hb,fun base kb nb=>Lw.Ey T⟩
