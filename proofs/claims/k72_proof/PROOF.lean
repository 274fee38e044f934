import PyProof.Rows.All
import Wide.All
import OpenK.AllK
import Wide.FinOn
import Lean
import PyProof.EqAt
import PyProof.EqKinds
import PyProof.TupleCall
import PyProof.NeKinds
import PyProof.StationsW
import PyProof.RulesAs
import PyProof.ExcClass2
import PyProof.IsiH_tuple
import PyProof.NsDelKeeps
import PyProof.ConsumeWalk
import PyProof.Rows.SortWalk
import PySem.SetOps
import PySem.Builtin.Tuple.Common
import PyProof.Rows.SetFrom
import PyProof.TupleKey
import PyProof.SetRoads
import KE.KSortTup
import PyProof.DictWalks
import PyProof.FactsAll.set
import PyProof.CollectWalk
import KE.KDictList
import PyProof.Rows.Range3
import KE.KUnpack
import PyProof.Draws
import PyProof.EnumMake
import PyProof.TupleIter
import PyProof.WalksMore
import PyProof.ZipIter
import PyProof.Rows.ZipGen
import PyProof.ListRange
import PyProof.TupleOfStr
import KE.KRevIter
import PyProof.CollectIter
import PyProof.Rows.Tup
import PyProof.SumAny
import PyProof.Rows.StrWeight2
import PyProof.StrBlock
import PyProof.ListStr
import PyProof.SliceStr2
import PyProof.StrBlockI
import KE.KRevSl
import PyProof.StrLawsTight
import PyProof.StrLawsIn
import PyProof.Rows.StrNews
import PySem.Challenge.RW_doingbook_k72_formulas_of_doors
set_option Elab.async false
namespace PySem.W
structure Fast:Prop where(tw13755289231850144202 tw16285456831924603902 tw12142781637812235801 tw13706468689147798217 tw7381915389129954774 tw11818776611484321708 tw13471687441388286150 tw11523525667542697381 tw17548679512655346713 tw5141377846490504471 tw11946636880841536604 tw11788169071510095554 tw3397130275137866670 tw7392836391122117845 tw7629613441224325800 tw15972173840215659683 tw12976243332597243305 tw15202202613978535528 tw9615206906182352556 tw4882854247734268682 tw16881816180447223579 tw9106175140157851198 tw4478115826244635161 tw16042330274356852195 tw1291794422483110532 tw2440457016755323849 tw7966622153100943470 tw18120348827113000833 tw11437070743074098737 tw11646889315929327211 tw10404800521716002696 tw13207630192541836440 tw4701200823886213904 tw10428244743038392210 tw8683921233763532117 tw14103894004894196294 tw779227851169579446 tw17602750464584597961 tw10732284690366196184 tw7703331397079365565 tw2457393907630451411 tw1202479371941483361 tw7241296314672404175 tw976258014123746376 tw1219745630382774013 tw8332762451898211112 tw15310508300808212724 tw16670796609390396898 tw6258461740114849838 tw3865144553700421477 tw15011658277082565150 tw1139951694121094033 tw6530502161221580393 tw4224372489263403333 tw9375730402855341017 tw4687372499702597122 tw8383327927909841023 tw3900000196418711169 tw14061490360324988335 tw14613611202271266047 tw12969842766247593953 tw13809690647665482370 tw8116786994517885591 tw6455501518075745664 tw178830114974149763 tw5490179126666402041 tw13090228314712806933 tw12809758758791237451 tw15483529945491123359 tw9902706121076956321 tw347498423424268825 tw17041577011261408414 tw230910617693327497 tw14263771333379876075 tw12903319064828622384 tw2363129581442866445 tw14543909333333309419 tw16887005663724950026 tw8917767642072989304 tw15136854449862853758 tw3214072231062459899 tw15930859263906124455 tw1285299356031240730 tw4076586933844104438 tw554916408533477045 tw8138839506529947833 tw3662867117005172327 tw4666415744966718820 tw5805050962787658968 tw2471165378488761952 tw3390697948645235998 tw5754213583116418552 tw18100624170019999032 tw7111254508414174088 tw6781612557884525748 tw16255273509788975371 tw9927039375519697848 tw13956295725448998065 tw9808025927719167288 tw11993264308218940734 tw4140064172350781834 tw9762438159460702829 tw4489273131053091811 tw6168270941281200061 tw7052575160404244226 tw63955148001225719 tw9472670258729383478 tw7934725240754755568 tw12565334625635864186 tw17059418811163843103 tw3594171679879191271 tw5739986766036958499 tw15825021313128550442 tw9140855366063644835 tw6245692600002291073 tw10434644076289439638 tw12031434191563619862 tw5704495683005557540 tw4634123551108056771 tw16233853265169355040 tw17815029127744451125 tw16463102842791345741 tw7039073575649992752 tw2882024494624375456 tw15026606784034043758 tw6940892482244578588 tw420569187797332286 tw12852223204481355749 tw14470480496694969185 tw1037415838102490129 tw11561148795364485199 tw10202931859117667958 tw5380562304905121755 tw9285817269444085492 tw7971050649280335078 tw12787228448071238515 tw361293435885265139 tw10477448938168290104 tw16067935471566365825 tw6629987786565610359 tw15727444729730416145 tw3125935576038800912 tw12814060955195153978 tw3764054487321577143 tw15874355155714435827 tw4408451843669894705 tw9912408855243609534 tw1669291445884439199 tw3611730505323656847 tw1809761618748059989 tw8925499209349300615 tw12819714881997960773 tw13747211684566065732 tw16678803631026590447 tw6528255545555278150 tw2676321354231653447 tw16424622822366245543 tw4046078767099801441 tw12446691937687309802 tw6944737918524329552 tw17312790915942534973 tw12150793088564085174 tw18238623596406243408 tw8718723380467446581 tw15306659160095941477 tw17801218248675202517 tw1190561724364756348 tw7489769706157937480 tw12010290448987907564 tw13293991984507054113 tw10139566982185492471 tw9853500169582929606 tw7159656788267857996 tw5425986351702078532 tw16409902809113660313 tw11903175773787206927 tw10840763422518124376 tw8115048108063566897 tw12523879837307218033 tw16109596185100960375 tw3258552042848315723 tw334518071443052936 tw3740077840082015672 tw11307794873718861543 tw18165430254702229973 tw8614037947020890255 tw16435941556786577431 tw5527244242554352704 tw15209513021746874103 tw11027315361366937134 tw6138542061703978047 tw14808372414178302115 tw15370424285202200590 tw2343063003796820676 tw7404371810892791545 tw14729195468158719943 tw33194927920168659 tw2472926811097315516 tw3597831502688640687 tw18323017210685633736 tw7233003811354050065 tw11283846081897914370 tw658623336062024467 tw9816709533606456286 tw16698214854804468889 tw10668867093404289300 tw12161960271615875813 tw850466295183136368 tw18395103887379219991 tw2607055543998836428 tw7762227237274410452 tw6325594908652371909 tw2459781663091201581 tw5534432347523042553 tw15014316126690328160 tw9709271644393323753 tw17940556194382938493 tw5670907218750308531 tw18228273683981260750 tw1942717824593741067 tw538770500844917051 tw10265490559489837336 tw1139765037135330474 tw1091596331468414445 tw3715537398617887818 tw7128200811713150559 tw9451154038511759688 tw1718269761761028663 tw17503560402702770593 tw6614300280822456374 tw13113409037674298601 tw17365830004852383177 tw9209915256552331478 tw9951812539236633811 tw6865859833700153289 tw13953272279048658981 tw14822594799285980055 tw16235942822944688630 tw10968753444439868683 tw4187675600672606363 tw5898989781799219939 tw7939053853555453127 tw3035939240998546558 tw17986555307854824513 tw13445945339405860844 tw15880512500442210455 tw7926839474326709473 tw2071064349348858469 tw3110961568012659664 tw2443142281669344027 tw8572787843379983974 tw6684095116492179647 tw14620853570428174050 tw4245385954649291664 tw6720461714602629733 tw1144444916545762407 tw961745030313612309 tw4491723543560095568 tw16550779978193290932 tw15880679371587173964 tw3395452351376524411 tw9209708514193685655 tw2503834272932872113 tw8994288415923389491 tw14917263992535438582 tw7303699980877984989 tw2731514409215498231 tw5343003876356452854 tw13290111659524981911 tw13708058219260632241 tw2269486170424037307 tw2422136420318732800 tw8289406344080573577 tw16766875173877906530 tw1747445689891438402 tw329316870244775632 tw16142309256345718561 tw2126888472955926818 tw6733540963297616186 tw18437279579790525502 tw9679181730988531776 tw14268495446294738882 tw12129332623641539961 tw13074152351031860906 tw5914121078533256094 tw2557524705904682708 tw9491063179256070645 tw549311660079143507 tw9129706124036515577 tw3044444416224115173 tw10718448590170647903 tw3235683734930606978 tw16441044331147826590 tw5521692294870702220 tw3736883850452203063 tw4119717767264414862 tw143781539005118447 tw9612485135168026801 tw10103787262386277714 tw10076296442495200852 tw12183293631152031318 tw8874052126129134124 tw5873605821498446591 tw8726695252914429952 tw3106160792336502811 tw13897787054290090643 tw479058776229299882 tw15706760773861499898 tw1191682689688787748 tw7174736204715390050 tw7560016472125361486 tw3791952673293752082 tw13780845090396094303 tw11677228825758257598 tw5789469515369395596 tw7779808821867740083 tw9551343152432489082 tw951356681056462 tw17265452723802502490 tw11789852740696037282 tw17865044038400692355 tw3306188603772786309 tw6725911246003467056 tw8830187400339417115 tw5087102876068249017 tw14878810640266780555 tw16125961993790054582 tw7482668633718484687 tw11201681194853778304 tw12755512983358612191 tw12330652991761840477 tw16000685597693655020 tw6497291030765878716 tw8242844351523588126 tw5080526983404923102 tw16513629422434804299 tw1727696718006692510 tw17226623474519630872 tw16409328482188406148 tw5716361828282076345 tw5566122698272440575 tw12180883044953430195 tw5690242463866581901 tw6339966832248487225 tw7248920185347127720 tw6839226285062822188 tw17515549386476066403 tw15782275949414735941 tw8953803753518650725 tw12190675076678116399 tw3439755986280897312 tw13226561517851123401 tw16410784023334473776 tw10562187316765975581 tw3254832550210179407 tw5160286408417416460 tw13617592117464442689 tw2685572224609737680 tw9165959206652495502 tw17379715101590905126 tw3332344288893493009 tw14444269736055296564 tw2155607927126870661 tw11583944935941203797 tw8565639947109506402 tw14625730010380873707 tw15360730045378723545 tw3222637792719004862 tw14563597759445700434 tw15570850446776096415 tw14725610839610747438 tw606654005818339878 tw12622857845196651656 tw8329382334461259434 tw1438397919666752805 tw8842291060510744180 tw3609324134418352590 tw12111000844333909913 tw5006305239341003827 tw1824611858730442256 tw6970292740576062341 tw17543033304175770674 tw9515057958020429753 tw1553509511802993285 tw12836699794328470033 tw6536941632809833410 tw1457359724388055716 tw11392245021922682151 tw4875164989914570157 tw6443452166316286089 tw8472355420521825850 tw14568080230277355220 tw13739993073623329119 tw10980809957121968269 tw18228863182464748510 tw6120972606953808078 tw14297943220931188824 tw1052590480413154474 tw2072151452152742698 tw10869669653730313177 tw16463526056813405335 tw15758339827903940962 tw14206719150059050577 tw17493578925242286385 tw17198874356880353668 tw8413841559901630267 tw8504276056844099242 tw8186371031999865656 tw10102156963130737997 tw17854379297602071967 tw5646565070336746210 tw1400597994927796598 tw7344475072435563178 tw8062813796869912618 tw12238659407865484469 tw3400954799315910958 tw2563770136166474402 tw8009950563663631054 tw17676345756073707457 tw8097792769464982933 tw13579722919940222374 tw16700475051788728582 tw14885595824230815998 tw8393620244196832914 tw11260513931486961583 tw18031671685291540785 tw1646574835387371773 tw208475591888691106 tw15547744354616343792 tw2520978061695729191 tw18214138848532887955 tw383771985599857201 tw16576522276989861697 tw5669517020396919172 tw2225365574274154685 tw13575599916541693278 tw1605899368689976783 tw14665861614745749519 tw9065437054014696030 tw8900852782281492837 tw6030243922272337512 tw14024128667641948830 tw3091368425845927498 tw12898348778060497255 tw982956210099457086 tw4525473502557092429 tw3657284572864746305 tw9215123215742843521 tw18023688936902928182 tw7723993843974708780 tw4495757272808682638 tw13999642498238948876 tw12941791004935868941 tw289448905081836856 tw11674425777888426110 tw9500152453391207626 tw15873888292189900109 tw10545250008729859943 tw16399336238450974488 tw7405207533673025158 tw1833020664765611459 tw10654467520399896783 tw6779539399602880808 tw1478454777903070743 tw6695072071840557433 tw6386394676075801541 tw16239406361256927674 tw4838495931834099002 tw1582755741723663924 tw10630539704521380991 tw2978697718326219841 tw8676583536095661968 tw15354266027165987415 tw7267917986777402094 tw17230251072952385376 tw7006331229525684241 tw10589513838440199843 tw2998121539691140200 tw18009455633559601327 tw15490859119737077678 tw6841149887378367651 tw9305450867011294142 tw14767282578748759392 tw11459506449397982772 tw10792502505646493603 tw17559608098436414707 tw7125076767107529162 tw2744725323624702058 tw4698388223098261174 tw12631167778592344595 tw17490277885527149330 tw8333250921759860616 tw14186177046338503784 tw9182736739333007869 tw9923484913287929460 tw8144186337003458127 tw16409541450062231293 tw11032849513708298171 tw4194561777859114528 tw9466780777084890267 tw3354381416341948036 tw12691748297028826284 tw10314405157754670869 tw7572814985811035942 tw6018566560214007128 tw14199184257490894547 tw10735961834737630663 tw17403438162635935327 tw3194003829540367835 tw10303341647736273709 tw10184222947230902830 tw412522478014016422 tw9131173215791397393 tw8558444155490402686 tw12279558100155379275 tw11296256715994597831 tw6400175753042732301 tw10866907859443262888 tw9837805633785862738 tw13804877509521316033 tw2953687510453558213 tw4894521700957917812 tw8512911493994513987 tw5384273650055698949 tw11657866463175843449 tw5105852882229553592 tw15787213181439222036 tw6027188448952751025 tw10489301806431773511 tw8409609876349835000 tw14721926635329866456 tw12826207672141212886 tw1478312657363988303 tw15111146514727310952 tw528765140803108172 tw11268796618995772084 tw17843697895781899677 tw354374832100312770 tw9972884725604304508 tw5999426827994646317 tw3548586047280860613 tw16693169284561022733 tw2074875979216761306 tw5751246340324945438 tw16936900066319924167 tw12553805962509952772:True)
end PySem.W
local macro_rules|`(tactic|symm)=>`(tactic|omega)
local macro_rules|`(tactic|injections)=>`(tactic|(intro $(Lean.mkIdent `vs) $(Lean.mkIdent `H) $(Lean.mkIdent `Q) $(Lean.mkIdent `E) $(Lean.mkIdent `h);replace $(Lean.mkIdent `h):ident:=$(Lean.mkIdent `aY) $(Lean.mkIdent `h)))
local macro_rules|`(tactic|ac_nf)=>`(tactic|(intro $(Lean.mkIdent `y) $(Lean.mkIdent `hy) $(Lean.mkIdent `l) $(Lean.mkIdent `σ) $(Lean.mkIdent `R') q $(Lean.mkIdent `hl) $(Lean.mkIdent `kT) $(Lean.mkIdent `kF);obtain⟨_,e⟩:=q;subst e))
local macro_rules|`(tactic|and_intros)=>`(tactic|repeat (any_goals (first | assumption | wp_step)))
set_option genSizeOf false
set_option Elab.async false
set_option linter.all false
set_option maxRecDepth 100000
section
open PySem PySem.Spec PyProof.Rows
theorem Jl:type_of% @List.length_map:=@List.length_map
theorem Jm:type_of% @wpAny_bind:=@wpAny_bind
theorem Jo:type_of% @List.getElem?_eq_getElem:=@List.getElem?_eq_getElem
theorem Jp:type_of% @List.mem_map:=@List.mem_map
theorem Jq:type_of% @wpAny_pure:=@wpAny_pure
theorem Jr:type_of% @List.length_append:=@List.length_append
theorem Js:type_of% @Heap.get?_push_of_some:=@Heap.get?_push_of_some
theorem Jt:type_of% @List.getD_eq_getElem?_getD:=@List.getD_eq_getElem?_getD
theorem Ju:type_of% @List.mem_append:=@List.mem_append
theorem Jv:type_of% @Heap.lt_size:=@Heap.lt_size
theorem Jw:type_of% @List.mem_cons_self:=@List.mem_cons_self
theorem Jx:type_of% @List.mem_singleton:=@List.mem_singleton
theorem Jy:type_of% @Nat.le_refl:=@Nat.le_refl
theorem Jz:type_of% @List.mem_cons_of_mem:=@List.mem_cons_of_mem
theorem JA:type_of% @Heap.get?_push_size:=@Heap.get?_push_size
theorem JB:type_of% @List.map_append:=@List.map_append
theorem JC:type_of% @List.size_toArray:=@List.size_toArray
theorem JD:type_of% @List.mem_cons:=@List.mem_cons
theorem JE:type_of% @List.getElem?_eq_some_iff:=@List.getElem?_eq_some_iff
theorem JF:type_of% @List.map_cons:=@List.map_cons
theorem JG:type_of% @Nat.ne_of_lt:=@Nat.ne_of_lt
theorem JH:type_of% @List.mem_of_getElem?:=@List.mem_of_getElem?
theorem JI:type_of% @List.getElem?_map:=@List.getElem?_map
theorem JJ:type_of% @PySem.boot_len:=@PySem.boot_len
theorem JK:type_of% @if_neg:=@if_neg
theorem JL:type_of% @if_pos:=@if_pos
theorem JM:type_of% @List.mem_append_right:=@List.mem_append_right
theorem JN:type_of% @List.mem_append_left:=@List.mem_append_left
theorem JO:type_of% @Array.getElem?_eq_getElem:=@Array.getElem?_eq_getElem
theorem JP:type_of% @Nat.lt_of_lt_of_le:=@Nat.lt_of_lt_of_le
theorem JQ:type_of% @List.append_nil:=@List.append_nil
theorem JR:type_of% @List.length_cons:=@List.length_cons
theorem JS:type_of% @List.map_map:=@List.map_map
theorem JT:type_of% @Option.some.inj:=@Option.some.inj
theorem JU:type_of% @List.mem_filter:=@List.mem_filter
theorem JV:type_of% @List.getElem_mem:=@List.getElem_mem
theorem JW:type_of% @PassesOwn.never:=@PassesOwn.never
theorem JX:type_of% @List.take_length:=@List.take_length
theorem JY:type_of% @Nat.le_trans:=@Nat.le_trans
theorem JZ:type_of% @List.length_singleton:=@List.length_singleton
theorem J0:type_of% @Nat.le_of_ble_eq_true:=@Nat.le_of_ble_eq_true
theorem J1:type_of% @List.mem_range:=@List.mem_range
theorem J2:type_of% @decide_eq_true:=@decide_eq_true
theorem J3:type_of% @List.nodup_append:=@List.nodup_append
theorem J4:type_of% @Option.map_eq_some_iff:=@Option.map_eq_some_iff
theorem J5:type_of% @codeAny_builtin:=@codeAny_builtin
theorem J6:type_of% @List.length_take:=@List.length_take
theorem J7:type_of% @Int.toNat_natCast:=@Int.toNat_natCast
theorem J8:type_of% @wpAny_newObj_type:=@wpAny_newObj_type
theorem J9:type_of% @sizeLine_eq:=@sizeLine_eq
theorem Ka:type_of% @PyProof.Rows.callWith_type1:=@PyProof.Rows.callWith_type1
theorem Kb:type_of% @wpAny_holding:=@wpAny_holding
theorem Kc:type_of% @Around.under_plainId:=@Around.under_plainId
theorem Ke:type_of% @PySem.F.slot_list_extend:=@PySem.F.slot_list_extend
theorem Kf:type_of% @PySem.F.type_list_extend:=@PySem.F.type_list_extend
theorem Kg:type_of% @List.all_eq_true:=@List.all_eq_true
theorem Kh:type_of% @List.lookup_cons:=@List.lookup_cons
theorem Ki:type_of% @List.not_mem_nil:=@List.not_mem_nil
theorem Kj:type_of% @boot_isinstance:=@boot_isinstance
theorem Kk:type_of% @decide_eq_true_eq:=@decide_eq_true_eq
theorem Kl:type_of% @List.nodup_iff_pairwise_ne:=@List.nodup_iff_pairwise_ne
theorem Km:type_of% @Array.getElem?_toList:=@Array.getElem?_toList
theorem Ko:type_of% @F.plain_set_update_loop:=@F.plain_set_update_loop
theorem Kq:type_of% @List.getLast?_cons_cons:=@List.getLast?_cons_cons
theorem Kr:type_of% @List.filter_eq_self:=@List.filter_eq_self
theorem Ks:type_of% @PySem.W.kia_one:=@PySem.W.kia_one
theorem Kt:type_of% @wpAny_call_entry:=@wpAny_call_entry
theorem Ku:type_of% @List.filter_cons:=@List.filter_cons
theorem Kv:type_of% @List.take_succ:=@List.take_succ
theorem Kw:type_of% @boot_tuple:=@boot_tuple
theorem Kx:type_of% @PySem.F.slot_list_append:=@PySem.F.slot_list_append
theorem Ky:type_of% @PySem.F.type_list_append:=@PySem.F.type_list_append
theorem Kz:type_of% @Heap.get?_update_self:=@Heap.get?_update_self
theorem KA:type_of% @List.eq_nil_or_concat:=@List.eq_nil_or_concat
theorem KC:type_of% @List.concat_eq_append:=@List.concat_eq_append
theorem KD:type_of% @Heap.SameBut.update:=@Heap.SameBut.update
theorem KG:type_of% @decide_eq_false:=@decide_eq_false
theorem KH:type_of% @List.pairwise_map:=@List.pairwise_map
theorem KI:type_of% @List.getElem?_set_self:=@List.getElem?_set_self
theorem KJ:type_of% @List.getElem?_eq_none:=@List.getElem?_eq_none
theorem KL:type_of% @List.append_assoc:=@List.append_assoc
theorem KN:type_of% @List.pairwise_singleton:=@List.pairwise_singleton
theorem KO:type_of% @Bool.and_eq_true:=@Bool.and_eq_true
theorem KP:type_of% @List.take_of_length_le:=@List.take_of_length_le
theorem KQ:type_of% @List.filter_eq_nil_iff:=@List.filter_eq_nil_iff
theorem KR:type_of% @Array.length_toList:=@Array.length_toList
theorem KS:type_of% @wpAny_truthy_bool:=@wpAny_truthy_bool
theorem KU:type_of% @Nat.lt_succ_of_lt:=@Nat.lt_succ_of_lt
theorem KW:type_of% @List.length_range:=@List.length_range
theorem KY:type_of% @List.length_replicate:=@List.length_replicate
theorem KZ:type_of% @List.length_filter_le:=@List.length_filter_le
theorem K0:type_of% @List.nodup_cons:=@List.nodup_cons
theorem K1:type_of% @Nat.zero_le:=@Nat.zero_le
theorem K2:type_of% @wpAny_callSpecial?_slot:=@wpAny_callSpecial?_slot
theorem K3:type_of% @F.entry_set_update_loop:=@F.entry_set_update_loop
theorem K4:type_of% @List.pairwise_append:=@List.pairwise_append
theorem K5:type_of% @codeAny_mono:=@codeAny_mono
theorem K6:type_of% @List.Perm.refl:=@List.Perm.refl
theorem K7:type_of% @wpAny_setState_of:=@wpAny_setState_of
theorem K8:type_of% @List.getElem?_append_left:=@List.getElem?_append_left
theorem K9:type_of% @builtinLookup_eq_fast:=@builtinLookup_eq_fast
theorem La:type_of% @List.perm_append_comm:=@List.perm_append_comm
theorem Lb:type_of% @beq_iff_eq:=@beq_iff_eq
theorem Lc:type_of% @wpAny_Call_Name_kw:=@wpAny_Call_Name_kw
theorem Ld:type_of% @List.length_drop:=@List.length_drop
theorem Le:type_of% @List.pairwise_cons:=@List.pairwise_cons
theorem Lf:type_of% @List.Sublist.append_left:=@List.Sublist.append_left
theorem Lg:type_of% @List.getElem?_set_ne:=@List.getElem?_set_ne
theorem Lh:type_of% @List.length_eq_zero_iff:=@List.length_eq_zero_iff
theorem Li:type_of% @wpAny_mono:=@wpAny_mono
theorem Lj:type_of% @wpAny_ite_split:=@wpAny_ite_split
theorem Lk:type_of% @List.length_nil:=@List.length_nil
theorem Ll:type_of% @Array.getElem?_eq_none:=@Array.getElem?_eq_none
theorem Lm:type_of% @Nat.lt_irrefl:=@Nat.lt_irrefl
theorem Ln:type_of% @List.any_eq_true:=@List.any_eq_true
theorem Lo:type_of% @List.mem_flatMap:=@List.mem_flatMap
theorem Lp:type_of% @Code.quiet_builtin:=@Code.quiet_builtin
theorem Lq:type_of% @List.filter_append:=@List.filter_append
theorem Lr:type_of% @isSubtype_type:=@isSubtype_type
theorem Lu:type_of% @wpAny_passesOwn:=@wpAny_passesOwn
theorem Lx:type_of% @List.length_set:=@List.length_set
theorem Ly:type_of% @List.take_add_one:=@List.take_add_one
theorem Lz:type_of% @of_decide_eq_true:=@of_decide_eq_true
theorem LA:type_of% @Classical.not_not:=@Classical.not_not
theorem LC:type_of% @Heap.size_push:=@Heap.size_push
theorem LD:type_of% @Nat.ne_of_gt:=@Nat.ne_of_gt
theorem LJ:type_of% @or_false:=@or_false
namespace L2
section
abbrev Key:=Sum Int Str
def zh:Key->Value->Bool
 | .inl k,v=>Value.isInt k v
 | .inr x,v=>Value.isStrOf x v
def FY(w:World):Key->Int
 | .inl k=>hashInt k
 | .inr x=>hashStr w x
theorem bG:∀{k:Key} {v:Value},zh k v=true->(∃i t,k=Sum.inl i/\v=Value.int i t)∨(∃x t,k=Sum.inr x/\v=Value.str x t)
 | .inl i,v,h=>by
  obtain⟨t,e⟩:=Value.isInt_shape (k:=i) (v:=v) h;exact .inl ⟨i,t,rfl,e⟩
 | .inr x,v,h=>by
  obtain⟨t,e⟩:=Value.isStrOf_shape (x:=x) (v:=v) h;exact .inr ⟨x,t,rfl,e⟩
theorem Cu(a b:Int):decide ((Sum.inl a:Key)=Sum.inl b)=(a==b):=by
 by_cases e:a=b
 ·subst e;simp
 ·have h:¬(Sum.inl a:Key)=Sum.inl b:=fun q=>e (Sum.inl.inj q);rw[KG h];exact(beq_eq_false_iff_ne.mpr e).symm
theorem BY(a b:Str):decide ((Sum.inr a:Key)=Sum.inr b)=decide (a=b):=by
 by_cases e:a=b
 ·subst e;simp
 ·have h:¬(Sum.inr a:Key)=Sum.inr b:=fun q=>e (Sum.inr.inj q);rw[KG h,KG e]
theorem Ce(a:Int)(b:Str):decide ((Sum.inl a:Key)=Sum.inr b)=false:=KG (fun q=>nomatch q)
theorem Cn(a:Str)(b:Int):decide ((Sum.inr a:Key)=Sum.inl b)=false:=KG (fun q=>nomatch q)
def pH(prog:Program)(w:World):PySem.KeyKind prog w Key where
 is:=zh
 hash:=FY w
 inj:=fun v a b ha hb=>by
  rcases bG ha with⟨i,t,rfl,rfl⟩ |⟨x,t,rfl,rfl⟩
  ·rcases bG hb with⟨j,u,rfl,e⟩ |⟨y,u,rfl,e⟩
   ·injection e with e1 _;rw[e1]
   ·exact nomatch e
  ·rcases bG hb with⟨j,u,rfl,e⟩ |⟨y,u,rfl,e⟩
   ·exact nomatch e
   ·injection e with e1 _;rw[e1]
 byValue:=fun k v h=>by
  rcases bG h with⟨i,t,rfl,rfl⟩ |⟨x,t,rfl,rfl⟩<;>rfl
 pyHash:=fun hv h=>by
  rcases bG hv with⟨i,t,rfl,rfl⟩ |⟨x,t,rfl,rfl⟩
  ·exact wpAny_pyHash_int h
  ·exact wpAny_pyHash_str h
 eqBool:=fun hu hv h=>by
  rcases bG hu with⟨i,t,rfl,rfl⟩ |⟨x,t,rfl,rfl⟩
  ·rcases bG hv with⟨j,u,rfl,rfl⟩ |⟨y,u,rfl,rfl⟩
   ·rw[Cu]at h;exact wpAny_eqBool_int h
   ·rw[Ce]at h;exact SeqAt.EqAt.int_str i t y u _ _ _ _ h
  ·rcases bG hv with⟨j,u,rfl,rfl⟩ |⟨y,u,rfl,rfl⟩
   ·rw[Cn]at h;exact SeqAt.EqAt.str_int x t j u _ _ _ _ h
   ·rw[BY]at h;exact wpAny_eqBool_str h
 «strs»:=fun k x t v h=>by
  rcases bG h with⟨i,u,rfl,e⟩ |⟨y,u,rfl,e⟩
  ·exact nomatch e
  ·injection e with e1 _;subst e1;cases v<;>rfl
end
section
inductive V where
 | non | bl (b:Bool) | int (i:Int) | str (x:Str) | byt (b:Array UInt8) | flt (b:UInt64) | ref (a:Addr) | ty (n:String)
 deriving DecidableEq
def RelV:V->Value->Prop
 | .non,u=>u=Value.none
 | .bl b,u=>u=Value.bool b
 | .int i,u=>∃t,u=Value.int i t
 | .str x,u=>∃t,u=Value.str x t
 | .byt b,u=>∃t,u=Value.bytes b t
 | .flt b,u=>∃t,u=Value.float b t
 | .ref a,u=>u=Value.ref a
 | .ty n,u=>u=Value.type n
abbrev Vals:List V->List Value->Prop:=Paired RelV
theorem Vals.length(r:Vals xs us):xs.length=us.length:=Paired.length r
theorem Vals.get:∀{xs:List V} {us:List Value} {i:Nat} {x:V},Vals xs us->xs[i]?=some x->∃u,us[i]?=some u/\RelV x u
 | _,_,_,_,.nil,e=>by simp at e
 | _,_,0,_,.cons r _,e=>by simp at e;subst e;exact⟨_,rfl,r⟩
 | _,_,i+1,x,.cons _ t,e=>by
  obtain⟨u,h1,h2⟩:=Vals.get (i:=i) (x:=x) t (by simpa using e);exact⟨u,by simpa using h1,h2⟩
theorem Vals.set{x:V}{u:Value}(r:RelV x u):∀{xs:List V} {us:List Value} (i:Nat),Vals xs us->Vals (xs.set i x) (us.set i u)
 | _,_,_,.nil=>.nil
 | _,_,0,.cons _ t=>.cons r t
 | _,_,i+1,.cons q t=>.cons q (Vals.set r i t)
theorem Vals.append:∀{xs ys:List V} {us ws:List Value},Vals xs us->Vals ys ws->Vals (xs++ys) (us++ws)
 | _,_,_,_,.nil,s=>s
 | _,_,_,_,.cons r t,s=>.cons r (Vals.append t s)
theorem Vals.take:∀{xs:List V} {us:List Value} (n:Nat),Vals xs us->Vals (xs.take n) (us.take n)
 | _,_,0,_=>.nil
 | _,_,_+1,.nil=>.nil
 | _,_,n+1,.cons r t=>.cons r (Vals.take n t)
theorem Vals.drop:∀{xs:List V} {us:List Value} (n:Nat),Vals xs us->Vals (xs.drop n) (us.drop n)
 | _,_,0,r=>r
 | _,_,_+1,.nil=>.nil
 | _,_,n+1,.cons _ t=>Vals.drop n t
def i3:Option V->Option Value->Prop
 | some v,some u=>RelV v u
 | none,none=>True
 | _,_=>False
def KV{κ:Type}:List (κ×V)->List (κ×Value)->Prop:=Paired fun(p:κ×V) (q:κ×Value)=>p.1=q.1/\RelV p.2 q.2
def kV:Key->V
 | .inl i=>.int i
 | .inr x=>.str x
inductive HO where
  | lst (xs:List V)
  | tup (xs:List V)
  | dK (kvs:List (Key×V)) | dT (kvs:List (List Key×V))
  | set (S:Int->Bool) (n:Nat)
  | ins (C dx:Addr) (fs:List (Str×V))
  | own (x:Addr)
  | xd (fs:List (Str×V))
  | met (f x:Addr)
  | rng (lo hi:Int)
  | frz (o:Obj) (u:HO)
  | tbl (ps:Array Value)
  | ext (φ:Heap->Prop)
abbrev Hp:=Addr->Option HO
def upd(H:Hp)(a:Addr)(o:HO):Hp:=fun b=>if b=a then some o else H b
theorem bj:upd H a o a=some o:=by unfold upd;rw[JL rfl]
theorem aM(h:b≠a):upd H a o b=H b:=by unfold upd;rw[JK h]
theorem zC{H:Hp}(h:H a=some o)(h':H b=some u)(d:o≠u):a≠b:=by
 intro e;subst e;rw[h]at h';exact d (JT h')
theorem aQ{H:Hp}(h:H a=some o)(h':H b=none):a≠b:=by
 intro e;subst e;rw[h]at h';cases h'
section
variable (P:Program)(w:World)
def bP(H:Hp)(h:Heap)(a:Addr):HO->Prop
 | .lst xs=>xs.length≤sizeLine/\∃(its:List Value) (n:Nat),Vals xs its/\h.get? a=some { cls:=.type "list",data:=.seq its.toArray n }
 | .tup xs=>xs.length≤sizeLine/\∃its:List Value,Vals xs its/\IsTup h a its.toArray
 | .dK kvs=>kvs.length≤sizeLine/\(a==sysModules)=false/\∃vs,KV kvs vs/\h.DictOf (pH P w) a vs
 | .dT kvs=>kvs.length≤sizeLine/\(a==sysModules)=false/\∃xs:List (List Key×Addr×Value),
   Paired (fun(p:List Key×V) (q:List Key×Addr×Value)=>p.1=q.1/\H q.2.1=some (.tup (p.1.map kV))/\RelV p.2 q.2.2) kvs xs /\
   ∃o es ep,h.get? a=some o/\o.ExactDict/\o.data=.dict es ep/\es.toList=xs.map (entryOfKey (tupleKind (pH P w)))/\(xs.map (·.1)).Nodup
 | .set S n=>h.SetOf (intKind P w) a S n
 | .ins C dx fs=>H dx=some (.own a)/\fs.length≤1000/\dx≠a/\h.get? a=some (PySem.W.instObj C dx) /\
   ∃mA,h.Ns1 dx mA/\(∀f,i3 (fs.lookup f) (mA f))/\PySem.Within mA (fs.map (·.1))
 | .own _=>∃o,h.get? a=some o
 | .xd fs=>∃mA,h.Ns1 a mA/\∀f,i3 (fs.lookup f) (mA f)
 | .rng lo hi=>∃t u v,h.get? a=some { cls:=.type "range",data:=.fields #[.int lo t,.int hi u,.int 1 v] }
 | .frz o u=>h.get? a=some o/\bP H h a u
 | .tbl ps=>h.get? a=some { cls:=.none,data:=.fields ps }
 | .met f x=>h.get? a=some (PySem.W.methodObj (.ref f) (.ref x))
 | .ext φ=>φ h/\(∃o,h.get? a=some o)/\∀h1 h2:Heap,φ h1->(∀o,h1.get? a=some o->h2.get? a=some o)->φ h2
def HOk(H:Hp)(h:Heap):Prop:=∀a o,H a=some o->bP P w H h a o
end
section
variable {P:Program}{w:World}{H H':Hp}{h h':Heap}{a:Addr}{o:HO}
theorem bP.lt(x:bP P w H h a o):a<h.objs.size:=by
 cases o with
 | lst xs=>obtain⟨_,_,_,_,e⟩:=x;exact Jv e
 | tup xs=>obtain⟨_,_,_,p⟩:=x;exact p.lt
 | dK kvs=>obtain⟨_,_,_,_,o,_,_,e,_⟩:=x;exact Jv e
 | dT kvs=>obtain⟨_,_,_,_,o,_,_,e,_⟩:=x;exact Jv e
 | set S n=>obtain⟨o,_,_,_,e,_⟩:=x;exact Jv e
 | ins C dx fs=>obtain⟨_,_,_,e,_⟩:=x;exact Jv e
 | own y=>obtain⟨_,e⟩:=x;exact Jv e
 | xd fs=>obtain⟨_,⟨_,_,_,e,_⟩,_⟩:=x;exact Jv e
 | rng lo hi=>obtain⟨_,_,_,e⟩:=x;exact Jv e
 | frz ob u=>obtain⟨e,_⟩:=x;exact Jv e
 | tbl ps=>exact Jv (show h.get? a=some _ from x)
 | met f y=>exact Jv (show h.get? a=some _ from x)
 | ext φ=>obtain⟨_,⟨_,e⟩,_⟩:=x;exact Jv e
theorem Paired.mapP{α β:Type}{F G:α->β->Prop}:∀{l₁:List α} {l₂:List β},Paired F l₁ l₂->(∀a b,F a b->G a b)->Paired G l₁ l₂
 | _,_,.nil,_=>.nil
 | _,_,.cons r t,f=>.cons (f _ _ r) (Paired.mapP t f)
theorem bP.stay(x:bP P w H h a o)(k:∀b u,(b=a∨H b=some (.own a))->h.get? b=some u->h'.get? b=some u)
  (ho:∀b,H b=some (.own a)->H' b=some (.own a)) (ht:∀b xs,H b=some (.tup xs)->H' b=some (.tup xs)):bP P w H' h' a o:=by
 induction o with
 | lst xs=>obtain⟨z,its,n,r,e⟩:=x;exact⟨z,its,n,r,k _ _ (.inl rfl) e⟩
 | tup xs=>obtain⟨z,its,r,ob,e,c⟩:=x;exact⟨z,its,r,ob,k _ _ (.inl rfl) e,c⟩
 | dK kvs=>obtain⟨z,y,vs,r,ob,es,ep,e,c⟩:=x;exact⟨z,y,vs,r,ob,es,ep,k _ _ (.inl rfl) e,c⟩
 | dT kvs =>
  obtain⟨z,y,xs,r,ob,es,ep,e,c⟩:=x;exact⟨z,y,xs,Paired.mapP r fun p q z=>⟨z.1,ht _ _ z.2.1,z.2.2⟩,ob,es,ep,k _ _ (.inl rfl) e,c⟩
 | set S n=>obtain⟨ob,es,ep,t,e,c⟩:=x;exact⟨ob,es,ep,t,k _ _ (.inl rfl) e,c⟩
 | ins C dx fs =>
  obtain⟨d,z,ne,e,mA,⟨od,es,ep,e2,c⟩,r⟩:=x;exact⟨ho _ d,z,ne,k _ _ (.inl rfl) e,mA,⟨od,es,ep,k _ _ (.inr d) e2,c⟩,r⟩
 | own y=>obtain⟨ob,e⟩:=x;exact⟨ob,k _ _ (.inl rfl) e⟩
 | xd fs=>obtain⟨mA,⟨od,es,ep,e,c⟩,r⟩:=x;exact⟨mA,⟨od,es,ep,k _ _ (.inl rfl) e,c⟩,r⟩
 | rng lo hi=>obtain⟨t,u,v,e⟩:=x;exact⟨t,u,v,k _ _ (.inl rfl) e⟩
 | frz ob u ih=>obtain⟨e,q⟩:=x;exact⟨k _ _ (.inl rfl) e,ih q⟩
 | tbl ps =>
  have e:h.get? a=some { cls:=.none,data:=.fields ps }:=x;show h'.get? a=some { cls:=.none,data:=.fields ps };exact k a _ (.inl rfl) e
 | met f y =>
  have e:h.get? a=some (PySem.W.methodObj (.ref f) (.ref y)):=x;show h'.get? a=some (PySem.W.methodObj (.ref f) (.ref y));exact k a _ (.inl rfl) e
 | ext φ=>obtain⟨p,⟨o,e⟩,st⟩:=x;exact⟨st _ _ p fun o q=>k _ _ (.inl rfl) q,⟨o,k _ _ (.inl rfl) e⟩,st⟩
theorem HOk.lt(x:HOk P w H h)(e:H a=some o):a<h.objs.size:=(x a o e).lt
theorem HOk.fresh(x:HOk P w H h)(e:h.objs.size≤a):H a=none:=by
 cases q:H a with
 | none=>rfl
 | some u=>exact absurd (JP (x.lt q) e) (Lm _)
theorem HOk.kept(x:HOk P w H h)(k:∀b u,h.get? b=some u->h'.get? b=some u):HOk P w H h':=fun a o e =>
 (x a o e).stay (fun b u _ q=>k b u q) (fun _ q=>q) fun _ _ q=>q
theorem HOk.laid(x:HOk P w H h)(k:∀b u,h.get? b=some u->h'.get? b=some u)(hp:h.objs.size≤a)(new:bP P w (upd H a o) h' a o):HOk P w (upd H a o) h':=fun b u e=>by
 have hn:=x.fresh hp;by_cases hb:b=a
 ·subst hb;rw[bj]at e;cases e;exact new
 ·rw[aM hb]at e;exact(x b u e).stay (fun c v _ q=>k c v q) (fun c q=>by rw[aM (aQ q hn)];exact q) fun c xs q=>by rw[aM (aQ q hn)];exact q
end
def Rd(H:Hp)(a:Addr)(u:HO):Prop:=H a=some u∨∃o,H a=some (.frz o u)
theorem Rd.ok(r:Rd H a u)(x:HOk P w H h):bP P w H h a u:=by
 rcases r with r |⟨o,r⟩
 ·exact x a u r
 ·obtain⟨_,q⟩:=x a _ r;exact q
def Mut:Option HO->Prop
 | some (.lst _)=>True
 | some (.dK _)=>True
 | some (.dT _)=>True
 | some (.set _ _)=>True
 | some (.ins _ _ _)=>True
 | some (.ext _)=>True
 | _=>False
section
variable {P:Program}{w:World}{H:Hp}{h h':Heap}{x e:Addr}{o':HO}
theorem HOk.write(ok:HOk P w H h)(mu:Mut (H x))(he:e=x∨H e=some (.own x))(k:∀b u,b≠e->h.get? b=some u->h'.get? b=some u)(heo:∃u,h'.get? e=some u)
  (new:bP P w (upd H x o') h' x o'):HOk P w (upd H x o') h':=fun b u q=>by
 have nown:∀c y,H c=some (.own y)->c≠x:=fun c y r z=>by subst z;rw[r]at mu;exact mu
 have ntup:∀c xs,H c=some (.tup xs)->c≠x:=fun c xs r z=>by subst z;rw[r]at mu;exact mu
 by_cases hb:b=x
 ·subst hb;rw[bj]at q;cases q;exact new
 ·rw[aM hb]at q;by_cases hbe:b=e
  ·have q':H b=some (.own x):=by
    rcases he with z | z
    ·exact absurd (hbe.trans z) hb
    ·rw[hbe];exact z
   rw[q]at q';cases q';obtain⟨v,hv⟩:=heo;exact⟨v,by rw[hbe];exact hv⟩
  ·refine(ok b u q).stay (fun c v hc r=>k c v ?_ r) (fun c r=>by rw[aM (nown c b r)];exact r) fun c xs r=>by rw[aM (ntup c xs r)];exact r
   rcases hc with rfl | hc
   ·exact hbe
   ·rintro rfl;rcases he with z | z
    ·exact nown c b hc z
    ·rw[hc]at z;cases z;exact hb rfl
end
structure Un (fs ex:List Addr) (H H':Hp) (h h':Heap):Prop where
 keep:∀b o,h.get? b=some o->H b=none->b∉fs->b∉ex->h'.get? b=some o
 slot:∀b o,h.get? b=some o->H b=none->b∈fs->b∉ex->∃sl,h'.get? b=some { o with slots:=sl }
 free:∀b o,h.get? b=some o->H b=none->b∉ex->H' b=none
 there:∀b o,h.get? b=some o->b∉ex->∃o',h'.get? b=some o'
 tups:∀b xs,H b=some (.tup xs)->H' b=some (.tup xs)
 frzs:∀b o u,H b=some (.frz o u)->H' b=some (.frz o u)
 tbls:∀b ps,H b=some (.tbl ps)->∃more,H' b=some (.tbl (ps++more))
section
variable {fs fs' ex ex':List Addr}{H H1 H2:Hp}{h h1 h2 h':Heap}{a x e:Addr}{o:HO}
theorem Un.any(u:Un fs ex H H1 h h1){b:Addr}{ob:Obj}(q:h.get? b=some ob)(n:H b=none)(hx:b∉ex):∃sl,h1.get? b=some { ob with slots:=sl }:=by
 by_cases hb:b∈fs
 ·exact u.slot b ob q n hb hx
 ·exact⟨ob.slots,u.keep b ob q n hb hx⟩
theorem Un.kept(k:∀b u,h.get? b=some u->h'.get? b=some u):Un fs ex H H h h' :=
 ⟨fun b ob q _ _ _=>k b ob q,fun b ob q _ _ _=>⟨ob.slots,k b ob q⟩,fun _ _ _ n _=>n,fun b ob q _=>⟨ob,k b ob q⟩,fun _ _ q=>q,fun _ _ _ q=>q,fun _ ps q=>⟨#[],by rw[q];simp⟩⟩
theorem Un.refl:Un fs ex H H h h:=Un.kept fun _ _ q=>q
theorem Un.laid(k:∀b u,h.get? b=some u->h'.get? b=some u)(hp:h.objs.size≤a)(hn:H a=none):Un fs ex H (upd H a o) h h' where
 keep:=fun b u q _ _ _=>k b u q
 slot:=fun b u q _ _ _=>⟨u.slots,k b u q⟩
 free:=fun b u q n _=>by rw[aM (JG (JP (Jv q) hp))];exact n
 there:=fun b u q _=>⟨u,k b u q⟩
 tups:=fun b xs q=>by rw[aM (aQ q hn)];exact q
 frzs:=fun b u xs q=>by rw[aM (aQ q hn)];exact q
 tbls:=fun b ps q=>⟨#[],by rw[aM (aQ q hn),q];simp⟩
theorem Un.write(mu:Mut (H x))(he:e=x∨H e=some (.own x))(k:∀b u,b≠e->h.get? b=some u->h'.get? b=some u)(heo:∃u,h'.get? e=some u):Un fs ex H (upd H x o) h h':=by
 have hx:∀b,H b=none->b≠x:=fun b n z=>by subst z;rw[n]at mu;exact mu
 have hb:∀b,H b=none->b≠e:=fun b n z=>by
  subst z;rcases he with r | r
  ·exact hx b n r
  ·rw[n]at r;cases r
 have hm:∀b u,H b=some u->¬Mut (some u)->b≠x:=fun b u q nm z=>by subst z;rw[q]at mu;exact nm mu
 refine⟨fun b u q n _ _=>k b u (hb b n) q,fun b u q n _ _=>⟨u.slots,k b u (hb b n) q⟩,fun b u q n _=>by rw[aM (hx b n)];exact n,fun b u q _=>?_,
  fun b xs q=>by rw[aM (hm b _ q fun z=>z)];exact q,fun b u xs q=>by rw[aM (hm b _ q fun z=>z)];exact q,fun b ps q=>⟨#[],by rw[aM (hm b _ q fun z=>z),q];simp⟩⟩
 by_cases hbe:b=e
 ·subst hbe;exact heo
 ·exact⟨u,k b u hbe q⟩
end
def trk(h:Heap)(H:Hp):List Addr:=(List.range h.objs.size).filter fun a=>(H a).isSome
def kB(h:Heap)(H:Hp):Heap:=PySem.W.hideAll h (trk h H)
theorem qV(h:Heap)(H:Hp):(kB h H).objs.size=h.objs.size:=PySem.W.hideAll_size _ _
theorem sM(e:h.get? b=some o)(n:H b=none):(kB h H).get? b=some o :=
 PySem.W.hideAll_get _ e fun hm=>by
  have q:(H b).isSome=true:=(JU.mp hm).2;rw[n]at q;simp at q
theorem xY(e:(kB h H).get? b=some o):h.get? b=some o/\H b=none:=by
 have e':h.get? b=some o:=PySem.W.of_hideAll (trk h H) e;refine⟨e',?_⟩;cases q:H b with
 | none=>rfl
 | some x =>
  have hm:b∈trk h H:=JU.mpr ⟨J1.mpr (Jv e'),by simp[q]⟩;have z:(kB h H).get? b=none:=PySem.W.hideAll_none (trk h H) hm;rw[z]at e;cases e
def xA(g h:Heap)(L:Addr):List (Addr×Obj):=(List.range h.objs.size).filterMap fun a=>if a=L∨(g.get? a).isSome=true then none else(h.get? a).map fun o=>(a,o)
def rest(g h:Heap)(L d:Addr):List (Addr×Obj):=(xA g h L).filter fun p=>decide (p.1≠d)
end
section
structure Mod (K:PySem.W.Frag) (mg:Str→Option Value) (base:Heap):Prop where
 kin:K.In base
 glob:base.Ns mainGlobals mg
 blt:∃mb,base.Ns builtinsNs mb/\∀x:Str,x≠"__name__"->mb x=bootBuiltins x
 nolimit:base.NoLimit
structure Cx where
 prog:Program
 w:World
 K:PySem.W.Frag
 mg:Str->Option Value
 base:Heap
 A:Around
 N:List Str
 s₀:Shared
 H₀:Hp
 env:Env
 outer:List Env
 stack:List Env
 ex:List Addr
 fn:Str->Bool
 calm:Bool
 pn:List (Addr×Obj)
 xe:Value->Shared->Prop
def frs(l:List Env):List Addr:=l.filterMap (·.frame)
abbrev Cx.fs(X:Cx):List Addr:=frs X.outer
def Vis(sc:Scope)(x:Str):Prop:=sc.names.lookup x=some .local∨sc.names.lookup x=some .cell∨sc.names.lookup x=some .free
def Loc(sc:Scope)(x:Str):Prop:=sc.names.lookup x=some .local∨sc.names.lookup x=some .cell
def Look(env:Env)(h:Heap)(m:Str->Option Value)(x:Str)(u:Value):Prop :=
 (env.kindOf x=some .local/\m x=some u)∨((env.kindOf x=some .cell∨env.kindOf x=some .free)/\∃c,env.cells.lookup x=some c/\h.IsCell c (some u))
structure Cx.Ok (X:Cx):Prop where
 mod:Mod X.K X.mg X.base
 kind:X.env.scope.kind=.function
 glob:X.env.globals=mainGlobals
 blt:X.env.builtins=builtinsNs
 above:X.s₀.heap.objs.size≤X.env.locals
 inj:∀x y c,X.env.cells.lookup x=some c->X.env.cells.lookup y=some c->x=y
 has:∀x,(X.env.kindOf x=some .cell∨X.env.kindOf x=some .free)->∃c,X.env.cells.lookup x=some c
 cab:∀x c,X.fn x=true->X.env.cells.lookup x=some c->X.s₀.heap.objs.size≤c
 hd:X.calm=true->X.A.handled=none
 frames:X.A.frames=some X.stack
 stk:X.stack=X.outer∨(X.stack=X.env::X.outer/\X.env.frame=some X.env.locals)
 exf:∀b∈X.ex,b≠X.env.locals/\∀x c,X.env.cells.lookup x=some c->c≠b
 bs:∀b o,X.base.get? b=some o->X.s₀.heap.get? b=some o/\X.H₀ b=none
 bsz:X.base.objs.size≤X.s₀.heap.objs.size
 noex:∀b o,X.base.get? b=some o->b∉X.ex
 exfs:∀b∈X.ex,b∉X.fs
 funs:X.s₀.heap.FunFrames X.base X.outer
 frf:∀b∈X.fs,X.H₀ b=none
structure Inv (X:Cx) (pins:List (Addr × Obj)) (σ:List (Option V)) (H:Hp) (s:Shared):Prop where
 ok:X.Ok
 os:s.os=X.s₀.os
 bare:AllBare s.gens
 base:Un X.fs X.ex X.H₀ H X.s₀.heap s.heap
 loc:∃m,s.heap.Ns X.env.locals m/\∀(i:Nat) (x:Str) (v:V),X.N[i]?=some x->σ[i]?=some (some v)->Vis X.env.scope x->∃u,RelV v u/\Look X.env s.heap m x u
 cell:∀x c,X.env.cells.lookup x=some c->∃v,s.heap.IsCell c v
 free:H X.env.locals=none
 freeC:∀x c,X.env.cells.lookup x=some c->H c=none
 pin:∀p∈X.pn++pins,s.heap.get? p.1=some p.2/\H p.1=none/\p.1≠X.env.locals/\p.1∉X.fs/\∀v,p.2.data≠.cell v
 hok:HOk X.prog X.w H s.heap
 len:σ.length=X.N.length
section
variable {X:Cx}{pins:List (Addr×Obj)}{σ:List (Option V)}{H H':Hp}{s:Shared}{h':Heap}
theorem Cx.Ok.nofr(ok:X.Ok){b:Addr}{o:Obj}(e:X.base.get? b=some o):b∉X.fs:=fun hb=>by
 have:=(ok.funs.mem hb).1;rw[e]at this;cases this
theorem Inv.bs(I:Inv X pins σ H s):∀b o,X.base.get? b=some o->s.heap.get? b=some o/\H b=none:=fun b o e =>
 ⟨I.base.keep b o (I.ok.bs b o e).1 (I.ok.bs b o e).2 (I.ok.nofr e) (I.ok.noex b o e),I.base.free b o (I.ok.bs b o e).1 (I.ok.bs b o e).2 (I.ok.noex b o e)⟩
theorem Inv.bk(I:Inv X pins σ H s):∀b o,X.base.get? b=some o->s.heap.get? b=some o:=fun b o e=>(I.bs b o e).1
theorem Inv.mod(I:Inv X pins σ H s):Mod X.K X.mg X.base:=I.ok.mod
theorem Inv.kIn(I:Inv X pins σ H s):X.K.In s.heap:=I.ok.mod.kin.keeps I.bk
theorem Inv.lt(I:Inv X pins σ H s):X.env.locals<s.heap.objs.size:=let ⟨_,hn,_⟩:=I.loc;hn.lt
theorem Inv.sz(I:Inv X pins σ H s):X.s₀.heap.objs.size≤s.heap.objs.size:=JY I.ok.above (Nat.le_of_lt I.lt)
theorem Inv.nofs(I:Inv X pins σ H s){a:Addr}(h:s.heap.objs.size≤a):a∉X.fs:=fun hb=>by
 obtain⟨_,o,ho,_⟩:=I.ok.funs.mem hb;exact absurd (JP (Jv ho) (JY I.sz h)) (Lm _)
theorem Inv.cne(I:Inv X pins σ H s):∀x c,X.env.cells.lookup x=some c->c≠X.env.locals:=fun x c e z=>by
 obtain⟨v,o,ho,hd⟩:=I.cell x c e;obtain⟨m,⟨o',es,ep,ho',hd',_⟩,_⟩:=I.loc;rw[z,ho']at ho;cases ho;rw[hd']at hd;cases hd
theorem Inv.funs(I:Inv X pins σ H s):s.heap.FunFrames X.base X.outer:=by
 have all:∀(l:List Env),(∀b∈frs l,b∈X.fs)->X.s₀.heap.FunFrames X.base l->s.heap.FunFrames X.base l:=by
  intro l
  induction l with
  | nil=>intro _ _;trivial
  | cons env r ih =>
   intro hs hl;obtain⟨hk,⟨L,o,hf,hn,ho,hd⟩,hr⟩:=hl;have hL:L∈X.fs:=hs L (by unfold frs;rw[List.filterMap_cons,hf];exact Jw);obtain⟨sl,e⟩:=I.base.slot L o ho (I.ok.frf L hL) hL fun z=>I.ok.exfs L z hL;exact⟨hk,⟨L,_,hf,hn,e,hd⟩,ih (fun b hb=>hs b (by unfold frs;rw[List.filterMap_cons,hf];exact Jz _ hb)) hr⟩
 exact all X.outer (fun _ hb=>hb) I.ok.funs
theorem Inv.stack(I:Inv X pins σ H s):s.heap.FunFrames X.base X.stack:=by
 rcases I.ok.stk with e |⟨e,hf⟩
 ·rw[e];exact I.funs
 ·rw[e];obtain⟨m,hn,_⟩:=I.loc;refine .cons (by rw[I.ok.kind];decide) hf hn ?_ I.funs;exact Heap.get?_none_of_le (JY I.ok.bsz I.ok.above)
theorem Inv.stkSub(I:Inv X pins σ H s):∀b∈frs X.stack,b∈X.env.locals::X.fs:=fun b hb=>by
 rcases I.ok.stk with e |⟨e,hf⟩
 ·rw[e]at hb;exact Jz _ hb
 ·rw[e]at hb;unfold frs at hb;rw[List.filterMap_cons,hf]at hb;exact hb
theorem Inv.stkFree(I:Inv X pins σ H s):∀b∈frs X.stack,H b=none:=fun b hb=>by
 rcases JD.mp (I.stkSub b hb)with e | hb
 ·rw[e];exact I.free
 ·obtain⟨_,o,ho,_⟩:=I.ok.funs.mem hb;exact I.base.free b o ho (I.ok.frf b hb) fun z=>I.ok.exfs b z hb
theorem Inv.step{g':Array GenState}{t':Nat}{d':Drawn}{ch:List Addr}(I:Inv X pins σ H s)
  (hch:∀b∈ch,(b∈X.ex∨X.s₀.heap.objs.size≤b)/\b≠X.env.locals/\(∀x c,X.env.cells.lookup x=some c->c≠b)/\∀p∈X.pn++pins,p.1≠b)
  (keep:∀b o,b≠X.env.locals->b∉X.fs->b∉ch->s.heap.get? b=some o->H b=none->h'.get? b=some o)
  (slot:∀b o,b≠X.env.locals->b∈X.fs->b∉ch->s.heap.get? b=some o->H b=none->∃sl,h'.get? b=some { o with slots:=sl }) (free:∀b o,b∉ch->s.heap.get? b=some o->H b=none->H' b=none)
  (there:∀b o,b∉ch->s.heap.get? b=some o->∃o',h'.get? b=some o')
  (tups:∀b xs,H b=some (.tup xs)->H' b=some (.tup xs)) (frzs:∀b o u,H b=some (.frz o u)->H' b=some (.frz o u)) (tbls:∀b ps,H b=some (.tbl ps)->∃more,H' b=some (.tbl (ps++more)))
  (ns:∀m,s.heap.Ns X.env.locals m->h'.Ns X.env.locals m) (hok:HOk X.prog X.w H' h') (hg:AllBare g') :
  Inv X pins σ H' { s with heap:=h',gens:=g',drawn:=d',toks:=t' }:=by
 have neL:∀b o,X.s₀.heap.get? b=some o->b≠X.env.locals:=fun b o e=>JG (JP (Jv e) I.ok.above);have neC:∀b o,X.s₀.heap.get? b=some o->b∉X.ex->b∉ch:=fun b o e hx hb=>by
  rcases (hch b hb).1 with z | z
  ·exact hx z
  ·exact absurd (JP (Jv e) z) (Lm _)
 have cellK:∀x c,X.env.cells.lookup x=some c->∀v,s.heap.IsCell c v->h'.IsCell c v:=fun x c e v y_=>by
  obtain⟨o,ho,hd⟩:=y_;have nch:c∉ch:=fun z=>(hch c z).2.2.1 x c e rfl;by_cases hc:c∈X.fs
  ·obtain⟨sl,q⟩:=slot c o (I.cne x c e) hc nch ho (I.freeC x c e);exact⟨_,q,hd⟩
  ·exact⟨o,keep c o (I.cne x c e) hc nch ho (I.freeC x c e),hd⟩
 refine⟨I.ok,I.os,hg,⟨fun b o e n hb hx=>?_,fun b o e n hb hx=>?_,fun b o e n hx=>?_,fun b o e hx=>?_,fun b xs e=>tups b xs (I.base.tups b xs e),fun b o xs e=>frzs b o xs (I.base.frzs b o xs e),fun b ps e=>?_⟩,?_,fun x c e=>?_,?_,fun x c e=>?_,fun p hp=>?_,hok,I.len⟩
 ·exact keep b o (neL b o e) hb (neC b o e hx) (I.base.keep b o e n hb hx) (I.base.free b o e n hx)
 ·obtain⟨sl,e1⟩:=I.base.slot b o e n hb hx;obtain⟨sl',e2⟩:=slot b _ (neL b o e) hb (neC b o e hx) e1 (I.base.free b o e n hx);exact⟨sl',e2⟩
 ·obtain⟨o',e1⟩:=I.base.there b o e hx;exact free b o' (neC b o e hx) e1 (I.base.free b o e n hx)
 ·obtain⟨o',e1⟩:=I.base.there b o e hx;exact there b o' (neC b o e hx) e1
 ·obtain⟨m1,e1⟩:=I.base.tbls b ps e;obtain⟨m2,e2⟩:=tbls b _ e1;exact⟨m1++m2,by rw[e2,Array.append_assoc]⟩
 ·obtain⟨m,hn,hl⟩:=I.loc;refine⟨m,ns m hn,fun i x v e1 e2 e3=>?_⟩;obtain⟨u,r,l⟩:=hl i x v e1 e2 e3;refine⟨u,r,?_⟩;rcases l with l |⟨k,c,e,z⟩
  ·exact .inl l
  ·exact .inr ⟨k,c,e,cellK x c e _ z⟩
 ·obtain⟨v,z⟩:=I.cell x c e;exact⟨v,cellK x c e v z⟩
 ·obtain⟨m,⟨o,_,_,ho,_⟩,_⟩:=I.loc;exact free _ o (fun z=>(hch _ z).2.1 rfl) ho I.free
 ·obtain⟨v,o,ho,hd⟩:=I.cell x c e;exact free c o (fun z=>(hch c z).2.2.1 x c e rfl) ho (I.freeC x c e)
 ·obtain⟨e,n,ne,nf,d⟩:=I.pin p hp;have nch:p.1∉ch:=fun z=>(hch p.1 z).2.2.2 p hp rfl;exact⟨keep p.1 p.2 ne nf nch e n,free p.1 p.2 nch e n,ne,nf,d⟩
theorem Inv.un(I:Inv X pins σ H s)(u:Un X.fs [] H H' s.heap h')(hok:HOk X.prog X.w H' h'):Inv X pins σ H' { s with heap:=h',toks:=t' }:=by
 obtain⟨m,⟨o,es,ep,ho,r⟩,_⟩:=id I.loc;obtain⟨sl,hL⟩:=u.any ho I.free (by simp);exact I.step (g':=s.gens) (d':=s.drawn) (ch:=[]) (fun _ z=>nomatch z) (fun b o _ hb _ e n=>u.keep b o e n hb (by simp)) (fun b o _ hb _ e n=>u.slot b o e n hb (by simp)) (fun b o _ e n=>u.free b o e n (by simp)) (fun b o _ e=>u.there b o e (by simp)) u.tups u.frzs u.tbls (fun m' hm=>by
  obtain⟨o',es',ep',ho',r'⟩:=hm;rw[ho]at ho';cases ho';exact⟨_,es',ep',hL,r'⟩) hok I.bare
theorem Inv.call(I:Inv X pins σ H s)(u:Un (frs X.stack) ch H H' s.heap h')(hok:HOk X.prog X.w H' h')(hg:AllBare g')
  (hch:∀b∈ch,(b∈X.ex∨X.s₀.heap.objs.size≤b)/\b≠X.env.locals/\(∀x c,X.env.cells.lookup x=some c->c≠b)/\∀p∈X.pn++pins,p.1≠b) :
  Inv X pins σ H' { s with heap:=h',gens:=g',drawn:=d',toks:=t' }:=by
 obtain⟨m,⟨o,es,ep,ho,r⟩,_⟩:=id I.loc;obtain⟨sl,hL⟩:=u.any ho I.free fun z=>(hch _ z).2.1 rfl;exact I.step (ch:=ch) hch (fun b o hL hb hc e n=>u.keep b o e n (fun z=>(JD.mp (I.stkSub b z)).elim hL hb) hc) (fun b o _ _ hc e n=>u.any e n hc) (fun b o hc e n=>u.free b o e n hc) (fun b o hc e=>u.there b o e hc) u.tups u.frzs u.tbls (fun m' hm=>by
  obtain⟨o',es',ep',ho',r'⟩:=hm;rw[ho]at ho';cases ho';exact⟨_,es',ep',hL,r'⟩) hok hg
theorem Inv.turned(I:Inv X pins σ H s)(k:∀b o,b≠it->s.heap.get? b=some o->h'.get? b=some o)(hn:H it=none)(hL:it≠X.env.locals)
  (h1:it∈X.ex∨X.s₀.heap.objs.size≤it) (h2:∀x c,X.env.cells.lookup x=some c->c≠it) (h3:∀p∈X.pn++pins,p.1≠it):Inv X pins σ H { s with heap:=h',toks:=t' }:=by
 have nit:∀b u,H b=some u->b≠it:=fun b u e z=>by rw[z,hn]at e;cases e
 refine I.step (g':=s.gens) (d':=s.drawn) (ch:=[it]) (fun b hb=>?_) (fun b o _ _ hc e _=>k b o (fun z=>hc (by simp[z])) e) (fun b o _ _ hc e _=>⟨o.slots,k b o (fun z=>hc (by simp[z])) e⟩) (fun _ _ _ _ n=>n)
  (fun b o hc e=>⟨o,k b o (fun z=>hc (by simp[z])) e⟩) (fun _ _ e=>e) (fun _ _ _ e=>e) (fun b ps e=>⟨#[],by rw[e];simp⟩) (fun m hm=>?_) (fun b u e=>?_) I.bare
 ·have e:b=it:=by simpa using hb
  subst e;exact⟨h1,hL,h2,h3⟩
 ·obtain⟨o,es,ep,ho,r⟩:=hm;exact⟨o,es,ep,k _ o (Ne.symm hL) ho,r⟩
 ·refine(I.hok b u e).stay (fun c v hc q=>k c v ?_ q) (fun _ q=>q) fun _ _ q=>q;rcases hc with z | z
  ·rw[z];exact nit b u e
  ·exact nit c _ z
theorem Inv.tok(I:Inv X pins σ H s)(t:Nat):Inv X pins σ H { s with toks:=t }:=I.un (h':=s.heap) (t':=t) Un.refl I.hok
theorem Inv.kept(I:Inv X pins σ H s)(k:∀b u,s.heap.get? b=some u->h'.get? b=some u):Inv X pins σ H { s with heap:=h',toks:=t' }:=I.un (Un.kept k) (I.hok.kept k)
theorem Inv.laid{a:Addr}(I:Inv X pins σ H s)(k:∀b u,s.heap.get? b=some u->h'.get? b=some u)(hp:s.heap.objs.size≤a)(new:bP X.prog X.w (upd H a o) h' a o) :
  Inv X pins σ (upd H a o) { s with heap:=h',toks:=t' }:=I.un (Un.laid k hp (I.hok.fresh hp)) (I.hok.laid k hp new)
theorem Inv.write(I:Inv X pins σ H s)(mu:Mut (H x))(he:e=x∨H e=some (.own x))(k:∀b u,b≠e->s.heap.get? b=some u->h'.get? b=some u)(heo:∃u,h'.get? e=some u)
  (new:bP X.prog X.w (upd H x o) h' x o):Inv X pins σ (upd H x o) { s with heap:=h',toks:=t' }:=I.un (Un.write mu he k heo) (I.hok.write mu he k heo new)
theorem Inv.pins_of(I:Inv X pins σ H s)(h:∀p∈pins',s.heap.get? p.1=some p.2/\H p.1=none/\p.1≠X.env.locals/\p.1∉X.fs/\∀v,p.2.data≠.cell v):Inv X pins' σ H s :=
 ⟨I.ok,I.os,I.bare,I.base,I.loc,I.cell,I.free,I.freeC,fun p hp=>(Ju.mp hp).elim (fun z=>I.pin p (JN _ z)) (h p),I.hok,I.len⟩
theorem iM{N:List Str}(hN:N.Nodup){i j:Nat}{x:Str}(a:N[i]?=some x)(b:N[j]?=some x):i=j:=by
 obtain⟨h1,e1⟩:=JE.mp a;obtain⟨h2,e2⟩:=JE.mp b;exact(List.getElem_inj hN).mp (e1.trans e2.symm)
theorem ju{M:Model}{A:Around}{E:Value->Shared->Prop}{i:Nat}{x:Str}{v:V}{u:Value}{Q:Unit->Shared->Prop}(I:Inv X pins σ H s)(hN:X.N.Nodup)(hi:X.N[i]?=some x)(hx:Loc X.env.scope x)(r:RelV v u)
  (h:∀s',Inv X pins (σ.set i (some v)) H s'->(∃a,Heap.SameBut a s.heap s'.heap/\(a=X.env.locals∨X.env.cells.lookup x=some a))->Q () s') (hf:X.fn x=true∨X.env.scope.names.lookup x=some .local:=by first | exact .inl rfl | exact .inr rfl | assumption):wpAny M A (storeName X.env x u) Q E s:=by
 obtain⟨m,hn,hl⟩:=id I.loc;have hcls:(X.env.scope.kind==.class||(X.env.scope.kind==.module&&X.env.locals !=X.env.globals))=false:=by rw[I.ok.kind];rfl
 have hiσ:i<σ.length:=by rw[I.len];exact(JE.mp hi).1
 have cne:=I.cne;have tracked:∀{a:Addr} {h':Heap},(∃o,s.heap.get? a=some o/\H a=none)->Heap.SameBut a s.heap h'->HOk X.prog X.w H h':=fun {a h'} ha hs b ob e=>by
  obtain⟨_,_,hfree⟩:=ha;refine(I.hok b ob e).stay (fun c w' hc q=>(hs.2 c ?_).trans q) (fun _ q=>q) fun _ _ q=>q;rintro rfl;rcases hc with rfl | hc
  ·rw[hfree]at e;cases e
  ·rw[hfree]at hc;cases hc
 rcases hx with hk | hk
 ·refine wpAny_storeName_local hk hn (fun h' hn' hs=>?_) hcls;obtain⟨oL,_,_,hoL,_⟩:=id hn;refine h _ ⟨I.ok,I.os,I.bare,⟨fun b o e n hb hx=>?_,fun b o e n hb hx=>?_,I.base.free,fun b o e hx=>?_,I.base.tups,I.base.frzs,I.base.tbls⟩,⟨_,hn',fun j y v' e1 e2 e3=>?_⟩,fun y c e=>?_,I.free,I.freeC,fun p hp=>?_,tracked ⟨oL,hoL,I.free⟩ hs,by simpa using I.len⟩ ⟨_,hs,.inl rfl⟩
  ·exact(hs.2 b (JG (JP (Jv e) I.ok.above))).trans (I.base.keep b o e n hb hx)
  ·obtain⟨sl,e1⟩:=I.base.slot b o e n hb hx;exact⟨sl,(hs.2 b (JG (JP (Jv e) I.ok.above))).trans e1⟩
  ·obtain⟨o',e1⟩:=I.base.there b o e hx;exact⟨o',(hs.2 b (JG (JP (Jv e) I.ok.above))).trans e1⟩
  ·by_cases hj:j=i
   ·subst hj;rw[hi]at e1;cases e1;rw[KI hiσ]at e2;cases e2;exact⟨u,r,.inl ⟨hk,by simp⟩⟩
   ·rw[Lg (Ne.symm hj)]at e2;obtain⟨u',r',q⟩:=hl j y v' e1 e2 e3;refine⟨u',r',?_⟩;rcases q with⟨k,e⟩ |⟨k,c,e,z⟩
    ·refine .inl ⟨k,?_⟩;have:y≠x:=fun e=>hj (iM hN e1 (e▸hi));simp[this,e]
    ·exact .inr ⟨k,c,e,z.sameBut hs (cne y c e)⟩
  ·obtain⟨w',z⟩:=I.cell y c e;exact⟨w',z.sameBut hs (cne y c e)⟩
  ·obtain⟨e,n,ne,nf,d⟩:=I.pin p hp;exact⟨(hs.2 p.1 ne).trans e,n,ne,nf,d⟩
 ·have hfn:X.fn x=true:=by
   rcases hf with z | z
   ·exact z
   ·rw[z]at hk;cases hk
  obtain⟨c,hc⟩:=I.ok.has x (.inl hk);obtain⟨w',z⟩:=I.cell x c hc;refine wpAny_storeName_cell I.ok.kind hk hc z (fun h' hc' hs=>?_);obtain⟨oc,hoc,hocd⟩:=id z;refine h { s with heap:=h' } ⟨I.ok,I.os,I.bare,⟨fun b o e n hb hx=>?_,fun b o e n hb hx=>?_,I.base.free,fun b o e hx=>?_,I.base.tups,I.base.frzs,I.base.tbls⟩,⟨m,hn.sameBut hs (Ne.symm (cne x c hc)),fun j y v' e1 e2 e3=>?_⟩,fun y c' e=>?_,I.free,I.freeC,fun p hp=>?_,tracked ⟨oc,hoc,I.freeC x c hc⟩ hs,by simpa using I.len⟩ ⟨c,hs,.inr hc⟩
  ·exact(hs.2 b (JG (JP (Jv e) (I.ok.cab x c hfn hc)))).trans (I.base.keep b o e n hb hx)
  ·obtain⟨sl,e1⟩:=I.base.slot b o e n hb hx;exact⟨sl,(hs.2 b (JG (JP (Jv e) (I.ok.cab x c hfn hc)))).trans e1⟩
  ·obtain⟨o',e1⟩:=I.base.there b o e hx;exact⟨o',(hs.2 b (JG (JP (Jv e) (I.ok.cab x c hfn hc)))).trans e1⟩
  ·by_cases hj:j=i
   ·subst hj;rw[hi]at e1;cases e1;rw[KI hiσ]at e2;cases e2;exact⟨u,r,.inr ⟨.inl hk,c,hc,hc'⟩⟩
   ·rw[Lg (Ne.symm hj)]at e2;obtain⟨u',r',q⟩:=hl j y v' e1 e2 e3;refine⟨u',r',?_⟩;rcases q with q |⟨k,c',e,z'⟩
    ·exact .inl q
    ·refine .inr ⟨k,c',e,z'.sameBut hs ?_⟩;rintro rfl;exact hj (iM hN e1 (I.ok.inj _ _ _ e hc▸hi))
  ·by_cases hcc:c'=c
   ·subst hcc;exact⟨_,hc'⟩
   ·obtain⟨w2,z2⟩:=I.cell y c' e;exact⟨w2,z2.sameBut hs hcc⟩
  ·obtain⟨e,n,ne,nf,d⟩:=I.pin p hp;refine⟨(hs.2 p.1 ?_).trans e,n,ne,nf,d⟩;intro q;rw[q,hoc]at e;have q':oc=p.2:=JT e;exact d w' (by rw[←q'];exact hocd)
theorem fK{M:Model}{A:Around}{E:Value->Shared->Prop}{i:Nat}{x:Str}{v:V}{u:Value}{Q:Unit->Shared->Prop}(I:Inv X pins σ H s)(hN:X.N.Nodup)(hi:X.N[i]?=some x)(hx:Loc X.env.scope x)(r:RelV v u)
  (h:∀s',Inv X pins (σ.set i (some v)) H s'->Q () s') (hf:X.fn x=true∨X.env.scope.names.lookup x=some .local:=by first | exact .inl rfl | exact .inr rfl | assumption):wpAny M A (storeName X.env x u) Q E s :=
 ju I hN hi hx r (fun s' I' _=>h s' I') hf
theorem Inv.call'(I:Inv X pins σ H s)(ho:s'.os=s.os)(u:Un (frs X.stack) ch H H' s.heap s'.heap)(hok:HOk X.prog X.w H' s'.heap)(hg:AllBare s'.gens)
  (hch:∀b∈ch,(b∈X.ex∨X.s₀.heap.objs.size≤b)/\b≠X.env.locals/\(∀x c,X.env.cells.lookup x=some c->c≠b)/\∀p∈X.pn++pins,p.1≠b):Inv X pins σ H' s':=by
 obtain⟨h',g',d',t',o'⟩:=s';have e:o'=s.os:=ho;subst e;exact I.call (g':=g') (t':=t') (d':=d') u hok hg hch
end
abbrev XK:=Value->Option Addr->Hp->Prop
abbrev St:=List (Option V)
abbrev VK:=V->Hp->Prop
abbrev TE:=St->Hp->VK->Prop
abbrev TT:=St->Hp->(Bool->Hp->Prop)->Prop
abbrev TA:=St->Hp->(List V->Hp->Prop)->Prop
structure Ends where
 nx:St->Hp->Prop
 rt:VK
 bk:St->Hp->Prop:=fun _ _=>False
 ct:St->Hp->Prop:=fun _ _=>False
abbrev TS:=Ends->St->Hp->Prop
def EP(X:Cx)(pins:List (Addr×Obj))(σ:St)(Q:VK)(u:Value)(s':Shared):Prop:=∃v H',Inv X pins σ H' s'/\RelV v u/\Q v H'
def TP(X:Cx)(pins:List (Addr×Obj))(σ:St)(Q:Bool->Hp->Prop)(b:Bool)(s':Shared):Prop:=∃H',Inv X pins σ H' s'/\Q b H'
def AP(X:Cx)(pins:List (Addr×Obj))(σ:St)(Q:List V->Hp->Prop)(us:List Value)(s':Shared):Prop:=∃vs H',Inv X pins σ H' s'/\Vals vs us/\Q vs H'
def SP(X:Cx)(pins:List (Addr×Obj))(D:Ends)(f:Flow)(s':Shared):Prop :=
 match f with
 | .next=>∃σ' H',Inv X pins σ' H' s'/\D.nx σ' H'
 | .brk=>∃σ' H',Inv X pins σ' H' s'/\D.bk σ' H'
 | .cont=>∃σ' H',Inv X pins σ' H' s'/\D.ct σ' H'
 | .ret u=>∃v σ' H',Inv X pins σ' H' s'/\RelV v u/\D.rt v H'
def PE(X:Cx)(e:Expr)(t:TE):Prop :=
 ∀(pins:List (Addr×Obj)) (s:Shared) (σ:St) (H:Hp) (Q:VK),Inv X pins σ H s->t σ H Q->wpAny (model X.prog X.w) X.A (eval e X.env) (EP X pins σ Q) X.xe s
def PT(X:Cx)(e:Expr)(t:TT):Prop :=
 ∀(pins:List (Addr×Obj)) (s:Shared) (σ:St) (H:Hp) (Q:Bool->Hp->Prop),Inv X pins σ H s->t σ H Q->wpAny (model X.prog X.w) X.A (isTrue e X.env (eval e X.env)) (TP X pins σ Q) X.xe s
def PW(X:Cx)(e:Expr)(t:TT):Prop :=
 ∀(whole:Sem Value) (pins:List (Addr×Obj)) (s:Shared) (σ:St) (H:Hp) (Q:Bool->Hp->Prop),Inv X pins σ H s->t σ H Q->wpAny (model X.prog X.w) X.A (isTrue e X.env whole) (TP X pins σ Q) X.xe s
theorem PW.pt(h:PW X e t):PT X e t:=h _
def PA(X:Cx)(es:List Expr)(t:TA):Prop :=
 ∀(pos:Pos) (pins:List (Addr×Obj)) (s:Shared) (σ:St) (H:Hp) (Q:List V->Hp->Prop),Inv X pins σ H s->t σ H Q->wpAny (model X.prog X.w) X.A (spliced (backTo pos (starEach es X.env))) (AP X pins σ Q) X.xe s
def PS(X:Cx)(st:Stmt)(t:TS):Prop :=
 ∀(pins:List (Addr×Obj)) (s:Shared) (σ:St) (H:Hp) (D:Ends),Inv X pins σ H s->t D σ H->wpAny (model X.prog X.w) X.A (exec st X.env) (SP X pins D) X.xe s
def PSs(X:Cx)(st:List Stmt)(t:TS):Prop :=
 ∀(pins:List (Addr×Obj)) (s:Shared) (σ:St) (H:Hp) (D:Ends),Inv X pins σ H s->t D σ H->wpAny (model X.prog X.w) X.A (execs st X.env) (SP X pins D) X.xe s
theorem thn{t:Sem α}{Q Q':α->Shared->Prop}(h:wpAny M A t Q E s)(hQ:∀a s,Q a s->Q' a s):wpAny M A t Q' E s:=Li h hQ fun _ _ x=>x
end
section
section
variable {X:Cx}
theorem bin{a b:Expr}{ta tb:TE}(ha:PE X a ta)(hb:PE X b tb){pins:List (Addr×Obj)}{s:Shared}{σ:St}{H:Hp}{R:V->V->Hp->Prop}(I:Inv X pins σ H s)(h:ta σ H fun x H1=>tb σ H1 fun y H2=>R x y H2)
  {α:Type} {Q:α->Shared->Prop} {f:Value->Value->Sem α}
  (hf:∀v u s2 x y H2,Inv X pins σ H2 s2->RelV x v->RelV y u->R x y H2->wpAny (model X.prog X.w) X.A (f v u) Q X.xe s2) :
  wpAny (model X.prog X.w) X.A (eval a X.env) (fun v s₁=>wpAny (model X.prog X.w) X.A (eval b X.env) (fun u s₂=>wpAny (model X.prog X.w) X.A (f v u) Q X.xe s₂) X.xe s₁) X.xe s:=by
 refine thn (ha pins s σ H _ I h) fun v s1 y_=>?_;obtain⟨x,H1,I1,r1,q1⟩:=y_;refine thn (hb pins s1 σ H1 _ I1 q1) fun u s2 y_=>?_;obtain⟨y,H2,I2,r2,q2⟩:=y_;exact hf v u s2 x y H2 I2 r1 r2 q2
def Ek(i:Nat):TE:=fun σ H Q=>∃v,σ[i]?=some (some v)/\Q v H
def tC(v:V):TE:=fun _ H Q=>Q v H
theorem uj{i:Nat}{x:Str}{pos:Pos}(hN:X.N[i]?=some x)(hv:Vis X.env.scope x)(hd:(x==("__debug__":Str))=false:=by decide)(hcd:(x==("__classdict__":Str))=false:=by decide):PE X (.Name x pos) (Ek i):=by
 intro pins s σ H Q I h;obtain⟨v,e,h⟩:=h;obtain⟨m,hn,hl⟩:=I.loc;obtain⟨u,r,l⟩:=hl i x v hN e hv;have fin:EP X pins σ Q u s:=⟨v,H,I,r,h⟩;rcases l with⟨hk,hm⟩ |⟨hk,c,hc,hcell⟩
 ·exact wpAny_Name (wpAny_loadName_local I.ok.kind hk hn hm fin) hd
 ·rcases hk with hk | hk
  ·exact wpAny_Name (wpAny_loadName_cell I.ok.kind hk hc hcell fin) hd
  ·exact wpAny_Name (wpAny_loadName_free I.ok.kind hk hc hcell fin hcd) hd
theorem zQ:PE X (.Constant (.int i) j pos) (tC (.int i)):=fun _ _ _ H _ I h=>wpAny_Constant_int ⟨.int i,H,I.tok _,⟨_,rfl⟩,h⟩
theorem D1:PE X (.Constant (.bool b) j pos) (tC (.bl b)):=fun _ _ _ H _ I h=>Constant_bool ⟨.bl b,H,I,rfl,h⟩
theorem Ba:PE X (.Constant .none j pos) (tC .non):=fun _ _ _ H _ I h=>Constant_none ⟨.non,H,I,rfl,h⟩
theorem tw:PE X (.Constant (.str x) j pos) (tC (.str x)):=fun _ _ _ H _ I h=>Calls.Constant_str ⟨.str x,H,I.tok _,⟨_,rfl⟩,h⟩
def Gl(X:Cx)(x:Str):Prop:=X.env.kindOf x=some .globalImplicit
theorem eE{E:Value->Shared->Prop}{pins:List (Addr×Obj)}{s:Shared}{σ:St}{H:Hp}{x:Str}{u:Value}{pos:Pos}{Q:Value->Shared->Prop}(I:Inv X pins σ H s)(hg:Gl X x)(hm:X.mg x=some u)(h:Q u s)
  (hd:(x==("__debug__":Str))=false:=by decide):wpAny (model X.prog X.w) X.A (eval (.Name x pos) X.env) Q E s :=
 Calls.Name_function_global I.ok.kind hg (Calls.loadGlobal_global (by rw[I.ok.glob];exact I.mod.glob.keeps I.bk) hm h) hd
theorem dq{E:Value->Shared->Prop}{pins:List (Addr×Obj)}{s:Shared}{σ:St}{H:Hp}{x:Str}{u:Value}{pos:Pos}{Q:Value->Shared->Prop}(I:Inv X pins σ H s)(hg:Gl X x)(hm:X.mg x=none)(hv:bootBuiltins x=some u)(h:Q u s)
  (hn:x≠"__name__":=by decide) (hd:(x==("__debug__":Str))=false:=by decide):wpAny (model X.prog X.w) X.A (eval (.Name x pos) X.env) Q E s:=by
 obtain⟨mb,h1,h2⟩:=I.mod.blt;exact Calls.Name_function_global I.ok.kind hg (Calls.loadGlobal_builtin (by rw[I.ok.glob];exact I.mod.glob.keeps I.bk) hm (by rw[I.ok.blt];exact h1.keeps I.bk) ((h2 x hn).trans hv) h) hd
theorem pO{x:Str}{v:V}{u:Value}{pos:Pos}(hg:Gl X x)(hm:X.mg x=some u)(r:RelV v u)(hd:(x==("__debug__":Str))=false:=by decide):PE X (.Name x pos) (tC v) :=
 fun _ _ _ H _ I h=>eE I hg hm ⟨v,H,I,r,h⟩ hd
theorem oY{x:Str}{v:V}{u:Value}{pos:Pos}(hg:Gl X x)(hm:X.mg x=none)(hv:bootBuiltins x=some u)(r:RelV v u)(hn:x≠"__name__":=by decide)(hd:(x==("__debug__":Str))=false:=by decide):PE X (.Name x pos) (tC v) :=
 fun _ _ _ H _ I h=>dq I hg hm hv ⟨v,H,I,r,h⟩ hn hd
variable {a b:Expr}{ta tb:TE}{pos:Pos}
def PC(X:Cx)(op:CmpOp)(a b:Expr)(t:TE):Prop :=
 ∀(pins:List (Addr×Obj)) (s:Shared) (σ:St) (H:Hp) (Q:VK),Inv X pins σ H s->t σ H Q ->
  wpAny (model X.prog X.w) X.A (eval a X.env) (fun v s₁=>wpAny (model X.prog X.w) X.A (eval b X.env) (fun u s₂=>wpAny (model X.prog X.w) X.A (compareOp op v u) (EP X pins σ Q) X.xe s₂) X.xe s₁) X.xe s
theorem uM(b:Expr){op:CmpOp}(h:op≠.In)(h2:op≠.NotIn):behindInMarks op b=false:=by
 have e1:(op==CmpOp.In)=false:=by cases op<;>first | rfl | exact absurd rfl h
 have e2:(op==CmpOp.NotIn)=false:=by cases op<;>first | rfl | exact absurd rfl h2
 cases b<;>simp[behindInMarks,e1,e2]
def tB(t:TE):TT:=fun σ H Q=>t σ H fun x H1=>∃c,x=.bl c/\Q c H1
theorem Jd{op:CmpOp}{t:TE}(h:PC X op a b t)(h1:behindInMarks op b=false:=by first | exact uM _ (by decide) (by decide) | rfl):PT X (.Compare a [op] [b] pos) (tB t):=by
 intro pins s σ H Q I hw;refine wpAny_isTrue_Compare1 (thn (h pins s σ H _ I hw) fun v s1 h1=>thn h1 fun u s2 h2=>thn h2 fun c s3 ⟨x,H1,I1,r1,q1⟩=>?_) h1;obtain⟨d,rfl,q⟩:=q1;cases r1;exact KS ⟨H1,I1,q⟩
theorem AV{e:Expr}{t:TE}(h:PE X e t)(he:∀whole,isTrue e X.env whole=(do let v←whole;standAt e.pos;holding [v] (truthy v)):=by intro _;rfl):PT X e (tB t):=by
 intro pins s σ H Q I hw;refine isTrue_plain (thn (h pins s σ H _ I hw) fun v s1 ⟨x,H1,I1,r1,q1⟩=>?_) (he _);obtain⟨d,rfl,q⟩:=q1;cases r1;exact KS ⟨H1,I1,q⟩
variable {tA tB':TT}{rest:List Expr}
def F3(t u:TT):TT:=fun σ H Q=>t σ H fun c H1=>if c=true then u σ H1 Q else Q false H1
def tOr(t u:TT):TT:=fun σ H Q=>t σ H fun c H1=>if c=true then Q true H1 else u σ H1 Q
def Gz(t:TT):TT:=fun σ H Q=>t σ H fun c H1=>Q (!c) H1
theorem xZ(ha:PT X a tA):PW X (.BoolOp .And [a] pos) tA:=by
 intro wh pins s σ H Q I h;refine isTrue_and (thn (ha pins s σ H Q I h) fun c s1 e=>?_);cases c with
 | true=>exact isTrue_and_nil e
 | false=>exact e
theorem AM(ha:PT X a tA):PW X (.BoolOp .Or [a] pos) tA:=by
 intro wh pins s σ H Q I h;refine isTrue_or (thn (ha pins s σ H Q I h) fun c s1 e=>?_);cases c with
 | false=>exact isTrue_or_nil e
 | true=>exact e
theorem Bf(ha:PT X a tA)(hb:PW X (.BoolOp .And (b::rest) pos) tB'):PW X (.BoolOp .And (a::b::rest) pos) (F3 tA tB'):=by
 intro wh pins s σ H Q I h;refine isTrue_and (thn (ha pins s σ H _ I h) fun c s1 y_=>?_);obtain⟨H1,I1,q1⟩:=y_;cases c with
 | true=>exact hb wh pins s1 σ H1 Q I1 q1
 | false=>exact⟨H1,I1,q1⟩
theorem E2(ha:PT X a tA)(hb:PW X (.BoolOp .Or (b::rest) pos) tB'):PW X (.BoolOp .Or (a::b::rest) pos) (tOr tA tB'):=by
 intro wh pins s σ H Q I h;refine isTrue_or (thn (ha pins s σ H _ I h) fun c s1 y_=>?_);obtain⟨H1,I1,q1⟩:=y_;cases c with
 | true=>exact⟨H1,I1,q1⟩
 | false=>exact hb wh pins s1 σ H1 Q I1 q1
theorem zU(ha:PT X a tA):PT X (.UnaryOp .Not a pos) (Gz tA):=by
 intro pins s σ H Q I h;exact isTrue_not (ha pins s σ H (fun c H1=>Q (!c) H1) I h)
def Dj(ta tb:TE):TE:=fun σ H Q=>ta σ H fun x H1=>∃c,x=.bl c/\if c=true then tb σ H1 Q else Q (.bl false) H1
def CM(ta:TE):TE:=fun σ H Q=>ta σ H fun x H1=>∃c,x=.bl c/\Q (.bl (!c)) H1
theorem Bx(h:PE X a t):PE X (.BoolOp op [a] pos) t:=fun pins s σ H Q I hw=>BoolOp_one (h pins s σ H Q I hw)
theorem Aw(ha:PE X a ta)(hb:PE X (.BoolOp .And (b::rest) pos) tb):PE X (.BoolOp .And (a::b::rest) pos) (Dj ta tb):=by
 intro pins s σ H Q I h;refine BoolOp_and (thn (ha pins s σ H _ I h) fun v s1 y_=>?_);obtain⟨x,H1,I1,r1,q1⟩:=y_;obtain⟨c,rfl,q1⟩:=q1;cases r1;refine KS ?_;cases c with
 | true=>exact hb pins s1 σ H1 Q I1 q1
 | false=>exact⟨.bl false,H1,I1,rfl,q1⟩
theorem BO(ha:PE X a ta):PE X (.UnaryOp .Not a pos) (CM ta):=by
 intro pins s σ H Q I h;refine UnaryOp_ (thn (ha pins s σ H _ I h) fun v s1 y_=>?_);obtain⟨x,H1,I1,r1,q1⟩:=y_;obtain⟨c,rfl,q1⟩:=q1;cases r1;exact not_of (KS ⟨.bl (!c),H1,I1,rfl,q1⟩)
def tIf(t:TT)(ta tb:TE):TE:=fun σ H Q=>t σ H fun c H1=>if c=true then ta σ H1 Q else tb σ H1 Q
theorem vk(hc:PT X c tA)(ha:PE X a ta)(hb:PE X b tb):PE X (.IfExp c a b pos) (tIf tA ta tb):=by
 intro pins s σ H Q I h;refine wpAny_IfExp (thn (hc pins s σ H _ I h) fun d s1 y_=>?_);obtain⟨H1,I1,q1⟩:=y_;cases d with
 | true=>exact ha pins s1 σ H1 Q I1 q1
 | false=>exact hb pins s1 σ H1 Q I1 q1
end
end
section
def SqL(K:PySem.W.Frag)(H:Hp)(a:Addr)(xs:List V):Prop :=
 Rd H a (.lst xs) ∨
  ∃(o:Obj) (its:Array Value) (n:Nat),K.lookup a=some o/\o.cls=.type "list"/\o.dict=none/\o.data=.seq its n/\its.size≤sizeLine/\Vals xs its.toList
def SqT(K:PySem.W.Frag)(H:Hp)(a:Addr)(xs:List V):Prop :=
 Rd H a (.tup xs) ∨
  ∃(o:Obj) (its:Array Value) (n:Nat),K.lookup a=some o/\o.cls=.type "tuple"/\o.data=.seq its n/\its.size≤sizeLine/\Vals xs its.toList
def Ho:Value->Option V
 | .none=>some .non
 | .bool b=>some (.bl b)
 | .int i _=>some (.int i)
 | .str x _=>some (.str x)
 | .bytes b _=>some (.byt b)
 | .float b _=>some (.flt b)
 | .ref a=>some (.ref a)
 | .type n=>some (.ty n)
 | _=>none
theorem RelV.abs(r:RelV x u):Ho u=some x:=by
 cases x with
 | non=>cases r;rfl
 | bl _=>cases r;rfl
 | int _=>obtain⟨t,rfl⟩:=r;rfl
 | str _=>obtain⟨t,rfl⟩:=r;rfl
 | byt _=>obtain⟨t,rfl⟩:=r;rfl
 | flt _=>obtain⟨t,rfl⟩:=r;rfl
 | ref _=>cases r;rfl
 | ty _=>cases r;rfl
theorem RelV.inj{x y:V}{u:Value}(r:RelV x u)(q:RelV y u):x=y:=JT (r.abs.symm.trans q.abs)
theorem Vals.inj:∀{xs ys:List V} {us:List Value},Vals xs us->Vals ys us->xs=ys
 | _,_,_,.nil,.nil=>rfl
 | _,_,_,.cons r t,.cons r' t'=>by rw[r.inj r',Vals.inj t t']
section
variable {X:Cx}{pins:List (Addr×Obj)}{σ:St}{H:Hp}{s:Shared}{a:Addr}{xs ys:List V}
theorem SqL.of{K:PySem.W.Frag}(h:H a=some (.lst xs)):SqL K H a xs:=.inl (.inl h)
theorem SqT.of{K:PySem.W.Frag}(h:H a=some (.tup xs)):SqT K H a xs:=.inl (.inl h)
theorem Inv.list(I:Inv X pins σ H s)(h:SqL X.K H a xs):∃its:List Value,Vals xs its/\PlainL s.heap a its.toArray/\xs.length≤sizeLine:=by
 rcases h with h |⟨o,its,n,hk,hc,hd,hs,hz,r⟩
 ·obtain⟨z,its,n,r,e⟩:=h.ok I.hok;exact⟨its,r,⟨_,n,e,rfl,rfl,rfl⟩,z⟩
 ·refine⟨its.toList,r,⟨o,n,I.kIn a o hk,hc,hd,by simpa using hs⟩,?_⟩;have e:=r.length;simp only[KR]at e;symm
theorem Inv.tuple(I:Inv X pins σ H s)(h:SqT X.K H a xs):∃its:List Value,Vals xs its/\IsTup s.heap a its.toArray/\xs.length≤sizeLine:=by
 rcases h with h |⟨o,its,n,hk,hc,hs,hz,r⟩
 ·obtain⟨z,its,r,p⟩:=h.ok I.hok;exact⟨its,r,p,z⟩
 ·refine⟨its.toList,r,⟨o,I.kIn a o hk,hc,n,by simpa using hs⟩,?_⟩;have e:=r.length;simp only[KR]at e;symm
theorem Inv.list_inj(I:Inv X pins σ H s)(h:SqL X.K H a xs)(h':SqL X.K H a ys):xs=ys:=by
 obtain⟨its,r,⟨o,n,e,_,_,d⟩,_⟩:=I.list h;obtain⟨its',r',⟨o',n',e',_,_,d'⟩,_⟩:=I.list h';rw[e]at e';cases e';rw[d]at d';injection d' with d1 _;have:its=its':=by simpa using congrArg Array.toList d1
 subst this;exact r.inj r'
theorem Inv.tuple_inj(I:Inv X pins σ H s)(h:SqT X.K H a xs)(h':SqT X.K H a ys):xs=ys:=by
 obtain⟨its,r,⟨o,e,_,n,d⟩,_⟩:=I.tuple h;obtain⟨its',r',⟨o',e',_,n',d'⟩,_⟩:=I.tuple h';rw[e]at e';cases e';rw[d]at d';injection d' with d1 _;have:its=its':=by simpa using congrArg Array.toList d1
 subst this;exact r.inj r'
end
abbrev Cx.wish(X:Cx)(E:Value->Shared->Prop):Cx:={ X with xe:=E }
abbrev Cx.nox(X:Cx):Cx:=X.wish fun _ _=>False
theorem Cx.Ok.wish{X:Cx}(ok:X.Ok)(E:Value->Shared->Prop):(X.wish E).Ok :=
 ⟨ok.mod,ok.kind,ok.glob,ok.blt,ok.above,ok.inj,ok.has,ok.cab,ok.hd,ok.frames,ok.stk,ok.exf,ok.bs,ok.bsz,ok.noex,ok.exfs,ok.funs,ok.frf⟩
theorem Cx.Ok.unwish{X:Cx}(ok:(X.wish E).Ok):X.Ok :=
 ⟨ok.mod,ok.kind,ok.glob,ok.blt,ok.above,ok.inj,ok.has,ok.cab,ok.hd,ok.frames,ok.stk,ok.exf,ok.bs,ok.bsz,ok.noex,ok.exfs,ok.funs,ok.frf⟩
section
variable {X:Cx}{pins:List (Addr×Obj)}{σ:St}{H:Hp}{s:Shared}{E:Value->Shared->Prop}
theorem Inv.wish(I:Inv X pins σ H s)(E:Value->Shared->Prop):Inv (X.wish E) pins σ H s:=⟨I.ok.wish E,I.os,I.bare,I.base,I.loc,I.cell,I.free,I.freeC,I.pin,I.hok,I.len⟩
theorem Inv.unwish(I:Inv (X.wish E) pins σ H s):Inv X pins σ H s:=⟨I.ok.unwish,I.os,I.bare,I.base,I.loc,I.cell,I.free,I.freeC,I.pin,I.hok,I.len⟩
theorem SP.unwish(h:SP (X.wish E) pins D f s'):SP X pins D f s':=by
 cases f with
 | next=>obtain⟨σ',H',I,q⟩:=h;exact⟨σ',H',I.unwish,q⟩
 | brk=>obtain⟨σ',H',I,q⟩:=h;exact⟨σ',H',I.unwish,q⟩
 | cont=>obtain⟨σ',H',I,q⟩:=h;exact⟨σ',H',I.unwish,q⟩
 | ret u=>obtain⟨v,σ',H',I,r,q⟩:=h;exact⟨v,σ',H',I.unwish,r,q⟩
theorem PSs.nox{st:List Stmt}(h:PSs X.nox st t):PSs X st t:=fun pins s σ H D I hw =>
 Li (h pins s σ H D (I.wish _) hw) (fun _ _ q=>q.unwish) fun _ _ z=>False.elim z
end
section
variable {X:Cx}{st:Stmt}{rest:List Stmt}{t u:TS}{e:Expr}{te:TE}{pos:Pos}
def DC:TS:=fun D σ H=>D.nx σ H
def GB(t u:TS):TS:=fun D σ H=>t { D with nx:=u D } σ H
theorem wN:PSs X [] DC:=fun _ _ σ H _ I h=>wpAny_execs_nil ⟨σ,H,I,h⟩
theorem vn(h1:PS X st t)(h2:PSs X rest u):PSs X (st::rest) (GB t u):=by
 intro pins s σ H D I h;refine wpAny_execs_cons (thn (h1 pins s σ H { D with nx:=u D } I h) fun f s1 q=>?_);cases f with
 | next =>
  obtain⟨σ',H',I',q⟩:=q;exact h2 pins s1 σ' H' D I' q
 | ret v=>exact q
 | brk=>exact q
 | cont=>exact q
theorem pf(h1:PS X st t):PSs X [st] t:=by
 intro pins s σ H D I h;refine wpAny_execs_cons (thn (h1 pins s σ H D I h) fun f s1 q=>?_);cases f with
 | next=>exact wpAny_execs_nil q
 | ret v=>exact q
 | brk=>exact q
 | cont=>exact q
theorem Inv.quiet{σ:St}(I:Inv X pins σ H s):interactive X.env=false:=by simp[interactive,I.ok.kind]
def D8(te:TE):TS:=fun D σ H=>te σ H fun _ H1=>D.nx σ H1
theorem w8(he:PE X e te)(hs:swapsWith e none pos.line X.env=pure false:=by rfl):PS X (.Expr e pos) (D8 te):=by
 intro pins s σ H D I h;exact wpAny_Expr_any (thn (he pins s σ H _ I h) fun v s1 y_=>by obtain⟨x,H1,I1,r1,q1⟩:=y_;exact ⟨σ,H1,I1,q1⟩) I.quiet hs
def GH(te:TE):TS:=fun D σ H=>te σ H D.rt
theorem Aq(he:PE X e te):PS X (.Return (some e) pos) (GH te):=by
 intro pins s σ H D I h;exact wpAny_Return_some (thn (he pins s σ H _ I h) fun v s1 y_=>by obtain⟨x,H1,I1,r1,q1⟩:=y_;exact ⟨x,σ,H1,I1,r1,q1⟩)
def G9(c:TT)(t u:TS):TS:=fun D σ H=>c σ H fun b H1=>if b=true then t D σ H1 else u D σ H1
theorem Dp(hc:PT X c tc)(ha:PSs X a t)(hb:PSs X b u):PS X (.If c a b pos) (G9 tc t u):=by
 intro pins s σ H D I h;refine wpAny_If (thn (hc pins s σ H _ I h) fun d s1 y_=>?_);obtain⟨H1,I1,q1⟩:=y_;cases d with
 | true=>exact ha pins s1 σ H1 D I1 q1
 | false=>exact hb pins s1 σ H1 D I1 q1
end
abbrev TG:=V->St->Hp->(St->Hp->Prop)->Prop
abbrev TGs:=List V->St->Hp->(St->Hp->Prop)->Prop
def PG(X:Cx)(target:Expr)(t:TG):Prop :=
 ∀(pins:List (Addr×Obj)) (s:Shared) (σ:St) (H:Hp) (v:V) (u:Value) (Q:St->Hp->Prop),Inv X pins σ H s->RelV v u->t v σ H Q ->
  wpAny (model X.prog X.w) X.A (assign target X.env u) (fun _ s'=>∃σ' H',Inv X pins σ' H' s'/\Q σ' H') X.xe s
def PGs(X:Cx)(ts:List Expr)(t:TGs):Prop :=
 ∀(pins:List (Addr×Obj)) (s:Shared) (σ:St) (H:Hp) (vs:List V) (us:List Value) (Q:St->Hp->Prop),Inv X pins σ H s->Vals vs us->t vs σ H Q ->
  wpAny (model X.prog X.w) X.A (assignInOrder ((assignEach ts X.env).map (·.2)) us) (fun _ s'=>∃σ' H',Inv X pins σ' H' s'/\Q σ' H') X.xe s
abbrev Ca:=V->V->V->Hp->(Hp->Prop)->Prop
def i7(X:Cx)(t:Ca):Prop :=
 ∀(pins:List (Addr×Obj)) (s:Shared) (σ:St) (H:Hp) (o i v:V) (ov iv u:Value) (Q:Hp->Prop),Inv X pins σ H s->RelV o ov->RelV i iv->RelV v u->t o i v H Q ->
  wpAny (model X.prog X.w) X.A (setItem ov iv u) (fun _ s'=>∃H',Inv X pins σ H' s'/\Q H') X.xe s
section
variable {X:Cx}{pos:Pos}
def pY(i:Nat):TG:=fun v σ H Q=>Q (σ.set i (some v)) H
theorem xk{i:Nat}{x:Str}(hN:X.N.Nodup)(hi:X.N[i]?=some x)(hx:Loc X.env.scope x)(hf:X.fn x=true∨X.env.scope.names.lookup x=some .local:=by first | exact .inl rfl | exact .inr rfl | assumption):PG X (.Name x pos) (pY i):=by
 intro pins s σ H v u Q I r h;exact wpAny_assign_Name (fK I hN hi hx r (fun s' I'=>⟨_,H,I',h⟩) hf)
def Hs:TGs:=fun vs σ H Q=>vs=[]/\Q σ H
def Dy(t:TG)(u:TGs):TGs:=fun vs σ H Q=>∃v r,vs=v::r/\t v σ H fun σ' H'=>u r σ' H' Q
theorem wg:PGs X [] Hs:=by
 intro pins s σ H vs us Q I r h;obtain⟨e,h⟩:=h;subst e;cases r;exact assignInOrder_nil ⟨σ,H,I,h⟩
theorem vZ{e:Expr}{es:List Expr}{t:TG}{u:TGs}(h1:PG X e t)(h2:PGs X es u)
  (hs:(assignEach (e::es) X.env).map (·.2)=assign e X.env::(assignEach es X.env).map (·.2):=by rfl):PGs X (e::es) (Dy t u):=by
 intro pins s σ H vs us Q I r h;obtain⟨v,vr,e1,h⟩:=h;subst e1;cases r with
 | cons r rr =>
  rw[hs];refine assignInOrder_cons (thn (h1 pins s σ H _ _ _ I r h) fun _ s1 y_=>?_);obtain⟨σ1,H1,I1,q1⟩:=y_;exact h2 pins s1 σ1 H1 _ _ Q I1 rr q1
def F1(K:PySem.W.Frag)(n:Nat)(t:TGs):TG:=fun v σ H Q=>∃a xs,v=.ref a/\SqT K H a xs/\xs.length=n/\t xs σ H Q
theorem BH{es:List Expr}{k:Nat}{t:TGs}{n:Nat}(hc:X.calm=true)(h:PGs X es t)
  (hn:(assignEach es X.env).length=n:=by rfl) (hst:(assignEach es X.env).findIdx? (·.1)=none:=by rfl):PG X (.Tuple es k pos) (F1 X.K n t):=by
 intro pins s σ H v u Q I r hw;obtain⟨a,xs,e1,hq,hl,hw⟩:=hw;subst e1;cases r;obtain⟨its,rv,ht,hz⟩:=I.tuple hq;refine assign_Tuple_tuple (I.ok.hd hc) ht (by simp[hn,← hl,rv.length]) hst fun h' hx=>?_;have I1:Inv X pins σ H { s with heap:=h' }:=I.kept (t':=s.toks) fun b o e=>hx b o (JG (Jv e)) e;exact h pins _ σ H xs _ Q I1 (by simpa using rv) hw
def Iu(to ti:TE)(t:Ca):TG:=fun v σ H Q=>to σ H fun o H1=>ti σ H1 fun i H2=>t o i v H2 fun H3=>Q σ H3
theorem z0{o i:Expr}{to ti:TE}{t:Ca}(ho:PE X o to)(hi:PE X i ti)(hs:i7 X t)
  (ha:∀v,assign (.Subscript o i pos) X.env v=(do
   let ov←holding [v] (eval o X.env)
   let iv←holding [v,ov] (eval i X.env)
   standAt pos
   holding [v,ov,iv] (setItem ov iv v)
   release [v,ov,iv] []):=by intro _;rfl):PG X (.Subscript o i pos) (Iu to ti t):=by
 intro pins s σ H v u Q I r h;rw[ha];refine Jm (Kb (thn (ho pins s σ H _ I h) fun ov s1 y_=>?_));obtain⟨x,H1,I1,r1,q1⟩:=y_;refine Jm (Kb (thn (hi pins s1 σ H1 _ I1 q1) fun iv s2 y_=>?_));obtain⟨y,H2,I2,r2,q2⟩:=y_;refine Jm (wpAny_standAt (Jm (Kb (thn (hs pins s2 σ H2 x y v ov iv u _ I2 r1 r2 r q2) fun _ s3 y_=>?_))));obtain⟨H3,I3,q3⟩:=y_;exact wpAny_release ⟨σ,H3,I3,q3⟩
def yg(te:TE)(g:TG):TS:=fun D σ H=>te σ H fun x H1=>g x σ H1 D.nx
theorem AD{tg e:Expr}{te:TE}{g:TG}(he:PE X e te)(hg:PG X tg g)(hs:swapsWithSole [tg] e pos.line X.env=pure false:=by rfl)(hw:swappedStores [tg] e X.env=pure none:=by rfl)
  (h1:(assignEach [tg] X.env).map (·.2)=[assign tg X.env]:=by rfl):PS X (.Assign [tg] e pos) (yg te g):=by
 intro pins s σ H D I h;refine wpAny_Assign_stores (thn (he pins s σ H _ I h) fun v s1 ⟨x,H1,I1,r1,q1⟩=>?_) hs hw;rw[h1];exact thn (hg pins s1 σ H1 x v _ I1 r1 q1) fun _ s2 q=>q
theorem ud{i:Nat}{x:Str}{e:Expr}{te:TE}{pos':Pos}(hN:X.N.Nodup)(hi:X.N[i]?=some x)(hx:Loc X.env.scope x)(he:PE X e te)(hs:swapsWith e (some (.Name x pos')) pos.line X.env=pure false:=by rfl)(hf:X.fn x=true∨X.env.scope.names.lookup x=some .local:=by first | exact .inl rfl | exact .inr rfl | assumption) :
  PS X (.Assign [.Name x pos'] e pos) (yg te (pY i)):=by
 intro pins s σ H D I h;refine wpAny_Assign_Name (thn (he pins s σ H _ I h) fun v s1 ⟨y,H1,I1,r1,q1⟩=>?_) hs;exact fK I1 hN hi hx r1 (fun s2 I2=>⟨_,H1,I2,q1⟩) hf
end
section
variable {X:Cx}{pos:Pos}
def ur(c:TT)(tb:TS):TS:=fun D σ H=>∃W:Nat->St->Hp->Prop,(∃m,W m σ H)/\∀m σ H,W m σ H ->
 c σ H fun b H1=>if b=true then ∃N:St->Hp->Prop,(∀σ' H',N σ' H'->∃m',m'<m/\W m' σ' H')/\tb { D with nx:=N,ct:=N,bk:=D.nx } σ H1 else D.nx σ H1
theorem va(hp:PassesOwn (model X.prog X.w) X.A X.env X.xe)(hc:PT X c tc)(hb:PSs X body tb):PS X (.While c body [] pos) (ur tc tb):=by
 intro pins s σ H D I h;obtain⟨W,⟨m0,w0⟩,turn⟩:=h;refine wpAny_While (codeAny_whileLoop (fun n s'=>∃σ' H',Inv X pins σ' H' s'/\W n σ' H') ?_ m0 ⟨σ,H,I,w0⟩);rintro n s1 ⟨σ1,H1,I1,w1⟩;refine Lu hp (thn (hc pins s1 σ1 H1 _ I1 (turn n σ1 H1 w1)) fun b s2 y_=>?_);obtain⟨H2,I2,q2⟩:=y_;cases b with
 | true =>
  obtain⟨N,hN,q2⟩:=q2;rw[JL rfl];refine Lu hp (thn (hb pins s2 σ1 H2 _ I2 q2) fun f s3 q3=>?_);cases f with
  | next =>
   obtain⟨σ3,H3,I3,n3⟩:=q3;obtain⟨m',hm,w3⟩:=hN σ3 H3 n3;exact⟨m',hm,σ3,H3,I3,w3⟩
  | cont =>
   obtain⟨σ3,H3,I3,n3⟩:=q3;obtain⟨m',hm,w3⟩:=hN σ3 H3 n3;exact⟨m',hm,σ3,H3,I3,w3⟩
  | brk=>exact q3
  | ret v=>exact q3
 | false =>
  rw[JK Bool.false_ne_true];exact wpAny_execs_nil ⟨σ1,H2,I2,q2⟩
end
structure It where
 go:Nat->Hp->Prop
 yld:Nat->Hp->V->Hp->Prop
 stop:Nat->Hp->Prop
def fq(X:Cx)(pins:List (Addr×Obj))(H:Hp)(b:Addr):Prop :=
 H b=none/\b≠X.env.locals/\b∉X.fs/\(b∈X.ex∨X.s₀.heap.objs.size≤b)/\(∀x c,X.env.cells.lookup x=some c->c≠b)/\∀p∈X.pn++pins,p.1≠b
theorem Inv.fpOk{σ:St}{b:Addr}(I:Inv X pins σ H s)(hb:s.heap.objs.size≤b)(hn:H' b=none):fq X pins H' b:=by
 refine⟨hn,LD (JP I.lt hb),I.nofs hb,.inr (JY I.sz hb),fun x c e z=>?_,fun p hp z=>?_⟩
 ·obtain⟨v,q⟩:=I.cell x c e;exact absurd (JP q.lt (by rw[z];exact hb)) (Lm _)
 ·exact absurd (JP (Jv (I.pin p hp).1) (by rw[z];exact hb)) (Lm _)
structure Turn (P:Program) (w:World) (K:PySem.W.Frag) (tg:Expr) (J:It) (fp:List Addr) (it:Addr) (tn:Nat→Heap→Prop):Prop where
 mem:it∈fp
 obj:∀i h,tn i h->∀b∈fp,∃o,h.get? b=some o/\∀v,o.data≠.cell v
 keep:∀i h h',tn i h->(∀b∈fp,∀o,h.get? b=some o->h'.get? b=some o)->tn i h'
 item:∀(X:Cx),X.prog=P->X.w=w->X.K=K->X.calm=true->∀(i:Nat) (pins:List (Addr×Obj)) (s:Shared) (σ:St) (H:Hp) (E:Value->Shared->Prop),Inv X pins σ H s->(∀b∈fp,fq X pins H b)->tn i s.heap->J.go i H ->
  wpAny (model P w) X.A (pyNext (.ref it)) (fun r s1=>∃u,r=some u /\
   wpAny (model P w) X.A (letOwnedTupleGo tg (.ref it) u) (fun _ s2=>∃x H',Inv X pins σ H' s2/\RelV x u/\J.yld i H x H'/\tn (i+1) s2.heap/\∀b∈fp,H' b=none) E s1) E s
 done:∀(X:Cx),X.prog=P->X.w=w->X.K=K->X.calm=true->∀(i:Nat) (pins:List (Addr×Obj)) (s:Shared) (σ:St) (H:Hp) (E:Value->Shared->Prop),Inv X pins σ H s->(∀b∈fp,fq X pins H b)->tn i s.heap->J.stop i H ->
  wpAny (model P w) X.A (pyNext (.ref it)) (fun r s1=>r=none/\Inv X pins σ H s1) E s
 self:∀(A:Around) (i:Nat) (s:Shared) (Q:Value->Shared->Prop) (E:Value->Shared->Prop),tn i s.heap->Q (.ref it) s->wpAny (model P w) A (pyIter (.ref it)) Q E s
abbrev TI:=St->Hp->(It->Hp->Prop)->Prop
def PIE(X:Cx)(pins:List (Addr×Obj))(σ:St)(tg:Expr)(R:It->Hp->Prop)(itv:Value)(s2:Shared):Prop :=
 ∃(it:Addr) (fp:List Addr) (tn:Nat->Heap->Prop) (J:It) (H':Hp),itv=.ref it/\Inv X pins σ H' s2/\Turn X.prog X.w X.K tg J fp it tn/\tn 0 s2.heap/\(∀b∈fp,fq X pins H' b)/\R J H'
def PI(X:Cx)(tg iter:Expr)(wi:TI):Prop :=
 ∀(pins:List (Addr×Obj)) (s:Shared) (σ:St) (H:Hp) (R:It->Hp->Prop),Inv X pins σ H s->wi σ H R ->
  wpAny (model X.prog X.w) X.A (eval iter X.env) (fun v s1=>wpAny (model X.prog X.w) X.A (pyIter v) (PIE X pins σ tg R) X.xe s1) X.xe s
theorem lT(ho:s.heap.get? it=some o)(hc:o.cls=.type n)(hd:o.data=.fields vs)
  (hn:["enumerate","zip","dict_itemiterator","dict_reverseitemiterator","odict_iterator","itertools.zip_longest","itertools.pairwise"].contains n=false) (hQ:Q () s):wpAny M A (letOwnedTupleGo tg (.ref it) u) Q E s:=by
 unfold letOwnedTupleGo;cases tg<;>first
  | exact Jq hQ
  |(cases u<;>first
    | exact Jq hQ
    | (refine Jm (wpAny_load ho ?_)
       rw [hc,hd];show wpAny M A (if (["enumerate","zip","dict_itemiterator","dict_reverseitemiterator","odict_iterator","itertools.zip_longest","itertools.pairwise"].contains n && vs[0]? == some (rawInt _))=true then _ else _) Q E s;rw [JK (by intro h; rw [hn,Bool.false_and] at h; cases h)];exact Jq hQ))
def Itl(K:PySem.W.Frag)(a:Addr):It :=
 ⟨fun i H=>∃xs x,SqL K H a xs/\xs[i]?=some x,fun i H x H'=>H'=H/\∀xs,SqL K H a xs->xs[i]?=some x,fun i H=>∃xs,SqL K H a xs/\xs.length≤i⟩
def Itt(K:PySem.W.Frag)(a:Addr):It :=
 ⟨fun i H=>∃xs x,SqT K H a xs/\xs[i]?=some x,fun i H x H'=>H'=H/\∀xs,SqT K H a xs->xs[i]?=some x,fun i H=>∃xs,SqT K H a xs/\xs.length≤i⟩
def Itr(lo:Int)(n:Nat):It:=⟨fun i _=>i<n,fun i H x H'=>H'=H/\x=.int (lo+i),fun i _=>n≤i⟩
theorem rg{K:PySem.W.Frag}(a it:Addr):Turn P w K tg (Itl K a) [it] it (fun i h=>h.IsListIter it a i) where
 mem:=by simp
 obj:=fun i h st b hb=>by
  have e:b=it:=by simpa using hb
  subst e;obtain⟨o,e,c,d⟩:=st;exact⟨o,e,fun v z=>by rw[d]at z;cases z⟩
 keep:=fun i h h' st k=>st.at fun o e=>k it (by simp) o e
 item:=by
  intro X hP hw hK hc i pins s σ H E I hf st hg;subst hP hw hK;obtain⟨xs,x,hq,hx⟩:=hg;obtain⟨its,rv,p,hz⟩:=I.list hq;obtain⟨u,hu,ru⟩:=rv.get hx;obtain⟨f0,f1,f2,f3,f4,f5⟩:=hf it (by simp);refine wpAny_pyNext_list_item st p.isList (x:=u) (by simpa using hu) fun h' st' sb=>?_;have I1:Inv X pins σ H { s with heap:=h' }:=I.turned (t':=s.toks) (fun b o hb e=>(sb.2 b hb).trans e) f0 f1 f3 f4 f5;obtain⟨o,e,c,d⟩:=id st';exact⟨u,rfl,lT (s:={ s with heap:=h' }) e c d (by decide) ⟨x,H,I1,ru,⟨rfl,fun ys hy=>by rw[I.list_inj hy hq];exact hx⟩,st',fun b hb=>(hf b hb).1⟩⟩
 done:=by
  intro X hP hw hK hc i pins s σ H E I hf st hg;subst hP hw hK;obtain⟨xs,hq,hx⟩:=hg;obtain⟨its,rv,p,hz⟩:=I.list hq;obtain⟨f0,f1,f2,f3,f4,f5⟩:=hf it (by simp);have hl:=rv.length;exact wpAny_pyNext_list_end (I.ok.hd hc) st p.isList (by simp;symm) fun h' eb=>⟨rfl,I.turned (t':=s.toks) (fun b o hb e=>eb b o hb e) f0 f1 f3 f4 f5⟩
 self:=fun _ _ _ _ _ st h=>wpAny_pyIter_listiter st h
theorem nM{K:PySem.W.Frag}(a it:Addr):Turn P w K tg (Itt K a) [it] it (fun i h=>h.IsTupleIter it a i) where
 mem:=by simp
 obj:=fun i h st b hb=>by
  have e:b=it:=by simpa using hb
  subst e;obtain⟨o,e,c,d⟩:=st;exact⟨o,e,fun v z=>by rw[d]at z;cases z⟩
 keep:=fun i h h' st k=>st.at fun o e=>k it (by simp) o e
 item:=by
  intro X hP hw hK hc i pins s σ H E I hf st hg;subst hP hw hK;obtain⟨xs,x,hq,hx⟩:=hg;obtain⟨its,rv,p,hz⟩:=I.tuple hq;obtain⟨u,hu,ru⟩:=rv.get hx;obtain⟨f0,f1,f2,f3,f4,f5⟩:=hf it (by simp);refine wpAny_pyNext_tuple_item st (show s.heap.IsTuple a its.toArray from p) (x:=u) (by simpa using hu) fun h' st' sb=>?_;have I1:Inv X pins σ H { s with heap:=h' }:=I.turned (t':=s.toks) (fun b o hb e=>(sb.2 b hb).trans e) f0 f1 f3 f4 f5;obtain⟨o,e,c,d⟩:=id st';exact⟨u,rfl,lT (s:={ s with heap:=h' }) e c d (by decide) ⟨x,H,I1,ru,⟨rfl,fun ys hy=>by rw[I.tuple_inj hy hq];exact hx⟩,st',fun b hb=>(hf b hb).1⟩⟩
 done:=by
  intro X hP hw hK hc i pins s σ H E I hf st hg;subst hP hw hK;obtain⟨xs,hq,hx⟩:=hg;obtain⟨its,rv,p,hz⟩:=I.tuple hq;obtain⟨f0,f1,f2,f3,f4,f5⟩:=hf it (by simp);have hl:=rv.length;exact wpAny_pyNext_tuple_end (I.ok.hd hc) st (show s.heap.IsTuple a its.toArray from p) (by simp;symm) fun h' eb=>⟨rfl,I.turned (t':=s.toks) (fun b o hb e=>eb b o hb e) f0 f1 f3 f4 f5⟩
 self:=fun _ _ _ _ _ st h=>wpAny_pyIter_tupleiter st h
theorem oa{K:PySem.W.Frag}(it:Addr)(lo:Int)(n:Nat):Turn P w K tg (Itr lo n) [it] it (fun i h=>IsRangeIter h it (lo+(i:Nat)*1) ((n:Int) - (i:Nat)) 1) where
 mem:=by simp
 obj:=fun i h st b hb=>by
  have e:b=it:=by simpa using hb
  subst e;exact⟨_,st,fun v z=>by
   have z':Data.fields _=Data.cell v:=z;cases z'⟩
 keep:=fun i h h' st k=>k it (by simp) _ st
 item:=by
  intro X hP hw hK hc i pins s σ H E I hf st hg;subst hP hw hK;obtain⟨f0,f1,f2,f3,f4,f5⟩:=hf it (by simp);have W:=Walks.range (prog:=X.prog) (w:=X.w) (I.ok.hd hc) it lo 1 n;refine W.item i s _ _ hg st fun v h' tk hv st' kk=>?_;obtain⟨t,rfl⟩:=hv;have I1:Inv X pins σ H { s with heap:=h',toks:=tk }:=I.turned (fun b o hb e=>kk b o (by simpa using hb) e) f0 f1 f3 f4 f5;refine⟨_,rfl,lT (s:={ s with heap:=h',toks:=tk }) (n:="range_iterator") st' rfl rfl (by decide) ⟨.int (lo+i),H,I1,⟨t,?_⟩,⟨rfl,rfl⟩,st',fun b hb=>(hf b hb).1⟩⟩;rw[Int.mul_one]
 done:=by
  intro X hP hw hK hc i pins s σ H E I hf st hg;subst hP hw hK;obtain⟨f0,f1,f2,f3,f4,f5⟩:=hf it (by simp);exact wpAny_pyNext_range_end (I.ok.hd hc) st (by have:n≤i:=hg;symm) fun h' eb=>⟨rfl,I.turned (t':=s.toks) (fun b o hb e=>eb b o hb e) f0 f1 f3 f4 f5⟩
 self:=fun _ _ _ _ _ st h=>wpAny_pyIter_rangeiter st h
end
section
section
variable {X:Cx}{tg:Expr}
theorem mj{σ:St}{lo hi:Int}(I:Inv X pins σ H s)(h1:-(2 ^ 62)≤lo)(h2:lo<2 ^ 62)(h3:-(2 ^ 62)≤hi)(h4:hi<2 ^ 62)
  (q:R (Itr lo (hi - lo).toNat) H):wpAny (model X.prog X.w) X.A (pyIter (.ref s.heap.objs.size)) (PIE X pins σ tg R) E { s with heap:=s.heap.push { cls:=.type "range",data:=.fields #[.int lo t,.int hi u,.int 1 v] },toks:=tk }:=by
 refine wpAny_pyIter_range (IsRange.new ..) (small_one h1 h2 h3 h4) ?_;have I1:Inv X pins σ H { s with heap:=s.heap.push { cls:=.type "range",data:=.fields #[.int lo t,.int hi u,.int 1 v] },toks:=tk }:=I.kept fun b o e=>Js _ e;refine⟨(s.heap.push { cls:=.type "range",data:=.fields #[.int lo t,.int hi u,.int 1 v] }).objs.size,[(s.heap.push { cls:=.type "range",data:=.fields #[.int lo t,.int hi u,.int 1 v] }).objs.size],_,_,H,rfl,
  I1.kept (t':=tk) fun b o e=>Js _ e,oa _ lo (hi - lo).toNat,?_,fun b hb=>?_,q⟩
 ·have e1:lo+((0:Nat):Int)*1=lo:=by simp
  have e2:(((hi - lo).toNat:Nat):Int) - ((0:Nat):Int)=Builtin.Range.rangeSize lo hi 1:=by rw[rangeSize_one];split<;>symm
  show IsRangeIter _ _ (lo+((0:Nat):Int)*1) ((((hi - lo).toNat:Nat):Int) - ((0:Nat):Int)) 1;rw[e1,e2];exact JA _ rfl
 ·have e:b=(s.heap.push { cls:=.type "range",data:=.fields #[.int lo t,.int hi u,.int 1 v] }).objs.size:=by simpa using hb
  subst e;exact I1.fpOk (Jy _) (I1.hok.fresh (Jy _))
def D6(ta:TA):TI:=fun σ H R=>ta σ H fun vs H1=>∃j:Int,vs=[.int j]/\-(2 ^ 62)≤j/\j<2 ^ 62/\R (Itr 0 j.toNat) H1
def CA(ta:TA):TI:=fun σ H R=>ta σ H fun vs H1=>∃i j:Int,vs=[.int i,.int j]/\(-(2 ^ 62)≤i/\i<2 ^ 62/\-(2 ^ 62)≤j/\j<2 ^ 62)/\R (Itr i (j - i).toNat) H1
theorem rN{a:Expr}{ta:TA}{p pos:Pos}(hg:Gl X "range")(hm:X.mg "range"=none)(ha:PA X [a] ta)(hs:starEach [a] X.env=[(false,eval a X.env)]:=by rfl):PI X tg (.Call (.Name "range" p) [a] [] pos) (D6 ta):=by
 intro pins s σ H R I h;refine Call_ (dq I hg hm boot_range (Ka (thn (ha pos pins s σ H _ I h) fun us s1 ⟨vs,H1,I1,r1,q1⟩=>?_) hs rfl));obtain⟨j,e,q1,q2,q⟩:=q1;subst e;cases r1 with
 | cons r rr =>
  cases rr;obtain⟨t,rfl⟩:=r;exact call_range_1 (mj I1 (by symm) (by symm) q1 q2 (by simpa using q))
theorem qL{a b:Expr}{ta:TA}{p pos:Pos}(hg:Gl X "range")(hm:X.mg "range"=none)(ha:PA X [a,b] ta)(hs:starEach [a,b] X.env=[(false,eval a X.env),(false,eval b X.env)]:=by rfl)(hs2:starEach [b] X.env=[(false,eval b X.env)]:=by rfl) :
  PI X tg (.Call (.Name "range" p) [a,b] [] pos) (CA ta):=by
 intro pins s σ H R I h;refine Call_ (dq I hg hm boot_range (Ka (thn (ha pos pins s σ H _ I h) fun us s1 ⟨vs,H1,I1,r1,q1⟩=>?_) (by rw[hs,hs2]) (by rw[hs2];rfl)));obtain⟨i,j,e,⟨q1,q2,q3,q4⟩,q⟩:=q1;subst e;cases r1 with
 | cons r rr =>
  cases rr with
  | cons r' rr =>
   cases rr;obtain⟨t,rfl⟩:=r;obtain⟨t',rfl⟩:=r';exact call_range_2 (mj I1 q1 q2 q3 q4 q)
def HP(wi:TI)(g:TG)(tb:TS):TS:=fun D σ H=>wi σ H fun J H1=>∃W:Nat->Nat->St->Hp->Prop,(∃m,W 0 m σ H1)/\∀i m σ H,W i m σ H ->
 (J.stop i H/\D.nx σ H)∨(J.go i H/\∃N:St->Hp->Prop,(∀σ' H',N σ' H'->∃m',m'<m/\W (i+1) m' σ' H')/\∀x H',J.yld i H x H'->g x σ H' fun σ2 H2=>tb { D with nx:=N,ct:=N,bk:=D.nx } σ2 H2)
def iF(fp:List Addr)(h:Heap):List (Addr×Obj):=fp.filterMap fun b=>(h.get? b).map fun o=>(b,o)
theorem dQ(hb:b∈fp)(e:h.get? b=some o):(b,o)∈iF fp h:=List.mem_filterMap.mpr ⟨b,hb,by rw[e];rfl⟩
theorem qQ(hp:p∈iF fp h):p.1∈fp/\h.get? p.1=some p.2:=by
 obtain⟨b,hb,e⟩:=List.mem_filterMap.mp hp;cases q:h.get? b with
 | none=>rw[q]at e;cases e
 | some o =>
  rw[q]at e;have e':(b,o)=p:=JT e;subst e';exact⟨hb,q⟩
theorem Inv.pinned{σ:St}(I:Inv X pins σ H s)(hf:∀b∈fp,fq X pins H b)(ho:∀b∈fp,∃o,s.heap.get? b=some o/\∀v,o.data≠.cell v):Inv X (pins++iF fp s.heap) σ H s :=
 I.pins_of fun p hp=>(Ju.mp hp).elim (fun z=>I.pin p (JM _ z)) fun z=>by
  obtain⟨hb,e⟩:=qQ z;obtain⟨f0,f1,f2,_⟩:=hf p.1 hb;obtain⟨o,e',d⟩:=ho p.1 hb;rw[e]at e';cases e';exact⟨e,f0,f1,f2,d⟩
theorem Inv.unpinned{σ:St}(I:Inv X (pins++pl) σ H s):Inv X pins σ H s:=I.pins_of fun p hp=>I.pin p (JM _ (JN _ hp))
theorem Bl{iter:Expr}{body:List Stmt}{wi:TI}{g:TG}{tb:TS}{pos:Pos}(hp:PassesOwn (model X.prog X.w) X.A X.env X.xe)(hc:X.calm=true)(hi:PI X tg iter wi)(hg:PG X tg g)(hb:PSs X body tb)
  (hs:∀x,foldedSetIterable iter X.env x=pure x:=by intro _;rfl):PS X (.For tg iter body [] pos) (HP wi g tb):=by
 intro pins s σ H D I h;refine wpAny_For (thn (hi pins s σ H _ I h) fun v s1 h1=>thn h1 fun itv s2 h2=>?_) hs;obtain⟨it,fp,tn,J,H2,e,I2,T,st2,f2,W,⟨m0,w0⟩,turn⟩:=h2;subst e;have stat:∀{H':Hp},(∀b∈fp,H' b=none)->∀b∈fp,fq X pins H' b:=fun hn b hb=>⟨hn b hb,(f2 b hb).2⟩;refine codeAny_forLoop_any (fun n s'=>∃i σ' H',Inv X pins σ' H' s'/\tn i s'.heap/\(∀b∈fp,H' b=none)/\W i n σ' H') ?_ m0 ⟨0,σ,H2,I2,st2,fun b hb=>(f2 b hb).1,w0⟩;rintro n s3 ⟨i,σ3,H3,I3,st3,fr3,w3⟩;rcases turn i n σ3 H3 w3 with⟨stop,qn⟩ |⟨go,N,hN,step⟩
 ·refine Lu hp (thn (T.done X rfl rfl rfl hc i pins s3 σ3 H3 X.xe I3 (stat fr3) st3 stop) fun r s4 y_=>?_);obtain⟨hr,I4⟩:=y_;subst hr;exact wpAny_execs_nil ⟨σ3,H3,I4,qn⟩
 ·refine Lu hp (thn (T.item X rfl rfl rfl hc i pins s3 σ3 H3 X.xe I3 (stat fr3) st3 go) fun r s4 y_=>?_);obtain⟨u,hr,h4⟩:=y_;subst hr;refine Lu hp (thn h4 fun _ s5 y_=>?_);obtain⟨x,H5,I5,r5,y5,st5,fr5⟩:=y_;have I5':=I5.pinned (stat fr5) (T.obj _ _ st5);refine Lu hp (thn (hg _ s5 σ3 H5 x u _ I5' r5 (step x H5 y5)) fun _ s6 y_=>?_);obtain⟨σ6,H6,I6,q6⟩:=y_;refine Lu hp (thn (hb _ s6 σ6 H6 _ I6 q6) fun f s7 q7=>?_);have again:∀{σ7:St} {H7:Hp},Inv X (pins++iF fp s5.heap) σ7 H7 s7->N σ7 H7->∃m,m<n/\∃i σ' H',Inv X pins σ' H' s7/\tn i s7.heap/\(∀b∈fp,H' b=none)/\W i m σ' H':=fun {σ7 H7} I7 n7=>by
   obtain⟨m',hm,w7⟩:=hN σ7 H7 n7;refine⟨m',hm,i+1,σ7,H7,I7.unpinned,T.keep _ _ _ st5 fun b hb o e=>(I7.pin (b,o) (JM _ (JM _ (dQ hb e)))).1,fun b hb=>?_,w7⟩;obtain⟨o,e,d⟩:=T.obj _ _ st5 b hb;exact(I7.pin (b,o) (JM _ (JM _ (dQ hb e)))).2.1
  cases f with
  | next=>obtain⟨σ7,H7,I7,n7⟩:=q7;exact again I7 n7
  | cont=>obtain⟨σ7,H7,I7,n7⟩:=q7;exact again I7 n7
  | brk=>obtain⟨σ7,H7,I7,q7⟩:=q7;exact⟨σ7,H7,I7.unpinned,q7⟩
  | ret v=>obtain⟨x7,σ7,H7,I7,r7,q7⟩:=q7;exact⟨x7,σ7,H7,I7.unpinned,r7,q7⟩
end
theorem d5{c:TT}{tb:TS}{D:Ends}{σ:St}{H:Hp}(Pv:St->Hp->Prop)(μ:St->Hp->Nat)(h0:Pv σ H)
  (hs:∀σ H,Pv σ H->c σ H fun b H1=>if b=true then tb { D with nx:=fun σ' H'=>Pv σ' H'/\μ σ' H'<μ σ H,ct:=fun σ' H'=>Pv σ' H'/\μ σ' H'<μ σ H,bk:=D.nx } σ H1 else D.nx σ H1)
  (mono:∀σ H Q Q',(∀b H1,Q b H1->Q' b H1)->c σ H Q->c σ H Q'):ur c tb D σ H:=by
 refine⟨fun m σ H=>m=μ σ H/\Pv σ H,⟨_,rfl,h0⟩,?_⟩;rintro m σ H ⟨rfl,p⟩;refine mono σ H _ _ (fun b H1 q=>?_) (hs σ H p);cases b with
 | true=>exact⟨_,fun σ' H' y_=>by obtain⟨p',l⟩:=y_;exact ⟨_,l,rfl,p'⟩,q⟩
 | false=>exact q
end
section
abbrev R2:=V->V->Hp->VK->Prop
def OpR(X:Cx)(f:Value->Value->Sem Value)(r:R2):Prop :=
 ∀(pins:List (Addr×Obj)) (s:Shared) (σ:St) (H:Hp) (x y:V) (v u:Value) (Q:VK),Inv X pins σ H s->RelV x v->RelV y u->r x y H Q ->
  wpAny (model X.prog X.w) X.A (f v u) (EP X pins σ Q) X.xe s
def UnR(X:Cx)(f:Value->Sem Value)(r:V->Hp->VK->Prop):Prop :=
 ∀(pins:List (Addr×Obj)) (s:Shared) (σ:St) (H:Hp) (x:V) (v:Value) (Q:VK),Inv X pins σ H s->RelV x v->r x H Q ->
  wpAny (model X.prog X.w) X.A (f v) (EP X pins σ Q) X.xe s
def cf(X:Cx)(f:Value)(r:List V->Hp->VK->Prop):Prop :=
 ∀(pins:List (Addr×Obj)) (s:Shared) (σ:St) (H:Hp) (xs:List V) (us:List Value) (Q:VK),Inv X pins σ H s->Vals xs us->r xs H Q ->
  wpAny (model X.prog X.w) X.A (call f us) (EP X pins σ Q) X.xe s
def tOp(r:R2)(ta tb:TE):TE:=fun σ H Q=>ta σ H fun x H1=>tb σ H1 fun y H2=>r x y H2 Q
def tUn(r:V->Hp->VK->Prop)(ta:TE):TE:=fun σ H Q=>ta σ H fun x H1=>r x H1 Q
def rI(C:Int->Int->Prop)(g:Int->Int->V):R2:=fun x y H Q=>∃i j,x=.int i/\y=.int j/\C i j/\Q (g i j) H
def rI0(g:Int->Int->V):R2:=fun x y H Q=>∃i j,x=.int i/\y=.int j/\Q (g i j) H
def rU(g:Int->V):V->Hp->VK->Prop:=fun x H Q=>∃i,x=.int i/\Q (g i) H
section
variable {X:Cx}{a b c:Expr}{ta tb tc:TE}{pos:Pos}
theorem z9(ha:PE X a ta)(hb:PE X b tb){pins:List (Addr×Obj)}{s:Shared}{σ:St}{H:Hp}{R:V->V->Hp->Prop}(I:Inv X pins σ H s)
  (h:ta σ H fun x H1=>tb σ H1 fun y H2=>R x y H2) {Q:Value->Shared->Prop} {f:Value->Value->Sem Value}
  (hf:∀v u s2 x y H2,Inv X pins σ H2 s2->RelV x v->RelV y u->R x y H2->wpAny (model X.prog X.w) X.A (f v u) Q X.xe s2) :
  wpAny (model X.prog X.w) X.A (eval a X.env) (fun v s₁=>wpAny (model X.prog X.w) X.A (eval b X.env) (fun u s₂=>wpAny (model X.prog X.w) X.A (f v u) Q X.xe s₂) X.xe s₁) X.xe s:=by
 refine thn (ha pins s σ H _ I h) fun v s1 y_=>?_;obtain⟨x,H1,I1,r1,q1⟩:=y_;refine thn (hb pins s1 σ H1 _ I1 q1) fun u s2 y_=>?_;obtain⟨y,H2,I2,r2,q2⟩:=y_;exact hf v u s2 x y H2 I2 r1 r2 q2
theorem E5(ho:OpR X (binaryOp op) r)(ha:PE X a ta)(hb:PE X b tb):PE X (.BinOp a op b pos) (tOp r ta tb):=by
 intro pins s σ H Q I h;exact wpAny_BinOp (z9 ha hb I h fun v u s2 x y H2 I2 rx ry q=>ho pins s2 σ H2 x y v u Q I2 rx ry q)
theorem Fx(ho:UnR X (unaryOp op) r)(ha:PE X a ta):PE X (.UnaryOp op a pos) (tUn r ta):=by
 intro pins s σ H Q I h;exact UnaryOp_ (thn (ha pins s σ H _ I h) fun v s1 y_=>by obtain⟨x,H1,I1,r1,q1⟩:=y_;exact ho pins s1 σ H1 x v Q I1 r1 q1)
theorem opI{g:Int->Int->Int}
  (rule:∀(i j:Int) (t u:Tok) (s:Shared) (Q:Value->Shared->Prop) (E:Value->Shared->Prop),C i j->Q (.int (g i j) s.toks) { s with toks:=s.toks+1 }->wpAny (model X.prog X.w) X.A (f (.int i t) (.int j u)) Q E s) :
  OpR X f (rI C fun i j=>.int (g i j)):=by
 intro pins s σ H x y v u Q I rx ry h;obtain⟨i,j,rfl,rfl,hc,q⟩:=h;obtain⟨t,rfl⟩:=rx;obtain⟨t',rfl⟩:=ry;exact rule i j t t' s _ _ hc ⟨.int (g i j),H,I.tok _,⟨_,rfl⟩,q⟩
theorem AI{g:Int->Int->Int}
  (rule:∀(i j:Int) (t u:Tok) (s:Shared) (Q:Value->Shared->Prop) (E:Value->Shared->Prop),Q (.int (g i j) s.toks) { s with toks:=s.toks+1 }->wpAny (model X.prog X.w) X.A (f (.int i t) (.int j u)) Q E s) :
  OpR X f (rI0 fun i j=>.int (g i j)):=by
 intro pins s σ H x y v u Q I rx ry h;obtain⟨i,j,rfl,rfl,q⟩:=h;obtain⟨t,rfl⟩:=rx;obtain⟨t',rfl⟩:=ry;exact rule i j t t' s _ _ ⟨.int (g i j),H,I.tok _,⟨_,rfl⟩,q⟩
theorem xU{g:Int->Int->Bool}
  (rule:∀(i j:Int) (t u:Tok) (s:Shared) (Q:Value->Shared->Prop) (E:Value->Shared->Prop),Q (.bool (g i j)) s->wpAny (model X.prog X.w) X.A (f (.int i t) (.int j u)) Q E s) :
  OpR X f (rI0 fun i j=>.bl (g i j)):=by
 intro pins s σ H x y v u Q I rx ry h;obtain⟨i,j,rfl,rfl,q⟩:=h;obtain⟨t,rfl⟩:=rx;obtain⟨t',rfl⟩:=ry;exact rule i j t t' s _ _ ⟨.bl (g i j),H,I,rfl,q⟩
def D4(i j:Int):Prop:=0≤j/\j≤1000000/\i.natAbs<2 ^ 64
def AO(i j:Int):Prop:=(-(2 ^ 64)<i/\i<2 ^ 64)∨(-(2 ^ 64)<j/\j<2 ^ 64)
theorem AO.ok(h:AO i j):IntMulOk i j:=by
 rcases h with⟨h1,h2⟩ |⟨h1,h2⟩
 ·exact .of_left (intBits_le_64 h1 h2)
 ·exact .of_right (intBits_le_64 h1 h2)
theorem om(k:Nat):(0:Int)≤2 ^ k:=by
 rw[two_pow_cast];exact Int.natCast_nonneg _
theorem Ct:OpR X (binaryOp .Add) (rI0 fun i j=>.int (i+j)):=AI fun _ _ _ _ _ _ _ q=>add_int q
theorem Ak:OpR X (binaryOp .Sub) (rI0 fun i j=>.int (i - j)):=AI fun _ _ _ _ _ _ _ q=>sub_int q
theorem yG:OpR X (binaryOp .Mod) (rI (fun _ j=>j≠0) fun i j=>.int (i.fmod j)):=opI fun _ _ _ _ _ _ _ hc q=>mod_int' hc q
theorem B2:OpR X (binaryOp .Pow) (rI D4 fun i j=>.int (i ^ j.toNat)):=opI fun _ _ _ _ _ _ _ hc q=>pow_int_small hc.1 hc.2.1 hc.2.2 q
theorem Ax:OpR X (binaryOp .RShift) (rI (fun _ j=>0≤j) fun i j=>.int (i / 2 ^ j.toNat)):=opI fun i j _ _ _ _ _ hc q =>
 rshift_int hc (by rw[Int.fdiv_eq_ediv_of_nonneg i (om _)];exact q)
theorem BC:OpR X (binaryOp .BitAnd) (rI0 fun i j=>.int (Builtin.bitAnd i j)):=AI fun _ _ _ _ _ _ _ q=>and_int q
theorem unI{g:Int->Int}
  (rule:∀(i:Int) (t:Tok) (s:Shared) (Q:Value->Shared->Prop) (E:Value->Shared->Prop),Q (.int (g i) s.toks) { s with toks:=s.toks+1 }->wpAny (model X.prog X.w) X.A (f (.int i t)) Q E s) :
  UnR X f (rU fun i=>.int (g i)):=by
 intro pins s σ H x v Q I rx h;obtain⟨i,rfl,q⟩:=h;obtain⟨t,rfl⟩:=rx;exact rule i t s _ _ ⟨.int (g i),H,I.tok _,⟨_,rfl⟩,q⟩
theorem Ci:UnR X (unaryOp .USub) (rU fun i=>.int (-i)):=unI fun _ _ _ _ _ q=>neg_int q
end
section
variable {X:Cx}{a b c:Expr}{ta tb tc:TE}{pos:Pos}
theorem vJ{σ:St}(I:Inv X pins σ H s)(q:Q (.bl k) H)(e:k=k'):EP X pins σ Q (.bool k') s:=by
 subst e;exact⟨.bl k,H,I,rfl,q⟩
theorem fy:OpR X (compareOp .Lt) (rI0 fun i j=>.bl (decide (i<j))):=xU fun _ _ _ _ _ _ _ q=>lt_int q
theorem zo:OpR X (compareOp .LtE) (rI0 fun i j=>.bl (decide (i≤j))):=xU fun _ _ _ _ _ _ _ q=>le_int q
theorem dG:OpR X (compareOp .Gt) (rI0 fun i j=>.bl (decide (j<i))):=xU fun _ _ _ _ _ _ _ q=>gt_int q
theorem l9:OpR X (compareOp .GtE) (rI0 fun i j=>.bl (decide (j≤i))):=xU fun _ _ _ _ _ _ _ q=>ge_int q
theorem tE:OpR X (compareOp .Is) (fun x y H Q=>y=.non/\Q (.bl (decide (x=.non))) H):=by
 intro pins s σ H x y v u Q I rx ry h;obtain⟨rfl,q⟩:=h;cases ry;refine is_none_gen (vJ I q ?_);cases x<;>first
  |(cases rx;rfl)
  |(obtain⟨t,rfl⟩:=rx;rfl)
theorem xm:OpR X (compareOp .IsNot) (fun x y H Q=>y=.non/\Q (.bl (!decide (x=.non))) H):=by
 intro pins s σ H x y v u Q I rx ry h;obtain⟨rfl,q⟩:=h;cases ry;refine isnot_none_gen (vJ I q ?_);cases x<;>first
  |(cases rx;rfl)
  |(obtain⟨t,rfl⟩:=rx;rfl)
theorem da(b:Expr){op:CmpOp}(h:op≠.In:=by decide)(h2:op≠.NotIn:=by decide):behindInMarks op b=false:=by
 have e1:(op==CmpOp.In)=false:=by cases op<;>first | rfl | exact absurd rfl h
 have e2:(op==CmpOp.NotIn)=false:=by cases op<;>first | rfl | exact absurd rfl h2
 cases b<;>simp[behindInMarks,e1,e2]
theorem yd(ho:OpR X (compareOp op) r)(ha:PE X a ta)(hb:PE X b tb)(hm:behindInMarks op b=false):PE X (.Compare a [op] [b] pos) (tOp r ta tb):=by
 intro pins s σ H Q I h;exact wpAny_Compare1 (z9 ha hb I h fun v u s2 x y H2 I2 rx ry q=>ho pins s2 σ H2 x y v u Q I2 rx ry q) hm
def zg(t:TE):TT:=fun σ H Q=>t σ H fun x H'=>∃k,x=.bl k/\Q k H'
theorem wI(ho:OpR X (compareOp op) r)(ha:PE X a ta)(hb:PE X b tb)(hm:behindInMarks op b=false):PT X (.Compare a [op] [b] pos) (zg (tOp r ta tb)):=by
 intro pins s σ H Q I h;refine wpAny_isTrue_Compare1 (thn (ha pins s σ H _ I h) fun v s1 ⟨x,H1,I1,r1,q1⟩=>thn (hb pins s1 σ H1 _ I1 q1) fun u s2 ⟨y,H2,I2,r2,q2⟩ =>
  thn (ho pins s2 σ H2 x y v u _ I2 r1 r2 q2) fun c s3 ⟨z,H3,I3,r3,k,e,q3⟩=>?_) hm
 subst e;cases r3;exact KS ⟨H3,I3,q3⟩
theorem ki:(sizeLine:Nat)<2 ^ 63:=by rw[J9];decide
theorem vals1(r:Vals [x] us):∃u,us=[u]/\RelV x u:=by
 cases r with
 | cons r1 r2=>cases r2;exact⟨_,rfl,r1⟩
theorem vals2(r:Vals [x,y] us):∃u w',us=[u,w']/\RelV x u/\RelV y w':=by
 cases r with
 | cons r1 r2 =>
  cases r2 with
  | cons r3 r4=>cases r4;exact⟨_,_,rfl,r1,r3⟩
end
end
section
structure nC (h:Heap) (x dx C:Addr) (mA:Str→Option Value):Prop where
 obj:h.get? x=some (PySem.W.instObj C dx)
 ns:h.Ns1 dx mA
 ne:dx≠x
theorem qZ{h:Heap}(n:h.Ns1 dx mA):∃od,h.get? dx=some od/\∀name,PySem.W.lookIn name od=some (mA name):=by
 obtain⟨o,es,ep,ho,hd,hk,_,hm⟩:=n;refine⟨o,ho,fun name=>?_⟩;have e:=hm name;unfold nsFind findBy at e;rw[←Array.find?_toList]at e;unfold PySem.W.lookIn;rw[hd];dsimp only;split
 ·rename_i y q;rw[q]at e;exact congrArg some e
 ·rename_i q;rw[q]at e;have a:es.toList.any (·.refKey)=false:=by
   rw[List.any_eq_false];intro y hy;obtain⟨z,t,hkey⟩:=hk y (Array.mem_toList_iff.mp hy);simp[DictEntry.refKey,hkey]
  have a':¬es.toList.any (·.refKey)=true:=by rw[a];exact Bool.false_ne_true
  rw[JK a'];exact congrArg some e
theorem nC.look(I:nC h x dx C mA):∃od,PySem.W.InstAt h x (PySem.W.instObj C dx) C (some od)/\∀name,PySem.W.lookIn name od=some (mA name) :=
 let ⟨od,ho,hl⟩:=qZ I.ns
 ⟨od,⟨I.obj,rfl,rfl,ho⟩,hl⟩
section
variable {prog:Program}{w:World}{A:Around}{E:Value->Shared->Prop}{s:Shared}{K:PySem.W.Frag}{x dx C f:Addr}{mA:Str->Option Value}{name:Str}{v:Value}
theorem get_map(X:K.In s.heap)(I:nC s.heap x dx C mA)(hg:PySem.W.plainGet K C name=true)(hh:PySem.W.hasDictIn K C=true)
  (ha:PySem.W.findIn K (.ref C) name=some none) (hv:mA name=some v) (hv':PySem.W.handedIn v=true) (h:Q v { s with toks:=s.toks+1 }) :
  wpAny (model prog w) A (getAttr (.ref x) name expr) Q E s:=by
 obtain⟨od,J,hl⟩:=I.look;exact PySem.W.get_value X J (PySem.W.plainGet_of hg).1 (PySem.W.findObj_own hh ha rfl (by rw[hl,hv])) hv' h
theorem sI(X:K.In s.heap)(I:nC s.heap x dx C mA)(hg:PySem.W.plainGet K C name=true)
  (hf:PySem.W.findIn K (.ref C) name=some (some (.ref f))) (ht:PySem.W.isFn K (.ref f)=true) (hv:mA name=none) (h:Q (.ref f,[.ref x]) s) :
  wpAny (model prog w) A (getMethod (.ref x) name pl) Q E s:=by
 obtain⟨od,J,hl⟩:=I.look;exact PySem.W.method_fn X J (PySem.W.plainGet_of hg).1 (PySem.W.plainGet_of hg).2 hf (Lb.mp ht) (by show(PySem.W.lookIn name od).map (·.isSome)=some false;rw[hl,hv];rfl) h
theorem wX(X:K.In s.heap)(I:nC s.heap x dx C mA)
  (hs:PySem.W.findIn K (.ref C) "__setattr__"=some (some (.builtin "object.__setattr__"))) (hp:PySem.W.plainOver K C=true) (ht:PySem.W.takerIn K C name=some none) (hh:PySem.W.hasDictIn K C=true)
  (hw:PySem.Within mA ns) (hsz:ns.length≤sizeLine)
  (h:∀h',nC h' x dx C (fun y=>if y=name then some v else mA y)->Heap.SameBut dx s.heap h'->Q () { s with heap:=h',toks:=s.toks+2 }) :
  wpAny (model prog w) A (setAttr (.ref x) name v) Q E s:=by
 obtain⟨od,J,hl⟩:=I.look;refine PySem.W.set_plain X J hs (PySem.W.osa_open (s:={ s with toks:=s.toks+1 }) (r:=none) X J hp ht fun b=>?_);obtain⟨cd,hc,hd'⟩:=PySem.W.any_some hh;have hx:s.heap.get? x=some ⟨.ref C,some dx,.plain,#[]⟩:=I.obj;refine Jm (Jq (Jm (Jm (wpAny_loadPart hx (Jm (PySem.W.Looks.here (s:={ s with toks:=s.toks+1 }) (PySem.W.looks_clsIn X hc) ?_))))));rw[hd'];refine Jq (a:=some dx) (Jm (Jq (Jm ?_)));refine wpAny_nsSet1 (s:={ s with toks:=s.toks+1 }) I.ns fun h' hn2 hs2=>?_;obtain⟨oD,esD,epD,hoD,hdD,hcD⟩:=hn2.count (PySem.Within.cons name v hw);refine Jm (wpAny_lookBehind hoD (by rw[hdD];exact pastItsLine_dict (JY hcD (by rw[JR];symm))) ?_);exact Jq (h _ ⟨(hs2.2 _ (Ne.symm I.ne)).trans I.obj,hn2,I.ne⟩ hs2)
theorem uD(X:K.In s.heap)(hm:PySem.W.makesIn K C=true)
  (hi:PySem.W.findIn K (.ref C) "__init__"=some (some (.ref f))) (hf:PySem.W.typeIn K (.ref f)=some (.type "function"))
  (h:codeAny (model prog w) (A.under (.builtin "type.__call__" ⟨.ref C::vs,kw⟩)) (.call (.ref f) ⟨.ref (s.heap.objs.size+1)::vs,kw⟩) (PySem.W.InitBack (s.heap.objs.size+1) R)
   { s with heap:=(s.heap.push PySem.W.emptyDict).push (PySem.W.instObj C s.heap.objs.size) }) :
  codeAny (model prog w) A (.call (.ref C) ⟨vs,kw⟩) R s:=by
 obtain⟨hh,g,d,t,os⟩:=s;exact PySem.W.make_core (PySem.W.makes_of X hm) (PySem.W.looks_findIn X hi) (fun self=>PySem.W.bind_fn X self hf) (.inl rfl) h
end
def dH(f:Str)(v:V):List (Str×V)->List (Str×V)
 | []=>[(f,v)]
 |(g,x)::r=>if g=f then(g,v)::r else(g,x)::dH f v r
theorem gD(f g:Str)(v:V):∀fs:List (Str×V),(dH f v fs).lookup g=if g=f then some v else fs.lookup g
 | []=>by
  show List.lookup g [(f,v)]=_;by_cases h:g=f
  ·have hb:(g==f)=true:=Lb.mpr h;simp only[List.lookup,hb,JL h]
  ·have hb:(g==f)=false:=beq_eq_false_iff_ne.mpr h;simp only[List.lookup,hb,JK h]
 |(k,x)::r=>by
  have ih:=gD f g v r;rw[show dH f v ((k,x)::r)=(if k=f then(k,v)::r else(k,x)::dH f v r)from rfl];by_cases hk:k=f
  ·rw[JL hk];by_cases h:g=k
   ·have hb:(g==k)=true:=Lb.mpr h;simp only[List.lookup,hb,JL (h.trans hk)]
   ·have hb:(g==k)=false:=beq_eq_false_iff_ne.mpr h;simp only[List.lookup,hb,JK (fun e:g=f=>h (e.trans hk.symm))]
  ·rw[JK hk];by_cases h:g=k
   ·have hb:(g==k)=true:=Lb.mpr h;simp only[List.lookup,hb,JK (fun e:g=f=>hk (h.symm.trans e))]
   ·have hb:(g==k)=false:=beq_eq_false_iff_ne.mpr h;simp only[List.lookup,hb];exact ih
theorem f9(f:Str)(v:V):∀fs:List (Str×V),f∈(dH f v fs).map (·.1)/\∀g,g∈fs.map (·.1)->g∈(dH f v fs).map (·.1)
 | []=>⟨by simp[dH],fun g h=>by simp at h⟩
 |(k,x)::r=>by
  obtain⟨i1,i2⟩:=f9 f v r;rw[show dH f v ((k,x)::r)=(if k=f then(k,v)::r else(k,x)::dH f v r)from rfl];by_cases hk:k=f
  ·rw[JL hk];subst hk;exact⟨by simp,fun g h=>by simpa using h⟩
  ·rw[JK hk];refine⟨?_,fun g h=>?_⟩
   ·rw[JF];exact Jz _ i1
   ·rw[JF]at h ⊢;rcases JD.mp h with e | e
    ·exact JD.mpr (.inl e)
    ·exact Jz _ (i2 g e)
theorem gE(f:Str)(v:V):∀fs:List (Str×V),(dH f v fs).length≤fs.length+1
 | []=>by simp[dH]
 |(k,x)::r=>by
  have ih:=gE f v r;rw[show dH f v ((k,x)::r)=(if k=f then(k,v)::r else(k,x)::dH f v r)from rfl];by_cases hk:k=f
  ·rw[JL hk,JR,JR];symm
  ·rw[JK hk,JR,JR];symm
theorem i3.some_of(r:i3 (some v) o):∃u,o=some u/\RelV v u:=by
 cases o with
 | none=>exact(show False from r).elim
 | some u=>exact⟨u,rfl,r⟩
theorem i3.none_of(r:i3 none o):o=none:=by
 cases o with
 | none=>rfl
 | some u=>exact(show False from r).elim
theorem qz(r:RelV v u):PySem.W.handedIn u=true:=by
 cases v with
 | non=>cases (show u=Value.none from r);rfl
 | bl b=>cases (show u=Value.bool b from r);rfl
 | int i=>obtain⟨t,e⟩:=(show ∃t,u=Value.int i t from r);cases e;rfl
 | str x=>obtain⟨t,e⟩:=(show ∃t,u=Value.str x t from r);cases e;rfl
 | byt b=>obtain⟨t,e⟩:=(show ∃t,u=Value.bytes b t from r);cases e;rfl
 | flt b=>obtain⟨t,e⟩:=(show ∃t,u=Value.float b t from r);cases e;rfl
 | ref a=>cases (show u=Value.ref a from r);rfl
 | ty n=>cases (show u=Value.type n from r);rfl
section
variable {P:Program}{w:World}{H H':Hp}{h h':Heap}{a C dx:Addr}{fs fs':List (Str×V)}
theorem gY(hok:HOk P w H h)(e:H a=some (.ins C dx fs)):∃mA,nC h a dx C mA/\(∀f,i3 (fs.lookup f) (mA f))/\PySem.Within mA (fs.map (·.1))/\fs.length≤1000/\H dx=some (.own a):=by
 obtain⟨d,z,ne,ob,mA,n,r,q⟩:=(show bP P w H h a (.ins C dx fs)from hok a _ e);exact⟨mA,⟨ob,n,ne⟩,r,q,z,d⟩
end
structure Cls (K:PySem.W.Frag) (C:Addr):Prop where
 pg:PySem.W.plainGet K C Str.empty=true
 hd:PySem.W.hasDictIn K C=true
 po:PySem.W.plainOver K C=true
 sa:PySem.W.findIn K (.ref C) "__setattr__"=some (some (.builtin "object.__setattr__"))
theorem Cls.get{K:PySem.W.Frag}{C:Addr}(c:Cls K C)(f:Str):PySem.W.plainGet K C f=true:=c.pg
def c9(K:PySem.W.Frag)(C:Addr)(f:Str):Prop:=PySem.W.findIn K (.ref C) f=some none
theorem c9.taker{K:PySem.W.Frag}(n:c9 K C f):PySem.W.takerIn K C f=some none:=by
 unfold PySem.W.takerIn;rw[show PySem.W.findIn K (.ref C) f=some none from n];rfl
structure Meth (K:PySem.W.Frag) (C:Addr) (m:Str) (f:Addr):Prop where
 at_:PySem.W.findIn K (.ref C) m=some (some (.ref f))
 fn:PySem.W.isFn K (.ref f)=true
 kp:PySem.W.keepIn K (.ref f)=true
section
variable {X:Cx}{pins:List (Addr×Obj)}{σ:St}{H:Hp}{s:Shared}{a C dx:Addr}{fs:List (Str×V)}{f:Str}{v:V}{A:Around}{E:Value->Shared->Prop}
theorem nU(I:Inv X pins σ H s)(e:H a=some (.ins C dx fs))(c:Cls X.K C)(n:c9 X.K C f)(l:fs.lookup f=some v)
  (h:∀u s',Inv X pins σ H s'->RelV v u->Q u s'):wpAny (model X.prog X.w) A (getAttr (.ref a) f b) Q E s:=by
 obtain⟨mA,O,r,_,_,_⟩:=gY I.hok e;obtain⟨u,hu,ru⟩:=i3.some_of (v:=v) (o:=mA f) (by rw[←l];exact r f);exact get_map I.kIn O (c.get f) c.hd n hu (qz ru) (h u _ (I.tok _) ru)
theorem ib(I:Inv X pins σ H s)(e:H a=some (.ins C dx fs))(c:Cls X.K C)(k:Meth X.K C m g)(l:fs.lookup m=none)
  (h:Q (.ref g,[.ref a]) s):wpAny (model X.prog X.w) A (getMethod (.ref a) m pl) Q E s:=by
 obtain⟨mA,O,r,_,_,_⟩:=gY I.hok e;have hn:mA m=none:=i3.none_of (by rw[←l];exact r m);exact sI I.kIn O (c.get m) k.at_ k.fn hn h
theorem ou(I:Inv X pins σ H s)(e:H a=some (.ins C dx fs))(c:Cls X.K C)(n:c9 X.K C f)(hl:fs.length<1000)(ry:RelV y u)
  (h:∀s',Inv X pins σ (upd H a (.ins C dx (dH f y fs))) s'->Q () s'):wpAny (model X.prog X.w) A (setAttr (.ref a) f u) Q E s:=by
 obtain⟨mA,O,r,wi,_,ho⟩:=gY I.hok e;have hz:(fs.map (·.1)).length≤sizeLine:=by rw[Jl,J9];symm
 refine wX I.kIn O c.sa c.po n.taker c.hd wi hz fun h' O' sb=>h _ ?_;have hd:∃o,h'.get? dx=some o:=let ⟨o,_,_,e',_⟩:=O'.ns;⟨o,e'⟩
 refine I.write (x:=a) (e:=dx) (by rw[e];exact True.intro) (.inr ho) (fun b q hb z=>(sb.2 b hb).trans z) hd ?_;refine⟨by rw[aM O.ne];exact ho,?_,O.ne,O'.obj,_,O'.ns,fun g=>?_,fun g hg=>?_⟩
 ·have:=gE f y fs;symm
 ·show i3 ((dH f y fs).lookup g) (if g=f then some u else mA g);rw[gD];by_cases q:g=f
  ·rw[JL q,JL q];exact ry
  ·rw[JK q,JK q];exact r g
 ·by_cases q:g=f
  ·rw[q];exact(f9 f y fs).1
  ·refine(f9 f y fs).2 g (wi g fun z=>hg ?_);show(if g=f then some u else mA g)=none;rw[JK q];exact z
theorem Inv.made(I:Inv X pins σ H s):Inv X pins σ (upd (upd H s.heap.objs.size (.own (s.heap.objs.size+1))) (s.heap.objs.size+1) (.ins C s.heap.objs.size []))
  { s with heap:=(s.heap.push PySem.W.emptyDict).push (PySem.W.instObj C s.heap.objs.size) }:=by
 have e1:(s.heap.push PySem.W.emptyDict).get? s.heap.objs.size=some PySem.W.emptyDict:=JA s.heap rfl;have e2:((s.heap.push PySem.W.emptyDict).push (PySem.W.instObj C s.heap.objs.size)).get? (s.heap.objs.size+1)=some (PySem.W.instObj C s.heap.objs.size):=by
  have:=JA (s.heap.push PySem.W.emptyDict) (o:=PySem.W.instObj C s.heap.objs.size) rfl
  rwa [LC]at this
 have e3:(s.heap.push PySem.W.emptyDict).Ns s.heap.objs.size (fun _=>none):=⟨PySem.W.emptyDict,#[],_,e1,rfl,(fun e he=>absurd he (by simp)),fun _=>rfl⟩;have I1:=I.laid (a:=s.heap.objs.size) (o:=.own (s.heap.objs.size+1)) (h':=s.heap.push PySem.W.emptyDict) (t':=s.toks) (fun b u q=>Js _ q) (Jy _) ⟨_,e1⟩;refine I1.laid (a:=s.heap.objs.size+1) (o:=.ins C s.heap.objs.size []) (t':=s.toks) (fun b u q=>Js _ q) (Nat.le_of_eq (LC _ _)) ?_;have ne:s.heap.objs.size≠s.heap.objs.size+1:=JG (Nat.lt_succ_self _);refine⟨by rw[aM ne,bj],K1 _,ne,e2,fun _=>none,(Heap.Ns1.of_empty e3).at fun o q=>Js _ q,fun _=>True.intro,fun y hy=>absurd rfl hy⟩
theorem xj(hb:attributeBase e f env (eval e env)=eval e env)
  (h:wpAny (model prog w) A (eval e env) (fun o s₁=>wpAny (model prog w) A (getAttr o f true) Q E s₁) E s):wpAny (model prog w) A (eval (.Attribute e f pos) env) Q E s :=
 Attribute_any_ h (by rw[arm_eval_Attribute,hb])
end
def FD(K:PySem.W.Frag)(ta:TE)(f:Str):TE:=fun σ H Q=>ta σ H fun x H1=>∃a C dx fs v,x=.ref a/\H1 a=some (.ins C dx fs)/\Cls K C/\c9 K C f/\fs.lookup f=some v/\Q v H1
def HA(K:PySem.W.Frag)(ta tv:TE)(f:Str):TS:=fun D σ H=>tv σ H fun y H1=>ta σ H1 fun x H2=>∃a C dx fs,x=.ref a/\H2 a=some (.ins C dx fs)/\Cls K C/\c9 K C f/\fs.length<1000 /\
 D.nx σ (upd H2 a (.ins C dx (dH f y fs)))
section
variable {X:Cx}{o e value:Expr}{f:Str}{pos pos' tpos:Pos}{ta tv:TE}
theorem AU(he:PE X e ta)(hb:attributeBase e f X.env (eval e X.env)=eval e X.env):PE X (.Attribute e f pos) (FD X.K ta f):=by
 intro pins s σ H Q I h;refine xj hb (thn (he pins s σ H _ I h) fun u s1 y_=>?_);obtain⟨x,H1,I1,rx,a,C,dx,fs,v,ex,ea,c,n,l,q⟩:=y_;subst ex;obtain rfl:u=Value.ref a:=rx;exact nU I1 ea c n l fun u' s2 I2 ru=>⟨v,H1,I2,ru,q⟩
theorem zY(ha:PE X o ta)(hv:PE X value tv)(hs:swapsWith value (some (.Attribute o f pos')) pos.line X.env=pure false):PS X (.Assign [.Attribute o f pos'] value pos) (HA X.K ta tv f):=by
 intro pins s σ H D I h;refine plainObj_wpAny_Assign_Attribute (thn (hv pins s σ H _ I h) fun u s1 ⟨y,H1,I1,ry,q⟩=>thn (ha pins s1 σ H1 _ I1 q) fun ov s2 ⟨x,H2,I2,rx,a,C,dx,fs,ex,ea,c,n,l,q2⟩=>?_) hs;subst ex;obtain rfl:ov=Value.ref a:=rx;exact ou I2 ea c n l ry fun s3 I3=>⟨σ,_,I3,q2⟩
theorem y3{σ:St}(he:PE X e te)(I:Inv X pins σ H s)
  (h:te σ H fun x H1=>∃a C dx fs g,x=.ref a/\H1 a=some (.ins C dx fs)/\Cls X.K C/\Meth X.K C m g/\fs.lookup m=none /\
   ∀s1,Inv X pins σ H1 s1->wpAny (model X.prog X.w) X.A (callWith pos (.ref g) [.ref a] (backTo pos (starEach args X.env)) (backToKw pos (keywordEach [] X.env))) Q X.xe s1)
  (ht:eval (.Call (.Attribute e m apos) args [] pos) X.env=(do
   let ov←eval e X.env
   standAt apos.atName
   let (f,first)←holding [ov] (getMethod ov m pl)
   callWith pos f first (backTo pos (starEach args X.env)) (backToKw pos (keywordEach [] X.env)))) :
  wpAny (model X.prog X.w) X.A (eval (.Call (.Attribute e m apos) args [] pos) X.env) Q X.xe s:=by
 refine PySem.W.methodCall_KW (pl:=pl) (thn (he pins s σ H _ I h) fun u s1 ⟨x,H1,I1,rx,a,C,dx,fs,g,ex,ea,c,k,l,q⟩=>?_) ht;subst ex;obtain rfl:u=Value.ref a:=rx;exact ib I1 ea c k l (q s1 I1)
end
section
variable {X:Cx}{pins:List (Addr×Obj)}{σ:St}{H:Hp}{s:Shared}{A:Around}{E:Value->Shared->Prop}{Q:Value->Shared->Prop}{c:Value}{b:Bool}
inductive gO (K:PySem.W.Frag) (H:Hp):V→Value→Prop where
 | non:gO K H .non (.type "NoneType")
 | bl (x:Bool):gO K H (.bl x) (.type "bool")
 | int (i:Int):gO K H (.int i) (.type "int")
 | str (x:Str):gO K H (.str x) (.type "str")
 | flt (x:UInt64):gO K H (.flt x) (.type "float")
 | lst {a:Addr} {xs:List V} (e:H a=some (.lst xs)):gO K H (.ref a) (.type "list")
 | frz {a:Addr} {o:Obj} {xs:List V} (e:H a=some (.frz o (.lst xs))):gO K H (.ref a) (.type "list")
 | tup {a:Addr} {xs:List V} (e:H a=some (.tup xs)):gO K H (.ref a) (.type "tuple")
 | dK {a:Addr} {kvs:List (Key×V)} (e:H a=some (.dK kvs)):gO K H (.ref a) (.type "dict")
 | dT {a:Addr} {kvs:List (List Key×V)} (e:H a=some (.dT kvs)):gO K H (.ref a) (.type "dict")
 | ins {a C dx:Addr} {fs:List (Str×V)} (e:H a=some (.ins C dx fs)) (cl:Cls K C) (ha:PySem.W.findIn K (.ref C) "__class__"=some (some (.builtin "object.__class__")))
   (hn:PySem.W.specialIn K (.builtin "object.__class__") "__get__"=some (some (.builtin "getset_descriptor.__get__"))) (htk:PySem.W.takesIn K (.builtin "object.__class__")=some true)
   (hm:PySem.W.mroIn K C (.type "object")=some true):gO K H (.ref a) (.ref C)
theorem eG(I:Inv X pins σ H s)(rx:RelV x u)(ty:gO X.K H x t)(e:PySem.W.kitOne X.K t c=some b)(h:∀tk,Q (.bool b) { s with toks:=tk }) :
  wpAny (model X.prog X.w) A (call (.builtin "isinstance") [u,c]) Q E s:=by
 cases ty with
 | non=>cases (show u=Value.none from rx);exact Ks PySem.W.kitx_none I.kIn True.intro e (fun z=>nomatch z) h
 | bl y=>cases (show u=Value.bool y from rx);exact Ks PySem.W.kitx_bool I.kIn True.intro e (fun z=>nomatch z) h
 | int i=>obtain⟨t,q⟩:=(show ∃t,u=Value.int i t from rx);cases q;exact Ks PySem.W.kitx_int I.kIn True.intro e (fun z=>nomatch z) h
 | str y=>obtain⟨t,q⟩:=(show ∃t,u=Value.str y t from rx);cases q;exact Ks PySem.W.kitx_str I.kIn True.intro e (fun z=>nomatch z) h
 | flt y=>obtain⟨t,q⟩:=(show ∃t,u=Value.float y t from rx);cases q;exact Ks PySem.W.kitx_float I.kIn True.intro e (fun z=>nomatch z) h
 | @lst a xs ea =>
  cases (show u=Value.ref a from rx);obtain⟨_,_,n,_,h1⟩:=(show bP X.prog X.w H s.heap a (.lst xs)from I.hok a _ ea);exact Ks PySem.W.kitx_list I.kIn ⟨_,h1,rfl⟩ e (fun z=>nomatch z) h
 | @frz a ob xs ea =>
  cases (show u=Value.ref a from rx);obtain⟨_,_,_,n,_,h1⟩:=(show bP X.prog X.w H s.heap a (.frz ob (.lst xs))from I.hok a _ ea);exact Ks PySem.W.kitx_list I.kIn ⟨_,h1,rfl⟩ e (fun z=>nomatch z) h
 | @tup a xs ea =>
  cases (show u=Value.ref a from rx);obtain⟨_,_,_,p⟩:=(show bP X.prog X.w H s.heap a (.tup xs)from I.hok a _ ea);obtain⟨o,h1,h2,_⟩:=p;exact Ks PySem.W.kitx_tuple I.kIn ⟨o,h1,h2⟩ e (fun z=>nomatch z) h
 | @dK a kvs ea =>
  cases (show u=Value.ref a from rx);obtain⟨_,_,vs,_,p⟩:=(show bP X.prog X.w H s.heap a (.dK kvs)from I.hok a _ ea);obtain⟨o,es,ep,h1,h2,_⟩:=p;exact Ks PySem.W.kitx_dict I.kIn ⟨o,h1,h2.1⟩ e (fun z=>nomatch z) h
 | @dT a kvs ea =>
  cases (show u=Value.ref a from rx);obtain⟨_,_,xs,_,o,es,ep,h1,h2,_⟩:=(show bP X.prog X.w H s.heap a (.dT kvs)from I.hok a _ ea);exact Ks PySem.W.kitx_dict I.kIn ⟨o,h1,h2.1⟩ e (fun z=>nomatch z) h
 | @ins a C dx fs ea cl ha hn htk hm =>
  cases (show u=Value.ref a from rx);obtain⟨mA,O,_⟩:=gY I.hok ea;obtain⟨od,J,_⟩:=O.look;exact Ks (PySem.W.kitx_own (cl.get _) cl.hd ha hn htk hm) I.kIn J e (fun z=>nomatch z) h
end
end
section
structure bS (k:Nat) (A:Around):Prop where
 hd:A.handled=none
 dp:A.depth+3*k+5<recursionLimit
 un:A.units+16*k+200<cLine
theorem bS.mono(r:bS k A)(h:j≤k):bS j A:=⟨r.hd,by have:=r.dp;symm,by have:=r.un;symm⟩
theorem bS.deeper(r:bS (k+1) A)(env:Env):bS k (A.deeper env) :=
 ⟨r.hd,by have:=r.dp;show A.depth+1+3*k+5<_;symm,by have:=r.un;show A.units+3+16*k+200<_;symm⟩
theorem ny{A:Around}:(A.under (.builtin "type.__call__" ⟨.ref C::us,kw⟩)).depth=A.depth+1:=by
 first | rfl | simp[Around.under,Code.weight,Code.isCreation,Code.isGuard,Code.isCaller,Code.frames,Code.isFrame,guardIds]
theorem nA{A:Around}:(A.under (.builtin "type.__call__" ⟨.ref C::us,kw⟩)).units=A.units+1:=by
 first | rfl | simp[Around.under,Code.cUnits,Code.frames,Code.isFrame]
theorem bS.make(r:bS (k+1) A)(C:Addr)(us:List Value)(kw:List (Str×Value)):bS k (A.under (.builtin "type.__call__" ⟨.ref C::us,kw⟩)) :=
 ⟨r.hd,by have:=r.dp;rw[ny];symm,by have:=r.un;rw[nA];symm⟩
theorem bS.depth(r:bS k A):A.depth<recursionLimit:=by have:=r.dp;symm
theorem bS.units(r:bS k A):A.units+64<cLine:=by have:=r.un;symm
def Fq:TA:=fun _ H Q=>Q [] H
def vT(ta:TE)(tr:TA):TA:=fun σ H Q=>ta σ H fun x H1=>tr σ H1 fun xs H2=>Q (x::xs) H2
section
variable {X:Cx}{e:Expr}{es:List Expr}{te:TE}{t:TA}{pos:Pos}
theorem bY:PA X [] Fq:=fun _ _ _ _ H Q I h=>Calls.spliced_nil ⟨[],H,I,.nil,h⟩
theorem bE(ha:PE X e te)(hr:PA X es t)(hs:starEach (e::es) X.env=(false,eval e X.env)::starEach es X.env:=by rfl):PA X (e::es) (vT te t):=by
 intro pos pins s σ H Q I h;rw[hs];show wpAny _ _ (spliced ((false,eval e X.env)::backTo pos (starEach es X.env))) _ _ s;refine Calls.spliced_cons (thn (ha pins s σ H _ I h) fun u s1 y_=>?_);obtain⟨x,H1,I1,r1,q1⟩:=y_;exact thn (hr pos pins s1 σ H1 _ I1 q1) fun us s2 ⟨xs,H2,I2,r2,q2⟩=>⟨x::xs,H2,I2,.cons r1 r2,q2⟩
def FQ(t:TA):TE:=fun σ H Q=>t σ H fun xs H1=>xs.length≤sizeLine/\∀p,H1 p=none->Q (.ref p) (upd H1 p (.tup xs))
def GN(t:TA):TE:=fun σ H Q=>t σ H fun xs H1=>xs.length≤sizeLine/\∀p,H1 p=none->Q (.ref p) (upd H1 p (.lst xs))
theorem Bi(h:PA X es t):PE X (.Tuple es x1 pos) (FQ t):=by
 intro pins s σ H Q I hq;refine wpAny_Tuple_spliced (thn (h pos pins s σ H _ I hq) fun us s1 ⟨xs,H1,I1,r,z,q⟩=>⟨by rw[←r.length];exact z,?_⟩);have hf:H1 s1.heap.objs.size=none:=I1.hok.fresh (Jy _);refine⟨.ref s1.heap.objs.size,upd H1 s1.heap.objs.size (.tup xs),I1.laid (t':=s1.toks) (fun b u e=>Js _ e) (Jy _) ?_,rfl,q _ hf⟩;exact⟨z,us,r,⟨_,JA _ rfl,rfl,_,rfl⟩⟩
theorem AF(h:PA X es t):PE X (.List es pos) (GN t):=by
 intro pins s σ H Q I hq;refine wpAny_List_spliced (thn (h pos pins s σ H _ I hq) fun us s1 ⟨xs,H1,I1,r,z,q⟩=>⟨by rw[←r.length];exact z,?_⟩);have hf:H1 s1.heap.objs.size=none:=I1.hok.fresh (Jy _);refine⟨.ref s1.heap.objs.size,upd H1 s1.heap.objs.size (.lst xs),I1.laid (t':=s1.toks) (fun b u e=>Js _ e) (Jy _) ?_,rfl,q _ hf⟩;exact⟨z,us,0,r,JA _ rfl⟩
end
abbrev Sp:=List V->Hp->VK->XK->Prop
abbrev CXT:=List Env->Hp->Shared->XK->Value->Shared->Prop
structure nH (P:Program) (w:World) (K:PySem.W.Frag) (mg:Str→Option Value) (base:Heap) (A:Around) (outer:List Env) (s:Shared) (H:Hp):Prop where
 frames:A.frames=some outer
 mod:Mod K mg base
 bs:∀b o,base.get? b=some o->s.heap.get? b=some o/\H b=none
 bsz:base.objs.size≤s.heap.objs.size
 funs:s.heap.FunFrames base outer
 frf:∀b∈frs outer,H b=none
 hok:HOk P w H s.heap
 bare:AllBare s.gens
def CE(outer:List Env)(P:Program)(w:World)(H:Hp)(s:Shared)(Q:VK)(u:Value)(s':Shared):Prop :=
 ∃v H',s'.os=s.os/\AllBare s'.gens/\Un (frs outer) [] H H' s.heap s'.heap/\HOk P w H' s'.heap/\RelV v u/\Q v H'
def CR(CX:CXT)(outer:List Env)(P:Program)(w:World)(H:Hp)(s:Shared)(Q:VK)(E:XK)(r:Result)(s':Shared):Prop :=
 match r with
 | .ok (.ret u)=>CE outer P w H s Q u s'
 | .ok _=>False
 | .error e=>CX outer H s E e s'
structure fH (P:Program) (w:World) (K:PySem.W.Frag) (mg:Str→Option Value) (base:Heap) (CX:CXT) (k:Nat) (f:Addr) (fd:FuncData) (ps:List Str) (sp:Sp):Prop where
 len:∀vs H Q E,sp vs H Q E->vs.length=ps.length
 run:∀(A:Around) (outer:List Env) (s:Shared) (H:Hp) (args:Args) (us:List Value) (vs:List V) (Q:VK) (E:XK),bS k A->nH P w K mg base A outer s H->BindsTo s fd args (ps.zip us)->Vals vs us->sp vs H Q E ->
  codeAny (model P w) A (.call (.ref f) args) (CR CX outer P w H s Q E) s
theorem fH.imp{K:PySem.W.Frag}(F:fH P w K mg base CX k f fd ps sp)
  (h:∀vs H Q E,sp' vs H Q E->sp vs H Q E):fH P w K mg base CX k f fd ps sp' :=
 ⟨fun vs H Q E q=>F.len vs H Q E (h _ _ _ _ q),fun A outer s H args us vs Q E hr he hb hv hs=>F.run A outer s H args us vs Q E hr he hb hv (h _ _ _ _ hs)⟩
theorem nH.make{K:PySem.W.Frag}(e:nH P w K mg base A outer s H)(C:Addr)(us:List Value)(kw:List (Str×Value)) :
  nH P w K mg base (A.under (.builtin "type.__call__" ⟨.ref C::us,kw⟩)) outer s H:=⟨by first | exact e.frames |(simpa[Around.under,Code.envs,Code.isFrame,pushEnvs]using e.frames),e.mod,e.bs,e.bsz,e.funs,e.frf,e.hok,e.bare⟩
section
variable {X:Cx}{pins:List (Addr×Obj)}{σ:St}{H:Hp}{s s':Shared}
theorem Inv.env0(I:Inv X pins σ H s):nH X.prog X.w X.K X.mg X.base X.A X.stack s H :=
 ⟨I.ok.frames,I.ok.mod,I.bs,JY I.ok.bsz I.sz,I.stack,I.stkFree,I.hok,I.bare⟩
theorem Inv.after(I:Inv X pins σ H s)(h:CE X.stack X.prog X.w H s Q u s'):EP X pins σ Q u s':=by
 obtain⟨v,H',os,bare,un,hok,r,q⟩:=h;obtain⟨hh,g,d,t,os'⟩:=s';obtain rfl:os'=s.os:=os;exact⟨v,H',I.call (h':=hh) (g':=g) (d':=d) (t':=t) (ch:=[]) un hok bare (fun b z=>absurd z (by simp)),r,q⟩
end
def uE(sp:Sp)(dvs:List V)(E:XK)(t:TA):TE:=fun σ H Q=>t σ H fun vs H1=>sp (vs++dvs) H1 Q E
def vY(C:Addr)(m:Str)(sp:Sp)(dvs:List V)(E:XK)(ta:TE)(t:TA):TE:=fun σ H Q=>ta σ H fun x H1=>∃a dx fs,x=.ref a/\H1 a=some (.ins C dx fs)/\fs.lookup m=none /\
 t σ H1 fun vs H2=>sp (x::(vs++dvs)) H2 Q E
def E9(C:Addr)(sp:Sp)(dvs:List V)(E:XK)(t:TA):TE:=fun σ H Q=>t σ H fun vs H1=>∀x dx,H1 x=none->H1 dx=none->dx≠x ->
 sp (.ref x::(vs++dvs)) (upd (upd H1 dx (.own x)) x (.ins C dx [])) (fun v H2=>v=.non/\Q (.ref x) H2) E
def Binds(K:PySem.W.Frag)(fd:FuncData)(ps:List Str)(ds:List Value):Prop :=
 ∀(s:Shared) (us:List Value),K.In s.heap->(us++ds).length=ps.length->BindsTo s fd ⟨us,[]⟩ (ps.zip (us++ds))
theorem Binds.all{K:PySem.W.Frag}(h:∀us:List Value,us.length=ps.length->bindArgs fd ⟨us,[]⟩=pure (ps.zip us)):Binds K fd ps []:=fun s us _ hl=>by
 rw[JQ]at hl ⊢;exact .of_eq (h us hl)
def Passes(CX:CXT)(X:Cx)(E:XK):Prop:=∀(pins:List (Addr×Obj)) (σ:St) (H:Hp) (s:Shared) (e:Value) (s':Shared),Inv X pins σ H s->CX X.stack H s E e s'->X.xe e s'
section
variable {X:Cx}{CX:CXT}{k:Nat}{f C:Addr}{fd:FuncData}{ps:List Str}{sp:Sp}{dvs:List V}{ds:List Value}{E:XK}{x m:Str}{p pos apos:Pos}{e o:Expr}{es:List Expr}{ta:TE}{t:TA}
theorem vp{σ:St}(F:fH X.prog X.w X.K X.mg X.base CX k f fd ps sp)(hr:bS k X.A)(hb:Binds X.K fd ps ds)(hd:Vals dvs ds)(hx:Passes CX X E)
  (I:Inv X pins σ H s) (r:Vals vs us) (h:sp (vs++dvs) H Q E):wpAny (model X.prog X.w) X.A (call (.ref f) us) (EP X pins σ Q) X.xe s:=by
 have r2:Vals (vs++dvs) (us++ds):=r.append hd;have hl:(us++ds).length=ps.length:=by rw[←r2.length];exact F.len _ _ _ _ h
 refine wpAny_call (K5 (F.run X.A X.stack s H ⟨us,[]⟩ (us++ds) (vs++dvs) Q E hr I.env0 (hb s us I.kIn hl) r2 h) fun r s' hq=>?_);cases r with
 | error e=>exact hx pins σ H s e s' I hq
 | ok fl =>
  cases fl with
  | ret u=>exact I.after hq
  | next=>exact False.elim hq
  | brk=>exact False.elim hq
  | cont=>exact False.elim hq
theorem oR(F:fH X.prog X.w X.K X.mg X.base CX k f fd ps sp)(hr:bS k X.A)(hg:Gl X x)(hm:X.mg x=some (.ref f))(hk:PySem.W.keepIn X.K (.ref f)=true)(hb:Binds X.K fd ps ds)(hd:Vals dvs ds)(hx:Passes CX X E)
  (ha:PA X (e::es) t) (hdb:(x==("__debug__":Str))=false:=by decide) (he:starEach (e::es) X.env=(false,eval e X.env)::starEach es X.env:=by rfl) (hpl:(backTo pos (starEach es X.env)).any (·.1)=false:=by rfl) :
  PE X (.Call (.Name x p) (e::es) [] pos) (uE sp dvs E t):=by
 intro pins s σ H Q I h;refine Lc (eE I hg hm ?_ hdb);refine PySem.W.callWith_K (h₀:=X.base) I.ok.mod.kin hk (thn (ha pos pins s σ H _ I h) fun us s1 ⟨vs,H1,I1,r,q⟩=>⟨I1.kIn,?_⟩) he hpl;exact vp F hr hb hd hx I1 r q
theorem qa{pl:Sem Bool}(he:PE X o ta)(c:Cls X.K C)(hm:Meth X.K C m f)(F:fH X.prog X.w X.K X.mg X.base CX k f fd ps sp)(hr:bS k X.A)(hb:Binds X.K fd ps ds)(hd:Vals dvs ds)(hx:Passes CX X E)(ha:PA X (e::es) t)
  (hst:starEach (e::es) X.env=(false,eval e X.env)::starEach es X.env:=by rfl) (hpl:(backTo pos (starEach es X.env)).any (·.1)=false:=by rfl)
  (ht:eval (.Call (.Attribute o m apos) (e::es) [] pos) X.env=(do
   let ov←eval o X.env
   standAt apos.atName
   let (f,first)←holding [ov] (getMethod ov m pl)
   callWith pos f first (backTo pos (starEach (e::es) X.env)) (backToKw pos (keywordEach [] X.env))):=by rfl) :
  PE X (.Call (.Attribute o m apos) (e::es) [] pos) (vY C m sp dvs E ta t):=by
 intro pins s σ H Q I h;refine PySem.W.methodCall_KW (pl:=pl) (thn (he pins s σ H _ I h) fun u s1 ⟨x,H1,I1,rx,a,dx,fs,ex,ea,l,q⟩=>?_) ht;subst ex;obtain rfl:u=Value.ref a:=rx;refine ib I1 ea c hm l ?_;refine PySem.W.callWith_K (first:=[.ref a]) (h₀:=X.base) I.ok.mod.kin hm.kp (thn (ha pos pins s1 σ H1 _ I1 q) fun us s2 ⟨vs,H2,I2,r,q2⟩=>⟨I2.kIn,?_⟩) hst hpl;exact vp (us:=.ref a::us) (vs:=.ref a::vs) F hr hb hd hx I2 (.cons rfl r) q2
structure Mk (K:PySem.W.Frag) (C f:Addr):Prop where
 makes:PySem.W.makesIn K C=true
 init:PySem.W.findIn K (.ref C) "__init__"=some (some (.ref f))
 fn:PySem.W.isFn K (.ref f)=true
 kp:PySem.W.keepIn K (.ref C)=true
theorem tU{σ:St}(M:Mk X.K C f)(F:fH X.prog X.w X.K X.mg X.base CX k f fd ps sp)(hr:bS (k+1) X.A)(hb:Binds X.K fd ps ds)(hd:Vals dvs ds)
  (hx:Passes CX X E) (I:Inv X pins σ H s) (r:Vals vs us)
  (h:∀x dx,H x=none->H dx=none->dx≠x->sp (.ref x::(vs++dvs)) (upd (upd H dx (.own x)) x (.ins C dx [])) (fun v H2=>v=.non/\Q (.ref x) H2) E) :
  wpAny (model X.prog X.w) X.A (call (.ref C) us) (EP X pins σ Q) X.xe s:=by
 have hq:=h (s.heap.objs.size+1) s.heap.objs.size (I.hok.fresh (Nat.le_succ _)) (I.hok.fresh (Jy _)) (JG (Nat.lt_succ_self _));have I2:=Inv.made (C:=C) I;have r2:Vals (V.ref (s.heap.objs.size+1)::(vs++dvs)) (Value.ref (s.heap.objs.size+1)::(us++ds)):=.cons rfl (r.append hd);have hl:(Value.ref (s.heap.objs.size+1)::us++ds).length=ps.length:=by
  have e:=r2.length;rw[F.len _ _ _ _ hq]at e;exact e.symm
 refine wpAny_call (uD (f:=f) I.kIn M.makes M.init (Lb.mp M.fn) (K5 (F.run _ X.stack _ _ ⟨Value.ref (s.heap.objs.size+1)::us,[]⟩ (Value.ref (s.heap.objs.size+1)::(us++ds)) _ _ E (hr.make C us [])
  (I2.env0.make C us []) (hb _ (Value.ref (s.heap.objs.size+1)::us) I2.kIn hl) r2 hq) fun r s' hq'=>?_))
 cases r with
 | error e=>exact hx pins σ _ _ e s' I2 hq'
 | ok fl =>
  cases fl with
  | ret u =>
   obtain⟨v,H',I3,rv,ev,q3⟩:=I2.after hq';subst ev;exact⟨rv,⟨V.ref (s.heap.objs.size+1),H',I3,rfl,q3⟩⟩
  | next=>exact False.elim hq'
  | brk=>exact False.elim hq'
  | cont=>exact False.elim hq'
theorem xQ(M:Mk X.K C f)(F:fH X.prog X.w X.K X.mg X.base CX k f fd ps sp)(hr:bS (k+1) X.A)(hg:Gl X x)(hm:X.mg x=some (.ref C))(hb:Binds X.K fd ps ds)(hd:Vals dvs ds)(hx:Passes CX X E)
  (ha:PA X (e::es) t) (hdb:(x==("__debug__":Str))=false:=by decide) (he:starEach (e::es) X.env=(false,eval e X.env)::starEach es X.env:=by rfl) (hpl:(backTo pos (starEach es X.env)).any (·.1)=false:=by rfl) :
  PE X (.Call (.Name x p) (e::es) [] pos) (E9 C sp dvs E t):=by
 intro pins s σ H Q I h;refine Lc (eE I hg hm ?_ hdb);refine PySem.W.callWith_K (h₀:=X.base) I.ok.mod.kin M.kp (thn (ha pos pins s σ H _ I h) fun us s1 ⟨vs,H1,I1,r,q⟩=>⟨I1.kIn,?_⟩) he hpl;exact tU M F hr hb hd hx I1 r q
end
section
variable {X:Cx}{CX:CXT}{k:Nat}{f C:Addr}{fd:FuncData}{ps ks:List Str}{sp:Sp}{E:XK}{x m:Str}{p pos apos kpos:Pos}{e o:Expr}{es:List Expr}{kws:List Keyword}{te ta:TE}{t tk:TA}{nm:Option Str}
variable {g:List Value->List Value->List Value}{gV:List V->List V->List V}
end
structure aw (N P:List Str) (sc:Scope):Prop where
 kind:sc.kind=.function
 co:sc.isCoroutine=false
 gen:sc.isGenerator=false
 nd:N.Nodup
 pre:N.take P.length=P
 par:∀x∈P,sc.names.lookup x=some .local∨sc.names.lookup x=some .cell
 nofree:∀y∈sc.names,y.2≠.free
theorem jy{kindOf:Str->Option NameKind}{x:Str}:∀{binds:List (Str×Value)} {m:Str->Option Value},(∀v,(x,v)∉binds)->bindL kindOf binds m x=m x
 | [],_,_=>rfl
 |(n,v)::r,m,h=>by
  unfold bindL;rw[jy fun w hw=>h w (Jz _ hw)];split
  ·have:x≠n:=by rintro rfl;exact h v Jw
   simp[this]
  ·rfl
theorem jQ{kindOf:Str->Option NameKind}{x:Str}:∀{binds:List (Str×Value)} {m:Str->Option Value},(∀v,(x,v)∉binds)->bindC kindOf binds m x=m x
 | [],_,_=>rfl
 |(n,v)::r,m,h=>by
  unfold bindC;rw[jQ fun w hw=>h w (Jz _ hw)];split
  ·rfl
  ·have:x≠n:=by rintro rfl;exact h v Jw
   simp[this]
theorem ji{kindOf:Str->Option NameKind}{x:Str}{v:Value}:∀{P:List Str} {vs:List Value} {i:Nat} {m:Str->Option Value},P.Nodup->P[i]?=some x->vs[i]?=some v->kindOf x=some .local ->
  bindL kindOf (P.zip vs) m x=some v
 | [],_,_,_,_,h,_,_=>by simp at h
 | _::_,[],_,_,_,_,h,_=>by simp at h
 | p::P,w::vs,0,m,nd,h1,h2,hk=>by
  simp at h1 h2;subst h1;subst h2;show bindL kindOf ((p,w)::P.zip vs) m p=_;unfold bindL;rw[jy fun v hv=>(K0.mp nd).1 (List.of_mem_zip hv).1,JL hk];simp
 | p::P,w::vs,i+1,m,nd,h1,h2,hk=>by
  show bindL kindOf ((p,w)::P.zip vs) m x=_;unfold bindL;exact ji (i:=i) (K0.mp nd).2 (by simpa using h1) (by simpa using h2) hk
theorem jt{kindOf:Str->Option NameKind}{x:Str}{v:Value}:∀{P:List Str} {vs:List Value} {i:Nat} {m:Str->Option Value},P.Nodup->P[i]?=some x->vs[i]?=some v->kindOf x≠some .local ->
  bindC kindOf (P.zip vs) m x=some v
 | [],_,_,_,_,h,_,_=>by simp at h
 | _::_,[],_,_,_,_,h,_=>by simp at h
 | p::P,w::vs,0,m,nd,h1,h2,hk=>by
  simp at h1 h2;subst h1;subst h2;show bindC kindOf ((p,w)::P.zip vs) m p=_;unfold bindC;rw[jQ fun v hv=>(K0.mp nd).1 (List.of_mem_zip hv).1,JK hk];simp
 | p::P,w::vs,i+1,m,nd,h1,h2,hk=>by
  show bindC kindOf ((p,w)::P.zip vs) m x=_;unfold bindC;exact jt (i:=i) (K0.mp nd).2 (by simpa using h1) (by simpa using h2) hk
def start(N:List Str)(vs:List V):St:=vs.map some++List.replicate (N.length - vs.length) none
def kz(CX:CXT)(P:Program)(w:World)(K:PySem.W.Frag)(mg:Str->Option Value)(base:Heap)(N:List Str)(qual:Str)(scope:Scope)(f:Addr)(cd:Value)(A:Around)(outer:List Env)(s:Shared)(H:Hp)(E:XK):Cx where
 prog:=P
 w:=w
 K:=K
 mg:=mg
 base:=base
 A:=A.deeper (envOfC qual scope s.heap.objs.size f cd)
 N:=N
 s₀:=s
 H₀:=H
 env:=envOfC qual scope s.heap.objs.size f cd
 outer:=outer
 stack:=envOfC qual scope s.heap.objs.size f cd::outer
 ex:=[]
 calm:=true
 fn:=fun _=>true
 pn:=[]
 xe:=fun e s'=>wpAny (model P w) (A.deeper (envOfC qual scope s.heap.objs.size f cd)) (leaving (envOfC qual scope s.heap.objs.size f cd) e) (fun _ s''=>CX outer H s E e s'') (fun e' s''=>CX outer H s E e' s'') s'
theorem mP{sc:Scope}(h:sc.names.lookup x=some .cell):∃c,(cellsFrom n sc.names []).lookup x=some c:=by
 have q:=PySem.W.cellsFrom_some sc.names n [] (.inl h);exact Option.isSome_iff_exists.mp q
theorem rf{K:PySem.W.Frag}
  (S:aw N ps scope) (hd:A.handled=none) (e0:nH P w K mg base A outer s H) (hl:vs.length=ps.length) (r:Vals vs us)
  (x:InCallC s s.heap.objs.size (bindL (envOfC qual scope s.heap.objs.size f cd).kindOf (ps.zip us) fun _=>none) (cellsFrom (s.heap.objs.size+1) scope.names []) (bindC (envOfC qual scope s.heap.objs.size f cd).kindOf (ps.zip us) fun _=>none) s1) :
  Inv (kz CX P w K mg base N qual scope f cd A outer s H E) [] (start N vs) H s1:=by
 have hpl:ps.length≤N.length:=by have:=congrArg List.length S.pre;rw[J6]at this;symm
 obtain⟨h1,tk,rfl,hk⟩:=x.done;have noA:∀b:Addr,b∉(kz CX P w K mg base N qual scope f cd A outer s H E).ex:=fun b z=>absurd (show b∈([]:List Addr)from z) (by simp);refine⟨⟨e0.mod,S.kind,rfl,rfl,Jy _,fun y z c h1 h2=>?_,fun y hy=>?_,fun y c _ h=>?_,fun _=>hd,Around.frames_deeper e0.frames,.inr ⟨rfl,rfl⟩,fun b z=>absurd z (noA b),e0.bs,e0.bsz,fun b _ _=>noA b,fun b z=>absurd z (noA b),e0.funs,e0.frf⟩,
  rfl,e0.bare,Un.kept hk,⟨_,x.toInCall.ns,fun i y v h1 h2 h3=>?_⟩,fun y c h=>⟨_,x.cell y c h⟩,e0.hok.fresh (Jy _),fun y c h=>?_,fun p hp=>absurd (show p∈([]:List (Addr×Obj))from hp) (by simp),e0.hok.kept hk,?_⟩
 ·exact name_of_addr x.apart (PySem.mem_of_lookup h1) (PySem.mem_of_lookup h2)
 ·have hy:scope.names.lookup y=some .cell∨scope.names.lookup y=some .free:=hy;rcases hy with hy | hy
  ·exact mP hy
  ·exact absurd rfl (S.nofree _ (PySem.mem_of_lookup hy))
 ·exact Nat.le_of_lt (x.above y c (PySem.mem_of_lookup h))
 ·have hi:i<vs.length:=by
   unfold start at h2;by_cases hi:i<vs.length
   ·exact hi
   ·rw[List.getElem?_append_right (by simpa using hi)]at h2;rw[List.getElem?_replicate]at h2;split at h2<;>cases h2
  have ha:vs[i]?=some v:=by
   unfold start at h2;rw[K8 (by simpa using hi),JI]at h2;cases e:vs[i]? with
   | none=>rw[e]at h2;cases h2
   | some a=>rw[e]at h2;cases h2;rfl
  obtain⟨u,hu,rv⟩:=r.get ha;have hp:ps[i]?=some y:=by
   rw[←S.pre,List.getElem?_take_of_lt (by symm)];exact h1
  have ndP:ps.Nodup:=by rw[←S.pre];exact S.nd.sublist (List.take_sublist _ _)
  refine⟨u,rv,?_⟩;rcases S.par y (JH hp)with k | k
  ·exact .inl ⟨k,ji ndP hp hu k⟩
  ·obtain⟨c,e⟩:=mP (n:=s.heap.objs.size+1) k;refine .inr ⟨.inl k,c,e,?_⟩;have q:=x.cell y c e;rw[jt ndP hp hu (by show scope.names.lookup y≠_;rw[k];decide)]at q;exact q
 ·exact e0.hok.fresh (Nat.le_of_lt (x.above y c (PySem.mem_of_lookup h)))
 ·unfold start;show _=N.length;rw[Jr,Jl,KY];symm
theorem zi{K:PySem.W.Frag}{dV kV doc pm cdv ct oc:Value}
     (lk:K.lookup f=some ⟨oc,od,.func (PySem.W.fnOf name qual params body scope dV kV doc pm an cdv ct),osl⟩) (hcd:PySem.W.codeIn K cdv qual=true) (S:aw N ps scope)
  (len:∀vs H Q E,sp vs H Q E->vs.length=ps.length)
  (hbody:∀(A:Around) (outer:List Env) (s:Shared) (H:Hp) (vs:List V) (Q:VK) (E:XK),bS k (A.deeper (envOfC qual scope s.heap.objs.size f cdv))->sp vs H Q E ->
   ∃t,PSs (kz CX P w K mg base N qual scope f cdv A outer s H E) body t/\t { nx:=fun _ H'=>Q .non H',rt:=Q } (start N vs) H) :
  fH P w K mg base CX (k+1) f (PySem.W.fnOf name qual params body scope dV kV doc pm an cdv ct) ps sp:=by
 refine⟨len,fun A outer s H args us vs Q E hr e0 hb r hsp=>?_⟩;have hl:=len _ _ _ _ hsp;have KX:K.In s.heap:=e0.mod.kin.keeps fun b o e=>(e0.bs b o e).1;have lim:s.heap.NoLimit:=e0.mod.nolimit.keeps fun b o e=>(e0.bs b o e).1;have hkind:∀y∈ps.zip us,scope.names.lookup y.1=some .local∨(scope.names.lookup y.1=some .cell/\((cellsFrom (s.heap.objs.size+1) scope.names []).lookup y.1).isSome=true):=fun y_ hy=>by
  obtain⟨n,v⟩:=y_;rcases S.par n (List.of_mem_zip hy).1 with q | q
  ·exact .inl q
  ·exact .inr ⟨q,PySem.W.cellsFrom_some _ _ _ (.inl q)⟩
 refine codeAny_call_function hr.depth (KX _ _ lk) rfl S.co S.gen rfl (PySem.W.codeRec_of KX hcd) (hb _ _ _ _ ?_);refine wpAny_newFunctionEnv_cells S.kind hkind fun env he s1 x=>?_;subst he;refine⟨lim.keeps x.toInCall.keep,codeAny_func ?_⟩;obtain⟨t,ht,hq⟩:=hbody A outer s H vs Q E (hr.deeper _) hsp;have I:Inv (kz CX P w K mg base N qual scope f cdv A outer s H E) [] (start N vs) H s1:=rf S hr.hd e0 hl r x;refine Li (ht [] s1 (start N vs) H _ I hq) (fun fl s' hs=>?_) fun e s' hs=>hs;have fin:∀{σ':St} {H':Hp} {v:V} {u:Value},Inv (kz CX P w K mg base N qual scope f cdv A outer s H E) [] σ' H' s'->RelV v u->Q v H'->CE outer P w H s Q u s' :=
  fun {σ' H' v u} J rv q=>⟨v,H',J.os,J.bare,J.base,J.hok,rv,q⟩
 cases fl with
 | ret u =>
  obtain⟨v,σ',H',J,rv,q⟩:=hs;exact fin J rv q
 | next =>
  obtain⟨σ',H',J,q⟩:=hs;exact fin (v:=V.non) (u:=Value.none) J rfl q
 | brk =>
  obtain⟨_,_,_,q⟩:=hs;exact False.elim q
 | cont =>
  obtain⟨_,_,_,q⟩:=hs;exact False.elim q
end
section
section
variable {X:Cx}{x:Str}{p pos:Pos}{e:Expr}{es:List Expr}{t:TA}{id T:String}{r:List V->Hp->VK->Prop}
def tCB(r:List V->Hp->VK->Prop)(t:TA):TE:=fun σ H Q=>t σ H fun vs H1=>r vs H1 Q
theorem cF(hc:cf X (.builtin id) r)(hg:Gl X x)(hm:X.mg x=none)(hv:bootBuiltins x=some (.builtin id))(ha:PA X (e::es) t)(hn:x≠"__name__":=by decide)(hdb:(x==("__debug__":Str))=false:=by decide)
  (he:starEach (e::es) X.env=(false,eval e X.env)::starEach es X.env:=by rfl) (hpl:(backTo pos (starEach es X.env)).any (·.1)=false:=by rfl):PE X (.Call (.Name x p) (e::es) [] pos) (tCB r t):=by
 intro pins s σ H Q I h;refine Lc (dq I hg hm hv ?_ hn hdb);exact PyProof.Rows.callWith_builtin1 (thn (ha pos pins s σ H _ I h) fun us s1 y_=>by obtain⟨vs,H1,I1,r1,q1⟩:=y_;exact hc pins s1 σ H1 vs us Q I1 r1 q1) he hpl
theorem cU(hc:cf X (.type T) r)(hg:Gl X x)(hm:X.mg x=none)(hv:bootBuiltins x=some (.type T))(ha:PA X (e::es) t)(hn:x≠"__name__":=by decide)(hdb:(x==("__debug__":Str))=false:=by decide)
  (he:starEach (e::es) X.env=(false,eval e X.env)::starEach es X.env:=by rfl) (hpl:(backTo pos (starEach es X.env)).any (·.1)=false:=by rfl):PE X (.Call (.Name x p) (e::es) [] pos) (tCB r t):=by
 intro pins s σ H Q I h;refine Lc (dq I hg hm hv ?_ hn hdb);exact Ka (thn (ha pos pins s σ H _ I h) fun us s1 y_=>by obtain⟨vs,H1,I1,r1,q1⟩:=y_;exact hc pins s1 σ H1 vs us Q I1 r1 q1) he hpl
end
end
end L2
namespace HT
section
open PySem.SeqAt
open PySem.AutoSeq1 (wpAny_loadPart')
open PySem.MeetsSeq PySem.MeetsSeq2 PySem.MeetsSeq3
end
section
variable {prog:Program}{w:World}{A:Around}{E:Value->Shared->Prop}{s:Shared}
theorem xb(ht:IsTup s.heap t vs.toArray)(hb:IsTup s.heap b ws.toArray)(hv:vs≠[])
  (h1:ws=[]->Q (.ref t) s) (h2:ws≠[]->Q (.ref s.heap.objs.size) { s with heap:=s.heap.push { cls:=.type "tuple",data:=.seq (vs++ws).toArray } })
  (hsz:vs.length+ws.length≤sizeLine):wpAny (model prog w) A (binaryOp .Add (.ref t) (.ref b)) Q E s:=by
 obtain⟨⟨cls,dd,data,sl⟩,ho,hc,n,hd⟩:=id ht;obtain⟨⟨cls2,dd2,data2,sl2⟩,ho2,hc2,n2,hd2⟩:=id hb;simp only at hc hd hc2 hd2;subst hc hd hc2 hd2;have e:vs.toArray++ws.toArray=(vs++ws).toArray:=by simp
 by_cases hw:ws=[]
 ·exact concat_meets ⟨_,ho,rfl⟩ ⟨_,ho2,rfl⟩ noFill_tuple_add seq_tuple_add PySem.F.slot_tuple_add PySem.F.entry_tuple_add (PySem.F.args_tuple_add_2 _ _)
   (tuple_addW1 t b vs.toArray ws.toArray n n2 dd dd2 sl sl2 (by simpa using hv) (by simp[hw])) ⟨ho,ho2,h1 hw⟩
 ·refine concat_meets ⟨_,ho,rfl⟩ ⟨_,ho2,rfl⟩ noFill_tuple_add seq_tuple_add PySem.F.slot_tuple_add PySem.F.entry_tuple_add (PySem.F.args_tuple_add_2 _ _)
   (tuple_addW2 t b vs.toArray ws.toArray n n2 dd dd2 sl sl2 (by simpa using hv) (by simpa using hw) (by rw[JC,JC];exact hsz)) ⟨ho,ho2,?_⟩
  rw[e];exact h2 hw
def sIx(n d:Nat):Option Int->Nat
 | none=>d
 | some v=>if v<0 then(v+(n:Int)).toNat else min v.toNat n
theorem fD(n d:Nat):sIx n d none=d:=rfl
theorem yh(n d k:Nat):sIx n d (some (k:Int))=min k n:=by
 show(if (k:Int)<0 then((k:Int)+(n:Int)).toNat else min (k:Int).toNat n)=min k n;rw[JK (by symm),J7]
theorem Cj(n d:Nat)(hd:d≤n)(o:Option Int):sIx n d o≤n:=by
 cases o with
 | none=>exact hd
 | some v =>
  show(if v<0 then(v+(n:Int)).toNat else min v.toNat n)≤n;by_cases hv:v<0
  ·rw[JL hv];symm
  ·rw[JK hv];exact Nat.min_le_right _ _
theorem pZ(v:Int)(n d:Nat):(if v<0 then max (v+(n:Int)) 0 else min v (n:Int))=((sIx n d (some v):Nat):Int):=by
 show(if v<0 then max (v+(n:Int)) 0 else min v (n:Int))=(((if v<0 then(v+(n:Int)).toNat else min v.toNat n):Nat):Int);by_cases hv:v<0
 ·simp only[JL hv];symm
 ·simp only[JK hv];symm
theorem nS(lo hi:Option Int)(n:Nat):Builtin.Slice.sliceAdjust lo hi 1 (n:Int)=(((sIx n 0 lo:Nat):Int),((sIx n n hi:Nat):Int)):=by
 have h1:¬((1:Int)<0):=by symm
 unfold Builtin.Slice.sliceAdjust;simp only[h1,if_false];refine Prod.ext ?_ ?_
 ·cases lo with
  | none=>rfl
  | some v=>exact pZ v n 0
 ·cases hi with
  | none=>rfl
  | some v=>exact pZ v n n
theorem nE(i j:Nat):Builtin.Slice.slicePlaces (i:Int) (j:Int) 1=j - i:=by
 unfold Builtin.Slice.slicePlaces;have h1:(1:Int)>0:=by symm
 simp only[h1,if_true,Int.ediv_one];split<;>symm
theorem ik(p:IsPart v o)(h:Q o s):wpAny (model prog w) A (Builtin.Slice.slicePartIndex v) Q E s:=by
 cases p with
 | none=>exact slicePart_none h
 | int i t=>exact slicePart_int h
theorem dz{sl:Addr}{vl vu:Value}{lo hi:Option Int}{n:Nat}(hs:s.heap.IsSliceOf sl vl vu .none)(pl:IsPart vl lo)(pu:IsPart vu hi)
  (h:Q (((sIx n 0 lo:Nat):Int),1,sIx n n hi - sIx n 0 lo) s):wpAny (model prog w) A (Builtin.Slice.sliceApplied (.ref sl) (pure (n:Int))) Q E s:=by
 obtain⟨os,hos,hcs,hds⟩:=id hs;unfold Builtin.Slice.sliceApplied Builtin.Slice.sliceFields;refine Jm (Jm (wpAny_field hos hds (x:=vl) rfl (Jm (wpAny_field hos hds (x:=vu) rfl (Jm (wpAny_field hos hds (x:=.none) rfl (Jq ?_)))))));refine Jm (slicePart_none ?_);show wpAny _ _ (if ((1:Int)==0)=true then _ else _) _ _ s;rw[JK (by decide)];refine Jm (ik pl (Jm (ik pu (Jm (Jq ?_)))));show wpAny _ _ (match Builtin.Slice.sliceAdjust lo hi 1 (n:Int)with |(lo,hi)=>pure (lo,(1:Int),Builtin.Slice.slicePlaces lo hi 1)) _ _ s;rw[nS lo hi n];show wpAny _ _ (pure (((sIx n 0 lo:Nat):Int),(1:Int),Builtin.Slice.slicePlaces ((sIx n 0 lo:Nat):Int) ((sIx n n hi:Nat):Int) 1)) _ _ s;rw[nE];exact Jq h
theorem vf(xs:Array Value)(i k:Nat):((List.range k).filterMap fun(m:Nat)=>xs[((i:Int)+(m:Int)*1).toNat]?).toArray=((xs.toList.drop i).take k).toArray:=by
 have e:(fun(m:Nat)=>xs[((i:Int)+(m:Int)*1).toNat]?)=fun m=>xs[i+m]?:=by
  funext m;have:((i:Int)+(m:Int)*1).toNat=i+m:=by symm
  rw[this]
 rw[e];have:=pick_run xs i k;rw[List.filterMap_map]at this;have e2:((fun x=>xs[x]?) ∘ fun x=>i+x)=fun m=>xs[i+m]?:=rfl;rw[e2]at this;rw[this]
theorem fk{lo hi:Option Int}(ht:IsTup s.heap t items)(hs:s.heap.IsSliceOf sl vl vu .none)(pl:IsPart vl lo)(pu:IsPart vu hi)
  (hw:¬(sIx items.size 0 lo=0/\sIx items.size items.size hi=items.size))
  (h:Q (.ref s.heap.objs.size) { s with heap:=s.heap.push { cls:=.type "tuple",data:=.seq ((items.toList.drop (sIx items.size 0 lo)).take (sIx items.size items.size hi - sIx items.size 0 lo)).toArray } })
  (hsz:items.size≤sizeLine):wpAny (model prog w) A (getItem (.ref t) (.ref sl)) Q E s:=by
 have htake:sizeOk (.seq ((items.toList.drop (sIx items.size 0 lo)).take (sIx items.size items.size hi - sIx items.size 0 lo)).toArray):=by
  show((items.toList.drop (sIx items.size 0 lo)).take (sIx items.size items.size hi - sIx items.size 0 lo)).toArray.size≤sizeLine;rw[JC,J6,Ld,KR];symm
 have hj:sIx items.size items.size hi≤items.size:=Cj _ _ (Jy _) hi;obtain⟨os,hos,hcs,hds⟩:=id hs;have hTs:s.TypeIs (.ref sl) "slice":=⟨os,hos,hcs⟩;unfold getItem
 try with_reducible refine Kb ?_
 first | refine Jm (Jq ?_) | skip
 refine Jm (wpAny_sequenceKey ht.typeIs (by decide) ?_);refine Jm (K2 (name:=Str.ofString "__getitem__") ht.typeIs PyProof.Rows.slot_tuple_getitem
  (Kt PyProof.Rows.slot_tuple_getitem ht.typeIs entry_tuple_getitem ?_ (args_tuple_getitem _ _)))
 show wpAny _ _ (Builtin.Tuple.tupleItemsOf (.ref t) >>= _) _ _ s;refine Jm (tupleItemsOf_ ht ?_);refine Jm (wpAny_typeOf hTs ?_);rw[JL (by decide)];refine Jm (dz hs pl pu ?_);have hno:¬((((sIx items.size 0 lo:Nat):Int)==0&&(1:Int)==1&&(sIx items.size items.size hi - sIx items.size 0 lo)==items.size)=true):=by
  intro q;rw[KO,KO]at q;have q1:((sIx items.size 0 lo:Nat):Int)=0:=eq_of_beq q.1.1;have q2:sIx items.size items.size hi - sIx items.size 0 lo=items.size:=eq_of_beq q.2;exact hw ⟨by symm,by symm⟩
 show wpAny _ _ (if (((sIx items.size 0 lo:Nat):Int)==0&&(1:Int)==1&&(sIx items.size items.size hi - sIx items.size 0 lo)==items.size)=true then _ else _) _ _ s;rw[JK hno,vf]
 first
  | exact Jm (m:=Builtin.Tuple.tupleExact _) (J8 (Jq ⟨_,rfl,Jq h⟩) htake)
  | exact Jm (m:=Builtin.Tuple.tupleExact _) (J8 (Jm (Jq (Jq ⟨_,rfl,Jq h⟩))) htake)
  | exact Jm (Jm (m:=Builtin.Tuple.tupleExact _) (J8 (Jq (Jq ⟨_,rfl,Jq h⟩)) htake))
  | exact Jm (Jm (m:=Builtin.Tuple.tupleExact _) (J8 (Jq ⟨_,rfl,Jq h⟩) htake))
end
end HT
namespace L2
section
abbrev TO:=St->Hp->(Option Int->Hp->Prop)->Prop
def PO(X:Cx)(e:Option Expr)(t:TO):Prop :=
 ∀(pins:List (Addr×Obj)) (s:Shared) (σ:St) (H:Hp) (Q:Option Int->Hp->Prop),Inv X pins σ H s->t σ H Q ->
  wpAny (model X.prog X.w) X.A (evalPart e X.env) (fun u s'=>∃o H',Inv X pins σ H' s'/\IsPart u o/\Q o H') X.xe s
def xa:TO:=fun _ H Q=>Q none H
def CF(t:TE):TO:=fun σ H Q=>t σ H fun x H1=>∃i,x=.int i/\Q (some i) H1
section
variable {X:Cx}{e:Expr}{te:TE}{lo hi:Option Expr}{tl th:TO}{pos p2:Pos}
theorem xG:PO X none xa:=by
 intro pins s σ H Q I h;rw[evalPart_none];exact Jq ⟨none,H,I,.none,h⟩
theorem wq(h:PE X e te):PO X (some e) (CF te):=by
 intro pins s σ H Q I hw;rw[evalPart_some];refine thn (h pins s σ H _ I hw) fun u s1 y_=>?_;obtain⟨x,H1,I1,r1,q1⟩:=y_;obtain⟨i,rfl,q⟩:=q1;obtain⟨t,rfl⟩:=r1;exact⟨some i,H1,I1,.int i t,q⟩
def SlR(X:Cx)(r:V->Option Int->Option Int->Hp->VK->Prop):Prop :=
 ∀(pins:List (Addr×Obj)) (s:Shared) (σ:St) (H:Hp) (x:V) (v vl vu:Value) (lo hi:Option Int) (sl:Addr) (Q:VK),Inv X pins σ H s->RelV x v->s.heap.IsSliceOf sl vl vu .none->IsPart vl lo->IsPart vu hi->r x lo hi H Q ->
  ∃T id,typeLookup (.type T) "__getitem__"=pure (some (.builtin id))/\s.TypeIs v T/\wpAny (model X.prog X.w) X.A (getItem v (.ref sl)) (EP X pins σ Q) X.xe s
theorem SlR.or(h:SlR X r)(h':SlR X r'):SlR X (fun x lo hi H Q=>r x lo hi H Q∨r' x lo hi H Q):=by
 intro pins s σ H x v vl vu lo hi sl Q I rx hs pl pu q;rcases q with q | q
 ·exact h pins s σ H x v vl vu lo hi sl Q I rx hs pl pu q
 ·exact h' pins s σ H x v vl vu lo hi sl Q I rx hs pl pu q
def tSl(r:V->Option Int->Option Int->Hp->VK->Prop)(te:TE)(tl th:TO):TE:=fun σ H Q=>te σ H fun x H1=>tl σ H1 fun l H2=>th σ H2 fun u H3=>r x l u H3 Q
theorem lD(hr:SlR X r)(he:PE X e te)(hl:PO X lo tl)(hu:PO X hi th):PE X (.Subscript e (.Slice lo hi none p2) pos) (tSl r te tl th):=by
 intro pins s σ H Q I h;refine Subscript_ (thn (he pins s σ H _ I h) fun v s1 y_=>?_);obtain⟨x,H1,I1,r1,q1⟩:=y_;refine wpAny_Slice (thn (hl pins s1 σ H1 _ I1 q1) fun vl s2 ⟨l,H2,I2,pl,q2⟩=>thn (hu pins s2 σ H2 _ I2 q2) fun vu s3 y_=>?_);obtain⟨u,H3,I3,pu,q3⟩:=y_;rw[evalPart_none];refine Jq ?_;have I4:Inv X pins σ H3 { s3 with heap:=s3.heap.push { cls:=.type "slice",data:=.fields #[vl,vu,.none] } }:=I3.kept (t':=s3.toks) fun b ob q=>Js _ q;obtain⟨T,id,hT,ht,hg⟩:=hr pins { s3 with heap:=s3.heap.push { cls:=.type "slice",data:=.fields #[vl,vu,.none] } } σ H3 x v vl vu l u s3.heap.objs.size Q I4 r1 (Heap.IsSliceOf.new ..) pl pu q3;show wpAny (model X.prog X.w) X.A (subscriptTail e (.Slice lo hi none p2) v (.ref s3.heap.objs.size)) (EP X pins σ Q) X.xe { s3 with heap:=s3.heap.push { cls:=.type "slice",data:=.fields #[vl,vu,.none] } };exact tail_any (ops:=[.ref s3.heap.objs.size,v]) ht hT hg (by with_unfolding_all rfl)
def jX(xs:List V)(lo hi:Option Int):List V:=(xs.drop (HT.sIx xs.length 0 lo)).take (HT.sIx xs.length xs.length hi - HT.sIx xs.length 0 lo)
theorem gH(xs:List V)(lo hi:Option Int):(jX xs lo hi).length≤xs.length:=by
 unfold jX;rw[J6,Ld];symm
def GZ(K:PySem.W.Frag):V->Option Int->Option Int->Hp->VK->Prop:=fun x lo hi H Q=>∃a xs,x=.ref a/\SqT K H a xs /\
 ¬(HT.sIx xs.length 0 lo=0/\HT.sIx xs.length xs.length hi=xs.length)/\∀p,H p=none->Q (.ref p) (upd H p (.tup (jX xs lo hi)))
theorem u0:SlR X (GZ X.K):=by
 intro pins s σ H x v vl vu lo hi sl Q I rx hs pl pu h;obtain⟨a,xs,rfl,hx,hw,q⟩:=h;cases rx;obtain⟨its,r,ht,hz⟩:=I.tuple hx;have hlen:its.toArray.size=xs.length:=by rw[JC];exact r.length.symm
 refine⟨"tuple",_,PyProof.Rows.slot_tuple_getitem.lookup,ht.typeIs,?_⟩;refine HT.fk ht hs pl pu (by rw[hlen];exact hw) ?_ (by rw[hlen];exact hz);rw[hlen];refine⟨.ref s.heap.objs.size,_,I.laid (t':=s.toks) (o:=.tup (jX xs lo hi)) (fun b ob q=>Js _ q) (Jy _) ?_,rfl,q _ (I.hok.fresh (Jy _))⟩;exact⟨JY (gH xs lo hi) hz,_,(r.drop (HT.sIx xs.length 0 lo)).take (HT.sIx xs.length xs.length hi - HT.sIx xs.length 0 lo),IsTup.new _ _⟩
def Fu(K:PySem.W.Frag):R2:=fun x y H Q=>∃a b xs ys,x=.ref a/\y=.ref b/\SqT K H a xs/\SqT K H b ys/\xs≠[]/\xs.length+ys.length≤sizeLine /\
 (ys=[]->Q (.ref a) H)/\(ys≠[]->∀p,H p=none->Q (.ref p) (upd H p (.tup (xs++ys))))
theorem Vals.nil_iff(r:Vals xs us):us=[]↔xs=[]:=by
 cases r with
 | nil=>simp
 | cons _ _=>simp
theorem xx:OpR X (binaryOp .Add) (Fu X.K):=by
 intro pins s σ H x y v u Q I rx ry h;obtain⟨a,b,xs,ys,rfl,rfl,ha,hb,hx,hz,q1,q2⟩:=h;cases rx;cases ry;obtain⟨its,r1,p1,_⟩:=I.tuple ha;obtain⟨its2,r2,p2,_⟩:=I.tuple hb;refine HT.xb p1 p2 (fun z=>hx (r1.nil_iff.mp z)) (fun z=>⟨.ref a,H,I,rfl,q1 (r2.nil_iff.mp z)⟩) (fun z=>?_) (by rw[←r1.length,← r2.length];exact hz);refine⟨.ref s.heap.objs.size,_,I.laid (t':=s.toks) (o:=.tup (xs++ys)) (fun b ob q=>Js _ q) (Jy _) ?_,rfl,q2 (fun w=>z (r2.nil_iff.mpr w)) _ (I.hok.fresh (Jy _))⟩;exact⟨by rw[Jr];exact hz,_,r1.append r2,IsTup.new _ _⟩
end
end
section
def ixN(n:Nat)(i:Int):Option Nat:=if 0≤i then(if i<n then some i.toNat else none)else if -(n:Int)≤i then some (i+n).toNat else none
def atI{α:Type}(xs:List α)(i:Int):Option α:=(ixN xs.length i).bind fun j=>xs[j]?
theorem qu(h:ixN n i=some j):seqIndex? i n=some j/\j<n/\-(n:Int)≤i/\i<n:=by
 unfold ixN at h;by_cases h0:0≤i
 ·rw[JL h0]at h;by_cases h1:i<n
  ·rw[JL h1]at h;have e:i.toNat=j:=JT h;exact⟨by rw[seqIndex_of h0 h1,e],by symm,by symm,h1⟩
  ·rw[JK h1]at h;cases h
 ·rw[JK h0]at h;by_cases h1:-(n:Int)≤i
  ·rw[JL h1]at h;have e:(i+n).toNat=j:=JT h;exact⟨by rw[seqIndex_neg (by symm) h1,e],by symm,h1,by symm⟩
  ·rw[JK h1]at h;cases h
theorem oQ{xs:List α}{v:α}(h:atI xs i=some v):∃j,seqIndex? i xs.length=some j/\xs[j]?=some v/\j<xs.length/\-(xs.length:Int)≤i/\i<xs.length:=by
 unfold atI at h;cases e:ixN xs.length i with
 | none=>rw[e]at h;cases h
 | some j =>
  rw[e]at h;obtain⟨h1,h2,h3,h4⟩:=qu e;exact⟨j,h1,h,h2,h3,h4⟩
def kC(b:Expr):Prop:=∀o i,subscripted b false o i=operate [o,i] (getItem o i)
def IxR(X:Cx)(r:R2):Prop :=
 ∀(value slice:Expr) (pins:List (Addr×Obj)) (s:Shared) (σ:St) (H:Hp) (x y:V) (v u:Value) (Q:VK),Inv X pins σ H s->RelV x v->RelV y u->r x y H Q ->
  subscripted slice false v u=operate [v,u] (getItem v u)->wpAny (model X.prog X.w) X.A (subscriptTail value slice v u) (EP X pins σ Q) X.xe s
def MtR(X:Cx)(id:String)(r:V->List V->Hp->VK->Prop):Prop :=
 ∀(pins:List (Addr×Obj)) (s:Shared) (σ:St) (H:Hp) (x:V) (xs:List V) (v:Value) (us:List Value) (Q:VK),Inv X pins σ H s->RelV x v->Vals xs us->r x xs H Q ->
  wpAny (model X.prog X.w) X.A (call (.builtin id) (v::us)) (EP X pins σ Q) X.xe s
section
variable {X:Cx}{a b:Expr}{ta tb:TE}{pos:Pos}
theorem IxR.or(h:IxR X r)(h':IxR X r'):IxR X (fun x y H Q=>r x y H Q∨r' x y H Q):=by
 intro value slice pins s σ H x y v u Q I rx ry q hs;rcases q with q | q
 ·exact h value slice pins s σ H x y v u Q I rx ry q hs
 ·exact h' value slice pins s σ H x y v u Q I rx ry q hs
theorem Eu(hr:IxR X r)(ha:PE X a ta)(hb:PE X b tb)(hs:kC b):PE X (.Subscript a b pos) (tOp r ta tb):=by
 intro pins s σ H Q I h;exact Subscript_ (z9 ha hb I h fun v u s2 x y H2 I2 rx ry q=>hr a b pins s2 σ H2 x y v u Q I2 rx ry q (hs _ _))
def BD(K:PySem.W.Frag):R2:=fun x y H Q=>∃p xs i v,x=.ref p/\y=.int i/\SqL K H p xs/\atI xs i=some v/\Q v H
def Bm(K:PySem.W.Frag):R2:=fun x y H Q=>∃p xs i v,x=.ref p/\y=.int i/\SqT K H p xs/\atI xs i=some v/\Q v H
theorem yL:IxR X (BD X.K):=by
 intro value slice pins s σ H x y v u Q I rx ry h hs;obtain⟨p,xs,i,z,rfl,rfl,hq,he,q⟩:=h;cases rx;obtain⟨t,rfl⟩:=ry;obtain⟨its,r,pl,hz⟩:=I.list hq;obtain⟨j,h1,h2,h3,h4,h5⟩:=oQ he;obtain⟨w,ew,rw'⟩:=r.get h2;have hl:=r.length;have hn:=ki;have fin:EP X pins σ Q w s:=⟨z,H,I,rw',q⟩;by_cases h0:0≤i
 ·have hj:i.toNat=j:=by
   rw[seqIndex_of h0 h5]at h1;exact JT h1
  exact item_listR pl.isList h0 (by symm) (by rw[hj];simpa using ew) fin hs
 ·have hj:(i+(its.toArray.size:Int)).toNat=j:=by
   rw[seqIndex_neg (by symm) h4]at h1;rw[JC,← hl];exact JT h1
  exact subscriptTail_builtinR (x:=w) pl.isList.typeIs slot_list_getitem.lookup
   (wpAny_getItem_list_neg (Q:=fun r s'=>r=w/\EP X pins σ Q r s') pl.isList (by symm) (by rw[JC]<;>symm) (by symm) (by rw[hj];simpa using ew) ⟨rfl,fin⟩) hs
theorem Ah:IxR X (Bm X.K):=by
 intro value slice pins s σ H x y v u Q I rx ry h hs;obtain⟨p,xs,i,z,rfl,rfl,hq,he,q⟩:=h;cases rx;obtain⟨t,rfl⟩:=ry;obtain⟨its,r,pl,hz⟩:=I.tuple hq;obtain⟨j,h1,h2,h3,h4,h5⟩:=oQ he;obtain⟨w,ew,rw'⟩:=r.get h2;have hl:=r.length;have hn:=ki;have fin:EP X pins σ Q w s:=⟨z,H,I,rw',q⟩;exact subscriptTail_builtinR (x:=w) pl.typeIs slot_tuple_getitem.lookup
  (getItem_tuple (j:=j) (Q:=fun r s'=>r=w/\EP X pins σ Q r s') pl (by symm) (by symm) (by rw[JC,← hl];exact h1) (by simpa using ew) ⟨rfl,fin⟩) hs
theorem ot(its:List Value)(n j:Nat)(u:Value):Obj.mapSeq (·.setIfInBounds j u) { cls:=.type "list",data:=.seq its.toArray n }={ cls:=.type "list",data:=.seq (its.set j u).toArray n }:=by
 simp[Obj.mapSeq]
theorem Inv.lst{pins:List (Addr×Obj)}{σ:St}{H:Hp}{s:Shared}{p:Addr}{xs:List V}(I:Inv X pins σ H s)(h:H p=some (.lst xs)) :
  ∃(its:List Value) (n:Nat),Vals xs its/\s.heap.get? p=some { cls:=.type "list",data:=.seq its.toArray n }/\xs.length≤sizeLine:=by
 obtain⟨z,its,n,r,e⟩:=I.hok p _ h;exact⟨its,n,r,e,z⟩
theorem Inv.lstUpd{σ:St}{its its':List Value}(I:Inv X pins σ H s)(h:H p=some (.lst xs))
  (ho:s.heap.get? p=some { cls:=.type "list",data:=.seq its.toArray n }) (hf:f { cls:=.type "list",data:=.seq its.toArray n }={ cls:=.type "list",data:=.seq its'.toArray n' }) (r:Vals ys its') (hz:ys.length≤sizeLine) (t:Nat) :
  Inv X pins σ (upd H p (.lst ys)) { s with heap:=s.heap.update p f,toks:=t }:=by
 have e:(s.heap.update p f).get? p=some { cls:=.type "list",data:=.seq its'.toArray n' }:=by
  rw[Kz f ho (by rw[hf]<;>rfl),hf]
 refine I.write (x:=p) (e:=p) (by rw[h];trivial) (.inl rfl) (fun b u hb q=>(Heap.get?_update_other _ _ (Ne.symm hb)).trans q) ⟨_,e⟩ ?_;exact⟨hz,its',n',r,e⟩
def Er:V->V->V->Hp->(Hp->Prop)->Prop:=fun o i v H Q=>∃p xs k j,o=.ref p/\i=.int k/\H p=some (.lst xs)/\ixN xs.length k=some j/\Q (upd H p (.lst (xs.set j v)))
theorem set_list:i7 X Er:=by
 intro pins s σ H o i v ov iv u Q I ro ri rv h;obtain⟨p,xs,k,j,rfl,rfl,hp,hj,q⟩:=h;cases ro;obtain⟨t,rfl⟩:=ri;obtain⟨its,n,r,ho,hz⟩:=I.lst hp;obtain⟨h1,h2,h3,h4⟩:=qu hj;have hl:=r.length;have hn:=ki;have I':Inv X pins σ (upd H p (.lst (xs.set j v))) { s with heap:=s.heap.update p (Obj.mapSeq (·.setIfInBounds j u)) } :=
  I.lstUpd hp ho (ot its n j u) (r.set rv j) (by rw[Lx];exact hz) s.toks
 by_cases h0:0≤k
 ·have hk:k.toNat=j:=by
   rw[seqIndex_of h0 h4]at h1;exact JT h1
  exact PySem.W.ki_setAt ho h0 (by symm) (by rw[JC,← hl];exact h4) (by rw[hk];exact⟨_,I',q⟩)
 ·have hk:(k+(its.toArray.size:Int)).toNat=j:=by
   rw[seqIndex_neg (by symm) h3]at h1;rw[JC,← hl];exact JT h1
  exact PySem.W.ki_setBack ho (by symm) (by rw[JC,← hl];exact h3) (by symm) (by rw[hk];exact⟨_,I',q⟩)
theorem jU(lo hi:Option Int)(n:Nat):(sliceBounds lo hi none n).1=((HT.sIx n 0 lo:Nat):Int)/\(sliceBounds lo hi none n).2.1=((HT.sIx n n hi:Nat):Int)/\(sliceBounds lo hi none n).2.2=1:=by
 refine⟨?_,?_,rfl⟩
 ·cases lo with
  | none=>simp[sliceBounds,HT.sIx]
  | some i =>
   simp only[sliceBounds,HT.sIx,Option.getD_none,show(1:Int)>0 by decide,if_true];by_cases h:i<0
   ·simp only[h,if_true]<;>symm
   ·simp only[h,if_false]<;>symm
 ·cases hi with
  | none=>simp[sliceBounds,HT.sIx]
  | some i =>
   simp only[sliceBounds,HT.sIx,Option.getD_none,show(1:Int)>0 by decide,if_true];by_cases h:i<0
   ·simp only[h,if_true]<;>symm
   ·simp only[h,if_false]<;>symm
theorem i0(its:List Value)(lo hi:Option Int):slicePick its.toArray lo hi none=((its.drop (HT.sIx its.length 0 lo)).take (HT.sIx its.length its.length hi - HT.sIx its.length 0 lo)).toArray:=by
 obtain⟨h1,h2,h3⟩:=jU lo hi its.toArray.size;unfold slicePick;rw[h1,h2,h3];simp only[sliceRange_one,pick_run,JC]<;>rfl
def FP(K:PySem.W.Frag):V->Option Int->Option Int->Hp->VK->Prop:=fun x lo hi H Q=>∃a xs,x=.ref a/\SqL K H a xs/\∀p,H p=none->Q (.ref p) (upd H p (.lst (jX xs lo hi)))
theorem yq:SlR X (FP X.K):=by
 intro pins s σ H x v vl vu lo hi sl Q I rx hs pl pu h;obtain⟨a,xs,rfl,hx,q⟩:=h;cases rx;obtain⟨its,r,ht,hz⟩:=I.list hx;have hlen:=r.length;refine⟨"list",_,slot_list_getitem.lookup,ht.isList.typeIs,?_⟩;refine wpAny_getItem_list_slice ht.isList hs pl pu .none (by simp) ?_ (by rw[JC]<;>symm);rw[i0,← hlen];refine⟨.ref s.heap.objs.size,_,I.laid (t':=s.toks) (o:=.lst (jX xs lo hi)) (fun b ob q=>Js _ q) (Jy _) ?_,rfl,q _ (I.hok.fresh (Jy _))⟩;exact⟨JY (gH xs lo hi) hz,_,0,(r.drop (HT.sIx xs.length 0 lo)).take (HT.sIx xs.length xs.length hi - HT.sIx xs.length 0 lo),JA _ rfl⟩
def eqV:V->V->Bool
 | .non,.non=>true
 | .bl a,.bl b=>a==b
 | .bl a,.int b=>(if a then 1 else 0)==b
 | .int a,.bl b=>a==(if b then 1 else 0)
 | .int a,.int b=>a==b
 | .str a,.str b=>a==b
 | _,_=>false
def inV(x:V)(xs:List V):Bool:=xs.any fun y=>eqV y x
theorem ax:cf X (.builtin "len") (fun xs H Q=>∃p ys,xs=[.ref p]/\(SqL X.K H p ys∨SqT X.K H p ys)/\Q (.int ys.length) H):=by
 intro pins s σ H xs us Q I r h;obtain⟨p,ys,rfl,hq,q⟩:=h;obtain⟨u,rfl,rx⟩:=vals1 r;cases rx;have hn:=ki;rcases hq with hq | hq
 ·obtain⟨its,r',pl,hz⟩:=I.list hq;have hlen:=r'.length;exact Calls.call_len_list pl.isList (by simp only[JC]<;>symm) ⟨.int ys.length,H,I.tok _,⟨s.toks+1,by rw[JC,hlen]⟩,q⟩
 ·obtain⟨its,r',pl,hz⟩:=I.tuple hq;have hlen:=r'.length;exact len_tuple pl (by simp only[JC]<;>symm) ⟨.int ys.length,H,I.tok _,⟨s.toks+1,by rw[JC,hlen]⟩,q⟩
theorem bL:cf X (.type "list") (fun xs H Q=>∃p ys,xs=[.ref p]/\(SqL X.K H p ys∨SqT X.K H p ys)/\∀l,H l=none->Q (.ref l) (upd H l (.lst ys))):=by
 intro pins s σ H xs us Q I r h;obtain⟨p,ys,rfl,hq,q⟩:=h;obtain⟨u,rfl,rx⟩:=vals1 r;cases rx;have fin:∀(its:List Value),Vals ys its->ys.length≤sizeLine->∀(h':Heap) (c':Nat),(∀b o',s.heap.get? b=some o'->h'.get? b=some o') ->
   h'.get? s.heap.objs.size=some { cls:=.type "list",dict:=none,data:=.seq its.toArray c',slots:=#[] }->EP X pins σ Q (.ref s.heap.objs.size) { s with heap:=h' }:=fun its r' hz h' c' kp e =>
  ⟨.ref s.heap.objs.size,_,I.laid (t':=s.toks) kp (Jy _) (show bP X.prog X.w _ h' _ (.lst ys)from⟨hz,its,c',r',e⟩),rfl,q _ (I.hok.fresh (Jy _))⟩
 rcases hq with hq | hq
 ·obtain⟨its,r',pl,hz⟩:=I.list hq;have hlen:=r'.length;obtain⟨o,ho,hc,n,hd⟩:=pl.isList;exact call_list_seq p (.inl rfl) ho hc hd (fun h' c' kp e=>fin its r' hz h' c' kp e) (by simp only[JC]<;>symm)
 ·obtain⟨its,r',pl,hz⟩:=I.tuple hq;have hlen:=r'.length;obtain⟨o,ho,hc,n,hd⟩:=pl;exact call_list_seq p (.inr rfl) ho hc hd (fun h' c' kp e=>fin its r' hz h' c' kp e) (by simp only[JC]<;>symm)
theorem aL:cf X (.type "tuple") (fun xs H Q=>∃p ys,xs=[.ref p]/\((SqL X.K H p ys/\∀l,H l=none->Q (.ref l) (upd H l (.tup ys)))∨(SqT X.K H p ys/\Q (.ref p) H))):=by
 intro pins s σ H xs us Q I r h;obtain⟨p,ys,rfl,h⟩:=h;obtain⟨u,rfl,rx⟩:=vals1 r;cases rx;rcases h with⟨hq,q⟩ |⟨hq,q⟩
 ·obtain⟨its,r',pl,hz⟩:=I.list hq;have hlen:=r'.length;refine call_tuple_list pl.isList (fun h' kp=>?_) (by simp only[JC]<;>symm);have I1:Inv X pins σ H { s with heap:=h' }:=I.kept (t':=s.toks) kp;have I2:Inv X pins σ (upd H h'.objs.size (.tup ys)) { s with heap:=h'.push { cls:=.type "tuple",data:=.seq its.toArray } } :=
   I1.laid (t':=s.toks) (fun b o e=>Js _ e) (Jy _) (show bP X.prog X.w _ _ _ (.tup ys)from⟨hz,its,r',IsTup.new _ _⟩)
  exact⟨.ref h'.objs.size,_,I2,rfl,q _ (I1.hok.fresh (Jy _))⟩
 ·obtain⟨its,r',pl,hz⟩:=I.tuple hq;exact call_tuple_same pl ⟨.ref p,H,I,rfl,q⟩
def tyV(K:PySem.W.Frag)(T:String)(x:V)(H:Hp):Prop:=match x with
 | .str _=>T="str"
 | .int _=>T="int"
 | .ref p=>(T="list"/\∃xs,SqL K H p xs)∨(T="tuple"/\∃o,K.lookup p=some o/\o.cls=.type "tuple"/\o.dict=none) ∨
   (T="dict"/\((∃kvs,H p=some (.dK kvs))∨∃kvs,H p=some (.dT kvs)))∨(T="set"/\∃S n,H p=some (.set S n))
 | _=>False
theorem uh{σ:St}(I:Inv X pins σ H s)(r:RelV x v)(ty:tyV X.K T x H) :
  s.TypeIs v T/\∀a,v=.ref a->∃ob,s.heap.get? a=some ob/\ob.dict=none:=by
 cases x with
 | str z =>
  obtain⟨t,rfl⟩:=r;cases (show T="str" from ty);exact⟨typeIs_str s z t,fun _ e=>nomatch e⟩
 | int i =>
  obtain⟨t,rfl⟩:=r;cases (show T="int" from ty);exact⟨typeIs_int s i t,fun _ e=>nomatch e⟩
 | ref p =>
  cases r;rcases ty with⟨rfl,xs,hq⟩ |⟨rfl,o,hk,hc,hd⟩ |⟨rfl,hk⟩ |⟨rfl,S,n,hk⟩
  ·obtain⟨its,_,pl,_⟩:=I.list hq;refine⟨pl.isList.typeIs,fun a e=>?_⟩;cases e;obtain⟨o,n,e,c,hd,_⟩:=pl;exact⟨o,e,hd⟩
  ·refine⟨⟨o,I.kIn p o hk,hc⟩,fun a e=>?_⟩;cases e;exact⟨o,I.kIn _ o hk,hd⟩
  ·have z:∃o,s.heap.get? p=some o/\o.ExactDict:=by
    rcases hk with⟨kvs,hk⟩ |⟨kvs,hk⟩
    ·obtain⟨_,_,_,_,o,_,_,e,ex,_⟩:=I.hok p _ hk;exact⟨o,e,ex⟩
    ·obtain⟨_,_,_,_,o,_,_,e,ex,_⟩:=I.hok p _ hk;exact⟨o,e,ex⟩
   obtain⟨o,e,ex⟩:=z;refine⟨⟨o,e,ex.1⟩,fun a e2=>?_⟩;cases e2;exact⟨o,e,ex.2.1⟩
  ·obtain⟨o,_,_,_,e,ex,_⟩:=I.hok p _ hk;refine⟨⟨o,e,ex.1⟩,fun a e2=>?_⟩;cases e2;exact⟨o,e,ex.2.1⟩
 | _=>exact False.elim ty
def FU(K:PySem.W.Frag)(T:String)(r:V->List V->Hp->VK->Prop)(to:TE):TE:=fun σ H Q=>to σ H fun x H1=>tyV K T x H1/\r x [] H1 Q
def tBM(K:PySem.W.Frag)(T:String)(r:V->List V->Hp->VK->Prop)(to:TE)(t:TA):TE:=fun σ H Q=>to σ H fun x H1=>tyV K T x H1/\t σ H1 fun xs H2=>r x xs H2 Q
variable {o e:Expr}{es:List Expr}{to:TE}{t:TA}{name:Str}{apos cpos:Pos}{T id:String}{r:V->List V->Hp->VK->Prop}
theorem Cm(pa:PlainAttrs T)(slot:Slot T name id)(hty:typeOf (.builtin id)=pure (.type "method_descriptor"))(hm:MtR X id r)(ho:PE X o to)
  (hbase:attributeBase o name X.env (eval o X.env)=eval o X.env:=by rfl) (hline:(apos.endLine==cpos.line)=true:=by rfl):PE X (.Call (.Attribute o name apos) [] [] cpos) (FU X.K T r to):=by
 intro pins s σ H Q I h;refine wpAny_Call_method0_late hbase hline (thn (ho pins s σ H _ I h) fun v s1 y_=>?_);obtain⟨x,H1,I1,r1,ty,q1⟩:=y_;obtain⟨h1,h2⟩:=uh I1 r1 ty;exact⟨T,id,pa,slot,hty,h1,h2,Calls.callWith_builtin rfl (PySem.evalArgs_none (hm pins s1 σ H1 x [] v [] Q I1 r1 .nil q1))⟩
theorem De(pa:PlainAttrs T)(slot:Slot T name id)(hty:typeOf (.builtin id)=pure (.type "method_descriptor"))(hm:MtR X id r)(ho:PE X o to)(ha:PA X (e::es) t)
  (hbase:attributeBase o name X.env (eval o X.env)=eval o X.env:=by rfl)
  (hfew:((backTo cpos (starEach (e::es) X.env)).all (fun x=>!x.1)&&(backToKw cpos (keywordEach [] X.env)).all (fun x=>x.1.isSome)
   && decide ((e::es).length+([]:List Keyword).length+(if ([]:List Keyword).isEmpty then 0 else 1)<30))=true:=by rfl)
  (hline:(apos.endLine==cpos.line)=true:=by rfl) (hs:starEach (e::es) X.env=(false,eval e X.env)::starEach es X.env:=by rfl) (hplain:(backTo cpos (starEach es X.env)).any (·.1)=false:=by rfl) :
  PE X (.Call (.Attribute o name apos) (e::es) [] cpos) (tBM X.K T r to t):=by
 intro pins s σ H Q I h;refine wpAny_Call_method_late hbase hfew hline rfl (thn (ho pins s σ H _ I h) fun v s1 y_=>?_);obtain⟨x,H1,I1,r1,ty,q1⟩:=y_;obtain⟨h1,h2⟩:=uh I1 r1 ty;refine⟨T,id,pa,slot,hty,h1,h2,?_⟩;have hA:=ha cpos pins s1 σ H1 _ I1 q1;rw[hs]at hA ⊢;refine Calls.callWith_builtin (by show(false||(backTo cpos (starEach es X.env)).any (·.1))=false;rw[hplain]<;>rfl) (Calls.evalArgs_plain ?_);exact thn hA fun us s2 ⟨vs,H2,I2,r2,q2⟩=>hm pins s2 σ H2 x vs v us Q I2 r1 r2 q2
end
end
section
def MtM(X:Cx)(id:String)(r:V->List V->Hp->VK->Prop):Prop :=
 ∀(pins:List (Addr×Obj)) (s:Shared) (σ:St) (H:Hp) (x:V) (xs:List V) (v:Value) (us:List Value) (Q:VK),Inv X pins σ H s->RelV x v->Vals xs us->r x xs H Q ->
  wpAny (model X.prog X.w) X.A (call (.builtin id) (v::us)) (EP X pins σ Q) X.xe s
theorem Vals.one:∀{x:V} {us:List Value},Vals [x] us->∃u,us=[u]/\RelV x u
 | _,_,.cons r .nil=>⟨_,rfl,r⟩
theorem Vals.zero:∀{us:List Value},Vals [] us->us=[]
 | _,.nil=>rfl
theorem Vals.dropLast(h:Vals xs us):Vals xs.dropLast us.dropLast:=by
 induction h with
 | nil=>exact .nil
 | cons r t ih =>
  cases t with
  | nil=>exact .nil
  | cons q t'=>exact .cons r ih
theorem nV{α:Type}(l:List α):l.eraseIdx (l.length - 1)=l.dropLast:=by
 induction l with
 | nil=>rfl
 | cons a r ih =>
  cases r with
  | nil=>rfl
  | cons b r =>
   have e:(a::b::r).length - 1=((b::r).length - 1)+1:=by
    have h1:(a::b::r).length=r.length+2:=rfl;have h2:(b::r).length=r.length+1:=rfl;symm
   rw[e,List.eraseIdx_cons_succ,ih]
   all_goals rfl
section
variable {X:Cx}{pins:List (Addr×Obj)}{σ:St}{H:Hp}{s:Shared}{l b:Addr}{xs ys zs:List V}
theorem Inv.lset{its its':List Value}(I:Inv X pins σ H s)(hH:H l=some (.lst xs))
  (e:s.heap.get? l=some { cls:=.type "list",data:=.seq its.toArray n }) (hf:f its.toArray=its'.toArray) (hv:Vals ys its') (hz:ys.length≤sizeLine) :
  Inv X pins σ (upd H l (.lst ys)) { s with heap:=s.heap.update l (Obj.mapSeq f),toks:=t' }:=by
 have q:=PySem.IsL.update e f;rw[hf]at q;refine I.write (x:=l) (e:=l) (by rw[hH];exact trivial) (.inl rfl) (fun b' u hb hu=>(Heap.get?_update_other s.heap (Obj.mapSeq f) (Ne.symm hb)).trans hu) ⟨_,q⟩ ?_;exact⟨hz,its',_,hv,q⟩
theorem Inv.lnew(I:Inv X pins σ H s)(hv:Vals ys its)(hz:ys.length≤sizeLine) :
  Inv X pins σ (upd H s.heap.objs.size (.lst ys)) { s with heap:=s.heap.push { cls:=.type "list",data:=.seq its.toArray },toks:=t' } :=
 I.laid (fun _ _ q=>Js _ q) (Jy _) ⟨hz,its,0,hv,JA _ rfl⟩
theorem Inv.fresh(I:Inv X pins σ H s):H s.heap.objs.size=none:=I.hok.fresh (Jy _)
theorem Inv.lstM(I:Inv X pins σ H s)(hH:H l=some (.lst xs)):xs.length≤sizeLine/\∃(its:List Value) (n:Nat),Vals xs its/\xs.length=its.length/\s.heap.get? l=some { cls:=.type "list",data:=.seq its.toArray n }:=by
 obtain⟨z,its,n,r,e⟩:=I.hok l _ hH;exact⟨z,its,n,r,r.length,e⟩
theorem m9(h:n≤sizeLine):Builtin.List.listTooLong n=false:=by
 unfold Builtin.List.listTooLong;exact KG (by symm)
end
section
variable {X:Cx}
def o5:V->List V->Hp->VK->Prop:=fun x vs H Q=>∃l xs y,x=.ref l/\vs=[y]/\H l=some (.lst xs)/\xs.length<sizeLine/\Q .non (upd H l (.lst (xs++[y])))
theorem bU:MtM X "list.append" o5:=by
 intro pins s σ H x vs v us Q I rx rv h;obtain⟨l,xs,y,rfl,rfl,hH,hz,q⟩:=h;cases rx;obtain⟨u,rfl,ru⟩:=rv.one;obtain⟨z,its,n,r,hl,e⟩:=I.lstM hH;refine call_meets F.slot_list_append ⟨_,e,rfl⟩ F.entry_list_append (F.args_list_append_2 _ _) (PySem.list_append l its.toArray n u (by rw[JC];symm)) ⟨e,?_⟩;refine⟨.non,_,I.lset (its':=its++[u]) hH e (by simp) (r.append (.cons ru .nil)) ?_,rfl,q⟩;rw[Jr,JZ];symm
def pR:V->List V->Hp->VK->Prop:=fun x vs H Q=>∃l b xs zs,x=.ref l/\vs=[.ref b]/\H l=some (.lst xs)/\H b=some (.lst zs)/\xs.length+zs.length≤sizeLine/\Q .non (upd H l (.lst (xs++zs)))
theorem cT:MtM X "list.extend" pR:=by
 intro pins s σ H x vs v us Q I rx rv h;obtain⟨l,b,xs,zs,rfl,rfl,hH,hB,hz,q⟩:=h;cases rx;obtain⟨u,rfl,ru⟩:=rv.one;cases ru;obtain⟨z,its,n,r,hl,e⟩:=I.lstM hH;obtain⟨z2,its2,n2,r2,hl2,e2⟩:=I.lstM hB;have hsz:its.toArray.size+its2.toArray.size≤sizeLine:=by rw[JC,JC];symm
 have hlong:¬(!its.toArray.isEmpty&&Builtin.List.listTooLong (its.toArray.size+its2.toArray.size))=true:=by
  rw[m9 hsz,Bool.and_false];exact Bool.false_ne_true
 refine call_meets F.slot_list_extend ⟨_,e,rfl⟩ F.entry_list_extend (F.args_list_extend_2 _ _)
  (AutoSeq1.list_extend_list_list_0 l its.toArray n b its2.toArray n2 hlong (by rw[JC];symm) (by symm)) ⟨e,e2,?_⟩
 refine⟨.non,_,I.lset (its':=its++its2) hH e (by simp) (r.append r2) ?_,rfl,q⟩;rw[Jr];symm
def DZ:V->List V->Hp->VK->Prop:=fun x vs H Q=>∃l xs y,x=.ref l/\vs=[]/\H l=some (.lst xs)/\xs[xs.length - 1]?=some y/\Q y (upd H l (.lst xs.dropLast))
theorem Cq:MtM X "list.pop" DZ:=by
 intro pins s σ H x vs v us Q I rx rv h;obtain⟨l,xs,y,rfl,rfl,hH,hy,q⟩:=h;cases rx;have hus:=rv.zero;subst hus;obtain⟨z,its,n,r,hl,e⟩:=I.lstM hH;obtain⟨u,hu,ru⟩:=r.get hy;have hy':its.toArray[its.toArray.size - 1]?=some u:=by
  show its.toArray[its.length - 1]?=some u;rw[←Km,← hl];exact hu
 refine call_meets F.slot_list_pop ⟨_,e,rfl⟩ F.entry_list_pop (F.args_list_pop_1 _) (MeetsSeq.list_pop_last l its.toArray n u hy' (by rw[JC];symm)) ⟨e,?_⟩;refine⟨y,_,I.lset (its':=its.dropLast) hH e ?_ r.dropLast ?_,ru,q⟩
 ·show its.toArray.eraseIdxIfInBounds (its.toArray.size - 1)=its.dropLast.toArray;rw[JC,List.eraseIdxIfInBounds_toArray,nV]
 ·rw[List.length_dropLast];symm
def Fd:R2:=fun x y H Q=>∃l b xs zs,x=.ref l/\y=.ref b/\H l=some (.lst xs)/\H b=some (.lst zs)/\xs.length+zs.length≤sizeLine/\∀p,H p=none->Q (.ref p) (upd H p (.lst (xs++zs)))
theorem Co:OpR X (binaryOp .Add) Fd:=by
 intro pins s σ H x y v u Q I rx ry h;obtain⟨l,b,xs,zs,rfl,rfl,hH,hB,hz,q⟩:=h;cases rx;cases ry;obtain⟨z,its,n,r,hl,e⟩:=I.lstM hH;obtain⟨z2,its2,n2,r2,hl2,e2⟩:=I.lstM hB;refine PySem.P.add_list e e2 ?_ (by rw[JC,JC];symm);have ea:its.toArray++its2.toArray=(its++its2).toArray:=by simp
 rw[ea];exact⟨.ref _,_,I.lnew (t':=s.toks) (r.append r2) (by rw[Jr];symm),rfl,q _ I.fresh⟩
end
section
variable {prog:Program}{w:World}{A:Around}{E:Value->Shared->Prop}{s:Shared}
end
section
variable {X:Cx}
end
end
end L2
namespace Att
open PySem.W PySem.Calls
theorem gM:∀(ns:List Int) (vs:List Value),WellAll P h vs (ns.map WData.int)->IntsAre vs ns:=by
 intro ns
 induction ns with
 | nil =>
  intro vs w;rw[List.map_nil]at w;cases w;exact .nil
 | cons n ns ih =>
  intro vs w;rw[JF]at w;cases w with
  | cons a b =>
   cases a;exact .cons _ _ (ih _ b)
theorem qG{l:OpenLaw}(hn:l.most=some n){P:Params}{h:Heap}{args:List WData}{vals:List Value}
  (hpre:l.row.toRowW.claim.pre args=true) (hwl:WellAll P h vals args) :
  ∃a vs ns,vals=[Value.ref a]/\args=[WData.list (ns.map WData.int)]/\h.get? a=some { cls:=.type "list",data:=.seq vs.toArray }/\IntsAre vs ns/\ns.length≤n:=by
 have hsh:WShape.hasAll [] args [.list .int]=true:=(pre_splitW hpre).1;have hc:l.pre.holds [] { args:=args }=true:=(pre_splitW hpre).2;obtain⟨d,r,rfl,h1,h2⟩:=hasAllW_cons hsh;obtain rfl:=hasAllW_nil h2;obtain⟨xs,rfl,h3⟩:=hasW_list h1;obtain⟨ns,rfl⟩:=items_int h3;have hlen:ns.length≤n:=by
  unfold OpenLaw.pre at hc;have h4:(WTm.not (.lt (.lit (.int (n:Int))) (.len (.arg 0)))).holds [] { args:=[.list (ns.map .int)] }=true:=by
   have h4:=(holds_andW hc).1;rw[hn]at h4;exact h4
  have h5:=condW_of h4 (w_not (w_lt w_lit (w_len_list (w_arg rfl))));rw[Jl]at h5;refine Nat.le_of_not_lt fun q=>?_;have q':(n:Int)<((ns.length:Nat):Int):=by symm
  first
   |(rw[J2 q']at h5;exact absurd h5 (by decide))
   |(simp at h5;symm)
 cases hwl with
 | cons w1 w2 =>
  cases w2;cases w1 with
  | list ho hall=>exact⟨_,_,ns,rfl,rfl,ho,gM ns _ hall,hlen⟩
theorem qJ(l:OpenLaw)(args:List WData):l.row.toRowW.claim.post args (.bool true) args=true :=
 postW_of (r:=l.row.toRowW) (X:=(true==true))
  (show WShape.has [] (.bool true) .bool=true by first | rfl | decide | simp[WShape.has,WShape.arms,WShape.armsAll])
  (show(WTm.eq .res (.lit (.bool true))).value [] { args:=args,res:=some (.bool true),after:=args }=some (.bool (true==true))from w_eq_bool (w_res rfl) w_lit) rfl
theorem my{l:OpenLaw}
  (hn:l.most=some n) (hdf:d.params.defaults=[])
  (call:∀(w:World) (s₀ s₁:Shared) (mg mb:Str->Option Value) (fa:Addr) (o:Obj) (pm cd doc:Value) (a:Addr) (vs:List Value) (ns:List Int),
   Ground q loose [] XP w s₀ mg mb s₁.heap->YP w s₁.heap ->
   s₁.heap.get? fa=some o->o.data=.func (docDef d.name d.params d.body d.scope pm cd doc)->s₁.heap.CodeRec cd d.name->mg d.name=some (.ref fa) ->
   s₁.heap.get? a=some { cls:=.type "list",data:=.seq vs.toArray }->IntsAre vs ns->ns.length≤n->s₁.gens=#[] ->
   codeAny (model l.prog w) callerA (.call (.ref fa) ⟨[.ref a],[]⟩) (fun r s'=>r=.ok (.ret (.bool true))/\OldK s₁.heap s'.heap/\s'.os=s₁.os/\AllBare s'.gens) s₁) :
  WalkO q loose XP YP l.row.toRowW d [] (fun f vs=>PySem.call f vs):=by
 intro w s₀ s₁ mg mb G Y fa o pm cd doc dV kV ho hd hcd hD hmg hg args vals as hpre hlay hrd hwl hlo;obtain rfl:dV=.none:=Dflts.none hD hdf;obtain rfl:kV=.none:=Dflts.noKw hD;obtain⟨a,vs,ns,rfl,rfl,hobj,hints,hlen⟩:=qG hn hpre hwl;refine enter_call (K5 (call w s₀ s₁ mg mb fa o pm cd doc a vs ns G Y ho (fd_plain hd) hcd hmg hobj hints hlen hg) fun r s' hq=>?_);obtain⟨rfl,h2,h3,h4⟩:=hq;exact⟨.inl ⟨.bool true,.bool true,[],rfl,fun _=>rfl,.bool true,qJ l _,fun _=>⟨List.Pairwise.nil,fun _ hm=>(nomatch hm)⟩⟩,h2,h3,h4⟩
section
variable {prog:Program}{w:World}{A:Around}{E:Value->Shared->Prop}{s:Shared}{K:Frag}
def ledger(h:Heap)(L d:Addr):List (Addr×Obj):=(List.range h.objs.size).filterMap fun a=>if a=L∨a=d then none else(h.get? a).map fun o=>(a,o)
end
end Att
namespace L2
section
theorem eL:∀{vs:List Value} {ns:List Int},IntsAre vs ns->Vals (ns.map V.int) vs
 | _,_,.nil=>.nil
 | _,_,.cons n t h=>.cons ⟨t,rfl⟩ (eL h)
def rm(H:Hp):Prop:=∀b,H b=none∨∃o xs,H b=some (.frz o (.lst xs))
theorem uA{K:PySem.W.Frag}
  (KX:K.In s₁.heap) (hns:s₁.heap.Ns mainGlobals mg) (hb:s₁.heap.Ns builtinsNs mb) (hbb:∀x:Str,x≠"__name__"->mb x=bootBuiltins x) (hlim:s₁.heap.NoLimit) (hg:s₁.gens=#[])
  (ha:s₁.heap.get? a=some { cls:=.type "list",data:=.seq vs.toArray }) (hi:IntsAre vs ns) (hl:ns.length≤sizeLine) (hr:bS k callerA)
  (F:∀base:Heap,K.In base->base.Ns mainGlobals mg->fH P w K mg base CX k fa fd [x] sp) (hbind:∀(s:Shared) (u:Value),BindsTo s fd ⟨[u],[]⟩ [(x,u)])
  (hsp:∀H:Hp,rm H->SqL K H a (ns.map V.int)->sp [.ref a] H (fun v _=>v=.bl true) fun _ _ _=>False)
  (hCX:∀H e s',CX [] H s₁ (fun _ _ _=>False) e s'->False) :
  codeAny (model P w) callerA (.call (.ref fa) ⟨[.ref a],[]⟩) (fun r s'=>r=.ok (.ret (.bool true))/\OldK s₁.heap s'.heap/\s'.os=s₁.os/\AllBare s'.gens) s₁:=by
 have rv:=eL hi;have lenV:=hi.length;have core:∀H:Hp,rm H->SqL K H a (ns.map V.int)->HOk P w H s₁.heap->(∀b,H b≠none->b=a)->(H a≠none->K.lookup a=none) ->
   codeAny (model P w) callerA (.call (.ref fa) ⟨[.ref a],[]⟩) (fun r s'=>r=.ok (.ret (.bool true))/\OldK s₁.heap s'.heap/\s'.os=s₁.os/\AllBare s'.gens) s₁:=by
  intro H hO hS hok hA hK;have base_of:∀{b:Addr} {o:Obj},s₁.heap.get? b=some o->H b=none->(kB s₁.heap H).get? b=some o:=fun e n=>sM e n;have noA:∀{b:Addr} {o:Obj} {es:Array DictEntry} {ep:Nat},s₁.heap.get? b=some o->o.data=.dict es ep->H b=none:=fun {b o es ep} e d=>by
   cases q:H b with
   | none=>rfl
   | some u =>
    have e':b=a:=hA b (by rw[q];simp);subst e';rw[ha]at e;cases e;have d':Data.seq vs.toArray _=Data.dict es ep:=d;cases d'
  have nsK:∀{b:Addr} {m:Str->Option Value},s₁.heap.Ns b m->(kB s₁.heap H).Ns b m:=fun {b m} ⟨o,es,ep,e,d,r⟩=>⟨o,es,ep,base_of e (noA e d),d,r⟩;have hKb:K.In (kB s₁.heap H):=fun b o e=>base_of (KX b o e) (by
   cases q:H b with
   | none=>rfl
   | some u =>
    have e':b=a:=hA b (by rw[q];simp);subst e';rw[hK (by rw[q];simp)]at e;cases e)
  have hM:Mod K mg (kB s₁.heap H):=⟨hKb,nsK hns,⟨mb,nsK hb,hbb⟩,let ⟨mc,h1,h2⟩:=hlim;⟨mc,nsK h1,h2⟩⟩;have e0:nH P w K mg (kB s₁.heap H) callerA [] s₁ H:=⟨rfl,hM,fun b o e=>xY e,Nat.le_of_eq (qV _ _),trivial,fun b hb=>absurd (show b∈([]:List Addr)from hb) (by simp),hok,.of_eq hg⟩;refine K5 ((F _ hKb (nsK hns)).run callerA [] s₁ H ⟨[.ref a],[]⟩ [.ref a] [.ref a] _ _ hr e0 (hbind s₁ (.ref a)) (.cons rfl .nil) (hsp H hO hS)) fun r s' h=>?_;cases r with
  | error e=>exact(hCX H e s' h).elim
  | ok fl =>
   cases fl with
   | next=>exact False.elim h
   | brk=>exact False.elim h
   | cont=>exact False.elim h
   | ret u =>
    obtain⟨v,H',os,bare,un,hok',r',q⟩:=h;have q':v=.bl true:=q;subst q';obtain rfl:u=Value.bool true:=r';refine⟨rfl,OldK.of_keep fun b o e=>?_,os,bare⟩;cases q:H b with
    | none=>exact un.keep b o e q (by intro z;exact absurd (show b∈([]:List Addr)from z) (by simp)) (by simp)
    | some u =>
     rcases hO b with z |⟨ob,xs,z⟩
     ·rw[q]at z;cases z
     ·have z2:=un.frzs b ob _ z;obtain⟨e1,_⟩:=hok b _ z;obtain⟨e2,_⟩:=hok' b _ z2;rw[e]at e1;cases e1;exact e2
 cases hk:K.lookup a with
 | some o =>
  have e:=KX a o hk;rw[ha]at e;cases e;refine core (fun _=>none) (fun _=>.inl rfl) (.inr ⟨_,vs.toArray,_,hk,rfl,rfl,rfl,by rw[JC,lenV];exact hl,by simpa using rv⟩) (fun b u z=>by have z':(none:Option HO)=some u:=z;cases z') (fun b z=>absurd rfl z) fun z=>absurd rfl z
 | none =>
  refine core (fun b=>if b=a then some (.frz { cls:=.type "list",data:=.seq vs.toArray } (.lst (ns.map V.int)))else none) (fun b=>?_) (.inl (.inr ⟨{ cls:=.type "list",data:=.seq vs.toArray },JL rfl⟩)) (fun b u z=>?_) (fun b z=>?_) fun _=>hk
  ·by_cases hb:b=a
   ·exact .inr ⟨_,_,JL hb⟩
   ·exact .inl (JK hb)
  ·by_cases hb:b=a
   ·have z':=(JL hb).symm.trans z;cases z';subst hb;exact⟨ha,by rw[Jl];exact hl,vs,_,rv,ha⟩
   ·have z':=(JK hb).symm.trans z;cases z'
  ·by_cases hb:b=a
   ·exact hb
   ·exact absurd (JK hb) z
end
section
abbrev KOf{K:PySem.W.Frag}{h:Heap}(_:K.In h):PySem.W.Frag:=K
theorem qh{l:PySem.W.OpenLaw}{K:Params->PySem.W.Frag}{CX:World->CXT}{sp:World->Sp}
  (hn:l.most=some n) (hn2:n≤sizeLine) (hdf:d.params.defaults=[]) (hr:bS k callerA)
  (hY:∀(w:World) (h:Heap),YP w h->(K w.params).In h)
  (F:∀(w:World) (mg:Str->Option Value) (fa:Addr) (h:Heap),(K w.params).In h->h.Ns mainGlobals mg->mg d.name=some (.ref fa) ->
   ∃fd:FuncData,(∀(s:Shared) (u:Value),BindsTo s fd ⟨[u],[]⟩ [(x,u)]) /\
    ∀base:Heap,(K w.params).In base->base.Ns mainGlobals mg->fH l.prog w (K w.params) mg base (CX w) k fa fd [x] (sp w))
  (hsp:∀(w:World) (H:Hp) (a:Addr) (ns:List Int),ns.length≤n->rm H->SqL (K w.params) H a (ns.map V.int)->sp w [.ref a] H (fun v _=>v=.bl true) fun _ _ _=>False)
  (hCX:∀(w:World) (H:Hp) (s:Shared) (e:Value) (s':Shared),CX w [] H s (fun _ _ _=>False) e s'->False) :
  PySem.W.WalkO q loose XP YP l.row.toRowW d [] (fun f vs=>PySem.call f vs):=by
 refine Att.my hn hdf fun w s₀ s₁ mg mb fa o pm cd doc a vs ns G Y ho hd hcd hmg hobj hints hlen hg=>?_;have KX:=hY w _ Y;obtain⟨fd,hb,hF⟩:=F w mg fa _ KX G.T.g hmg;exact uA KX G.T.g G.T.b G.T.builtins G.T.nolimit hg hobj hints (JY hlen hn2) hr hF hb (fun H hO hS=>hsp w H a ns hlen hO hS) fun H e s'=>hCX w H s₁ e s'
theorem tF{l:PySem.W.OpenLaw}{K:Params->PySem.W.Frag}{sp:PySem.W.Frag->Sp}
  (hn:l.most=some n) (hn2:n≤sizeLine) (hdf:d.params.defaults=[]) (hr:bS k callerA)
  (hY:∀(w:World) (h:Heap),YP w h->(K w.params).In h)
  (F:∀(w:World) (mg:Str->Option Value) (fa:Addr) (h:Heap),(K w.params).In h->h.Ns mainGlobals mg->mg d.name=some (.ref fa) ->
   ∃fd:FuncData,(∀(s:Shared) (u:Value),BindsTo s fd ⟨[u],[]⟩ [(x,u)]) /\
    ∀base:Heap,(K w.params).In base->base.Ns mainGlobals mg->fH l.prog w (K w.params) mg base CX k fa fd [x] (sp (K w.params)))
  (hsp:∀(K:PySem.W.Frag) (H:Hp) (a:Addr) (ns:List Int),ns.length≤n->rm H->SqL K H a (ns.map V.int)->sp K [.ref a] H (fun v _=>v=.bl true) fun _ _ _=>False)
  (hCX:∀(H:Hp) (s:Shared) (e:Value) (s':Shared),CX [] H s (fun _ _ _=>False) e s'->False) :
  PySem.W.WalkO q loose XP YP l.row.toRowW d [] (fun f vs=>PySem.call f vs) :=
 qh (K:=K) (CX:=fun _=>CX) (sp:=fun w=>sp (K w.params)) hn hn2 hdf hr hY F (fun w H a ns h1 h2 h3=>hsp (K w.params) H a ns h1 h2 h3) fun _ H s e s'=>hCX H s e s'
end
section
def inClass(s:Stmt)(j:Nat):Stmt:=match s with
 | .ClassDef _ _ _ body _ _ _ _ _ _ _=>body.getD j (.Pass ⟨0,0,0,0⟩)
 | _=>.Pass ⟨0,0,0,0⟩
def gZ(s:Stmt):Arguments:=match s with
 | .FunctionDef _ a _ _ _ _ _ _ _ _=>a
 | _=>{ posonlyargs:=[],args:=[],vararg:=none,kwonlyargs:=[],kw_defaults:=[],kwarg:=none,defaults:=[] }
def dM(s:Stmt):List Stmt:=match s with
 | .FunctionDef _ _ b _ _ _ _ _ _ _=>b
 | _=>[]
def ai(s:Stmt):Scope:=match s with
 | .FunctionDef _ _ _ _ _ _ sc _ _ _=>sc
 | _=>{ kind:=.function,names:=[],isGenerator:=false,isCoroutine:=false }
abbrev CX0:CXT:=fun _ _ _ _ _ _=>False
abbrev E0:XK:=fun _ _ _=>False
theorem vD:Passes CX0 X E0:=fun _ _ _ _ _ _ _ h=>h.elim
structure Fun (K:PySem.W.Frag) (x qual:Str) (st:Stmt) (f:Addr) (fd:FuncData):Prop where
 ex:∃(oc:Value) (od:Option Addr) (kV doc pm:Value) (an:Option Addr) (cdv ct:Value) (osl:Array (Option Value)),
  fd=PySem.W.fnOf x qual (gZ st) (dM st) (ai st) .none kV doc pm an cdv ct/\K.lookup f=some ⟨oc,od,.func fd,osl⟩/\PySem.W.codeIn K cdv qual=true
 kp:PySem.W.keepIn K (.ref f)=true
section
variable {P:Program}{w:World}{K:PySem.W.Frag}{mg:Str->Option Value}{base:Heap}
theorem Fun.ok{st:Stmt}(F:Fun K x qual st f fd)(S:aw N ps (ai st))(len:∀vs H Q E,sp vs H Q E->vs.length=ps.length)
  (hbody:∀(cdv:Value) (A:Around) (outer:List Env) (s:Shared) (H:Hp) (vs:List V) (Q:VK) (E:XK),bS k (A.deeper (envOfC qual (ai st) s.heap.objs.size f cdv))->sp vs H Q E ->
   ∃t,PSs (kz CX0 P w K mg base N qual (ai st) f cdv A outer s H E).nox (dM st) t/\t { nx:=fun _ H'=>Q .non H',rt:=Q } (start N vs) H):fH P w K mg base CX0 (k+1) f fd ps sp:=by
 obtain⟨oc,od,kV,doc,pm,an,cdv,ct,osl,rfl,lk,hcd⟩:=F.ex;refine zi lk hcd S len fun A outer s H vs Q E hr hsp=>?_;obtain⟨t,h,q⟩:=hbody cdv A outer s H vs Q E hr hsp;exact⟨t,h.nox,q⟩
theorem Fun.binds{st:Stmt}(F:Fun K x qual st f fd)
  (h:∀(kV doc pm:Value) (an:Option Addr) (cdv ct:Value) (us:List Value),us.length=ps.length->bindArgs (PySem.W.fnOf x qual (gZ st) (dM st) (ai st) .none kV doc pm an cdv ct) ⟨us,[]⟩=pure (ps.zip us)):Binds K fd ps []:=by
 obtain⟨oc,od,kV,doc,pm,an,cdv,ct,osl,rfl,lk,hcd⟩:=F.ex;exact .all (h kV doc pm an cdv ct)
theorem BS{st:Stmt}{kV doc pm cdv ct:Value}(l:K.lookup f=some ⟨oc,od,.func (PySem.W.fnOf x qual (gZ st) (dM st) (ai st) .none kV doc pm an cdv ct),osl⟩)
  (c:PySem.W.codeIn K cdv qual=true) (k:PySem.W.keepIn K (.ref f)=true):Fun K x qual st f (PySem.W.fnOf x qual (gZ st) (dM st) (ai st) .none kV doc pm an cdv ct):=⟨⟨oc,od,kV,doc,pm,an,cdv,ct,osl,rfl,l,c⟩,k⟩
end
theorem bC(h:n≤1000):n<sizeLine:=Nat.lt_of_le_of_lt h (by decide)
section
variable {X:Cx}
theorem pv(i:Nat){x:Str}{pos:Pos}(hN:X.N[i]?=some x:=by rfl)(hv:Vis X.env.scope x:=by first | exact Or.inl rfl | exact Or.inr (Or.inl rfl) | exact Or.inr (Or.inr rfl))(hd:(x==("__debug__":Str))=false:=by decide)
  (hcd:(x==("__classdict__":Str))=false:=by decide):PE X (.Name x pos) (Ek i):=uj hN hv hd hcd
end
theorem kf{A B:Prop}(h:B):if false=true then A else B:=by
 rw[JK Bool.false_ne_true];exact h
theorem j3{A B:Prop}(h:A):if true=true then A else B:=by
 rw[JL rfl];exact h
def cV(H H':Hp):Prop:=∀b o,H b=some o->H' b=some o
end
end L2
set_option maxHeartbeats 4000000
namespace U
open L2
section
inductive PV where
 | non | bl (b:Bool) | int (i:Int) | str (x:Str) | ref (a:Addr) | tup (l:List PV) | fls (l:List PV) | oth (v:V)
def FzL(K:PySem.W.Frag)(H:Hp)(a:Addr)(xs:List V):Prop :=
 (∃o,H a=some (.frz o (.lst xs))) ∨
  ∃(o:Obj) (its:Array Value) (n:Nat),K.lookup a=some o/\o.cls=.type "list"/\o.dict=none/\o.data=.seq its n/\its.size≤sizeLine/\Vals xs its.toList
theorem FzL.sq{K:PySem.W.Frag}(h:FzL K H a xs):SqL K H a xs:=by
 rcases h with h | h
 ·exact .inl (.inr h)
 ·exact .inr h
structure Kp (H H1:Hp):Prop where
 t:∀a us,H a=some (.tup us)->H1 a=some (.tup us)
 z:∀a o u,H a=some (.frz o u)->H1 a=some (.frz o u)
theorem Kp.sqT{K:PySem.W.Frag}(k:Kp H H1){a:Addr}{us:List V}(h:SqT K H a us):SqT K H1 a us:=by
 rcases h with(h |⟨o,h⟩) | h
 ·exact .inl (.inl (k.t _ _ h))
 ·exact .inl (.inr ⟨o,k.z _ _ _ h⟩)
 ·exact .inr h
theorem Kp.fzL{K:PySem.W.Frag}(k:Kp H H1){a:Addr}{us:List V}(h:FzL K H a us):FzL K H1 a us:=by
 rcases h with⟨o,h⟩ | h
 ·exact .inl ⟨o,k.z _ _ _ h⟩
 ·exact .inr h
section
variable (K:PySem.W.Frag)
mutual
def RP(H:Hp):PV->V->Prop
 | .non,v=>v=.non
 | .bl b,v=>v=.bl b
 | .int i,v=>v=.int i
 | .str x,v=>v=.str x
 | .ref a,v=>v=.ref a
 | .oth w,v=>v=w
 | .tup l,v=>∃a us,v=.ref a/\SqT K H a us/\RPs H l us
 | .fls l,v=>∃a us,v=.ref a/\FzL K H a us/\RPs H l us
def RPs(H:Hp):List PV->List V->Prop
 | [],us=>us=[]
 | x::l,us=>∃u r,us=u::r/\RP H x u/\RPs H l r
end
mutual
theorem RP.kp{H H1:Hp}(k:Kp H H1):∀{x:PV} {v:V},RP K H x v->RP K H1 x v
 | .non,_,h=>h
 | .bl _,_,h=>h
 | .int _,_,h=>h
 | .str _,_,h=>h
 | .ref _,_,h=>h
 | .oth _,_,h=>h
 | .tup l,v,h=>by
  simp only[RP]at h ⊢;obtain⟨a,us,e,q,r⟩:=h;exact⟨a,us,e,k.sqT q,RPs.kp k r⟩
 | .fls l,v,h=>by
  simp only[RP]at h ⊢;obtain⟨a,us,e,q,r⟩:=h;exact⟨a,us,e,k.fzL q,RPs.kp k r⟩
theorem RPs.kp{H H1:Hp}(k:Kp H H1):∀{l:List PV} {us:List V},RPs K H l us->RPs K H1 l us
 | [],_,h=>h
 | x::l,us,h=>by
  simp only[RPs]at h ⊢;obtain⟨u,r,e,a,b⟩:=h;exact⟨u,r,e,RP.kp k a,RPs.kp k b⟩
end
theorem RPs.nil:RPs K H [] []:=by simp[RPs]
theorem RPs.cons{H:Hp}{x:PV}{l:List PV}{u:V}{us:List V}(a:RP K H x u)(b:RPs K H l us):RPs K H (x::l) (u::us):=by
 simp only[RPs];exact⟨u,us,rfl,a,b⟩
theorem RPs.length{H:Hp}:∀{l:List PV} {us:List V},RPs K H l us->us.length=l.length
 | [],us,h=>by simp only[RPs]at h;subst h;rfl
 | x::l,us,h=>by
  simp only[RPs]at h;obtain⟨u,r,rfl,_,b⟩:=h;simp[RPs.length b]
theorem RPs.get{H:Hp}:∀{l:List PV} {us:List V} {i:Nat} {x:PV},RPs K H l us->l[i]?=some x->∃u,us[i]?=some u/\RP K H x u
 | [],_,_,_,_,e=>by simp at e
 | y::l,us,i,x,h,e=>by
  simp only[RPs]at h;obtain⟨u,r,rfl,a,b⟩:=h;cases i with
  | zero=>simp at e;subst e;exact⟨u,by simp,a⟩
  | succ i=>obtain⟨w,e1,e2⟩:=RPs.get (i:=i) (x:=x) b (by simpa using e);exact⟨w,by simpa using e1,e2⟩
theorem RPs.append{H:Hp}:∀{l m:List PV} {us ws:List V},RPs K H l us->RPs K H m ws->RPs K H (l++m) (us++ws)
 | [],m,us,ws,h,g=>by simp only[RPs]at h;subst h;simpa using g
 | x::l,m,us,ws,h,g=>by
  simp only[RPs]at h;obtain⟨u,r,rfl,a,b⟩:=h;exact RPs.cons K a (RPs.append b g)
theorem RPs.take{H:Hp}:∀{l:List PV} {us:List V} (n:Nat),RPs K H l us->RPs K H (l.take n) (us.take n)
 | [],us,n,h=>by simp only[RPs]at h;subst h;simp[RPs]
 | x::l,us,0,h=>by simp[RPs]
 | x::l,us,n+1,h=>by
  simp only[RPs]at h;obtain⟨u,r,rfl,a,b⟩:=h;exact RPs.cons K a (RPs.take n b)
theorem RPs.drop{H:Hp}:∀{l:List PV} {us:List V} (n:Nat),RPs K H l us->RPs K H (l.drop n) (us.drop n)
 | [],us,n,h=>by simp only[RPs]at h;subst h;simp[RPs]
 | x::l,us,0,h=>h
 | x::l,us,n+1,h=>by
  simp only[RPs]at h;obtain⟨u,r,rfl,a,b⟩:=h;exact RPs.drop n b
theorem RPs.set{H:Hp}{x:PV}{u:V}(a:RP K H x u):∀{l:List PV} {us:List V} (n:Nat),RPs K H l us->RPs K H (l.set n x) (us.set n u)
 | [],us,n,h=>by simp only[RPs]at h;subst h;simp[RPs]
 | y::l,us,0,h=>by
  simp only[RPs]at h;obtain⟨w,r,rfl,_,b⟩:=h;exact RPs.cons K a b
 | y::l,us,n+1,h=>by
  simp only[RPs]at h;obtain⟨w,r,rfl,c,b⟩:=h;exact RPs.cons K c (RPs.set a n b)
theorem RPs.dropLast(h:RPs K H l us):RPs K H l.dropLast us.dropLast:=by
 rw[List.dropLast_eq_take,List.dropLast_eq_take,RPs.length K h];exact RPs.take K _ h
theorem RPs.ints{H:Hp}:∀(ns:List Int),RPs K H (ns.map PV.int) (ns.map V.int)
 | []=>by simp[RPs]
 | n::ns=>RPs.cons K (by simp[RP]) (RPs.ints ns)
end
def jT(a C:Addr)(h:Heap):Prop:=∃o,h.get? a=some o/\o.cls=.ref C
inductive PO where
 | exc (C:Addr)
 | lst (l:List PV)
 | ins (C dx:Addr) (fs:List (Str×PV))
 | dK (kvs:List (Key×PV))
 | dT (kvs:List (List Key×PV))
abbrev PHp:=Addr->Option PO
def put(H:PHp)(a:Addr)(o:PO):PHp:=fun b=>if b=a then some o else H b
theorem ao{H:PHp}{a:Addr}{o:PO}:put H a o a=some o:=by unfold put;rw[JL rfl]
theorem au{H:PHp}{a b:Addr}{o:PO}(h:b≠a):put H a o b=H b:=by unfold put;rw[JK h]
theorem aH{H:PHp}{a:Addr}{o u:PO}:put (put H a o) a u=put H a u:=by
 funext b;unfold put;split<;>rfl
theorem aB{H:PHp}{a b:Addr}{o:PO}(h:H a=some o)(h':H b=none):a≠b:=by
 intro e;subst e;rw[h]at h';cases h'
abbrev eX(K:PySem.W.Frag)(H:Hp){κ:Type}:List (κ×PV)->List (κ×V)->Prop:=Paired fun p q=>p.1=q.1/\RP K H p.2 q.2
def OAt(K:PySem.W.Frag)(H:Hp)(a:Addr):PO->Prop
 | .exc C=>H a=some (.ext (jT a C))
 | .lst l=>∃us,H a=some (.lst us)/\RPs K H l us
 | .ins C dx fs=>∃gs,H a=some (.ins C dx gs)/\eX K H fs gs
 | .dK kvs=>∃ws,H a=some (.dK ws)/\eX K H kvs ws
 | .dT kvs=>∃ws,H a=some (.dT ws)/\eX K H kvs ws
abbrev HR(K:PySem.W.Frag)(H':PHp)(H:Hp):Prop:=∀a o,H' a=some o->OAt K H a o
abbrev St':=List (Option PV)
abbrev Bs:=PHp×Hp
def Ev(H':PHp)(H:Hp)(H1':PHp)(H1:Hp):Prop:=∀a o,H a=some o->H' a=none->H1 a=some o/\H1' a=none
structure SR (K:PySem.W.Frag) (B:Bs) (σ':St') (H':PHp) (σ:L2.St) (H:Hp):Prop where
 len:σ'.length=σ.length
 loc:∀(i:Nat) (v':PV),σ'[i]?=some (some v')->∃v,σ[i]?=some (some v)/\RP K H v' v
 hp:HR K H' H
 ev:Ev B.1 B.2 H' H
theorem Ev.refl(H':PHp)(H:Hp):Ev H' H H' H:=fun _ _ h h'=>⟨h,h'⟩
theorem Ev.trans{H':PHp}{H:Hp}{H1':PHp}{H1:Hp}{H2':PHp}{H2:Hp}(a:Ev H' H H1' H1)(b:Ev H1' H1 H2' H2):Ev H' H H2' H2:=fun c o h h'=>by
 obtain⟨p,q⟩:=a c o h h';exact b c o p q
section
variable {K:PySem.W.Frag}
theorem eX.kp{κ:Type}{H H1:Hp}(k:Kp H H1){fs:List (κ×PV)}{gs:List (κ×V)}(h:eX K H fs gs):eX K H1 fs gs:=Paired.mapP h fun _ _ ⟨a,b⟩=>⟨a,RP.kp K k b⟩
theorem OAt.some{H:Hp}{a:Addr}:∀{o:PO},OAt K H a o->∃u,H a=Option.some u/\(∀us,u≠.tup us)/\(∀o us,u≠.frz o us)/\(∀x,u≠.own x)
 | .exc C,e=>⟨_,e,(fun _=>by nofun),(fun _ _=>by nofun),(fun _=>by nofun)⟩
 | .lst l,⟨us,e,_⟩=>⟨_,e,(fun _=>by nofun),(fun _ _=>by nofun),(fun _=>by nofun)⟩
 | .ins C dx fs,⟨us,e,_⟩=>⟨_,e,(fun _=>by nofun),(fun _ _=>by nofun),(fun _=>by nofun)⟩
 | .dK l,⟨us,e,_⟩=>⟨_,e,(fun _=>by nofun),(fun _ _=>by nofun),(fun _=>by nofun)⟩
 | .dT l,⟨us,e,_⟩=>⟨_,e,(fun _=>by nofun),(fun _ _=>by nofun),(fun _=>by nofun)⟩
theorem OAt.keep{H H1:Hp}{a:Addr}(k:Kp H H1)(e:H1 a=H a):∀{o:PO},OAt K H a o->OAt K H1 a o
 | .exc C,h=>e.trans h
 | .lst l,⟨us,h,r⟩=>⟨us,e.trans h,RPs.kp K k r⟩
 | .ins C dx fs,⟨us,h,r⟩=>⟨us,e.trans h,eX.kp k r⟩
 | .dK l,⟨us,h,r⟩=>⟨us,e.trans h,eX.kp k r⟩
 | .dT l,⟨us,h,r⟩=>⟨us,e.trans h,eX.kp k r⟩
theorem HR.tup{H':PHp}{H:Hp}(h:HR K H' H){a:Addr}{us:List V}(e:H a=some (.tup us)):H' a=none:=by
 cases q:H' a with
 | none=>rfl
 | some o=>obtain⟨u,e1,n,_⟩:=(h a o q).some;rw[e]at e1;exact absurd (JT e1).symm (n us)
theorem HR.frz{H':PHp}{H:Hp}(h:HR K H' H){a:Addr}{o:Obj}{u:HO}(e:H a=some (.frz o u)):H' a=none:=by
 cases q:H' a with
 | none=>rfl
 | some o'=>obtain⟨u',e1,_,n,_⟩:=(h a o' q).some;rw[e]at e1;exact absurd (JT e1).symm (n o u)
theorem HR.free{H':PHp}{H:Hp}(h:HR K H' H){a:Addr}(e:H a=none):H' a=none:=by
 cases q:H' a with
 | none=>rfl
 | some o=>obtain⟨u,e1,_⟩:=(h a o q).some;rw[e]at e1;cases e1
theorem Ev.kp{H':PHp}{H:Hp}{H1':PHp}{H1:Hp}(e:Ev H' H H1' H1)(h:HR K H' H):Kp H H1 :=
 ⟨fun a us q=>(e a _ q (h.tup q)).1,fun a o u q=>(e a _ q (h.frz q)).1⟩
theorem fE{H:Hp}{p:Addr}{o:HO}(e:H p=none):Kp H (upd H p o) :=
 ⟨fun a us q=>by rw[aM (aQ q e)];exact q,fun a o u q=>by rw[aM (aQ q e)];exact q⟩
theorem k7{H:Hp}{p:Addr}{o u:HO}(e:H p=some u)(n1:∀us,u≠.tup us)(n2:∀o us,u≠.frz o us):Kp H (upd H p o) :=
 ⟨fun a us q=>by rw[aM (zC q e fun z=>n1 us z.symm)];exact q,fun a o' u' q=>by rw[aM (zC q e fun z=>n2 o' u' z.symm)];exact q⟩
theorem SR.kp{B:Bs}{σ':St'}{H' H1':PHp}{σ:L2.St}{H H1:Hp}(s:SR K B σ' H' σ H)(e:Ev H' H H1' H1)(h:HR K H1' H1):SR K B σ' H1' σ H1 :=
 ⟨s.len,fun i v' q=>by obtain⟨v,a,b⟩:=s.loc i v' q;exact⟨v,a,RP.kp K (e.kp s.hp) b⟩,h,s.ev.trans e⟩
theorem HR.hid{H':PHp}{H:Hp}{p:Addr}{o:HO}(h:HR K H' H)(e:H p=none):HR K H' (upd H p o):=fun a u q=>by
 have na:a≠p:=by rintro rfl;rw[h.free e]at q;cases q
 exact(h a u q).keep (fE e) (aM na)
theorem Ev.hid{H':PHp}{H:Hp}{p:Addr}{o:HO}(e:H p=none):Ev H' H H' (upd H p o):=fun a u q n=>⟨by rw[aM (aQ q e)];exact q,n⟩
theorem HR.new{H':PHp}{H:Hp}{p:Addr}{o:HO}{o':PO}(h:HR K H' H)(e:H p=none)(new:OAt K (upd H p o) p o'):HR K (put H' p o') (upd H p o):=fun a u q=>by
 by_cases hp:a=p
 ·subst hp;rw[ao]at q;cases q;exact new
 ·rw[au hp]at q;exact(h a u q).keep (fE e) (aM hp)
theorem Ev.new{H':PHp}{H:Hp}{p:Addr}{o:HO}{o':PO}(e:H p=none):Ev H' H (put H' p o') (upd H p o):=fun a u q n=>by
 have na:=aQ q e;exact⟨by rw[aM na];exact q,by rw[au na];exact n⟩
theorem HR.wr{H':PHp}{H:Hp}{p:Addr}{o:HO}{o' u':PO}(h:HR K H' H)(e:H' p=some u')(new:OAt K (upd H p o) p o'):HR K (put H' p o') (upd H p o):=fun a u q=>by
 obtain⟨v,e1,n1,n2,_⟩:=(h p u' e).some;by_cases hp:a=p
 ·subst hp;rw[ao]at q;cases q;exact new
 ·rw[au hp]at q;exact(h a u q).keep (k7 e1 n1 n2) (aM hp)
theorem HR.kpw{H':PHp}{H:Hp}{p:Addr}{o:HO}{u':PO}(h:HR K H' H)(e:H' p=some u'):Kp H (upd H p o):=by
 obtain⟨v,e1,n1,n2,_⟩:=(h p u' e).some;exact k7 e1 n1 n2
theorem Ev.wr{H':PHp}{H:Hp}{p:Addr}{o:HO}{o' u':PO}(e:H' p=some u'):Ev H' H (put H' p o') (upd H p o):=fun a u q n=>by
 have na:a≠p:=by rintro rfl;rw[e]at n;cases n
 exact⟨by rw[aM na];exact q,by rw[au na];exact n⟩
def Sub(A B:PHp):Prop:=∀a o,A a=some o->B a=some o
theorem Sub.refl(A:PHp):Sub A A:=fun _ _ h=>h
theorem Sub.trans{A B C:PHp}(a:Sub A B)(b:Sub B C):Sub A C:=fun c o h=>b c o (a c o h)
theorem Sub.put{A B:PHp}{p:Addr}{o:PO}(a:Sub A B)(n:A p=none):Sub A (put B p o):=fun c u h=>by rw[au (aB h n)];exact a c u h
theorem Sub.free{A B:PHp}(a:Sub A B){p:Addr}(n:B p=none):A p=none:=by
 cases q:A p with
 | none=>rfl
 | some o=>rw[a p o q]at n;cases n
theorem HR.sub{A B:PHp}{H:Hp}(h:HR K B H)(s:Sub A B):HR K A H:=fun a o e=>h a o (s a o e)
theorem Ev.sub{H':PHp}{H:Hp}{A B:PHp}{H1:Hp}(e:Ev H' H B H1)(s:Sub A B):Ev H' H A H1:=fun a o q n=>by
 obtain⟨x,y⟩:=e a o q n;exact⟨x,s.free y⟩
end
end
section
variable {B:Bs}
abbrev VK':=PV->PHp->Prop
abbrev TE':=St'->PHp->VK'->Prop
abbrev TT':=St'->PHp->(Bool->PHp->Prop)->Prop
abbrev TA':=St'->PHp->(List PV->PHp->Prop)->Prop
abbrev XK':=Value->Option Addr->PHp->Prop
structure cL where
 nx:St'->PHp->Prop
 rt:VK'
 bk:St'->PHp->Prop:=fun _ _=>False
 ct:St'->PHp->Prop:=fun _ _=>False
abbrev TS':=cL->St'->PHp->Prop
abbrev TG':=PV->St'->PHp->(St'->PHp->Prop)->Prop
abbrev gh:=List PV->St'->PHp->(St'->PHp->Prop)->Prop
structure It' where
 items:List PV
 ok:PHp->Prop
abbrev TI':=St'->PHp->(It'->PHp->Prop)->Prop
section
variable (K:PySem.W.Frag)(B:Bs)
def low(t:TE'):TE:=fun σ H Q=>∃σ' H' Q',SR K B σ' H' σ H/\t σ' H' Q'/\∀v' H1' v H1,Q' v' H1'->RP K H1 v' v->SR K B σ' H1' σ H1->Ev H' H H1' H1->Q v H1
def nP(t:TT'):TT:=fun σ H Q=>∃σ' H' Q',SR K B σ' H' σ H/\t σ' H' Q'/\∀b H1' H1,Q' b H1'->SR K B σ' H1' σ H1->Ev H' H H1' H1->Q b H1
def n5(t:TA'):TA:=fun σ H Q=>∃σ' H' Q',SR K B σ' H' σ H/\t σ' H' Q'/\∀vs' H1' vs H1,Q' vs' H1'->RPs K H1 vs' vs->SR K B σ' H1' σ H1->Ev H' H H1' H1->Q vs H1
structure DR (D':cL) (D:Ends) (H':PHp) (H:Hp):Prop where
 nx:∀σ1' H1' σ1 H1,D'.nx σ1' H1'->SR K B σ1' H1' σ1 H1->Ev H' H H1' H1->D.nx σ1 H1
 rt:∀v' H1' v H1,D'.rt v' H1'->RP K H1 v' v->HR K H1' H1->Ev H' H H1' H1->D.rt v H1
 bk:∀σ1' H1' σ1 H1,D'.bk σ1' H1'->SR K B σ1' H1' σ1 H1->Ev H' H H1' H1->D.bk σ1 H1
 ct:∀σ1' H1' σ1 H1,D'.ct σ1' H1'->SR K B σ1' H1' σ1 H1->Ev H' H H1' H1->D.ct σ1 H1
theorem DR.ev{D':cL}{D:Ends}{H':PHp}{H:Hp}{H1':PHp}{H1:Hp}(d:DR K B D' D H' H)(e:Ev H' H H1' H1):DR K B D' D H1' H1 :=
 ⟨fun a b c f p q r=>d.nx a b c f p q (e.trans r),fun a b c f p q r s=>d.rt a b c f p q r (e.trans s),fun a b c f p q r=>d.bk a b c f p q (e.trans r),fun a b c f p q r=>d.ct a b c f p q (e.trans r)⟩
def Cg(t:TS'):TS:=fun D σ H=>∃σ' H' D',SR K B σ' H' σ H/\t D' σ' H'/\DR K B D' D H' H
def lowG(t:TG'):TG:=fun v σ H Q=>∃v' σ' H' Q',RP K H v' v/\SR K B σ' H' σ H/\t v' σ' H' Q'/\∀σ1' H1' σ1 H1,Q' σ1' H1'->SR K B σ1' H1' σ1 H1->Ev H' H H1' H1->Q σ1 H1
def DA(t:gh):TGs:=fun vs σ H Q=>∃vs' σ' H' Q',RPs K H vs' vs/\SR K B σ' H' σ H/\t vs' σ' H' Q'/\∀σ1' H1' σ1 H1,Q' σ1' H1'->SR K B σ1' H1' σ1 H1->Ev H' H H1' H1->Q σ1 H1
structure Walks (H1:Hp) (J:It) (J':It'):Prop where
 go:∀H' H i,Kp H1 H->HR K H' H->J'.ok H'->i<J'.items.length->J.go i H
 yld:∀H' H i x H2,Kp H1 H->HR K H' H->J'.ok H'->J.yld i H x H2->H2=H/\∀x',J'.items[i]?=some x'->RP K H x' x
 stop:∀H' H i,Kp H1 H->HR K H' H->J'.ok H'->J'.items.length≤i->J.stop i H
def Ir(t:TI'):TI:=fun σ H R=>∃σ' H' R',SR K B σ' H' σ H/\t σ' H' R'/\∀J' H1' J H1,R' J' H1'->Walks K H1 J J'->SR K B σ' H1' σ H1->Ev H' H H1' H1->R J H1
end
section
variable {X:Cx}
theorem aS{e:Expr}{t1 t2:TE}(h:PE X e t2)(i:∀σ H Q,t1 σ H Q->t2 σ H Q):PE X e t1:=fun pins s σ H Q I q=>h pins s σ H Q I (i σ H Q q)
theorem oz{e:Expr}{t1 t2:TT}(h:PT X e t2)(i:∀σ H Q,t1 σ H Q->t2 σ H Q):PT X e t1:=fun pins s σ H Q I q=>h pins s σ H Q I (i σ H Q q)
theorem sG{e:Expr}{t1 t2:TT}(h:PW X e t2)(i:∀σ H Q,t1 σ H Q->t2 σ H Q):PW X e t1:=fun w pins s σ H Q I q=>h w pins s σ H Q I (i σ H Q q)
theorem tO{e:List Expr}{t1 t2:TA}(h:PA X e t2)(i:∀σ H Q,t1 σ H Q->t2 σ H Q):PA X e t1:=fun p pins s σ H Q I q=>h p pins s σ H Q I (i σ H Q q)
theorem dI{e:Stmt}{t1 t2:TS}(h:PS X e t2)(i:∀D σ H,t1 D σ H->t2 D σ H):PS X e t1:=fun pins s σ H D I q=>h pins s σ H D I (i D σ H q)
theorem qt{e:List Stmt}{t1 t2:TS}(h:PSs X e t2)(i:∀D σ H,t1 D σ H->t2 D σ H):PSs X e t1:=fun pins s σ H D I q=>h pins s σ H D I (i D σ H q)
theorem kD{e:Expr}{t1 t2:TG}(h:PG X e t2)(i:∀v σ H Q,t1 v σ H Q->t2 v σ H Q):PG X e t1:=fun pins s σ H v u Q I r q=>h pins s σ H v u Q I r (i v σ H Q q)
theorem oS{e:List Expr}{t1 t2:TGs}(h:PGs X e t2)(i:∀v σ H Q,t1 v σ H Q->t2 v σ H Q):PGs X e t1:=fun pins s σ H v u Q I r q=>h pins s σ H v u Q I r (i v σ H Q q)
theorem fe{tg e:Expr}{t1 t2:TI}(h:PI X tg e t2)(i:∀σ H Q,t1 σ H Q->t2 σ H Q):PI X tg e t1:=fun pins s σ H Q I q=>h pins s σ H Q I (i σ H Q q)
abbrev PE'(X:Cx)(B:Bs)(e:Expr)(t:TE'):Prop:=PE X e (low X.K B t)
abbrev PT'(X:Cx)(B:Bs)(e:Expr)(t:TT'):Prop:=PT X e (nP X.K B t)
abbrev PW'(X:Cx)(B:Bs)(e:Expr)(t:TT'):Prop:=PW X e (nP X.K B t)
abbrev PA'(X:Cx)(B:Bs)(e:List Expr)(t:TA'):Prop:=PA X e (n5 X.K B t)
abbrev PS'(X:Cx)(B:Bs)(e:Stmt)(t:TS'):Prop:=PS X e (Cg X.K B t)
abbrev gJ(X:Cx)(B:Bs)(e:List Stmt)(t:TS'):Prop:=PSs X e (Cg X.K B t)
abbrev PG'(X:Cx)(B:Bs)(e:Expr)(t:TG'):Prop:=PG X e (lowG X.K B t)
abbrev v8(X:Cx)(B:Bs)(e:List Expr)(t:gh):Prop:=PGs X e (DA X.K B t)
abbrev PI'(X:Cx)(B:Bs)(tg e:Expr)(t:TI'):Prop:=PI X tg e (Ir X.K B t)
structure uV (K:PySem.W.Frag) (H1:Hp) (J:It) (J':It'):Prop where
 go:∀H' H i,Kp H1 H->HR K H' H->J'.ok H'->i<J'.items.length->J.go i H
 yld:∀H' H i x H2,Kp H1 H->HR K H' H->J'.ok H'->J.yld i H x H2->HR K H' H2/\Ev H' H H' H2/\∀x',J'.items[i]?=some x'->RP K H2 x' x
 stop:∀H' H,Kp H1 H->HR K H' H->J'.ok H'->J.stop J'.items.length H
def zE(K:PySem.W.Frag)(B:Bs)(t:TI'):TI:=fun σ H R=>∃σ' H' R',SR K B σ' H' σ H/\t σ' H' R'/\∀J' H1' J H1,R' J' H1'->uV K H1 J J'->SR K B σ' H1' σ H1->Ev H' H H1' H1->R J H1
abbrev PIH(X:Cx)(B:Bs)(tg e:Expr)(t:TI'):Prop:=PI X tg e (zE X.K B t)
theorem Walks.toH{K:PySem.W.Frag}{H1:Hp}{J:It}{J':It'}(w:Walks K H1 J J'):uV K H1 J J':=⟨w.go,fun H' H i x H2 k hr o y=>by
 obtain⟨e,r⟩:=w.yld H' H i x H2 k hr o y;subst e;exact⟨hr,Ev.refl _ _,r⟩,fun H' H k hr o=>w.stop H' H _ k hr o (Jy _)⟩
theorem nZ{X:Cx}{tg e:Expr}{t:TI'}(h:PI' X B tg e t):PIH X B tg e t:=fe h fun σ H R q=>by
 obtain⟨σ',H',R',s,h,k⟩:=q;exact⟨σ',H',R',s,h,fun J' H1' J H1 r w=>k J' H1' J H1 r w.toH⟩
def lH(o:Option (Option PV))(k:PV->Prop):Prop:=match o with
 | some (some v)=>k v
 | _=>False
theorem lH.ex{o:Option (Option PV)}{k:PV->Prop}(h:lH o k):∃v,o=some (some v)/\k v:=by
 unfold lH at h;split at h
 ·exact⟨_,rfl,h⟩
 ·exact h.elim
def fC(i:Nat):TE':=fun σ H Q=>lH σ[i]? fun v=>Q v H
def uC(v:PV):TE':=fun _ H Q=>Q v H
theorem qv(i:Nat){x:Str}{pos:Pos}(hN:X.N[i]?=some x:=by rfl)(hv:Vis X.env.scope x:=by first | exact Or.inl rfl | exact Or.inr (Or.inl rfl) | exact Or.inr (Or.inr rfl))(hd:(x==("__debug__":Str))=false:=by decide)
  (hcd:(x==("__classdict__":Str))=false:=by decide):PE' X B (.Name x pos) (fC i):=aS (pv i hN hv hd hcd) fun σ H Q y_=>by
 obtain⟨σ',H',Q',s,h,k⟩:=y_;obtain⟨v',e,q⟩:=h.ex;obtain⟨v,a,b⟩:=s.loc i v' e;exact⟨v,a,k v' H' v H q b s (Ev.refl _ _)⟩
theorem qI{K:PySem.W.Frag}{v':PV}{v:V}(r:∀H,RP K H v' v){σ:L2.St}{H:Hp}{Q:VK}(h:low K B (uC v') σ H Q):tC v σ H Q:=by
 obtain⟨σ',H',Q',s,h,k⟩:=h;exact k v' H' v H h (r H) s (Ev.refl _ _)
theorem aq{i j pos}:PE' X B (.Constant (.int i) j pos) (uC (.int i)):=aS zQ fun _ _ _ h=>qI (fun _=>by simp[RP]) h
theorem bI{i j pos}:PE' X B (.Constant (.bool i) j pos) (uC (.bl i)):=aS D1 fun _ _ _ h=>qI (fun _=>by simp[RP]) h
theorem aJ{i j pos}:PE' X B (.Constant (.str i) j pos) (uC (.str i)):=aS tw fun _ _ _ h=>qI (fun _=>by simp[RP]) h
theorem iY{j pos}:PE' X B (.Constant .none j pos) (uC .non):=aS Ba fun _ _ _ h=>qI (fun _=>by simp[RP]) h
theorem yH{x:Str}{v':PV}{v:V}{u:Value}{pos:Pos}(hg:Gl X x)(hm:X.mg x=some u)(r:RelV v u)(r':∀H,RP X.K H v' v)(hd:(x==("__debug__":Str))=false:=by decide):PE' X B (.Name x pos) (uC v') :=
 aS (pO hg hm r hd) fun _ _ _ h=>qI r' h
abbrev R2':=PV->PV->PHp->VK'->Prop
def VR(K:PySem.W.Frag)(B:Bs)(r':R2')(r:R2):Prop:=∀(σ':St') (σ:L2.St) (H':PHp) (H:Hp) x' y' x y (Q':VK') (Q:VK),SR K B σ' H' σ H->RP K H x' x->RP K H y' y->r' x' y' H' Q' ->
 (∀v' H1' v H1,Q' v' H1'->RP K H1 v' v->SR K B σ' H1' σ H1->Ev H' H H1' H1->Q v H1)->r x y H Q
def uOp(r:R2')(ta tb:TE'):TE':=fun σ H Q=>ta σ H fun x H1=>tb σ H1 fun y H2=>r x y H2 Q
theorem j5{K:PySem.W.Frag}{r':R2'}{r:R2}{ta tb:TE'}(v:VR K B r' r){σ:L2.St}{H:Hp}{Q:VK}(h:low K B (uOp r' ta tb) σ H Q):tOp r (low K B ta) (low K B tb) σ H Q:=by
 obtain⟨σ',H',Q',s,h,k⟩:=h;refine⟨σ',H',_,s,h,fun x' H1' x H1 h1 rx s1 e1=>⟨σ',H1',_,s1,h1,fun y' H2' y H2 h2 ry s2 e2=>?_⟩⟩;exact v σ' σ H2' H2 x' y' x y Q' Q s2 (RP.kp K (e2.kp s1.hp) rx) ry h2 fun v' H3' v H3 q rv s3 e3=>k v' H3' v H3 q rv s3 (e1.trans (e2.trans e3))
variable {a b c:Expr}{ta tb tc:TE'}{pos:Pos}
theorem eW{op:Operator}{r':R2'}{r:R2}(ho:OpR X (binaryOp op) r)(v:VR X.K B r' r)(ha:PE' X B a ta)(hb:PE' X B b tb):PE' X B (.BinOp a op b pos) (uOp r' ta tb):=aS (E5 ho ha hb) fun _ _ _ h=>j5 v h
theorem b8{op:CmpOp}{r':R2'}{r:R2}(ho:OpR X (compareOp op) r)(v:VR X.K B r' r)(ha:PE' X B a ta)(hb:PE' X B b tb)(hm:behindInMarks op b=false):PE' X B (.Compare a [op] [b] pos) (uOp r' ta tb) :=
 aS (yd ho ha hb hm) fun _ _ _ h=>j5 v h
def cif(b:Bool)(A B:Prop):Prop:=match b with
 | true=>A
 | false=>B
theorem CV{A B:Prop}:cif true A B=A:=rfl
theorem Fw{A B:Prop}:cif false A B=B:=rfl
theorem aV{b:Bool}{A B:Prop}(h1:b=true->A)(h2:b=false->B):cif b A B:=by
 cases b
 ·exact h2 rfl
 ·exact h1 rfl
theorem av{b:Bool}{A B:Prop}(h:b=true)(h1:A):cif b A B:=by subst h;exact h1
theorem ar{b:Bool}{A B:Prop}(h:b=false)(h1:B):cif b A B:=by subst h;exact h1
theorem p8{c:Prop}[Decidable c]{A B:Prop}(h1:c->A)(h2:¬c->B):cif (decide c) A B:=by
 by_cases h:c
 ·exact av (J2 h) (h1 h)
 ·exact ar (KG h) (h2 h)
def d4(x:PV)(k:Bool->Prop):Prop:=match x with
 | .bl b=>k b
 | _=>False
theorem d4.ex{x:PV}{k:Bool->Prop}(h:d4 x k):∃v,x=.bl v/\k v:=by
 unfold d4 at h;split at h
 ·exact⟨_,rfl,h⟩
 ·exact h.elim
def bW(x:PV)(k:Int->Prop):Prop:=match x with
 | .int i=>k i
 | _=>False
theorem bW.ex{x:PV}{k:Int->Prop}(h:bW x k):∃v,x=.int v/\k v:=by
 unfold bW at h;split at h
 ·exact⟨_,rfl,h⟩
 ·exact h.elim
def fI(t:TE'):TT':=fun σ H Q=>t σ H fun x H1=>d4 x fun b=>Q b H1
theorem mZ{K:PySem.W.Frag}{t:TE'}{σ:L2.St}{H:Hp}{Q:Bool->Hp->Prop}(h:nP K B (fI t) σ H Q):zg (low K B t) σ H Q:=by
 obtain⟨σ',H',Q',s,h,k⟩:=h;refine⟨σ',H',_,s,h,fun x' H1' x H1 h1 rx s1 e1=>?_⟩;obtain⟨b,rfl,q⟩:=h1.ex;simp only[RP]at rx;exact⟨b,rx,k b H1' H1 q s1 e1⟩
theorem br{e:Expr}{t:TE'}(h:PE' X B e t)(he:∀whole,isTrue e X.env whole=(do let v←whole;standAt e.pos;holding [v] (truthy v)):=by intro _;rfl):PT' X B e (fI t):=oz (AV h he) fun _ _ _ h=>mZ h
theorem u9{op:CmpOp}{r':R2'}{r:R2}(ho:OpR X (compareOp op) r)(v:VR X.K B r' r)(ha:PE' X B a ta)(hb:PE' X B b tb)(hm:behindInMarks op b=false):PT' X B (.Compare a [op] [b] pos) (fI (uOp r' ta tb)) :=
 oz (wI ho ha hb hm) fun _ _ _ h=>by
  obtain⟨σ',H',Q',s,h,k⟩:=mZ h;exact j5 v ⟨σ',H',Q',s,h,k⟩
def BI(r r':R2')(ta tb tc:TE'):TE':=fun σ H Q=>ta σ H fun x H1=>tb σ H1 fun y H2=>r x y H2 fun z H3=>d4 z fun k=>cif k (tc σ H3 fun w' H4=>r' y w' H4 Q) (Q (.bl false) H3)
def uI(C:Int->Int->Prop)(g:Int->Int->PV):R2':=fun x y H Q=>bW x fun i=>bW y fun j=>C i j/\Q (g i j) H
def uI0(g:Int->Int->PV):R2':=fun x y H Q=>bW x fun i=>bW y fun j=>Q (g i j) H
theorem vL{K:PySem.W.Frag}{C:Int->Int->Prop}{g':Int->Int->PV}{g:Int->Int->V}(r:∀i j H,RP K H (g' i j) (g i j)):VR K B (uI C g') (rI C g):=by
 intro σ' σ H' H x' y' x y Q' Q s rx ry h k;obtain⟨i,rfl,h1⟩:=bW.ex h;obtain⟨j,rfl,hc,h⟩:=bW.ex h1;simp only[RP]at rx ry;exact⟨i,j,rx,ry,hc,k _ H' _ H h (r i j H) s (Ev.refl _ _)⟩
theorem iH{K:PySem.W.Frag}{g':Int->Int->PV}{g:Int->Int->V}(r:∀i j H,RP K H (g' i j) (g i j)):VR K B (uI0 g') (rI0 g):=by
 intro σ' σ H' H x' y' x y Q' Q s rx ry h k;obtain⟨i,rfl,h1⟩:=bW.ex h;obtain⟨j,rfl,h⟩:=bW.ex h1;simp only[RP]at rx ry;exact⟨i,j,rx,ry,k _ H' _ H h (r i j H) s (Ev.refl _ _)⟩
abbrev HE:R2':=uI0 fun i j=>.int (i+j)
abbrev HU:R2':=uI0 fun i j=>.int (i - j)
abbrev uLt:R2':=uI0 fun i j=>.bl (decide (i<j))
abbrev uLe:R2':=uI0 fun i j=>.bl (decide (i≤j))
abbrev uGt:R2':=uI0 fun i j=>.bl (decide (j<i))
abbrev uGe:R2':=uI0 fun i j=>.bl (decide (j≤i))
def Fit(i:Int):Prop:=i.natAbs.log2<9000
def lY(i j:Int):Prop:=AO i j∨(Fit i/\Fit j)
def vK(i j:Int):Prop:=j≠0/\Fit j
theorem lY.ok{i j:Int}(h:lY i j):IntMulOk i j:=by
 rcases h with h |⟨h1,h2⟩
 ·exact h.ok
 ·unfold IntMulOk;have e:∀x:Int,Fit x->Builtin.Int.intBits x≤9000:=fun x hx=>by
   unfold Builtin.Int.intBits Fit at *;split<;>symm
  have e1:=e i h1;have e2:=e j h2;have e3:Builtin.Int.intTooBig (Builtin.Int.intBits i+Builtin.Int.intBits j)=false:=by
   unfold Builtin.Int.intTooBig;refine KG ?_;show ¬(bitsLine:Int)<_;have hb:(18000:Nat)≤bitsLine:=by decide +kernel
   symm
  rw[e3];simp
abbrev FR:R2':=uI lY fun i j=>.int (i*j)
abbrev Dm:R2':=uI vK fun i j=>.int (i.fdiv j)
theorem xq{X:Cx}:OpR X (binaryOp .Mult) (rI lY fun i j=>.int (i*j)):=opI fun _ _ _ _ _ _ _ hc q=>mul_int q hc.ok
theorem vE{X:Cx}:OpR X (binaryOp .FloorDiv) (rI vK fun i j=>.int (i.fdiv j)):=opI fun _ _ _ _ _ _ _ hc q=>floordiv_int hc.1 q (.inl (PyProof.noPylong_of_log2 hc.2))
abbrev Ht:R2':=uI (fun _ j=>j≠0) fun i j=>.int (i.fmod j)
abbrev Hq:R2':=uI D4 fun i j=>.int (i ^ j.toNat)
theorem cc(ha:PE' X B a ta)(hb:PE' X B b tb):PE' X B (.BinOp a .Add b pos) (uOp HE ta tb):=eW Ct (iH fun _ _ _=>by simp[RP]) ha hb
theorem tR(ha:PE' X B a ta)(hb:PE' X B b tb):PE' X B (.BinOp a .Sub b pos) (uOp HU ta tb):=eW Ak (iH fun _ _ _=>by simp[RP]) ha hb
theorem gw(ha:PE' X B a ta)(hb:PE' X B b tb):PE' X B (.BinOp a .Mult b pos) (uOp FR ta tb):=eW xq (vL fun _ _ _=>by simp[RP]) ha hb
theorem fh(ha:PE' X B a ta)(hb:PE' X B b tb):PE' X B (.BinOp a .FloorDiv b pos) (uOp Dm ta tb):=eW vE (vL fun _ _ _=>by simp[RP]) ha hb
theorem b7(ha:PE' X B a ta)(hb:PE' X B b tb):PE' X B (.BinOp a .Mod b pos) (uOp Ht ta tb):=eW yG (vL fun _ _ _=>by simp[RP]) ha hb
theorem AH(ha:PE' X B a ta)(hb:PE' X B b tb):PE' X B (.BinOp a .Pow b pos) (uOp Hq ta tb):=eW B2 (vL fun _ _ _=>by simp[RP]) ha hb
theorem fx{K:PySem.W.Frag}:VR K B uLt (rI0 fun i j=>.bl (decide (i<j))):=iH fun _ _ _=>by simp[RP]
theorem zJ{K:PySem.W.Frag}:VR K B uLe (rI0 fun i j=>.bl (decide (i≤j))):=iH fun _ _ _=>by simp[RP]
theorem dC{K:PySem.W.Frag}:VR K B uGt (rI0 fun i j=>.bl (decide (j<i))):=iH fun _ _ _=>by simp[RP]
theorem mQ{K:PySem.W.Frag}:VR K B uGe (rI0 fun i j=>.bl (decide (j≤i))):=iH fun _ _ _=>by simp[RP]
end
end
section
variable {B:Bs}
section
variable {X:Cx}{a b c e o:Expr}{es rest:List Expr}{ta tb tc:TE'}{tA tB:TT'}{t:TA'}{pos:Pos}
def C2(t u:TT'):TT':=fun σ H Q=>t σ H fun c H1=>cif c (u σ H1 Q) (Q false H1)
def uOr(t u:TT'):TT':=fun σ H Q=>t σ H fun c H1=>cif c (Q true H1) (u σ H1 Q)
def C6(t:TT'):TT':=fun σ H Q=>t σ H fun c H1=>Q (!c) H1
theorem bJ(ha:PT' X B a tA):PW' X B (.BoolOp .And [a] pos) tA:=xZ ha
theorem dm(ha:PT' X B a tA):PW' X B (.BoolOp .Or [a] pos) tA:=AM ha
theorem bV(ha:PT' X B a tA)(hb:PW' X B (.BoolOp .And (b::rest) pos) tB):PW' X B (.BoolOp .And (a::b::rest) pos) (C2 tA tB):=sG (Bf ha hb) fun σ H Q y_=>by
 obtain⟨σ',H',Q',s,h,k⟩:=y_;refine⟨σ',H',_,s,h,fun x H1' H1 h1 s1 e1=>?_⟩;cases x with
 | true=>exact j3 ⟨σ',H1',_,s1,h1,fun y H2' H2 h2 s2 e2=>k y H2' H2 h2 s2 (e1.trans e2)⟩
 | false=>exact kf (k false H1' H1 h1 s1 e1)
theorem dE(ha:PT' X B a tA)(hb:PW' X B (.BoolOp .Or (b::rest) pos) tB):PW' X B (.BoolOp .Or (a::b::rest) pos) (uOr tA tB):=sG (E2 ha hb) fun σ H Q y_=>by
 obtain⟨σ',H',Q',s,h,k⟩:=y_;refine⟨σ',H',_,s,h,fun x H1' H1 h1 s1 e1=>?_⟩;cases x with
 | false=>exact kf ⟨σ',H1',_,s1,h1,fun y H2' H2 h2 s2 e2=>k y H2' H2 h2 s2 (e1.trans e2)⟩
 | true=>exact j3 (k true H1' H1 h1 s1 e1)
theorem aX(h:PW' X B e tA):PT' X B e tA:=PW.pt h
theorem b4(ha:PT' X B a tA):PT' X B (.UnaryOp .Not a pos) (C6 tA):=oz (zU ha) fun σ H Q ⟨σ',H',Q',s,h,k⟩=>⟨σ',H',_,s,h,fun x H1' H1 h1 s1 e1=>k _ H1' H1 h1 s1 e1⟩
def zk(ta tb:TE'):TE':=fun σ H Q=>ta σ H fun x H1=>d4 x fun c=>cif c (tb σ H1 Q) (Q (.bl false) H1)
def Hy(ta tb:TE'):TE':=fun σ H Q=>ta σ H fun x H1=>d4 x fun c=>cif c (Q (.bl true) H1) (tb σ H1 Q)
def pe(ta:TE'):TE':=fun σ H Q=>ta σ H fun x H1=>d4 x fun c=>Q (.bl (!c)) H1
theorem d7{op}(h:PE' X B a ta):PE' X B (.BoolOp op [a] pos) ta:=Bx h
theorem dU(ha:PE' X B a ta)(hb:PE' X B (.BoolOp .And (b::rest) pos) tb):PE' X B (.BoolOp .And (a::b::rest) pos) (zk ta tb):=aS (Aw ha hb) fun σ H Q y_=>by
 obtain⟨σ',H',Q',s,h,k⟩:=y_;refine⟨σ',H',_,s,h,fun x H1' v H1 h1 r1 s1 e1=>?_⟩;obtain⟨y,rfl,h1⟩:=h1.ex;simp only[RP]at r1;refine⟨y,r1,?_⟩;cases y with
 | true=>exact j3 ⟨σ',H1',_,s1,h1,fun y H2' v2 H2 h2 r2 s2 e2=>k y H2' v2 H2 h2 r2 s2 (e1.trans e2)⟩
 | false=>exact kf (k _ H1' _ H1 h1 (by simp[RP]) s1 e1)
theorem n9(ha:PE' X B a ta):PE' X B (.UnaryOp .Not a pos) (pe ta):=aS (BO ha) fun σ H Q y_=>by
 obtain⟨σ',H',Q',s,h,k⟩:=y_;refine⟨σ',H',_,s,h,fun x H1' v H1 h1 r1 s1 e1=>?_⟩;obtain⟨y,rfl,h1⟩:=h1.ex;simp only[RP]at r1;exact⟨y,r1,k _ H1' _ H1 h1 (by simp[RP]) s1 e1⟩
def uIf(t:TT')(ta tb:TE'):TE':=fun σ H Q=>t σ H fun c H1=>cif c (ta σ H1 Q) (tb σ H1 Q)
theorem vo(hc:PT' X B c tA)(ha:PE' X B a ta)(hb:PE' X B b tb):PE' X B (.IfExp c a b pos) (uIf tA ta tb):=aS (vk hc ha hb) fun σ H Q y_=>by
 obtain⟨σ',H',Q',s,h,k⟩:=y_;refine⟨σ',H',_,s,h,fun x H1' H1 h1 s1 e1=>?_⟩;cases x with
 | true=>exact j3 ⟨σ',H1',_,s1,h1,fun y H2' v2 H2 h2 r2 s2 e2=>k y H2' v2 H2 h2 r2 s2 (e1.trans e2)⟩
 | false=>exact kf ⟨σ',H1',_,s1,h1,fun y H2' v2 H2 h2 r2 s2 e2=>k y H2' v2 H2 h2 r2 s2 (e1.trans e2)⟩
def uUn(r:PV->PHp->VK'->Prop)(ta:TE'):TE':=fun σ H Q=>ta σ H fun x H1=>r x H1 Q
theorem cj(ha:PE' X B a ta):PE' X B (.UnaryOp .USub a pos) (uUn (fun x H Q=>bW x fun i=>Q (.int (-i)) H) ta):=aS (Fx Ci ha) fun σ H Q y_=>by
 obtain⟨σ',H',Q',s,h,k⟩:=y_;refine⟨σ',H',_,s,h,fun x H1' v H1 h1 r1 s1 e1=>?_⟩;obtain⟨i,rfl,h1⟩:=bW.ex h1;simp only[RP]at r1;exact⟨i,r1,k _ H1' _ H1 h1 (by simp[RP]) s1 e1⟩
def xy:TA':=fun _ H Q=>Q [] H
def k6(ta:TE')(tr:TA'):TA':=fun σ H Q=>ta σ H fun x H1=>tr σ H1 fun xs H2=>Q (x::xs) H2
theorem ae:PA' X B [] xy:=tO bY fun σ H Q ⟨σ',H',Q',s,h,k⟩=>k [] H' [] H h (RPs.nil _) s (Ev.refl _ _)
theorem aa(ha:PE' X B e ta)(hr:PA' X B es t)(hs:starEach (e::es) X.env=(false,eval e X.env)::starEach es X.env:=by rfl):PA' X B (e::es) (k6 ta t):=tO (bE ha hr hs) fun σ H Q y_=>by
 obtain⟨σ',H',Q',s,h,k⟩:=y_;refine⟨σ',H',_,s,h,fun x H1' v H1 h1 r1 s1 e1=>⟨σ',H1',_,s1,h1,fun xs H2' vs H2 h2 r2 s2 e2=>?_⟩⟩;exact k _ H2' _ H2 h2 (RPs.cons _ (RP.kp _ (e2.kp s1.hp) r1) r2) s2 (e1.trans e2)
def Ae(t:TA'):TE':=fun σ H Q=>t σ H fun xs H1=>xs.length≤sizeLine/\Q (.tup xs) H1
def Bp(t:TA'):TE':=fun σ H Q=>t σ H fun xs H1=>xs.length≤sizeLine/\∀p,H1 p=none->Q (.ref p) (put H1 p (.lst xs))
theorem SR.hid{K:PySem.W.Frag}{σ':St'}{σ:L2.St}{H':PHp}{H:Hp}{p:Addr}{o:HO}(s:SR K B σ' H' σ H)(n:H p=none):SR K B σ' H' σ (upd H p o):=s.kp (Ev.hid n) (s.hp.hid n)
theorem SR.new{K:PySem.W.Frag}{σ':St'}{σ:L2.St}{H':PHp}{H:Hp}{p:Addr}{o:HO}{o':PO}(s:SR K B σ' H' σ H)(n:H p=none)(w:OAt K (upd H p o) p o'):SR K B σ' (put H' p o') σ (upd H p o):=s.kp (Ev.new n) (s.hp.new n w)
theorem SR.wr{K:PySem.W.Frag}{σ':St'}{σ:L2.St}{H':PHp}{H:Hp}{p:Addr}{o:HO}{o' u':PO}(s:SR K B σ' H' σ H)(n:H' p=some u')(w:OAt K (upd H p o) p o'):SR K B σ' (put H' p o') σ (upd H p o):=s.kp (Ev.wr n) (s.hp.wr n w)
theorem oC{K:PySem.W.Frag}{H:Hp}{p:Addr}{xs:List PV}{us:List V}(n:H p=none)(r:RPs K H xs us):RP K (upd H p (.tup us)) (.tup xs) (.ref p):=by
 simp only[RP];exact⟨p,us,rfl,SqT.of bj,RPs.kp K (fE n) r⟩
theorem kL{K:PySem.W.Frag}{H:Hp}{p:Addr}{xs:List PV}{us:List V}(n:H p=none)(r:RPs K H xs us):OAt K (upd H p (.lst us)) p (.lst xs):=⟨us,bj,RPs.kp K (fE n) r⟩
theorem wrL{K:PySem.W.Frag}{H':PHp}{H:Hp}{p:Addr}{u':PO}{xs:List PV}{us:List V}(h:HR K H' H)(n:H' p=some u')(r:RPs K H xs us):OAt K (upd H p (.lst us)) p (.lst xs):=⟨us,bj,RPs.kp K (h.kpw n) r⟩
theorem aD{x1}(h:PA' X B es t):PE' X B (.Tuple es x1 pos) (Ae t):=aS (Bi h) fun σ H Q y_=>by
 obtain⟨σ',H',Q',s,h,k⟩:=y_;refine⟨σ',H',_,s,h,fun xs H1' us H1 h1 r1 s1 e1=>⟨by rw[RPs.length _ r1];exact h1.1,fun p n=>?_⟩⟩;exact k _ H1' _ _ h1.2 (oC n r1) (s1.hid n) (e1.trans (Ev.hid n))
theorem bz(h:PA' X B es t):PE' X B (.List es pos) (Bp t):=aS (AF h) fun σ H Q y_=>by
 obtain⟨σ',H',Q',s,h,k⟩:=y_;refine⟨σ',H',_,s,h,fun xs H1' us H1 h1 r1 s1 e1=>⟨by rw[RPs.length _ r1];exact h1.1,fun p n=>?_⟩⟩;exact k _ _ _ _ (h1.2 p (s1.hp.free n)) (by simp[RP]) (s1.new n (kL n r1)) (e1.trans (Ev.new n))
def cM(x:PV)(H:PHp)(k:List PV->Prop):Prop:=match x with
 | .tup l=>k l
 | .fls l=>k l
 | .ref a=>∃l,H a=some (.lst l)/\k l
 | _=>False
theorem cM.ex{K:PySem.W.Frag}{σ':St'}{σ:L2.St}{x:PV}{v:V}{H':PHp}{H:Hp}{k:List PV->Prop}(h:cM x H' k)(s:SR K B σ' H' σ H)(r:RP K H x v):∃l us p,v=.ref p/\RPs K H l us/\(SqL K H p us∨SqT K H p us)/\k l:=by
 unfold cM at h;split at h
 ·simp only[RP]at r;obtain⟨a,us,e,q,r⟩:=r;exact⟨_,us,a,e,r,.inr q,h⟩
 ·simp only[RP]at r;obtain⟨a,us,e,q,r⟩:=r;exact⟨_,us,a,e,r,.inl q.sq,h⟩
 ·simp only[RP]at r;obtain⟨l,e,h⟩:=h;obtain⟨us,q,r2⟩:=s.hp _ _ e;exact⟨l,us,_,r,r2,.inl (SqL.of q),h⟩
 ·exact h.elim
theorem BP{K:PySem.W.Frag}{H:Hp}{l:List PV}{us:List V}{i:Int}{x:PV}(r:RPs K H l us)(e:atI l i=some x):∃u,atI us i=some u/\RP K H x u:=by
 unfold atI at e ⊢;rw[RPs.length _ r];cases q:ixN l.length i with
 | none=>rw[q]at e;cases e
 | some j =>
  rw[q]at e;obtain⟨u,e1,e2⟩:=RPs.get _ r (show l[j]?=some x from e);exact⟨u,e1,e2⟩
def je(o:Option PV)(k:PV->Prop):Prop:=match o with
 | some v=>k v
 | none=>False
theorem je.ex{o:Option PV}{k:PV->Prop}(h:je o k):∃v,o=some v/\k v:=by
 unfold je at h;split at h
 ·exact⟨_,rfl,h⟩
 ·exact h.elim
def uIx:R2':=fun x y H Q=>cM x H fun l=>bW y fun i=>je (atI l i) fun v=>Q v H
theorem wW{X:Cx}:IxR X (fun x y H Q=>BD X.K x y H Q∨Bm X.K x y H Q):=yL.or Ah
theorem C9{K:PySem.W.Frag}:VR K B uIx (fun x y H Q=>BD K x y H Q∨Bm K x y H Q):=by
 intro σ' σ H' H x' y' x y Q' Q s rx ry h k;obtain⟨l,us,p,rfl,r,q,h1⟩:=cM.ex h s rx;obtain⟨i,rfl,h2⟩:=bW.ex h1;obtain⟨v,e,h3⟩:=je.ex h2;simp only[RP]at ry;obtain⟨u,e1,e2⟩:=BP r e;have:=k v H' u H h3 e2 s (Ev.refl _ _);rcases q with q | q
 ·exact .inl ⟨p,us,i,u,rfl,ry,q,e1,this⟩
 ·exact .inr ⟨p,us,i,u,rfl,ry,q,e1,this⟩
theorem Et(ha:PE' X B a ta)(hb:PE' X B b tb)(hs:kC b):PE' X B (.Subscript a b pos) (uOp uIx ta tb):=aS (Eu wW ha hb hs) fun _ _ _ h=>j5 C9 h
abbrev TO':=St'->PHp->(Option Int->PHp->Prop)->Prop
def FZ(K:PySem.W.Frag)(B:Bs)(t:TO'):TO:=fun σ H Q=>∃σ' H' Q',SR K B σ' H' σ H/\t σ' H' Q'/\∀b H1' H1,Q' b H1'->SR K B σ' H1' σ H1->Ev H' H H1' H1->Q b H1
abbrev PO'(X:Cx)(B:Bs)(e:Option Expr)(t:TO'):Prop:=L2.PO X e (FZ X.K B t)
theorem uW{e:Option Expr}{t1 t2:TO}(h:L2.PO X e t2)(i:∀σ H Q,t1 σ H Q->t2 σ H Q):L2.PO X e t1:=fun pins s σ H Q I q=>h pins s σ H Q I (i σ H Q q)
def pC:TO':=fun _ H Q=>Q none H
def za(t:TE'):TO':=fun σ H Q=>t σ H fun x H1=>bW x fun i=>Q (some i) H1
theorem cP:PO' X B none pC:=uW xG fun σ H Q ⟨σ',H',Q',s,h,k⟩=>k none H' H h s (Ev.refl _ _)
theorem cQ(h:PE' X B e ta):PO' X B (some e) (za ta):=uW (wq h) fun σ H Q y_=>by
 obtain⟨σ',H',Q',s,h,k⟩:=y_;refine⟨σ',H',_,s,h,fun x H1' v H1 h1 r1 s1 e1=>?_⟩;obtain⟨i,rfl,h1⟩:=bW.ex h1;simp only[RP]at r1;exact⟨i,r1,k _ H1' H1 h1 s1 e1⟩
def bO(xs:List PV)(lo hi:Option Int):List PV:=(xs.drop (HT.sIx xs.length 0 lo)).take (HT.sIx xs.length xs.length hi - HT.sIx xs.length 0 lo)
theorem j7{K:PySem.W.Frag}{H:Hp}{l:List PV}{us:List V}{lo hi:Option Int}(r:RPs K H l us):RPs K H (bO l lo hi) (jX us lo hi):=by
 unfold bO jX;rw[RPs.length _ r];exact RPs.take _ _ (RPs.drop _ _ r)
def sliceOf(x:PV)(lo hi:Option Int)(H3:PHp)(Q:VK'):Prop:=match x with
 | .fls l=>∀p,H3 p=none->Q (.ref p) (put H3 p (.lst (bO l lo hi)))
 | .ref a=>∃l,H3 a=some (.lst l)/\∀p,H3 p=none->Q (.ref p) (put H3 p (.lst (bO l lo hi)))
 | .tup l=>¬(HT.sIx l.length 0 lo=0/\HT.sIx l.length l.length hi=l.length)/\Q (.tup (bO l lo hi)) H3
 | _=>False
def uF(ta:TE')(tl th:TO'):TE':=fun σ H Q=>ta σ H fun x H1=>tl σ H1 fun lo H2=>th σ H2 fun hi H3=>sliceOf x lo hi H3 Q
theorem dY{lo hi:Option Expr}{tl th:TO'}{p2:Pos}(he:PE' X B e ta)(hl:PO' X B lo tl)(hu:PO' X B hi th):PE' X B (.Subscript e (.Slice lo hi none p2) pos) (uF ta tl th) :=
 aS (lD (yq.or u0) he hl hu) fun σ H Q y_=>by
 obtain⟨σ',H',Q',s,h,k⟩:=y_;refine⟨σ',H',_,s,h,fun x H1' v H1 h1 r1 s1 e1=>⟨σ',H1',_,s1,h1,fun l H2' H2 h2 s2 e2=>⟨σ',H2',_,s2,h2,fun u H3' H3 h3 s3 e3=>?_⟩⟩⟩;have r3:=RP.kp _ (e3.kp s2.hp) (RP.kp _ (e2.kp s1.hp) r1);have e123:=e1.trans (e2.trans e3);cases x with
 | fls xs =>
  simp only[RP]at r3;obtain⟨a,us,e,q,r⟩:=r3;refine .inl ⟨a,us,e,q.sq,fun p n=>?_⟩;exact k _ _ _ _ (h3 p (s3.hp.free n)) (by simp[RP]) (s3.new n (kL n (j7 r))) (e123.trans (Ev.new n))
 | ref a =>
  simp only[RP]at r3;obtain⟨xs,q,h3⟩:=h3;obtain⟨us,q2,r⟩:=s3.hp _ _ q;refine .inl ⟨a,us,r3,SqL.of q2,fun p n=>?_⟩;exact k _ _ _ _ (h3 p (s3.hp.free n)) (by simp[RP]) (s3.new n (kL n (j7 r))) (e123.trans (Ev.new n))
 | tup xs =>
  simp only[RP]at r3;obtain⟨a,us,e,q,r⟩:=r3;refine .inr ⟨a,us,e,q,by rw[RPs.length _ r];exact h3.1,fun p n=>?_⟩;exact k _ _ _ _ h3.2 (oC n (j7 r)) (s3.hid n) (e123.trans (Ev.hid n))
 | _=>exact h3.elim
def VC(K:PySem.W.Frag)(B:Bs)(r':List PV->PHp->VK'->Prop)(r:List V->Hp->VK->Prop):Prop:=∀(σ':St') (σ:L2.St) (H':PHp) (H:Hp) xs' xs (Q':VK') (Q:VK),SR K B σ' H' σ H->RPs K H xs' xs->r' xs' H' Q' ->
 (∀v' H1' v H1,Q' v' H1'->RP K H1 v' v->SR K B σ' H1' σ H1->Ev H' H H1' H1->Q v H1)->r xs H Q
def uCB(r:List PV->PHp->VK'->Prop)(t:TA'):TE':=fun σ H Q=>t σ H fun vs H1=>r vs H1 Q
theorem tG{K:PySem.W.Frag}{r':List PV->PHp->VK'->Prop}{r:List V->Hp->VK->Prop}{t:TA'}(v:VC K B r' r){σ:L2.St}{H:Hp}{Q:VK}(h:low K B (uCB r' t) σ H Q):tCB r (n5 K B t) σ H Q:=by
 obtain⟨σ',H',Q',s,h,k⟩:=h;exact⟨σ',H',_,s,h,fun xs' H1' xs H1 h1 rx s1 e1=>v σ' σ H1' H1 xs' xs Q' Q s1 rx h1 fun v' H3' v H3 q rv s3 e3=>k v' H3' v H3 q rv s3 (e1.trans e3)⟩
variable {x:Str}{p:Pos}
theorem az{id:String}{r':List PV->PHp->VK'->Prop}{r:List V->Hp->VK->Prop}(hc:cf X (.builtin id) r)(v:VC X.K B r' r)(hg:Gl X x)(hm:X.mg x=none)(hv:bootBuiltins x=some (.builtin id))(ha:PA' X B (e::es) t)
  (hn:x≠"__name__":=by decide) (hdb:(x==("__debug__":Str))=false:=by decide) (he:starEach (e::es) X.env=(false,eval e X.env)::starEach es X.env:=by rfl) (hpl:(backTo pos (starEach es X.env)).any (·.1)=false:=by rfl) :
  PE' X B (.Call (.Name x p) (e::es) [] pos) (uCB r' t):=aS (cF hc hg hm hv ha hn hdb he hpl) fun _ _ _ h=>tG v h
theorem aO{id:String}{r':List PV->PHp->VK'->Prop}{r:List V->Hp->VK->Prop}(hc:cf X (.type id) r)(v:VC X.K B r' r)(hg:Gl X x)(hm:X.mg x=none)(hv:bootBuiltins x=some (.type id))(ha:PA' X B (e::es) t)
  (hn:x≠"__name__":=by decide) (hdb:(x==("__debug__":Str))=false:=by decide) (he:starEach (e::es) X.env=(false,eval e X.env)::starEach es X.env:=by rfl) (hpl:(backTo pos (starEach es X.env)).any (·.1)=false:=by rfl) :
  PE' X B (.Call (.Name x p) (e::es) [] pos) (uCB r' t):=aS (cU hc hg hm hv ha hn hdb he hpl) fun _ _ _ h=>tG v h
def de(f:PV->PHp->VK'->Prop):List PV->PHp->VK'->Prop:=fun xs H Q=>match xs with
 | [x]=>f x H Q
 | _=>False
theorem de.ex{K:PySem.W.Frag}{H:Hp}{f:PV->PHp->VK'->Prop}{xs':List PV}{xs:List V}{H':PHp}{Q':VK'}(h:de f xs' H' Q')(r:RPs K H xs' xs):∃x' x,xs'=[x']/\xs=[x]/\RP K H x' x/\f x' H' Q':=by
 unfold de at h;split at h
 ·simp only[RPs]at r;obtain⟨u,r,rfl,q,rfl⟩:=r;exact⟨_,u,rfl,rfl,q,h⟩
 ·exact h.elim
def EO:List PV->PHp->VK'->Prop:=de fun x H Q=>cM x H fun l=>Q (.int l.length) H
theorem aW{K:PySem.W.Frag}:VC K B EO (fun xs H Q=>∃p ys,xs=[.ref p]/\(SqL K H p ys∨SqT K H p ys)/\Q (.int ys.length) H):=by
 intro σ' σ H' H xs' xs Q' Q s r h k;obtain⟨x',x,rfl,rfl,rx,h⟩:=de.ex h r;obtain⟨l,us,p,rfl,r,q,h⟩:=cM.ex h s rx;exact⟨p,us,rfl,q,k _ H' _ H h (by simp[RP,RPs.length _ r]) s (Ev.refl _ _)⟩
def IX:List PV->PHp->VK'->Prop:=de fun x H Q=>bW x fun i=>Q (.int (if i<0 then -i else i)) H
def b2n(b:Bool):Int:=if b then 1 else 0
def intOf(x:PV)(k:Int->Prop):Prop:=match x with
 | .int i=>k i
 | .bl b=>k (b2n b)
 | _=>False
def Jh:List PV->PHp->VK'->Prop:=de fun x H Q=>intOf x fun i=>Q (.int i) H
def zO:List PV->PHp->VK'->Prop:=de fun x H Q=>cM x H fun l=>∀p,H p=none->Q (.ref p) (put H p (.lst l))
theorem dR{K:PySem.W.Frag}:VC K B zO (fun xs H Q=>∃p ys,xs=[.ref p]/\(SqL K H p ys∨SqT K H p ys)/\∀l,H l=none->Q (.ref l) (upd H l (.lst ys))):=by
 intro σ' σ H' H xs' xs Q' Q s r h k;obtain⟨x',x,rfl,rfl,rx,h⟩:=de.ex h r;obtain⟨l,us,p,rfl,r,q,h⟩:=cM.ex h s rx;exact⟨p,us,rfl,q,fun p n=>k _ _ _ _ (h p (s.hp.free n)) (by simp[RP]) (s.new n (kL n r)) (Ev.new n)⟩
def v7:List PV->PHp->VK'->Prop:=de fun x H Q=>cM x H fun l=>Q (.tup l) H
theorem bg{K:PySem.W.Frag}:VC K B v7 (fun xs H Q=>∃p ys,xs=[.ref p]/\((SqL K H p ys/\∀l,H l=none->Q (.ref l) (upd H l (.tup ys)))∨(SqT K H p ys/\Q (.ref p) H))):=by
 intro σ' σ H' H xs' xs Q' Q s r h k;obtain⟨x',x,rfl,rfl,rx,h⟩:=de.ex h r;obtain⟨l,us,p,rfl,r,q,h⟩:=cM.ex h s rx;refine⟨p,us,rfl,?_⟩;rcases q with q | q
 ·exact .inl ⟨q,fun p n=>k _ _ _ _ h (oC n r) (s.hid n) (Ev.hid n)⟩
 ·exact .inr ⟨q,k _ _ _ _ h (by simp only[RP];exact⟨p,us,rfl,q,r⟩) s (Ev.refl _ _)⟩
end
end
section
variable {B:Bs}
section
variable {X:Cx}{a b c e o:Expr}{es:List Expr}{ta tb te:TE'}{tA tB:TT'}{st:Stmt}{sts:List Stmt}{t u:TS'}{pos:Pos}
def pG:TS':=fun D σ H=>D.nx σ H
def kH(t u:TS'):TS':=fun D σ H=>t { D with nx:=u D } σ H
theorem aC:gJ X B [] pG:=qt wN fun D σ H ⟨σ',H',D',s,h,d⟩=>d.nx _ _ _ _ h s (Ev.refl _ _)
theorem af(h1:PS' X B st t)(h2:gJ X B sts u):gJ X B (st::sts) (kH t u):=qt (vn h1 h2) fun D σ H ⟨σ',H',D',s,h,d⟩ =>
 ⟨σ',H',_,s,h,fun σ1' H1' σ1 H1 h1 s1 e1=>⟨σ1',H1',D',s1,h1,d.ev _ _ e1⟩,d.rt,d.bk,d.ct⟩
theorem ak(h1:PS' X B st t):gJ X B [st] t:=pf h1
def Cs:TS':=fun D σ H=>D.bk σ H
def C8:TS':=fun D σ H=>D.ct σ H
def zD(te:TE'):TS':=fun D σ H=>te σ H fun _ H1=>D.nx σ H1
theorem aR(he:PE' X B e te)(hs:swapsWith e none pos.line X.env=pure false:=by rfl):PS' X B (.Expr e pos) (zD te):=dI (w8 he hs) fun D σ H ⟨σ',H',D',s,h,d⟩ =>
 ⟨σ',H',_,s,h,fun v' H1' v H1 h1 r1 s1 e1=>d.nx _ _ _ _ h1 s1 e1⟩
def EX(te:TE'):TS':=fun D σ H=>te σ H D.rt
theorem ay(he:PE' X B e te):PS' X B (.Return (some e) pos) (EX te):=dI (Aq he) fun D σ H ⟨σ',H',D',s,h,d⟩ =>
 ⟨σ',H',_,s,h,fun v' H1' v H1 h1 r1 s1 e1=>d.rt _ _ _ _ h1 r1 s1.hp e1⟩
def CJ:TS':=fun D _ H=>D.rt .non H
def rp(c:TT')(t u:TS'):TS':=fun D σ H=>c σ H fun b H1=>cif b (t D σ H1) (u D σ H1)
theorem aN{l1 l2:List Stmt}(hc:PT' X B c tA)(ha:gJ X B l1 t)(hb:gJ X B l2 u):PS' X B (.If c l1 l2 pos) (rp tA t u):=dI (Dp hc ha hb) fun D σ H y_=>by
 obtain⟨σ',H',D',s,h,d⟩:=y_;refine⟨σ',H',_,s,h,fun x H1' H1 h1 s1 e1=>?_⟩;cases x with
 | true=>exact j3 ⟨σ',H1',D',s1,h1,d.ev _ _ e1⟩
 | false=>exact kf ⟨σ',H1',D',s1,h1,d.ev _ _ e1⟩
def Bc:TS':=fun _ _ _=>False
theorem dw:gJ X B sts Bc:=fun _ _ _ _ _ _ ⟨_,_,_,_,h,_⟩=>h.elim
def du(i:Nat):TG':=fun v σ H Q=>Q (σ.set i (some v)) H
theorem SR.set{K:PySem.W.Frag}{σ':St'}{H':PHp}{σ:L2.St}{H:Hp}{v':PV}{v:V}(s:SR K B σ' H' σ H)(r:RP K H v' v)(i:Nat):SR K B (σ'.set i (some v')) H' (σ.set i (some v)) H:=by
 refine⟨by simp[s.len],fun j w e=>?_,s.hp,s.ev⟩;by_cases hj:i=j
 ·subst hj;have hl:i<σ'.length:=by
   rcases Nat.lt_or_ge i σ'.length with h | h
   ·exact h
   ·rw[KJ (by simpa using h)]at e;cases e
  rw[KI hl]at e;cases e;exact⟨v,KI (by rw[←s.len];exact hl),r⟩
 ·rw[Lg hj]at e ⊢;exact s.loc j w e
theorem yU{i:Nat}{x:Str}(hN:X.N.Nodup)(hi:X.N[i]?=some x)(hx:Loc X.env.scope x)(hf:X.fn x=true∨X.env.scope.names.lookup x=some .local:=by first | exact .inl rfl | exact .inr rfl | assumption):PG' X B (.Name x pos) (du i) :=
 kD (xk hN hi hx hf) fun v σ H Q ⟨v',σ',H',Q',r,s,h,k⟩=>k _ _ _ _ h (s.set r i) (Ev.refl _ _)
def yk:gh:=fun vs σ H Q=>vs=[]/\Q σ H
def pL(t:TG')(u:gh):gh:=fun vs σ H Q=>match vs with
 | v::r=>t v σ H fun σ' H'=>u r σ' H' Q
 | []=>False
theorem cg:v8 X B [] yk:=oS wg fun vs σ H Q y_=>by
 obtain⟨v',σ',H',Q',r,s,h,k⟩:=y_;obtain⟨rfl,h⟩:=h;simp only[RPs]at r;exact⟨r,k _ _ _ _ h s (Ev.refl _ _)⟩
theorem aT{t:TG'}{u:gh}(h1:PG' X B e t)(h2:v8 X B es u)(hs:(assignEach (e::es) X.env).map (·.2)=assign e X.env::(assignEach es X.env).map (·.2):=by rfl):v8 X B (e::es) (pL t u) :=
 oS (vZ h1 h2 hs) fun vs σ H Q y_=>by
 obtain⟨vs',σ',H',Q',r,s,h,k⟩:=y_;cases vs' with
 | nil=>exact h.elim
 | cons v' r' =>
  simp only[RPs]at r;obtain⟨v,w,rfl,rv,rw'⟩:=r;refine⟨v,w,rfl,v',σ',H',_,rv,s,h,fun σ1' H1' σ1 H1 h1 s1 e1=>⟨r',σ1',H1',Q',RPs.kp _ (e1.kp s.hp) rw',s1,h1,fun σ2' H2' σ2 H2 h2 s2 e2=>k _ _ _ _ h2 s2 (e1.trans e2)⟩⟩
def A3(n:Nat)(t:gh):TG':=fun v σ H Q=>match v with
 | .tup l=>l.length=n/\t l σ H Q
 | _=>False
theorem dj{k:Nat}{t:gh}{n:Nat}(hc:X.calm=true)(h:v8 X B es t)(hn:(assignEach es X.env).length=n:=by rfl)(hst:(assignEach es X.env).findIdx? (·.1)=none:=by rfl):PG' X B (.Tuple es k pos) (A3 n t) :=
 kD (BH hc h hn hst) fun v σ H Q y_=>by
 obtain⟨v',σ',H',Q',r,s,h,k⟩:=y_;cases v' with
 | tup l =>
  obtain⟨hl,h⟩:=h;simp only[RP]at r;obtain⟨a,us,rfl,q,r⟩:=r;exact⟨a,us,rfl,q,by rw[RPs.length _ r];exact hl,l,σ',H',Q',r,s,h,k⟩
 | _=>exact h.elim
def jV(te:TE')(g:TG'):TS':=fun D σ H=>te σ H fun x H1=>g x σ H1 D.nx
theorem wb{K:PySem.W.Frag}{te:TE'}{g:TG'}{D:Ends}{σ:L2.St}{H:Hp}(h:Cg K B (jV te g) D σ H):yg (low K B te) (lowG K B g) D σ H:=by
 obtain⟨σ',H',D',s,h,d⟩:=h;exact⟨σ',H',_,s,h,fun x H1' v H1 h1 r1 s1 e1=>⟨x,σ',H1',_,r1,s1,h1,fun σ2' H2' σ2 H2 h2 s2 e2=>d.nx _ _ _ _ h2 s2 (e1.trans e2)⟩⟩
theorem ka{tg:Expr}{g:TG'}(he:PE' X B e te)(hg:PG' X B tg g)(hs:swapsWithSole [tg] e pos.line X.env=pure false:=by rfl)(hw:swappedStores [tg] e X.env=pure none:=by rfl)
  (h1:(assignEach [tg] X.env).map (·.2)=[assign tg X.env]:=by rfl):PS' X B (.Assign [tg] e pos) (jV te g):=dI (AD he hg hs hw h1) fun _ _ _ h=>wb h
theorem fb{i:Nat}{x:Str}{pos':Pos}(hN:X.N.Nodup)(hi:X.N[i]?=some x)(hx:Loc X.env.scope x)(he:PE' X B e te)(hs:swapsWith e (some (.Name x pos')) pos.line X.env=pure false:=by rfl)(hf:X.fn x=true∨X.env.scope.names.lookup x=some .local:=by first | exact .inl rfl | exact .inr rfl | assumption) :
  PS' X B (.Assign [.Name x pos'] e pos) (jV te (du i)):=dI (ud hN hi hx he hs hf) fun D σ H h=>by
 obtain⟨σ',H',D',s,h,d⟩:=h;exact⟨σ',H',_,s,h,fun x H1' v H1 h1 r1 s1 e1=>d.nx _ _ _ _ h1 (s1.set r1 i) e1⟩
def j2(c:TT')(tb:TS'):TS':=fun D σ H=>∃W:Nat->St'->PHp->Prop,(∃m,W m σ H)/\∀m σ H,W m σ H ->
 c σ H fun b H1=>cif b (∃N:St'->PHp->Prop,(∀σ' H',N σ' H'->∃m',m'<m/\W m' σ' H')/\tb { D with nx:=N,ct:=N,bk:=D.nx } σ H1) (D.nx σ H1)
theorem fj{body:List Stmt}(hp:PassesOwn (model X.prog X.w) X.A X.env X.xe)(hc:PT' X B c tA)(hb:gJ X B body t):PS' X B (.While c body [] pos) (j2 tA t):=dI (va hp hc hb) fun D σ H y_=>by
 obtain⟨σ',H',D',s,⟨W,⟨m0,w0⟩,turn⟩,d⟩:=y_;refine⟨fun m σ1 H1=>∃σ1' H1',SR X.K B σ1' H1' σ1 H1/\Ev H' H H1' H1/\W m σ1' H1',⟨m0,σ',H',s,Ev.refl _ _,w0⟩,?_⟩;rintro m σ1 H1 ⟨σ1',H1',s1,e1,w1⟩;refine⟨σ1',H1',_,s1,turn m σ1' H1' w1,fun x H2' H2 h2 s2 e2=>?_⟩;cases x with
 | false=>exact kf (d.nx _ _ _ _ h2 s2 (e1.trans e2))
 | true =>
  obtain⟨N,hN,h2⟩:=(show ∃N:St'->PHp->Prop,_ from h2);refine j3 ⟨fun σ3 H3=>∃σ3' H3',SR X.K B σ3' H3' σ3 H3/\Ev H' H H3' H3/\N σ3' H3',?_,σ1',H2',_,s2,h2,?_,?_,?_,?_⟩
  ·rintro σ3 H3 ⟨σ3',H3',s3,e3,n3⟩;obtain⟨m',hm,w'⟩:=hN _ _ n3;exact⟨m',hm,σ3',H3',s3,e3,w'⟩
  ·intro σ3' H3' σ3 H3 n3 s3 e3;exact⟨σ3',H3',s3,(e1.trans e2).trans e3,n3⟩
  ·intro v' H3' v H3 n3 r3 s3 e3;exact d.rt _ _ _ _ n3 r3 s3 ((e1.trans e2).trans e3)
  ·intro σ3' H3' σ3 H3 n3 s3 e3;exact d.nx _ _ _ _ n3 s3 ((e1.trans e2).trans e3)
  ·intro σ3' H3' σ3 H3 n3 s3 e3;exact⟨σ3',H3',s3,(e1.trans e2).trans e3,n3⟩
theorem d5{c:TT'}{tb:TS'}{D:cL}{σ:St'}{H:PHp}(Pv:Nat->St'->PHp->Prop)(m0:Nat)(h0:Pv m0 σ H)
  (hs:∀m σ H,Pv m σ H->c σ H fun b H1=>cif b (∃N:St'->PHp->Prop,(∀σ' H',N σ' H'->∃m',m'<m/\Pv m' σ' H')/\tb { D with nx:=N,ct:=N,bk:=D.nx } σ H1) (D.nx σ H1)):j2 c tb D σ H:=⟨Pv,⟨m0,h0⟩,hs⟩
def fM(ok:PHp->Prop)(g:TG')(tb:TS')(D:cL):List PV->St'->PHp->Prop
 | [],σ,H=>ok H/\D.nx σ H
 | x::r,σ,H=>ok H/\g x σ H fun σ2 H2=>tb { D with nx:=fM ok g tb D r,ct:=fM ok g tb D r,bk:=D.nx } σ2 H2
def Bv(wi:TI')(g:TG')(tb:TS'):TS':=fun D σ H=>wi σ H fun J H1=>fM J.ok g tb D J.items σ H1
theorem qo{t:TS'}{iter tg:Expr}{body:List Stmt}{wi:TI'}{g:TG'}(hp:PassesOwn (model X.prog X.w) X.A X.env X.xe)(hc:X.calm=true)(hi:PIH X B tg iter wi)(hg:PG' X B tg g)(hb:gJ X B body t)
  (hs:∀x,foldedSetIterable iter X.env x=pure x:=by intro _;rfl):PS' X B (.For tg iter body [] pos) (Bv wi g t):=dI (Bl hp hc hi hg hb hs) fun D σ H y_=>by
 obtain⟨σ',H',D',s,h,d⟩:=y_;refine⟨σ',H',_,s,h,fun J' H1' J H1 h1 wk s1 e1=>?_⟩;refine⟨fun i m σ2 H2=>i≤J'.items.length/\m=J'.items.length - i/\∃σ2' H2',SR X.K B σ2' H2' σ2 H2/\Ev H1' H1 H2' H2/\fM J'.ok g t D' (J'.items.drop i) σ2' H2',⟨J'.items.length,K1 _,by simp,σ',H1',s1,Ev.refl _ _,h1⟩,?_⟩;rintro i m σ2 H2 ⟨hi,rfl,σ2',H2',s2,e2,h2⟩;have k2:=e2.kp s1.hp;by_cases hlt:i<J'.items.length
 ·obtain⟨x',hx⟩:∃x',J'.items[i]?=some x':=⟨_,Jo hlt⟩;have hd:J'.items.drop i=x'::J'.items.drop (i+1):=by
   rw[List.drop_eq_getElem_cons hlt];rw[Jo hlt]at hx;cases hx;rfl
  rw[hd]at h2;obtain⟨ok2,h2⟩:=(show J'.ok H2'/\_ from h2);refine .inr ⟨wk.go H2' H2 i k2 s2.hp ok2 hlt,fun σ3 H3=>∃σ3' H3',SR X.K B σ3' H3' σ3 H3/\Ev H1' H1 H3' H3/\fM J'.ok g t D' (J'.items.drop (i+1)) σ3' H3',?_,fun x H3 y=>?_⟩
  ·rintro σ3 H3 ⟨σ3',H3',s3,e3,h3⟩;exact⟨J'.items.length - (i+1),by symm,hlt,rfl,σ3',H3',s3,e3,h3⟩
  ·obtain⟨hr3,ev3,rx⟩:=wk.yld H2' H2 i x H3 k2 s2.hp ok2 y;have s2b:=s2.kp ev3 hr3;have e2b:=e2.trans ev3;refine⟨x',σ2',H2',_,rx x' hx,s2b,h2,fun σ3' H3' σ3 H3 h3 s3 e3=>⟨σ3',H3',_,s3,h3,?_,?_,?_,?_⟩⟩
   ·intro σ4' H4' σ4 H4 h4 s4 e4;exact⟨σ4',H4',s4,e2b.trans (e3.trans e4),h4⟩
   ·intro v' H4' v H4 h4 r4 s4 e4;exact d.rt _ _ _ _ h4 r4 s4 (e1.trans (e2b.trans (e3.trans e4)))
   ·intro σ4' H4' σ4 H4 h4 s4 e4;exact d.nx _ _ _ _ h4 s4 (e1.trans (e2b.trans (e3.trans e4)))
   ·intro σ4' H4' σ4 H4 h4 s4 e4;exact⟨σ4',H4',s4,e2b.trans (e3.trans e4),h4⟩
 ·have hi':i=J'.items.length:=by symm
  subst hi';rw[List.drop_length]at h2;obtain⟨ok2,h2⟩:=(show J'.ok H2'/\_ from h2);exact .inl ⟨wk.stop H2' H2 k2 s2.hp ok2,d.nx _ _ _ _ h2 s2 (e1.trans e2)⟩
theorem bM{iter tg:Expr}{body:List Stmt}{wi:TI'}{g:TG'}(hp:PassesOwn (model X.prog X.w) X.A X.env X.xe)(hc:X.calm=true)(hi:PI' X B tg iter wi)(hg:PG' X B tg g)(hb:gJ X B body t)
  (hs:∀x,foldedSetIterable iter X.env x=pure x:=by intro _;rfl):PS' X B (.For tg iter body [] pos) (Bv wi g t):=qo hp hc (nZ hi) hg hb hs
def sL(x:PV)(H1:PHp)(R:It'->PHp->Prop):Prop:=match x with
 | .tup l=>R ⟨l,fun _=>True⟩ H1
 | .fls l=>R ⟨l,fun _=>True⟩ H1
 | .ref a=>∃l,H1 a=some (.lst l)/\R ⟨l,fun H=>H a=some (.lst l)⟩ H1
 | _=>False
def zb(ta:TE'):TI':=fun σ H R=>ta σ H fun x H1=>sL x H1 R
def F8(K:PySem.W.Frag)(tl:TE):TI:=fun σ H R=>tl σ H fun x H1=>∃a,x=.ref a/\((∃xs,SqL K H1 a xs)/\R (Itl K a) H1∨(∃xs,SqT K H1 a xs)/\R (Itt K a) H1)
theorem Bz{tg l:Expr}{tl:TE}(hl:PE X l tl):PI X tg l (F8 X.K tl):=by
 intro pins s σ H R I h;refine thn (hl pins s σ H _ I h) fun v s1 y_=>?_;obtain⟨x,H1,I1,r1,q1⟩:=y_;obtain⟨a,e,⟨⟨xs,hq⟩,q⟩ |⟨⟨xs,hq⟩,q⟩⟩:=q1
 ·subst e;cases r1;obtain⟨its,rv,p,hz⟩:=I1.list hq;refine wpAny_pyIter_list p.isList ?_;refine⟨s1.heap.objs.size,[s1.heap.objs.size],_,_,H1,rfl,I1.kept (t':=s1.toks) fun b o e=>Js _ e,rg a _,⟨_,JA _ rfl,rfl,rfl⟩,fun b hb=>?_,q⟩;have e:b=s1.heap.objs.size:=by simpa using hb
  subst e;exact I1.fpOk (Jy _) (I1.hok.fresh (Jy _))
 ·subst e;cases r1;obtain⟨its,rv,p,hz⟩:=I1.tuple hq;refine wpAny_pyIter_tuple (show s1.heap.IsTuple a its.toArray from p) ?_;refine⟨s1.heap.objs.size,[s1.heap.objs.size],_,_,H1,rfl,I1.kept (t':=s1.toks) fun b o e=>Js _ e,nM a _,⟨_,JA _ rfl,rfl,rfl⟩,fun b hb=>?_,q⟩;have e:b=s1.heap.objs.size:=by simpa using hb
  subst e;exact I1.fpOk (Jy _) (I1.hok.fresh (Jy _))
theorem g8{K:PySem.W.Frag}{H1:Hp}{J':It'}{a:Addr}(h:∀H' H,Kp H1 H->HR K H' H->J'.ok H'->∃us,SqL K H a us/\RPs K H J'.items us):Walks K H1 (Itl K a) J' where
 go:=fun H' H i k s o hi=>by
  obtain⟨us,q,r⟩:=h H' H k s o;obtain⟨u,e,_⟩:=RPs.get _ r (Jo hi);exact⟨us,u,q,e⟩
 yld:=fun H' H i x H2 k s o y=>by
  obtain⟨us,q,r⟩:=h H' H k s o;refine⟨y.1,fun x' hx=>?_⟩;obtain⟨u,e,ru⟩:=RPs.get _ r hx;have:=y.2 us q;rw[e]at this;cases this;exact ru
 stop:=fun H' H i k s o hi=>by
  obtain⟨us,q,r⟩:=h H' H k s o;exact⟨us,q,by rw[RPs.length _ r];exact hi⟩
theorem qR{K:PySem.W.Frag}{H1:Hp}{J':It'}{a:Addr}(h:∀H' H,Kp H1 H->HR K H' H->J'.ok H'->∃us,SqT K H a us/\RPs K H J'.items us):Walks K H1 (Itt K a) J' where
 go:=fun H' H i k s o hi=>by
  obtain⟨us,q,r⟩:=h H' H k s o;obtain⟨u,e,_⟩:=RPs.get _ r (Jo hi);exact⟨us,u,q,e⟩
 yld:=fun H' H i x H2 k s o y=>by
  obtain⟨us,q,r⟩:=h H' H k s o;refine⟨y.1,fun x' hx=>?_⟩;obtain⟨u,e,ru⟩:=RPs.get _ r hx;have:=y.2 us q;rw[e]at this;cases this;exact ru
 stop:=fun H' H i k s o hi=>by
  obtain⟨us,q,r⟩:=h H' H k s o;exact⟨us,q,by rw[RPs.length _ r];exact hi⟩
theorem aK{tg:Expr}(ha:PE' X B a ta):PI' X B tg a (zb ta):=fe (Bz ha) fun σ H R y_=>by
 obtain⟨σ',H',R',s,h,k⟩:=y_;refine⟨σ',H',_,s,h,fun x' H1' x H1 h1 r1 s1 e1=>?_⟩;cases x' with
 | tup l =>
  simp only[RP]at r1;obtain⟨p,us,rfl,q,r⟩:=r1;exact⟨p,rfl,.inr ⟨⟨us,q⟩,k _ H1' _ H1 h1 (qR fun _ H2 k2 _ _=>⟨us,k2.sqT q,RPs.kp _ k2 r⟩) s1 e1⟩⟩
 | fls l =>
  simp only[RP]at r1;obtain⟨p,us,rfl,q,r⟩:=r1;exact⟨p,rfl,.inl ⟨⟨us,q.sq⟩,k _ H1' _ H1 h1 (g8 fun _ H2 k2 _ _=>⟨us,(k2.fzL q).sq,RPs.kp _ k2 r⟩) s1 e1⟩⟩
 | ref p =>
  simp only[RP]at r1;obtain⟨l,q,h1⟩:=h1;obtain⟨us,q2,r⟩:=s1.hp _ _ q;refine⟨p,r1,.inl ⟨⟨us,SqL.of q2⟩,k _ H1' _ H1 h1 (g8 fun H2' H2 k2 s2 o2=>?_) s1 e1⟩⟩;obtain⟨us2,q3,r3⟩:=s2 _ _ o2;exact⟨us2,SqL.of q3,r3⟩
 | _=>exact h1.elim
def cb(lo:Int)(n:Nat):List PV:=(List.range n).map fun k=>PV.int (lo+(k:Nat))
theorem jz{K:PySem.W.Frag}{H1:Hp}{lo:Int}{n:Nat}:Walks K H1 (Itr lo n) ⟨cb lo n,fun _=>True⟩ where
 go:=fun H' H i k s o hi=>by
  have h:i<n:=by simpa[cb]using hi
  exact h
 yld:=fun H' H i x H2 k s o y=>by
  obtain⟨e,rfl⟩:=y;refine⟨e,fun x' hx=>?_⟩;simp only[cb,JI]at hx;cases q:(List.range n)[i]? with
  | none=>rw[q]at hx;cases hx
  | some j =>
   rw[q]at hx;obtain⟨h1,h2⟩:=JE.mp q;rw[List.getElem_range]at h2;subst h2;cases hx;simp[RP]
 stop:=fun H' H i k s o hi=>by
  have h:n≤i:=by simpa[cb]using hi
  exact h
def yu(vs:List PV)(H1:PHp)(R:It'->PHp->Prop):Prop:=match vs with
 | [.int j]=>(-(2 ^ 62)≤j/\j<2 ^ 62)/\R ⟨cb 0 j.toNat,fun _=>True⟩ H1
 | _=>False
def y4(t:TA'):TI':=fun σ H R=>t σ H fun vs H1=>yu vs H1 R
def wt(vs:List PV)(H1:PHp)(R:It'->PHp->Prop):Prop:=match vs with
 | [.int i,.int j]=>(-(2 ^ 62)≤i/\i<2 ^ 62/\-(2 ^ 62)≤j/\j<2 ^ 62)/\R ⟨cb i (j - i).toNat,fun _=>True⟩ H1
 | _=>False
def ze(t:TA'):TI':=fun σ H R=>t σ H fun vs H1=>wt vs H1 R
theorem cu{tg:Expr}{t:TA'}{p:Pos}(hg:Gl X "range")(hm:X.mg "range"=none)(ha:PA' X B [a] t)(hs:starEach [a] X.env=[(false,eval a X.env)]:=by rfl):PI' X B tg (.Call (.Name "range" p) [a] [] pos) (y4 t) :=
 fe (rN hg hm ha hs) fun σ H R y_=>by
 obtain⟨σ',H',R',s,h,k⟩:=y_;refine⟨σ',H',_,s,h,fun vs' H1' vs H1 h1 r1 s1 e1=>?_⟩;unfold yu at h1;split at h1
 ·rename_i j;simp only[RPs,RP]at r1;obtain⟨u,r,rfl,rfl,rfl⟩:=r1;exact⟨j,rfl,h1.1.1,h1.1.2,k _ H1' _ H1 h1.2 jz s1 e1⟩
 ·exact h1.elim
theorem jr{tg:Expr}{t:TA'}{p:Pos}(hg:Gl X "range")(hm:X.mg "range"=none)(ha:PA' X B [a,b] t)(hs:starEach [a,b] X.env=[(false,eval a X.env),(false,eval b X.env)]:=by rfl)(hs2:starEach [b] X.env=[(false,eval b X.env)]:=by rfl) :
  PI' X B tg (.Call (.Name "range" p) [a,b] [] pos) (ze t):=fe (qL hg hm ha hs hs2) fun σ H R y_=>by
 obtain⟨σ',H',R',s,h,k⟩:=y_;refine⟨σ',H',_,s,h,fun vs' H1' vs H1 h1 r1 s1 e1=>?_⟩;unfold wt at h1;split at h1
 ·rename_i i j;simp only[RPs,RP]at r1;obtain⟨u,r,rfl,rfl,w,r,rfl,rfl,rfl⟩:=r1;exact⟨i,j,rfl,h1.1,k _ H1' _ H1 h1.2 jz s1 e1⟩
 ·exact h1.elim
end
end
section
variable {B:Bs}
abbrev Sp':=List PV->PHp->VK'->XK'->Prop
def dF(K:PySem.W.Frag)(sp:Sp'):Sp:=fun vs H Q E=>∃vs' H' Q' E',RPs K H vs' vs/\HR K H' H/\sp vs' H' Q' E'/\(∀v' H1' v H1,Q' v' H1'->RP K H1 v' v->HR K H1' H1->Ev H' H H1' H1->Q v H1) /\
 (∀c d H1' H1,E' c d H1'->HR K H1' H1->Ev H' H H1' H1->E c d H1)
abbrev aG(P:Program)(w:World)(K:PySem.W.Frag)(mg:Str->Option Value)(base:Heap)(CX:CXT)(k:Nat)(f:Addr)(fd:FuncData)(ps:List Str)(sp:Sp'):Prop:=fH P w K mg base CX k f fd ps (dF K sp)
def d0(N:List Str)(vs:List PV):St':=vs.map some++List.replicate (N.length - vs.length) none
theorem lg{K:PySem.W.Frag}{N:List Str}{vs':List PV}{vs:List V}{H':PHp}{H:Hp}(r:RPs K H vs' vs)(h:HR K H' H):SR K (H',H) (d0 N vs') H' (L2.start N vs) H:=by
 have hl:=RPs.length _ r;refine⟨by simp[d0,L2.start,hl],fun i v' e=>?_,h,Ev.refl _ _⟩;unfold d0 at e;unfold L2.start;by_cases hi:i<vs'.length
 ·rw[K8 (by simpa using hi)]at e;rw[K8 (by simpa[hl]using hi)];rw[JI]at e ⊢;cases q:vs'[i]? with
  | none=>rw[q]at e;cases e
  | some w =>
   rw[q]at e;cases e;obtain⟨u,e1,e2⟩:=RPs.get _ r q;exact⟨u,by rw[e1];rfl,e2⟩
 ·rw[List.getElem?_append_right (by simpa using hi)]at e;rw[List.getElem?_replicate]at e;split at e<;>cases e
def ends(Q:VK'):cL where
 nx:=fun _ H=>∃H3,Sub H3 H/\Q .non H3
 rt:=fun v H=>∃H3,Sub H3 H/\Q v H3
section
variable {P:Program}{w:World}{K:PySem.W.Frag}{mg:Str->Option Value}{base:Heap}
theorem okU{x qual:Str}{st:Stmt}{f:Addr}{fd:FuncData}{N ps:List Str}{k:Nat}{sp:Sp'}(F:Fun K x qual st f fd)(S:aw N ps (ai st))(len:∀vs H Q E,sp vs H Q E->vs.length=ps.length)
  (hbody:∀(cdv:Value) (A:Around) (outer:List Env) (s:Shared) (H:Hp) (E:XK) (B:Bs),bS k (A.deeper (envOfC qual (ai st) s.heap.objs.size f cdv)) ->
   ∃t,gJ (kz CX0 P w K mg base N qual (ai st) f cdv A outer s H E).nox B (dM st) t/\∀vs' H' Q' E',sp vs' H' Q' E'->t (ends Q') (d0 N vs') H'):aG P w K mg base CX0 (k+1) f fd ps sp:=by
 refine F.ok S (fun vs H Q E zz=>?_) (fun cdv A outer s H vs Q E hr h=>?_)
 ·obtain⟨vs',H',Q',E',r,hr,h,_⟩:=zz;rw[RPs.length _ r];exact len _ _ _ _ h
 ·obtain⟨vs',H',Q',E',r,hh,h,k1,k2⟩:=h;obtain⟨t,ht,hq⟩:=hbody cdv A outer s H E (H',H) hr;refine⟨_,ht,d0 N vs',H',_,lg r hh,hq vs' H' Q' E' h,?_,?_,?_,?_⟩
  ·rintro σ1' H1' σ1 H1 ⟨H3,sb,q⟩ s1 e1;exact k1 _ H3 _ H1 q (by simp[RP]) (s1.hp.sub sb) (e1.sub sb)
  ·rintro v' H1' v H1 ⟨H3,sb,q⟩ r1 s1 e1;exact k1 _ H3 _ H1 q r1 (s1.sub sb) (e1.sub sb)
  ·intro _ _ _ _ z;exact z.elim
  ·intro _ _ _ _ z;exact z.elim
end
section
variable {X:Cx}{CX:CXT}{k:Nat}{f C:Addr}{fd:FuncData}{ps:List Str}{sp:Sp'}{E:XK}{E':XK'}{x m:Str}{p pos apos:Pos}{e o:Expr}{es:List Expr}{ta:TE'}{t:TA'}
def nk(sp:Sp')(E':XK')(t:TA'):TE':=fun σ H Q=>t σ H fun vs H1=>sp vs H1 Q E'
abbrev X0:XK':=fun _ _ _=>False
theorem rq{K:PySem.W.Frag}{σ:L2.St}{H:Hp}{Q:VK}(h:low K B (nk sp X0 t) σ H Q):uE (dF K sp) [] E0 (n5 K B t) σ H Q:=by
 obtain⟨σ',H',Q',s,h,k⟩:=h;refine⟨σ',H',_,s,h,fun vs' H1' vs H1 h1 r1 s1 e1=>?_⟩;show dF K sp (vs++[]) H1 Q E0;rw[JQ];exact⟨vs',H1',Q',X0,r1,s1.hp,h1,fun v' H2' v H2 q r2 h2 e2=>k v' H2' v H2 q r2 (s1.kp e2 h2) (e1.trans e2),fun _ _ _ _ z=>z.elim⟩
theorem aA(F:aG X.prog X.w X.K X.mg X.base CX0 k f fd ps sp)(hr:bS k X.A)(hg:Gl X x)(hm:X.mg x=some (.ref f))(hk:PySem.W.keepIn X.K (.ref f)=true)(hb:Binds X.K fd ps [])
  (ha:PA' X B (e::es) t) (hdb:(x==("__debug__":Str))=false:=by decide) (he:starEach (e::es) X.env=(false,eval e X.env)::starEach es X.env:=by rfl) (hpl:(backTo pos (starEach es X.env)).any (·.1)=false:=by rfl) :
  PE' X B (.Call (.Name x p) (e::es) [] pos) (nk sp X0 t):=aS (oR F hr hg hm hk hb .nil vD ha hdb he hpl) fun _ _ _ h=>rq h
theorem C0{K:PySem.W.Frag}{H:Hp}{a:Addr}{xs:List V}(o:rm H)(h:SqL K H a xs):FzL K H a xs:=by
 rcases h with(h | h) | h
 ·rcases o a with z |⟨ob,ys,z⟩
  ·rw[z]at h;cases h
  ·rw[z]at h;cases h
 ·exact .inl h
 ·exact .inr h
def spL:Sp':=fun vs H Q _=>match vs with
 | [.fls l]=>∃ns:List Int,l=ns.map PV.int/\ns.length≤63/\Q (.bl true) H
 | _=>False
theorem rJ{K:PySem.W.Frag}{H:Hp}{a:Addr}{ns:List Int}(hl:ns.length≤63)(o:rm H)(h:SqL K H a (ns.map V.int)):dF K spL [.ref a] H (fun v _=>v=.bl true) fun _ _ _=>False:=by
 refine⟨[.fls (ns.map PV.int)],fun _=>none,fun v _=>v=.bl true,X0,?_,fun _ _ z=>(nomatch z),⟨ns,rfl,hl,rfl⟩,fun v' _ v _ q r _ _=>?_,fun _ _ _ _ z=>z.elim⟩
 ·refine RPs.cons _ ?_ (RPs.nil _);simp only[RP];exact⟨a,_,rfl,C0 o h,RPs.ints _ _⟩
 ·subst q;simpa[RP]using r
end
end
section
variable {B:Bs}
mutual
def deq:PV->PV->Bool
 | .non,.non=>true
 | .bl a,.bl b=>a==b
 | .int a,.int b=>a==b
 | .bl a,.int b=>(if a then 1 else 0)==b
 | .int a,.bl b=>a==(if b then 1 else 0)
 | .str a,.str b=>a==b
 | .tup l,.tup m=>gm l m
 | .fls l,.fls m=>gm l m
 | _,_=>false
def gm:List PV->List PV->Bool
 | [],[]=>true
 | x::l,y::m=>deq x y&&gm l m
 | _,_=>false
end
def flat:Nat->PV->Bool
 | _,.non=>true
 | _,.bl _=>true
 | _,.int _=>true
 | _,.str _=>true
 | n+1,.tup l=>l.all (flat n)
 | n+1,.fls l=>l.all (flat n)
 | _,_=>false
theorem dO:∀(l m:List PV),gm l m=((List.range (min l.length m.length)).all (fun i=>deq (l.getD i .non) (m.getD i .non))&&l.length==m.length)
 | [],[]=>by simp[gm]
 | [],_::_=>by simp[gm]
 | _::_,[]=>by simp[gm]
 | x::l,y::m=>by
  simp only[gm,dO l m,JR];rw[show min (l.length+1) (m.length+1)=min l.length m.length+1 by symm,List.range_succ_eq_map,List.all_cons,List.all_map];simp only[List.getD_cons_zero,Bool.and_assoc];congr 1;congr 1;simp
theorem gg{n:Nat}:∀(l:List PV),(∀x∈l,deq x x=true)->gm l l=true
 | [],_=>rfl
 | x::l,h=>by
  have h1:=h x (by simp);have h2:=gg (n:=n) l fun y hy=>h y (by simp[hy]);simp only[gm,h1,h2,Bool.and_self]
theorem fS:∀{n:Nat} {x:PV},flat n x=true->deq x x=true
 | _,.non,_=>by simp[deq]
 | _,.bl _,_=>by simp[deq]
 | _,.int _,_=>by simp[deq]
 | _,.str _,_=>by simp[deq]
 | n+1,.tup l,h=>by
  simp only[flat,Kg]at h;simp only[deq];exact gg (n:=0) l fun x hx=>fS (h x hx)
 | n+1,.fls l,h=>by
  simp only[flat,Kg]at h;simp only[deq];exact gg (n:=0) l fun x hx=>fS (h x hx)
 | 0,.tup _,h=>by cases h
 | 0,.fls _,h=>by cases h
 | n,.ref _,h=>by cases n<;>cases h
 | n,.oth _,h=>by cases n<;>cases h
section
variable {X:Cx}{pins:List (Addr×Obj)}{σ:L2.St}{H:Hp}{s:Shared}
def RR(K:PySem.W.Frag)(H:Hp)(x:PV)(u:Value):Prop:=∃v,RP K H x v/\RelV v u
def RL(K:PySem.W.Frag)(H:Hp)(l:List PV)(us:List Value):Prop:=∃vs,RPs K H l vs/\Vals vs us
def RD(K:PySem.W.Frag)(H:Hp)(x:PV)(u:Value):Prop:=match x with
 | .fls l=>∃a vs,u=.ref a/\SqL K H a vs/\RPs K H l vs
 | x=>RR K H x u
theorem RL.get{K:PySem.W.Frag}{l:List PV}{us:List Value}(r:RL K H l us){i:Nat}{u:Value}(e:us[i]?=some u):∃x,l[i]?=some x/\RR K H x u:=by
 obtain⟨vs,r1,r2⟩:=r;have hl:=r2.length;have hl2:=RPs.length _ r1;have hi:i<l.length:=by
  have:=(JE.mp e).1;symm
 obtain⟨v,e1,e2⟩:=RPs.get _ r1 (Jo hi);obtain⟨w,e3,e4⟩:=r2.get e1;rw[e]at e3;cases e3;exact⟨_,Jo hi,v,e2,e4⟩
theorem RL.length{K:PySem.W.Frag}{l:List PV}{us:List Value}(r:RL K H l us):us.length=l.length:=by
 obtain⟨vs,r1,r2⟩:=r;rw[←r2.length,RPs.length _ r1]
theorem RR.rd{K:PySem.W.Frag}{x:PV}{u:Value}(r:RR K H x u):RD K H x u:=by
 cases x with
 | fls l =>
  obtain⟨v,r1,r2⟩:=r;simp only[RP]at r1;obtain⟨a,us,rfl,q,rr⟩:=r1;cases r2;exact⟨a,us,rfl,q.sq,rr⟩
 | _=>exact r
theorem dc(I:Inv X pins σ H s){l:List PV}{u:Value}(r:RD X.K H (.tup l) u):∃a its,u=.ref a/\RL X.K H l its/\s.heap.IsTuple a its.toArray:=by
 obtain⟨v,r1,r2⟩:=r;simp only[RP]at r1;obtain⟨a,us,rfl,q,rr⟩:=r1;cases r2;obtain⟨its,rv,p,_⟩:=I.tuple q;exact⟨a,its,rfl,⟨us,rr,rv⟩,p⟩
theorem cY(I:Inv X pins σ H s){l:List PV}{u:Value}(r:RD X.K H (.fls l) u):∃a its,u=.ref a/\RL X.K H l its/\s.heap.IsList a its.toArray:=by
 obtain⟨a,us,rfl,q,rr⟩:=r;obtain⟨its,rv,p,_⟩:=I.list q;exact⟨a,its,rfl,⟨us,rr,rv⟩,p.isList⟩
theorem lN{a:Addr}{x y:Array Value}(h1:s.heap.IsTuple a x)(h2:s.heap.IsTuple a y):x=y:=by
 obtain⟨o,e,c,n,d⟩:=h1;obtain⟨o',e',c',n',d'⟩:=h2;rw[e]at e';cases e';rw[d]at d';cases d';rfl
theorem oH{a:Addr}{x y:Array Value}(h1:s.heap.IsList a x)(h2:s.heap.IsList a y):x=y:=by
 obtain⟨o,e,c,n,d⟩:=h1;obtain⟨o',e',c',n',d'⟩:=h2;rw[e]at e';cases e';rw[d]at d';cases d';rfl
theorem ma{a:Addr}{x y:Array Value}(h1:s.heap.IsTuple a x)(h2:s.heap.IsList a y):False:=by
 obtain⟨o,e,c,n,d⟩:=h1;obtain⟨o',e',c',n',d'⟩:=h2;rw[e]at e';cases e';rw[c]at c';exact absurd c' (by decide)
theorem RL.list_inj{K:PySem.W.Frag}{n:Nat}(ih:∀{x y:PV} {u:Value},flat n x=true->flat n y=true->RD K H x u->RD K H y u->x=y){l m:List PV}{us:List Value}(h1:l.all (flat n)=true)(h2:m.all (flat n)=true)
  (r1:RL K H l us) (r2:RL K H m us):l=m:=by
 rw[Kg]at h1 h2;refine List.ext_getElem? fun i=>?_;cases e:us[i]? with
 | none =>
  have:=List.getElem?_eq_none_iff.mp e;rw[KJ (by rw[←r1.length];exact this),KJ (by rw[←r2.length];exact this)]
 | some u =>
  obtain⟨x,ex,rx⟩:=r1.get e;obtain⟨y,ey,ry⟩:=r2.get e;rw[ex,ey,ih (h1 x (JH ex)) (h2 y (JH ey)) rx.rd ry.rd]
theorem ky(I:Inv X pins σ H s):∀(n:Nat) {x y:PV} {u:Value},flat n x=true->flat n y=true->RD X.K H x u->RD X.K H y u->x=y:=by
 have sc:∀{x:PV} {u:Value},RD X.K H x u->(∀l,x≠.fls l)->RR X.K H x u:=fun {x u} r h=>by
  cases x with
  | fls l=>exact absurd rfl (h l)
  | _=>exact r
 intro n
 induction n with
 | zero =>
  intro x y u hx hy rx ry;cases x<;>first |(cases hx;done) | skip
  all_goals cases y<;>first |(cases hy;done) | skip
  all_goals
   obtain⟨v,r1,r2⟩:=sc rx (by intro l z;cases z);obtain⟨v',r1',r2'⟩:=sc ry (by intro l z;cases z);simp only[RP]at r1 r1';subst r1;subst r1';have:=RelV.inj r2 r2'
   first | rfl |(cases this;done) |(cases this;rfl)
 | succ n ih =>
  intro x y u hx hy rx ry;cases x with
  | tup l =>
   obtain⟨a,its,rfl,rl,p⟩:=dc I rx;cases y with
   | tup m =>
    obtain⟨b,its',e,rl',p'⟩:=dc I ry;cases e;have:=lN p p';have e2:its=its':=by simpa using this
    subst e2;rw[RL.list_inj (n:=n) ih hx hy rl rl']
   | fls m =>
    obtain⟨b,its',e,rl',p'⟩:=cY I ry;cases e;exact(ma p p').elim
   | ref a=>cases hy
   | oth a=>cases hy
   | _ =>
    obtain⟨v',r1',r2'⟩:=sc ry (by intro l z;cases z);simp only[RP]at r1';subst r1';simp[L2.RelV]at r2'
  | fls l =>
   obtain⟨a,its,rfl,rl,p⟩:=cY I rx;cases y with
   | tup m =>
    obtain⟨b,its',e,rl',p'⟩:=dc I ry;cases e;exact(ma p' p).elim
   | fls m =>
    obtain⟨b,its',e,rl',p'⟩:=cY I ry;cases e;have:=oH p p';have e2:its=its':=by simpa using this
    subst e2;rw[RL.list_inj (n:=n) ih hx hy rl rl']
   | ref a=>cases hy
   | oth a=>cases hy
   | _ =>
    obtain⟨v',r1',r2'⟩:=sc ry (by intro l z;cases z);simp only[RP]at r1';subst r1';simp[L2.RelV]at r2'
  | ref a=>cases hx
  | oth a=>cases hx
  | _ =>
   cases y with
   | tup m =>
    obtain⟨b,its',e,rl',p'⟩:=dc I ry;subst e;obtain⟨v',r1',r2'⟩:=sc rx (by intro l z;cases z);simp only[RP]at r1';subst r1';simp[L2.RelV]at r2'
   | fls m =>
    obtain⟨b,its',e,rl',p'⟩:=cY I ry;subst e;obtain⟨v',r1',r2'⟩:=sc rx (by intro l z;cases z);simp only[RP]at r1';subst r1';simp[L2.RelV]at r2'
   | ref a=>cases hy
   | oth a=>cases hy
   | _ =>
    obtain⟨v,r1,r2⟩:=sc rx (by intro l z;cases z);obtain⟨v',r1',r2'⟩:=sc ry (by intro l z;cases z);simp only[RP]at r1 r1';subst r1;subst r1';have:=RelV.inj r2 r2'
    first | rfl |(cases this;done) |(cases this;rfl)
open SeqAt in
theorem pw(I:Inv X pins σ H s):∀(n:Nat) {A:Around} {x y:PV} {u w:Value},A.units+n<cLine->flat n x=true->flat n y=true->RD X.K H x u->RD X.K H y w->EqAt A s u w (deq x y)/\RcAt A s u w (deq x y):=by
 have sc:∀{x:PV} {u:Value},RD X.K H x u->(∀l,x≠.fls l)->RR X.K H x u:=fun {x u} r h=>by
  cases x with
  | fls l=>exact absurd rfl (h l)
  | _=>exact r
 have v_non:∀{u:Value},RD X.K H .non u->u=.none:=fun {u} r=>by
  obtain⟨v,r1,r2⟩:=sc r (by intro l z;cases z);simp only[RP]at r1;subst r1;exact r2
 have v_bl:∀{b:Bool} {u:Value},RD X.K H (.bl b) u->u=.bool b:=fun {b u} r=>by
  obtain⟨v,r1,r2⟩:=sc r (by intro l z;cases z);simp only[RP]at r1;subst r1;exact r2
 have v_int:∀{i:Int} {u:Value},RD X.K H (.int i) u->∃t,u=.int i t:=fun {b u} r=>by
  obtain⟨v,r1,r2⟩:=sc r (by intro l z;cases z);simp only[RP]at r1;subst r1;exact r2
 have v_str:∀{i:Str} {u:Value},RD X.K H (.str i) u->∃t,u=.str i t:=fun {b u} r=>by
  obtain⟨v,r1,r2⟩:=sc r (by intro l z;cases z);simp only[RP]at r1;subst r1;exact r2
 intro n
 induction n with
 | zero =>
  intro A x y u w hu hx hy rx ry;cases x with
  | non =>
   rw[v_non rx];cases y with
   | non=>rw[v_non ry];exact⟨EqAt.same _,RcAt.none_none⟩
   | bl b=>rw[v_bl ry];exact⟨EqAt.none_bool b,RcAt.none_bool b⟩
   | int b=>obtain⟨t,rfl⟩:=v_int ry;exact⟨EqAt.none_int b t,RcAt.none_int b t⟩
   | str b=>obtain⟨t,rfl⟩:=v_str ry;exact⟨EqAt.none_str b t,RcAt.none_str b t⟩
   | _=>cases hy
  | bl a =>
   rw[v_bl rx];cases y with
   | non=>rw[v_non ry];exact⟨EqAt.bool_none a,RcAt.bool_none a⟩
   | bl b=>rw[v_bl ry];exact⟨EqAt.bool_bool a b,RcAt.bool_bool a b⟩
   | int b=>obtain⟨t,rfl⟩:=v_int ry;exact⟨EqAt.bool_int a b t,RcAt.bool_int a b t⟩
   | str b=>obtain⟨t,rfl⟩:=v_str ry;exact⟨EqAt.bool_str a b t,RcAt.bool_str a b t⟩
   | _=>cases hy
  | int a =>
   obtain⟨t0,rfl⟩:=v_int rx;cases y with
   | non=>rw[v_non ry];exact⟨EqAt.int_none a t0,RcAt.int_none a t0⟩
   | bl b=>rw[v_bl ry];exact⟨EqAt.int_bool a t0 b,RcAt.int_bool a t0 b⟩
   | int b=>obtain⟨t,rfl⟩:=v_int ry;exact⟨EqAt.int_int a t0 b t,RcAt.int_int a t0 b t⟩
   | str b=>obtain⟨t,rfl⟩:=v_str ry;exact⟨EqAt.int_str a t0 b t,RcAt.int_str a t0 b t⟩
   | _=>cases hy
  | str a =>
   obtain⟨t0,rfl⟩:=v_str rx;cases y with
   | non=>rw[v_non ry];exact⟨EqAt.str_none a t0,RcAt.str_none a t0⟩
   | bl b=>rw[v_bl ry];exact⟨EqAt.str_bool a t0 b,RcAt.str_bool a t0 b⟩
   | int b=>obtain⟨t,rfl⟩:=v_int ry;exact⟨EqAt.str_int a t0 b t,RcAt.str_int a t0 b t⟩
   | str b=>obtain⟨t,rfl⟩:=v_str ry;exact⟨EqAt.str_str a t0 b t,RcAt.str_str a t0 b t⟩
   | _=>cases hy
  | _=>cases hx
 | succ n ih =>
  intro A x y u w hu hx hy rx ry;have hu0:A.units<cLine:=by symm
  have hu1:A.in1.units+n<cLine:=by show A.units+1+n<cLine;symm
  cases x with
  | tup l =>
   obtain⟨a,its,rfl,rl,p⟩:=dc I rx;cases y with
   | non=>rw[v_non ry];exact⟨EqAt.tuple_none p hu0,RcAt.tuple_none p hu0⟩
   | bl b=>rw[v_bl ry];exact⟨EqAt.tuple_bool b p hu0,RcAt.tuple_bool b p hu0⟩
   | int b=>obtain⟨t,rfl⟩:=v_int ry;exact⟨EqAt.tuple_int b t p hu0,RcAt.tuple_int b t p hu0⟩
   | str b=>obtain⟨t,rfl⟩:=v_str ry;exact⟨EqAt.tuple_str b t p hu0,RcAt.tuple_str b t p hu0⟩
   | tup m =>
    obtain⟨b,its',rfl,rl',p'⟩:=dc I ry;have key:RcAt A s (.ref a) (.ref b) (deq (.tup l) (.tup m)):=by
     have:=RcAt.tuples (e:=fun i=>deq (l.getD i .non) (m.getD i .non)) p p' hu0 fun j h1 h2=>by
      have h1':j<its.length:=by simpa using h1
      have h2':j<its'.length:=by simpa using h2
      obtain⟨x,ex,rx'⟩:=rl.get (Jo h1');obtain⟨y,ey,ry'⟩:=rl'.get (Jo h2');have q:=ih hu1 (Kg.mp hx x (JH ex)) (Kg.mp hy y (JH ey)) rx'.rd ry'.rd;have e1:l.getD j .non=x:=by rw[Jt,ex];rfl
      have e2:m.getD j .non=y:=by rw[Jt,ey];rfl
      rw[e1,e2];simpa using q.1
     have e:deq (.tup l) (.tup m)=((List.range (min its.toArray.size its'.toArray.size)).all (fun i=>deq (l.getD i .non) (m.getD i .non))&&its.toArray.size==its'.toArray.size):=by
      simp only[deq,dO,JC,rl.length,rl'.length]
     rw[e];exact this
    refine⟨?_,key⟩;by_cases hab:a=b
    ·subst hab;have:=ky I (n+1) hx hy rx ry;rw[←this,fS hx];exact EqAt.same _
    ·exact EqAt.of_refs hab key
   | fls m =>
    obtain⟨b,its',rfl,rl',p'⟩:=cY I ry;exact⟨EqAt.tuple_list p p' hu0,RcAt.tuple_list p p' hu0⟩
   | _=>cases hy
  | fls l =>
   obtain⟨a,its,rfl,rl,p⟩:=cY I rx;cases y with
   | non=>rw[v_non ry];exact⟨EqAt.list_none p hu0,RcAt.list_none p hu0⟩
   | bl b=>rw[v_bl ry];exact⟨EqAt.list_bool b p hu0,RcAt.list_bool b p hu0⟩
   | int b=>obtain⟨t,rfl⟩:=v_int ry;exact⟨EqAt.list_int b t p hu0,RcAt.list_int b t p hu0⟩
   | str b=>obtain⟨t,rfl⟩:=v_str ry;exact⟨EqAt.list_str b t p hu0,RcAt.list_str b t p hu0⟩
   | tup m =>
    obtain⟨b,its',rfl,rl',p'⟩:=dc I ry;exact⟨EqAt.list_tuple p p' hu0,RcAt.list_tuple p p' hu0⟩
   | fls m =>
    obtain⟨b,its',rfl,rl',p'⟩:=cY I ry;have key:RcAt A s (.ref a) (.ref b) (deq (.fls l) (.fls m)):=by
     by_cases hs:its.length=its'.length
     ·have:=RcAt.lists (e:=fun i=>deq (l.getD i .non) (m.getD i .non)) p p' (by simpa using hs) hu0 fun j h1 h2=>by
       have h1':j<its.length:=by simpa using h1
       have h2':j<its'.length:=by simpa using h2
       obtain⟨x,ex,rx'⟩:=rl.get (Jo h1');obtain⟨y,ey,ry'⟩:=rl'.get (Jo h2');have q:=ih hu1 (Kg.mp hx x (JH ex)) (Kg.mp hy y (JH ey)) rx'.rd ry'.rd;have e1:l.getD j .non=x:=by rw[Jt,ex];rfl
       have e2:m.getD j .non=y:=by rw[Jt,ey];rfl
       rw[e1,e2];simpa using q.1
      have e:deq (.fls l) (.fls m)=(List.range its.toArray.size).all (fun i=>deq (l.getD i .non) (m.getD i .non)):=by
       have e0:l.length=m.length:=by rw[←rl.length,← rl'.length];exact hs
       simp[deq,dO,rl.length,e0]
      rw[e];exact this
     ·have e:deq (.fls l) (.fls m)=false:=by
       have e0:l.length≠m.length:=by rw[←rl.length,← rl'.length];exact hs
       simp[deq,dO,e0]
      rw[e];exact RcAt.lists_lengths p p' (by simpa using hs) hu0
    refine⟨?_,key⟩;by_cases hab:a=b
    ·subst hab;have:=ky I (n+1) hx hy rx ry;rw[←this,fS hx];exact EqAt.same _
    ·exact EqAt.of_refs hab key
   | _=>cases hy
  | ref a=>cases hx
  | oth a=>cases hx
  | non =>
   cases y with
   | tup m=>obtain⟨b,its',rfl,rl',p'⟩:=dc I ry;rw[v_non rx];exact⟨EqAt.none_tuple p' hu0,RcAt.none_tuple p' hu0⟩
   | fls m=>obtain⟨b,its',rfl,rl',p'⟩:=cY I ry;rw[v_non rx];exact⟨EqAt.none_list p' hu0,RcAt.none_list p' hu0⟩
   | ref a=>cases hy
   | oth a=>cases hy
   | _=>exact ih (by symm) (by cases n<;>rfl) (by cases n<;>rfl) rx ry
  | bl i =>
   cases y with
   | tup m=>obtain⟨b,its',rfl,rl',p'⟩:=dc I ry;rw[v_bl rx];exact⟨EqAt.bool_tuple i p' hu0,RcAt.bool_tuple i p' hu0⟩
   | fls m=>obtain⟨b,its',rfl,rl',p'⟩:=cY I ry;rw[v_bl rx];exact⟨EqAt.bool_list i p' hu0,RcAt.bool_list i p' hu0⟩
   | ref a=>cases hy
   | oth a=>cases hy
   | _=>exact ih (by symm) (by cases n<;>rfl) (by cases n<;>rfl) rx ry
  | int i =>
   cases y with
   | tup m=>obtain⟨b,its',rfl,rl',p'⟩:=dc I ry;obtain⟨t,rfl⟩:=v_int rx;exact⟨EqAt.int_tuple i t p' hu0,RcAt.int_tuple i t p' hu0⟩
   | fls m=>obtain⟨b,its',rfl,rl',p'⟩:=cY I ry;obtain⟨t,rfl⟩:=v_int rx;exact⟨EqAt.int_list i t p' hu0,RcAt.int_list i t p' hu0⟩
   | ref a=>cases hy
   | oth a=>cases hy
   | _=>exact ih (by symm) (by cases n<;>rfl) (by cases n<;>rfl) rx ry
  | str i =>
   cases y with
   | tup m=>obtain⟨b,its',rfl,rl',p'⟩:=dc I ry;obtain⟨t,rfl⟩:=v_str rx;exact⟨EqAt.str_tuple i t p' hu0,RcAt.str_tuple i t p' hu0⟩
   | fls m=>obtain⟨b,its',rfl,rl',p'⟩:=cY I ry;obtain⟨t,rfl⟩:=v_str rx;exact⟨EqAt.str_list i t p' hu0,RcAt.str_list i t p' hu0⟩
   | ref a=>cases hy
   | oth a=>cases hy
   | _=>exact ih (by symm) (by cases n<;>rfl) (by cases n<;>rfl) rx ry
end
end
section
variable {B:Bs}
section
variable {X:Cx}{pins:List (Addr×Obj)}{σ:L2.St}{H:Hp}{s:Shared}
def RDv(K:PySem.W.Frag)(H:Hp)(d:PV)(x:V):Prop:=match d with
 | .fls l=>∃a vs,x=.ref a/\SqL K H a vs/\RPs K H l vs
 | d=>RP K H d x
theorem RDv.rd{K:PySem.W.Frag}{d:PV}{x:V}{u:Value}(h:RDv K H d x)(r:L2.RelV x u):RD K H d u:=by
 cases d with
 | fls l=>obtain⟨a,vs,rfl,q,rr⟩:=h;cases r;exact⟨a,vs,rfl,q,rr⟩
 | _=>exact⟨x,h,r⟩
def c7(x:PV)(H:PHp)(k:PV->Prop):Prop:=match x with
 | .ref a=>∃l,H a=some (.lst l)/\k (.fls l)
 | x=>k x
theorem c7.ex{K:PySem.W.Frag}{σ':St'}{x:PV}{v:V}{H':PHp}{k:PV->Prop}(h:c7 x H' k)(s:SR K B σ' H' σ H)(r:RP K H x v):∃d,RDv K H d v/\k d:=by
 cases x with
 | ref a =>
  obtain⟨l,e,h⟩:=h;obtain⟨us,q,r2⟩:=s.hp _ _ e;simp only[RP]at r;exact⟨.fls l,⟨a,us,r,SqL.of q,r2⟩,h⟩
 | fls l =>
  simp only[RP]at r;obtain⟨a,us,e,q,r⟩:=r;exact⟨.fls l,⟨a,us,e,q.sq,r⟩,h⟩
 | non=>exact⟨.non,r,h⟩
 | bl b=>exact⟨.bl b,r,h⟩
 | int b=>exact⟨.int b,r,h⟩
 | str b=>exact⟨.str b,r,h⟩
 | tup b=>exact⟨.tup b,r,h⟩
 | oth b=>exact⟨.oth b,r,h⟩
def E7(K:PySem.W.Frag)(g:Bool->Bool):R2:=fun x y H Q=>∃d1 d2,flat 9 d1=true/\flat 9 d2=true/\RDv K H d1 x/\RDv K H d2 y/\Q (.bl (g (deq d1 d2))) H
theorem aU(hu:X.A.units+64<cLine):OpR X (compareOp .Eq) (E7 X.K fun b=>b):=by
 intro pins s σ H x y v u Q I rx ry h;obtain⟨d1,d2,f1,f2,r1,r2,q⟩:=h;exact(pw I 9 (by symm) f1 f2 (r1.rd rx) (r2.rd ry)).2 _ _ _ _ ⟨.bl _,H,I,rfl,q⟩
def Dg(g:Bool->Bool):R2':=fun x y H Q=>c7 x H fun d1=>c7 y H fun d2=>flat 9 d1=true/\flat 9 d2=true/\Q (.bl (g (deq d1 d2))) H
theorem bw{K:PySem.W.Frag}{g:Bool->Bool}:VR K B (Dg g) (E7 K g):=by
 intro σ' σ H' H x' y' x y Q' Q s rx ry h k;obtain⟨d1,r1,h1⟩:=c7.ex h s rx;obtain⟨d2,r2,f1,f2,q⟩:=c7.ex h1 s ry;exact⟨d1,d2,f1,f2,r1,r2,k _ H' _ H q (by simp[RP]) s (Ev.refl _ _)⟩
def BE(K:PySem.W.Frag)(g:Bool->Bool):R2:=fun x y H Q=>∃d p l us,flat 8 d=true/\RDv K H d x/\y=.ref p/\l.all (flat 8)=true/\RPs K H l us/\(SqL K H p us∨SqT K H p us)/\Q (.bl (g (l.any fun z=>deq z d))) H
open Classical in
theorem fN(I:Inv X pins σ H s){A:Around}{d:PV}{v:Value}{l:List PV}{its:List Value}(hu:A.units+20<cLine)(fd:flat 8 d=true)(rd:RD X.K H d v)(fl:l.all (flat 8)=true)(rl:RL X.K H l its) :
  ∃e:Value->Bool,(∀y,y∈its.toArray->SeqAt.EqAt A.in1 s y v (e y))/\its.toArray.any e=l.any fun z=>deq z d:=by
 refine⟨fun u=>decide (∃z,flat 8 z=true/\RD X.K H z u/\deq z d=true),fun y hy=>?_,?_⟩
 ·have hy':y∈its:=by simpa using hy
  obtain⟨i,hi⟩:=List.mem_iff_getElem?.mp hy';obtain⟨z,ez,rz⟩:=rl.get hi;have fz:=Kg.mp fl z (JH ez);have q:=(pw I 8 (A:=A.in1) (by show A.units+1+8<cLine;symm) fz fd rz.rd rd).1;have e:decide (∃z,flat 8 z=true/\RD X.K H z y/\deq z d=true)=deq z d:=by
   rw[Bool.eq_iff_iff,decide_eq_true_iff];constructor
   ·rintro⟨z',f',r',e'⟩;rw[ky I 8 fz f' rz.rd r'];exact e'
   ·intro e;exact⟨z,fz,rz.rd,e⟩
  show SeqAt.EqAt A.in1 s y v (decide _);rw[e];exact q
 ·rw[Bool.eq_iff_iff];simp only[List.any_toArray,Ln,decide_eq_true_iff];constructor
  ·rintro⟨u,hu',z,fz,rz,ez⟩;obtain⟨i,hi⟩:=List.mem_iff_getElem?.mp hu';obtain⟨z2,ez2,rz2⟩:=rl.get hi;have fz2:=Kg.mp fl z2 (JH ez2);refine⟨z2,JH ez2,?_⟩;rw[ky I 8 fz2 fz rz2.rd rz];exact ez
  ·rintro⟨z,hz,ez⟩;obtain⟨i,hi⟩:=List.mem_iff_getElem?.mp hz;have hlt:i<its.length:=by
    have:=(JE.mp hi).1;rw[rl.length];exact this
   obtain⟨z2,ez2,rz2⟩:=rl.get (Jo hlt);rw[hi]at ez2;cases ez2;exact⟨_,JV hlt,z,Kg.mp fl z hz,rz2.rd,ez⟩
theorem bH(hu:X.A.units+64<cLine):OpR X (compareOp .In) (BE X.K fun b=>b):=by
 intro pins s σ H x y v u Q I rx ry h;obtain⟨d,p,l,us,fd,rd,rfl,fl,rl,hq,q⟩:=h;cases ry;rcases hq with hq | hq
 ·obtain⟨its,rv,pl,_⟩:=I.list hq;obtain⟨e,h1,h2⟩:=fN I (A:=X.A) (by symm) fd (rd.rd rx) fl ⟨us,rl,rv⟩;exact SeqAt.in_listAt e pl.isList h1 (by rw[h2];exact⟨.bl _,H,I,rfl,q⟩)
 ·obtain⟨its,rv,pl,_⟩:=I.tuple hq;obtain⟨e,h1,h2⟩:=fN I (A:=X.A) (by symm) fd (rd.rd rx) fl ⟨us,rl,rv⟩;exact SeqAt.in_tupleAt e pl h1 (by rw[h2];exact⟨.bl _,H,I,rfl,q⟩)
theorem bb(hu:X.A.units+64<cLine):OpR X (compareOp .NotIn) (BE X.K fun b=>!b):=by
 intro pins s σ H x y v u Q I rx ry h;obtain⟨d,p,l,us,fd,rd,rfl,fl,rl,hq,q⟩:=h;cases ry;rcases hq with hq | hq
 ·obtain⟨its,rv,pl,_⟩:=I.list hq;obtain⟨e,h1,h2⟩:=fN I (A:=X.A) (by symm) fd (rd.rd rx) fl ⟨us,rl,rv⟩;exact SeqAt.notIn_listAt e pl.isList h1 (by rw[h2];exact⟨.bl _,H,I,rfl,q⟩)
 ·obtain⟨its,rv,pl,_⟩:=I.tuple hq;obtain⟨e,h1,h2⟩:=fN I (A:=X.A) (by symm) fd (rd.rd rx) fl ⟨us,rl,rv⟩;exact SeqAt.notIn_tupleAt e pl h1 (by rw[h2];exact⟨.bl _,H,I,rfl,q⟩)
def xn(g:Bool->Bool):R2':=fun x y H Q=>c7 x H fun d=>cM y H fun l=>flat 8 d=true/\l.all (flat 8)=true/\Q (.bl (g (l.any fun z=>deq z d))) H
theorem bf{K:PySem.W.Frag}{g:Bool->Bool}:VR K B (xn g) (BE K g):=by
 intro σ' σ H' H x' y' x y Q' Q s rx ry h k;obtain⟨d1,r1,h1⟩:=c7.ex h s rx;obtain⟨l,us,p,rfl,r2,hq,f1,f2,q⟩:=cM.ex h1 s ry;exact⟨d1,p,l,us,f1,r1,rfl,f2,r2,hq,k _ H' _ H q (by simp[RP]) s (Ev.refl _ _)⟩
def mO(g:Bool->Bool):R2':=fun x y H Q=>match y,x with
 | .non,.non=>Q (.bl (g true)) H
 | .non,.oth _=>False
 | .non,_=>Q (.bl (g false)) H
 | _,_=>False
theorem vx{K:PySem.W.Frag}{g:Bool->Bool}{x y:PV}{v w:V}{H':PHp}{Q':VK'}(h:mO g x y H' Q')(rx:RP K H x v)(ry:RP K H y w):w=.non/\Q' (.bl (g (decide (v=.non)))) H':=by
 cases y with
 | non =>
  simp only[RP]at ry;refine⟨ry,?_⟩;cases x with
  | non=>simp only[RP]at rx;subst rx;exact h
  | oth _=>exact h.elim
  | tup l =>
   simp only[RP]at rx;obtain⟨a,us,rfl,_⟩:=rx;exact h
  | fls l =>
   simp only[RP]at rx;obtain⟨a,us,rfl,_⟩:=rx;exact h
  | _=>simp only[RP]at rx;subst rx;exact h
 | _=>cases x<;>exact h.elim
theorem vm{K:PySem.W.Frag}:VR K B (mO fun b=>b) (fun x y H Q=>y=.non/\Q (.bl (decide (x=.non))) H):=by
 intro σ' σ H' H x' y' x y Q' Q s rx ry h k;obtain⟨e,q⟩:=vx h rx ry;exact⟨e,k _ H' _ H q (by simp[RP]) s (Ev.refl _ _)⟩
theorem xS{K:PySem.W.Frag}:VR K B (mO fun b=>!b) (fun x y H Q=>y=.non/\Q (.bl (!decide (x=.non))) H):=by
 intro σ' σ H' H x' y' x y Q' Q s rx ry h k;obtain⟨e,q⟩:=vx h rx ry;exact⟨e,k _ H' _ H q (by simp[RP]) s (Ev.refl _ _)⟩
inductive BT where | non | bool | int | str | list | tuple
def BT.nm:BT->String | .non=>"NoneType" | .bool=>"bool" | .int=>"int" | .str=>"str" | .list=>"list" | .tuple=>"tuple"
def BT.sub:BT->BT->Bool
 | .non,.non=>true | .bool,.bool=>true | .int,.int=>true | .str,.str=>true | .list,.list=>true | .tuple,.tuple=>true
 | .bool,.int=>true
 | _,_=>false
theorem AA(K:PySem.W.Frag)(t c:BT):PySem.W.kitOne K (.type t.nm) (.type c.nm)=some (t.sub c):=by
 cases t<;>cases c<;>kernel_rfl
def btV(K:PySem.W.Frag)(H:Hp)(t:BT)(x:V):Prop:=match t with
 | .non=>x=.non
 | .bool=>∃b,x=.bl b
 | .int=>∃b,x=.int b
 | .str=>∃b,x=.str b
 | .list=>∃a us,x=.ref a/\SqL K H a us
 | .tuple=>∃a us,x=.ref a/\SqT K H a us
theorem bB(c:BT):cf X (.builtin "isinstance") (fun xs H Q=>∃x t,xs=[x,.ty c.nm]/\btV X.K H t x/\Q (.bl (t.sub c)) H):=by
 intro pins s σ H xs us Q I r h;obtain⟨x,t,rfl,ht,q⟩:=h;obtain⟨u,w',rfl,rx,rc⟩:=vals2 r;have e1:w'=Value.type c.nm:=rc;subst e1;have k:=AA X.K t c;have fin:∀tk,EP X pins σ Q (.bool (t.sub c)) { s with toks:=tk }:=fun tk=>⟨.bl _,H,I.tok _,rfl,q⟩;cases t with
 | non=>cases (show x=V.non from ht);exact eG I rx .non k fin
 | bool=>obtain⟨b,rfl⟩:=ht;exact eG I rx (.bl b) k fin
 | int=>obtain⟨b,rfl⟩:=ht;exact eG I rx (.int b) k fin
 | str=>obtain⟨b,rfl⟩:=ht;exact eG I rx (.str b) k fin
 | list =>
  obtain⟨a,us,rfl,hq⟩:=ht;cases rx;obtain⟨its,rv,pl,_⟩:=I.list hq;obtain⟨o,e,hc,_⟩:=pl.isList;exact Ks PySem.W.kitx_list I.kIn ⟨o,e,hc⟩ k (fun z=>nomatch z) fin
 | tuple =>
  obtain⟨a,us,rfl,hq⟩:=ht;cases rx;obtain⟨its,rv,pl,_⟩:=I.tuple hq;obtain⟨o,e,hc,_⟩:=pl;exact Ks PySem.W.kitx_tuple I.kIn ⟨o,e,hc⟩ k (fun z=>nomatch z) fin
def cJ(x:PV)(H:PHp)(k:BT->Prop):Prop:=match x with
 | .non=>k .non
 | .bl _=>k .bool
 | .int _=>k .int
 | .str _=>k .str
 | .tup _=>k .tuple
 | .fls _=>k .list
 | .ref a=>∃l,H a=some (.lst l)/\k .list
 | _=>False
theorem cJ.ex{K:PySem.W.Frag}{σ':St'}{x:PV}{v:V}{H':PHp}{k:BT->Prop}(h:cJ x H' k)(s:SR K B σ' H' σ H)(r:RP K H x v):∃t,btV K H t v/\k t:=by
 cases x with
 | non=>simp only[RP]at r;exact⟨.non,r,h⟩
 | bl b=>simp only[RP]at r;exact⟨.bool,⟨b,r⟩,h⟩
 | int b=>simp only[RP]at r;exact⟨.int,⟨b,r⟩,h⟩
 | str b=>simp only[RP]at r;exact⟨.str,⟨b,r⟩,h⟩
 | tup l=>simp only[RP]at r;obtain⟨a,us,e,q,_⟩:=r;exact⟨.tuple,⟨a,us,e,q⟩,h⟩
 | fls l=>simp only[RP]at r;obtain⟨a,us,e,q,_⟩:=r;exact⟨.list,⟨a,us,e,q.sq⟩,h⟩
 | ref a =>
  simp only[RP]at r;obtain⟨l,e,h⟩:=h;obtain⟨us,q,_⟩:=s.hp _ _ e;exact⟨.list,⟨a,us,r,SqL.of q⟩,h⟩
 | oth _=>exact h.elim
def z4(c:BT):List PV->PHp->VK'->Prop:=fun xs H Q=>match xs with
 | [x,.oth (.ty n)]=>n=c.nm/\cJ x H fun t=>Q (.bl (t.sub c)) H
 | _=>False
theorem cw{K:PySem.W.Frag}(c:BT):VC K B (z4 c) (fun xs H Q=>∃x t,xs=[x,.ty c.nm]/\btV K H t x/\Q (.bl (t.sub c)) H):=by
 intro σ' σ H' H xs' xs Q' Q s r h k;unfold z4 at h;split at h
 ·rename_i x n;obtain⟨rfl,h⟩:=h;simp only[RPs,RP]at r;obtain⟨u,r1,rfl,rx,w,r2,rfl,rfl,rfl⟩:=r;obtain⟨t,bt,h⟩:=cJ.ex h s rx;exact⟨u,t,rfl,bt,k _ H' _ H h (by simp[RP]) s (Ev.refl _ _)⟩
 ·exact h.elim
theorem cv{x:Str}{n:String}{pos:Pos}(hg:Gl X x)(hm:X.mg x=none)(hv:bootBuiltins x=some (.type n))(hn:x≠"__name__":=by decide)(hd:(x==("__debug__":Str))=false:=by decide):PE' X B (.Name x pos) (uC (.oth (.ty n))) :=
 aS (oY (v:=.ty n) hg hm hv rfl hn hd) fun _ _ _ h=>qI (fun _=>by simp[RP]) h
variable {e o:Expr}{es:List Expr}{to:TE'}{t:TA'}{name:Str}{apos cpos:Pos}
def isL(x:PV)(H1:PHp):Prop:=match x with
 | .ref a=>∃l,H1 a=some (.lst l)
 | _=>False
def uBM(r:PV->List PV->PHp->VK'->Prop)(to:TE')(t:TA'):TE':=fun σ H Q=>to σ H fun x H1=>isL x H1/\t σ H1 fun xs H2=>r x xs H2 Q
def DV(r:PV->List PV->PHp->VK'->Prop)(to:TE'):TE':=fun σ H Q=>to σ H fun x H1=>r x [] H1 Q
def VM(K:PySem.W.Frag)(B:Bs)(r':PV->List PV->PHp->VK'->Prop)(r:V->List V->Hp->VK->Prop):Prop:=∀(σ':St') (σ:L2.St) (H':PHp) (H:Hp) x' xs' x xs (Q':VK') (Q:VK),SR K B σ' H' σ H->RP K H x' x->RPs K H xs' xs->r' x' xs' H' Q' ->
 (∀v' H1' v H1,Q' v' H1'->RP K H1 v' v->SR K B σ' H1' σ H1->Ev H' H H1' H1->Q v H1)->r x xs H Q
theorem Cr{K:PySem.W.Frag}{r':PV->List PV->PHp->VK'->Prop}{r:V->List V->Hp->VK->Prop}(v:VM K B r' r){σ:L2.St}{H:Hp}{Q:VK}(h:low K B (uBM r' to t) σ H Q):tBM K "list" r (low K B to) (n5 K B t) σ H Q:=by
 obtain⟨σ',H',Q',s,h,k⟩:=h;refine⟨σ',H',_,s,h,fun x' H1' x H1 h1 rx s1 e1=>?_⟩;obtain⟨ty,h1⟩:=h1;constructor
 ·cases x' with
  | ref a =>
   obtain⟨l,e⟩:=ty;obtain⟨us,q,_⟩:=s1.hp _ _ e;simp only[RP]at rx;subst rx;exact .inl ⟨rfl,us,SqL.of q⟩
  | _=>exact ty.elim
 ·refine⟨σ',H1',_,s1,h1,fun xs' H2' xs H2 h2 r2 s2 e2=>?_⟩;exact v σ' σ H2' H2 x' xs' x xs Q' Q s2 (RP.kp K (e2.kp s1.hp) rx) r2 h2 fun v' H3' v H3 q rv s3 e3=>k v' H3' v H3 q rv s3 (e1.trans (e2.trans e3))
theorem cH{id:String}{r':PV->List PV->PHp->VK'->Prop}{r:V->List V->Hp->VK->Prop}(slot:Slot "list" name id)(hty:typeOf (.builtin id)=pure (.type "method_descriptor"))(hm:MtR X id r)(v:VM X.K B r' r)(ho:PE' X B o to)(ha:PA' X B (e::es) t)
  (hbase:attributeBase o name X.env (eval o X.env)=eval o X.env:=by rfl)
  (hfew:((backTo cpos (starEach (e::es) X.env)).all (fun x=>!x.1)&&(backToKw cpos (keywordEach [] X.env)).all (fun x=>x.1.isSome)
   && decide ((e::es).length+([]:List Keyword).length+(if ([]:List Keyword).isEmpty then 0 else 1)<30))=true:=by rfl)
  (hline:(apos.endLine==cpos.line)=true:=by rfl) (hs:starEach (e::es) X.env=(false,eval e X.env)::starEach es X.env:=by rfl) (hplain:(backTo cpos (starEach es X.env)).any (·.1)=false:=by rfl) :
  PE' X B (.Call (.Attribute o name apos) (e::es) [] cpos) (uBM r' to t):=aS (De PySem.F.plainAttrs_list slot hty hm ho ha hbase hfew hline hs hplain) fun _ _ _ h=>Cr v h
theorem BG{id:String}{r':PV->List PV->PHp->VK'->Prop}{r:V->List V->Hp->VK->Prop}(slot:Slot "list" name id)(hty:typeOf (.builtin id)=pure (.type "method_descriptor"))(hm:MtR X id r)(v:VM X.K B r' r)
  (hl:∀x H Q,r' x [] H Q->match x with | .ref a=>∃l,H a=some (.lst l) | _=>False) (ho:PE' X B o to)
  (hbase:attributeBase o name X.env (eval o X.env)=eval o X.env:=by rfl) (hline:(apos.endLine==cpos.line)=true:=by rfl) :
  PE' X B (.Call (.Attribute o name apos) [] [] cpos) (DV r' to):=aS (Cm PySem.F.plainAttrs_list slot hty hm ho hbase hline) fun σ H Q h=>by
 obtain⟨σ',H',Q',s,h,k⟩:=h;refine⟨σ',H',_,s,h,fun x' H1' x H1 h1 rx s1 e1=>?_⟩;constructor
 ·have ty:=hl _ _ _ h1;cases x' with
  | ref a =>
   obtain⟨l,e⟩:=ty;obtain⟨us,q,_⟩:=s1.hp _ _ e;simp only[RP]at rx;subst rx;exact .inl ⟨rfl,us,SqL.of q⟩
  | _=>exact ty.elim
 ·exact v σ' σ H1' H1 x' [] x [] Q' Q s1 rx (RPs.nil _) h1 fun v' H3' v H3 q rv s3 e3=>k v' H3' v H3 q rv s3 (e1.trans e3)
def ko:PV->List PV->PHp->VK'->Prop:=fun x vs H Q=>match x,vs with
 | .ref a,[y]=>∃l,H a=some (.lst l)/\l.length<sizeLine/\Q .non (put H a (.lst (l++[y])))
 | _,_=>False
theorem b9{K:PySem.W.Frag}:VM K B ko o5:=by
 intro σ' σ H' H x' xs' x xs Q' Q s rx r h k;unfold ko at h;split at h
 ·rename_i a y;obtain⟨l,e,hl,h⟩:=h;obtain⟨us,q,r2⟩:=s.hp _ _ e;simp only[RP,RPs]at rx r;obtain⟨u,r1,rfl,ru,rfl⟩:=r;subst rx;exact⟨a,us,u,rfl,rfl,q,by rw[RPs.length _ r2];exact hl,k _ _ _ _ h (by simp[RP]) (s.wr e (wrL s.hp e (RPs.append _ r2 (RPs.cons _ ru (RPs.nil _))))) (Ev.wr e)⟩
 ·exact h.elim
def kJ:PV->List PV->PHp->VK'->Prop:=fun x vs H Q=>match x,vs with
 | .ref a,[.ref b]=>∃l m,H a=some (.lst l)/\H b=some (.lst m)/\l.length+m.length≤sizeLine/\Q .non (put H a (.lst (l++m)))
 | _,_=>False
theorem cS{K:PySem.W.Frag}:VM K B kJ pR:=by
 intro σ' σ H' H x' xs' x xs Q' Q s rx r h k;unfold kJ at h;split at h
 ·rename_i a b;obtain⟨l,m,e,e2,hl,h⟩:=h;obtain⟨us,q,r2⟩:=s.hp _ _ e;obtain⟨ws,q2,r3⟩:=s.hp _ _ e2;simp only[RP,RPs]at rx r;obtain⟨u,r1,rfl,ru,rfl⟩:=r;subst rx;subst ru;exact⟨a,b,us,ws,rfl,rfl,q,q2,by rw[RPs.length _ r2,RPs.length _ r3];exact hl,k _ _ _ _ h (by simp[RP]) (s.wr e (wrL s.hp e (RPs.append _ r2 r3))) (Ev.wr e)⟩
 ·exact h.elim
def wJ:PV->List PV->PHp->VK'->Prop:=fun x vs H Q=>match x,vs with
 | .ref a,[]=>∃l y,H a=some (.lst l)/\l[l.length - 1]?=some y/\Q y (put H a (.lst l.dropLast))
 | _,_=>False
theorem BZ{K:PySem.W.Frag}:VM K B wJ DZ:=by
 intro σ' σ H' H x' xs' x xs Q' Q s rx r h k;unfold wJ at h;split at h
 ·rename_i a;obtain⟨l,y,e,hl,h⟩:=h;obtain⟨us,q,r2⟩:=s.hp _ _ e;simp only[RP,RPs]at rx r;subst rx;subst r;obtain⟨u,e1,e2⟩:=RPs.get _ r2 hl;exact⟨a,us,u,rfl,rfl,q,by rw[RPs.length _ r2];exact e1,k _ _ _ _ h (RP.kp _ (s.hp.kpw e) e2) (s.wr e (wrL s.hp e (RPs.dropLast _ r2))) (Ev.wr e)⟩
 ·exact h.elim
end
end
section
variable {B:Bs}
theorem qK(lo:Int)(n i:Nat)(h:i<n):(cb lo n).drop i=PV.int (lo+(i:Nat))::(cb lo n).drop (i+1):=by
 have hl:i<(cb lo n).length:=by simpa[cb]using h
 rw[List.drop_eq_getElem_cons hl];simp[cb]
theorem sx(lo:Int)(n:Nat):(cb lo n).drop n=[]:=by
 apply List.drop_of_length_le;simp[cb]
theorem dg{ok:PHp->Prop}{g:TG'}{tb:TS'}{D:cL}{lo:Int}{n:Nat}(Pv:Nat->St'->PHp->Prop)(hd:∀σ H,Pv n σ H->ok H/\D.nx σ H)
  (hs:∀(G:St'->PHp->Prop) i σ H,i<n->Pv i σ H->(∀σ' H',Pv (i+1) σ' H'->G σ' H')->ok H/\g (.int (lo+(i:Nat))) σ H fun σ2 H2=>tb { D with nx:=G,ct:=G,bk:=D.nx } σ2 H2)
  {σ:St'} {H:PHp} (h0:Pv 0 σ H):fM ok g tb D (cb lo n) σ H:=by
 have key:∀(k i:Nat) {σ:St'} {H:PHp},i+k=n->Pv i σ H->fM ok g tb D ((cb lo n).drop i) σ H:=by
  intro k
  induction k with
  | zero =>
   intro i σ H hk p;have:i=n:=hk;subst this;rw[sx];exact hd σ H p
  | succ k ih =>
   intro i σ H hk p;have hi:i<n:=hk▸Nat.lt_add_of_pos_right (Nat.succ_pos k);rw[qK lo n i hi];exact hs _ i σ H hi p fun σ' H' p'=>ih (i+1) ((Nat.succ_add_eq_add_succ i k).trans hk) p'
 exact key n 0 (Nat.zero_add n) h0
theorem cy{ok:PHp->Prop}{g:TG'}{tb:TS'}{D:cL}{xs:List PV}(Pv:Nat->St'->PHp->Prop)(hd:∀σ H,Pv xs.length σ H->ok H/\D.nx σ H)
  (hs:∀(G:St'->PHp->Prop) i x σ H,xs[i]?=some x->Pv i σ H->(∀σ' H',Pv (i+1) σ' H'->G σ' H')->ok H/\g x σ H fun σ2 H2=>tb { D with nx:=G,ct:=G,bk:=D.nx } σ2 H2)
  {σ:St'} {H:PHp} (h0:Pv 0 σ H):fM ok g tb D xs σ H:=by
 have key:∀(k i:Nat) {σ:St'} {H:PHp},xs.length - i=k->i≤xs.length->Pv i σ H->fM ok g tb D (xs.drop i) σ H:=by
  intro k
  induction k with
  | zero =>
   intro i σ H hk hi p;have:i=xs.length:=by symm
   subst this;rw[List.drop_length];exact hd σ H p
  | succ k ih =>
   intro i σ H hk hi p;have hl:i<xs.length:=by symm
   rw[List.drop_eq_getElem_cons hl];exact hs _ i _ σ H (Jo hl) p fun σ' H' p'=>ih (i+1) (by symm) (by symm) p'
 have:=key xs.length 0 (by symm) (by symm) h0;simpa using this
theorem yy{m:List Int}{z:Int}(h0:0≤z)(h1:z<m.length):atI (m.map PV.int) z=some (.int (m.getD z.toNat 0)):=by
 unfold atI ixN;rw[JL h0,Jl,JL h1];show(m.map PV.int)[z.toNat]?=_;rw[JI,Jt];have:z.toNat<m.length:=by symm
 rw[Jo this];rfl
theorem w_V{v:PV}{k:PV->Prop}:lH (some (some v)) k=k v:=rfl
theorem w_B{b:Bool}{k:Bool->Prop}:d4 (.bl b) k=k b:=rfl
theorem w_I{b:Int}{k:Int->Prop}:bW (.int b) k=k b:=rfl
theorem w_O{b:PV}{k:PV->Prop}:je (some b) k=k b:=rfl
theorem Iz{l:List PV}{H:PHp}{k:List PV->Prop}:cM (.tup l) H k=k l:=rfl
theorem IF{l:List PV}{H:PHp}{k:List PV->Prop}:cM (.fls l) H k=k l:=rfl
theorem HW{a:Addr}{H:PHp}{k:List PV->Prop}:cM (.ref a) H k=∃l,H a=some (.lst l)/\k l:=rfl
theorem Fy{a:Addr}{H:PHp}{k:PV->Prop}:c7 (.ref a) H k=∃l,H a=some (.lst l)/\k (.fls l):=rfl
theorem F7{H:PHp}{k:PV->Prop}:c7 .non H k=k .non:=rfl
theorem Jf{b:Bool}{H:PHp}{k:PV->Prop}:c7 (.bl b) H k=k (.bl b):=rfl
theorem Hr{b:Int}{H:PHp}{k:PV->Prop}:c7 (.int b) H k=k (.int b):=rfl
theorem HD{b:Str}{H:PHp}{k:PV->Prop}:c7 (.str b) H k=k (.str b):=rfl
theorem Hn{b:List PV}{H:PHp}{k:PV->Prop}:c7 (.tup b) H k=k (.tup b):=rfl
theorem IH{b:List PV}{H:PHp}{k:PV->Prop}:c7 (.fls b) H k=k (.fls b):=rfl
theorem G1{H:PHp}{k:BT->Prop}:cJ .non H k=k .non:=rfl
theorem HG{b:Bool}{H:PHp}{k:BT->Prop}:cJ (.bl b) H k=k .bool:=rfl
theorem Gq{b:Int}{H:PHp}{k:BT->Prop}:cJ (.int b) H k=k .int:=rfl
theorem GU{b:Str}{H:PHp}{k:BT->Prop}:cJ (.str b) H k=k .str:=rfl
theorem IK{b:List PV}{H:PHp}{k:BT->Prop}:cJ (.tup b) H k=k .tuple:=rfl
theorem F9{b:List PV}{H:PHp}{k:BT->Prop}:cJ (.fls b) H k=k .list:=rfl
theorem G5{a:Addr}{H:PHp}{k:BT->Prop}:cJ (.ref a) H k=∃l,H a=some (.lst l)/\k .list:=rfl
theorem Iw{b:Int}{k:Int->Prop}:intOf (.int b) k=k b:=rfl
theorem Im{b:Bool}{k:Int->Prop}:intOf (.bl b) k=k (b2n b):=rfl
theorem IA{l:List PV}{lo hi:Option Int}{H:PHp}{Q:VK'}:sliceOf (.fls l) lo hi H Q=∀p,H p=none->Q (.ref p) (put H p (.lst (bO l lo hi))):=rfl
theorem Jg{a:Addr}{lo hi:Option Int}{H:PHp}{Q:VK'}:sliceOf (.ref a) lo hi H Q=∃l,H a=some (.lst l)/\∀p,H p=none->Q (.ref p) (put H p (.lst (bO l lo hi))):=rfl
theorem G6{l:List PV}{lo hi:Option Int}{H:PHp}{Q:VK'}:sliceOf (.tup l) lo hi H Q=(¬(HT.sIx l.length 0 lo=0/\HT.sIx l.length l.length hi=l.length)/\Q (.tup (bO l lo hi)) H):=rfl
theorem Fz{l:List PV}{H:PHp}{R:It'->PHp->Prop}:sL (.tup l) H R=R ⟨l,fun _=>True⟩ H:=rfl
theorem HS{l:List PV}{H:PHp}{R:It'->PHp->Prop}:sL (.fls l) H R=R ⟨l,fun _=>True⟩ H:=rfl
theorem GG{a:Addr}{H:PHp}{R:It'->PHp->Prop}:sL (.ref a) H R=∃l,H a=some (.lst l)/\R ⟨l,fun H=>H a=some (.lst l)⟩ H:=rfl
theorem w_1{f:PV->PHp->VK'->Prop}{x:PV}{H:PHp}{Q:VK'}:de f [x] H Q=f x H Q:=rfl
theorem Dt{c:BT}{x:PV}{n:String}{H:PHp}{Q:VK'}:z4 c [x,.oth (.ty n)] H Q=(n=c.nm/\cJ x H fun t=>Q (.bl (t.sub c)) H):=rfl
theorem IQ{g:Bool->Bool}{H:PHp}{Q:VK'}:mO g .non .non H Q=Q (.bl (g true)) H:=rfl
theorem Hi{g:Bool->Bool}{a:Addr}{H:PHp}{Q:VK'}:mO g (.ref a) .non H Q=Q (.bl (g false)) H:=rfl
theorem Hv{g:Bool->Bool}{l:List PV}{H:PHp}{Q:VK'}:mO g (.tup l) .non H Q=Q (.bl (g false)) H:=rfl
theorem GD{g:Bool->Bool}{l:Int}{H:PHp}{Q:VK'}:mO g (.int l) .non H Q=Q (.bl (g false)) H:=rfl
theorem Ic{g:Bool->Bool}{l:Bool}{H:PHp}{Q:VK'}:mO g (.bl l) .non H Q=Q (.bl (g false)) H:=rfl
theorem HC{n:Nat}{t:gh}{l:List PV}{σ:St'}{H:PHp}{Q:St'->PHp->Prop}:A3 n t (.tup l) σ H Q=(l.length=n/\t l σ H Q):=rfl
theorem Gb{t:TG'}{u:gh}{v:PV}{r:List PV}{σ:St'}{H:PHp}{Q:St'->PHp->Prop}:pL t u (v::r) σ H Q=t v σ H fun σ' H'=>u r σ' H' Q:=rfl
theorem Gu{σ:St'}{H:PHp}{Q:St'->PHp->Prop}:yk [] σ H Q=(True/\Q σ H):=by simp[yk]
theorem Hk{t:TA'}{σ:St'}{H:PHp}{R:It'->PHp->Prop}:y4 t σ H R=t σ H fun vs H1=>yu vs H1 R:=rfl
theorem CG{j:Int}{H1:PHp}{R:It'->PHp->Prop}:yu [.int j] H1 R=((-(2 ^ 62)≤j/\j<2 ^ 62)/\R ⟨cb 0 j.toNat,fun _=>True⟩ H1):=rfl
theorem IV{t:TA'}{σ:St'}{H:PHp}{R:It'->PHp->Prop}:ze t σ H R=t σ H fun vs H1=>wt vs H1 R:=rfl
theorem C4{i j:Int}{H1:PHp}{R:It'->PHp->Prop}:wt [.int i,.int j] H1 R=((-(2 ^ 62)≤i/\i<2 ^ 62/\-(2 ^ 62)≤j/\j<2 ^ 62)/\R ⟨cb i (j - i).toNat,fun _=>True⟩ H1):=rfl
theorem F5{a:Addr}{y:PV}{H:PHp}{Q:VK'}:ko (.ref a) [y] H Q=∃l,H a=some (.lst l)/\l.length<sizeLine/\Q .non (put H a (.lst (l++[y]))):=rfl
theorem GI{a b:Addr}{H:PHp}{Q:VK'}:kJ (.ref a) [.ref b] H Q=∃l m,H a=some (.lst l)/\H b=some (.lst m)/\l.length+m.length≤sizeLine/\Q .non (put H a (.lst (l++m))):=rfl
theorem FG{a:Addr}{H:PHp}{Q:VK'}:wJ (.ref a) [] H Q=∃l y,H a=some (.lst l)/\l[l.length - 1]?=some y/\Q y (put H a (.lst l.dropLast)):=rfl
theorem FC{r:PV->List PV->PHp->VK'->Prop}{to:TE'}{t:TA'}{σ:St'}{H:PHp}{Q:VK'}:uBM r to t σ H Q=to σ H fun x H1=>isL x H1/\t σ H1 fun xs H2=>r x xs H2 Q:=rfl
theorem Ip{a:Addr}{H:PHp}:isL (.ref a) H=∃l,H a=some (.lst l):=rfl
theorem ah{n:Nat}(h:n≤1000):n≤sizeLine:=Nat.le_of_lt (bC h)
end
section
theorem aj{t u:TS'}{D:cL}{σ:St'}{H:PHp}(h:∀R:TS',R=u->kH t R D σ H):kH t u D σ H:=h u rfl
end
section
variable {B:Bs}
def zK(h:Heap)(a C T:Addr)(fl:Value):Prop :=
 ∃(oe:Obj) (vs:Array Value) (oT:Obj) (ts:Array Value) (a0:Value),h.get? a=some oe/\oe.cls=.ref C/\vs[0]?=some a0/\oe.data=.fields vs/\vs[1]?=some (.ref T)/\T≠a/\h.get? T=some oT/\oT.data=.fields ts/\ts[3]?=some fl
theorem qT{P:Program}{w:World}{H:Hp}{h:Heap}{a:Addr}{o:HO}(k:bP P w H h a o):∃ob,h.get? a=some ob:=by
 cases o with
 | lst _=>obtain⟨_,_,_,_,e⟩:=k;exact⟨_,e⟩
 | tup _=>obtain⟨_,_,_,o,e,_⟩:=k;exact⟨o,e⟩
 | dK _=>obtain⟨_,_,_,_,o,_,_,e,_⟩:=k;exact⟨o,e⟩
 | dT _=>obtain⟨_,_,_,_,o,_,_,e,_⟩:=k;exact⟨o,e⟩
 | set _ _=>obtain⟨o,_,_,_,e,_⟩:=k;exact⟨o,e⟩
 | ins _ _ _=>obtain⟨_,_,_,e,_⟩:=k;exact⟨_,e⟩
 | own _=>obtain⟨o,e⟩:=k;exact⟨o,e⟩
 | xd _=>obtain⟨_,⟨o,_,_,e,_⟩,_⟩:=k;exact⟨o,e⟩
 | rng _ _=>obtain⟨_,_,_,e⟩:=k;exact⟨_,e⟩
 | frz o _=>obtain⟨e,_⟩:=k;exact⟨o,e⟩
 | tbl _=>exact⟨_,k⟩
 | met _ _=>exact⟨_,k⟩
 | ext _=>obtain⟨_,⟨o,e⟩,_⟩:=k;exact⟨o,e⟩
theorem mm{P:Program}{w:World}{H:Hp}{h:Heap}{a:Addr}(x:HOk P w H h)(e:h.get? a=none):H a=none:=by
 cases q:H a with
 | none=>rfl
 | some o=>obtain⟨ob,z⟩:=qT (x a o q);rw[e]at z;cases z
section
variable {X:Cx}{pins:List (Addr×Obj)}{σ:L2.St}{H H':Hp}{s:Shared}{h':Heap}{a C T:Addr}{fl:Value}
structure Plain (X:Cx):Prop where
 ex:X.ex=[]
 stk:X.stack=X.env::X.outer
 fr:X.env.frame=some X.env.locals
theorem Plain.frs(pl:Plain X):L2.frs X.stack=X.env.locals::X.fs:=by
 rw[pl.stk];show(X.env::X.outer).filterMap (·.frame)=_;rw[List.filterMap_cons,pl.fr];rfl
structure XAt (X:Cx) (pins:List (Addr × Obj)) (H:Hp) (s:Shared) (a C T:Addr) (fl:Value):Prop where
 fly:zK s.heap a C T fl
 ha:H a=none
 hT:H T=none
 na:X.s₀.heap.get? a=none
 nT:X.s₀.heap.get? T=none
 pin:∀p∈X.pn++pins,p.1≠a/\p.1≠T
theorem dS(I:Inv X pins σ H s)(pl:Plain X){b:Addr}(e:s.heap.get? b=none):X.s₀.heap.get? b=none:=by
 cases q:X.s₀.heap.get? b with
 | none=>rfl
 | some o =>
  obtain⟨o',z⟩:=I.base.there b o q (by rw[pl.ex];simp);rw[e]at z;cases z
theorem Cv(I:Inv X pins σ H s)(pl:Plain X)(ha:H a=none)(hT:H T=none)(na:X.s₀.heap.get? a=none)(nT:X.s₀.heap.get? T=none)(pin:∀p∈X.pn++pins,p.1≠a/\p.1≠T)
  (fa:∀o,s.heap.get? a=some o->∃vs,o.data=.fields vs) (fT:∀o,s.heap.get? T=some o->∃vs,o.data=.fields vs)
  (keep:∀b o,s.heap.get? b=some o->b∉L2.frs X.stack->b≠a->b≠T->h'.get? b=some o) (up:s.heap.UpToSlots h'):Inv X pins σ H { s with heap:=h' }:=by
 have frData:∀b o,b∈L2.frs X.stack->s.heap.get? b=some o->∀vs,o.data≠.fields vs:=fun b o hb e=>by
  obtain⟨_,o',e',hd⟩:=I.stack.mem (b:=b) hb;rw[e]at e';cases e';exact hd
 have inFr:∀b,b=X.env.locals∨b∈X.fs->b∈L2.frs X.stack:=fun b hb=>by
  rw[pl.frs];exact JD.mpr hb
 have neA:∀b o,s.heap.get? b=some o->(∀vs,o.data≠.fields vs)->b≠a/\b≠T:=fun b o e hd=>by
  constructor
  ·rintro rfl;obtain⟨vs,z⟩:=fa o e;exact hd vs z
  ·rintro rfl;obtain⟨vs,z⟩:=fT o e;exact hd vs z
 have any:∀b o,b≠a->b≠T->s.heap.get? b=some o->∃sl,h'.get? b=some { o with slots:=sl }:=fun b o n1 n2 e=>by
  by_cases hb:b∈L2.frs X.stack
  ·exact up b o e (frData b o hb e)
  ·exact⟨o.slots,keep b o e hb n1 n2⟩
 have entry:∀b o,X.s₀.heap.get? b=some o->b≠a/\b≠T:=fun b o e=>⟨(fun z=>by subst z;rw[na]at e;cases e),(fun z=>by subst z;rw[nT]at e;cases e)⟩;have neL:∀b o,X.s₀.heap.get? b=some o->b≠X.env.locals:=fun b o e=>JG (JP (Jv e) I.ok.above);have hx:∀b,b∉X.ex:=fun b=>by rw[pl.ex];simp
 have notFr:∀b o,X.s₀.heap.get? b=some o->b∉X.fs->b∉L2.frs X.stack:=fun b o e hb hm=>by
  rw[pl.frs]at hm;rcases JD.mp hm with z | z
  ·exact neL b o e z
  ·exact hb z
 refine⟨I.ok,I.os,I.bare,⟨fun b o e n hb hx'=>?_,fun b o e n hb hx'=>?_,I.base.free,fun b o e hx'=>?_,I.base.tups,I.base.frzs,I.base.tbls⟩,?_,fun x c e=>?_,I.free,I.freeC,fun p hp=>?_,fun b u e=>?_,I.len⟩
 ·exact keep b o (I.base.keep b o e n hb hx') (notFr b o e hb) (entry b o e).1 (entry b o e).2
 ·obtain⟨sl,e1⟩:=I.base.slot b o e n hb hx';obtain⟨sl',e2⟩:=any b _ (entry b o e).1 (entry b o e).2 e1;exact⟨sl',e2⟩
 ·obtain⟨o',e1⟩:=I.base.there b o e hx';obtain⟨sl',e2⟩:=any b _ (entry b o e).1 (entry b o e).2 e1;exact⟨_,e2⟩
 ·obtain⟨m,hn,hl⟩:=I.loc;refine⟨m,up.ns hn,fun i x v e1 e2 e3=>?_⟩;obtain⟨u,r,l⟩:=hl i x v e1 e2 e3;refine⟨u,r,?_⟩;rcases l with l |⟨k,c,e,o,ho,hd⟩
  ·exact .inl l
  ·have nd:∀vs,o.data≠.fields vs:=fun vs z=>by rw[hd]at z;cases z
   obtain⟨sl,q⟩:=any c o (neA c o ho nd).1 (neA c o ho nd).2 ho;exact .inr ⟨k,c,e,_,q,hd⟩
 ·obtain⟨v,o,ho,hd⟩:=I.cell x c e;have nd:∀vs,o.data≠.fields vs:=fun vs z=>by rw[hd]at z;cases z
  obtain⟨sl,q⟩:=any c o (neA c o ho nd).1 (neA c o ho nd).2 ho;exact⟨v,_,q,hd⟩
 ·obtain⟨e,n,ne,nf,d⟩:=I.pin p hp;refine⟨keep p.1 p.2 e (fun z=>?_) (pin p hp).1 (pin p hp).2,n,ne,nf,d⟩;rw[pl.frs]at z;rcases JD.mp z with z | z
  ·exact ne z
  ·exact nf z
 ·refine(I.hok b u e).stay (fun c v hc q=>?_) (fun _ q=>q) fun _ _ q=>q;have hc':∃o,H c=some o:=by
   rcases hc with rfl | hc
   ·exact⟨_,e⟩
   ·exact⟨_,hc⟩
  obtain⟨oc,ec⟩:=hc';refine keep c v q (fun z=>?_) (fun z=>by subst z;rw[ha]at ec;cases ec) (fun z=>by subst z;rw[hT]at ec;cases ec);rw[I.stkFree c z]at ec;cases ec
open PySem.W in
theorem gW(I:Inv X pins σ H s)(pl:Plain X)(ha:H a=none)(na:X.s₀.heap.get? a=none)(pa:∀p∈X.pn++pins,p.1≠a)(fa:∀o,s.heap.get? a=some o->∃vs,o.data=.fields vs)
  (T0:Addr) (hT0:H T0=none) (nT0:X.s₀.heap.get? T0=none) (pT0:∀p∈X.pn++pins,p.1≠T0) (fT0:∀o,s.heap.get? T0=some o->∃vs,o.data=.fields vs)
  (a0:Value) (st:(hideAll s.heap (L2.frs X.stack++[a,T0])).StaysIn h') (ff:h'.FunFrames (hideAll s.heap (L2.frs X.stack++[a,T0])) X.stack) (tr:h'.TracedAtW (hideAll s.heap (L2.frs X.stack++[a,T0])) a (.ref C) a0 fl) (up:s.heap.UpToSlots h') :
  Inv X pins σ H { s with heap:=h' }/\∃T,XAt X pins H { s with heap:=h' } a C T fl:=by
 have I':Inv X pins σ H { s with heap:=h' }:=Cv I pl ha hT0 na nT0 (fun p hp=>⟨pa p hp,pT0 p hp⟩) fa fT0 (fun b o e n1 n2 n3=>st b o (hideAll_get _ e (by simp[n1,n2,n3]))) up;refine⟨I',?_⟩;obtain⟨oe,vs,T,oT,ts,e1,⟨e2,e3⟩,e4,e5,e6,e7,e8,e9,e10⟩:=tr;have key:T=T0∨s.heap.get? T=none:=by
  by_cases hT:T=T0
  ·exact .inl hT
  ·right;cases q:s.heap.get? T with
   | none=>rfl
   | some o =>
    have nfr:T∉L2.frs X.stack:=fun hm=>by
     obtain⟨_,o',e',hd⟩:=ff.mem (b:=T) hm;rw[e8]at e';cases e';exact hd ts e9
    have:=hideAll_get (L2.frs X.stack++[a,T0]) q (by simp[nfr,e7,hT]);rw[e6]at this;cases this
 refine⟨T,⟨oe,vs,oT,ts,a0,e1,e2,e3,e4,e5,e7,e8,e9,e10⟩,ha,?_,na,?_,fun p hp=>⟨pa p hp,?_⟩⟩
 ·rcases key with rfl | k
  ·exact hT0
  ·exact mm I.hok k
 ·rcases key with rfl | k
  ·exact nT0
  ·exact dS I pl k
 ·rcases key with rfl | k
  ·exact pT0 p hp
  ·intro z;have:=(I.pin p hp).1;rw[z,k]at this;cases this
open PySem.W in
theorem jS(I:Inv X pins σ H s)(as:List Addr):s.heap.FunFrames (hideAll s.heap (L2.frs X.stack++as)) X.stack :=
 funFrames_hide I.stack fun env he b hb=>JN _ (List.mem_filterMap.mpr ⟨env,he,hb⟩)
theorem XAt.data(x:XAt X pins H s a C T fl):(∀o,s.heap.get? a=some o->∃vs,o.data=.fields vs)/\∀o,s.heap.get? T=some o->∃vs,o.data=.fields vs:=by
 obtain⟨oe,vs,oT,ts,a0,e1,e2,e3,e4,e5,e7,e8,e9,e10⟩:=x.fly;exact⟨fun o e=>by rw[e1]at e;cases e;exact⟨_,e4⟩,fun o e=>by rw[e8]at e;cases e;exact⟨_,e9⟩⟩
open PySem.W in
theorem XAt.traced(x:XAt X pins H s a C T fl):∃a0,s.heap.TracedAtW (hideAll s.heap (L2.frs X.stack++[a,T])) a (.ref C) a0 fl:=by
 obtain⟨oe,vs,oT,ts,a0,e1,e2,e3,e4,e5,e7,e8,e9,e10⟩:=x.fly;exact⟨a0,oe,vs,T,oT,ts,e1,⟨e2,e3⟩,e4,e5,hideAll_none _ (by simp),e7,e8,e9,e10⟩
variable {M:Model}{E:Value->Shared->Prop}{Q:Unit->Shared->Prop}
open PySem.W in
theorem BQ(I:Inv X pins σ H s)(pl:Plain X)(x:XAt X pins H s a C T .none)
  (h:∀h' T',Inv X pins σ H { s with heap:=h' }->XAt X pins H { s with heap:=h' } a C T' (rawInt X.env.locals)->Q () { s with heap:=h' }):wpAny M X.A (noteFrame (.ref a) X.env) Q E s:=by
 obtain⟨a0,tr⟩:=x.traced;obtain⟨d1,d2⟩:=x.data;have ff:=jS I [a,T];have hfr:=I.ok.frames;rw[pl.stk]at ff tr hfr;refine wpAny_noteFrame_onW hfr ff pl.fr tr (fun b o e=>of_hideAll _ e) (hideAll_none _ (by simp)) fun h' y_=>?_;obtain⟨k1,k2,k3,k4⟩:=y_;rw[←pl.stk]at k1 k2 k3;obtain⟨I',T',x'⟩:=gW I pl x.ha x.na (fun p hp=>(x.pin p hp).1) d1 T x.hT x.nT (fun p hp=>(x.pin p hp).2) d2 a0 k1 k2 k3 k4;exact h h' T' I' x'
open PySem.W in
theorem rT{A:Around}(I:Inv X pins σ H s)(pl:Plain X)(x:XAt X pins H s a C T fl)
  (h:∀h' T',Inv X pins σ H { s with heap:=h' }->XAt X pins H { s with heap:=h' } a C T' .none->Q () { s with heap:=h' }):wpAny M A (setFlight (.ref a) none) Q E s:=by
 obtain⟨a0,tr⟩:=x.traced;obtain⟨d1,d2⟩:=x.data;refine wpAny_setFlight_noneW (fun b o e=>of_hideAll _ e) (jS I [a,T]) tr fun h' k1 k2 k3 k4=>?_;obtain⟨I',T',x'⟩:=gW I pl x.ha x.na (fun p hp=>(x.pin p hp).1) d1 T x.hT x.nT (fun p hp=>(x.pin p hp).2) d2 a0 k1 k2 k3 fun b o e hd=>⟨o.slots,k4 b o e hd⟩;exact h h' T' I' x'
def CXU(P:Program)(w:World):CXT:=fun outer H s E e s'=>∃(a C T:Addr) (H1:Hp),e=.ref a/\zK s'.heap a C T .none/\(H1 a=none/\H1 T=none)/\(s.heap.get? a=none/\s.heap.get? T=none) /\
 s'.os=s.os/\AllBare s'.gens/\Un (L2.frs outer) [] H H1 s.heap s'.heap/\HOk P w H1 s'.heap/\E (.ref C) none H1
open PySem.W in
theorem yp{XE:XK}(I:Inv X pins σ H s)(pl:Plain X)(x:XAt X pins H s a C T .none)(hE:XE (.ref C) none H) :
  wpAny M X.A (leaving X.env (.ref a)) (fun _ s''=>CXU X.prog X.w X.outer X.H₀ X.s₀ XE (.ref a) s'') E s:=by
 obtain⟨a0,tr⟩:=x.traced;obtain⟨d1,d2⟩:=x.data;have ff:=jS I [a,T];have hfr:=I.ok.frames;rw[pl.stk]at ff tr hfr;refine wpAny_leaving_nextW hfr ff pl.fr tr (fun b o e=>of_hideAll _ e) (hideAll_none _ (by simp)) fun h' y_=>?_;obtain⟨k1,k2,k3,k4⟩:=y_;rw[←pl.stk]at k1 k2 k3;obtain⟨I',T',x'⟩:=gW I pl x.ha x.na (fun p hp=>(x.pin p hp).1) d1 T x.hT x.nT (fun p hp=>(x.pin p hp).2) d2 a0 k1 k2 k3 k4;have hu:=I'.base;rw[pl.ex]at hu;exact⟨a,C,T',H,rfl,x'.fly,⟨x'.ha,x'.hT⟩,⟨x'.na,x'.nT⟩,I'.os,I'.bare,hu,I'.hok,hE⟩
open PySem.W in
theorem nG{XE:XK}{h1:Heap}{args:List Value}(I:Inv X pins σ H s)(pl:Plain X)(mx:Heap.MadeExcOf s.heap h1 a (.ref C) args)(hE:XE (.ref C) none H) :
  wpAny M X.A (leaving X.env (.ref a)) (fun _ s''=>CXU X.prog X.w X.outer X.H₀ X.s₀ XE (.ref a) s'') E { s with heap:=h1 }:=by
 have I1:Inv X pins σ H { s with heap:=h1 }:=I.kept (t':=s.toks) mx.keeps;obtain⟨t,e1,e2,e3⟩:=mx.there;have ha:=mm I.hok mx.new;have na:=dS I pl mx.new;have pa:∀p∈X.pn++pins,p.1≠a:=fun p hp z=>by have:=(I.pin p hp).1;rw[z,mx.new]at this;cases this
 have fa:∀o,h1.get? a=some o->∃vs,o.data=.fields vs:=fun o e=>by rw[e1]at e;cases e;exact⟨_,rfl⟩
 have ff:=jS I1 [a,a];have hfr:=I1.ok.frames;rw[pl.stk]at ff hfr;refine wpAny_leaving_firstW hfr ff pl.fr e1 (fun b o e=>of_hideAll _ e) (hideAll_none _ (by simp)) rfl rfl rfl fun h' y_=>?_;obtain⟨k1,k2,k3,k4⟩:=y_;rw[←pl.stk]at k1 k2 k3;obtain⟨I',T',x'⟩:=gW I1 pl ha na pa fa a ha na pa fa _ k1 k2 k3 k4;have hu:=I'.base;rw[pl.ex]at hu;exact⟨a,C,T',H,rfl,x'.fly,⟨x'.ha,x'.hT⟩,⟨x'.na,x'.nT⟩,I'.os,I'.bare,hu,I'.hok,hE⟩
theorem jx{XE:XK}{e:Value}{s':Shared}(I:Inv X pins σ H s)(pl:Plain X)(c:CXU X.prog X.w X.stack H s XE e s') :
  ∃a C T H1,e=.ref a/\Inv X pins σ H1 s'/\XAt X pins H1 s' a C T .none/\XE (.ref C) none H1/\Kp H H1:=by
 obtain⟨a,C,T,H1,rfl,fl,⟨h1,h2⟩,⟨n1,n2⟩,os,ba,un,hok,hE⟩:=c;refine⟨a,C,T,H1,rfl,I.call' (ch:=[]) os un hok ba (fun _ z=>nomatch z),⟨fl,h1,h2,dS I pl n1,dS I pl n2,fun p hp=>⟨fun z=>?_,fun z=>?_⟩⟩,hE,⟨un.tups,un.frzs⟩⟩
 ·have:=(I.pin p hp).1;rw[z,n1]at this;cases this
 ·have:=(I.pin p hp).1;rw[z,n2]at this;cases this
end
end
end U
namespace U
open L2 PySem.W
theorem su:entryFor table "BaseException.__getattribute__"=some Builtin.«object.__getattribute__» :=
 entryFor_alias (id':="object.__getattribute__") (by kernel_rfl) (by first | rfl | decide +kernel) (by decide +kernel) (by kernel_rfl)
section
variable {prog:Program}{w:World}{A:Around}{E:Value->Shared->Prop}{h:Heap}{g:Array GenState}{d:Drawn}{t:Nat}{os:OsState}{a C:Addr}{o:Obj}{K:Frag}
theorem yO(X:K.In h)(hx:h.get? a=some o)(hc:o.cls=.ref C)(hm:mroIn K C (.type "object")=some true)(hq:R (.ok (.ret (.ref C))) ⟨h,g,d,t,os⟩) :
  codeAny (model prog w) A (.call (.builtin "getset_descriptor.__get__") ⟨[.builtin "object.__class__",.ref a,.ref C],[]⟩) R ⟨h,g,d,t,os⟩:=by
 have hT5:(⟨h,g,d,t,os⟩:Shared).TypeIs (.builtin "object.__class__") "getset_descriptor":=F.typeOf_object_class;have LS:Looks (model prog w) h (isSubtype (.ref C) (.type "object")) true:=looks_mroIn X hm;have f8:=F.owner_object_class;refine codeAny_call_builtin F.slot_gs_get.plain F.entry_gs_get (F.slot_gs_get.check _ _ _ _ _ _ _ _ hT5 (F.args_gs_get _ _ _) ?_)
 and_intros
 rw[hc,f8];refine LS.at ?_
 and_intros
 refine⟨Lp _ (by decide +kernel),J5 F.entry_object_class ?_⟩
 and_intros
 all_goals (rw[hc];exact hq)
theorem rQ(X:K.In h)(hx:h.get? a=some o)(hc:o.cls=.ref C)(hm:mroIn K C (.type "object")=some true)(hf:findIn K (.ref C) "__class__"=some (some (.builtin "object.__class__")))(hq:Q (.done (.ret (.ref C))) ⟨h,g,d,t,os⟩) :
  wpAny (model prog w) A (Builtin.«object.__getattribute__» ⟨[.ref a,.str "__class__" tk],[]⟩) Q E ⟨h,g,d,t,os⟩:=by
 have hT5:(⟨h,g,d,t,os⟩:Shared).TypeIs (.builtin "object.__class__") "getset_descriptor":=F.typeOf_object_class;have LF:Looks (model prog w) h (typeLookup (.ref C) "__class__") (some (.builtin "object.__class__")):=looks_findIn X hf;have f5:=F.typeOf_object_class;have f6:=F.slot_gs_get.lookup;have f7:=F.slot_gs_set.lookup
 and_intros
 rw[hc];refine LF.at ?_
 and_intros
 refine yO X hx hc hm ?_
 and_intros
theorem pd:builtinKind "BaseException.__getattribute__"=some .slot:=by decide +kernel
theorem tS:splitId "BaseException.__getattribute__"=some ("BaseException","__getattribute__"):=by decide +kernel
theorem rj(X:K.In h)(hx:h.get? a=some o)(hc:o.cls=.ref C)(hm:mroIn K C (.type "BaseException")=some true)(hq:Q () ⟨h,g,d,t,os⟩) :
  wpAny M A (checkBuiltinCall "BaseException.__getattribute__" ⟨[.ref a,.str "__class__" tk],[]⟩) Q E ⟨h,g,d,t,os⟩:=by
 have LB:Looks M h (isSubtype (.ref C) (.type "BaseException")) true:=looks_mroIn X hm;simp only[checkBuiltinCall,pd,tS]
 repeat (first |(with_reducible refine wpAny_loadPart_at hx ?_;rw[hc]) | with_reducible refine LB.at ?_ | wp_step)
 exact hq
theorem tV(X:K.In h)(hx:h.get? a=some o)(hc:o.cls=.ref C)(hm:mroIn K C (.type "object")=some true)(hb:mroIn K C (.type "BaseException")=some true)
  (hf:findIn K (.ref C) "__class__"=some (some (.builtin "object.__class__"))) (hq:R (.ok (.ret (.ref C))) ⟨h,g,d,t,os⟩) :
  codeAny (model prog w) A (.call (.builtin "BaseException.__getattribute__") ⟨[.ref a,.str "__class__" tk],[]⟩) R ⟨h,g,d,t,os⟩ :=
 codeAny_call_builtin_at (Lp _ (by decide +kernel)) su (rj X hx hc hb (rQ X hx hc hm hf hq))
theorem yV(self:Value):bindSpecial (.builtin "BaseException.__getattribute__") self=pure (.builtin "BaseException.__getattribute__",[self]):=by
 have hop:withoutEnding? "BaseException.__getattribute__" "#opaque"=none:=by decide +kernel
 have hdat:withoutEnding? "BaseException.__getattribute__" "#data"=none:=by decide +kernel
 simp only[bindSpecial,typeOf,builtinType,hop,hdat,pd];rfl
theorem zW(X:K.In h)(hx:h.get? a=some o)(hc:o.cls=.ref C)(hm:mroIn K C (.type "object")=some true)(hb:mroIn K C (.type "BaseException")=some true)
  (hf:findIn K (.ref C) "__class__"=some (some (.builtin "object.__class__"))) (hg:findIn K (.ref C) "__getattribute__"=some (some (.builtin "BaseException.__getattribute__"))) (hh:findIn K (.ref C) "__getattr__"=some none) (hq:Q (.ref C) ⟨h,g,d,t,os⟩) :
  wpAny (model prog w) A (getAttrBy (.ref a) (.str "__class__" tk) false) Q E ⟨h,g,d,t,os⟩:=by
 have LG:Looks (model prog w) h (typeLookup (.ref C) "__getattribute__") (some (.builtin "BaseException.__getattribute__")):=looks_findIn X hg;have LH:Looks (model prog w) h (typeLookup (.ref C) "__getattr__") none:=looks_findIn X hh;have f3:=yV (.ref a);unfold getAttrBy;refine Kb ?_
 repeat (first |(with_reducible refine wpAny_loadPart_at hx ?_;rw[hc]) | with_reducible refine LG.at ?_ | with_reducible refine LH.at ?_ | wp_step)
 refine tV X hx hc hm hb hf ?_;show wpAny (model prog w) A (handedOut (.ref C)) Q E _;exact handed_on rfl hq
theorem rZ(X:K.In h)(hx:h.get? a=some o)(hc:o.cls=.ref C)(hm:mroIn K C (.type "object")=some true)(hb:mroIn K C (.type "BaseException")=some true)
  (hf:findIn K (.ref C) "__class__"=some (some (.builtin "object.__class__"))) (hg:findIn K (.ref C) "__getattribute__"=some (some (.builtin "BaseException.__getattribute__"))) (hh:findIn K (.ref C) "__getattr__"=some none)
  (hq:Q (some (.ref C)) ⟨h,g,d,t+1,os⟩):wpAny (model prog w) A (getAttr? (.ref a) "__class__") Q E ⟨h,g,d,t,os⟩:=by
 unfold getAttr? getAttrBy?
 repeat (any_goals (first | assumption | with_reducible apply zW X hx hc hm hb hf hg hh | wp_step))
end
structure dW (K:Frag) (C:Addr):Prop where
 ex:excIn K C [.type "ValueError",.type "Exception",.type "BaseException",.type "object"] "ValueError.__new__"=true
 ob:mroIn K C (.type "object")=some true
 be:mroIn K C (.type "BaseException")=some true
 ga:findIn K (.ref C) "__getattribute__"=some (some (.builtin "BaseException.__getattribute__"))
 gt:findIn K (.ref C) "__getattr__"=some none
 cl:findIn K (.ref C) "__class__"=some (some (.builtin "object.__class__"))
theorem dW.obj{K:Frag}(c:dW K C):∃(dd:Option Addr) (cd:ClassData) (sl:Array (Option Value)),K.lookup C=some ⟨.type "type",dd,.cls cd,sl⟩:=by
 have q:=c.ex;unfold excIn at q;split at q
 ·rename_i dd cd sl ho;exact⟨dd,cd,sl,ho⟩
 ·cases q
theorem tT{K:Frag}(c:dW K C):KitX K (.ref a) (.ref C) (jT a C) where
 ty:=fun M h _ ⟨o,h1,h2⟩=>h2▸(Looks.ld h1).andThen .now
 it:=fun M h X _=>by
  obtain⟨dd,cd,sl,ho⟩:=c.obj;intro A' Q' E' s' k q;unfold isType loadHead;exact Jm (wpAny_loadPart (k _ _ (X _ _ ho)) (Jq q))
 ne:=fun h tp dd its n sl X htp=>by
  obtain⟨dd,cd,sl,ho⟩:=c.obj;refine Bool.eq_false_iff.mpr fun q=>?_;have e:C=tp:=Value.ref.inj (Lb.mp q);subst e;have z:=(X _ _ ho).symm.trans htp;exact absurd (congrArg Obj.cls (JT z)) (by show ¬Value.type "type"=Value.type "tuple";decide)
 ca:=fun {_ _ _ _ _ s} X y_ k=>by
  obtain⟨o,h1,h2⟩:=y_;obtain⟨h,g,d,t,os⟩:=s;exact rZ X h1 h2 c.ob c.be c.cl c.ga c.gt k
end U
namespace U
open L2
section
variable {B:Bs}
def XL(K:PySem.W.Frag)(B:Bs)(E':XK')(E:XK):Prop:=∀c d H1' H1,E' c d H1'->HR K H1' H1->Ev B.1 B.2 H1' H1->E c d H1
section
variable {P:Program}{w:World}{K:PySem.W.Frag}{mg:Str->Option Value}{base:Heap}
theorem bh:Plain (kz CX P w K mg base N qual sc f cdv A outer s H E):=⟨rfl,rfl,rfl⟩
theorem okX{st:Stmt}(F:Fun K x qual st f fd)(S:aw N ps (ai st))(len:∀vs H Q E,sp vs H Q E->vs.length=ps.length)
  (hbody:∀(cdv:Value) (A:Around) (outer:List Env) (s:Shared) (H:Hp) (E:XK) (vs':List PV) (H':PHp) (Q':VK') (E':XK'),bS k (A.deeper (envOfC qual (ai st) s.heap.objs.size f cdv))->XL K (H',H) E' E->sp vs' H' Q' E' ->
   ∃t,gJ (kz (CXU P w) P w K mg base N qual (ai st) f cdv A outer s H E) (H',H) (dM st) t/\t (ends Q') (d0 N vs') H'):aG P w K mg base (CXU P w) (k+1) f fd ps sp:=by
 obtain⟨oc,od,kV,doc,pm,an,cdv,ct,osl,rfl,lk,hcd⟩:=F.ex;refine zi lk hcd S (fun vs H Q E zz=>by obtain⟨vs',H',Q',E',r,hr,h,_⟩:=zz;rw[RPs.length _ r];exact len _ _ _ _ h) fun A outer s H vs Q E hr hsp=>?_;obtain⟨vs',H',Q',E',r,hh,h,k1,k2⟩:=hsp;obtain⟨t,ht,hq⟩:=hbody cdv A outer s H E vs' H' Q' E' hr k2 h;refine⟨_,ht,d0 N vs',H',_,lg r hh,hq,?_,?_,?_,?_⟩
 ·rintro σ1' H1' σ1 H1 ⟨H3,sb,q⟩ s1 e1;exact k1 _ H3 _ H1 q (by simp[RP]) (s1.hp.sub sb) (e1.sub sb)
 ·rintro v' H1' v H1 ⟨H3,sb,q⟩ r1 s1 e1;exact k1 _ H3 _ H1 q r1 (s1.sub sb) (e1.sub sb)
 ·intro _ _ _ _ z;exact z.elim
 ·intro _ _ _ _ z;exact z.elim
end
section
variable {X:Cx}{k:Nat}{f C D:Addr}{fd:FuncData}{ps:List Str}{sp:Sp'}{E:XK}{E':XK'}{x m n:Str}{p np pos apos cpos:Pos}{e o:Expr}{es:List Expr}{ta:TE'}{t:TA'}
def Lv(X:Cx)(E:XK):Prop:=X.xe=fun e s'=>wpAny (model X.prog X.w) X.A (leaving X.env e) (fun _ s''=>CXU X.prog X.w X.outer X.H₀ X.s₀ E e s'') (fun e' s''=>CXU X.prog X.w X.outer X.H₀ X.s₀ E e' s'') s'
theorem zm(l:Lv X E):PassesOwn (model X.prog X.w) X.A X.env X.xe:=by rw[l];exact PassesOwn.leaving
theorem oP(l:Lv X E)(pl:Plain X):Passes (CXU X.prog X.w) X E:=fun pins σ H s e s' I c=>by
 obtain⟨a,C,T,H1,rfl,I1,x1,hE,_⟩:=jx I pl c;rw[l];exact yp I1 pl x1 hE
theorem qD{K:PySem.W.Frag}(hE:XL K B E' E){σ:L2.St}{H:Hp}{Q:VK}(h:low K B (nk sp E' t) σ H Q):uE (dF K sp) [] E (n5 K B t) σ H Q:=by
 obtain⟨σ',H',Q',s,h,k⟩:=h;refine⟨σ',H',_,s,h,fun vs' H1' vs H1 h1 r1 s1 e1=>?_⟩;show dF K sp (vs++[]) H1 Q E;rw[JQ];exact⟨vs',H1',Q',E',r1,s1.hp,h1,fun v' H2' v H2 q r2 h2 e2=>k v' H2' v H2 q r2 (s1.kp e2 h2) (e1.trans e2),fun c d H2' H2 q h2 e2=>hE c d H2' H2 q h2 (s1.ev.trans e2)⟩
theorem bT(l:Lv X E)(pl:Plain X)(hE:XL X.K B E' E)(F:aG X.prog X.w X.K X.mg X.base (CXU X.prog X.w) k f fd ps sp)(hr:bS k X.A)(hg:Gl X x)(hm:X.mg x=some (.ref f))(hk:PySem.W.keepIn X.K (.ref f)=true)(hb:Binds X.K fd ps [])
  (ha:PA' X B (e::es) t) (hdb:(x==("__debug__":Str))=false:=by decide) (he:starEach (e::es) X.env=(false,eval e X.env)::starEach es X.env:=by rfl) (hpl:(backTo pos (starEach es X.env)).any (·.1)=false:=by rfl) :
  PE' X B (.Call (.Name x p) (e::es) [] pos) (nk sp E' t):=aS (oR F hr hg hm hk hb .nil (oP l pl) ha hdb he hpl) fun _ _ _ h=>qD hE h
theorem rW{K:PySem.W.Frag}(KX:K.In h)(c:dW K C):∃(bm:List Value) (N:Addr) (nm q:Str) (bs:List Value) (hdct:Bool) (sn:List Str) (sub:List Value) (ab:Bool) (col:Option Bool) (dd:Option Addr) (k0 k1 k2 k3 k5:Option Value) (mN:Str->Option Value),
  h.get? C=some (excClassObj nm q C N bs bm hdct sn sub ab col dd k0 k1 k2 k3 k5 "ValueError.__new__")/\h.Ns N mN/\mN "__init__"=none/\OwnTail h [.type "ValueError",.type "Exception",.type "BaseException",.type "object"] bm:=by
 have q:=c.ex;unfold PySem.W.excIn at q;split at q
 ·rename_i dd cd sl ho;split at q
  ·rename_i C' bm k0 k1 k2 k3 n k5 hm hs;simp only[KO,Lb,Bool.not_eq_true']at q;obtain⟨⟨⟨⟨⟨rfl,rfl⟩,hdel⟩,ht⟩,hok⟩,hni⟩:=q;obtain⟨nm,bs,mro,ns,qn,hd,sn,sub,ab,col,del⟩:=cd;dsimp only at hm hdel hok hni;subst hm hdel;have hsl:sl=#[k0,k1,k2,k3,some (.builtin "ValueError.__new__"),k5]:=by
    obtain⟨l⟩:=sl;simp only at hs;rw[hs]
   subst hsl;exact⟨bm,ns,nm,qn,bs,hd,sn,sub,ab,col,dd,k0,k1,k2,k3,k5,_,KX _ _ ho,.of_isNs (PySem.W.isNs_of_in KX hok),PySem.W.nsMap_none_of_in KX hok hni,PySem.W.tail_of_in KX ht⟩
  ·cases q
 ·cases q
def sk(C:Addr)(E':XK'):TS':=fun _ _ H=>E' (.ref C) none H
theorem dB{msg:Str}{j:Nat}{mp:Pos}(l:Lv X E)(pl:Plain X)(hE:XL X.K B E' E)(hc:X.calm=true)(c:dW X.K C)(hg:Gl X x)(hm:X.mg x=some (.ref C))(hdb:(x==("__debug__":Str))=false:=by decide) :
  PS' X B (.Raise (some (.Call (.Name x np) [.Constant (.str msg) j mp] [] cpos)) none pos) (sk C E'):=by
 intro pins s σ H Dn I ⟨σ',H',D',sr,h,dr⟩;have hE1:E (.ref C) none H:=hE _ _ H' H h sr.hp sr.ev;obtain⟨bm,N,nm,q,bs,hdct,sn,sub,ab,col,dd,k0,k1,k2,k3,k5,mN,hC,hN,hni,TL⟩:=rW I.mod.kin c;refine wpAny_Raise_call_subT (C:=C) (nm:=nm) (q:=q) (N:=N) (bs:=bs) (bm:=bm) (hdct:=hdct) (sn:=sn) (sub:=sub) (ab:=ab) (col:=col) (dd:=dd) (k0:=k0) (k1:=k1) (k2:=k2) (k3:=k3) (k5:=k5) PySem.F.excBase_ValueError (TL.hasType (by decide)) (I.ok.hd hc) rfl hni (eE I hg hm ⟨rfl,?_⟩ hdb);refine Calls.evalArgs_plain ?_;refine thn (bE (X:=X) tw bY rfl cpos pins s σ H (fun vs H1=>vs=[.str msg]/\H1=H) I ⟨rfl,rfl⟩) fun us s2 y_=>?_;obtain⟨vs,H1,I2,r,ev,eh⟩:=y_;subst ev;subst eh;have hl:us.length=1:=by rw[←r.length];rfl
 refine⟨rfl,by show us.length≤sizeLine;rw[hl];exact ah (by decide),I2.bk _ _ hC,hN.keeps I2.bk,TL.keeps I2.bk,fun h' a mx=>?_⟩;rw[l];exact nG I2 pl mx hE1
end
end
section
variable {B:Bs}
section
variable {X:Cx}{pins:List (Addr×Obj)}{σ:L2.St}{H:Hp}{s:Shared}{a C T:Addr}{fl:Value}
theorem name_goes(I:Inv X pins σ H s)(hN:X.N.Nodup)(hi:X.N[i]?=some n)(hl:X.env.scope.names.lookup n=some .local)
  (h:∀s',Inv X pins (σ.set i none) H s'->Q () s'):wpAny M A (do bindName X.env n .none;unbindBehindTheSuite X.env n pos) Q E s:=by
 obtain⟨m,hn,hlo⟩:=id I.loc;have hcls:(X.env.scope.kind==.class||(X.env.scope.kind==.module&&X.env.locals !=X.env.globals))=false:=by rw[I.ok.kind];rfl
 refine wpAny_nameGoes_keeps hl hn hcls fun h' v hn' hs=>h _ ?_;obtain⟨oL,_,_,hoL,_⟩:=id hn;have cne:=I.cne;refine⟨I.ok,I.os,I.bare,⟨fun b o e n' hb hx=>?_,fun b o e n' hb hx=>?_,I.base.free,fun b o e hx=>?_,I.base.tups,I.base.frzs,I.base.tbls⟩,⟨_,hn',fun j y v' e1 e2 e3=>?_⟩,fun y c e=>?_,I.free,I.freeC,fun p hp=>?_,fun b ob e=>?_,by rw[Lx];exact I.len⟩
 ·exact(hs.2 b (JG (JP (Jv e) I.ok.above))).trans (I.base.keep b o e n' hb hx)
 ·obtain⟨sl,e1⟩:=I.base.slot b o e n' hb hx;exact⟨sl,(hs.2 b (JG (JP (Jv e) I.ok.above))).trans e1⟩
 ·obtain⟨o',e1⟩:=I.base.there b o e hx;exact⟨o',(hs.2 b (JG (JP (Jv e) I.ok.above))).trans e1⟩
 ·by_cases hj:j=i
  ·subst hj;by_cases hlt:j<σ.length
   ·rw[KI hlt]at e2;cases e2
   ·rw[KJ (by simpa using Nat.le_of_not_lt hlt)]at e2;cases e2
  ·rw[Lg (Ne.symm hj)]at e2;obtain⟨u',r',q⟩:=hlo j y v' e1 e2 e3;refine⟨u',r',?_⟩;rcases q with⟨k,e⟩ |⟨k,c,e,z⟩
   ·refine .inl ⟨k,?_⟩;have:y≠n:=fun e=>hj (iM hN e1 (e▸hi));simp[this,e]
   ·exact .inr ⟨k,c,e,z.sameBut hs (cne y c e)⟩
 ·obtain⟨w',z⟩:=I.cell y c e;exact⟨w',z.sameBut hs (cne y c e)⟩
 ·obtain⟨e,n',ne,nf,d⟩:=I.pin p hp;exact⟨(hs.2 p.1 ne).trans e,n',ne,nf,d⟩
 ·refine(I.hok b ob e).stay (fun c w' hc q=>(hs.2 c ?_).trans q) (fun _ q=>q) fun _ _ q=>q;rintro rfl;rcases hc with rfl | hc
  ·rw[I.free]at e;cases e
  ·rw[I.free]at hc;cases hc
theorem wu(I:Inv X pins σ H s)(x:XAt X pins H s a C T fl):Inv X pins σ (upd H a (.ext (jT a C))) s:=by
 obtain⟨oe,vs,oT,ts,a0,e1,e2,e3,e4,e5,e7,e8,e9,e10⟩:=x.fly;have hL:X.env.locals≠a:=by
  rintro rfl;obtain⟨m,⟨o,es,ep,ho,hd,_⟩,_⟩:=I.loc;rw[e1]at ho;cases ho;rw[e4]at hd;cases hd
 refine⟨I.ok,I.os,I.bare,⟨I.base.keep,I.base.slot,fun b o e n hx=>?_,I.base.there,fun b xs e=>?_,fun b o u e=>?_,fun b ps e=>?_⟩,I.loc,I.cell,?_,fun y c e=>?_,fun p hp=>?_,fun b ob e=>?_,I.len⟩
 ·rw[aM (fun z=>by subst z;rw[x.na]at e;cases e)];exact I.base.free b o e n hx
 ·have:=I.base.tups b xs e;rw[aM (aQ this x.ha)];exact this
 ·have:=I.base.frzs b o u e;rw[aM (aQ this x.ha)];exact this
 ·obtain⟨more,this⟩:=I.base.tbls b ps e;exact⟨more,by rw[aM (aQ this x.ha)];exact this⟩
 ·rw[aM hL];exact I.free
 ·refine(aM ?_).trans (I.freeC y c e);rintro rfl;obtain⟨v,o,ho,hd⟩:=I.cell y c e;rw[e1]at ho;cases ho;rw[e4]at hd;cases hd
 ·obtain⟨e,n,ne,nf,d⟩:=I.pin p hp;exact⟨e,by rw[aM (x.pin p hp).1];exact n,ne,nf,d⟩
 ·by_cases hb:b=a
  ·subst hb;rw[bj]at e;cases e;exact⟨⟨oe,e1,e2⟩,⟨oe,e1⟩,fun h1 h2 y_ k=>by obtain⟨o,q1,q2⟩:=y_;exact ⟨o,k o q1,q2⟩⟩
  ·rw[aM hb]at e;exact(I.hok b ob e).stay (fun _ _ _ q=>q) (fun c q=>by rw[aM (aQ q x.ha)];exact q) fun c xs q=>by rw[aM (aQ q x.ha)];exact q
abbrev mk(X:Cx)(e:Value):Cx:={ X with A:=X.A.mark (some e),calm:=false,xe:=fun _ _=>False }
theorem vQ(I:Inv X pins σ H s)(e:Value):Inv (mk X e) pins σ H s :=
 ⟨⟨I.ok.mod,I.ok.kind,I.ok.glob,I.ok.blt,I.ok.above,I.ok.inj,I.ok.has,I.ok.cab,(fun z=>by cases z),I.ok.frames,I.ok.stk,I.ok.exf,I.ok.bs,I.ok.bsz,I.ok.noex,I.ok.exfs,I.ok.funs,I.ok.frf⟩,I.os,I.bare,I.base,I.loc,I.cell,I.free,I.freeC,I.pin,I.hok,I.len⟩
theorem r8(ok:X.Ok)(I:Inv (mk X e) pins σ H s):Inv X pins σ H s:=⟨ok,I.os,I.bare,I.base,I.loc,I.cell,I.free,I.freeC,I.pin,I.hok,I.len⟩
theorem vh(pl:Plain X)(e:Value):Plain (mk X e):=⟨pl.ex,pl.stk,pl.fr⟩
open PySem.W in
theorem iS{M:Model}{A:Around}{E:Value->Shared->Prop}{D:Addr}{b:Bool}{Q:Bool->Shared->Prop}(KX:X.K.In s.heap)(cD:dW X.K D)(hm:mroIn X.K C (.ref D)=some b)(x:∃o,s.heap.get? a=some o/\o.cls=.ref C)
  (h:Q b s):wpAny M A (excMatches (.ref a) (.ref D)) Q E s:=by
 obtain⟨oe,he,hcls⟩:=x;obtain⟨bm,N,nm,q,bs,hdct,sn,sub,ab,col,dd,k0,k1,k2,k3,k5,mN,hC,hN,hni,TL⟩:=rW KX cD;have hcB:(Value.ref D::bm).contains (.type "BaseException")=true:=by rw[List.contains_cons,TL.hasType (X:="BaseException") (b:=true) (by decide),Bool.or_true]
 have LS:Looks M s.heap (isSubtype (.ref C) (.ref D)) b:=looks_mroIn KX hm;have f:=tc_notTuple;obtain⟨hp,g,d,t,os⟩:=s;unfold excMatches
 repeat (first |(with_reducible refine wpAny_loadPart_at he ?_;rw[hcls]) | with_reducible refine wpAny_loadPart_at hC ?_ |(with_reducible refine wpAny_isSubtype_exc hC ?_;rw[hcB]) | with_reducible refine LS.at ?_ | wp_step)
 cases b with
 | true=>wp_walk;exact h
 | false=>wp_walk;exact h
end
end
section
variable {B:Bs}
abbrev TX':=St'->PHp->VK'->XK'->Prop
abbrev gQ:=cL->(St'->XK')->St'->PHp->Prop
structure nI (X:Cx) (B:Bs) (pins:List (Addr × Obj)) (σ':St') (H':PHp) (H:Hp) (E':XK') (σ1:L2.St) (a:Addr) (s1:Shared):Prop where
 ex:∃H1' H1 C T,Inv X pins σ1 H1 s1/\XAt X pins H1 s1 a C T .none/\SR X.K B σ' H1' σ1 H1/\Ev H' H H1' H1/\E' (.ref C) none H1'
def PXE(X:Cx)(B:Bs)(e:Expr)(t:TX'):Prop:=∀(Ex:Value->Shared->Prop) (pins:List (Addr×Obj)) (s:Shared) (σ:L2.St) (H:Hp) (Q:VK) (σ':St') (H':PHp) (Q':VK') (E':XK'),Inv X pins σ H s->SR X.K B σ' H' σ H->t σ' H' Q' E' ->
 (∀v' H1' v H1,Q' v' H1'->RP X.K H1 v' v->SR X.K B σ' H1' σ H1->Ev H' H H1' H1->Q v H1)->(∀a s1,nI X B pins σ' H' H E' σ a s1->Ex (.ref a) s1)->wpAny (model X.prog X.w) X.A (eval e X.env) (EP X pins σ Q) Ex s
def PSX(X:Cx)(B:Bs)(st:Stmt)(t:gQ):Prop:=∀(Ex:Value->Shared->Prop) (pins:List (Addr×Obj)) (s:Shared) (σ:L2.St) (H:Hp) (D:Ends) (σ':St') (H':PHp) (D':cL) (E':St'->XK'),Inv X pins σ H s->SR X.K B σ' H' σ H->t D' E' σ' H'->DR X.K B D' D H' H ->
 (∀σ1' σ1 a s1,nI X B pins σ1' H' H (E' σ1') σ1 a s1->Ex (.ref a) s1)->wpAny (model X.prog X.w) X.A (exec st X.env) (SP X pins D) Ex s
def xF(X:Cx)(B:Bs)(sts:List Stmt)(t:gQ):Prop:=∀(Ex:Value->Shared->Prop) (pins:List (Addr×Obj)) (s:Shared) (σ:L2.St) (H:Hp) (D:Ends) (σ':St') (H':PHp) (D':cL) (E':St'->XK'),Inv X pins σ H s->SR X.K B σ' H' σ H->t D' E' σ' H'->DR X.K B D' D H' H ->
 (∀σ1' σ1 a s1,nI X B pins σ1' H' H (E' σ1') σ1 a s1->Ex (.ref a) s1)->wpAny (model X.prog X.w) X.A (execs sts X.env) (SP X pins D) Ex s
section
variable {X:Cx}{k:Nat}{f C D:Addr}{fd:FuncData}{ps:List Str}{sp:Sp'}{x m n:Str}{p np pos apos cpos:Pos}{e o:Expr}{es:List Expr}{ta:TE'}{t:TA'}
theorem tJ{tr:Sem α}{Q:α->Shared->Prop}(h:wpAny M A tr Q (fun _ _=>False) s):wpAny M A tr Q Ex s:=Li h (fun _ _ q=>q) fun _ _ z=>z.elim
theorem nI.later(c:nI X B pins σ' H1' H1 E' σ1 a s1)(e:Ev H' H H1' H1):nI X B pins σ' H' H E' σ1 a s1:=by
 obtain⟨H2',H2,C,T,i,x,s,v,q⟩:=c.ex;exact⟨H2',H2,C,T,i,x,s,e.trans v,q⟩
theorem HN{σ:L2.St}(pl:Plain X)
  (F:aG X.prog X.w X.K X.mg X.base (CXU X.prog X.w) k f fd ps sp) (hr:bS k X.A) (hb:Binds X.K fd ps []) (I:Inv X pins σ H s) (sr:SR X.K B σ' H' σ H) (r:Vals vs us) (r':RPs X.K H vs' vs) (h:sp vs' H' Q' E')
  (hQ:∀v' H1' v H1,Q' v' H1'->RP X.K H1 v' v->SR X.K B σ' H1' σ H1->Ev H' H H1' H1->Q v H1) (hE:∀a s1,nI X B pins σ' H' H E' σ a s1->Ex (.ref a) s1) :
  wpAny (model X.prog X.w) X.A (call (.ref f) us) (EP X pins σ Q) Ex s:=by
 have hsp:dF X.K sp vs H Q (fun c d H1=>∃H1',E' c d H1'/\HR X.K H1' H1/\Ev H' H H1' H1) :=
  ⟨vs',H',Q',E',r',sr.hp,h,fun v' H2' v H2 q r2 h2 e2=>hQ v' H2' v H2 q r2 (sr.kp e2 h2) e2,fun c d H2' H2 q h2 e2=>⟨H2',q,h2,e2⟩⟩
 have hl:(us++[]).length=ps.length:=by rw[JQ,← r.length];exact F.len _ _ _ _ hsp
 have hb':=hb s us I.kIn hl;rw[JQ]at hb';refine wpAny_call (K5 (F.run X.A X.stack s H ⟨us,[]⟩ us vs Q _ hr I.env0 hb' r hsp) fun r s' hq=>?_);cases r with
 | error e =>
  have hq':CXU X.prog X.w X.stack H s (fun c d H1=>∃H1',E' c d H1'/\HR X.K H1' H1/\Ev H' H H1' H1) e s':=hq;obtain⟨a,C,T,H1,rfl,I1,x1,⟨H1',q,h1,e1⟩,_⟩:=jx I pl hq';exact hE a s' ⟨H1',H1,C,T,I1,x1,sr.kp e1 h1,e1,q⟩
 | ok fl =>
  cases fl with
  | ret u=>exact I.after hq
  | next=>exact False.elim hq
  | brk=>exact False.elim hq
  | cont=>exact False.elim hq
def zF(sp:Sp')(t:TA'):TX':=fun σ H Q E=>t σ H fun vs H1=>sp vs H1 Q E
theorem qb(pl:Plain X)(F:aG X.prog X.w X.K X.mg X.base (CXU X.prog X.w) k f fd ps sp)(hr:bS k X.A)(hg:Gl X x)(hm:X.mg x=some (.ref f))(hk:PySem.W.keepIn X.K (.ref f)=true)(hb:Binds X.K fd ps [])
  (ha:PA' X.nox B (e::es) t) (hdb:(x==("__debug__":Str))=false:=by decide) (he:starEach (e::es) X.env=(false,eval e X.env)::starEach es X.env:=by rfl) (hpl:(backTo pos (starEach es X.env)).any (·.1)=false:=by rfl) :
  PXE X B (.Call (.Name x p) (e::es) [] pos) (zF sp t):=by
 intro Ex pins s σ H Q σ' H' Q' E' I sr h hQ hE;refine Lc (eE I hg hm ?_ hdb);have hA:=ha pos pins s σ H (fun vs H1=>∃vs' H1',RPs X.K H1 vs' vs/\SR X.K B σ' H1' σ H1/\Ev H' H H1' H1/\sp vs' H1' Q' E') (I.wish _) ⟨σ',H',_,sr,h,fun vs' H1' vs H1 q r s1 e1=>⟨vs',H1',r,s1,e1,q⟩⟩;refine PySem.W.callWith_K (h₀:=X.base) I.ok.mod.kin hk (thn (tJ hA) fun us s1 ⟨vs,H1,I1,r,vs',H1',r',s1',e1,q⟩=>⟨I1.kIn,?_⟩) he hpl;exact HN pl F hr hb I1.unwish s1' r r' q (fun v' H2' v H2 q r2 s2 e2=>hQ v' H2' v H2 q r2 s2 (e1.trans e2)) fun a s2 c=>hE a s2 (c.later e1)
def Ff(i:Nat)(t:TX'):gQ:=fun D E σ H=>t σ H (fun v H1=>D.nx (σ.set i (some v)) H1) (E σ)
def E4(t:TX'):gQ:=fun D E σ H=>t σ H (fun _ H1=>D.nx σ H1) (E σ)
theorem vA{i:Nat}{y:Str}{pos':Pos}{tx:TX'}(hN:X.N.Nodup)(hi:X.N[i]?=some y)(hy:Loc X.env.scope y)(he:PXE X B e tx)(hs:swapsWith e (some (.Name y pos')) pos.line X.env=pure false:=by rfl)
  (hf:X.fn y=true∨X.env.scope.names.lookup y=some .local:=by first | exact .inl rfl | exact .inr rfl | assumption):PSX X B (.Assign [.Name y pos'] e pos) (Ff i tx):=by
 intro Ex pins s σ H D σ' H' D' E' I sr h dr hE;refine wpAny_Assign_Name (thn (he Ex pins s σ H (fun v H1=>∃v' H1',D'.nx (σ'.set i (some v')) H1'/\RP X.K H1 v' v/\SR X.K B σ' H1' σ H1/\Ev H' H H1' H1) σ' H' _ (E' σ') I sr h (fun v' H1' v H1 q r s1 e1=>⟨v',H1',q,r,s1,e1⟩) fun a s1 c=>hE σ' σ a s1 c) fun v s1 ⟨y,H1,I1,r1,v',H1',q,r,s1',e1⟩=>?_) hs;exact fK I1 hN hi hy r1 (fun s2 I2=>⟨_,H1,I2,dr.nx _ _ _ _ q (s1'.set r i) e1⟩) hf
def IB(t u:gQ):gQ:=fun D E σ H=>t { D with nx:=u D E } E σ H
theorem j8{st:Stmt}(h:PSX X B st ts):xF X B [st] ts:=by
 intro Ex pins s σ H D σ' H' D' E' I sr ht dr hE;refine wpAny_execs_cons (thn (h Ex pins s σ H D σ' H' D' E' I sr ht dr hE) fun f s1 q=>?_);cases f with
 | next=>exact wpAny_execs_nil q
 | _=>exact q
def xIf(c:TT')(t u:gQ):gQ:=fun D E σ H=>c σ H fun b H1=>cif b (t D E σ H1) (u D E σ H1)
theorem Ez(hc:PT' X.nox B c tA)(ha:xF X B l1 ts)(hb:xF X B l2 us):PSX X B (.If c l1 l2 pos) (xIf tA ts us):=by
 intro Ex pins s σ H D σ' H' D' E' I sr ht dr hE;refine wpAny_If (thn (tJ (hc pins s σ H (fun b H1=>∃H1',cif b (ts D' E' σ' H1') (us D' E' σ' H1')/\SR X.K B σ' H1' σ H1/\Ev H' H H1' H1) (I.wish _) ⟨σ',H',_,sr,ht,fun b H1' H1 q s1 e1=>⟨H1',q,s1,e1⟩⟩)) fun b s1 y_=>?_);obtain⟨H1,I1,H1',q,s1',e1⟩:=y_;cases b with
 | true=>exact ha Ex pins s1 σ H1 D σ' H1' D' E' I1.unwish s1' q (dr.ev _ _ e1) fun σ2' σ2 a s2 c=>hE σ2' σ2 a s2 (c.later e1)
 | false=>exact hb Ex pins s1 σ H1 D σ' H1' D' E' I1.unwish s1' q (dr.ev _ _ e1) fun σ2' σ2 a s2 c=>hE σ2' σ2 a s2 (c.later e1)
def DP(K:PySem.W.Frag)(D:Addr)(t:gQ)(i j:Nat):TS':=fun Dn σ H=>t Dn (fun σ1 c d H1=>∃C,c=.ref C/\(dW K C/\PySem.W.mroIn K C (.ref D)=some true)/\∀a,H1 a=none->Dn.nx (((σ1.set i (some (.ref a))).set j (some (.ref a))).set i none) (put H1 a (.exc C))) σ H
theorem Bk{body:List Stmt}{tb:gQ}{i j:Nat}{z:Str}{zp n2 ap hp:Pos}(pl:Plain X)(hN:X.N.Nodup)(hi:X.N[i]?=some n)(hj:X.N[j]?=some z)(hln:X.env.scope.names.lookup n=some .local)(hlz:X.env.scope.names.lookup z=some .local)
  (cD:dW X.K D) (hg:Gl X x) (hm:X.mg x=some (.ref D)) (hb:xF X B body tb)
  (hdb:(x==("__debug__":Str))=false:=by decide) (hnd:(n==("__debug__":Str))=false:=by decide) (hncd:(n==("__classdict__":Str))=false:=by decide)
  (hsw:swapsWith (.Name n n2) (some (.Name z zp)) ap.line X.env=pure false:=by rfl) :
  PS' X B (.Try body [.ExceptHandler (some (.Name x np)) (some n) [.Assign [.Name z zp] (.Name n n2) ap] hp] [] [] pos) (DP X.K D tb i j):=by
 intro pins s σ H Dn I ⟨σ',H',D',sr,h,dr⟩;refine wpAny_Try_except (Li (hb (fun e s₁=>wpAny (model X.prog X.w) X.A (noteFrame e X.env) (fun _ s₂=>wpAny (model X.prog X.w) X.A (setFlight e none) (fun _ s₃=>wpAny (model X.prog X.w) X.A (handleBy e X.env [.ExceptHandler (some (.Name x np)) (some n) [.Assign [.Name z zp] (.Name n n2) ap] hp]) (SP X pins Dn) X.xe s₃) X.xe s₂) X.xe s₁)
  pins s σ H Dn σ' H' D' _ I sr h dr ?_) (fun f s₁ q=>?_) fun _ _ q=>q)
 ·rintro σ1' σ1 a s1 ⟨H1',H1,C,T,I1,x1,sr1,e1,C',ec,⟨cC,hmC⟩,hn⟩;cases ec;refine BQ I1 pl x1 fun h2 T2 I2 x2=>?_;refine rT I2 pl x2 fun h3 T3 I3 x3=>?_;obtain⟨oe,vs,oT,ts,a0,q1,q2,_⟩:=id x3.fly;refine wpAny_handleBy_cons (codeAny_handlers_test (eE (vQ I3 (.ref a)) hg hm ?_ hdb)) (by intro q;cases q);refine iS (X:=X) I3.kIn cD hmC ⟨oe,q1,q2⟩ ?_;show codeAny _ _ (.handlers (.ref a) [.ExceptHandler none (some n) [.Assign [.Name z zp] (.Name n n2) ap] hp] X.env) _ _;refine codeAny_handlers_suite_as ?_;refine rT (X:=mk X (.ref a)) (vQ I3 (.ref a)) (vh pl _) (T:=T3) (fl:=.none) ⟨x3.fly,x3.ha,x3.hT,x3.na,x3.nT,x3.pin⟩ fun h4 T4 I4 x4=>?_;have I5:=wu I4 x4;refine fK (X:=mk X (.ref a)) (v:=.ref a) I5 hN hi (Or.inl hln) rfl (fun s5 I6=>?_) (.inr hln);have ps:=pf (ud (X:=mk X (.ref a)) (pos:=ap) (i:=j) hN hj (Or.inl hlz) (uj (pos:=n2) hi (Or.inl hln) hnd hncd) hsw (.inr hlz));have hiσ:i<σ1.length:=by rw[I1.len];exact(JE.mp hi).1
  refine tJ (thn (ps pins s5 _ _ { nx:=fun σ6 H6=>σ6=(σ1.set i (some (.ref a))).set j (some (.ref a))/\H6=upd H1 a (.ext (jT a C)),rt:=fun _ _=>False } I6 ⟨.ref a,KI hiσ,rfl,rfl⟩) fun f s6 q=>?_);cases f with
  | next =>
   obtain⟨σ6,H6,I7,rfl,rfl⟩:=q;show wpAny _ X.A (do bindName X.env n .none;unbindBehindTheSuite X.env n hp) _ _ _;refine name_goes (r8 I.ok I7) hN hi hln fun s7 I8=>?_;refine⟨_,_,I8,dr.nx _ _ _ _ (hn a (sr1.hp.free x1.ha)) ?_ (e1.trans (Ev.new x1.ha))⟩;have srn:SR X.K B σ1' (put H1' a (.exc C)) σ1 (upd H1 a (.ext (jT a C))):=sr1.new x1.ha (bj);have r:RP X.K (upd H1 a (.ext (jT a C))) (.ref a) (.ref a):=by simp[RP]
   have sr2:=(srn.set r i).set r j;refine⟨by simp[sr2.len],fun k v' ek=>?_,sr2.hp,sr2.ev⟩;by_cases hk:i=k
   ·subst hk;by_cases hlt:i<σ1'.length
    ·rw[KI (by simpa using hlt)]at ek;cases ek
    ·rw[KJ (by simpa using Nat.le_of_not_lt hlt)]at ek;cases ek
   ·rw[Lg hk]at ek ⊢;exact sr2.loc k v' ek
  | ret v=>obtain⟨_,_,_,_,_,z⟩:=q;exact z.elim
  | brk=>obtain⟨_,_,_,z⟩:=q;exact z.elim
  | cont=>obtain⟨_,_,_,z⟩:=q;exact z.elim
 ·cases f with
  | next=>exact wpAny_execs_nil q
  | ret v=>exact q
  | brk=>exact q
  | cont=>exact q
def y8(K:PySem.W.Frag)(D:Value)(x:PV)(H:PHp)(Q:VK'):Prop:=match x with
 | .ref a=>∃C b,H a=some (.exc C)/\dW K C/\PySem.W.kitOne K (.ref C) D=some b/\Q (.bl b) H
 | _=>False
def nQ(K:PySem.W.Frag)(D:Value)(ta:TE'):TE':=fun σ H Q=>ta σ H fun x H1=>y8 K D x H1 Q
theorem mH(Dv:Value)(hD:∀u,RelV dv u->u=Dv):cf X (.builtin "isinstance") (fun xs H Q=>∃a C b,xs=[.ref a,dv]/\H a=some (.ext (jT a C))/\dW X.K C/\PySem.W.kitOne X.K (.ref C) Dv=some b/\Q (.bl b) H):=by
 intro pins s σ H xs us Q I r h;obtain⟨a,C,b,rfl,ha,c,k,q⟩:=h;obtain⟨u,w',rfl,rx,rc⟩:=vals2 r;have e1:w'=Dv:=hD _ rc;subst e1;cases rx;obtain⟨ph,_,_⟩:=(show bP X.prog X.w H s.heap a (.ext (jT a C))from I.hok a _ ha);exact Ks (tT c) I.kIn ph k (fun z=>nomatch z) fun tk=>⟨.bl b,H,I.tok _,rfl,q⟩
theorem pK{K:PySem.W.Frag}(rd:∀H,RP K H dv' dv){σ:L2.St}{H:Hp}{Q:VK}(h:low K B (nQ K Dv ta) σ H Q) :
  tCB (fun xs H Q=>∃a C b,xs=[.ref a,dv]/\H a=some (.ext (jT a C))/\dW K C/\PySem.W.kitOne K (.ref C) Dv=some b/\Q (.bl b) H) (vT (low K B ta) (vT (tC dv) Fq)) σ H Q:=by
 obtain⟨σ',H',Q',s,h,k⟩:=h;refine⟨σ',H',_,s,h,fun x' H1' x H1 h1 rx s1 e1=>?_⟩;cases x' with
 | ref a =>
  obtain⟨C,b,ea,c,kk,q⟩:=h1;simp only[RP]at rx;subst rx;exact⟨a,C,b,rfl,s1.hp _ _ ea,c,kk,k _ _ _ _ q (by simp[RP]) s1 e1⟩
 | _=>exact h1.elim
theorem bK{pD:Pos}(hm:X.mg x=some (.ref D))(hgD:Gl X x)(hg:Gl X "isinstance")(hi:X.mg "isinstance"=none)(ha:PE' X B e ta)(hdb:(x==("__debug__":Str))=false:=by decide)
  (he:starEach [e,.Name x pD] X.env=(false,eval e X.env)::starEach [.Name x pD] X.env:=by rfl) (he2:starEach [.Name x pD] X.env=(false,eval (.Name x pD) X.env)::starEach [] X.env:=by rfl) (hpl:(backTo pos (starEach [.Name x pD] X.env)).any (·.1)=false:=by rfl) :
  PE' X B (.Call (.Name "isinstance" p) [e,.Name x pD] [] pos) (nQ X.K (.ref D) ta) :=
 aS (cF (mH (dv:=.ref D) (.ref D) fun u r=>r) hg hi Kj (bE ha (bE (pO hgD hm (v:=.ref D) rfl hdb) bY he2) he) (by decide) (by decide) he hpl) fun _ _ _ h=>pK (dv':=.ref D) (fun _=>by simp[RP]) h
theorem wR{pD:Pos}{T:String}(hm:X.mg x=none)(hv:bootBuiltins x=some (.type T))(hgD:Gl X x)(hg:Gl X "isinstance")(hi:X.mg "isinstance"=none)(ha:PE' X B e ta)(hdb:(x==("__debug__":Str))=false:=by decide)(hxn:x≠"__name__":=by decide)
  (he:starEach [e,.Name x pD] X.env=(false,eval e X.env)::starEach [.Name x pD] X.env:=by rfl) (he2:starEach [.Name x pD] X.env=(false,eval (.Name x pD) X.env)::starEach [] X.env:=by rfl) (hpl:(backTo pos (starEach [.Name x pD] X.env)).any (·.1)=false:=by rfl) :
  PE' X B (.Call (.Name "isinstance" p) [e,.Name x pD] [] pos) (nQ X.K (.type T) ta) :=
 aS (cF (mH (dv:=.ty T) (.type T) fun u r=>r) hg hi Kj (bE ha (bE (oY hgD hm hv (v:=.ty T) rfl hxn hdb) bY he2) he) (by decide) (by decide) he hpl) fun _ _ _ h=>pK (dv':=.oth (.ty T)) (fun _=>by simp[RP]) h
end
end
section
def pr(p:Str×Bool):PV:=.tup [.str p.1,.bl p.2]
def told(xs:List (Str×Bool)):List PV:=(xs.filter (·.2)).map fun p=>PV.str p.1
end
section
def IsV(σ:St')(H:PHp)(te:TE')(b:Bool):Prop:=∀Q:VK',Q (.bl b) H->te σ H Q
theorem g4{K:PySem.W.Frag}{σ:St'}(ha:H a=some (.exc C))(c:dW K C)(k:PySem.W.kitOne K (.ref C) D=some b):IsV (some (.ref a)::σ) H (nQ K D (fC 0)) b :=
 fun Q h=>(⟨C,b,ha,c,k,h⟩:y8 K D (.ref a) H Q)
theorem j9(h:IsV σ H te b):IsV σ H (pe te) (!b):=fun Q q=>h _ q
def kq:List (Str×TE')->TA'
 | []=>xy
 |(n,te)::r=>k6 (Ae (k6 (uC (.str n)) (k6 te xy))) (kq r)
def rO(σ:St')(H:PHp):List (Str×TE')->List Bool->Prop
 | [],[]=>True
 |(_,te)::r,b::bs=>IsV σ H te b/\rO σ H r bs
 | _,_=>False
def pairs:List (Str×TE')->List Bool->List PV
 |(n,_)::r,b::bs=>.tup [.str n,.bl b]::pairs r bs
 | _,_=>[]
theorem lI{σ:St'}{H:PHp}:∀{l:List (Str×TE')} {bs:List Bool} {Q:List PV->PHp->Prop},rO σ H l bs->Q (pairs l bs) H->kq l σ H Q
 | [],[],Q,_,q=>q
 |(n,te)::r,b::bs,Q,⟨h,hr⟩,q=>by
  have s2:(2:Nat)≤sizeLine:=ah (by decide);show te σ H fun v H1=>_;refine h _ ?_;refine⟨s2,?_⟩;exact lI (Q:=fun vs H'=>Q (.tup [.str n,.bl b]::vs) H') hr q
theorem pairs_len:∀(l:List (Str×TE')) (bs:List Bool),(pairs l bs).length≤l.length
 | [],bs=>by cases bs<;>simp[pairs]
 | _::_,[]=>by simp[pairs]
 |(n,te)::r,b::bs=>by simpa[pairs]using pairs_len r bs
end
end U
namespace U
theorem len0{P:List Value->Prop}(h:P [])(us:List Value)(hl:us.length=0):P us:=by
 cases us with
 | nil=>exact h
 | cons a r=>exact absurd hl (Nat.succ_ne_zero _)
theorem Eh{P:List Value->Prop}(h:∀a,P [a])(us:List Value)(hl:us.length=1):P us:=by
 cases us with
 | nil=>exact absurd hl.symm (Nat.succ_ne_zero _)
 | cons a r=>exact len0 (P:=fun r=>P (a::r)) (h a) r (Nat.succ.inj hl)
theorem Ef{P:List Value->Prop}(h:∀a b,P [a,b])(us:List Value)(hl:us.length=2):P us:=by
 cases us with
 | nil=>exact absurd hl.symm (Nat.succ_ne_zero _)
 | cons a r=>exact Eh (P:=fun r=>P (a::r)) (h a) r (Nat.succ.inj hl)
theorem EG{P:List Value->Prop}(h:∀a b c,P [a,b,c])(us:List Value)(hl:us.length=3):P us:=by
 cases us with
 | nil=>exact absurd hl.symm (Nat.succ_ne_zero _)
 | cons a r=>exact Ef (P:=fun r=>P (a::r)) (h a) r (Nat.succ.inj hl)
theorem FH{P:List Value->Prop}(h:∀a b c d,P [a,b,c,d])(us:List Value)(hl:us.length=4):P us:=by
 cases us with
 | nil=>exact absurd hl.symm (Nat.succ_ne_zero _)
 | cons a r=>exact EG (P:=fun r=>P (a::r)) (h a) r (Nat.succ.inj hl)
end U
namespace U
open L2
variable {B:Bs}{X:Cx}
end U
namespace L2
section
def cx(X:Cx)(N2:List Str)(scope:Scope)(cl:List (Str×Addr))(s0:Shared)(H0:Hp)(fp:List Addr)(ps:List (Addr×Obj)):Cx :=
 { X with N:=N2,s₀:=s0,H₀:=H0,env:=compEnvC scope cl s0.heap.objs.size X.env,outer:=X.stack,stack:=X.stack,ex:=fp,fn:=fun x=>(cl.lookup x).isNone,pn:=ps,xe:=fun _ _=>False }
def mR(nt:Nat)(js:List Nat)(σ:St):St:=List.replicate nt none++js.map fun j=>(σ[j]?).join
theorem cO{env:Env}:∀{names:List (Str×NameKind)} {x:Str},names.lookup x=some .free ->
  (names.map fun(n,k)=>if (k==NameKind.free&&env.scope.kind==.function&&env.kindOf n==some .cell)then(n,NameKind.cell)else(n,k)).lookup x=some .cell ∨
  (names.map fun(n,k)=>if (k==NameKind.free&&env.scope.kind==.function&&env.kindOf n==some .cell)then(n,NameKind.cell)else(n,k)).lookup x=some .free
 | [],_,h=>by simp at h
 |(n,k)::r,x,h=>by
  have ih:=@cO env r x;show List.lookup x ((if (k==NameKind.free&&env.scope.kind==.function&&env.kindOf n==some .cell)=true then(n,NameKind.cell)else(n,k))::_)=_∨List.lookup x ((if (k==NameKind.free&&env.scope.kind==.function&&env.kindOf n==some .cell)=true then(n,NameKind.cell)else(n,k))::_)=_;cases hx:x==n with
  | true =>
   simp only[Kh,hx]at h;cases h;by_cases hc:(NameKind.free==NameKind.free&&env.scope.kind==.function&&env.kindOf n==some .cell)=true
   ·rw[JL hc];simp[Kh,hx]
   ·rw[JK hc];simp[Kh,hx]
  | false =>
   simp only[Kh,hx]at h;by_cases hc:(k==NameKind.free&&env.scope.kind==.function&&env.kindOf n==some .cell)=true
   ·rw[JL hc];simp only[Kh,hx];exact ih h
   ·rw[JK hc];simp only[Kh,hx];exact ih h
structure bZ (X:Cx) (N2:List Str) (nt:Nat) (js:List Nat) (scope:Scope) (cl:List (Str × Addr)) (sc:Scope):Prop where
 clos:closureFor scope X.env=pure cl
 sub:∀x c,cl.lookup x=some c->X.env.cells.lookup x=some c
 xsc:X.env.scope=sc
 kind:scope.kind=.function
 nocell:∀y∈scope.names,y.2≠.cell
 loc:∀y∈scope.names,y.2=.local->scope.names.lookup y.1=some .local
 has:∀y∈scope.names,y.2=.free->y.1∈cl.map (·.1)
 frs:∀x∈N2.drop nt,scope.names.lookup x=some .free/\sc.names.lookup x=some .cell
 len:N2.length=nt+js.length
 pl:∀(k j:Nat),js[k]?=some j->X.N[j]?=N2[nt+k]?
theorem mem_lookup{α:Type}:∀{l:List (Str×α)} {x:Str},x∈l.map (·.1)->∃c,l.lookup x=some c
 | [],_,h=>by simp at h
 |(n,k)::r,x,h=>by
  cases hx:x==n with
  | true=>exact⟨k,by simp[Kh,hx]⟩
  | false =>
   have h':x=n∨x∈r.map (·.1):=by simpa using h
   have hn:x≠n:=by intro e;subst e;simp at hx
   obtain⟨c,e⟩:=mem_lookup (h'.resolve_left hn);exact⟨c,by simp[Kh,hx,e]⟩
theorem lookup_mem{α:Type}:∀{l:List (Str×α)} {x:Str} {c:α},l.lookup x=some c->(x,c)∈l
 | [],_,_,h=>by simp at h
 |(n,k)::r,x,c,h=>by
  cases hx:x==n with
  | true =>
   simp only[Kh,hx]at h;have e:x=n:=by simpa using hx
   cases h;subst e;exact Jw
  | false =>
   simp only[Kh,hx]at h;exact Jz _ (lookup_mem h)
section
variable {X:Cx}{pins:List (Addr×Obj)}{σ:St}{H:Hp}{s:Shared}{N2:List Str}{nt:Nat}{js:List Nat}{scope sc:Scope}{cl:List (Str×Addr)}{fp:List Addr}
theorem bZ.kindOf(O:bZ X N2 nt js scope cl sc){x:Str}{C:Addr}(h:(compEnvC scope cl C X.env).kindOf x=some .cell∨(compEnvC scope cl C X.env).kindOf x=some .free):∃c,cl.lookup x=some c:=by
 have h':(relabel scope X.env).names.lookup x=some .cell∨(relabel scope X.env).names.lookup x=some .free:=h;have key:∀(k:NameKind),(relabel scope X.env).names.lookup x=some k->(k=.cell∨k=.free)->∃y∈scope.names,y.1=x/\(y.2=.cell∨y.2=.free):=fun k e hk=>by
  have m:=lookup_mem e;obtain⟨⟨n,k'⟩,hm,e'⟩:=Jp.mp m;by_cases hc:(k'==NameKind.free&&X.env.scope.kind==.function&&X.env.kindOf n==some .cell)=true
  ·simp only[hc,if_true]at e';have e1:n=x:=congrArg Prod.fst e';refine⟨(n,k'),hm,e1,.inr ?_⟩;rw[KO,KO]at hc;exact Lb.mp hc.1.1
  ·have e'':(n,k')=(x,k):=by
    dsimp only at e';rw[JK hc]at e';exact e'
   cases e'';exact⟨(x,k),hm,rfl,hk⟩
 obtain⟨y,hy,rfl,hk⟩:=h'.elim (fun e=>key _ e (.inl rfl)) fun e=>key _ e (.inr rfl);rcases hk with hk | hk
 ·exact absurd hk (O.nocell y hy)
 ·exact mem_lookup (O.has y hy hk)
theorem rC(O:bZ X N2 nt js scope cl sc)(I:Inv X pins σ H s)(hf:∀b∈fp,fq X pins H b)(hlt:∀b∈fp,b<s.heap.objs.size):(cx X N2 scope cl s H fp (X.pn++pins)).Ok where
 mod:=I.ok.mod
 kind:=O.kind
 glob:=I.ok.glob
 blt:=I.ok.blt
 above:=Jy _
 inj:=fun x y c h1 h2=>I.ok.inj x y c (O.sub x c h1) (O.sub y c h2)
 has:=fun x h=>O.kindOf h
 cab:=fun x c h1 h2=>by
  have h1':(cl.lookup x).isNone=true:=h1;have h2':cl.lookup x=some c:=h2;rw[h2']at h1';cases h1'
 hd:=I.ok.hd
 frames:=I.ok.frames
 stk:=.inl rfl
 exf:=fun b hb=>⟨JG (hlt b hb),fun x c e=>(hf b hb).2.2.2.2.1 x c (O.sub x c e)⟩
 bs:=I.bs
 bsz:=JY I.ok.bsz I.sz
 noex:=fun b o e hb=>by
  obtain⟨_,_,_,h3,_⟩:=hf b hb;rcases h3 with h3 | h3
  ·exact I.ok.noex b o e h3
  ·exact absurd (JP (Jv (I.ok.bs b o e).1) h3) (Lm _)
 exfs:=fun b hb hs=>by
  obtain⟨_,h1,h2,_⟩:=hf b hb;rcases JD.mp (I.stkSub b hs)with e | e
  ·exact h1 e
  ·exact h2 e
 funs:=I.stack
 frf:=I.stkFree
theorem nK(O:bZ X N2 nt js scope cl sc)(I:Inv X pins σ H s)(hf:∀b∈fp,fq X pins H b)(hlt:∀b∈fp,b<s.heap.objs.size){h4:Heap}{t4:Nat}(hn:h4.Ns s.heap.objs.size fun _=>none)
  (hk:∀b o,s.heap.get? b=some o->h4.get? b=some o):Inv (cx X N2 scope cl s H fp (X.pn++pins)) [] (mR nt js σ) H { s with heap:=h4,toks:=t4 }:=by
 refine⟨rC O I hf hlt,rfl,I.bare,Un.kept hk,⟨_,hn,fun i x v e1 e2 e3=>?_⟩,fun x c e=>?_,I.hok.fresh (Jy _),fun x c e=>I.freeC x c (O.sub x c e),fun p hp=>?_,I.hok.kept hk,?_⟩
 ·unfold mR at e2;by_cases hi:i<nt
  ·rw[K8 (by simpa using hi),List.getElem?_replicate]at e2;split at e2<;>cases e2
  ·obtain⟨k,rfl⟩:∃k,i=nt+k:=⟨i - nt,by symm⟩;rw[List.getElem?_append_right (by simp),KY,Nat.add_sub_cancel_left,JI]at e2;cases ej:js[k]? with
   | none=>rw[ej]at e2;cases e2
   | some j =>
    rw[ej]at e2;have e2':(σ[j]?).join=some v:=JT e2;have eσ:σ[j]?=some (some v):=by
     cases q:σ[j]? with
     | none=>rw[q]at e2';cases e2'
     | some o=>rw[q]at e2';exact congrArg some e2'
    have eN:X.N[j]?=some x:=(O.pl k j ej).trans e1;have hx:x∈N2.drop nt:=by
     have:(N2.drop nt)[k]?=some x:=by rw[List.getElem?_drop];exact e1
     exact JH this
    obtain⟨f1,f2⟩:=O.frs x hx;have vis:Vis X.env.scope x:=.inr (.inl (by rw[O.xsc];exact f2));obtain⟨m,hnX,hl⟩:=I.loc;obtain⟨u,r,l⟩:=hl j x v eN eσ vis;refine⟨u,r,.inr ⟨?_,?_⟩⟩
    ·exact cO f1
    ·rcases l with⟨k1,_⟩ |⟨_,c,ec,ic⟩
     ·have k2:sc.names.lookup x=some .local:=by rw[←O.xsc];exact k1
      rw[f2]at k2;cases k2
     ·obtain⟨c',ec'⟩:=mem_lookup (O.has (x,.free) (lookup_mem f1) rfl);have:=O.sub x c' ec';rw[ec]at this;cases this;obtain⟨o,ho,hd⟩:=ic;exact⟨c,ec',o,hk _ _ ho,hd⟩
 ·obtain⟨v,o,ho,hd⟩:=I.cell x c (O.sub x c e);exact⟨v,o,hk _ _ ho,hd⟩
 ·have hp':p∈X.pn++pins:=by
   have hp2:p∈(X.pn++pins)++[]:=hp
   rwa [JQ]at hp2
  obtain⟨e,n,ne,nf,d⟩:=I.pin p hp';refine⟨hk _ _ e,n,JG (Jv e),fun hb=>?_,d⟩;rcases JD.mp (I.stkSub p.1 hb)with z | z
  ·exact ne z
  ·exact nf z
 ·unfold mR;show _=N2.length;rw[Jr,KY,Jl,O.len]
theorem tX{σ':St}(I:Inv X pins σ H s)(hf:∀b∈fp,fq X pins H b)(J:Inv (cx X N2 scope cl s H fp (X.pn++pins)) pl σ' H' s'):Inv X pins σ H' s' :=
 I.call' (ch:=fp) J.os J.base J.hok J.bare fun b hb=>by
  obtain⟨h0,h1,h2,h3,h4,h5⟩:=hf b hb;exact⟨h3,h1,h4,h5⟩
end
end
section
def PIf(Y:Cx)(ifs:List Expr)(t:TT):Prop :=
 ∀(pins:List (Addr×Obj)) (s:Shared) (σ:St) (H:Hp) (Q:Bool->Hp->Prop),Inv Y pins σ H s->t σ H Q ->
  wpAny (model Y.prog Y.w) Y.A (forIn ifs true fun c r=>if r=true then do let ok←isTrue c Y.env (eval c Y.env);pure (ForInStep.yield ok)else pure (ForInStep.yield r)) (TP Y pins σ Q) Y.xe s
def FF:TT:=fun _ H Q=>Q true H
theorem wC:PIf Y [] FF:=fun _ _ _ H _ I h=>wpAny_tests_nil ⟨H,I,h⟩
theorem yi(h:PT Y c t):PIf Y [c] t:=fun pins s σ H Q I hw=>wpAny_tests_one (h pins s σ H Q I hw)
def zN(acc:Addr)(J:It)(g:TG)(tt:TT)(te:TE)(W:Nat->Nat->L2.St->Hp->Prop)(i m:Nat)(σ0:L2.St)(H:Hp):Prop :=
 J.go i H/\∀x H',J.yld i H x H'->g x σ0 H' fun σ3 H2=>tt σ3 H2 fun b H3 =>
  if b=true then te σ3 H3 fun y H4=>∃ys,H4 acc=some (.lst ys)/\ys.length<sizeLine/\∃m',m'<m/\W (i+1) m' σ3 (upd H4 acc (.lst (ys++[y])))
  else ∃m',m'<m/\W (i+1) m' σ3 H3
def sX(nt:Nat)(js:List Nat)(wi:TI)(g:TG)(tt:TT)(te:TE):TE:=fun σ H Q=>wi σ H fun J H1=>∀acc,H1 acc=none ->
 ∃W:Nat->Nat->L2.St->Hp->Prop,(∃m,W 0 m (mR nt js σ) (upd H1 acc (.lst [])))/\∀i m σ0 H,W i m σ0 H->(J.stop i H/\Q (.ref acc) H)∨zN acc J g tt te W i m σ0 H
structure t9 (Y:Cx) (tg:Expr) (ifs:List Expr) (elt:Expr) (g:TG) (tt:TT) (te:TE):Prop where
 tgt:PG Y tg g
 tst:PIf Y ifs tt
 elt:PE Y elt te
theorem jZ(I:Nat->Shared->Prop)
  (turn:∀n s,I n s->wpAny (model prog w) A (pyNext it) (fun r s₁=>match r with
   | none=>R (.ok .next) s₁
   | some v=>wpAny (model prog w) A (letOwnedTupleGo target it v) (fun _ s₀=>wpAny (model prog w) A (assign target env v) (fun _ s₂ =>
     wpAny (model prog w) A (forIn ifs true fun c r=>if r=true then do let ok←isTrue c env (eval c env);pure (ForInStep.yield ok)else pure (ForInStep.yield r)) (fun ok s₃ =>
      if ok=true then wpAny (model prog w) A (eval elt env) (fun x s₄ =>
       wpAny (model prog w) A (call (.builtin "list.append") [acc,x]) (fun _ s₅=>∃m,m<n/\I m s₅) (fun _ _=>False) s₄) (fun _ _=>False) s₃
      else ∃m,m<n/\I m s₃) (fun _ _=>False) s₂) (fun _ _=>False) s₀) (fun _ _=>False) s₁) (fun _ _=>False) s)
  (n:Nat) (h:I n s) :
  codeAny (model prog w) A (.compLoop (.ListComp elt [⟨target,iter,ifs,0⟩] scope pos) 0 it acc env) R s:=by
 refine codeAny_loop rfl I (fun n s hI=>?_) n h;show wpAny _ A ((compTurn (.ListComp elt [⟨target,iter,ifs,0⟩] scope pos) 0 it acc env).onRaise (fun x=>do noteFrame x env;theTreesLotGoes x)) _ _ s;refine wpAny_noted ?_;rw[compTurn_list];refine Jm (wpAny_standAt (Jm (Li (turn n s hI) (fun r s₁ h₁=>?_) fun _ _ h'=>h'.elim)));cases r with
 | none=>exact Jq h₁
 | some v =>
  refine Jm (Li h₁ (fun _ s₀ h₀=>?_) fun _ _ h'=>h'.elim);refine Jm (Li h₀ (fun _ s₂ h₂=>Jm (Li h₂ (fun ok s₃ h₃=>?_) fun _ _ h'=>h'.elim)) fun _ _ h'=>h'.elim);cases ok with
  | false=>exact Jq ⟨rfl,h₃⟩
  | true =>
   exact Jm (Jm (Li h₃ (fun x s₄ h₄=>Jm (Li h₄ (fun _ s₅ h₅=>Jq (Jq ⟨rfl,h₅⟩)) fun _ _ h'=>h'.elim)) fun _ _ h'=>h'.elim))
section
variable {X:Cx}{pins:List (Addr×Obj)}{σ:St}{H:Hp}{s:Shared}{N2:List Str}{nt:Nat}{js:List Nat}{scope sc:Scope}{cl:List (Str×Addr)}{fp:List Addr}{elt iter tg:Expr}{ifs:List Expr}{pos:Pos}
 {wi:TI} {g:TG} {tt:TT} {te:TE}
theorem m3(O:bZ X N2 nt js scope cl sc)(hc:X.calm=true)(B:∀(s0:Shared) (H0:Hp) (fp:List Addr) (ps:List (Addr×Obj)),t9 (cx X N2 scope cl s0 H0 fp ps) tg ifs elt g tt te)
  {it:Addr} {tn:Nat->Heap->Prop} {J:It} {E:Value->Shared->Prop} {Q:VK} {RR:Value->Addr->Result->Shared->Prop}
  (I:Inv X pins σ H s) (T:Turn X.prog X.w X.K tg J fp it tn) (st:tn 0 s.heap) (hf:∀b∈fp,fq X pins H b)
  (h:∀acc,H acc=none->∃W:Nat->Nat->L2.St->Hp->Prop,(∃m,W 0 m (mR nt js σ) (upd H acc (.lst [])))/\∀i m σ0 H,W i m σ0 H->(J.stop i H/\Q (.ref acc) H)∨zN acc J g tt te W i m σ0 H)
  (hRR:∀(acc C:Addr) (s':Shared) (H':Hp) (m:Str->Option Value),s'.heap.Ns C m->Inv X pins σ H' s'->H' C=none->C≠X.env.locals->X.s₀.heap.objs.size≤C->(∀x c,X.env.cells.lookup x=some c->c≠C)->(∀p∈X.pn++pins,p.1≠C)->Q (.ref acc) H'->RR (.ref acc) C (.ok .next) s') :
  wpAny (model X.prog X.w) X.A (newList []) (fun acc s₃=>wpAny (model X.prog X.w) X.A (newFunctionEnv scope X.env.globals cl [] X.env.qual none .none (some X.env)) (fun cenv s₄ =>
   codeAny (model X.prog X.w) X.A (.compStart (.ListComp elt [⟨tg,iter,ifs,0⟩] scope pos) 0 (.ref it) acc { cenv with scope:=relabel scope X.env }) (RR acc cenv.locals) s₄) E s₃) E s:=by
 have hlt:∀b∈fp,b<s.heap.objs.size:=fun b hb=>by
  obtain⟨o,e,_⟩:=T.obj _ _ st b hb;exact Jv e
 have hnA:H s.heap.objs.size=none:=I.hok.fresh (Jy _);obtain⟨W,⟨m0,w0⟩,turn⟩:=h s.heap.objs.size hnA;refine J8 (wpAny_newFunctionEnv O.nocell (by intro y hy;simp at hy) (fun h₁ hns₁ hsb₁=>?_) O.kind);dsimp only at hns₁ hsb₁ ⊢;have I3:Inv X pins σ (upd H s.heap.objs.size (.lst [])) { s with heap:=s.heap.push { cls:=.type "list",dict:=none,data:=.seq ([]:List Value).toArray } } :=
  I.laid (t':=s.toks) (fun b u e=>Js _ e) (Jy _) ⟨by show 0≤sizeLine;exact K1 _,[],0,.nil,JA _ rfl⟩
 generalize hs3:({ s with heap:=s.heap.push { cls:=.type "list",dict:=none,data:=.seq ([]:List Value).toArray } }:Shared)=s3 at I3;have e3:s3.heap=s.heap.push { cls:=.type "list",dict:=none,data:=.seq ([]:List Value).toArray }:=by rw[←hs3]
 rw[←e3]at hns₁ hsb₁ ⊢;have et:s3.toks=s.toks:=by rw[←hs3]
 have hf3:∀b∈fp,fq X pins (upd H s.heap.objs.size (.lst [])) b:=fun b hb=>by
  obtain⟨f0,f⟩:=hf b hb;exact⟨by rw[aM (JG (hlt b hb))];exact f0,f⟩
 have hlt3:∀b∈fp,b<s3.heap.objs.size:=fun b hb=>by rw[e3,LC];exact KU (hlt b hb)
 have hk4:∀b o,s3.heap.get? b=some o->h₁.get? b=some o:=fun b o e=>hsb₁.extBut b o (JG (Jv e)) (Js _ e);have hns':h₁.Ns s3.heap.objs.size fun _=>none:=hns₁;have I4:=nK (t4:=s3.toks+([]:List (Str×Value)).length) O I3 hf3 hlt3 hns' hk4;have st4:tn 0 h₁:=T.keep _ _ _ st fun b hb o e=>hk4 b o (by rw[e3];exact Js _ e);have B4:=B s3 (upd H s.heap.objs.size (.lst [])) fp (X.pn++pins);generalize hY:cx X N2 scope cl s3 (upd H s.heap.objs.size (.lst [])) fp (X.pn++pins)=Y at I4 B4;have yP:Y.prog=X.prog:=by rw[←hY];rfl
 have yw:Y.w=X.w:=by rw[←hY];rfl
 have yK:Y.K=X.K:=by rw[←hY];rfl
 have yA:Y.A=X.A:=by rw[←hY];rfl
 have yc:Y.calm=true:=by rw[←hY];exact hc
 have yx:Y.xe=fun _ _=>False:=by rw[←hY];rfl
 have ye:Y.env=compEnvC scope cl s3.heap.objs.size X.env:=by rw[←hY];rfl
 have fpY:∀{H':Hp},(∀b∈fp,H' b=none)->∀b∈fp,fq Y [] H' b:=fun hn b hb=>by
  obtain⟨f0,f1,f2,f3,f4,f5⟩:=hf3 b hb;rw[←hY];refine⟨hn b hb,JG (hlt3 b hb),fun hs=>?_,.inl hb,fun x c e=>f4 x c (O.sub x c e),fun p hp=>?_⟩
  ·rcases JD.mp (I3.stkSub b hs)with e | e
   ·exact f1 e
   ·exact f2 e
  ·have hp2:p∈(X.pn++pins)++[]:=hp;rw[JQ]at hp2;exact f5 p hp2
 have fin:∀{σ':St} {H':Hp} {s':Shared} {pl:List (Addr×Obj)},Inv Y pl σ' H' s'->Q (.ref s.heap.objs.size) H'->RR (.ref s.heap.objs.size) s3.heap.objs.size (.ok .next) s':=fun {σ' H' s' pl} I' q=>by
  have J':Inv X pins σ H' s':=tX I3 hf3 (hY▸I');obtain⟨m,hn,_⟩:=I'.loc;have hfr:=I'.free;rw[ye]at hn hfr;refine hRR _ _ s' H' m hn J' hfr (LD I3.lt) I3.sz (fun x c e z=>?_) (fun p hp z=>?_) q
  ·obtain⟨v,q⟩:=I3.cell x c e;exact absurd (JP q.lt (by rw[z];exact Jy _)) (Lm _)
  ·exact absurd (JP (Jv (I3.pin p hp).1) (by rw[z];exact Jy _)) (Lm _)
 have loop:∀s4:Shared,s4={ s3 with heap:=h₁,toks:=s3.toks+([]:List (Str×Value)).length } ->
   codeAny (model X.prog X.w) X.A (.compLoop (.ListComp elt [⟨tg,iter,ifs,0⟩] scope pos) 0 (.ref it) (.ref s.heap.objs.size) (compEnvC scope cl s3.heap.objs.size X.env)) (RR (.ref s.heap.objs.size) s3.heap.objs.size) s4:=by
  rintro s4 rfl;refine jZ (fun n s'=>∃i σ0 H',Inv Y [] σ0 H' s'/\tn i s'.heap/\(∀b∈fp,H' b=none)/\W i n σ0 H') ?_ m0
   ⟨0,_,_,I4,st4,fun b hb=>(hf3 b hb).1,w0⟩
  rintro n s5 ⟨i,σ5,H5,I5,st5,fr5,w5⟩;rcases turn i n σ5 H5 w5 with⟨stop,q⟩ |⟨go,step⟩
  ·have r:=T.done Y yP yw yK yc i [] s5 _ H5 (fun _ _=>False) I5 (fpY fr5) st5 stop;rw[yA]at r;refine thn r fun r s6 y_=>?_;obtain⟨hr,I6⟩:=y_;subst hr;exact fin I6 q
  ·have r:=T.item Y yP yw yK yc i [] s5 _ H5 (fun _ _=>False) I5 (fpY fr5) st5 go;rw[yA]at r;refine thn r fun r s6 y_=>?_;obtain⟨u,hr,h6⟩:=y_;subst hr;refine thn h6 fun _ s7 y_=>?_;obtain⟨x,H7,I7,r7,y7,st7,fr7⟩:=y_;have I7':=I7.pinned (fpY fr7) (T.obj _ _ st7);have r:=B4.tgt _ s7 _ H7 x u _ I7' r7 (step x H7 y7);rw[yP,yw,yA,yx,ye]at r;refine thn r fun _ s8 y_=>?_;obtain⟨σ8,H8,I8,q8⟩:=y_;have r:=B4.tst _ s8 σ8 H8 _ I8 q8;rw[yP,yw,yA,yx,ye]at r;refine thn r fun ok s9 y_=>?_;obtain⟨H9,I9,q9⟩:=y_;have back:∀{s':Shared} {H':Hp},Inv Y ([]++iF fp s7.heap) σ8 H' s'->(Inv Y [] σ8 H' s'/\tn (i+1) s'.heap/\∀b∈fp,H' b=none):=fun {s' H'} I'=>by
    refine⟨I'.unpinned,T.keep _ _ _ st7 fun b hb o e=>(I'.pin (b,o) (JM _ (JM _ (dQ hb e)))).1,fun b hb=>?_⟩;obtain⟨o,e,d⟩:=T.obj _ _ st7 b hb;exact(I'.pin (b,o) (JM _ (JM _ (dQ hb e)))).2.1
   cases ok with
   | false =>
    have q9':∃m',m'<n/\W (i+1) m' σ8 H9:=q9;obtain⟨m',hm,w9⟩:=q9';obtain⟨b1,b2,b3⟩:=back I9;show ∃m,m<n/\_;exact⟨m',hm,i+1,σ8,H9,b1,b2,b3,w9⟩
   | true =>
    have q9':te σ8 H9 fun y H4=>∃ys,H4 s.heap.objs.size=some (.lst ys)/\ys.length<sizeLine/\∃m',m'<n/\W (i+1) m' σ8 (upd H4 s.heap.objs.size (.lst (ys++[y]))):=q9;have r:=B4.elt _ s9 σ8 H9 _ I9 q9';rw[yP,yw,yA,yx,ye]at r;show wpAny _ _ (eval elt _) _ _ s9;refine thn r fun y s10 y_=>?_;obtain⟨yv,H10,I10,r10,q10⟩:=y_;obtain⟨ys,a1,a2,m',hm,w10⟩:=q10;have r:=bU (X:=Y) _ s10 σ8 H10 (.ref s.heap.objs.size) [yv] (.ref s.heap.objs.size) [y] (fun _ H'=>H'=upd H10 s.heap.objs.size (.lst (ys++[yv]))) I10 rfl (.cons r10 .nil) ⟨_,ys,yv,rfl,rfl,a1,a2,rfl⟩;rw[yP,yw,yA,yx]at r;refine thn r fun _ s11 y_=>?_;obtain⟨_,H11,I11,_,e11⟩:=y_;subst e11;obtain⟨b1,b2,b3⟩:=back I11;exact⟨m',hm,i+1,σ8,_,b1,b2,b3,w10⟩
 have st4':tn 0 ({ s3 with heap:=h₁,toks:=s3.toks+([]:List (Str×Value)).length }:Shared).heap:=st4;have hs4:({ s with heap:=h₁,toks:=s.toks+([]:List (Str×Value)).length }:Shared)={ s3 with heap:=h₁,toks:=s3.toks+([]:List (Str×Value)).length }:=by rw[←hs3]
 exact codeAny_compStart_list (loop _ hs4) (T.self _ 0 _ _ _ st4 (loop _ hs4))
theorem sH(O:bZ X N2 nt js scope cl sc)(hc:X.calm=true)(hi:PI X tg iter wi)(B:∀(s0:Shared) (H0:Hp) (fp:List Addr) (ps:List (Addr×Obj)),t9 (cx X N2 scope cl s0 H0 fp ps) tg ifs elt g tt te)
  (hs:∀x,foldedSetIterable iter X.env x=pure x:=by intro _;rfl):PE X (.ListComp elt [⟨tg,iter,ifs,0⟩] scope pos) (sX nt js wi g tt te):=by
 intro pins s σ H Q I h;rw[eval_ListComp];refine wpAny_comprehension_free (use:=none) rfl hs O.clos O.kind O.loc (thn (hi pins s σ H _ I h) fun xv s1 h1=>thn h1 fun itv s2 h2=>?_);obtain⟨it,fp,tn,J,H2,e,I2,T,st2,f2,q⟩:=h2;subst e;refine m3 (RR:=fun acc C=>compPost (model X.prog X.w) X.A X.xe none (EP X pins σ Q) acc C) O hc B I2 T st2 f2 q ?_;intro acc C s' H' m hn J' c1 c2 c3 c4 c5 q';refine⟨m,hn,fun h' hsb=>⟨.ref acc,H',?_,rfl,q'⟩⟩;exact J'.turned (t':=s'.toks) (fun b o hb e=>hsb.extBut b o hb e) c1 (Ne.symm c2 |> fun z=>fun y=>z y.symm) (.inr c3) c4 c5
theorem v5{i:Nat}{y:Str}{py spos:Pos}(hN:X.N.Nodup)(hy:X.N[i]?=some y)(hl:Loc X.env.scope y)(O:bZ X N2 nt js scope cl sc)(hc:X.calm=true)(hi:PI X tg iter wi)
  (B:∀(s0:Shared) (H0:Hp) (fp:List Addr) (ps:List (Addr×Obj)),t9 (cx X N2 scope cl s0 H0 fp ps) tg ifs elt g tt te)
  (hsw:swapsWith (.ListComp elt [⟨tg,iter,ifs,0⟩] scope pos) (some (.Name y py)) spos.line X.env=pure true:=by rfl)
  (hs:∀x,foldedSetIterable iter X.env x=pure x:=by intro _;rfl) (hfn:X.fn y=true∨X.env.scope.names.lookup y=some .local:=by first | exact .inl rfl | exact .inr rfl | assumption) :
  PS X (.Assign [.Name y py] (.ListComp elt [⟨tg,iter,ifs,0⟩] scope pos) spos) (yg (sX nt js wi g tt te) (pY i)):=by
 intro pins s σ H D I h;rw[exec_Assign_Name_used _ _ _ _ hsw];refine Jm (wpAny_standAt (Jm ?_));show wpAny _ X.A (do let _←comprehension (.ListComp elt [⟨tg,iter,ifs,0⟩] scope pos) scope X.env _ (newList []) false (eval iter X.env) (some (assign (.Name y py) X.env))) _ _ s;refine Jm (Li (wpAny_comprehension_free (use:=some (assign (.Name y py) X.env)) (Q:=fun _ s'=>SP X pins D .next s') rfl hs O.clos O.kind O.loc
  (thn (hi pins s σ H _ I h) fun xv s1 h1=>thn h1 fun itv s2 h2=>?_)) (fun _ s' hq=>Jq (Jq hq)) fun _ _ e=>e)
 obtain⟨it,fp,tn,J,H2,e,I2,T,st2,f2,q⟩:=h2;subst e;refine m3 (Q:=fun v H1=>pY i v σ H1 D.nx) (RR:=fun acc C=>compPost (model X.prog X.w) X.A X.xe (some (assign (.Name y py) X.env)) (fun _ s'=>SP X pins D .next s') acc C) O hc B I2 T st2 f2 q ?_;intro acc C s' H' m hn J' c1 c2 c3 c4 c5 q';show wpAny _ X.A (assign (.Name y py) X.env (.ref acc)) _ _ _;refine wpAny_assign_Name (ju (v:=.ref acc) J' hN hy hl rfl (fun s2 I2' ⟨a,sb,ha⟩=>?_) hfn);have hCa:C≠a:=by
  rcases ha with ha | ha
  ·rw[ha];exact c2
  ·exact fun z=>c4 y a ha z.symm
 refine⟨m,hn.sameBut sb hCa,fun h' hsb=>⟨_,H',?_,q'⟩⟩;exact I2'.turned (t':=s2.toks) (fun b o hb e=>hsb.extBut b o hb e) c1 c2 (.inr c3) c4 c5
end
end
end L2
namespace U
open L2
section
variable {B:Bs}{X:Cx}{pos:Pos}
def wM(nt:Nat)(js:List Nat)(σ:St'):St':=List.replicate nt none++js.map fun j=>(σ[j]?).join
theorem SR.sig{K:PySem.W.Frag}(s:SR K B σ' H' σ H)(nt:Nat)(js:List Nat):SR K B (wM nt js σ') H' (mR nt js σ) H:=by
 refine⟨by simp[wM,mR],fun i v' e=>?_,s.hp,s.ev⟩;unfold wM at e;unfold mR;by_cases hi:i<nt
 ·rw[K8 (by simpa using hi),List.getElem?_replicate]at e;split at e<;>cases e
 ·rw[List.getElem?_append_right (by simp;symm),KY,JI]at e ⊢;cases ej:js[i - nt]? with
  | none=>rw[ej]at e;cases e
  | some j =>
   rw[ej]at e;have e2:(σ'[j]?).join=some v':=JT e;cases q:σ'[j]? with
   | none=>rw[q]at e2;cases e2
   | some o =>
    rw[q]at e2;have e3:σ'[j]?=some (some v'):=by rw[q];exact congrArg some e2
    obtain⟨v,a,b⟩:=s.loc j v' e3;exact⟨v,by show some ((σ[j]?).join)=_;rw[a];rfl,b⟩
def cp(ok:PHp->Prop)(g:TG')(tt:TT')(te:TE')(acc:Addr)(Q:VK'):List PV->St'->PHp->Prop
 | [],σ,H=>ok H/\Q (.ref acc) H
 | x::r,σ,H=>ok H/\g x σ H fun σ3 H2=>tt σ3 H2 fun b H3=>cif b (te σ3 H3 fun y H4=>∃l,H4 acc=some (.lst l)/\l.length<sizeLine/\cp ok g tt te acc Q r σ3 (put H4 acc (.lst (l++[y])))) (cp ok g tt te acc Q r σ3 H3)
def gA(nt:Nat)(js:List Nat)(wi:TI')(g:TG')(tt:TT')(te:TE'):TE':=fun σ H Q=>wi σ H fun J H1=>∀acc,H1 acc=none->cp J.ok g tt te acc Q J.items (wM nt js σ) (put H1 acc (.lst []))
def Cf(Y:Cx)(B:Bs)(ifs:List Expr)(t:TT'):Prop:=PIf Y ifs (nP Y.K B t)
def Cy:TT':=fun _ H Q=>Q true H
theorem bx:Cf Y B [] Cy:=fun pins s σ H Q I ⟨σ',H',Q',sr,h,k⟩=>wC pins s σ H Q I (k true H' H h sr (Ev.refl _ _))
theorem aZ(h:PT' Y B c t):Cf Y B [c] t:=yi h
theorem jm{K:PySem.W.Frag}(h:low K B (gA nt js wi g tt te) σ H Q) :
  sX nt js (zE K B wi) (lowG K B g) (nP K B tt) (low K B te) σ H Q:=by
 obtain⟨σ',H',Q',s,h,k⟩:=h;refine⟨σ',H',_,s,h,fun J' H1' J H1 h1 wk s1 e1 acc ha=>?_⟩;have h1:=h1 acc (s1.hp.free ha);have sn:SR K B σ' (put H1' acc (.lst [])) σ (upd H1 acc (.lst [])):=s1.new ha ⟨[],bj,RPs.nil _⟩;have en:Ev H1' H1 (put H1' acc (.lst [])) (upd H1 acc (.lst [])):=Ev.new ha;refine⟨fun i m σ2 H2=>i≤J'.items.length/\m=J'.items.length - i/\∃σ2' H2',SR K B σ2' H2' σ2 H2/\SR K B σ' H2' σ H2/\Ev H1' H1 H2' H2/\cp J'.ok g tt te acc Q' (J'.items.drop i) σ2' H2',
  ⟨J'.items.length,K1 _,by simp,_,_,sn.sig nt js,sn,en,h1⟩,?_⟩
 rintro i m σ2 H2 ⟨hi,rfl,σ2',H2',s2,so,e2,h2⟩;have k2:=e2.kp s1.hp;by_cases hlt:i<J'.items.length
 ·obtain⟨x',hx⟩:∃x',J'.items[i]?=some x':=⟨_,Jo hlt⟩;have hd:J'.items.drop i=x'::J'.items.drop (i+1):=by
   rw[List.drop_eq_getElem_cons hlt];rw[Jo hlt]at hx;cases hx;rfl
  rw[hd]at h2;obtain⟨ok2,h2⟩:=(show J'.ok H2'/\_ from h2);refine .inr ⟨wk.go H2' H2 i k2 s2.hp ok2 hlt,fun x H3 y=>?_⟩;obtain⟨hr3,ev3,rx⟩:=wk.yld H2' H2 i x H3 k2 s2.hp ok2 y;have s2b:=s2.kp ev3 hr3;have sob:=so.kp ev3 hr3;have e2b:=e2.trans ev3;refine⟨x',σ2',H2',_,rx x' hx,s2b,h2,fun σ3' H3' σ3 H3 h3 s3 e3=>⟨σ3',H3',_,s3,h3,fun b H4' H4 h4 s4 e4=>?_⟩⟩;cases b with
  | false =>
   have e24:=e3.trans e4;exact kf ⟨J'.items.length - (i+1),by symm,hlt,rfl,σ3',H4',s4,sob.kp e24 s4.hp,e2b.trans e24,h4⟩
  | true =>
   refine j3 ⟨σ3',H4',_,s4,h4,fun y' H5' y H5 h5 ry5 s5 e5=>?_⟩;obtain⟨l,a1,a2,h5⟩:=h5;have e25:=(e3.trans e4).trans e5;obtain⟨us,q1,q2⟩:=s5.hp _ _ a1;have wr:=wrL s5.hp a1 (RPs.append _ q2 (RPs.cons _ ry5 (RPs.nil _)));refine⟨us,q1,by rw[RPs.length _ q2];exact a2,J'.items.length - (i+1),by symm,hlt,rfl,σ3',_,s5.wr a1 wr,(sob.kp e25 s5.hp).wr a1 wr,(e2b.trans e25).trans (Ev.wr a1),h5⟩
 ·have hi':i=J'.items.length:=by symm
  subst hi';rw[List.drop_length]at h2;obtain⟨ok2,h2⟩:=(show J'.ok H2'/\_ from h2);exact .inl ⟨wk.stop H2' H2 k2 s2.hp ok2,k _ _ _ _ h2 (by simp[RP]) so (e1.trans e2)⟩
section
variable {N2:List Str}{nt:Nat}{js:List Nat}{scope sc:Scope}{cl:List (Str×Addr)}{elt iter tg:Expr}{ifs:List Expr}{wi:TI'}{g:TG'}{tt:TT'}{te:TE'}
structure gr (Y:Cx) (B:Bs) (tg:Expr) (ifs:List Expr) (elt:Expr) (g:TG') (tt:TT') (te:TE'):Prop where
 tgt:PG' Y B tg g
 tst:Cf Y B ifs tt
 elt:PE' Y B elt te
theorem kR(O:bZ X N2 nt js scope cl sc)(hc:X.calm=true)(hi:PIH X B tg iter wi)(b:∀(s0:Shared) (H0:Hp) (fp:List Addr) (ps:List (Addr×Obj)),gr (cx X N2 scope cl s0 H0 fp ps) B tg ifs elt g tt te)
  (hs:∀x,foldedSetIterable iter X.env x=pure x:=by intro _;rfl):PE' X B (.ListComp elt [⟨tg,iter,ifs,0⟩] scope pos) (gA nt js wi g tt te) :=
 aS (sH (g:=lowG X.K B g) (tt:=nP X.K B tt) (te:=low X.K B te) O hc hi (fun s0 H0 fp ps=>⟨(b s0 H0 fp ps).tgt,(b s0 H0 fp ps).tst,(b s0 H0 fp ps).elt⟩) hs) fun _ _ _ h=>jm h
theorem yJ(O:bZ X N2 nt js scope cl sc)(hc:X.calm=true)(hi:PI' X B tg iter wi)(b:∀(s0:Shared) (H0:Hp) (fp:List Addr) (ps:List (Addr×Obj)),gr (cx X N2 scope cl s0 H0 fp ps) B tg ifs elt g tt te)
  (hs:∀x,foldedSetIterable iter X.env x=pure x:=by intro _;rfl):PE' X B (.ListComp elt [⟨tg,iter,ifs,0⟩] scope pos) (gA nt js wi g tt te):=kR O hc (nZ hi) b hs
theorem tf{i:Nat}{y:Str}{py spos:Pos}(hN:X.N.Nodup)(hy:X.N[i]?=some y)(hl:Loc X.env.scope y)(O:bZ X N2 nt js scope cl sc)(hc:X.calm=true)(hi:PIH X B tg iter wi)
  (b:∀(s0:Shared) (H0:Hp) (fp:List Addr) (ps:List (Addr×Obj)),gr (cx X N2 scope cl s0 H0 fp ps) B tg ifs elt g tt te)
  (hsw:swapsWith (.ListComp elt [⟨tg,iter,ifs,0⟩] scope pos) (some (.Name y py)) spos.line X.env=pure true:=by rfl)
  (hs:∀x,foldedSetIterable iter X.env x=pure x:=by intro _;rfl) (hfn:X.fn y=true∨X.env.scope.names.lookup y=some .local:=by first | exact .inl rfl | exact .inr rfl | assumption) :
  PS' X B (.Assign [.Name y py] (.ListComp elt [⟨tg,iter,ifs,0⟩] scope pos) spos) (jV (gA nt js wi g tt te) (du i)) :=
 dI (v5 (g:=lowG X.K B g) (tt:=nP X.K B tt) (te:=low X.K B te) hN hy hl O hc hi (fun s0 H0 fp ps=>⟨(b s0 H0 fp ps).tgt,(b s0 H0 fp ps).tst,(b s0 H0 fp ps).elt⟩) hsw hs hfn) fun D σ H y_=>by
  obtain⟨σ',H',D',s,h,d⟩:=y_;refine jm ⟨σ',H',_,s,h,fun v' H1' v H1 q r s1 e1=>?_⟩;exact d.nx _ _ _ _ q (s1.set r i) e1
theorem yN{i:Nat}{y:Str}{py spos:Pos}(hN:X.N.Nodup)(hy:X.N[i]?=some y)(hl:Loc X.env.scope y)(O:bZ X N2 nt js scope cl sc)(hc:X.calm=true)(hi:PI' X B tg iter wi)
  (b:∀(s0:Shared) (H0:Hp) (fp:List Addr) (ps:List (Addr×Obj)),gr (cx X N2 scope cl s0 H0 fp ps) B tg ifs elt g tt te)
  (hsw:swapsWith (.ListComp elt [⟨tg,iter,ifs,0⟩] scope pos) (some (.Name y py)) spos.line X.env=pure true:=by rfl)
  (hs:∀x,foldedSetIterable iter X.env x=pure x:=by intro _;rfl) (hfn:X.fn y=true∨X.env.scope.names.lookup y=some .local:=by first | exact .inl rfl | exact .inr rfl | assumption) :
  PS' X B (.Assign [.Name y py] (.ListComp elt [⟨tg,iter,ifs,0⟩] scope pos) spos) (jV (gA nt js wi g tt te) (du i)):=tf hN hy hl O hc (nZ hi) b hsw hs hfn
end
end
section
def rb(cs:List (Str×Addr)):List (Str×Addr)->Prop
 | []=>True
 | p::r=>cs.lookup p.1=some p.2/\rb cs r
theorem rb.mem{cs:List (Str×Addr)}:∀{l:List (Str×Addr)} {p:Str×Addr},rb cs l->p∈l->cs.lookup p.1=some p.2
 | q::r,p,h,m=>by
  rcases JD.mp m with rfl | m
  ·exact h.1
  ·exact rb.mem h.2 m
theorem cok(clos:closureFor scope X.env=pure cl)(sub:rb X.env.cells cl)(xsc:X.env.scope=sc)(kind:scope.kind=.function)
  (nocell:∀y∈scope.names,y.2≠.cell) (loc:∀y∈scope.names,y.2=.local->scope.names.lookup y.1=some .local) (names:cl.map (·.1)=((scope.names.filter (·.2==.free)).map (·.1)).reverse)
  (frs:∀x∈N2.drop nt,scope.names.lookup x=some .free/\sc.names.lookup x=some .cell) (len:N2.length=nt+js.length) (pl:js.map (fun j=>X.N[j]?)=(N2.drop nt).map some):bZ X N2 nt js scope cl sc :=
 ⟨clos,fun x c e=>sub.mem (lookup_mem e),xsc,kind,nocell,loc,fun y m f=>by rw[names];exact List.mem_reverse.mpr (List.mem_map_of_mem (JU.mpr ⟨m,by rw[f];rfl⟩)),frs,len,fun k j e=>by
  have h:(js.map (fun j=>X.N[j]?))[k]?=((N2.drop nt).map some)[k]?:=by rw[pl]
  rw[JI,JI,e,List.getElem?_drop]at h;cases q:N2[nt+k]? with
  | none=>rw[q]at h;cases h
  | some x=>rw[q]at h;exact JT h⟩
end
section
theorem Fc{K:PySem.W.Frag}(F:aG P w K mg base (CXU P w) k f fd ps sp) :
  aG P w K mg base CX0 k f fd ps (fun vs H Q _=>sp vs H Q fun _ _ _=>False) :=
 ⟨fun vs H Q E y_=>by obtain⟨vs',H',Q',E',a,b,c,d,e⟩:=y_;exact F.len vs H Q (fun _ _ _=>False) ⟨vs',H',Q',fun _ _ _=>False,a,b,c,d,fun _ _ _ _ z=>z.elim⟩,fun A outer s H args us vs Q E hr he hb hv ⟨vs',H',Q',E',a,b,c,d,e⟩ =>
  K5 (F.run A outer s H args us vs Q (fun _ _ _=>False) hr he hb hv ⟨vs',H',Q',fun _ _ _=>False,a,b,c,d,fun _ _ _ _ z=>z.elim⟩) fun r s' hq=>by
   cases r with
   | error e =>
    have hq':CXU P w outer H s (fun _ _ _=>False) e s':=hq;obtain⟨_,_,_,_,_,_,_,_,_,_,_,_,z⟩:=hq';exact z.elim
   | ok fl=>cases fl<;>exact hq⟩
end
end U
namespace L2
variable {X:Cx}{a b c d:Expr}{pos:Pos}{ta tb tc td:TE}
def wG(r r' r'':R2)(ta tb tc td:TE):TE:=fun σ H Q=>ta σ H fun x H1=>tb σ H1 fun y H2=>r x y H2 fun z H3=>∃k,z=.bl k /\
 (if k=true then tc σ H3 fun w' H4=>r' y w' H4 fun z' H5=>∃k',z'=.bl k'/\(if k'=true then td σ H5 fun v' H6=>r'' w' v' H6 Q else Q (.bl false) H5)else Q (.bl false) H3)
theorem rE{op op' op'':CmpOp}{r r' r'':R2}(ho:OpR X (compareOp op) r)(ho':OpR X (compareOp op') r')(ho'':OpR X (compareOp op'') r'')(ha:PE X a ta)(hb:PE X b tb)(hc:PE X c tc)(hd:PE X d td)
  (hm:lastMarks [op,op',op''] [b,c,d]=false:=by with_unfolding_all rfl):PE X (.Compare a [op,op',op''] [b,c,d] pos) (wG r r' r'' ta tb tc td):=by
 intro pins s σ H Q I h;refine Compare_chain (thn (ha pins s σ H _ I h) fun v s1 ⟨x,H1,I1,r1,q1⟩=>chain_link (thn (hb pins s1 σ H1 _ I1 q1) fun u s2 ⟨y,H2,I2,r2,q2⟩ =>
  thn (ho pins s2 σ H2 x y v u _ I2 r1 r2 q2) fun d s3 ⟨z,H3,I3,r3,k,e,q3⟩=>?_)) hm
 subst e;cases r3;refine KS ?_;cases k with
 | false=>exact ite_ff ⟨.bl false,H3,I3,rfl,q3⟩
 | true =>
  refine ite_tt (chain_link (thn (hc pins s3 σ H3 _ I3 q3) fun w' s4 ⟨z',H4,I4,r4,q4⟩=>thn (ho' pins s4 σ H4 y z' u w' _ I4 r2 r4 q4) fun d' s5 y_=>?_));obtain⟨z5,H5,I5,r5,k5,e5,q5⟩:=y_;subst e5;cases r5;refine KS ?_;cases k5 with
  | false=>exact ite_ff ⟨.bl false,H5,I5,rfl,q5⟩
  | true=>exact ite_tt (chain_last (thn (hd pins s5 σ H5 _ I5 q5) fun w6 s6 y_=>by obtain⟨z6,H6,I6,r6,q6⟩:=y_;exact ho'' pins s6 σ H6 z' z6 w' w6 Q I6 r4 r6 q6))
end L2
namespace U
open L2
variable {B:Bs}{X:Cx}{a b c d e o value:Expr}{pos pos' apos p:Pos}{ta tb tc td tv:TE'}{f m x:Str}{C g:Addr}
def qk(r r' r'':R2')(ta tb tc td:TE'):TE':=fun σ H Q=>ta σ H fun x H1=>tb σ H1 fun y H2=>r x y H2 fun z H3=>d4 z fun k=>cif k (tc σ H3 fun w' H4=>r' y w' H4 fun z' H5=>d4 z' fun k'=>cif k' (td σ H5 fun v' H6=>r'' w' v' H6 Q) (Q (.bl false) H5)) (Q (.bl false) H3)
theorem rh{op op' op'':CmpOp}{r1' r2' r3':R2'}{r1 r2 r3:R2}(ho:OpR X (compareOp op) r1)(v1:VR X.K B r1' r1)(ho':OpR X (compareOp op') r2)(v2:VR X.K B r2' r2)(ho'':OpR X (compareOp op'') r3)(v3:VR X.K B r3' r3)
  (ha:PE' X B a ta) (hb:PE' X B b tb) (hc:PE' X B c tc) (hd:PE' X B d td)
  (hm:lastMarks [op,op',op''] [b,c,d]=false:=by with_unfolding_all rfl):PE' X B (.Compare a [op,op',op''] [b,c,d] pos) (qk r1' r2' r3' ta tb tc td):=aS (rE ho ho' ho'' ha hb hc hd hm) fun σ H Q y_=>by
 obtain⟨σ',H',Q',s,h,k⟩:=y_;refine⟨σ',H',_,s,h,fun x' H1' x H1 h1 rx s1 e1=>⟨σ',H1',_,s1,h1,fun y' H2' y H2 h2 ry s2 e2=>?_⟩⟩;refine v1 σ' σ H2' H2 x' y' x y _ _ s2 (RP.kp X.K (e2.kp s1.hp) rx) ry h2 fun z' H3' z H3 q rz s3 e3=>?_;obtain⟨b,rfl,q⟩:=q.ex;simp only[RP]at rz;refine⟨b,rz,?_⟩;cases b with
 | false=>exact kf (k _ _ _ _ q (by simp[RP]) s3 ((e1.trans e2).trans e3))
 | true =>
  refine j3 ⟨σ',H3',_,s3,q,fun w' H4' w H4 h4 rw4 s4 e4=>?_⟩;refine v2 σ' σ H4' H4 y' w' y w _ _ s4 (RP.kp X.K ((e3.trans e4).kp s2.hp) ry) rw4 h4 fun z5' H5' z5 H5 q5 rz5 s5 e5=>?_;obtain⟨b5,rfl,q5⟩:=q5.ex;simp only[RP]at rz5;refine⟨b5,rz5,?_⟩;cases b5 with
  | false=>exact kf (k _ _ _ _ q5 (by simp[RP]) s5 ((((e1.trans e2).trans e3).trans e4).trans e5))
  | true =>
   refine j3 ⟨σ',H5',_,s5,q5,fun v' H6' v H6 h6 rv s6 e6=>?_⟩;exact v3 σ' σ H6' H6 w' v' w v _ _ s6 (RP.kp X.K ((e5.trans e6).kp s4.hp) rw4) rv h6 fun z7' H7' z7 H7 q7 rz7 s7 e7=>k _ _ _ _ q7 rz7 s7 ((((((e1.trans e2).trans e3).trans e4).trans e5).trans e6).trans e7)
def zL(C:Addr)(f:Str)(x:PV)(H:PHp)(Q:VK'):Prop:=match x with
 | .ref a=>∃dx fs v,H a=some (.ins C dx fs)/\fs.lookup f=some v/\Q v H
 | _=>False
def CW(C:Addr)(f:Str)(ta:TE'):TE':=fun σ H Q=>ta σ H fun x H1=>zL C f x H1 Q
theorem m4{K:PySem.W.Frag}(h:eX K H fs gs)(e:fs.lookup f=some v):∃u,gs.lookup f=some u/\RP K H v u:=by
 induction h with
 | nil=>simp at e
 | @cons a b _ _ h t ih =>
  obtain⟨n,y⟩:=a;obtain⟨m,z⟩:=b;obtain⟨rfl,hr⟩:=h;dsimp only at hr;cases hx:f==n with
  | true =>
   simp only[Kh,hx]at e ⊢;cases e;exact⟨z,rfl,hr⟩
  | false =>
   simp only[Kh,hx]at e ⊢;exact ih e
theorem jL{K:PySem.W.Frag}(h:eX K H fs gs)(e:fs.lookup f=none):gs.lookup f=none:=by
 induction h with
 | nil=>rfl
 | @cons a b _ _ h t ih =>
  obtain⟨n,y⟩:=a;obtain⟨m,z⟩:=b;obtain⟨rfl,hr⟩:=h;cases hx:f==n with
  | true=>simp only[Kh,hx]at e;cases e
  | false =>
   simp only[Kh,hx]at e ⊢;exact ih e
theorem u6{K:PySem.W.Frag}{H:Hp}{gs:List (Str×V)}(h:eX K H fs gs):gs.length=fs.length:=by
 induction h with
 | nil=>rfl
 | cons _ _ ih=>simp[ih]
theorem b0(ha:PE' X B e ta)(cl:Cls X.K C)(n:c9 X.K C f)(hb:attributeBase e f X.env (eval e X.env)=eval e X.env):PE' X B (.Attribute e f pos) (CW C f ta):=aS (AU ha hb) fun σ H Q y_=>by
 obtain⟨σ',H',Q',s,h,k⟩:=y_;refine⟨σ',H',_,s,h,fun x' H1' x H1 h1 rx s1 e1=>?_⟩;cases x' with
 | ref a =>
  obtain⟨dx,fs,v,ea,l,q⟩:=h1;simp only[RP]at rx;subst rx;obtain⟨gs,eg,fr⟩:=s1.hp _ _ ea;obtain⟨u,lu,ru⟩:=m4 fr l;exact⟨a,C,dx,gs,u,rfl,eg,cl,n,lu,k _ _ _ _ q ru s1 e1⟩
 | _=>exact h1.elim
def i4(f:Str)(v:PV):List (Str×PV)->List (Str×PV)
 | []=>[(f,v)]
 |(g,x)::r=>if g=f then(g,v)::r else(g,x)::i4 f v r
theorem sg{K:PySem.W.Frag}(rv:RP K H v u){fs:List (Str×PV)}{gs:List (Str×V)}(h:eX K H fs gs):eX K H (i4 f v fs) (dH f u gs):=by
 induction h with
 | nil=>exact .cons ⟨rfl,rv⟩ .nil
 | @cons a b _ _ h t ih =>
  obtain⟨n,y⟩:=a;obtain⟨m,z⟩:=b;obtain⟨rfl,hr⟩:=h;unfold i4 dH;by_cases hn:n=f
  ·rw[JL hn,JL hn];exact .cons ⟨rfl,rv⟩ t
  ·rw[JK hn,JK hn];exact .cons ⟨rfl,hr⟩ ih
def zu(C:Addr)(f:Str)(x y:PV)(H:PHp)(Q:PHp->Prop):Prop:=match x with
 | .ref a=>∃dx fs,H a=some (.ins C dx fs)/\fs.length<1000/\Q (put H a (.ins C dx (i4 f y fs)))
 | _=>False
def vG(C:Addr)(f:Str)(ta tv:TE'):TS':=fun D σ H=>tv σ H fun y H1=>ta σ H1 fun x H2=>zu C f x y H2 fun H3=>D.nx σ H3
theorem n4(ha:PE' X B o ta)(hv:PE' X B value tv)(cl:Cls X.K C)(n:c9 X.K C f)(hs:swapsWith value (some (.Attribute o f pos')) pos.line X.env=pure false):PS' X B (.Assign [.Attribute o f pos'] value pos) (vG C f ta tv):=dI (zY ha hv hs) fun D σ H y_=>by
 obtain⟨σ',H',D',s,h,dd⟩:=y_;refine⟨σ',H',_,s,h,fun y' H1' y H1 h1 ry s1 e1=>⟨σ',H1',_,s1,h1,fun x' H2' x H2 h2 rx s2 e2=>?_⟩⟩;cases x' with
 | ref a =>
  obtain⟨dx,fs,ea,l,q⟩:=h2;simp only[RP]at rx;subst rx;obtain⟨gs,eg,fr⟩:=s2.hp _ _ ea;have ry2:=RP.kp X.K (e2.kp s1.hp) ry;have new:OAt X.K (upd H2 a (.ins C dx (dH f y gs))) a (.ins C dx (i4 f y' fs)):=⟨_,bj,eX.kp (s2.hp.kpw ea) (sg ry2 fr)⟩;exact⟨a,C,dx,gs,rfl,eg,cl,n,by rw[u6 fr];exact l,dd.nx _ _ _ _ q (s2.wr ea new) ((e1.trans e2).trans (Ev.wr ea))⟩
 | _=>exact h2.elim
def isIn(C:Addr)(m:Str)(x:PV)(H:PHp):Prop:=match x with
 | .ref a=>∃dx fs,H a=some (.ins C dx fs)/\fs.lookup m=none
 | _=>False
def l8(C:Addr)(m:Str)(sp:Sp')(E':XK')(ta:TE')(t:TA'):TE':=fun σ H Q=>ta σ H fun x H1=>isIn C m x H1/\t σ H1 fun vs H2=>sp (x::vs) H2 Q E'
section
variable {k:Nat}{fd:FuncData}{ps:List Str}{sp:Sp'}{es:List Expr}{t:TA'}
theorem rR{K:PySem.W.Frag}(h:low K B (l8 C m sp X0 ta t) σ H Q):vY C m (dF K sp) [] E0 (low K B ta) (n5 K B t) σ H Q:=by
 obtain⟨σ',H',Q',s,h,k⟩:=h;refine⟨σ',H',_,s,h,fun x' H1' x H1 h1 rx s1 e1=>?_⟩;obtain⟨hi,h1⟩:=h1;cases x' with
 | ref a =>
  obtain⟨dx,fs,ea,l⟩:=hi;simp only[RP]at rx;subst rx;obtain⟨gs,eg,fr⟩:=s1.hp _ _ ea;refine⟨a,dx,gs,rfl,eg,jL fr l,σ',H1',_,s1,h1,fun vs' H2' vs H2 h2 r2 s2 e2=>?_⟩;show dF K sp (V.ref a::(vs++[])) H2 Q E0;rw[JQ];exact⟨.ref a::vs',H2',Q',X0,RPs.cons _ (by simp[RP]) r2,s2.hp,h2,fun v' H3' v H3 q r3 h3 e3=>k v' H3' v H3 q r3 (s2.kp e3 h3) ((e1.trans e2).trans e3),fun _ _ _ _ z=>z.elim⟩
 | _=>exact hi.elim
theorem a7{pl:Sem Bool}(he:PE' X B o ta)(cl:Cls X.K C)(hm:Meth X.K C m g)(F:aG X.prog X.w X.K X.mg X.base CX0 k g fd ps sp)(hr:bS k X.A)(hb:Binds X.K fd ps [])(ha:PA' X B (e::es) t)
  (hst:starEach (e::es) X.env=(false,eval e X.env)::starEach es X.env:=by rfl) (hpl:(backTo pos (starEach es X.env)).any (·.1)=false:=by rfl)
  (ht:eval (.Call (.Attribute o m apos) (e::es) [] pos) X.env=(do
   let ov←eval o X.env
   standAt apos.atName
   let (f,first)←holding [ov] (getMethod ov m pl)
   callWith pos f first (backTo pos (starEach (e::es) X.env)) (backToKw pos (keywordEach [] X.env))):=by rfl) :
  PE' X B (.Call (.Attribute o m apos) (e::es) [] pos) (l8 C m sp X0 ta t):=aS (qa he cl hm F hr hb .nil vD ha hst hpl ht) fun _ _ _ h=>rR h
def zG(C:Addr)(sp:Sp')(E':XK')(t:TA'):TE':=fun σ H Q=>t σ H fun vs H1=>∀x dx,H1 x=none->H1 dx=none->dx≠x->sp (.ref x::vs) (put H1 x (.ins C dx [])) (fun v H2=>v=.non/\Q (.ref x) H2) E'
theorem kr(M:Mk X.K C g)(F:aG X.prog X.w X.K X.mg X.base CX0 k g fd ps sp)(hr:bS (k+1) X.A)(hg:Gl X x)(hm:X.mg x=some (.ref C))(hb:Binds X.K fd ps [])
  (ha:PA' X B (e::es) t) (hdb:(x==("__debug__":Str))=false:=by decide) (he:starEach (e::es) X.env=(false,eval e X.env)::starEach es X.env:=by rfl) (hpl:(backTo pos (starEach es X.env)).any (·.1)=false:=by rfl) :
  PE' X B (.Call (.Name x p) (e::es) [] pos) (zG C sp X0 t):=aS (xQ M F hr hg hm hb .nil vD ha hdb he hpl) fun σ H Q y_=>by
 obtain⟨σ',H',Q',s,h,k⟩:=y_;refine⟨σ',H',_,s,h,fun vs' H1' vs H1 h1 r1 s1 e1=>?_⟩;intro x dx nx nd ne;have h2:=h1 x dx (s1.hp.free nx) (s1.hp.free nd) ne;have nx2:upd H1 dx (.own x) x=none:=by rw[aM (Ne.symm ne)];exact nx
 have sd:=s1.hid (o:=.own x) nd;have new:OAt X.K (upd (upd H1 dx (.own x)) x (.ins C dx [])) x (.ins C dx []):=⟨[],bj,.nil⟩;have s2:=sd.new nx2 new;have e2:Ev H1' H1 (put H1' x (.ins C dx [])) (upd (upd H1 dx (.own x)) x (.ins C dx [])):=(Ev.hid nd).trans (Ev.new nx2);show dF X.K sp (.ref x::(vs++[])) _ _ E0;rw[JQ];refine⟨.ref x::vs',_,_,X0,RPs.cons _ (by simp[RP]) (RPs.kp X.K (e2.kp s1.hp) r1),s2.hp,h2,fun v' H3' v H3 q r3 h3 e3=>?_,fun _ _ _ _ z=>z.elim⟩;obtain⟨rfl,q⟩:=q;simp only[RP]at r3;exact⟨r3,k _ _ _ _ q (by simp[RP]) (s2.kp e3 h3) ((e1.trans e2).trans e3)⟩
end
end U
namespace L2
variable {X:Cx}
def EB(K:PySem.W.Frag):List V->Hp->VK->Prop:=fun xs H Q=>∃(p:Addr) (bs:List Bool),xs=[.ref p]/\SqL K H p (bs.map V.bl)/\Q (.bl (bs.all id)) H
theorem fg:∀{bs:List Bool} {us:List Value},Vals (bs.map V.bl) us->us=bs.map Value.bool
 | [],_,.nil=>rfl
 | b::bs,_,.cons r t=>by rw[fg t];cases r;rfl
theorem vC(hc:X.calm=true):cf X (.builtin "all") (EB X.K):=by
 intro pins s σ H xs us Q I r h;obtain⟨a,bs,rfl,hq,q⟩:=h;obtain⟨u,rfl,ru⟩:=Vals.one r;cases ru;obtain⟨its,rv,p,hz⟩:=I.list hq;have e:=fg rv;subst e;have hl:s.heap.IsList a (bs.map Value.bool).toArray:=p.isList;have llt:a<s.heap.objs.size:=by obtain⟨o,e,_⟩:=hl;exact Jv e
 have hne:a≠s.heap.objs.size:=JG llt;refine call_all_walk (wpAny_pyIter_list hl ?_);refine⟨s.heap.objs.size,[s.heap.objs.size,a],[s.heap.objs.size],(bs.map Value.bool).toArray.size,_,_,fun i=>bs.getD i false,rfl,Walks.list (by simpa using I.ok.hd hc) _ a hne _,⟨⟨_,JA _ rfl,rfl,rfl⟩,hl.at fun o e=>Js _ e⟩,?_,?_⟩
 ·intro i v s' Q' E' hv hQ;have:v=Value.bool (bs.getD i false):=by
   have hv':(bs.map Value.bool)[i]?=some v:=by simpa using hv
   rw[JI]at hv';cases hb:bs[i]? with
   | none=>rw[hb]at hv';cases hv'
   | some b=>rw[hb]at hv';cases hv';rw[Jt,hb];rfl
  subst this;exact KS hQ
 ·intro h' tk kp;have e:(List.range (bs.map Value.bool).toArray.size).all (fun i=>bs.getD i false)=bs.all id:=by
   have hs:(bs.map Value.bool).toArray.size=bs.length:=by simp
   rw[hs];rw[Bool.eq_iff_iff,Kg,Kg];constructor
   ·intro h b hb;obtain⟨i,hi,e⟩:=List.getElem_of_mem hb;have:=h i (J1.mpr hi);rw[Jt,Jo hi,e]at this;exact this
   ·intro h i hi;have hi:=J1.mp hi;rw[Jt,Jo hi];exact h _ (JV hi)
  rw[e];refine⟨.bl (bs.all id),H,I.kept (t':=tk) fun b o e=>?_,rfl,q⟩;exact kp b o (by simpa using JG (Jv e)) (Js _ e)
theorem jb:∀{ns:List Int} {us:List Value},Vals (ns.map V.int) us->IntsAre us ns
 | [],_,.nil=>.nil
 | n::ns,_,.cons r t=>by obtain⟨k,rfl⟩:=r;exact .cons n k (jb t)
end L2
namespace U
open L2
variable {B:Bs}{X:Cx}
theorem gc{K:PySem.W.Frag}{H:Hp}:∀{bs:List Bool} {us:List V},RPs K H (bs.map PV.bl) us->us=bs.map V.bl
 | [],us,h=>by simpa[RPs]using h
 | b::bs,us,h=>by
  simp only[JF,RPs,RP]at h;obtain⟨u,r,rfl,rfl,h2⟩:=h;rw[gc h2];rfl
theorem lV{K:PySem.W.Frag}{H:Hp}:∀{bs:List Int} {us:List V},RPs K H (bs.map PV.int) us->us=bs.map V.int
 | [],us,h=>by simpa[RPs]using h
 | b::bs,us,h=>by
  simp only[JF,RPs,RP]at h;obtain⟨u,r,rfl,rfl,h2⟩:=h;rw[lV h2];rfl
theorem fA{K:PySem.W.Frag}{H:Hp}:∀{bs:List Int},RPs K H (bs.map PV.int) (bs.map V.int)
 | []=>RPs.nil _
 | b::bs=>RPs.cons _ (by simp[RP]) fA
def DH:List PV->PHp->VK'->Prop:=de fun x H Q=>match x with
 | .ref a=>∃bs:List Bool,H a=some (.lst (bs.map PV.bl))/\Q (.bl (bs.all id)) H
 | _=>False
theorem zS{K:PySem.W.Frag}:VC K B DH (EB K):=by
 intro σ' σ H' H xs' xs Q' Q s r h k;obtain⟨x',x,rfl,rfl,rx,h⟩:=de.ex h r;cases x' with
 | ref a =>
  obtain⟨bs,ea,q⟩:=h;simp only[RP]at rx;subst rx;obtain⟨us,e,r2⟩:=s.hp _ _ ea;rw[gc r2]at e;exact⟨a,bs,rfl,.inl (.inl e),k _ _ _ _ q (by simp[RP]) s (Ev.refl _ _)⟩
 | _=>exact h.elim
def zT:List PV->PHp->VK'->Prop:=de fun x H Q=>match x with
 | .ref a=>∃ns:List Int,H a=some (.lst (ns.map PV.int))/\ns.length<64/\∀(r:Addr) (ms:List Int),H r=none->ms.Perm ns->ms.Pairwise (·≤·)->Q (.ref r) (put H r (.lst (ms.map PV.int)))
 | _=>False
end U
namespace SP
def hs:List Int:=[-1950498447580522560,7204814214171964562,-3550055125485641917,-4734289103435588629,-1440771752368011620,
 8409376899596376432,1773351652666409796,-6333845781340707986,3516302870623680066,1079245023883434373,
 -3119722376306286570,173794974761290439,-8422800446983873125,7586885779985432798,-1009709641759730766]
def prs:List (Int×Int):=[(0,1),(0,2),(1,2),(0,3),(1,3),(2,3),(0,4),(1,4),(2,4),(3,4),(0,5),(1,5),(2,5),(3,5),(4,5)]
def hp(p:Int×Int):Int:=reduceHash (Builtin.Tuple.tupleHashOf [p.1,p.2])
theorem Em:prs.map hp=hs:=by decide +kernel
theorem oE(h:p∈prs):hp p∈hs:=by rw[←Em];exact Jp.mpr ⟨p,h,rfl⟩
theorem A5:∀p∈prs,∀q∈prs,hp p=hp q->p=q:=by decide +kernel
theorem wH(h0:0≤u)(h1:u<v)(h2:v<6):(u,v)∈prs:=by
 have hv:v=1∨v=2∨v=3∨v=4∨v=5:=by symm
 have hu:u=0∨u=1∨u=2∨u=3∨u=4:=by symm
 rcases hv with rfl | rfl | rfl | rfl | rfl<;>rcases hu with rfl | rfl | rfl | rfl | rfl<;>first |(exfalso;symm) | decide
def rK(mask:Nat)(p:SetTable.Probe):SetTable.Probe :=
 if p.more>0 then { p with j:=p.j+1,more:=p.more - 1 }else
 let (i,perturb):=SetTable.leap mask p.i p.perturb
 { p with j:=i,more:=SetTable.runEnd mask i - i,i,perturb }
theorem Bd(t:SetTable)(p:SetTable.Probe):t.advance p=rK t.mask p:=rfl
theorem rB(mask:Nat)(p:SetTable.Probe):(rK mask p).dummy=p.dummy:=by unfold rK;split<;>rfl
def visit(mask:Nat):Nat->SetTable.Probe->List Nat
 | 0,_=>[]
 | f+1,p=>p.j::visit mask f (rK mask p)
def startM(mask:Nat)(h:Int):SetTable.Probe :=
 let i:=SetTable.bits h % (mask+1)
 { j:=i,more:=SetTable.runEnd mask i - i,i,perturb:=SetTable.bits h,dummy:=none }
theorem tZ(t:SetTable)(h:Int):t.probeStart h=startM t.mask h:=rfl
theorem Ao:∀h∈hs,∀j∈List.range 8,j∈visit 7 220 (startM 7 h):=by decide +kernel
theorem yY:∀h∈hs,∀j∈List.range 32,j∈visit 31 460 (startM 31 h):=by decide +kernel
theorem vN:∀(n:Nat) (l:List Nat),(∀j,j<n->j∈l)->n≤l.length
 | 0,_,_=>K1 _
 | n+1,l,h=>by
  have hm:=h n (Nat.lt_succ_self n);have:=vN n (l.erase n) fun j hj=>(List.mem_erase_of_ne (by symm)).mpr (h j (by symm));rw[List.length_erase_of_mem hm]at this;have:0<l.length:=List.length_pos_of_mem hm;symm
theorem vz{l:List Nat}(h:l.length<n):∃j,j<n/\j∉l :=
 Classical.byContradiction fun c=>absurd (vN n l fun j hj=>Classical.byContradiction fun q=>c ⟨j,hj,q⟩) (by symm)
theorem slot_of{t:SetTable}(hd:t.dummies=#[])(j:Nat):t.slot j=.empty∨∃i,t.slot j=.live i/\i<t.place.size/\j∈t.place.toList:=by
 unfold SetTable.slot;dsimp only;split
 ·rename_i h;have h':=Lb.mp h;obtain⟨hi,e⟩:=Array.getElem?_eq_some_iff.mp h';refine .inr ⟨_,rfl,hi,?_⟩;rw[←e];exact Array.getElem_mem_toList hi
 ·left;have:SetTable.has t.dummies j=false:=by
   rw[hd];rfl
  rw[this];rfl
theorem mW{t:SetTable}{hashAt:Nat->Int}{h:Int}(hd:t.dummies=#[])(hn:∀i,i<t.place.size->hashAt i≠h):∀(fuel:Nat) (p:SetTable.Probe),p.dummy=none ->
  (∃j∈visit t.mask fuel p,j∉t.place.toList)->∃j,SetTable.probe.go t hashAt h fuel p=some (.empty j none)
 | 0,_,_,⟨_,hj,_⟩=>by simp[visit]at hj
 | f+1,p,hp,⟨j,hj,hjn⟩=>by
  unfold SetTable.probe.go;rcases slot_of hd p.j with e |⟨i,e,hi,hm⟩
  ·rw[e];dsimp only;exact⟨p.j,by rw[hp]⟩
  ·rw[e];dsimp only;rw[JK (by intro q;exact hn i hi (Lb.mp q)),Bd];refine mW hd hn f (rK t.mask p) (by rw[rB];exact hp) ⟨j,?_,hjn⟩;have hj':j=p.j∨j∈visit t.mask f (rK t.mask p):=JD.mp hj;rcases hj' with rfl | hj'
   ·exact absurd hm hjn
   ·exact hj'
theorem vv{t:SetTable}(hh:h∈hs)(hd:t.dummies=#[])(hn:∀i,i<t.place.size->hashAt i≠h)(hm:t.mask=7∨t.mask=31)(hsz:t.place.size≤t.mask) :
  ∃j,t.probe hashAt h (t.probeStart h)=some (.empty j none):=by
 unfold SetTable.probe;refine mW hd hn _ _ rfl ?_;obtain⟨j,hj,hjn⟩:=vz (n:=t.mask+1) (l:=t.place.toList) (by simpa using Nat.lt_succ_of_le hsz);refine⟨j,?_,hjn⟩;rw[tZ];rcases hm with e | e
 ·rw[e]at hj ⊢;exact Ao h hh j (J1.mpr hj)
 ·rw[e]at hj ⊢;exact yY h hh j (J1.mpr hj)
theorem t8(t:SetTable)(j:Nat):(t.put j).1.place.size=t.place.size+1:=by
 unfold SetTable.put SetTable.insertAt;dsimp only;simp only[Array.size_append,Array.size_push,Array.size_extract];symm
theorem mM{t:SetTable}(hd:t.dummies=#[])(j:Nat):(t.put j).1.dummies=#[]:=by
 unfold SetTable.put;dsimp only;rw[hd];rfl
theorem tq(t:SetTable)(j:Nat):(t.put j).1.mask=t.mask/\(t.put j).1.plain=t.plain:=⟨rfl,rfl⟩
theorem insertAt_perm(xs:Array α)(p:Nat)(x:α):(SetTable.insertAt xs p x).toList.Perm (x::xs.toList):=by
 unfold SetTable.insertAt;rw[Array.toList_append,Array.toList_push,KL];have e:xs.toList=(xs.extract 0 p).toList++(xs.extract p xs.size).toList:=by
  rw[Array.toList_extract,Array.toList_extract];unfold List.extract;rw[List.drop_zero,Nat.sub_zero];have e2:(List.drop p xs.toList).take (xs.size - p)=List.drop p xs.toList:=KP (by rw[Ld];simp);rw[e2,List.take_append_drop]
 rw[e];exact List.perm_middle
def runs(mask:Nat):Nat->Nat->Nat->List Nat
 | 0,_,_=>[]
 | f+1,i,pt=>((List.range (SetTable.runEnd mask i+1 - i)).map (i+·))++runs mask f (SetTable.leap mask i pt).1 (SetTable.leap mask i pt).2
theorem Az:∀h∈hs,∀j∈List.range 32,j∈runs 31 46 (SetTable.bits h % 32) (SetTable.bits h):=by decide +kernel
theorem jd{mask:Nat}{owner:Array (Option Nat)}:∀(f i pt:Nat),(∃j∈runs mask f i pt,(owner.getD j (some 0)).isNone=true)->∃j,SetTable.layClean.free mask owner f i pt=some j/\(owner.getD j (some 0)).isNone=true
 | 0,_,_,⟨_,hj,_⟩=>by simp[runs]at hj
 | f+1,i,pt,⟨j,hj,hn⟩=>by
  unfold SetTable.layClean.free;cases e:(List.range (SetTable.runEnd mask i+1 - i)).find? fun k=>(owner.getD (i+k) (some 0)).isNone with
  | some k =>
   dsimp only;exact⟨i+k,rfl,by have:=List.find?_some e;exact this⟩
  | none =>
   dsimp only;rcases Ju.mp hj with hj | hj
   ·obtain⟨k,hk,rfl⟩:=Jp.mp hj;have:=List.find?_eq_none.mp e k hk;exact absurd hn this
   ·exact jd f _ _ ⟨j,hj,hn⟩
theorem iR{α:Type}:∀(l:List (Option α)) (j:Nat) (k:α),l[j]?=some none->((l.set j (some k)).filterMap id).Perm (k::l.filterMap id)
 | [],_,_,h=>by simp at h
 | none::l,0,k,_=>by simp
 | some x::l,0,k,h=>by simp at h
 | none::l,j+1,k,h=>by
  have:=iR l j k (by simpa using h);simpa using this
 | some x::l,j+1,k,h=>by
  have:=iR l j k (by simpa using h);simp only[List.set_cons_succ,List.filterMap_cons_some (f:=id) rfl];exact(this.cons x).trans (List.Perm.swap k x _)
theorem di{α:Type}:∀(l:List (Option α)),(l.filterMap id).length<l.length->∃j:Nat,l[j]?=some none
 | [],h=>by simp at h
 | none::l,_=>⟨0,rfl⟩
 | some x::l,h=>by
  have h':(l.filterMap id).length<l.length:=by simpa using h
  obtain⟨j,e⟩:=di l h';exact⟨j+1,by simpa using e⟩
def g5(mask:Nat)(acc:Option (Array (Option Nat)×Nat))(h:Int):Option (Array (Option Nat)×Nat):=do
 let (owner,k)←acc
 let j←SetTable.layClean.free mask owner (SetTable.turns mask) (SetTable.bits h % (mask+1)) (SetTable.bits h)
 pure (owner.setIfInBounds j (some k),k+1)
theorem lU:∀(l:List Int) (owner:Array (Option Nat)) (k:Nat),(∀h∈l,h∈hs)->owner.size=32->(owner.toList.filterMap id).Perm (List.range k)->k+l.length≤32 ->
  ∃ow',l.foldl (g5 31) (some (owner,k))=some (ow',k+l.length)/\ow'.size=32/\(ow'.toList.filterMap id).Perm (List.range (k+l.length))
 | [],owner,k,_,hs,hp,_=>⟨owner,rfl,hs,hp⟩
 | h::l,owner,k,hh,hsz,hp,hl=>by
  have hlen:(owner.toList.filterMap id).length=k:=by rw[hp.length_eq,KW]
  obtain⟨j,hj⟩:=di owner.toList (by rw[hlen];simp only[JR]at hl;rw[show owner.toList.length=32 by simpa using hsz];symm);have hjlt:j<32:=by
   have:=(JE.mp hj).1;simpa[hsz]using this
  have hnone:∀j,(owner.getD j (some 0)).isNone=true->owner.toList[j]?=some none:=fun j q=>by
   rw[Km];unfold Array.getD at q;split at q
   ·rename_i hlt;rw[JO hlt];cases e:owner[j]with
    | none=>rfl
    | some x =>
     have q':(owner[j]).isNone=true:=q;rw[e]at q';cases q'
   ·cases q
  obtain⟨j',ej,hn⟩:=jd (mask:=31) (owner:=owner) 46 (SetTable.bits h % 32) (SetTable.bits h) ⟨j,Az h (hh h Jw) j (J1.mpr hjlt),by
   unfold Array.getD;rw[dif_pos (by rw[hsz];exact hjlt)];rw[Km,JO (by rw[hsz];exact hjlt)]at hj;have:=JT hj;show(owner[j]).isNone=true;rw[this];rfl⟩
  have est:g5 31 (some (owner,k)) h=some (owner.setIfInBounds j' (some k),k+1):=by
   unfold g5;show(SetTable.layClean.free 31 owner (SetTable.turns 31) (SetTable.bits h % 32) (SetTable.bits h) >>= fun j=>pure (owner.setIfInBounds j (some k),k+1))=_;rw[show SetTable.turns 31=46 from rfl,ej];rfl
  have hp':((owner.setIfInBounds j' (some k)).toList.filterMap id).Perm (List.range (k+1)):=by
   rw[Array.toList_setIfInBounds];refine(iR _ _ _ (hnone j' hn)).trans ?_;rw[List.range_succ];exact(hp.cons k).trans (List.perm_append_singleton k _).symm
  obtain⟨ow',e1,e2,e3⟩:=lU l (owner.setIfInBounds j' (some k)) (k+1) (fun x hx=>hh x (Jz _ hx)) (by simpa using hsz) hp' (by simp only[JR]at hl;symm);refine⟨ow',?_,e2,?_⟩
  ·rw[List.foldl_cons,est,e1];simp only[JR];congr 2;symm
  ·rw[JR,show k+(l.length+1)=k+1+l.length by symm];exact e3
theorem rF{t:SetTable}(hw:SetTable.sizeAbove wanted=32)(hh:∀h∈hashes.toList,h∈hs)(hl:hashes.size≤32) :
  ∃t' order,t.relaid hashes wanted=some (t',order)/\t'.mask=31/\t'.dummies=#[]/\t'.place.size=hashes.size/\order.toList.Perm (List.range hashes.size)/\t'.plain=t.plain:=by
 have e0:(Array.replicate 32 (none:Option Nat)).toList.filterMap id=[]:=by decide
 obtain⟨ow,e1,e2,e3⟩:=lU hashes.toList (Array.replicate 32 none) 0 hh (by simp) (by rw[e0];exact K6 _) (by simpa using hl);rw[Nat.zero_add]at e1 e3;have hlc:SetTable.layClean 31 hashes=some ow:=by
  unfold SetTable.layClean;rw[←Array.foldl_toList];show Option.map (·.1) (hashes.toList.foldl (g5 31) (some (Array.replicate 32 none,0)))=_;rw[e1];rfl
 have live2:((List.range 32).filterMap fun j=>(ow.getD j none).map ((j,·):Nat->Nat×Nat)).map (·.2)=ow.toList.filterMap id:=by
  have gen:∀(l:List (Option Nat)) (n:Nat),((l.zipIdx n).filterMap (fun q=>q.1.map ((q.2,·):Nat->Nat×Nat))).map (·.2)=l.filterMap id:=by
   intro l
   induction l with
   | nil=>intro n;rfl
   | cons a l ih =>
    intro n;rw[List.zipIdx_cons];cases a with
    | none=>simpa using ih (n+1)
    | some x=>simpa using ih (n+1)
  rw[←gen ow.toList 0];congr 1;have ez:ow.toList.zipIdx 0=(List.range 32).map fun j=>(ow.getD j none,j):=by
   apply List.ext_getElem?;intro j;rw[List.getElem?_zipIdx,JI];by_cases hj:j<32
   ·rw[List.getElem?_range hj,Km,JO (by rw[e2];exact hj)];simp[Array.getD,e2,hj]
   ·rw[KJ (show ow.toList.length≤j by simpa[e2]using Nat.le_of_not_lt hj),KJ (show(List.range 32).length≤j by simpa using Nat.le_of_not_lt hj)];rfl
  rw[ez,List.filterMap_map];rfl
 have hlen:(ow.toList.filterMap id).length=hashes.size:=by rw[e3.length_eq,KW];simp
 refine⟨{ mask:=31,place:=(((List.range 32).filterMap fun j=>(ow.getD j none).map ((j,·):Nat->Nat×Nat)).map (·.1)).toArray,dummies:=#[],finger:=t.finger,led:=t.led,moves:=t.movedTo 31,plain:=t.plain },
  (((List.range 32).filterMap fun j=>(ow.getD j none).map ((j,·):Nat->Nat×Nat)).map (·.2)).toArray,by
  unfold SetTable.relaid SetTable.laid;rw[hw];show(SetTable.layClean 31 hashes >>= _)=_;rw[hlc];rfl,rfl,rfl,?_,?_,rfl⟩
 ·show(((List.range 32).filterMap fun j=>(ow.getD j none).map ((j,·):Nat->Nat×Nat)).map (·.1)).toArray.size=_;rw[JC,Jl,← hlen,← live2,Jl]
 ·show((((List.range 32).filterMap fun j=>(ow.getD j none).map ((j,·):Nat->Nat×Nat)).map (·.2)).toArray).toList.Perm _;rw[live2];have:hashes.size=hashes.toList.length:=by simp
  rw[this];exact e3
theorem oo{α:Type}{es:Array α}{order:Array Nat}(h:order.toList.Perm (List.range es.size)):(order.filterMap (es[·]?)).toList.Perm es.toList:=by
 have e:(order.filterMap (es[·]?)).toList=order.toList.filterMap (es[·]?):=by simp
 rw[e];refine(h.filterMap _).trans ?_;have:(List.range es.size).filterMap (es[·]?)=es.toList:=by
  apply List.ext_getElem?;intro i;have gen:∀n,n≤es.size->(List.range n).filterMap (es[·]?)=es.toList.take n:=by
   intro n
   induction n with
   | zero=>intro _;simp
   | succ n ih =>
    intro hn;rw[List.range_succ,List.filterMap_append,ih (by symm),Ly];simp[JO (show n<es.size by symm)]
  rw[gen es.size (Jy _),KP (by simp)]
 rw[this]
end SP
namespace SP
section
variable {prog:Program}{w:World}{A:Around}{E:Value->Shared->Prop}{s:Shared}
structure i7 (h:Heap) (S:Addr) (done:List (Int × Int)):Prop where
 is:∃es ep t,h.get? S=some { cls:=.type "set",dict:=none,data:=.set es ep t }/\t.dummies=#[]/\t.place.size=es.size/\es.size=done.length/\((t.mask=7/\es.size≤4)∨(t.mask=31/\es.size≤18)) /\
  ∀e∈es.toList,∃p∈done,e.1=hp p
theorem fits_of{t:SetTable}(hd:t.dummies=#[])(h1:t.place.size=n)(h2:n≤t.mask):t.fits n=true:=by
 unfold SetTable.fits SetTable.fill;rw[hd];simp[h1,h2]
theorem qN(u v:Int)(h:(u,v)∈prs):tupleKeyHash (intKind prog w) [u,v]=hp (u,v):=by
 have key:∀p∈prs,hashInt p.1=p.1/\hashInt p.2=p.2:=by decide +kernel
 obtain⟨h1,h2⟩:=key _ h;show reduceHash (Builtin.Tuple.tupleHashOf [hashInt u,hashInt v])=reduceHash (Builtin.Tuple.tupleHashOf [u,v]);have h1':hashInt u=u:=h1;have h2':hashInt v=v:=h2;rw[h1',h2']
theorem xM(h:ItemsAre (intKind prog w) ks vs):∀x∈vs,∃i t,x=.int i t:=by
 induction h with
 | nil=>intro x hx;simp at hx
 | cons h1 _ ih =>
  intro x hx;rcases JD.mp hx with rfl | hx
  ·obtain⟨t,rfl⟩:=Value.isInt_shape h1;exact⟨_,t,rfl⟩
  ·exact ih x hx
theorem gj(hk:IsTupleKey (intKind prog w) s.heap [u,v] a)(h:Q true s):wpAny (model prog w) A (hashByValue 8 (.ref a)) Q E s:=by
 have hT:=hk.typeIs;obtain⟨o,items,n,ho,hc,hd,hi⟩:=hk;unfold hashByValue;refine Jm (wpAny_specialOf hT F.slot_tuple_hash.lookup ?_);show wpAny _ _ (seqItems? (.ref a) >>= _) _ _ s;refine Jm (wpAny_seqItems ho hd ?_);refine Jm ?_;show wpAny _ _ (forIn items _ _) _ _ s;rw[←Array.forIn_toList];have hall:=xM hi;refine wpAny_forIn_list _ (fun rest r s'=>r.1=none/\s'=s/\∀v∈rest,∃i t,v=.int i t) _ ?_ ?_ _ _ ⟨rfl,rfl,hall⟩
 ·rintro v rest r s' ⟨hr,rfl,hall⟩;obtain⟨i,t,rfl⟩:=hall v Jw;show wpAny _ _ (pure true >>= _) _ _ _;refine Jm (Jq ?_);simp only[Bool.not_true,Bool.false_eq_true,if_false];exact Jq ⟨rfl,rfl,fun u hu'=>hall u (Jz _ hu')⟩
 ·rintro⟨r1,r2⟩ s' ⟨hr,rfl,_⟩;simp only at hr;subst hr;exact Jq h
theorem lE(hu:A.units<cLine)(hk:IsTupleKey (intKind prog w) s.heap [u,v] a)(hP:i7 s.heap S done)(hin:(u,v)∈prs)(hd:∀p∈done,p∈prs)
  (hn:(u,v)∉done) (hlen:done.length<15)
  (h:∀h' tk,Heap.SameBut S s.heap h'->i7 h' S (done++[(u,v)])->Q true { s with heap:=h',toks:=tk }):wpAny (model prog w) A (setAdd S (.ref a)) Q E s:=by
 obtain⟨es,ep,t,ho,htd,hts,hes,hm,hh⟩:=hP.is;have hsa:S≠a:=by
  rintro rfl;obtain⟨o,items,n,ho',hc,_⟩:=hk;rw[ho]at ho';cases ho';exact absurd (show Value.type "set"=Value.type "tuple" from hc) (by decide)
 unfold setAdd;refine Kb (Jm (wpAny_pyHash_tuple hu hk ?_));rw[qN u v hin];generalize hs':({ s with toks:=s.toks+([u,v].length+1) }:Shared)=s1;have e1:s1.heap=s.heap:=by rw[←hs']
 have ho1:s1.heap.get? S=some { cls:=.type "set",dict:=none,data:=.set es ep t }:=by rw[e1];exact ho
 have hk1:IsTupleKey (intKind prog w) s1.heap [u,v] a:=by rw[e1];exact hk
 have hmk:es.size≤t.mask:=by symm
 have hf:t.fits es.size=true:=fits_of htd hts hmk;unfold setAddHashed;refine Kb ?_;show wpAny _ _ (setAddHashedIn S (.ref a) (hp (u,v)) (99999+1)) _ _ _;unfold setAddHashedIn;refine Jm (K7 ho1 rfl hf ?_);dsimp only;have hbs:byScan (.ref a) es=false:=rfl;rw[hbs];simp only[Bool.false_eq_true,if_false];obtain⟨j,hj⟩:=vv (t:=t) (hashAt:=fun i=>(es[i]?.map (·.1)).getD 0) (h:=hp (u,v)) (oE hin) htd (fun i hi q=>by
  rw[hts]at hi;rw[JO hi]at q;have q':(es[i]).1=hp (u,v):=q;obtain⟨p,hpd,e⟩:=hh es[i] (Array.getElem_mem_toList hi);rw[e]at q';exact hn (A5 p (hd p hpd) _ hin q'▸hpd)) (by symm) (by symm)
 unfold setSearch;show wpAny _ _ (setSearchFrom S (.ref a) (hp (u,v)) true (99999+1) none >>= _) _ _ _;unfold setSearchFrom;refine Jm (Jm (K7 ho1 rfl hf ?_));dsimp only;have hgw:t.gaveWay=false:=by
  unfold SetTable.gaveWay;rcases hm with hm | hm<;>rw[hm.1]<;>rfl
 rw[hgw,JK (by decide)];generalize hX:t.probe _ (hp (u,v)) (none.getD (t.probeStart (hp (u,v))))=X0;have hX':X0=some (.empty j none):=by rw[←hX];exact hj
 subst hX';dsimp only;refine Jq ?_;dsimp only;refine Jm (K7 ho1 rfl hf ?_);dsimp only;have hps:=t8 t j;have hpd:=mM htd j;obtain⟨hpm,hpp⟩:=tq t j;have hip:=insertAt_perm es (t.put j).2 (hp (u,v),Value.ref a);have his:(SetTable.insertAt es (t.put j).2 (hp (u,v),Value.ref a)).size=es.size+1:=by
  have:=hip.length_eq;simpa using this
 have hash':∀e∈(SetTable.insertAt es (t.put j).2 (hp (u,v),Value.ref a)).toList,∃p∈done++[(u,v)],e.1=hp p:=fun e he=>by
  rcases JD.mp (hip.mem_iff.mp he)with rfl | he
  ·exact⟨(u,v),by simp,rfl⟩
  ·obtain⟨p,h1,h2⟩:=hh e he;exact⟨p,JN _ h1,h2⟩
 have last:wpAny (model prog w) A (do
   storeSet S (SetTable.insertAt es (t.put j).2 (hp (u,v),Value.ref a)) (t.put j).1
   if (!false&&(t.put j).1.tooFull)=true then do
    setRelay S (SetTable.grown (es.size+1))
    pure true
   else pure true) Q E s1:=by
  refine Jm (wpAny_storeSet_of ho1 rfl ?_ (by rw[his,J9];symm));have hg:(s1.heap.update S (Obj.putSet (SetTable.insertAt es (t.put j).2 (hp (u,v),Value.ref a)) (t.put j).1)).get? S=some { cls:=.type "set",dict:=none,data:=.set (SetTable.insertAt es (t.put j).2 (hp (u,v),Value.ref a)) (ep+1) (t.put j).1 } :=
   Kz _ ho1 rfl
  have sb1:Heap.SameBut S s.heap (s1.heap.update S (Obj.putSet (SetTable.insertAt es (t.put j).2 (hp (u,v),Value.ref a)) (t.put j).1)):=by rw[e1];exact KD ..
  have hs1:∀hh':Heap,({ s1 with heap:=hh' }:Shared)={ s with heap:=hh',toks:=s1.toks }:=fun hh'=>by rw[←hs']
  by_cases hfull:(t.put j).1.tooFull=true
  ·rw[hfull,JL (by rfl)];have hfu:((t.put j).1.place.size+(t.put j).1.dummies.size)*5≥(t.put j).1.mask*3:=by
    have q:=hfull;unfold SetTable.tooFull SetTable.fill at q;exact Lz q
   rw[hps,hpd,hpm,hts]at hfu;have hz:(#[]:Array Nat).size=0:=rfl;rw[hz]at hfu;have h5:t.mask=7/\es.size=4:=by symm
   have hw:SetTable.grown (es.size+1)=20:=by rw[h5.2];rfl
   rw[hw];have hf2:(t.put j).1.fits (SetTable.insertAt es (t.put j).2 (hp (u,v),Value.ref a)).size=true:=fits_of hpd (by rw[hps,his,hts]) (by rw[his,hpm];symm);obtain⟨t',order,r1,r2,r3,r4,r5,r6⟩:=rF (t:=(t.put j).1) (hashes:=(SetTable.insertAt es (t.put j).2 (hp (u,v),Value.ref a)).map (·.1)) (wanted:=20) rfl (fun h0 hm0=>by
    rw[Array.toList_map]at hm0;obtain⟨e,he,rfl⟩:=Jp.mp hm0;obtain⟨p,hp1,hp2⟩:=hash' e he;rw[hp2];rcases Ju.mp hp1 with q | q
    ·exact oE (hd p q)
    ·rw[Jx.mp q];exact oE hin) (by rw[Array.size_map,his];symm)
   rw[Array.size_map]at r4 r5;have op:=oo r5;have osz:(order.filterMap ((SetTable.insertAt es (t.put j).2 (hp (u,v),Value.ref a))[·]?)).size=(SetTable.insertAt es (t.put j).2 (hp (u,v),Value.ref a)).size:=by
    rw[←KR,← KR];exact op.length_eq
   unfold setRelay;refine Jm (Jm (K7 hg rfl hf2 ?_));dsimp only;rw[JK (show ¬SetTable.sizeAbove 20>sizeLine by rw[J9];decide)];refine Jm ?_;rw[r1];show wpAny _ _ (if (Array.size (order.filterMap ((SetTable.insertAt es (t.put j).2 (hp (u,v),Value.ref a))[·]?)) !=(SetTable.insertAt es (t.put j).2 (hp (u,v),Value.ref a)).size)=true then _ else _) _ _ _;rw[JK (by rw[osz];simp)];refine Jq ?_;dsimp only;refine wpAny_storeSet_of hg rfl ?_ (by rw[osz,his,J9];symm);refine Jq ?_;have hg3:=Kz (Obj.putSet (order.filterMap ((SetTable.insertAt es (t.put j).2 (hp (u,v),Value.ref a))[·]?)) t') hg rfl;rw[hs1];refine h _ _ (sb1.trans (KD ..)) ⟨_,_,_,hg3,r3,by rw[r4,osz],by rw[osz,his,hes];simp,.inr ⟨r2,by rw[osz,his];symm⟩,fun e he=>hash' e (op.mem_iff.mp he)⟩
  ·rw[Bool.not_eq_true]at hfull;rw[hfull,JK (by decide)];refine Jq ?_;rw[hs1];refine h _ _ sb1 ⟨_,_,_,hg,hpd,by rw[hps,his,hts],by rw[his,hes];simp,?_,hash'⟩;have hfu:¬((t.put j).1.place.size+(t.put j).1.dummies.size)*5≥(t.put j).1.mask*3:=by
    have q:=hfull;unfold SetTable.tooFull SetTable.fill at q;exact of_decide_eq_false q
   rw[hps,hpd,hpm,hts]at hfu;have hz:(#[]:Array Nat).size=0:=rfl;rw[hz]at hfu;rw[his,hpm];symm
 by_cases hpl:(t.put j).1.plain=true
 ·rw[JL hpl];refine Jm (gj hk1 ?_);exact last
 ·rw[JK hpl];refine Jm (Jq ?_);exact last
def uK(h:Heap)(vs:List Value)(ps:List (Int×Int)):Prop:=∀(i:Nat) (v:Value),vs[i]?=some v->∃a p,v=.ref a/\ps[i]?=some p/\IsTupleKey (intKind prog w) h [p.1,p.2] a
theorem vI(x:IsTupleKey (intKind prog w) h [u,v] a)(ho:h.get? S=some { cls:=.type "set",dict:=none,data:=.set es ep t })
  (sb:∀b o,b≠S->h.get? b=some o->h'.get? b=some o):IsTupleKey (intKind prog w) h' [u,v] a:=by
 obtain⟨o,items,n,e,c,d,i⟩:=x;refine⟨o,items,n,sb a o ?_ e,c,d,i⟩;rintro rfl;rw[ho]at e;cases e;cases d
theorem rM(hu:A.units+1<cLine)(hh:A.in1.handled=none)(hlen:vs.length=ps.length)(hl15:ps.length≤15)(hnd:ps.Nodup)(hin:∀p∈ps,p∈prs)
  (hSI:S≠I) (hSl:S≠l) (hlI:l≠I):∀(k i:Nat) (s:Shared),ps.length - i=k->i≤ps.length->s.heap.IsListIter I l i->s.heap.IsList l vs.toArray->uK (prog:=prog) (w:=w) s.heap vs ps->i7 s.heap S (ps.take i) ->
   (∀h' tk,(∀b o,b≠S->b≠I->s.heap.get? b=some o->h'.get? b=some o)->i7 h' S ps->R (.ok (.ret .none)) { s with heap:=h',toks:=tk }) ->
   codeAny (model prog w) A (.builtin "set.update.loop" ⟨[.ref S,.ref I],[]⟩) R s:=by
 intro k
 induction k with
 | zero =>
  intro i s hk hi hit hl hT hP hR;have e:i=ps.length:=by symm
  subst e;rw[JX]at hP;refine J5 K3 ?_;rw[Kc Ko _];show wpAny _ A.in1 (pyNext (.ref I) >>= _) _ _ s;refine Jm (wpAny_pyNext_list_end hh hit hl (by simp[hlen]) fun h' eb=>?_);show wpAny _ A.in1 (ret Value.none) _ _ _;refine Jq (hR h' s.toks (fun b o _ hb e=>eb b o hb e) ?_);obtain⟨es,ep,t,ho,r⟩:=hP.is;exact⟨es,ep,t,eb S _ hSI ho,r⟩
 | succ k ih =>
  intro i s hk hi hit hl hT hP hR;have hlt:i<ps.length:=by symm
  have hvi:vs[i]?=some vs[i]:=Jo (by symm);obtain⟨a,p,ev,ep,key⟩:=hT i _ hvi;refine J5 K3 ?_;rw[Kc Ko _];show wpAny _ A.in1 (pyNext (.ref I) >>= _) _ _ s;refine Jm (wpAny_pyNext_list_item hit hl (x:=.ref a) (by rw[←ev];simp) fun h1 hit1 sb1=>?_);have k1:∀b o,b≠I->s.heap.get? b=some o->h1.get? b=some o:=fun b o hb e=>sb1.extBut b o hb e;obtain⟨es,epo,t,ho,r⟩:=id hP.is;have hP1:i7 h1 S (ps.take i):=⟨es,epo,t,k1 S _ hSI ho,r⟩;have key1:IsTupleKey (intKind prog w) h1 [p.1,p.2] a:=by
   obtain⟨o,items,n,e,c,d,ii⟩:=key;refine⟨o,items,n,k1 a o ?_ e,c,d,ii⟩;rintro rfl;obtain⟨oi,hoi,hci,_⟩:=hit;rw[hoi]at e;cases e;rw[hci]at c;exact absurd c (by decide)
  show wpAny _ A.in1 (holding [Value.ref a] (setAdd S (.ref a)) >>= _) _ _ _;have hmem:p∈ps:=JH ep;have hnot:p∉ps.take i:=fun hm=>by
   obtain⟨j,hj,e⟩:=List.mem_iff_getElem.mp hm;rw[List.getElem_take]at e;rw[J6]at hj;obtain⟨hi',e'⟩:=JE.mp ep;have:=(List.getElem_inj hnd (h₀:=by symm) (h₁:=hi')).mp (e.trans e'.symm);symm
  refine Jm (Kb (lE (u:=p.1) (v:=p.2) (A:=A.in1) (by show A.units+1<cLine;exact hu) key1 hP1 (hin p hmem) (fun q hq=>hin q (List.mem_of_mem_take hq)) hnot (by rw[J6];symm) fun h2 tk sb2 hP2=>?_));have k2:∀b o,b≠S->h1.get? b=some o->h2.get? b=some o:=fun b o hb e=>sb2.extBut b o hb e;have et:ps.take i++[p]=ps.take (i+1):=by rw[Ly,ep];rfl
  refine Jq ⟨plainId_quiet Ko _,ih (i+1) { s with heap:=h2,toks:=tk } (by symm) (by symm) (hit1.extBut (fun b o hb e=>k2 b o hb e) (Ne.symm hSI)) ?_ ?_ (by rw[←et];exact hP2) ?_⟩
  ·exact(hl.extBut (fun b o hb e=>k1 b o hb e) hlI).extBut (fun b o hb e=>k2 b o hb e) (Ne.symm hSl)
  ·intro j v hv;obtain⟨a',p',e1',e2',key'⟩:=hT j v hv;refine⟨a',p',e1',e2',vI ?_ (k1 S _ hSI ho) k2⟩;obtain⟨o,items,n,e,c,d,ii⟩:=key';refine⟨o,items,n,k1 a' o ?_ e,c,d,ii⟩;rintro rfl;obtain⟨oi,hoi,hci,_⟩:=hit;rw[hoi]at e;cases e;rw[hci]at c;exact absurd c (by decide)
  ·intro h3 tk3 kp hP3;exact hR h3 tk3 (fun b o hb hb' e=>kp b o hb hb' (k2 b o hb (k1 b o hb' e))) hP3
set_option maxHeartbeats 4000000 in
theorem iQ(hu:A.units+8<cLine)(hh:A.handled=none)(hl:s.heap.IsList l vs.toArray)(hlen:vs.length=ps.length)(hl15:ps.length≤15)
  (hnd:ps.Nodup) (hin:∀p∈ps,p∈prs) (hT:uK (prog:=prog) (w:=w) s.heap vs ps)
  (h:∀h' tk,(∀b o,b<s.heap.objs.size->s.heap.get? b=some o->h'.get? b=some o)->i7 h' s.heap.objs.size ps->Q (.ref s.heap.objs.size) { s with heap:=h',toks:=tk }) :
  wpAny (model prog w) A (call (.type "set") [.ref l]) Q E s:=by
 obtain⟨c0,tl0,mro0⟩:=F.called_set.mro;have made0:=F.called_set.made;have sub0:=F.called_set.sub;have nt0:=F.called_set.notType;have cc0:=F.called_set.canCreate;have tc0:=F.typeCall_set_1 (.ref l);refine wpAny_call (codeAny_of_tree ?_);show wpAny _ _ (callAny (.type "set") _) _ _ _;refine Jq ⟨Lp _ (by decide +kernel),J5 F.entry_type_call ?_⟩;rw[Around.under_plain (weight_type_call_type "set" [.ref l] []) rfl]
 and_intros
 refine K5 (code_set_new_1 (.ref l) (E:=E) (Q₁:=fun obj s1=>∃led:Bool,obj=.ref s.heap.objs.size /\
  s1={ s with heap:=s.heap.push { cls:=.type "set",dict:=none,data:=.set #[] 0 (.fresh 0 0 led) } }) fun led=>⟨led,rfl,rfl⟩) fun r s1 hr=>?_
 cases r with
 | error e=>exact hr
 | ok fl =>
  cases fl with
  | ret obj =>
   obtain⟨led,rfl,rfl⟩:=hr;generalize hH:s.heap.push { cls:=.type "set",dict:=none,data:=.set #[] 0 (.fresh 0 0 led) }=H1;have hS:H1.get? s.heap.objs.size=some { cls:=.type "set",dict:=none,data:=.set #[] 0 (.fresh 0 0 led) }:=by rw[←hH];exact JA _ rfl
   have old:∀b o,s.heap.get? b=some o->H1.get? b=some o:=fun b o e=>by rw[←hH];exact Js _ e
   have hsz:H1.objs.size=s.heap.objs.size+1:=by rw[←hH,LC]
   have tyS:Shared.TypeIs { s with heap:=H1 } (.ref s.heap.objs.size) "set":=⟨_,hS,rfl⟩;have li0:=F.called_set.init.lookup;have bi0:=F.called_set.init.bind (.ref s.heap.objs.size)
   and_intros
   refine K5 (codeAny_call_builtin (R:=wants (fun r s2=>r=.none/\∃h' tk,s2={ s with heap:=h',toks:=tk }/\i7 h' s.heap.objs.size ps /\
    (∀b o,b<s.heap.objs.size->s.heap.get? b=some o->h'.get? b=some o)) E) F.called_set.init.plain F.entry_set_init (check_set_init_1 tyS ?_)) fun r2 s2 hr2=>?_
   ·obtain⟨ol,hol,hcl,nl,hdl⟩:=hl;obtain⟨oc,od,oda,osl⟩:=ol;simp only at hcl hdl;subst hcl;subst hdl;have hol1:H1.get? l=some { cls:=.type "list",dict:=od,data:=.seq vs.toArray nl,slots:=osl }:=old _ _ hol;have sls:=F.sub_list_set;have slf:=F.sub_list_frozenset;have nld:(Value.type "list"==Value.type "dict")=false:=by decide
    have hl1:H1.IsList l vs.toArray:=⟨_,hol1,rfl,nl,rfl⟩;have llt:l<s.heap.objs.size:=Jv hol;unfold Builtin.«set.__init__» noKeywords Builtin.Frozenset.updateFrom;generalize hPI:pyIter=PI
    wp_walk
    subst hPI;refine wpAny_pyIter_list hl1 ?_;refine Jm (wpAny_runValue ?_);generalize hH2:H1.push { cls:=.type "list_iterator",data:=.fields #[.ref l,.int 0 0] }=H2;have old2:∀b o,H1.get? b=some o->H2.get? b=some o:=fun b o e=>by rw[←hH2];exact Js _ e
    refine rM (l:=l) (ps:=ps) (vs:=vs) (by show A.units+1+1+1<cLine;symm) (by simp[hh]) hlen hl15 hnd hin (by show s.heap.objs.size≠H1.objs.size;rw[hsz];exact JG (Nat.lt_succ_self _)) (LD llt) (by show l≠H1.objs.size;rw[hsz];exact JG (KU llt)) ps.length 0 _ (by symm) (K1 _) ?_ ?_ ?_ ?_ ?_
    ·rw[←hH2];exact⟨_,JA _ rfl,rfl,rfl⟩
    ·exact⟨_,old2 _ _ hol1,rfl,nl,rfl⟩
    ·intro i v hv;obtain⟨a,p,e1,e2,o,items,n,e,r⟩:=hT i v hv;exact⟨a,p,e1,e2,o,items,n,old2 _ _ (old _ _ e),r⟩
    ·exact⟨#[],0,.fresh 0 0 led,old2 _ _ hS,rfl,rfl,rfl,.inl ⟨rfl,by decide⟩,fun e he=>by simp at he⟩
    ·intro h' tk kp hP;show wpAny _ _ (pure ()) _ _ _;refine Jq ?_;show wpAny _ _ (ret Value.none) _ _ _;refine Jq ⟨rfl,h',tk,rfl,hP,fun b o hb e=>?_⟩;refine kp b o (JG hb) ?_ (old2 _ _ (old _ _ e));show b≠H1.objs.size;rw[hsz];exact JG (KU hb)
   ·cases r2 with
    | error e=>exact hr2
    | ok f2 =>
     cases f2 with
     | ret r =>
      obtain⟨rfl,h',tk,rfl,hP,hk⟩:=hr2
      and_intros
      exact h _ _ hk hP
     | _=>exact hr2.elim
  | _=>exact hr.elim
end
end SP
namespace L2
variable {X:Cx}
def xt(S:Addr)(n:Nat):Heap->Prop:=fun h=>∃es ep t,h.get? S=some { cls:=.type "set",dict:=none,data:=.set es ep t }/\es.size=n/\t.fits es.size=true
def Prs(K:PySem.W.Frag)(H:Hp)(us:List V)(ps:List (Int×Int)):Prop:=Paired (fun(u:V) (p:Int×Int)=>∃t,u=.ref t/\SqT K H t [.int p.1,.int p.2]) us ps
theorem kG{K:PySem.W.Frag}{H:Hp}:∀{us:List V} {ps:List (Int×Int)} {i:Nat} {u:V},Prs K H us ps->us[i]?=some u->∃p t,ps[i]?=some p/\u=.ref t/\SqT K H t [.int p.1,.int p.2]
 | [],_,i,u,_,e=>by simp at e
 | _::_,_::_,0,u,.cons h _,e=>by
  obtain⟨t,h1,h2⟩:=h;simp at e;subst e;exact⟨_,t,by simp,h1,h2⟩
 | _::_,_::_,i+1,u,.cons _ t,e=>by
  obtain⟨p,a,e1,e2⟩:=kG (i:=i) (u:=u) t (by simpa using e);exact⟨p,a,by simpa using e1,e2⟩
theorem kg{K:PySem.W.Frag}(h:Prs K H us ps):us.length=ps.length:=Paired.length h
theorem rD(hc:X.calm=true)(hu:X.A.units+64<cLine):cf X (.type "set") (fun xs H Q=>∃(a:Addr) (us:List V) (ps:List (Int×Int)),xs=[.ref a]/\SqL X.K H a us/\Prs X.K H us ps/\ps.Nodup/\(∀p∈ps,p∈SP.prs)/\ps.length≤15/\∀S,H S=none->Q (.ref S) (upd H S (.ext (xt S ps.length)))):=by
 intro pins s σ H xs us Q I r h;obtain⟨a,ws,ps,rfl,hq,hP,nd,hin,h15,q⟩:=h;obtain⟨u,rfl,ru⟩:=Vals.one r;cases ru;obtain⟨its,rv,p,hz⟩:=I.list hq;have hlen:its.length=ps.length:=rv.length.symm.trans (kg hP);refine SP.iQ (by symm) (I.ok.hd hc) p.isList hlen h15 nd hin ?_ fun h' tk kp P=>?_
 ·intro i v hv;have hi:i<ws.length:=by rw[rv.length];exact(JE.mp hv).1
  obtain⟨pr,t,e1,e2,hs⟩:=kG (i:=i) hP (Jo hi);obtain⟨u,eu,ru⟩:=rv.get (Jo hi);rw[hv]at eu;cases eu;rw[e2]at ru;cases ru;obtain⟨is,r2,⟨o,ho,hcl,n,hd⟩,_⟩:=I.tuple hs;obtain⟨x,y,rfl,rx,ry⟩:=vals2 r2;obtain⟨t1,rfl⟩:=rx;obtain⟨t2,rfl⟩:=ry;exact⟨t,pr,rfl,e1,o,_,n,ho,hcl,hd,.cons (by simp[intKind,Value.isInt]) (.cons (by simp[intKind,Value.isInt]) .nil)⟩
 ·have hn:H s.heap.objs.size=none:=I.hok.fresh (Jy _);obtain⟨es,ep,t,ho,hd,hp,hl,hm,_⟩:=P.is;have hf:t.fits es.size=true:=SP.fits_of hd hp (by rcases hm with⟨e,k⟩ |⟨e,k⟩<;>symm);refine⟨.ref s.heap.objs.size,_,I.laid (t':=tk) (o:=.ext (xt s.heap.objs.size ps.length)) (fun b o e=>kp b o (Jv e) e) (Jy _) ?_,rfl,q _ hn⟩;exact⟨⟨es,ep,t,ho,hl,hf⟩,⟨_,ho⟩,fun h1 h2 y_ k=>by obtain⟨es,ep,t,e,l,f⟩:=y_;exact ⟨es,ep,t,k _ e,l,f⟩⟩
theorem qW:cf X (.builtin "len") (fun xs H Q=>∃(S:Addr) (n:Nat),xs=[.ref S]/\H S=some (.ext (xt S n))/\n<1000/\Q (.int n) H):=by
 intro pins s σ H xs us Q I r h;obtain⟨S,n,rfl,hS,hn,q⟩:=h;obtain⟨u,rfl,ru⟩:=Vals.one r;cases ru;obtain⟨⟨es,ep,t,ho,hl,hf⟩,_,_⟩:=(show bP X.prog X.w H s.heap S (.ext (xt S n))from I.hok S _ hS);subst hl;exact call_len_set ho ⟨rfl,rfl,rfl⟩ rfl hf (by symm) ⟨.int es.size,H,I.tok _,⟨_,rfl⟩,q⟩
end L2
namespace U
open L2
section
variable {B:Bs}{X:Cx}{e:Expr}{ta:TE'}{p p2 pos pos2:Pos}
def prV(p:Int×Int):PV:=.tup [.int p.1,.int p.2]
theorem nY{K:PySem.W.Frag}{H:Hp}:∀{ps:List (Int×Int)} {us:List V},RPs K H (ps.map prV) us->Prs K H us ps
 | [],us,h=>by
  have:us=[]:=by simpa[RPs]using h
  subst this;exact .nil
 | q::ps,us,h=>by
  simp only[JF,RPs,RP,prV]at h;obtain⟨u,r,rfl,⟨t,ws,rfl,hs,w1,r1,rfl,rfl,w2,r2,rfl,rfl,rfl⟩,h2⟩:=h;exact .cons ⟨t,rfl,hs⟩ (nY h2)
def r9(x:PV)(H:PHp)(Q:VK'):Prop:=match x with
 | .ref a=>∃ps:List (Int×Int),H a=some (.lst (ps.map prV))/\ps.Nodup/\(∀p∈ps,p∈SP.prs)/\ps.length≤15/\Q (.int ps.length) H
 | _=>False
def qd(ta:TE'):TE':=fun σ H Q=>ta σ H fun x H1=>r9 x H1 Q
theorem oh(hc:X.calm=true)(hu:X.A.units+64<cLine)(hgl:Gl X "len")(hml:X.mg "len"=none)(hgs:Gl X "set")(hms:X.mg "set"=none)(bs:bootBuiltins "set"=some (.type "set"))(ha:PE' X B e ta)
  (he:starEach [.Call (.Name "set" p2) [e] [] pos2] X.env=[(false,eval (.Call (.Name "set" p2) [e] [] pos2) X.env)]:=by rfl) (he2:starEach [e] X.env=[(false,eval e X.env)]:=by rfl) :
  PE' X B (.Call (.Name "len" p) [.Call (.Name "set" p2) [e] [] pos2] [] pos) (qd ta) :=
 aS (cF qW hgl hml JJ (bE (cU (rD hc hu) hgs hms bs (bE ha bY he2) (by decide) (by decide) he2 rfl) bY he) (by decide) (by decide) he rfl) fun σ H Q h=>by
  obtain⟨σ',H',Q',s,h,k⟩:=h;refine⟨σ',H',_,s,h,fun x' H1' x H1 h1 rx s1 e1=>?_⟩;cases x' with
  | ref a =>
   obtain⟨ps,ea,nd,hin,h15,q⟩:=h1;simp only[RP]at rx;subst rx;obtain⟨us,eg,r2⟩:=s1.hp _ _ ea;refine⟨a,us,ps,rfl,.inl (.inl eg),nY r2,nd,hin,h15,fun S hS=>?_⟩;exact⟨S,ps.length,rfl,bj,by symm,k _ _ _ _ q (by simp[RP]) (s1.hid hS) (e1.trans (Ev.hid hS))⟩
  | _=>exact h1.elim
end
section
variable {B:Bs}{X:Cx}{a b:Expr}{ta tb:TE'}{pos:Pos}
def CH:R2':=uI (fun _ j=>0≤j) fun i j=>.int (i / 2 ^ j.toNat)
def zA:R2':=uI0 fun i j=>.int (Builtin.bitAnd i j)
theorem AN(ha:PE' X B a ta)(hb:PE' X B b tb):PE' X B (.BinOp a .RShift b pos) (uOp CH ta tb):=eW Ax (vL fun _ _ _=>by simp[RP]) ha hb
theorem wL(ha:PE' X B a ta)(hb:PE' X B b tb):PE' X B (.BinOp a .BitAnd b pos) (uOp zA ta tb):=eW BC (iH fun _ _ _=>by simp[RP]) ha hb
end
end U
namespace ST
open PySem.W
def key(K:Nat->Int)(p:Array Nat)(i:Nat):Int:=K ((p[i]?).getD 0)
structure Ok (n:Nat) (p:Array Nat):Prop where
 perm:p.toList.Perm (List.range n)
def S(K:Nat->Int)(p:Array Nat)(m:Nat):Prop:=∀i j,i<j->j<m->key K p i<key K p j
theorem Ok.size(h:Ok n p):p.size=n:=by
 have:=h.perm.length_eq;simpa using this
theorem Ok.lt(h:Ok n p)(h0:0<n)(i:Nat):p.getD i 0<n:=by
 rw[Array.getD_eq_getD_getElem?];cases e:p[i]? with
 | none=>exact h0
 | some x =>
  have:x∈p.toList:=by
   obtain⟨hi,rfl⟩:=Array.getElem?_eq_some_iff.mp e;simp
  exact J1.mp (h.perm.mem_iff.mp this)
theorem Ok.of(h:Ok n p)(r:q.Perm p):Ok n q:=⟨(Array.perm_iff_toList_perm.mp r).trans h.perm⟩
section
variable {cmp:Nat->Nat->(Bool->Shared->Prop)->Shared->Prop}{s:Shared}{n:Nat}{K:Nat->Int}{p:Array Nat}
theorem Ok.ne(hK:∀i j,i<n->j<n->K i=K j->i=j)(h:Ok n p){i j:Nat}(hi:i<n)(hj:j<n)(hne:i≠j):key K p i≠key K p j:=by
 intro e;have hs:=h.size;have h0:0<n:=by symm
 unfold key at e;rw[JO (by symm),JO (by symm)]at e;simp only[Option.getD_some]at e;have nd:p.toList.Nodup:=(h.perm.nodup_iff).mpr List.nodup_range;have l1:p[i]<n:=by have:=h.lt h0 i;rwa [Array.getD_eq_getD_getElem?,JO (by symm)]at this
 have l2:p[j]<n:=by have:=h.lt h0 j;rwa [Array.getD_eq_getD_getElem?,JO (by symm)]at this
 have q:=hK _ _ l1 l2 e;have:i=j:=by
  exact(List.getElem_inj nd (h₀:=by simpa[hs]using hi) (h₁:=by simpa[hs]using hj)).mp (by simpa using q)
 exact hne this
theorem nj(K:Nat->Int)(p:Array Nat)(i:Nat):K (p.getD i 0)=key K p i:=by
 unfold key;rw[Array.getD_eq_getD_getElem?]
variable (hc:∀i j C,i<n->j<n->C (decide (K i<K j)) s->cmp i j C s)(hK:∀i j,i<n->j<n->K i=K j->i=j)
include hc
theorem iE(h0:0<n)(ok:Ok n p){i j:Nat}(h:G (decide (key K p i<key K p j)) s):cmp (p.getD i 0) (p.getD j 0) G s:=by
 refine hc _ _ _ (ok.lt h0 i) (ok.lt h0 j) ?_;rw[nj K p i,nj K p j];exact h
include hK
theorem gu(ok:Ok n p)(hi:i<n)(hj:j<n)(hne:i≠j)(h:¬key K p i<key K p j):key K p j<key K p i:=by
 have:=ok.ne hK hi hj hne;symm
theorem asc(ok:Ok n p):∀(f m:Nat) {G:Nat->Shared->Prop},1≤m->m+f≤n->S K p m ->
  (∀m',m≤m'->m'≤m+f->S K p m'->(m'<m+f->key K p m'<key K p (m' - 1))->G m' s)->(kas_asc p f m).kasWp cmp G s
 | 0,m,G,_,_,hS,h=>h m (Jy _) (Jy _) hS fun q=>absurd q (Lm _)
 | f+1,m,G,h1,hm,hS,h=>by
  refine iE hc (by symm) ok (G:=fun c s'=>(if c=true then KasT.ret m else kas_asc p f (m+1)).kasWp cmp G s') ?_;by_cases q:key K p m<key K p (m - 1)
  ·rw[J2 q];show G m s;exact h m (Jy _) (by symm) hS fun _=>q
  ·rw[KG q];show(kas_asc p f (m+1)).kasWp cmp G s;have q':=gu hc hK ok (by symm) (by symm) (by symm) q;refine asc ok f (m+1) (by symm) (by symm) ?_ fun m' a b c d=>h m' (by symm) (by symm) c fun e=>d (by symm);intro i j hij hj;by_cases hjm:j<m
   ·exact hS i j hij hjm
   ·have:j=m:=by symm
    subst this;by_cases him:i=j - 1
    ·subst him;exact q'
    ·have:=hS i (j - 1) (by symm) (by symm);symm
theorem desc(ok:Ok n p):∀(f m:Nat) {G:Array Nat×Nat×Nat->Shared->Prop},1≤m->m+f≤n->(∀i j,i<j->j<m->key K p j<key K p i) ->
  (∀m',m≤m'->m'≤m+f->(∀i j,i<j->j<m'->key K p j<key K p i)->G (p,m',0) s)->(kas_desc f p m 0).kasWp cmp G s
 | 0,m,G,_,_,hS,h=>h m (Jy _) (Jy _) hS
 | f+1,m,G,h1,hm,hS,h=>by
  refine iE hc (by symm) ok (G:=fun c s'=>(if c=true then(if 0>0 then kas_desc f (kas_rev p (m - (0+1)) m) (m+1) 0 else kas_desc f p (m+1) 0)
   else KasT.ask (p.getD (m - 1) 0) (p.getD m 0) fun d=>if d=true then KasT.ret (p,m,0)else kas_desc f p (m+1) (0+1)).kasWp cmp G s') ?_
  by_cases q:key K p m<key K p (m - 1)
  ·rw[J2 q,JL rfl,JK (by symm)];refine desc ok f (m+1) (by symm) (by symm) ?_ fun m' a b c=>h m' (by symm) (by symm) c;intro i j hij hj;by_cases hjm:j<m
   ·exact hS i j hij hjm
   ·have:j=m:=by symm
    subst this;by_cases him:i=j - 1
    ·subst him;exact q
    ·have:=hS i (j - 1) (by symm) (by symm);symm
  ·rw[KG q];have q':=gu hc hK ok (by symm) (by symm) (by symm) q;refine iE hc (by symm) ok (G:=fun d s'=>(if d=true then KasT.ret (p,m,0)else kas_desc f p (m+1) (0+1)).kasWp cmp G s') ?_;rw[J2 q',JL rfl];exact h m (Jy _) (by symm) hS
theorem qr(ok:Ok n p)(hm:m≤n)(i:Nat):key K (kas_rev p 0 m) i=if i<m then key K p (m - 1 - i)else key K p i:=by
 unfold key kas_rev;rw[getElem?_mirror_all (by rw[ok.size];exact hm)];by_cases h:i<m
 ·rw[JL ⟨K1 _,h⟩,JL h];congr 3;symm
 ·rw[JK (by symm),JK h]
theorem count(ok:Ok n p)(h1:1≤n)(h:∀m p',Ok n p'->1≤m->m≤n->S K p' m->G (m,p') s):(kas_count n p).kasWp cmp G s:=by
 unfold kas_count;rw[KasT.kasWp_bind];refine asc hc hK ok (n - 1) 1 (Jy _) (by symm) (fun i j a b=>by symm) fun m' a b hS st=>?_;by_cases e:m'=n
 ·subst e;rw[JL (by simp)];exact h _ _ ok (by symm) (Jy _) hS
 ·rw[JK (by simpa using e)];by_cases e1:m'>1
  ·rw[JL e1];refine iE hc (by symm) ok (G:=fun c s'=>(if c=true then KasT.ret (m',p)else kas_descPart m' n (kas_rev p 0 m')).kasWp cmp G s') ?_;rw[J2 (hS 0 (m' - 1) (by symm) (by symm)),JL rfl];exact h _ _ ok (by symm) (by symm) hS
  ·rw[JK e1];have:m'=1:=by symm
   subst this;unfold kas_descPart;rw[KasT.kasWp_bind];have st1:=st (by symm);refine desc hc hK ok (n - (1+1)) (1+1) (by symm) (by symm) (fun i j hij hj=>?_) fun m' a b hD=>?_
   ·have h1:j=1:=by symm
    have h2:i=0:=by symm
    subst h1;subst h2;exact st1
   ·rw[JK (by simp)];unfold kas_tail3;rw[KasT.kasWp_bind];have ok2:Ok n (kas_rev p 0 m'):=ok.of (mirror_perm _ _ _ _);refine asc hc hK ok2 (n - m') m' (by symm) (by symm) (fun i j hij hj=>?_) fun m2 a2 b2 hS2 _=>?_
    ·rw[qr hc hK ok (by symm),qr hc hK ok (by symm),JL (by symm),JL hj];exact hD _ _ (by symm) (by symm)
    ·exact h m2 _ ok2 (by symm) (by symm) hS2
theorem place(ok:Ok n p){k:Nat}(hk:k<n)(hS:S K p k):∀(f l r:Nat) {G:Nat->Shared->Prop},l≤r->r≤k->r - l≤f->(∀i,i<l->key K p i<key K p k)->(∀i,r≤i->i<k->key K p k<key K p i) ->
  (∀l',l'≤k->(∀i,i<l'->key K p i<key K p k)->(∀i,l'≤i->i<k->key K p k<key K p i)->G l' s)->(kas_place p k f l r).kasWp cmp G s
 | 0,l,r,G,h1,h2,h3,ha,hb,h=>h l (by symm) ha fun i x y=>hb i (by symm) y
 | f+1,l,r,G,h1,h2,h3,ha,hb,h=>by
  unfold kas_place;by_cases e:l≥r
  ·rw[JL e];exact h l (by symm) ha fun i x y=>hb i (by symm) y
  ·rw[JK e];refine iE hc (by symm) ok (G:=fun c s'=>(if c=true then kas_place p k f l ((l+r) / 2)else kas_place p k f ((l+r) / 2+1) r).kasWp cmp G s') ?_;have hmid:(l+r) / 2<k:=by symm
   generalize hm:(l+r) / 2=mid at *;by_cases q:key K p k<key K p mid
   ·rw[J2 q,JL rfl];refine place ok hk hS f l mid (by symm) (by symm) (by symm) ha (fun i x y=>?_) h;by_cases z:i=mid
    ·subst z;exact q
    ·have:=hS mid i (by symm) y;symm
   ·rw[KG q,JK (by simp)];have q':=gu hc hK ok hk (by symm) (by symm) q;refine place ok hk hS f (mid+1) r (by symm) h2 (by symm) (fun i x=>?_) hb h;by_cases z:i=mid
    ·subst z;exact q'
    ·have:=hS i mid (by symm) hmid;symm
theorem pX(ok:Ok n p)(hk:k<n)(hl:l≤k)(i:Nat):key K (bubble p k (k - l)) i=if i=l then key K p k else if l<i/\i≤k then key K p (i - 1)else key K p i:=by
 unfold key;rw[getElem?_bubble (by rw[ok.size];exact hk) _ (Nat.sub_le _ _)];rw[show k - (k - l)=l by symm];split
 ·rfl
 ·split<;>rfl
theorem bin:∀(f k:Nat) (p:Array Nat) {G:Array Nat->Shared->Prop},Ok n p->1≤k->k+f=n->S K p k->(∀p',Ok n p'->S K p' n->G p' s)->(kas_bin f p k).kasWp cmp G s
 | 0, k, p, G, ok, h1, h2, hS, h => h p ok (by have : k = n := by symm
                                               subst this; exact hS)
 | f+1,k,p,G,ok,h1,h2,hS,h=>by
  unfold kas_bin;rw[KasT.kasWp_bind];refine place hc hK ok (by symm) hS k 0 k (by symm) (Jy _) (by symm) (fun i x=>by symm) (fun i x y=>by symm) fun l hl ha hb=>?_;refine bin f (k+1) _ (ok.of (bubble_perm _ _ _)) (by symm) (by symm) (fun i j hij hj=>?_) h;rw[pX hc hK ok (by symm) hl,pX hc hK ok (by symm) hl];by_cases c1:i=l
  ·rw[JL c1];rw[JK (by symm),JL (by symm)];exact hb _ (by symm) (by symm)
  ·rw[JK c1];by_cases c2:j=l
   ·rw[JL c2,JK (by symm)];exact ha _ (by symm)
   ·rw[JK c2];by_cases c3:l<i/\i≤k
    ·rw[JL c3,JL (by symm)];exact hS _ _ (by symm) (by symm)
    ·rw[JK c3];by_cases c4:l<j/\j≤k
     ·rw[JL c4];by_cases c5:i=j - 1
      ·symm
      ·exact hS _ _ (by symm) (by symm)
     ·rw[JK c4];exact hS _ _ hij (by symm)
theorem sorts(h1:1≤n)(h:∀p,Ok n p->S K p n->G p s):(kas_sort n).kasWp cmp G s:=by
 unfold kas_sort;rw[KasT.kasWp_bind];refine count hc hK (p:=(List.range n).toArray) ⟨by simp⟩ h1 fun m p' ok a b hS=>?_;show(if m<n then kas_bin (n - max m 1) p' (max m 1)else KasT.ret p').kasWp cmp G s;by_cases e:m<n
 ·rw[JL e,show max m 1=m by symm];exact bin hc hK (n - m) m p' ok a (by symm) hS h
 ·rw[JK e];have:m=n:=by symm
  subst this;exact h p' ok hS
end
end ST
namespace ST
open PySem.W
def pk(p:Int×Int):Int:=6*p.1+p.2
def Tp(h:Heap)(v:Value)(p:Int×Int):Prop:=∃t o k u1 u2,v=.ref t/\h.get? t=some o/\o.cls=.type "tuple"/\o.data=.seq #[.int p.1 u1,.int p.2 u2] k
def Tps(h:Heap)(vs:List Value)(ps:List (Int×Int)):Prop:=vs.length=ps.length/\∀i v,vs[i]?=some v->Tp h v (ps.getD i (0,0))
theorem Tp.kp(x:Tp h v p)(k:∀b o,o.cls=.type "tuple"->h.get? b=some o->h'.get? b=some o):Tp h' v p:=by
 obtain⟨t,o,n,u1,u2,e,ho,hc,hd⟩:=x;exact⟨t,o,n,u1,u2,e,k _ _ hc ho,hc,hd⟩
section
variable {prog:Program}{w:World}{A:Around}{E:Value->Shared->Prop}{s:Shared}
theorem xo(hx:Tp s.heap x p)(hy:Tp s.heap y q)(bp:0≤p.2/\p.2<6)(bq:0≤q.2/\q.2<6)(h:C (decide (pk p<pk q)) s) :
  wpAny (model prog w) A (keyLt' (tuples' true) x y) C E s:=by
 obtain⟨t,o,n,u1,u2,rfl,ho,hc,hd⟩:=hx;obtain⟨t',o',n',w1,w2,rfl,ho',hc',hd'⟩:=hy;refine kat_lt ho hd ho' hd' ?_;show KatLex prog w A true (decide (2<2)) C [(.int p.1 u1,.int q.1 w1),(.int p.2 u2,.int q.2 w2)] 0 s;refine kat_cons (wpAny_eqBool_int ?_);refine kat_go (fun e1=>kat_yes (kat_cons (wpAny_eqBool_int ?_))) (fun e1=>kat_no ?_)
 ·have e1:p.1=q.1:=by simpa using e1
  refine kat_go (fun e2=>kat_yes (kat_nil ?_)) (fun e2=>kat_no ?_)
  ·have e2:p.2=q.2:=by simpa using e2
   have:decide (pk p<pk q)=decide (2<2):=by unfold pk;rw[e1,e2];simp
   rw[←this];exact h
  ·refine kat_one _ _ (PyProof.Rows.lt_int ?_);have:decide (pk p<pk q)=decide (p.2<q.2):=by
    rw[decide_eq_decide];unfold pk;symm
   show C (decide (p.2<q.2)) s;rw[←this];exact h
 ·have e1:¬p.1=q.1:=by simpa using e1
  refine oneLt_int ?_;have:decide (pk p<pk q)=decide (p.1<q.1):=by
   rw[decide_eq_decide];unfold pk;symm
  rw[←this];exact h
theorem o4{h:Heap}:∀{vs:List Value} {ps:List (Int×Int)},Tps h vs ps->∃fs,KatTups h vs fs/\fs.length=vs.length/\∀v∈fs,∃i t,v=.int i t
 | [],ps,_=>⟨[],KatTups.nil,rfl,by simp⟩
 | v::vs,[],x=>by have:=x.1;simp at this
 | v::vs,p::ps,x=>by
  obtain⟨fs,t,l,q⟩:=o4 (h:=h) (vs:=vs) (ps:=ps) ⟨by have:=x.1;simpa using this,fun i v e=>by simpa using x.2 (i+1) v (by simpa using e)⟩;obtain⟨t0,o,n,u1,u2,rfl,ho,hc,hd⟩:=x.2 0 v (by simp);refine⟨.int _ u1::fs,KatTups.cons ho hc hd rfl t,by simp[l],?_⟩;intro z hz;rcases JD.mp hz with rfl | hz
  ·exact⟨_,_,rfl⟩
  ·exact q z hz
theorem gP(ho:s.heap.get? a=some (seqObj "list" vs.toArray n))(hT:Tps s.heap vs ps)(nd:ps.Nodup)
  (hb:∀p∈ps,0≤p.2/\p.2<6) (h64:vs.length<64)
  (h:∀q:List Nat,q.Perm (List.range vs.length)->(q.map fun i=>ps.getD i (0,0)).Pairwise (fun x y=>pk x<pk y)->P (.done (.ret .none)) { s with heap:=sortedHeap s.heap a vs (q.map fun i=>vs.getD i Value.none).toArray }) :
  wpAny (model prog w) A (Builtin.«list.sort» ⟨[.ref a],[]⟩) P E s:=by
 rw[list_sort_plain];have hls:vs.length≤sizeLine:=by rw[J9];symm
 refine Jm (listItems_at ho rfl (Jm ?_));refine(listUpdate_at ho rfl ?_ (by rw[JC];symm) (K1 _));obtain⟨ea0,oa0⟩:∃ea0,(s.heap.update a (Obj.mapSeq fun _=>#[])).get? a=some (seqObj "list" #[] ea0):=⟨_,get?_update_seq ho (fun _=>#[])⟩;refine Jm (seqEpoch_at oa0 rfl ?_);refine Jm (wpAny_newTuple ?_ (by show vs.length≤_;symm));refine Jm (wpAny_newList ?_ (K1 _));refine Kb ?_;have kq0:∀b o,b≠a->s.heap.get? b=some o->(((s.heap.update a (Obj.mapSeq fun _=>#[])).push (seqObj "tuple" vs.toArray 0)).push (seqObj "list" #[] 0)).get? b=some o:=fun b o hne q =>
  Js _ (Js _ (by rw[Heap.get?_update_ne _ _ _ _ hne];exact q))
 have og0:(((s.heap.update a (Obj.mapSeq fun _=>#[])).push (seqObj "tuple" vs.toArray 0)).push (seqObj "list" #[] 0)).get? a=some (seqObj "list" #[] ea0) :=
  Js _ (Js _ oa0)
 have hT6:Tps (((s.heap.update a (Obj.mapSeq fun _=>#[])).push (seqObj "tuple" vs.toArray 0)).push (seqObj "list" #[] 0)) vs ps:=⟨hT.1,fun i v e=>(hT.2 i v e).kp fun b o hcl q=>kq0 b o (fun z=>by
  subst z;rw[ho]at q;cases q;exact absurd hcl (by simp[seqObj])) q⟩
 show wpAny (model prog w) _ _ P _ { s with heap:=((s.heap.update a (Obj.mapSeq fun _=>#[])).push (seqObj "tuple" vs.toArray 0)).push (seqObj "list" #[] 0) };dsimp only;have zq0:vs.toArray.size=vs.length:=by simp
 by_cases hq2:vs.toArray.size<2
 ·rw[JL hq2,JL hq2];refine Jm (Jq ?_);rw[StateT.run_pure];refine Jm (Jq ?_);dsimp only;refine Jm (seqEpoch_at og0 rfl ?_);refine Jm (listUpdate_at og0 rfl ?_ (K1 _) (by rw[Array.size_map];show(pairsOf vs).size≤_;rw[pairsOf_size];symm));simp only[bne_self_eq_false,Bool.false_eq_true,if_false];have hq:=h (List.range vs.length) (K6 _) ?_
  ·have e:(arrOf (SortSt.mk' general' (vs.toArray.zip vs.toArray) #[] 7 none)).map (·.2)=((List.range vs.length).map fun i=>vs.getD i Value.none).toArray:=by
    show(vs.toArray.zip vs.toArray).map (·.2)=_
    match vs,hq2 with
    | [],_=>apply Array.toList_inj.mp;simp
    | [v],_=>apply Array.toList_inj.mp;simp[List.range_succ]
    | _::_::_,hq2=>exact absurd hq2 (by simp)
   refine Jq ?_;rw[e];exact hq
  ·match vs,hq2 with
   | [],_=>exact List.Pairwise.nil
   | [v],_=>exact KN _ _
   | _::_::_,hq2=>exact absurd hq2 (by simp)
 ·rw[JK hq2,JK hq2];obtain⟨fs,hfs,hfl,hfi⟩:=o4 hT6;rw[zq0]at hq2;refine Jm (kat_kind hfs (by symm) (T:=.type "int") (fun v hv=>?_) rfl ?_)
  ·obtain⟨i,t,rfl⟩:=hfi v hv;exact Looks.of_pure rfl
  ·show wpAny (model prog w) A _ P E _;have hinj:∀i j,i<vs.length->j<vs.length->pk (ps.getD i (0,0))=pk (ps.getD j (0,0))->i=j:=by
    intro i j hi hj e;have hi':i<ps.length:=by rw[←hT.1];exact hi
    have hj':j<ps.length:=by rw[←hT.1];exact hj
    have g1:ps.getD i (0,0)=ps[i]:=by rw[Jt,Jo hi'];rfl
    have g2:ps.getD j (0,0)=ps[j]:=by rw[Jt,Jo hj'];rfl
    rw[g1,g2]at e;have b1:=hb _ (JV hi');have b2:=hb _ (JV hj');unfold pk at e;have e2:ps[i]=ps[j]:=Prod.ext (by symm) (by symm);exact(List.getElem_inj nd).mp e2
   refine Jm (Li (kat_run (ks:=vs) (vs:=vs) (κ:=tuples' true)
    (Q:=fun st' s'=>s'={ s with heap:=((s.heap.update a (Obj.mapSeq fun _=>#[])).push (seqObj "tuple" vs.toArray 0)).push (seqObj "list" #[] 0) }/\∃p:Array Nat,Ok vs.length p/\S (fun i=>pk (ps.getD i (0,0))) p vs.length/\arrOf st'=p.map (kas_item (vs.toArray.zip vs.toArray))/\failedOf st'=none)
    (G:=fun p s'=>s'={ s with heap:=((s.heap.update a (Obj.mapSeq fun _=>#[])).push (seqObj "tuple" vs.toArray 0)).push (seqObj "list" #[] 0) }/\Ok vs.length p/\S (fun i=>pk (ps.getD i (0,0))) p vs.length)
    rfl (by symm) h64 (fun p st' s' a1 a2 a3 a4=>⟨a4.1,p,a4.2.1,a4.2.2,a2,a3⟩) ?run) ?post fun _ _ e=>e)
   case run =>
    refine sorts (n:=vs.length) (K:=fun i=>pk (ps.getD i (0,0))) (fun i j C hi hj hC=>?_) hinj (by symm) fun p ok sS=>⟨rfl,ok,sS⟩;unfold kas_ask;have hi':i<ps.length:=by rw[←hT.1];exact hi
    have hj':j<ps.length:=by rw[←hT.1];exact hj
    refine xo (hT6.2 i _ ?_) (hT6.2 j _ ?_) (hb _ ?_) (hb _ ?_) hC
    ·rw[Jt,Jo hi];rfl
    ·rw[Jt,Jo hj];rfl
    ·rw[Jt,Jo hi'];exact JV hi'
    ·rw[Jt,Jo hj'];exact JV hj'
   case post =>
    rintro⟨⟨⟩,st'⟩ s' ⟨rfl,p,ok,sS,har,hf⟩;dsimp only;have hout:=kat_snds (ks:=vs) (vs:=vs) rfl har;have hpz:(List.toArray (p.toList.map fun i=>vs.getD i Value.none)).size=vs.length:=by rw[JC,Jl,KR,ok.size]
    rw[hout];refine Jm (seqEpoch_at og0 rfl ?_);refine Jm (listUpdate_at og0 rfl ?_ (K1 _) (by symm));rw[hf];simp only[bne_self_eq_false,Bool.false_eq_true,if_false];refine Jq (h p.toList ok.perm ?_);rw[KH,List.pairwise_iff_getElem];intro i j hi hj hij;have:=sS i j hij (by rw[←ok.size];simpa using hj);unfold key at this;have hi2:i<p.size:=by simpa using hi
    have hj2:j<p.size:=by simpa using hj
    rw[JO hi2,JO hj2]at this;simpa using this
theorem kj(hl:s.heap.IsList l vs.toArray)(hT:Tps s.heap vs ps)(nd:ps.Nodup)(hb:∀p∈ps,0≤p.2/\p.2<6)(h64:vs.length<64)
  (h:∀q:List Nat,q.Perm (List.range vs.length)->(q.map fun i=>ps.getD i (0,0)).Pairwise (fun x y=>pk x<pk y)->Q (.ref (s.heap.objs.size+1)) { s with heap:=sortedAll s.heap vs (q.map fun i=>vs.getD i Value.none).toArray }) :
  wpAny (model prog w) A (call (.builtin "sorted") [.ref l]) Q E s:=by
 refine Calls.call_function_entry kind_sorted plain_sorted entry_sorted (args_sorted1 _) ?_;unfold Builtin.«sorted»;refine Jm (m:=checkCount "sorted" 1 1 _) (Jq (Jm (collect_list hl (Jm (wpAny_newList ?_ (by rw[J9];symm))) (by rw[J9];symm))));have zq0:((s.heap.push (seqObj "list" #[] 0)).update s.heap.objs.size (Obj.mapSeq (·++vs.toArray))).objs.size=s.heap.objs.size+1:=by
  rw[Heap.size_update,size_push']
 have oq0:(((s.heap.push (seqObj "list" #[] 0)).update s.heap.objs.size (Obj.mapSeq (·++vs.toArray))).push (seqObj "list" vs.toArray 0)).get? (s.heap.objs.size+1)=some (seqObj "list" vs.toArray 0):=by
  rw[←zq0];exact JA _ rfl
 have kq0:∀b o,s.heap.get? b=some o->(((s.heap.push (seqObj "list" #[] 0)).update s.heap.objs.size (Obj.mapSeq (·++vs.toArray))).push (seqObj "list" vs.toArray 0)).get? b=some o:=fun b o q=>by
  have lq0:b<s.heap.objs.size:=Jv q;rw[Heap.get?_push_ne _ _ _ (by rw[zq0];exact JG (KU lq0)),Heap.get?_update_ne _ _ _ _ (JG lq0),Heap.get?_push_ne _ _ _ (JG lq0)];exact q
 show wpAny (model prog w) _ _ _ _ { s with heap:=((s.heap.push (seqObj "list" #[] 0)).update s.heap.objs.size (Obj.mapSeq (·++vs.toArray))).push (seqObj "list" vs.toArray 0) };rw[zq0];refine Jm (Kb (Kt slot_list_sort ⟨_,oq0,rfl⟩ entry_list_sort (gP (ps:=ps) oq0 ⟨hT.1,fun i v e=>(hT.2 i v e).kp fun b o _ q=>kq0 b o q⟩ nd hb h64 fun q a1 a2=>⟨_,rfl,?_⟩) (args_list_sort _)));exact Jq ⟨_,rfl,h q a1 a2⟩
end
end ST
namespace L2
variable {X:Cx}
def vW(K:PySem.W.Frag):List V->Hp->VK->Prop:=fun xs H Q=>∃(a:Addr) (us:List V) (ps:List (Int×Int)),xs=[.ref a]/\SqL K H a us/\Prs K H us ps/\ps.Nodup/\(∀p∈ps,0≤p.2/\p.2<6)/\ps.length<64 /\
 ∀(r:Addr) (q:List Nat),H r=none->q.Perm (List.range ps.length)->(q.map fun i=>ps.getD i (0,0)).Pairwise (fun x y=>ST.pk x<ST.pk y)->Q (.ref r) (upd H r (.lst (q.map fun i=>us.getD i .non)))
theorem jP{us:List V}{vs:List Value}(r:Vals us vs):∀(q:List Nat),(∀i∈q,i<us.length)->Vals (q.map fun i=>us.getD i .non) (q.map fun i=>vs.getD i Value.none)
 | [],_=>.nil
 | i::q,h=>by
  have hi:=h i Jw;obtain⟨u,eu,ru⟩:=r.get (Jo hi);refine .cons ?_ (jP r q fun j hj=>h j (Jz _ hj));dsimp only;rw[Jt,Jo hi,Jt,eu];exact ru
theorem hU:cf X (.builtin "sorted") (vW X.K):=by
 intro pins s σ H xs us Q I r h;obtain⟨a,ws,ps,rfl,hq,hP,nd,hb,h64,q⟩:=h;obtain⟨u,rfl,ru⟩:=Vals.one r;cases ru;obtain⟨its,rv,p,hz⟩:=I.list hq;have hlen:its.length=ps.length:=rv.length.symm.trans (kg hP);refine ST.kj (ps:=ps) p.isList ⟨hlen,fun i v hv=>?_⟩ nd hb (by symm) fun qs h1 h2=>?_
 ·have hi:i<ws.length:=by rw[rv.length];exact(JE.mp hv).1
  obtain⟨pr,t,e1,e2,hs⟩:=kG (i:=i) hP (Jo hi);obtain⟨u,eu,ru⟩:=rv.get (Jo hi);rw[hv]at eu;cases eu;rw[e2]at ru;cases ru;obtain⟨is,r2,⟨o,ho,hcl,n,hd⟩,_⟩:=I.tuple hs;obtain⟨x,y,rfl,rx,ry⟩:=vals2 r2;obtain⟨t1,rfl⟩:=rx;obtain⟨t2,rfl⟩:=ry;refine⟨t,o,n,t1,t2,rfl,ho,hcl,?_⟩;rw[Jt,e1];exact hd
 ·have hn:H (s.heap.objs.size+1)=none:=I.hok.fresh (Nat.le_succ _);obtain⟨e,he⟩:=sortedAll_at s.heap its (qs.map fun i=>its.getD i Value.none).toArray;rw[hlen]at h1;have hin:∀i∈qs,i<ws.length:=fun i hi=>by
   have:=J1.mp (h1.mem_iff.mp hi);rw[kg hP];exact this
  have hv:=jP rv qs hin;have hz2:(qs.map fun i=>ws.getD i V.non).length≤sizeLine:=by rw[Jl,h1.length_eq,KW,J9];symm
  refine⟨.ref (s.heap.objs.size+1),_,I.laid (t':=s.toks) (o:=.lst (qs.map fun i=>ws.getD i V.non)) (fun b o e=>sortedAll_old e) (Nat.le_succ _) ?_,rfl,q _ qs hn h1 h2⟩;exact⟨hz2,_,e,hv,he⟩
end L2
namespace U
open L2
section
variable {B:Bs}{X:Cx}{a b:Expr}{ta tb:TE'}{pos:Pos}
def sQ:List PV->PHp->VK'->Prop:=de fun x H Q=>match x with
 | .ref a=>∃ps:List (Int×Int),H a=some (.lst (ps.map prV))/\ps.Nodup/\(∀p∈ps,0≤p.2/\p.2<6)/\ps.length<64/\∀(r:Addr) (qs:List (Int×Int)),H r=none->qs.Perm ps->qs.Pairwise (fun x y=>ST.pk x<ST.pk y)->Q (.ref r) (put H r (.lst (qs.map prV)))
 | _=>False
theorem mF{K:PySem.W.Frag}{H:Hp}{ps:List (Int×Int)}{us:List V}(r:RPs K H (ps.map prV) us):∀(q:List Nat),(∀i∈q,i<ps.length)->RPs K H ((q.map fun i=>ps.getD i (0,0)).map prV) (q.map fun i=>us.getD i V.non)
 | [],_=>RPs.nil _
 | i::q,h=>by
  have hi:=h i Jw;obtain⟨u,eu,ru⟩:=RPs.get _ (i:=i) (x:=prV ps[i]) r (by rw[JI,Jo hi];rfl);refine RPs.cons _ ?_ (mF r q fun j hj=>h j (Jz _ hj));dsimp only;rw[Jt,Jo hi,Jt,eu];exact ru
theorem eK{α:Type}(l:List α)(d:α){q:List Nat}(h:q.Perm (List.range l.length)):(q.map fun i=>l.getD i d).Perm l:=by
 refine(h.map _).trans ?_;have:(List.range l.length).map (fun i=>l.getD i d)=l:=by
  apply List.ext_getElem
  ·simp
  ·intro i h1 h2;simp[Jt,Jo h2]
 rw[this]
theorem mT{K:PySem.W.Frag}:VC K B sQ (vW K):=by
 intro σ' σ H' H xs' xs Q' Q s r h k;obtain⟨x',x,rfl,rfl,rx,h⟩:=de.ex h r;cases x' with
 | ref a =>
  obtain⟨ps,ea,nd,hb,h64,q⟩:=h;simp only[RP]at rx;subst rx;obtain⟨us,e,r2⟩:=s.hp _ _ ea;refine⟨a,us,ps,rfl,.inl (.inl e),nY r2,nd,hb,h64,fun r qs hr h1 h2=>?_⟩;have hin:∀i∈qs,i<ps.length:=fun i hi=>J1.mp (h1.mem_iff.mp hi);exact k _ _ _ _ (q r _ (s.hp.free hr) (eK ps (0,0) h1) h2) (by simp[RP]) (s.new hr (kL hr (mF r2 qs hin))) (Ev.new hr)
 | _=>exact h.elim
def sP:PV->List PV->PHp->VK'->Prop:=fun x vs H Q=>match x,vs with
 | .ref a,[]=>∃l,H a=some (.lst l)/\Q .non (put H a (.lst l.reverse))
 | _,_=>False
def tL:PV->List PV->PHp->VK'->Prop:=fun x vs H Q=>match x,vs with
 | .ref a,[]=>∃l,H a=some (.lst l)/\Q .non (put H a (.lst []))
 | _,_=>False
def wj:PV->List PV->PHp->VK'->Prop:=fun x vs H Q=>match x,vs with
 | .ref a,[.int i,y]=>∃l,H a=some (.lst l)/\0≤i/\i.toNat≤l.length/\l.length<1000/\Q .non (put H a (.lst (l.take i.toNat++y::l.drop i.toNat)))
 | _,_=>False
theorem Hj{a:Addr}:sP (.ref a) [] H Q=∃l,H a=some (.lst l)/\Q .non (put H a (.lst l.reverse)):=rfl
theorem GA{a:Addr}:tL (.ref a) [] H Q=∃l,H a=some (.lst l)/\Q .non (put H a (.lst [])):=rfl
theorem Hu{a:Addr}:wj (.ref a) [.int i,y] H Q=∃l,H a=some (.lst l)/\0≤i/\i.toNat≤l.length/\l.length<1000/\Q .non (put H a (.lst (l.take i.toNat++y::l.drop i.toNat))):=rfl
end
section
theorem kX{B:Bs}{X:Cx}{x:Str}{v':PV}{v:V}{pos:Pos}(hg:Gl X x)(h:∃u,X.mg x=some u/\RelV v u)(r':∀H,RP X.K H v' v)(hd:(x==("__debug__":Str))=false:=by decide):PE' X B (.Name x pos) (uC v'):=by
 obtain⟨u,hm,r⟩:=h;exact yH hg hm r r' hd
theorem aE(f:PV->PV)(pz:PV->Bool)(Iv:St'->Prop)(hlen:xs.length≤1000)(hok:∀l,ok (put H1 acc (.lst l)))
  (hs:∀x∈xs,∀(l:List PV) (σ:St') (R:St'->PHp->Prop),Iv σ->l.length<sizeLine->(pz x=true->∀σ3,Iv σ3->R σ3 (put H1 acc (.lst (l++[f x]))))->(pz x=false->∀σ3,Iv σ3->R σ3 (put H1 acc (.lst l))) ->
   g x σ (put H1 acc (.lst l)) fun σ3 H2=>tt σ3 H2 fun b H3=>cif b (te σ3 H3 fun y H4=>∃l',H4 acc=some (.lst l')/\l'.length<sizeLine/\R σ3 (put H4 acc (.lst (l'++[y])))) (R σ3 H3))
  (hq:Q (.ref acc) (put H1 acc (.lst ((xs.filter pz).map f)))) {σ:St'} (h0:Iv σ):cp ok g tt te acc Q xs σ (put H1 acc (.lst [])):=by
 have key:∀(r d:List PV) (σ:St'),xs=d++r->Iv σ->cp ok g tt te acc Q r σ (put H1 acc (.lst ((d.filter pz).map f))):=by
  intro r
  induction r with
  | nil =>
   intro d σ e hv;have:d=xs:=by rw[e,JQ]
   subst this;exact⟨hok _,hq⟩
  | cons x r ih =>
   intro d σ e hv;have hd:((d.filter pz).map f).length<sizeLine:=by
    have h1:d.length+(r.length+1)=xs.length:=by rw[e,Jr,JR]
    have h2:=KZ pz d;have:=bC (n:=1000) (by decide);rw[Jl];symm
   refine⟨hok _,hs x (by rw[e];simp) _ σ _ hv hd (fun hp σ3 h3=>?_) (fun hp σ3 h3=>?_)⟩
   ·have:=ih (d++[x]) σ3 (by rw[e];simp) h3;rw[Lq,JB]at this;simpa[hp]using this
   ·have:=ih (d++[x]) σ3 (by rw[e];simp) h3;rw[Lq,JB]at this;simpa[hp]using this
 exact key xs [] σ rfl h0
end
section
theorem HB:zL C f (.ref a) H Q=∃dx fs v,H a=some (.ins C dx fs)/\fs.lookup f=some v/\Q v H:=rfl
theorem Ge:zu C f (.ref a) y H Q=∃dx fs,H a=some (.ins C dx fs)/\fs.length<1000/\Q (put H a (.ins C dx (i4 f y fs))):=rfl
theorem FN:isIn C m (.ref a) H=∃dx fs,H a=some (.ins C dx fs)/\fs.lookup m=none:=rfl
theorem Ie:DH [.ref a] H Q=∃bs:List Bool,H a=some (.lst (bs.map PV.bl))/\Q (.bl (bs.all id)) H:=rfl
theorem Ia:r9 (.ref a) H Q=∃ps:List (Int×Int),H a=some (.lst (ps.map prV))/\ps.Nodup/\(∀p∈ps,p∈SP.prs)/\ps.length≤15/\Q (.int ps.length) H:=rfl
theorem F6:sQ [.ref a] H Q=∃ps:List (Int×Int),H a=some (.lst (ps.map prV))/\ps.Nodup/\(∀p∈ps,0≤p.2/\p.2<6)/\ps.length<64/\∀(r:Addr) (qs:List (Int×Int)),H r=none->qs.Perm ps->qs.Pairwise (fun x y=>ST.pk x<ST.pk y)->Q (.ref r) (put H r (.lst (qs.map prV))):=rfl
end
end U
namespace SI
def subs:List (List Nat):=(List.range 64).map fun b=>(List.range 6).filter fun i=>b / 2 ^ i % 2==1
def tb(led:Bool)(L:List Nat):SetTable:={ mask:=if L.length≤4 then 7 else 31,place:=L.toArray,dummies:=#[],finger:=0,led:=led,moves:=if L.length≤4 then 0 else 1,plain:=true }
def pos(L:List Nat)(x:Nat):Nat:=(L.filter (·<x)).length
def ins(L:List Nat)(x:Nat):List Nat:=L.take (pos L x)++x::L.drop (pos L x)
def tp(led:Bool)(L:List Nat)(x:Nat):SetTable:={ tb led L with place:=(ins L x).toArray }
theorem GR:∀led∈[true,false],∀L∈subs,∀x∈List.range 6,x∉L->(tb led L).freeSlot x=some (x,false)/\(tb led L).put x=(tp led L x,pos L x):=by decide +kernel
theorem Ji:∀led∈[true,false],∀L∈subs,∀x∈List.range 6,x∉L->(tp led L x).fits (ins L x).length=true/\(if L.length=4 then(tp led L x).tooFull=true/\(tp led L x).relaid ((ins L x).map Int.ofNat).toArray 20=some (tb led (ins L x),#[0,1,2,3,4])else(tp led L x).tooFull=false/\tp led L x=tb led (ins L x)):=by decide +kernel
theorem gL:∀L∈subs,(∀x∈L,x<6)/\L.length≤6/\L.Nodup/\(∀x∈List.range 6,x∉L->ins L x∈subs):=by decide +kernel
theorem kM:∀L∈subs,∀led∈[true,false],(tb led L).fits L.length=true/\SetTable.below L.toArray 0=0/\∀i∈List.range L.length,SetTable.below L.toArray (L.getD i 0+1)=i+1:=by decide +kernel
def ent(i:Nat)(tk:Tok):Int×Value:=((i:Int),.int (i:Int) tk)
def df(es:Array (Int×Value))(L:List Nat):Prop:=∃tks:List Tok,tks.length=L.length/\es.toList=List.zipWith ent L tks
theorem df.size(h:df es L):es.size=L.length:=by
 obtain⟨tks,hl,e⟩:=h;rw[←KR,e,List.length_zipWith,hl,Nat.min_self]
theorem df.get{es:Array (Int×Value)}{L:List Nat}(h:df es L){i:Nat}(hi:i<L.length):∃tk,es[i]?=some (ent (L.getD i 0) tk):=by
 obtain⟨tks,hl,e⟩:=h;refine⟨tks[i],?_⟩;rw[←Km,e,List.getElem?_zipWith,Jo hi,Jo (by symm),Jt,Jo hi];rfl
theorem df.mem(h:df es L){e:Int×Value}(he:e∈es.toList):∃x∈L,∃tk,e=ent x tk:=by
 obtain⟨i,hi,rfl⟩:=List.mem_iff_getElem.mp he;have hi':i<L.length:=by rw[←h.size];simpa using hi
 obtain⟨tk,e⟩:=h.get hi';refine⟨L.getD i 0,by rw[Jt,Jo hi'];exact JV hi',tk,?_⟩;rw[JO (by simpa using hi)]at e;simpa using JT e
theorem df.of(h:df es L){x:Nat}(hx:x∈L):∃tk,ent x tk∈es.toList:=by
 obtain⟨i,hi,rfl⟩:=List.mem_iff_getElem.mp hx;obtain⟨tk,e⟩:=h.get hi;refine⟨tk,?_⟩;rw[Jt,Jo hi]at e;rw[←Km]at e;exact JH e
theorem df.ins{es:Array (Int×Value)}{L:List Nat}(h:df es L)(x:Nat)(tk:Tok):df (SetTable.insertAt es (pos L x) (ent x tk)) (SI.ins L x):=by
 obtain⟨tks,hl,e⟩:=h;refine⟨tks.take (pos L x)++tk::tks.drop (pos L x),?_,?_⟩
 ·unfold SI.ins;simp only[Jr,JR,J6,Ld];symm
 ·rw[SetTable.toList_insertAt,e];unfold SI.ins;rw[List.zipWith_append (by simp only[J6];symm),List.zipWith_cons_cons,List.take_zipWith,List.drop_zipWith]
structure eP (h:Heap) (S:Addr) (led:Bool) (L:List Nat):Prop where
 is:L∈subs/\∃es ep,h.get? S=some { cls:=.type "set",dict:=none,data:=.set es ep (tb led L) }/\df es L
theorem dP(led:Bool):led∈[true,false]:=by cases led<;>simp
theorem oB{α:Type}(es:Array α)(h:es.size=5):(#[0,1,2,3,4]:Array Nat).filterMap (es[·]?)=es:=by
 have e:=PySem.filterMap_getElem?_range es;rw[h]at e;apply Array.toList_inj.mp;rw[Array.toList_filterMap];exact e
section
variable {prog:Program}{w:World}{A:Around}{E:Value->Shared->Prop}{s:Shared}
theorem df.elems(h:df es L)(hL:L∈subs):ElemsOf (intKind prog w) es.toList:=fun e he=>by
 obtain⟨x,hx,tk,rfl⟩:=h.mem he;refine⟨⟨(x:Int),intKind_is _ _ _ _,?_⟩,rfl⟩;have:x<6:=(gL L hL).1 x hx;have hh:∀y∈List.range 6,((y:Nat):Int)=(intKind prog w).hash ((y:Nat):Int):=by
  intro y hy;have:y=0∨y=1∨y=2∨y=3∨y=4∨y=5:=by have:=J1.mp hy;symm
  rcases this with rfl | rfl | rfl | rfl | rfl | rfl<;>rfl
 exact hh x (J1.mpr this)
theorem me(hx:x<6):(intKind prog w).hash ((x:Nat):Int)=((x:Nat):Int):=by
 have:x=0∨x=1∨x=2∨x=3∨x=4∨x=5:=by symm
 rcases this with rfl | rfl | rfl | rfl | rfl | rfl<;>rfl
theorem g7(hP:eP s.heap S led L)(hx:x<6)
  (h:∀b h' tks,Heap.SameBut S s.heap h'->eP h' S led (if x∈L then L else ins L x)->Q b { s with heap:=h',toks:=tks }):wpAny (model prog w) A (setAdd S (.int (x:Int) tk)) Q E s:=by
 obtain⟨hL,es,ep,ho,he⟩:=hP.is;unfold setAdd;refine Kb ?_;refine Jm ((intKind prog w).pyHash (k:=(x:Int)) (intKind_is _ _ _ _) ?_);rw[me hx];generalize hs':({ s with toks:=s.toks+1 }:Shared)=s1;have e1:s1.heap=s.heap:=by rw[←hs']
 have hs1:∀hh':Heap,({ s1 with heap:=hh' }:Shared)={ s with heap:=hh',toks:=s1.toks }:=fun hh'=>by rw[←hs']
 have ho1:s1.heap.get? S=some { cls:=.type "set",dict:=none,data:=.set es ep (tb led L) }:=by rw[e1];exact ho
 have hf:(tb led L).fits es.size=true:=by rw[he.size];exact(kM L hL led (dP led)).1
 have hel:=he.elems (prog:=prog) (w:=w) hL;have h6:=(gL L hL).2.1;have hbd:es.size<scanBound:=by rw[he.size];unfold scanBound;symm
 have scan:∀{Q':ScanMet->Shared->Prop},Q' (match es.toList.findIdx? (fun e=>(intKind prog w).is ((x:Nat):Int) e.2)with | some j=>.found (0+j) | none=>.absent) s1->wpAny (model prog w) A (setScan S (.int ((x:Nat):Int) tk) ((x:Nat):Int) true es) Q' E s1:=by
  intro Q' hq;have:=wpAny_setScan_of (knd:=intKind prog w) (adding:=true) (x:=.int ((x:Nat):Int) tk) (k:=((x:Nat):Int)) (A:=A) (E:=E) (Q:=Q') (intKind_is _ _ _ _) ho1 rfl hf hel hq
  rwa [me hx]at this
 unfold setAddHashed setAddHashedIn;refine Kb (Jm (K7 ho1 rfl hf ?_));dsimp only;rw[byScan_of (knd:=intKind prog w) rfl hbd hel];simp only[↓reduceIte];unfold setAddByScan;refine Jm ?_;refine Jm (wpAny_rule ?_);refine Jm (scan ?_);cases hr:List.findIdx? (fun e=>(intKind prog w).is ((x:Nat):Int) e.2) es.toList with
 | some j =>
  dsimp only;obtain⟨hj,hpj,_⟩:=List.findIdx?_eq_some_iff_getElem.mp hr;obtain⟨y,hy,tk',ee⟩:=he.mem (JV hj);have hxy:x=y:=by
   rw[ee]at hpj;have q:(intKind prog w).is ((x:Nat):Int) (.int ((y:Nat):Int) tk')=true:=hpj;have:=(intKind prog w).inj _ _ _ q (intKind_is _ _ _ _);symm
  subst hxy;refine Jq (Jq ?_);have:=h false s.heap s1.toks (Heap.SameBut.refl S s.heap) (by rw[JL hy];exact hP);have e:s1={ s with heap:=s.heap,toks:=s1.toks }:=by rw[←hs1];cases s1;simp only at e1;rw[e1]
  rw[e];exact this
 | none =>
  dsimp only;have hn:x∉L:=fun hm=>by
   obtain⟨tk',hm'⟩:=he.of hm;have:=List.findIdx?_eq_none_iff.mp hr _ hm';have q:(intKind prog w).is ((x:Nat):Int) (.int ((x:Nat):Int) tk')=true:=intKind_is _ _ _ _;have this':(intKind prog w).is ((x:Nat):Int) (.int ((x:Nat):Int) tk')=false:=this;rw[q]at this';cases this'
  obtain⟨f1,f2⟩:=GR led (dP led) L hL x (J1.mpr hx) hn;obtain⟨f3,f4⟩:=Ji led (dP led) L hL x (J1.mpr hx) hn;have hins:=(gL L hL).2.2.2 x (J1.mpr hx) hn;have hin2:=he.ins x tk;have hsz2:=hin2.size;have hln:(ins L x).length=L.length+1:=by unfold ins;simp only[Jr,JR,J6,Ld];symm
  have hlay:layNew (tb led L) es ((x:Nat):Int) (.int ((x:Nat):Int) tk)=(SetTable.insertAt es (pos L x) (ent x tk),tp led L x,false,false):=by
   unfold layNew;rw[f1];dsimp only;rw[f2];dsimp only;have e2:(tp led L x).fits (SetTable.insertAt es (pos L x) (ent x tk)).size=true:=by rw[hsz2];exact f3
   show(SetTable.insertAt es (pos L x) (ent x tk),(tp led L x).orStandIn (SetTable.insertAt es (pos L x) (ent x tk)).size,false,!(tp led L x).fits (SetTable.insertAt es (pos L x) (ent x tk)).size)=_;unfold SetTable.orStandIn;rw[JL e2,e2];rfl
  rw[hlay];dsimp only;refine Jm (Jq ?_);have hpl:(tp led L x).plain=true:=rfl;rw[hpl];simp only[↓reduceIte];refine Jm ?_;rw[hashByValue_scannable 8 (x:=.int ((x:Nat):Int) tk) rfl];refine Jq ?_;have hpk:plainKind (.int ((x:Nat):Int) tk)=true:=rfl;rw[hpk];simp only[↓reduceIte];have hz:(SetTable.insertAt es (pos L x) (ent x tk)).size≤sizeLine:=by rw[hsz2,hln,J9];symm
  refine Jm (wpAny_storeSet_of ho1 rfl ?_ hz);have hg:(s1.heap.update S (Obj.putSet (SetTable.insertAt es (pos L x) (ent x tk)) (tp led L x))).get? S=some { cls:=.type "set",dict:=none,data:=.set (SetTable.insertAt es (pos L x) (ent x tk)) (ep+1) (tp led L x) } :=
   Kz _ ho1 rfl
  have sb1:Heap.SameBut S s.heap (s1.heap.update S (Obj.putSet (SetTable.insertAt es (pos L x) (ent x tk)) (tp led L x))):=by rw[e1];exact KD ..
  by_cases h4:L.length=4
  ·rw[JL h4]at f4;rw[f4.1];simp only[Bool.not_false,Bool.and_self,↓reduceIte];have hw:SetTable.grown (SetTable.insertAt es (pos L x) (ent x tk)).size=20:=by rw[hsz2,hln,h4];rfl
   have hmp:(SetTable.insertAt es (pos L x) (ent x tk)).map (·.1)=((ins L x).map Int.ofNat).toArray:=by
    obtain⟨tks,q1,q2⟩:=hin2;apply Array.toList_inj.mp;rw[Array.toList_map,q2];have gen:∀(L:List Nat) (tks:List Tok),tks.length=L.length->(List.zipWith ent L tks).map (·.1)=L.map Int.ofNat:=by
     intro L
     induction L with
     | nil=>intro tks _;rfl
     | cons a L ih =>
      intro tks hl;cases tks with
      | nil=>simp at hl
      | cons b tks=>simp only[List.zipWith_cons_cons,JF,ih tks (by simpa using hl)];rfl
    exact gen _ _ q1
   have h5:(SetTable.insertAt es (pos L x) (ent x tk)).size=5:=by rw[hsz2,hln,h4]
   have hrl:relayAll (tp led L x) (SetTable.insertAt es (pos L x) (ent x tk)) (SetTable.grown (SetTable.insertAt es (pos L x) (ent x tk)).size)=(SetTable.insertAt es (pos L x) (ent x tk),tb led (ins L x),false):=by
    unfold relayAll;rw[hw,hmp,f4.2];dsimp only;rw[oB _ h5];have c1:coversAll #[0,1,2,3,4] (SetTable.insertAt es (pos L x) (ent x tk)).size=true:=by rw[h5];decide +kernel
    have c2:(tb led (ins L x)).fits (SetTable.insertAt es (pos L x) (ent x tk)).size=true:=by rw[hsz2];exact(kM _ hins led (dP led)).1
    rw[c1,c2];rfl
   rw[hrl];dsimp only;refine Jm (Jq ?_);refine Jm (wpAny_storeSet_of hg rfl ?_ hz);have hg3:=Kz (Obj.putSet (SetTable.insertAt es (pos L x) (ent x tk)) (tb led (ins L x))) hg rfl;refine Jq (Jq ?_);rw[hs1];refine h true _ _ (sb1.trans (KD ..)) ?_;rw[JK hn];exact⟨hins,_,_,hg3,hin2⟩
  ·rw[JK h4]at f4;rw[f4.1];simp only[Bool.not_false,Bool.and_false,Bool.false_eq_true,↓reduceIte];refine Jq (Jq ?_);rw[hs1];refine h true _ _ sb1 ?_;rw[JK hn];rw[f4.2]at hg;rw[f4.2];exact⟨hins,_,_,hg,hin2⟩
end
end SI
namespace SI
theorem slot_next:Slot "set_iterator" "__next__" "set_iterator.__next__":=.of (owner:="set_iterator") (n:="__next__") (by rw[typeLookup_type,K9];kernel_rfl) (by decide +kernel) (by decide +kernel) (by decide +kernel) (by first | exact .inl (by decide +kernel) | exact .inr (by decide +kernel)) (by rw[Lr];kernel_rfl)
theorem qf:Slot "set_iterator" "__iter__" "set_iterator.__iter__":=.of (owner:="set_iterator") (n:="__iter__") (by rw[typeLookup_type,K9];kernel_rfl) (by decide +kernel) (by decide +kernel) (by decide +kernel) (by first | exact .inl (by decide +kernel) | exact .inr (by decide +kernel)) (by rw[Lr];kernel_rfl)
theorem entry_next:entryFor table "set_iterator.__next__"=some Builtin.«set_iterator.__next__»:=entryFor_of_tree (by kernel_rfl)
theorem vM:entryFor table "set_iterator.__iter__"=some Builtin.«dict_keyiterator.__iter__»:=entryFor_alias (id':="dict_keyiterator.__iter__") (by kernel_rfl) rfl (by decide +kernel) (by kernel_rfl)
theorem nz:entryFor table "set.__iter__"=some Builtin.«frozenset.__iter__»:=entryFor_alias (id':="frozenset.__iter__") (by kernel_rfl) rfl (by decide +kernel) (by kernel_rfl)
theorem h7{α:Type}:∀(l:List α) (i:Nat) (h:i<l.length),(l[i]::l.eraseIdx i).Perm l
 | x::l,0,_=>K6 _
 | x::l,i+1,h=>by
  have ih:=h7 l i (by simpa using h);have h':i<l.length:=by simpa using h
  show(l[i]::x::l.eraseIdx i).Perm (x::l);exact(List.Perm.swap _ _ _).trans (ih.cons x)
theorem args_next(a:Value):argsOk "set_iterator.__next__" ⟨[a],[]⟩:=by unfold argsOk;kernel_rfl
theorem wA(a:Value):argsOk "set_iterator.__iter__" ⟨[a],[]⟩:=by unfold argsOk;kernel_rfl
def nD(h:Heap)(it S:Addr)(k i n ep:Nat):Prop:=h.get? it=some { cls:=.type "set_iterator",data:=.fields #[.int k 0,.int i 0,.ref S,.int n 0,.int ep 0] }
theorem nD.ty{s:Shared}(h:nD s.heap it S k i n ep):s.TypeIs (.ref it) "set_iterator":=⟨_,h,rfl⟩
theorem eK{α:Type}(next:Nat->Nat):∀(f k:Nat) (l:List α) (out:Array α),f=l.length->(pickOrder.go next f k l out).toList.Perm (out.toList++l)
 | 0,k,l,out,h=>by
  have:l=[]:=Lh.mp h.symm;subst this;show out.toList.Perm _;rw[JQ]
 | f+1,k,l,out,h=>by
  have hlt:next k % l.length<l.length:=Nat.mod_lt _ (by symm)
  unfold pickOrder.go;rw[Jo hlt];dsimp only;refine(eK next f (k+1) _ _ (by rw[List.length_eraseIdx_of_lt hlt];symm)).trans ?_;rw[Array.toList_push,KL];refine List.Perm.append_left _ ?_;exact h7 l _ hlt
def walk(w:World)(S:Addr)(es:Array (Int×Value))(ep:Nat):Array (Int×Value):=if w.params.followText "set-order"=true then pickOrder (w.params.setOrder S ep) es else es
theorem jj(w:World)(S:Addr)(es:Array (Int×Value))(ep:Nat):(walk w S es ep).toList.Perm es.toList:=by
 unfold walk;split
 ·have:=eK (w.params.setOrder S ep) es.size 0 es.toList #[] (by simp);simpa[pickOrder]using this
 ·exact K6 _
theorem eF(w:World)(S:Addr)(es:Array (Int×Value))(ep:Nat):(walk w S es ep).size=es.size:=by
 have:=(jj w S es ep).length_eq;simpa using this
def slotAt(w:World)(L:List Nat)(i:Nat):Nat:=if w.params.followText "set-order"=true then 0 else if i=0 then 0 else L.getD (i - 1) 0+1
section
variable {prog:Program}{w:World}{A:Around}{E:Value->Shared->Prop}{s:Shared}
def bu(w:World):Bool:=!w.params.followText "set-order"
theorem below_at(hL:L∈subs)(hb:¬w.params.followText "set-order"=true){i:Nat}(hi:i≤L.length):SetTable.below L.toArray (slotAt w L i)=i:=by
 unfold slotAt;rw[JK hb];obtain⟨_,a,b⟩:=kM L hL true (by simp);cases i with
 | zero=>exact a
 | succ i =>
  rw[JK (by symm)];exact b i (J1.mpr (by symm))
theorem vg(hL:L∈subs)(ho:s.heap.get? S=some { cls:=.type "set",dict:=none,data:=.set es ep (tb (bu w) L) })(he:df es L)
  (hQ:Q (.ref s.heap.objs.size) { s with heap:=s.heap.push { cls:=.type "set_iterator",data:=.fields #[.int 0 0,.int 0 0,.ref S,.int es.size 0,.int ep 0] } }):wpAny (model prog w) A (pyIter (.ref S)) Q E s:=by
 have ty:s.TypeIs (.ref S) "set":=⟨_,ho,rfl⟩;have hf:(tb (bu w) L).fits es.size=true:=by rw[he.size];exact(kM L hL _ (dP _)).1
 refine wpAny_pyIter_slot ty F.slot_set_iter (Kt F.slot_set_iter ty nz ?_ (F.args_set_iter_1 _));unfold Builtin.«frozenset.__iter__» Builtin.Frozenset.slot0;refine Jm (Jm (Jq (Jq ?_)));unfold Builtin.Frozenset.sizeOf;refine Jm (Jm (wpAny_setEntries_of ho rfl hf (Jq ?_)));unfold setDrawn setsByText;refine Jm (Jm (K7 ho rfl hf ?_));dsimp only;refine Jm (Jm (wpAny_askSetting (Jq (Jq ?_))));refine Lj (fun hx=>?_) (fun _=>Jm (Jq ?_))
 ·exfalso;have hx':(!(w.params.followText "set-order")&&(!(tb (bu w) L).plain&&decide (es.size>1)))=true:=hx;have hp:(tb (bu w) L).plain=true:=rfl;rw[hp]at hx';simp at hx'
 ·refine Jm (wpAny_setEpoch_of ho rfl hf ?_);simp only[newFields];refine Jm (J8 (Jq ⟨_,rfl,"set_iterator",_,⟨_,JA _ rfl,rfl⟩,slot_next.lookup,?_⟩));exact hQ
theorem mJ(hL:L∈subs)(ho:s.heap.get? S=some { cls:=.type "set",dict:=none,data:=.set es ep (tb (bu w) L) })(he:df es L)(hi:i≤es.size)
  (hq:Q' (((walk w S es ep)[i]?).map fun e=>(e.2,slotAt w L (i+1))) s):wpAny (model prog w) A (setNext S (slotAt w L i) i ep) Q' E s:=by
 have hf:(tb (bu w) L).fits es.size=true:=by rw[he.size];exact(kM L hL _ (dP _)).1
 unfold setNext;refine Jm (K7 ho rfl hf ?_);dsimp only;unfold setsByText;refine Jm (Jm (wpAny_askSetting (Jq ?_)));refine Lj (fun hb=>?_) (fun hb=>?_)
 ·have hb':w.params.followText "set-order"=true:=hb;refine Lj (fun hx=>absurd hx (by simp)) (fun _=>?_);unfold setWalk setsByText;refine Jm (Jm (K7 ho rfl hf ?_));dsimp only;refine Jm (Jm (wpAny_askSetting (Jq ?_)));refine Lj (fun _=>?_) (fun hc=>absurd hb hc);refine Jm (wpAny_askSetting (Jq (Jq ?_)));unfold walk slotAt at hq;rw[JL hb',JL hb']at hq;unfold slotAt;rw[JL hb'];exact hq
 ·have hb':¬w.params.followText "set-order"=true:=hb;refine Lj (fun hx=>?_) (fun _=>?_)
  ·exfalso;have hx':(!(tb (bu w) L).plain&&decide (es.size>1))=true:=hx;have hp:(tb (bu w) L).plain=true:=rfl;rw[hp]at hx';simp at hx'
  ·have hled:bu w=true:=by unfold bu;simpa using hb'
   refine Jm ?_;refine(show wpAny (model prog w) A (if (!(tb (bu w) L).led&&!es.isEmpty)=true then unsupported "set:maker-not-led" else pure ()) _ E s from ?_);refine Lj (fun hx=>?_) (fun _=>Jq (Jq ?_))
   ·exfalso;have hl2:(tb (bu w) L).led=true:=hled;rw[hl2]at hx;simp at hx
   ·have hbl:=below_at (w:=w) hL hb' (i:=i) (by rw[←he.size];exact hi);have hpl:(tb (bu w) L).place=L.toArray:=rfl;rw[hpl,hbl];unfold walk at hq;rw[JK hb']at hq;by_cases hlt:i<es.size
    ·have hlt2:i<L.length:=by rw[←he.size];exact hlt
     rw[JO hlt]at hq ⊢;have e2:L.toArray[i]?=some L[i]:=by simp[hlt2]
     rw[e2];unfold slotAt at hq;rw[JK hb',JK (by symm),Nat.add_sub_cancel,Jt,Jo hlt2]at hq;exact hq
    ·rw[Ll (by symm)]at hq ⊢;exact hq
theorem next_item{it S:Addr}{L:List Nat}{es:Array (Int×Value)}{ep i:Nat}{e:Int×Value}{Q:Option Value->Shared->Prop}(hL:L∈subs)(ho:s.heap.get? S=some { cls:=.type "set",dict:=none,data:=.set es ep (tb (bu w) L) })(he:df es L)
  (hit:nD s.heap it S (slotAt w L i) i es.size ep) (hx:(walk w S es ep)[i]?=some e)
  (hQ:∀h',nD h' it S (slotAt w L (i+1)) (i+1) es.size ep->Heap.SameBut it s.heap h'->Q (some e.2) { s with heap:=h' }):wpAny (model prog w) A (pyNext (.ref it)) Q E s:=by
 have hf:(tb (bu w) L).fits es.size=true:=by rw[he.size];exact(kM L hL _ (dP _)).1
 have hi:i<es.size:=by
  rw[←eF w S es ep];exact(Array.getElem?_eq_some_iff.mp hx).1
 unfold pyNext;refine Jm (wpAny_attempt (K2 (name:=Str.ofString "__next__") hit.ty slot_next (Kt slot_next hit.ty entry_next ?_ (args_next _))));unfold Builtin.«set_iterator.__next__»;refine Jm (Jq ?_);refine Jm (wpAny_fieldsOf hit rfl ?_);dsimp only;refine Jm (wpAny_setEntries_of ho rfl hf ?_);rw[JK (by simp)];simp only[J7];refine Jm (mJ hL ho he (by symm) ?_);rw[hx];dsimp only[Option.map_some];refine Jm (wpAny_setField hit rfl (by simp) ?_);have h1:=Kz (Obj.mapFields (·.setIfInBounds 0 (rawInt ((slotAt w L (i+1):Nat):Int)))) hit rfl;refine Jm (wpAny_setField h1 rfl (by simp[Obj.mapFields]) ?_);have h2:=Kz (Obj.mapFields (·.setIfInBounds 1 (rawInt ((i:Nat)+1:Int)))) h1 rfl;refine Jq ⟨_,rfl,Jq (hQ _ ?_ ((KD ..).trans (KD ..)))⟩;exact h2
theorem next_end{it S:Addr}{L:List Nat}{es:Array (Int×Value)}{ep:Nat}{Q:Option Value->Shared->Prop}(hh:A.handled=none)(hL:L∈subs)(ho:s.heap.get? S=some { cls:=.type "set",dict:=none,data:=.set es ep (tb (bu w) L) })(he:df es L)
  (hit:nD s.heap it S (slotAt w L es.size) es.size es.size ep) (hQ:∀h',Heap.ExtBut it s.heap h'->Q none { s with heap:=h' }):wpAny (model prog w) A (pyNext (.ref it)) Q E s:=by
 have hf:(tb (bu w) L).fits es.size=true:=by rw[he.size];exact(kM L hL _ (dP _)).1
 unfold pyNext;refine Jm (wpAny_attempt (K2 (name:=Str.ofString "__next__") hit.ty slot_next (Kt slot_next hit.ty entry_next ?_ (args_next _))));unfold Builtin.«set_iterator.__next__»;refine Jm (Jq ?_);refine Jm (wpAny_fieldsOf hit rfl ?_);dsimp only;refine Jm (wpAny_setEntries_of ho rfl hf ?_);rw[JK (by simp)];simp only[J7];refine Jm (mJ hL ho he (Jy _) ?_);rw[Ll (by rw[eF];exact Jy _)];dsimp only[Option.map_none];refine Jm (wpAny_setField hit rfl (by simp) ?_);refine Jm ?_;simp only[newExc,newTuple];refine Jm (J8 (Jm (m:=firstArgMember _ _) (wpAny_of_eq (a:=Value.none) (by first | rfl |(simp only[firstArgMember];rfl)) (J8 ?_ (by size_fits)))) (by size_fits));simp only[raiseNew];refine Jm (wpAny_handled ?_);have hh1:A.in1.handled=none:=hh;rw[hh1];refine Jm (Jq (wpAny_throw ?_));refine Jm (wpAny_isInstance (T:="StopIteration") (b:=true) ⟨_,JA _ rfl,rfl⟩ isSubtype_stop (Jq (hQ _ (((KD ..).extBut.push _).push _))))
theorem qF(hh:A.handled=none){I S:Addr}{L:List Nat}{es:Array (Int×Value)}{ep:Nat}(hne:S≠I)(hL:L∈subs)(he:df es L) :
  Walks prog w A I [I,S] [I] es.size (fun i v=>∃e,(walk w S es ep)[i]?=some e/\v=e.2) (fun i h=>nD h I S (slotAt w L i) i es.size ep/\h.get? S=some { cls:=.type "set",dict:=none,data:=.set es ep (tb (bu w) L) }) where
 sub:=fun b hb=>by simp at hb;simp[hb]
 frame:=fun _ _ _ st hk=>⟨hk I (by simp) _ st.1,hk S (by simp) _ st.2⟩
 item:=fun i s Q E hi st hQ=>by
  have hw:i<(walk w S es ep).size:=by rw[eF];exact hi
  have hx:(walk w S es ep)[i]?=some (walk w S es ep)[i]:=JO hw;refine next_item hL st.2 he st.1 hx fun h' it' sb=>?_;exact hQ _ h' s.toks ⟨_,hx,rfl⟩ ⟨it',sb.extBut S _ hne st.2⟩ fun b o hb e=>sb.extBut b o (fun h=>hb (by simp[h])) e
 done:=fun s Q E st hQ=>next_end hh hL st.2 he st.1 fun h' eb=>hQ h' s.toks fun b o hb e=>eb b o (fun h=>hb (by simp[h])) e
 self:=fun i s Q E st hQ=>by
  refine wpAny_pyIter_slot st.1.ty qf (Kt qf st.1.ty vM ?_ (wA _));show wpAny _ _ (ret (.ref I)) _ _ s;exact Jq ⟨_,rfl,"set_iterator",_,st.1.ty,slot_next.lookup,hQ⟩
def add(L:List Nat)(x:Nat):List Nat:=if x∈L then L else ins L x
def lof(ns:List Nat):List Nat:=ns.foldl add []
theorem wz:y∈ins L x↔y=x∨y∈L:=by
 unfold ins;rw[Ju,JD];have:y∈L↔y∈L.take (pos L x)∨y∈L.drop (pos L x):=by
  rw[←Ju,List.take_append_drop]
 rw[this];constructor
 ·rintro(h | h | h)
  ·exact .inr (.inl h)
  ·exact .inl h
  ·exact .inr (.inr h)
 ·rintro(h | h | h)
  ·exact .inr (.inl h)
  ·exact .inl h
  ·exact .inr (.inr h)
theorem we:y∈add L x↔y=x∨y∈L:=by
 unfold add;split
 ·rename_i h;exact⟨.inr,fun q=>q.elim (fun e=>e▸h) id⟩
 ·exact wz
theorem sV(hL:L∈subs)(hx:x<6):add L x∈subs:=by
 unfold add;split
 ·exact hL
 ·rename_i h;exact(gL L hL).2.2.2 x (J1.mpr hx) h
theorem nv{y:Nat}:∀(ns L:List Nat),y∈ns.foldl add L↔y∈ns∨y∈L
 | [],L=>by simp
 | n::ns,L=>by
  rw[List.foldl_cons,nv ns,we,JD];constructor
  ·rintro(h | h | h)
   ·exact .inl (.inr h)
   ·exact .inl (.inl h)
   ·exact .inr h
  ·rintro((h | h) | h)
   ·exact .inr (.inl h)
   ·exact .inl h
   ·exact .inr (.inr h)
theorem jh:∀(ns L:List Nat),L∈subs->(∀n∈ns,n<6)->ns.foldl add L∈subs
 | [],L,h,_=>h
 | n::ns,L,h,hn=>jh ns _ (sV h (hn n Jw)) fun m hm=>hn m (Jz _ hm)
theorem ia:[]∈subs:=by decide +kernel
theorem fL(h:∀n∈ns,n<6):lof ns∈subs:=jh ns [] ia h
theorem gU:y∈lof ns↔y∈ns:=by
 unfold lof;rw[nv];simp
theorem lr{ns:List Nat}(h:i<ns.length):lof (ns.take (i+1))=add (lof (ns.take i)) ns[i]:=by
 unfold lof;rw[Ly,Jo h,List.foldl_append];rfl
end
end SI
namespace SI
section
variable {prog:Program}{w:World}{A:Around}{E:Value->Shared->Prop}{s:Shared}
def kO(vs:List Value)(ns:List Nat):Prop:=vs.length=ns.length/\∀(i:Nat) (v:Value),vs[i]?=some v->∃tk,v=Value.int ((ns.getD i 0:Nat):Int) tk
theorem EC(hh:A.in1.handled=none)(hT:kO vs ns)(hin:∀n∈ns,n<6)(hSI:S≠I)(hSl:S≠l)(hlI:l≠I) :
  ∀(k i:Nat) (s:Shared),ns.length - i=k->i≤ns.length->s.heap.IsListIter I l i->s.heap.IsList l vs.toArray->eP s.heap S led (lof (ns.take i)) ->
   (∀h' tk,(∀b o,b≠S->b≠I->s.heap.get? b=some o->h'.get? b=some o)->eP h' S led (lof ns)->R (.ok (.ret .none)) { s with heap:=h',toks:=tk }) ->
   codeAny (model prog w) A (.builtin "set.update.loop" ⟨[.ref S,.ref I],[]⟩) R s:=by
 intro k
 induction k with
 | zero =>
  intro i s hk hi hit hl hP hR;have e:i=ns.length:=by symm
  subst e;rw[JX]at hP;refine J5 K3 ?_;rw[Kc Ko _];show wpAny _ A.in1 (pyNext (.ref I) >>= _) _ _ s;refine Jm (wpAny_pyNext_list_end hh hit hl (by simp[hT.1]) fun h' eb=>?_);show wpAny _ A.in1 (ret Value.none) _ _ _;refine Jq (hR h' s.toks (fun b o _ hb e=>eb b o hb e) ?_);obtain⟨hL,es,ep,ho,r⟩:=hP.is;exact⟨hL,es,ep,eb S _ hSI ho,r⟩
 | succ k ih =>
  intro i s hk hi hit hl hP hR;have hlt:i<ns.length:=by symm
  have hvl:i<vs.length:=by rw[hT.1];exact hlt
  have hvi:vs[i]?=some vs[i]:=Jo hvl;obtain⟨tk,ev⟩:=hT.2 i _ hvi;have en:ns.getD i 0=ns[i]:=by rw[Jt,Jo hlt];rfl
  rw[en]at ev;refine J5 K3 ?_;rw[Kc Ko _];show wpAny _ A.in1 (pyNext (.ref I) >>= _) _ _ s;refine Jm (wpAny_pyNext_list_item hit hl (x:=Value.int ((ns[i]:Nat):Int) tk) (by rw[←ev];simp) fun h1 hit1 sb1=>?_);have k1:∀b o,b≠I->s.heap.get? b=some o->h1.get? b=some o:=fun b o hb e=>sb1.extBut b o hb e;have hP1:eP h1 S led (lof (ns.take i)):=by
   obtain⟨hL,es,epo,ho,r⟩:=hP.is;exact⟨hL,es,epo,k1 S _ hSI ho,r⟩
  show wpAny _ A.in1 (holding [Value.int ((ns[i]:Nat):Int) tk] (setAdd S (Value.int ((ns[i]:Nat):Int) tk)) >>= _) _ _ _;refine Jm (Kb (g7 (A:=A.in1) hP1 (hin _ (JV hlt)) fun b h2 tk2 sb2 hP2=>?_));have k2:∀b o,b≠S->h1.get? b=some o->h2.get? b=some o:=fun b o hb e=>sb2.extBut b o hb e;have hP3:eP h2 S led (lof (ns.take (i+1))):=by rw[lr hlt];exact hP2
  refine Jq ⟨plainId_quiet Ko _,ih (i+1) { s with heap:=h2,toks:=tk2 } (by symm) (by symm) (hit1.extBut (fun b o hb e=>k2 b o hb e) (Ne.symm hSI)) ?_ hP3 ?_⟩
  ·exact(hl.extBut (fun b o hb e=>k1 b o hb e) hlI).extBut (fun b o hb e=>k2 b o hb e) (Ne.symm hSl)
  ·intro h3 tk3 kp hP4;exact hR h3 tk3 (fun b o hb hb' e=>kp b o hb hb' (k2 b o hb (k1 b o hb' e))) hP4
theorem pF(a:Value){Q₁:Value->Shared->Prop}(h:Q₁ (.ref s.heap.objs.size) { s with heap:=s.heap.push { cls:=.type "set",dict:=none,data:=.set #[] 0 (.fresh 0 0 (bu w)) } }) :
  codeAny (model prog w) A (.call (.builtin "set.__new__") ⟨[.type "set",a],[]⟩) (wants Q₁ E) s:=by
 refine codeAny_of_tree ?_;show wpAny (model prog w) A.in1 (do checkBuiltinCall "set.__new__" ⟨[.type "set",a],[]⟩;again (.builtin "set.__new__" ⟨[.type "set",a],[]⟩)) _ _ _;refine Jm (wpAny_of_eq (F.newCall_set_1 a) (Jq ⟨plainId_quiet F.plain_set_new _,?_⟩));refine J5 F.entry_set_new ?_;rw[Kc F.plain_set_new _];unfold Builtin.«set.__new__»;unfold Builtin.Frozenset.newClass;have sub1:=sub_set_self;obtain⟨hp,g,d,tk,os⟩:=s;dsimp only
 wp_walk
 refine wpAny_askSetting (Jq ?_);dsimp only;simp only[newObj];refine Jm (wpAny_alloc (Jq (Jq ?_)));exact h
set_option maxHeartbeats 4000000 in
theorem i5(hh:A.handled=none)(hl:s.heap.IsList l vs.toArray)(hT:kO vs ns)(hin:∀n∈ns,n<6)
  (h:∀h' tk,(∀b o,b<s.heap.objs.size->s.heap.get? b=some o->h'.get? b=some o)->eP h' s.heap.objs.size (bu w) (lof ns)->Q (.ref s.heap.objs.size) { s with heap:=h',toks:=tk }) :
  wpAny (model prog w) A (call (.type "set") [.ref l]) Q E s:=by
 obtain⟨c0,tl0,mro0⟩:=F.called_set.mro;have made0:=F.called_set.made;have sub0:=F.called_set.sub;have nt0:=F.called_set.notType;have cc0:=F.called_set.canCreate;have tc0:=F.typeCall_set_1 (.ref l);refine wpAny_call (codeAny_of_tree ?_);show wpAny (model prog w) _ (callAny (.type "set") _) _ _ _;refine Jq ⟨Lp _ (by decide +kernel),J5 F.entry_type_call ?_⟩;rw[Around.under_plain (weight_type_call_type "set" [.ref l] []) rfl]
 and_intros
 refine K5 (pF (.ref l) (E:=E) (Q₁:=fun obj s1=>obj=.ref s.heap.objs.size /\
  s1={ s with heap:=s.heap.push { cls:=.type "set",dict:=none,data:=.set #[] 0 (.fresh 0 0 (bu w)) } }) ⟨rfl,rfl⟩) fun r s1 hr=>?_
 cases r with
 | error e=>exact hr
 | ok fl =>
  cases fl with
  | ret obj =>
   obtain⟨rfl,rfl⟩:=hr;generalize hH:s.heap.push { cls:=.type "set",dict:=none,data:=.set #[] 0 (.fresh 0 0 (bu w)) }=H1;have hS:H1.get? s.heap.objs.size=some { cls:=.type "set",dict:=none,data:=.set #[] 0 (.fresh 0 0 (bu w)) }:=by rw[←hH];exact JA _ rfl
   have old:∀b o,s.heap.get? b=some o->H1.get? b=some o:=fun b o e=>by rw[←hH];exact Js _ e
   have hsz:H1.objs.size=s.heap.objs.size+1:=by rw[←hH,LC]
   have tyS:Shared.TypeIs { s with heap:=H1 } (.ref s.heap.objs.size) "set":=⟨_,hS,rfl⟩;have li0:=F.called_set.init.lookup;have bi0:=F.called_set.init.bind (.ref s.heap.objs.size)
   and_intros
   refine K5 (codeAny_call_builtin (R:=wants (fun r s2=>r=.none/\∃h' tk,s2={ s with heap:=h',toks:=tk }/\eP h' s.heap.objs.size (bu w) (lof ns) /\
    (∀b o,b<s.heap.objs.size->s.heap.get? b=some o->h'.get? b=some o)) E) F.called_set.init.plain F.entry_set_init (check_set_init_1 tyS ?_)) fun r2 s2 hr2=>?_
   ·obtain⟨ol,hol,hcl,nl,hdl⟩:=hl;obtain⟨oc,od,oda,osl⟩:=ol;simp only at hcl hdl;subst hcl;subst hdl;have hol1:H1.get? l=some { cls:=.type "list",dict:=od,data:=.seq vs.toArray nl,slots:=osl }:=old _ _ hol;have sls:=F.sub_list_set;have slf:=F.sub_list_frozenset;have nld:(Value.type "list"==Value.type "dict")=false:=by decide
    have hl1:H1.IsList l vs.toArray:=⟨_,hol1,rfl,nl,rfl⟩;have llt:l<s.heap.objs.size:=Jv hol;unfold Builtin.«set.__init__» noKeywords Builtin.Frozenset.updateFrom;generalize hPI:pyIter=PI
    wp_walk
    subst hPI;refine wpAny_pyIter_list hl1 ?_;refine Jm (wpAny_runValue ?_);generalize hH2:H1.push { cls:=.type "list_iterator",data:=.fields #[.ref l,.int 0 0] }=H2;have old2:∀b o,H1.get? b=some o->H2.get? b=some o:=fun b o e=>by rw[←hH2];exact Js _ e
    refine EC (l:=l) (ns:=ns) (vs:=vs) (led:=bu w) (by simp[hh]) hT hin (by show s.heap.objs.size≠H1.objs.size;rw[hsz];exact JG (Nat.lt_succ_self _)) (LD llt) (by show l≠H1.objs.size;rw[hsz];exact JG (KU llt)) ns.length 0 _ (by symm) (K1 _) ?_ ?_ ?_ ?_
    ·rw[←hH2];exact⟨_,JA _ rfl,rfl,rfl⟩
    ·exact⟨_,old2 _ _ hol1,rfl,nl,rfl⟩
    ·refine⟨ia,#[],0,old2 _ _ hS,[],rfl,rfl⟩
    ·intro h' tk kp hP;show wpAny _ _ (pure ()) _ _ _;refine Jq ?_;show wpAny _ _ (ret Value.none) _ _ _;refine Jq ⟨rfl,h',tk,rfl,hP,fun b o hb e=>?_⟩;refine kp b o (JG hb) ?_ (old2 _ _ (old _ _ e));show b≠H1.objs.size;rw[hsz];exact JG (KU hb)
   ·cases r2 with
    | error e=>exact hr2
    | ok f2 =>
     cases f2 with
     | ret r =>
      obtain⟨rfl,h',tk,rfl,hP,hk⟩:=hr2
      and_intros
      exact h _ _ hk hP
     | _=>exact hr2.elim
  | _=>exact hr.elim
theorem uT(hT:s.TypeIs (.ref r) "set")(h:Q false s):wpAny (model prog w) A (Builtin.List.listLengthHint (.ref r)) Q E s:=by
 unfold Builtin.List.listLengthHint;refine Jm (wpAny_specialOf hT PySem.F.slot_set_len.lookup ?_);generalize hid:("set.__len__":String)=id0
 wp_delta
 rw[show splitId id0=some ("set","__len__")from by subst hid;decide +kernel];subst hid;refine Jm (wpAny_isInstance (T:="set") (b:=true) hT (by rw[Lr];kernel_rfl) (Lj (fun hab=>absurd hab (by decide)) (fun _=>Lj (fun _=>?_) (fun hab=>absurd (by decide +kernel) hab))));exact Jm (wpAny_typeOf hT (Jq h))
theorem xB(hL:L∈subs)(he:df es L) :
  PySem.W.KdlSrc prog w "set" S S es.size (fun i v=>∃e,(walk w S es ep)[i]?=some e/\v=e.2) (fun h=>h.get? S=some { cls:=.type "set",dict:=none,data:=.set es ep (tb (bu w) L) }) where
 type:=fun s ho=>⟨_,ho,rfl⟩
 there:=fun h ho=>⟨Jv ho,Jv ho⟩
 keep:=fun h h' ho k=>k S (.inl rfl) _ ho
 notList:=by decide
 notTuple:=by decide
 hint:=fun A E s Q ho q=>uT ⟨_,ho,rfl⟩ q
 iter:=fun A s hh ho=>⟨_,_,fun E Q q=>vg hL ho he q,qF hh (JG (Jv ho)) hL he,⟨by
  show nD _ _ _ (slotAt w L 0) 0 _ _;have:slotAt w L 0=0:=by unfold slotAt;split<;>rfl
  rw[this];exact JA _ rfl,Js _ ho⟩⟩
theorem lM(hh:A.handled=none)(hL:L∈subs)(he:df es L)(ho:s.heap.get? S=some { cls:=.type "set",dict:=none,data:=.set es ep (tb (bu w) L) })
  (h:∀h' tk,s.heap.objs.size<h'.objs.size->(∀b o,s.heap.get? b=some o->h'.get? b=some o)->Q ((walk w S es ep).toList.map (·.2)) { s with heap:=h',toks:=tk }):wpAny (model prog w) A (collect (.ref S)) Q E s:=by
 have hlt:S<s.heap.objs.size:=Jv ho;have h6:=(gL L hL).2.1;generalize hN:s.heap.objs.size=N;have hNS:N≠S:=by rw[←hN];exact LD hlt
 have key:∀R:Result->Shared->Prop,(∀h' tk acc c,(∀b o,s.heap.get? b=some o->h'.get? b=some o)->h'.get? N=some { cls:=.type "list",dict:=none,data:=.seq acc c,slots:=#[] } ->
   ItemsOf (fun i v=>∃e,(walk w S es ep)[i]?=some e/\v=e.2) acc es.size->R (.ok (.ret (.ref N))) { s with heap:=h',toks:=tk })->codeAny (model prog w) A (.builtin "proto.collect" ⟨[.ref S],[]⟩) R s:=by
  intro R hR;refine J5 PyProof.Rows.entry_proto_collect' ?_;rw[Kc PySem.F.plain_proto_collect _];show wpAny (model prog w) A.in1 (newList [] >>= fun l=>again (.builtin "list.__iadd__" ⟨[l,.ref S],[]⟩)) _ _ s;refine Jm (J8 ?_);refine Jq ⟨plainId_quiet PySem.F.plain_list_iadd _,J5 PySem.F.entry_list_iadd ?_⟩;rw[Kc PySem.F.plain_list_iadd _];rw[hN];show wpAny (model prog w) A.in1 (Builtin.List.listExtendWith (.ref N) (.ref S) (.ref N)) _ _ _;have hS:(s.heap.push { cls:=.type "list",data:=.seq ([]:List Value).toArray }).get? N=some { cls:=.type "list",data:=.seq #[] 0 }:=by rw[←hN];exact JA _ rfl
  refine PySem.W.kdl_extend (s:={ s with heap:=s.heap.push { cls:=.type "list",data:=.seq ([]:List Value).toArray } }) (xB (ep:=ep) hL he) (by simpa using hh) (Js _ ho) N hNS hNS (.ref N) 0 hS (fun h' tk acc c kp hS' hacc=>?_) (by rw[he.size,J9];symm);exact hR h' tk acc c (fun b o q=>kp b o (by rw[←hN];exact JG (Jv q)) (Js _ q)) hS' hacc
 unfold collect;refine Jm (wpAny_runValue (key _ fun h' tk acc c kp hS' hacc=>?_));show wpAny (model prog w) A (load N >>= _) _ _ _;refine Jm (wpAny_load hS' ?_);refine Jq ?_;have e:acc.toList=(walk w S es ep).toList.map (·.2):=by
  apply List.ext_getElem?;intro j;by_cases hj:j<acc.size
  ·obtain⟨e,e1,e2⟩:=hacc.2 j _ (JO hj);rw[Km,JO hj,JI,Km,e1,e2];rfl
  ·have hz:(walk w S es ep).size≤j:=by rw[eF];have:=hacc.1;symm
   rw[Km,Ll (by symm),JI,Km,Ll hz];rfl
 show Q acc.toList _;rw[e];exact h h' tk (by rw[hN];exact Jv hS') kp
theorem oA(hh:A.handled=none)(hP:eP s.heap S (bu w) L)
  (h:∀(r:Addr) (h':Heap) (tk n:Nat) (out:List Value) (ms:List Int),s.heap.objs.size≤r->(∀b o,s.heap.get? b=some o->h'.get? b=some o)->h'.get? r=some (seqObj "list" out.toArray n)->IntsAre out ms->ms.Pairwise (·≤·)->ms.Perm (L.map fun(i:Nat)=>(i:Int))->Q (.ref r) { s with heap:=h',toks:=tk }) :
  wpAny (model prog w) A (call (.builtin "sorted") [.ref S]) Q E s:=by
 obtain⟨hL,es,ep,ho,he⟩:=hP.is;have h6:=(gL L hL).2.1;refine Calls.call_function_entry kind_sorted plain_sorted entry_sorted (args_sorted1 _) ?_;unfold Builtin.«sorted»;refine Jm (m:=checkCount "sorted" 1 1 _) (Jq ?_);refine Jm (lM (by simpa using hh) hL he ho fun h1 tk1 hgt k1=>?_);have hil:∃ns:List Int,IntsAre ((walk w S es ep).toList.map (·.2)) ns/\ns.Perm (L.map fun(i:Nat)=>(i:Int)):=by
  have hp:=jj w S es ep;obtain⟨tks,q1,q2⟩:=he;have gen:∀(l:List (Int×Value)),(∀e∈l,∃x tk,e=ent x tk)->IntsAre (l.map (·.2)) (l.map (·.1)):=by
   intro l
   induction l with
   | nil=>intro _;exact .nil
   | cons e l ih =>
    intro hm;obtain⟨x,tk,rfl⟩:=hm e Jw;exact .cons _ _ (ih fun e he=>hm e (Jz _ he))
  refine⟨(walk w S es ep).toList.map (·.1),gen _ fun e hm=>?_,?_⟩
  ·obtain⟨x,_,tk,e⟩:=df.mem ⟨tks,q1,q2⟩ (hp.mem_iff.mp hm);exact⟨x,tk,e⟩
  ·refine(hp.map _).trans ?_;rw[q2];have gen2:∀(L:List Nat) (tks:List Tok),tks.length=L.length->(List.zipWith ent L tks).map (·.1)=L.map fun(i:Nat)=>(i:Int):=by
    intro L
    induction L with
    | nil=>intro tks _;rfl
    | cons a L ih =>
     intro tks hl;cases tks with
     | nil=>simp at hl
     | cons b tks=>simp only[List.zipWith_cons_cons,JF,ih tks (by simpa using hl)];rfl
   rw[gen2 L tks q1]
 obtain⟨ns,hi,hpm⟩:=hil;generalize (walk w S es ep).toList.map (·.2)=vs at hi ⊢;have hlen:vs.length=L.length:=by
  have a:=hpm.length_eq;have b:=IntsAre.length hi;rw[Jl]at a;symm
 refine Jm (wpAny_newList ?_ (by rw[hlen,J9];symm));have hoL:(h1.push (seqObj "list" vs.toArray 0)).get? h1.objs.size=some (seqObj "list" vs.toArray 0):=JA _ rfl;show wpAny (model prog w) _ _ _ _ { s with heap:=h1.push (seqObj "list" vs.toArray 0),toks:=tk1 };refine Jm (Kb (Kt slot_list_sort ⟨_,hoL,rfl⟩ entry_list_sort (list_sort_tree hoL hi (by symm) fun out ms a1 a2 a3=>⟨_,rfl,?_⟩) (args_list_sort _)));refine Jq ⟨_,rfl,?_⟩;obtain⟨e,he2⟩:=sortedHeap_at (out:=out) hoL;have hge:s.heap.objs.size≤h1.objs.size:=Nat.le_of_lt hgt;refine h h1.objs.size (sortedHeap (h1.push (seqObj "list" vs.toArray 0)) h1.objs.size vs out) tk1 e out.toList ms hge (fun b o q=>?_) (by simpa using he2) a1 a3 (a2.trans hpm);rw[sortedHeap_old (JG (Jv (k1 b o q))) (by rw[LC];exact KU (Jv (k1 b o q)))];exact Js _ (k1 b o q)
end
end SI
namespace L2
variable {X:Cx}
def fJ(w:World)(S:Addr)(L:List Nat):Heap->Prop:=fun h=>SI.eP h S (SI.bu w) L
def wB(n:Nat):V:=.int (n:Int)
theorem fZ:∀{ns:List Nat} {us:List Value},Vals (ns.map wB) us->SI.kO us ns
 | [],_,.nil=>⟨rfl,fun i v h=>by simp at h⟩
 | n::ns,_,.cons r t=>by
  obtain⟨tk,rfl⟩:=r;obtain⟨a,b⟩:=fZ t;refine⟨by simp[a],fun i v h=>?_⟩;cases i with
  | zero=>simp at h;exact⟨tk,h.symm⟩
  | succ i=>simpa using b i v (by simpa using h)
theorem jM(hc:X.calm=true):cf X (.type "set") (fun xs H Q=>∃(a:Addr) (ns:List Nat),xs=[.ref a]/\SqL X.K H a (ns.map wB)/\(∀n∈ns,n<6)/\∀S,H S=none->Q (.ref S) (upd H S (.ext (fJ X.w S (SI.lof ns))))):=by
 intro pins s σ H xs us Q I r h;obtain⟨a,ns,rfl,hq,hin,q⟩:=h;obtain⟨u,rfl,ru⟩:=Vals.one r;cases ru;obtain⟨its,rv,p,hz⟩:=I.list hq;refine SI.i5 (ns:=ns) (I.ok.hd hc) p.isList (fZ rv) hin fun h' tk kp P=>?_;have hn:H s.heap.objs.size=none:=I.hok.fresh (Jy _);refine⟨.ref s.heap.objs.size,_,I.laid (t':=tk) (o:=.ext (fJ X.w s.heap.objs.size (SI.lof ns))) (fun b o e=>kp b o (Jv e) e) (Jy _) ?_,rfl,q _ hn⟩;obtain⟨hL,es,ep,ho,he⟩:=P.is;exact⟨P,⟨_,ho⟩,fun h1 h2 x k=>by obtain⟨a,es,ep,e,l⟩:=x.is;exact⟨a,es,ep,k _ e,l⟩⟩
theorem iu(hc:X.calm=true):cf X (.builtin "sorted") (fun xs H Q=>∃(S:Addr) (L:List Nat),xs=[.ref S]/\H S=some (.ext (fJ X.w S L))/\∀(r:Addr) (ms:List Int),H r=none->ms.Pairwise (·≤·)->ms.Perm (L.map fun(i:Nat)=>(i:Int))->Q (.ref r) (upd H r (.lst (ms.map V.int)))):=by
 intro pins s σ H xs us Q I r h;obtain⟨S,L,rfl,hS,q⟩:=h;obtain⟨u,rfl,ru⟩:=Vals.one r;cases ru;obtain⟨P,_,_⟩:=(show bP X.prog X.w H s.heap S (.ext (fJ X.w S L))from I.hok S _ hS);have h6:=(SI.gL L P.is.1).2.1;refine SI.oA (I.ok.hd hc) P fun r h' tk n out ms hge kp ho hi hs hp=>?_;have hn:H r=none:=I.hok.fresh hge;have hl:ms.length≤6:=by have:=hp.length_eq;rw[Jl]at this;symm
 refine⟨.ref r,_,I.laid (t':=tk) (o:=.lst (ms.map V.int)) (fun b o e=>kp b o e) hge ?_,rfl,q r ms hn hs hp⟩;exact⟨by rw[Jl,J9];symm,out,n,eL hi,ho⟩
def mK(K:PySem.W.Frag):V->List V->Hp->VK->Prop:=fun x vs H Q=>∃l b xs zs,x=.ref l/\vs=[.ref b]/\H l=some (.lst xs)/\SqT K H b zs/\xs.length+zs.length≤sizeLine/\Q .non (upd H l (.lst (xs++zs)))
end L2
namespace U
open L2
variable {B:Bs}{X:Cx}{e:Expr}{ta:TE'}{p p2 pos pos2:Pos}
def dA(n:Nat):PV:=.int (n:Int)
theorem d9{K:PySem.W.Frag}{H:Hp}:∀{ns:List Nat} {us:List V},RPs K H (ns.map dA) us->us=ns.map wB
 | [],us,h=>by simpa[RPs]using h
 | b::bs,us,h=>by
  simp only[JF,RPs,RP,dA]at h;obtain⟨u,r,rfl,rfl,h2⟩:=h;rw[d9 h2];rfl
def oU(x:PV)(H:PHp)(Q:VK'):Prop:=match x with
 | .ref a=>∃ns:List Nat,H a=some (.lst (ns.map dA))/\(∀n∈ns,n<6)/\∀(r:Addr) (ms:List Nat),H r=none->ms.Pairwise (·<·)->(∀x,x∈ms↔x∈ns)->Q (.ref r) (put H r (.lst (ms.map dA)))
 | _=>False
theorem Je:oU (.ref a) H Q=∃ns:List Nat,H a=some (.lst (ns.map dA))/\(∀n∈ns,n<6)/\∀(r:Addr) (ms:List Nat),H r=none->ms.Pairwise (·<·)->(∀x,x∈ms↔x∈ns)->Q (.ref r) (put H r (.lst (ms.map dA))):=rfl
def lO(ta:TE'):TE':=fun σ H Q=>ta σ H fun x H1=>oU x H1 Q
theorem iG{L:List Nat}:∀{ms:List Int},(∀x∈ms,∃n∈L,x=((n:Nat):Int))->ms=(ms.map Int.toNat).map fun(n:Nat)=>(n:Int)
 | [],_=>rfl
 | x::ms,h=>by
  obtain⟨n,_,rfl⟩:=h x Jw;rw[JF,JF,← iG (ms:=ms) fun y hy=>h y (Jz _ hy)];rfl
theorem eU(hc:X.calm=true)(hu:X.A.units+64<cLine)(hgl:Gl X "sorted")(hml:X.mg "sorted"=none)(hgs:Gl X "set")(hms:X.mg "set"=none)(bs:bootBuiltins "set"=some (.type "set"))(ha:PE' X B e ta)(bo:bootBuiltins "sorted"=some (.builtin "sorted"):=by decide +kernel)
  (he:starEach [.Call (.Name "set" p2) [e] [] pos2] X.env=[(false,eval (.Call (.Name "set" p2) [e] [] pos2) X.env)]:=by rfl) (he2:starEach [e] X.env=[(false,eval e X.env)]:=by rfl) :
  PE' X B (.Call (.Name "sorted" p) [.Call (.Name "set" p2) [e] [] pos2] [] pos) (lO ta) :=
 aS (cF (iu hc) hgl hml bo (bE (cU (jM hc) hgs hms bs (bE ha bY he2) (by decide) (by decide) he2 rfl) bY he) (by decide) (by decide) he rfl) fun σ H Q h=>by
  obtain⟨σ',H',Q',s,h,k⟩:=h;refine⟨σ',H',_,s,h,fun x' H1' x H1 h1 rx s1 e1=>?_⟩;cases x' with
  | ref a =>
   obtain⟨ns,ea,hin,q⟩:=h1;simp only[RP]at rx;subst rx;obtain⟨us,eg,r2⟩:=s1.hp _ _ ea;rw[d9 r2]at eg;refine⟨a,ns,rfl,.inl (.inl eg),hin,fun S hS=>⟨S,SI.lof ns,rfl,bj,fun r ms hr hs hp=>?_⟩⟩;have s2:=s1.hid (o:=.ext (fJ X.w S (SI.lof ns))) hS;have e2:Ev H1' H1 H1' (upd H1 S (.ext (fJ X.w S (SI.lof ns)))):=Ev.hid hS;have nd:=(SI.gL _ (SI.fL hin)).2.2.1;have hm:∀x∈ms,∃n∈SI.lof ns,x=((n:Nat):Int):=fun x hx=>by
    obtain⟨n,h1,h2⟩:=Jp.mp (hp.mem_iff.mp hx);exact⟨n,h1,h2.symm⟩
   have em:=iG hm;generalize ms.map Int.toNat=ks at em;subst em;have pk:ks.Perm (SI.lof ns):=by
    have:=hp.map Int.toNat
    simpa[JS,Function.comp_def]using this
   have ndk:ks.Nodup:=pk.nodup_iff.mpr nd;have hsk:ks.Pairwise (·<·):=by
    rw[KH]at hs;refine List.Pairwise.imp₂ (fun a b h1 h2=>?_) hs ndk;have:a≠b:=h2;symm
   have hq:=q r ks (s2.hp.free hr) hsk fun x=>pk.mem_iff.trans SI.gU;have rr:RPs X.K (upd H1 S (.ext (fJ X.w S (SI.lof ns)))) (ks.map dA) ((ks.map fun(n:Nat)=>(n:Int)).map V.int):=by
    have e3:ks.map dA=(ks.map fun(n:Nat)=>(n:Int)).map PV.int:=by rw[JS];rfl
    rw[e3];exact fA
   exact k _ _ _ _ hq (by simp[RP]) (s2.new hr (kL hr rr)) ((e1.trans e2).trans (Ev.new hr))
  | _=>exact h1.elim
end U
namespace L2
variable {X:Cx}{tg:Expr}
theorem fc:MtM X "list.extend" (mK X.K):=by
 intro pins s σ H x vs v us Q I rx rv h;obtain⟨l,b,xs,zs,rfl,rfl,hH,hB,hz,q⟩:=h;cases rx;obtain⟨u,rfl,ru⟩:=rv.one;cases ru;obtain⟨z,its,n,r,hl,e⟩:=I.lstM hH;obtain⟨is2,r2,⟨o2,ho2,hc2,n2,hd2⟩,hz2⟩:=I.tuple hB;have hne:l≠b:=by
  rintro rfl;rw[e]at ho2;cases ho2;exact absurd (show Value.type "list"=Value.type "tuple" from hc2) (by decide)
 have hlen2:=r2.length;refine Kt F.slot_list_extend ⟨_,e,rfl⟩ F.entry_list_extend ?_ (F.args_list_extend_2 _ _);show wpAny _ _ (Builtin.List.listExtendWith (.ref l) (.ref b) .none) _ _ _;unfold Builtin.List.listExtendWith;refine Jm (wpAny_typeOf (T:="tuple") ⟨o2,ho2,hc2⟩ ?_);rw[JL (by rw[show(Value.type "tuple"==Value.type "tuple")=true from rfl];simp)];refine Jm (listItems_at ho2 hd2 ?_);refine Jm (listItems_at (xs:=its.toArray) (n:=n) e rfl ?_);have hsz:its.toArray.size+is2.toArray.size≤sizeLine:=by rw[JC,JC];symm
 rw[JK (by rw[m9 hsz,Bool.and_false];exact Bool.false_ne_true)];refine Jm (listUpdate_at (xs:=its.toArray) (n:=n) e rfl ?_ (by rw[JC];symm) (by show(its.toArray++is2.toArray).size≤_;rw[Array.size_append];symm));refine Jq ⟨_,rfl,?_⟩;refine⟨.non,_,I.lset (its':=its++is2) hH e (by simp) (r.append r2) ?_,rfl,q⟩;rw[Jr];symm
def Itd(lo:Int)(n:Nat):It:=⟨fun i _=>i<n,fun i H x H'=>H'=H/\x=.int (lo - i),fun i _=>n≤i⟩
theorem rA{K:PySem.W.Frag}(it:Addr)(lo:Int)(n:Nat):Turn P w K tg (Itd lo n) [it] it (fun i h=>IsRangeIter h it (lo+(i:Nat)*(-1)) ((n:Int) - (i:Nat)) (-1)) where
 mem:=by simp
 obj:=fun i h st b hb=>by
  have q:b=it:=by simpa using hb
  subst q;exact⟨_,st,fun v z=>by
   have z':Data.fields _=Data.cell v:=z;cases z'⟩
 keep:=fun i h h' st k=>k it (by simp) _ st
 item:=by
  intro X hP hw hK hc i pins s σ H E I hf st hg;subst hP hw hK;obtain⟨f0,f1,f2,f3,f4,f5⟩:=hf it (by simp);have W:=Walks.range (prog:=X.prog) (w:=X.w) (I.ok.hd hc) it lo (-1) n;refine W.item i s _ _ hg st fun v h' tk hv st' kk=>?_;obtain⟨t,rfl⟩:=hv;have J:Inv X pins σ H { s with heap:=h',toks:=tk }:=I.turned (fun b o hb e=>kk b o (by simpa using hb) e) f0 f1 f3 f4 f5;refine⟨_,rfl,lT (s:={ s with heap:=h',toks:=tk }) (n:="range_iterator") st' rfl rfl (by decide) ⟨.int (lo - i),H,J,⟨t,?_⟩,⟨rfl,rfl⟩,st',fun b hb=>(hf b hb).1⟩⟩;congr 1;symm
 done:=by
  intro X hP hw hK hc i pins s σ H E I hf st hg;subst hP hw hK;obtain⟨f0,f1,f2,f3,f4,f5⟩:=hf it (by simp);exact wpAny_pyNext_range_end (I.ok.hd hc) st (by have q:n≤i:=hg;symm) fun h' eb=>⟨rfl,I.turned (t':=s.toks) (fun b o hb e=>eb b o hb e) f0 f1 f3 f4 f5⟩
 self:=fun _ _ _ _ _ st h=>wpAny_pyIter_rangeiter st h
def EF(ta:TA):TI:=fun σ H R=>ta σ H fun vs H1=>∃j:Int,vs=[.int j,.int (-1),.int (-1)]/\-1≤j/\j<1000/\R (Itd j (j+1).toNat) H1
theorem jC(h:-1≤j):Builtin.Range.rangeSize j (-1) (-1)=j+1:=by
 unfold Builtin.Range.rangeSize;rw[JK (by decide)];have e:-(-1:Int)=1:=rfl;rw[e,Int.ediv_one];split<;>symm
theorem oG(h:-1≤j)(h2:j<1000):Builtin.Range.small j (-1) (-1)=true:=by
 unfold Builtin.Range.small;rw[jC h];simp only[Builtin.Range.rangeFitsLong,KO,Bool.or_eq_true,Kk,Lb];refine⟨⟨⟨⟨by symm,by decide⟩,by decide⟩,by symm⟩,.inr (by decide)⟩
theorem xf{a b c:Expr}{ta:TA}{p pos:Pos}(hg:Gl X "range")(hm:X.mg "range"=none)(ha:PA X [a,b,c] ta)(hs:starEach [a,b,c] X.env=[(false,eval a X.env),(false,eval b X.env),(false,eval c X.env)]:=by rfl)
  (hs2:starEach [b,c] X.env=[(false,eval b X.env),(false,eval c X.env)]:=by rfl):PI X tg (.Call (.Name "range" p) [a,b,c] [] pos) (EF ta):=by
 intro pins s σ H R I h;refine Call_ (dq I hg hm boot_range (Ka (thn (ha pos pins s σ H _ I h) fun us s1 ⟨vs,H1,I1,r1,q1⟩=>?_) (by rw[hs,hs2]) (by rw[hs2];rfl)));obtain⟨j,e,q1,q2,q⟩:=q1;subst e;cases r1 with
 | cons r rr =>
  cases rr with
  | cons r' rr =>
   cases rr with
   | cons r'' rr =>
    cases rr;obtain⟨t,rfl⟩:=r;obtain⟨t',rfl⟩:=r';obtain⟨t'',rfl⟩:=r'';refine call_range_3 (by decide) ?_ (Or.inl (PyProof.noPylong_of_log2 (by decide +kernel)));generalize hh:s1.heap.push { cls:=.type "range",data:=.fields #[.int j t,.int (-1) t',.int (-1) t''] }=h2;have I2:Inv X pins σ H1 { s1 with heap:=h2 }:=by rw[←hh];exact I1.kept (t':=s1.toks) fun b o e=>Js _ e
    refine wpAny_pyIter_range (s:={ s1 with heap:=h2,toks:=s1.toks }) (by rw[←hh];exact IsRange.new ..) (oG q1 q2) ?_;refine⟨h2.objs.size,[h2.objs.size],_,_,H1,rfl,I2.kept (t':=s1.toks) fun b o e=>Js _ e,rA _ j (j+1).toNat,?_,fun b hb=>?_,q⟩
    ·show IsRangeIter _ _ (j+((0:Nat):Int)*(-1)) ((((j+1).toNat:Nat):Int) - ((0:Nat):Int)) (-1);have e1:j+((0:Nat):Int)*(-1)=j:=by simp
     have e2:(((j+1).toNat:Nat):Int) - ((0:Nat):Int)=Builtin.Range.rangeSize j (-1) (-1):=by rw[jC q1];symm
     rw[e1,e2];exact JA _ rfl
    ·have e:b=h2.objs.size:=by simpa using hb
     subst e;exact I2.fpOk (Jy _) (I2.hok.fresh (Jy _))
end L2
namespace U
open L2
section
variable {B:Bs}{X:Cx}{a b c:Expr}{pos:Pos}
def tu:PV->List PV->PHp->VK'->Prop:=fun x vs H Q=>match x,vs with
 | .ref a,[.tup m]=>∃l,H a=some (.lst l)/\l.length+m.length≤sizeLine/\Q .non (put H a (.lst (l++m)))
 | _,_=>False
theorem Hl{a:Addr}:tu (.ref a) [.tup m] H Q=∃l,H a=some (.lst l)/\l.length+m.length≤sizeLine/\Q .non (put H a (.lst (l++m))):=rfl
theorem kc{K:PySem.W.Frag}:VM K B tu (mK K):=by
 intro σ' σ H' H x' xs' x xs Q' Q s rx r h k;unfold tu at h;split at h
 ·rename_i a m;obtain⟨l,e,hl,h⟩:=h;obtain⟨us,q,r2⟩:=s.hp _ _ e;simp only[RP,RPs]at rx r;obtain⟨u,r1,rfl,⟨b,ws,rfl,hb,r3⟩,rfl⟩:=r;subst rx;exact⟨a,b,us,ws,rfl,rfl,q,hb,by rw[RPs.length _ r2,RPs.length _ r3];exact hl,k _ _ _ _ h (by simp[RP]) (s.wr e (wrL s.hp e (RPs.append _ r2 r3))) (Ev.wr e)⟩
 ·exact h.elim
def kZ(lo:Int)(n:Nat):List PV:=(List.range n).map fun k=>PV.int (lo - (k:Nat))
theorem qO{K:PySem.W.Frag}{lo:Int}:Walks K H1 (Itd lo n) ⟨kZ lo n,fun _=>True⟩ where
 go:=fun H' H i _ _ _ hi=>by
  have q:i<n:=by simpa[kZ]using hi
  exact q
 yld:=fun H' H i x H2 _ _ _ y=>by
  obtain⟨rfl,rfl⟩:=y;refine⟨rfl,fun x' hx=>?_⟩;unfold kZ at hx;rw[JI]at hx;cases q:(List.range n)[i]? with
  | none=>rw[q]at hx;cases hx
  | some j =>
   rw[q]at hx;have:j=i:=by
    have:=(JE.mp q).2;simpa using this.symm
   subst this;cases hx;simp[RP]
 stop:=fun H' H i _ _ _ hi=>by
  have q:n≤i:=by simpa[kZ]using hi
  exact q
def uS(vs:List PV)(H1:PHp)(R:It'->PHp->Prop):Prop:=match vs with
 | [.int j,.int e,.int f]=>e=-1/\f=-1/\-1≤j/\j<1000/\R ⟨kZ j (j+1).toNat,fun _=>True⟩ H1
 | _=>False
theorem Ij:uS [.int j,.int e,.int f] H1 R=(e=-1/\f=-1/\-1≤j/\j<1000/\R ⟨kZ j (j+1).toNat,fun _=>True⟩ H1):=rfl
def zH(t:TA'):TI':=fun σ H R=>t σ H fun vs H1=>uS vs H1 R
theorem qB{tg:Expr}{t:TA'}{p:Pos}(hg:Gl X "range")(hm:X.mg "range"=none)(ha:PA' X B [a,b,c] t)(hs:starEach [a,b,c] X.env=[(false,eval a X.env),(false,eval b X.env),(false,eval c X.env)]:=by rfl)
  (hs2:starEach [b,c] X.env=[(false,eval b X.env),(false,eval c X.env)]:=by rfl):PI' X B tg (.Call (.Name "range" p) [a,b,c] [] pos) (zH t) :=
 fe (xf hg hm ha hs hs2) fun σ H R y_=>by
  obtain⟨σ',H',R',s,h,k⟩:=y_;refine⟨σ',H',_,s,h,fun vs' H1' vs H1 h1 r1 s1 e1=>?_⟩;unfold uS at h1;split at h1
  ·rename_i j e f;obtain⟨rfl,rfl,h2,h3,q⟩:=h1;simp only[RPs,RP]at r1;obtain⟨u,r,rfl,rfl,u2,r2,rfl,rfl,u3,r3,rfl,rfl,rfl⟩:=r1;exact⟨j,rfl,h2,h3,k _ _ _ _ q qO s1 e1⟩
  ·exact h1.elim
end
section
variable {B:Bs}{X:Cx}{a b:Expr}{ta tb:TE'}{pos:Pos}
def sD:R2':=fun x y H Q=>match x,y with
 | .ref a,.ref b=>∃l m,H a=some (.lst l)/\H b=some (.lst m)/\l.length+m.length≤sizeLine/\∀p,H p=none->Q (.ref p) (put H p (.lst (l++m)))
 | _,_=>False
theorem Il{a b:Addr}:sD (.ref a) (.ref b) H Q=∃l m,H a=some (.lst l)/\H b=some (.lst m)/\l.length+m.length≤sizeLine/\∀p,H p=none->Q (.ref p) (put H p (.lst (l++m))):=rfl
theorem A1{K:PySem.W.Frag}:VR K B sD Fd:=by
 intro σ' σ H' H x' y' x y Q' Q s rx ry h k;unfold sD at h;split at h
 ·rename_i a b;obtain⟨l,m,e1,e2,hl,h⟩:=h;simp only[RP]at rx ry;subst rx;subst ry;obtain⟨us,q1,r1⟩:=s.hp _ _ e1;obtain⟨ws,q2,r2⟩:=s.hp _ _ e2;refine⟨a,b,us,ws,rfl,rfl,q1,q2,by rw[RPs.length _ r1,RPs.length _ r2];exact hl,fun p hp=>?_⟩;exact k _ _ _ _ (h p (s.hp.free hp)) (by simp[RP]) (s.new hp (kL hp (RPs.append _ r1 r2))) (Ev.new hp)
 ·exact h.elim
theorem cX(ha:PE' X B a ta)(hb:PE' X B b tb):PE' X B (.BinOp a .Add b pos) (uOp sD ta tb):=eW Co A1 ha hb
theorem Gy{a:Addr}:zT [.ref a] H Q=∃ns:List Int,H a=some (.lst (ns.map PV.int))/\ns.length<64/\∀(r:Addr) (ms:List Int),H r=none->ms.Perm ns->ms.Pairwise (·≤·)->Q (.ref r) (put H r (.lst (ms.map PV.int))):=rfl
theorem EY(ns:List Int)(lo hi:Option Int):∃ms:List Int,bO (ns.map PV.int) lo hi=ms.map PV.int/\ms.length≤ns.length:=by
 unfold bO;refine⟨(ns.drop (HT.sIx (ns.map PV.int).length 0 lo)).take (HT.sIx (ns.map PV.int).length (ns.map PV.int).length hi - HT.sIx (ns.map PV.int).length 0 lo),?_,?_⟩
 ·rw[List.map_take,List.map_drop]
 ·rw[J6,Ld];symm
theorem fP{F:List Int}(h:∀x∈F,0≤x/\x<6):F.map PV.int=(F.map Int.toNat).map dA:=by
 rw[JS];refine List.map_congr_left fun x hx=>?_;have:=h x hx;show PV.int x=PV.int ((x.toNat:Nat):Int);congr 1;symm
end
end U
set_option Elab.async false
namespace L2
section
variable {κ:Type}[DecidableEq κ]
end
section
variable {P:Program}{w:World}{H:Hp}{h:Heap}{a:Addr}
end
section
variable {X:Cx}{pins:List (Addr×Obj)}{σ:St}{H:Hp}{s:Shared}{a:Addr}{y v:V}{u r:Value}{o:Option V}{A:Around}{E:Value->Shared->Prop}
end
section
variable {X:Cx}{pins:List (Addr×Obj)}{σ:St}{H:Hp}{s:Shared}{a:Addr}{kvs:List (Key×V)}{k:Key}{u:Value}{A:Around}{E:Value->Shared->Prop}
end
section
variable {X:Cx}{o i e value:Expr}{pos pos' tpos:Pos}{td ty tv:TE}
end
section
variable {X:Cx}{pos:Pos}
end
end L2
namespace SI
section
variable {prog:Program}{w:World}{A:Around}{E:Value->Shared->Prop}{s:Shared}{T:String}{r d:Addr}{n:Nat}{P:Nat->Value->Prop}{OK:Heap->Prop}
end
end SI
namespace L2
variable {X:Cx}
end L2
namespace U
open L2
section
variable {B:Bs}{X:Cx}{a b o i value:Expr}{ta tb td ty:TE'}{pos pos':Pos}
def dkP(ks:List Int):PO:=.dK (ks.map fun n=>(Sum.inl n,PV.bl true))
def GO(y x:PV)(H:PHp)(Q:VK'):Prop:=match y,x with
 | .int n,.ref a=>∃ks,H a=some (dkP ks)/\Q (.bl (!decide (n∈ks))) H
 | _,_=>False
def IL:List PV->PHp->VK'->Prop:=de fun x H Q=>match x with
 | .ref a=>∃ks:List Int,H a=some (dkP ks)/\ks.length<64/\∀(r:Addr) (ms:List Int),H r=none->ms.Pairwise (·≤·)->ms.Perm ks->Q (.ref r) (put H r (.lst (ms.map PV.int)))
 | _=>False
end
section
theorem BB:∀x H Q,wJ x [] H Q->match x with | .ref a=>∃l,H a=some (.lst l) | _=>False:=by
 intro x H Q h;cases x with
 | ref a=>obtain⟨l,y,e,_⟩:=h;exact⟨l,e⟩
 | _=>exact h
end
end U
namespace L2
variable {X:Cx}
def CO(K:PySem.W.Frag):List V->Hp->VK->Prop:=fun xs H Q=>∃(p:Addr) (bs:List Bool),xs=[.ref p]/\SqL K H p (bs.map V.bl)/\Q (.bl (bs.any id)) H
theorem iC(hc:X.calm=true):cf X (.builtin "any") (CO X.K):=by
 intro pins s σ H xs us Q I r h;obtain⟨a,bs,rfl,hq,q⟩:=h;obtain⟨u,rfl,ru⟩:=Vals.one r;cases ru;obtain⟨its,rv,p,hz⟩:=I.list hq;have e:=fg rv;subst e;have hl:s.heap.IsList a (bs.map Value.bool).toArray:=p.isList;have llt:a<s.heap.objs.size:=by obtain⟨o,e,_⟩:=hl;exact Jv e
 have hne:a≠s.heap.objs.size:=JG llt;refine call_any_walk (wpAny_pyIter_list hl ?_);refine⟨s.heap.objs.size,[s.heap.objs.size,a],[s.heap.objs.size],(bs.map Value.bool).toArray.size,_,_,fun i=>bs.getD i false,rfl,Walks.list (by simpa using I.ok.hd hc) _ a hne _,⟨⟨_,JA _ rfl,rfl,rfl⟩,hl.at fun o e=>Js _ e⟩,?_,?_⟩
 ·intro i v s' Q' E' hv hQ;have:v=Value.bool (bs.getD i false):=by
   have hv':(bs.map Value.bool)[i]?=some v:=by simpa using hv
   rw[JI]at hv';cases hb:bs[i]? with
   | none=>rw[hb]at hv';cases hv'
   | some b=>rw[hb]at hv';cases hv';rw[Jt,hb];rfl
  subst this;exact KS hQ
 ·intro h' tk kp;have e:(List.range (bs.map Value.bool).toArray.size).any (fun i=>bs.getD i false)=bs.any id:=by
   have hs:(bs.map Value.bool).toArray.size=bs.length:=by simp
   rw[hs];rw[Bool.eq_iff_iff,Ln,Ln];constructor
   ·rintro⟨i,hi,h⟩;have hi:=J1.mp hi;rw[Jt,Jo hi]at h;exact⟨_,JV hi,h⟩
   ·rintro⟨b,hb,h⟩;obtain⟨i,hi,e⟩:=List.getElem_of_mem hb;refine⟨i,J1.mpr hi,?_⟩;rw[Jt,Jo hi,e];exact h
  rw[e];refine⟨.bl (bs.any id),H,I.kept (t':=tk) fun b o e=>?_,rfl,q⟩;exact kp b o (by simpa using JG (Jv e)) (Js _ e)
theorem p7(hin:∀n∈ns,n<6)(nd:ns.Nodup):(SI.lof ns).length=ns.length:=by
 have h1:=(SI.gL _ (SI.fL hin)).2.2.1;exact((List.perm_ext_iff_of_nodup h1 nd).mpr fun x=>SI.gU).length_eq
theorem jB:cf X (.builtin "len") (fun xs H Q=>∃(S:Addr) (L:List Nat),xs=[.ref S]/\H S=some (.ext (fJ X.w S L))/\Q (.int L.length) H):=by
 intro pins s σ H xs us Q I r h;obtain⟨S,L,rfl,hS,q⟩:=h;obtain⟨u,rfl,ru⟩:=Vals.one r;cases ru;obtain⟨P,_,_⟩:=(show bP X.prog X.w H s.heap S (.ext (fJ X.w S L))from I.hok S _ hS);obtain⟨hL,es,ep,ho,he⟩:=P.is;have h6:=(SI.gL L hL).2.1;have hz:=he.size;have hf:=(SI.kM L hL _ (SI.dP (SI.bu X.w))).1;rw[←hz]at hf q h6;exact call_len_set ho ⟨rfl,rfl,rfl⟩ rfl hf (by symm) ⟨.int es.size,H,I.tok _,⟨_,rfl⟩,q⟩
end L2
namespace U
open L2
variable {B:Bs}{X:Cx}{a b e:Expr}{ta tb:TE'}{p p2 pos pos2:Pos}
def ET:List PV->PHp->VK'->Prop:=de fun x H Q=>match x with
 | .ref a=>∃bs:List Bool,H a=some (.lst (bs.map PV.bl))/\Q (.bl (bs.any id)) H
 | _=>False
theorem IT{a:Addr}:ET [.ref a] H Q=∃bs:List Bool,H a=some (.lst (bs.map PV.bl))/\Q (.bl (bs.any id)) H:=rfl
theorem nB{K:PySem.W.Frag}:VC K B ET (CO K):=by
 intro σ' σ H' H xs' xs Q' Q s r h k;obtain⟨x',x,rfl,rfl,rx,h⟩:=de.ex h r;cases x' with
 | ref a =>
  obtain⟨bs,ea,q⟩:=h;simp only[RP]at rx;subst rx;obtain⟨us,e,r2⟩:=s.hp _ _ ea;rw[gc r2]at e;exact⟨a,bs,rfl,.inl (.inl e),k _ _ _ _ q (by simp[RP]) s (Ev.refl _ _)⟩
 | _=>exact h.elim
end U
namespace L2
variable {X:Cx}{pos:Pos}
def IC(K:PySem.W.Frag)(n:Nat)(t:TGs):TG:=fun v σ H Q=>∃a xs,v=.ref a/\SqL K H a xs/\xs.length=n/\t xs σ H Q
theorem Am{es:List Expr}{k:Nat}{t:TGs}{n:Nat}(hc:X.calm=true)(h:PGs X es t)(hn:(assignEach es X.env).length=n:=by rfl)(hst:(assignEach es X.env).findIdx? (·.1)=none:=by rfl) :
  PG X (.Tuple es k pos) (IC X.K n t):=by
 intro pins s σ H v u Q I r hw;obtain⟨a,xs,e1,hq,hl,hw⟩:=hw;subst e1;cases r;obtain⟨its,rv,p,hz⟩:=I.list hq;rw[assign_Tuple];refine Jm (wpAny_standAt ?_);unfold unpack;rw[hst,show(assignEach es X.env).length=its.toArray.size by simp[hn,← hl,rv.length]];refine Jm (Kb (PySem.W.kun_itemsOf (I.ok.hd hc) p.isList fun h' hx=>?_));have I1:Inv X pins σ H { s with heap:=h' }:=I.kept (t':=s.toks) fun b o e=>hx b o (JG (Jv e)) e;exact h pins _ σ H xs _ Q I1 (by simpa using rv) hw
end L2
namespace U
open L2
variable {B:Bs}{X:Cx}{es:List Expr}{pos:Pos}
def E1(n:Nat)(t:gh):TG':=fun v σ H Q=>match v with
 | .ref a=>∃l,H a=some (.lst l)/\l.length=n/\t l σ H Q
 | _=>False
theorem Ja:E1 n t (.ref a) σ H Q=∃l,H a=some (.lst l)/\l.length=n/\t l σ H Q:=rfl
theorem By{k:Nat}{t:gh}{n:Nat}(hc:X.calm=true)(h:v8 X B es t)(hn:(assignEach es X.env).length=n:=by rfl)(hst:(assignEach es X.env).findIdx? (·.1)=none:=by rfl):PG' X B (.Tuple es k pos) (E1 n t) :=
 kD (Am hc h hn hst) fun v σ H Q y_=>by
 obtain⟨v',σ',H',Q',r,s,h,k⟩:=y_;cases v' with
 | ref a =>
  obtain⟨l,e,hl,h⟩:=h;simp only[RP]at r;subst r;obtain⟨us,q,r⟩:=s.hp _ _ e;exact⟨a,us,rfl,.inl (.inl q),by rw[RPs.length _ r];exact hl,l,σ',H',Q',r,s,h,k⟩
 | _=>exact h.elim
end U
namespace EN
section
variable {prog:Program}{w:World}{A:Around}{E:Value->Shared->Prop}{s:Shared}
end
end EN
namespace L2
section
variable {X:Cx}
end
end L2
namespace U
open L2
variable {B:Bs}{X:Cx}{pos:Pos}
def Dq(l:List PV):List PV:=l.mapIdx fun i x=>.tup [.int (i:Nat),x]
def en1(vs:List PV)(H1:PHp)(R:It'->PHp->Prop):Prop:=match vs with
 | [.tup l]=>R ⟨Dq l,fun _=>True⟩ H1
 | _=>False
theorem Gh:en1 [.tup l] H R=R ⟨Dq l,fun _=>True⟩ H:=rfl
def uEn(t:TA'):TI':=fun σ H R=>t σ H fun vs H1=>en1 vs H1 R
end U
namespace L2
section
variable {X:Cx}{pins:List (Addr×Obj)}{σ:St}{H:Hp}{s:Shared}{h':Heap}
theorem Inv.turnedN{ch:List Addr}(I:Inv X pins σ H s)(k:∀b o,b∉ch->s.heap.get? b=some o->h'.get? b=some o)(hf:∀b∈ch,fq X pins H b):Inv X pins σ H { s with heap:=h',toks:=t' }:=by
 have nit:∀b u,H b=some u->b∉ch:=fun b u e z=>by rw[(hf b z).1]at e;cases e
 refine I.step (g':=s.gens) (d':=s.drawn) (ch:=ch) (fun b hb=>?_) (fun b o _ _ hc e _=>k b o hc e) (fun b o _ _ hc e _=>⟨o.slots,k b o hc e⟩) (fun _ _ _ _ n=>n)
  (fun b o hc e=>⟨o,k b o hc e⟩) (fun _ _ e=>e) (fun _ _ _ e=>e) (fun b ps e=>⟨#[],by rw[e];simp⟩) (fun m hm=>?_) (fun b u e=>?_) I.bare
 ·have f:=hf b hb;exact⟨f.2.2.2.1,f.2.1,f.2.2.2.2.1,f.2.2.2.2.2⟩
 ·obtain⟨o,es,ep,ho,r⟩:=hm;exact⟨o,es,ep,k _ o (fun z=>(hf _ z).2.1 rfl) ho,r⟩
 ·refine(I.hok b u e).stay (fun c z hc q2=>?_) (fun c q2=>q2) fun c ys q2=>q2;have nn:c∉ch:=by
   rcases hc with z | z
   ·rw[z];exact nit b u e
   ·exact nit c _ z
  exact k c z nn q2
end
def Itz(K:PySem.W.Frag)(a b:Addr):It :=
 ⟨fun i H=>∃xs ys x y,SqL K H a xs/\SqL K H b ys/\xs[i]?=some x/\ys[i]?=some y,fun i H x H'=>∃T u v,H T=none/\x=.ref T/\H'=upd H T (.tup [u,v])/\∀xs ys,SqL K H a xs->SqL K H b ys->xs[i]?=some u/\ys[i]?=some v,
  fun i H=>∃xs ys,SqL K H a xs/\SqL K H b ys/\(xs[i]?=none∨ys[i]?=none)⟩
theorem jO:∀{xs:List V} {its:List Value} {i:Nat},Vals xs its->xs[i]?=none->its[i]?=none:=fun {xs its i} r h=>by
 have hl:=r.length;rw[List.getElem?_eq_none_iff]at h ⊢;symm
theorem tN{K:PySem.W.Frag}(z TI TO i1 i2 a b:Addr)(D:ZipApart z TI TO i1 i2 a b):Turn P w K (.Tuple elts k1 tpos) (Itz K a b) [z,TI,TO,i1,i2] z
  (fun i h=>IsZip h z TI TO .none/\IsPair h TI (.ref i1) (.ref i2)/\(∃x y,IsPair h TO x y)/\h.IsListIter i1 a i/\h.IsListIter i2 b i) where
 mem:=by simp
 obj:=fun i h st c hc=>by
  obtain⟨hz,hI,⟨x,y,hO⟩,⟨o1,e1,c1,d1⟩,⟨o2,e2,c2,d2⟩⟩:=st;simp only[JD,Ki,LJ]at hc;rcases hc with rfl | rfl | rfl | rfl | rfl
  ·exact⟨_,hz,fun v q=>by cases (show Data.fields _=Data.cell v from q)⟩
  ·exact⟨_,hI,fun v q=>by cases (show Data.seq _ _=Data.cell v from q)⟩
  ·exact⟨_,hO,fun v q=>by cases (show Data.seq _ _=Data.cell v from q)⟩
  ·exact⟨_,e1,fun v q=>by rw[d1]at q;cases q⟩
  ·exact⟨_,e2,fun v q=>by rw[d2]at q;cases q⟩
 keep:=fun i h h' st k=>by
  obtain⟨hz,hI,⟨x,y,hO⟩,h1,h2⟩:=st;exact⟨k z (by simp) _ hz,k TI (by simp) _ hI,⟨x,y,k TO (by simp) _ hO⟩,h1.at fun o e=>k i1 (by simp) o e,h2.at fun o e=>k i2 (by simp) o e⟩
 item:=by
  intro X hP hw hK hc i pins s σ H E I hf st hg;subst hP hw hK;obtain⟨xs,ys,x,y,qx,qy,hx,hy⟩:=hg;obtain⟨its,rv,p,_⟩:=I.list qx;obtain⟨jts,rw',p',_⟩:=I.list qy;obtain⟨u,hu,ru⟩:=rv.get hx;obtain⟨v,hv,rv2⟩:=rw'.get hy;obtain⟨hz,hI,⟨x0,y0,hO⟩,h1,h2⟩:=st;refine wpAny_pyNext_zip_item D hz hI hO h1 h2 p.isList p'.isList (show its.toArray[i]?=some u by simpa using hu) (show jts.toArray[i]?=some v by simpa using hv) fun h' a1 a2 a3 a4 a5 a6 hk=>?_;refine⟨_,rfl,wpAny_letOwnedTupleGo_zip (s:={ s with heap:=h' }) a1 fun h2 hz2 sb=>?_⟩;have sb2:Heap.SameBut z h' h2:=sb;have hzlt:z<s.heap.objs.size:=Jv hz;have hT2:h2.get? s.heap.objs.size=some { cls:=.type "tuple",data:=.seq #[u,v] }:=(sb2.2 _ (LD hzlt)).trans a5;have kk:∀c o,c∉[z,TO,i1,i2]->s.heap.get? c=some o->h2.get? c=some o:=fun c o n q=>by
   simp only[JD,Ki,LJ,not_or]at n;exact(sb2.2 c n.1).trans (hk c o n.1 n.2.1 n.2.2.1 n.2.2.2 q)
  have hn:H s.heap.objs.size=none:=I.hok.fresh (Jy _);have hf4:∀c∈[z,TO,i1,i2],fq X pins H c:=fun c hc=>hf c (by simp only[JD,Ki,LJ]at hc ⊢;rcases hc with e | e | e | e<;>simp[e]);have nit:∀c v,H c=some v->c∉[z,TO,i1,i2]:=fun c v q zc=>by rw[(hf4 c zc).1]at q;cases q
  have ltT:∀{c o},s.heap.get? c=some o->c≠s.heap.objs.size:=fun e=>JG (Jv e);have up:∀{c o},c≠z->h'.get? c=some o->h2.get? c=some o:=fun {c o} n e=>(sb2.2 c n).trans e;refine⟨.ref s.heap.objs.size,upd H s.heap.objs.size (.tup [x,y]),?_,rfl,⟨_,x,y,hn,rfl,rfl,fun zs ws q1 q2=>⟨by rw[I.list_inj q1 qx];exact hx,by rw[I.list_inj q2 qy];exact hy⟩⟩,?_,fun c hc=>?_⟩
  ·show Inv X pins σ _ { s with heap:=h2,toks:=s.toks };refine I.step (h':=h2) (g':=s.gens) (d':=s.drawn) (t':=s.toks) (ch:=[z,TO,i1,i2]) (fun c hc=>?_) (fun c o _ _ hc q _=>kk c o hc q) (fun c o _ _ hc q _=>⟨o.slots,kk c o hc q⟩)
    (fun c o _ q n=>by rw[aM (ltT q)];exact n) (fun c o hc q=>⟨o,kk c o hc q⟩) (fun c ys q=>by rw[aM (aQ q hn)];exact q) (fun c o v q=>by rw[aM (aQ q hn)];exact q)
    (fun c ps q=>⟨#[],by rw[aM (aQ q hn),q];simp⟩) (fun m hm=>?_) (fun c v' q=>?_) I.bare
   ·have f:=hf4 c hc;exact⟨f.2.2.2.1,f.2.1,f.2.2.2.2.1,f.2.2.2.2.2⟩
   ·obtain⟨o,es,ep,q,r⟩:=hm;exact⟨o,es,ep,kk _ o (fun zc=>(hf4 _ zc).2.1 rfl) q,r⟩
   ·by_cases hb:c=s.heap.objs.size
    ·subst hb;rw[bj]at q;cases q;exact⟨by show 2≤sizeLine;rw[J9];symm,[u,v],.cons ru (.cons rv2 .nil),⟨_,hT2,rfl,_,rfl⟩⟩
    ·rw[aM hb]at q;refine(I.hok c v' q).stay (fun d zd hd q2=>?_) (fun d q2=>by rw[aM (aQ q2 hn)];exact q2) fun d ys q2=>by rw[aM (aQ q2 hn)];exact q2
     have nn:d∉[z,TO,i1,i2]:=by
      rcases hd with e | e
      ·rw[e];exact nit c v' q
      ·exact nit d _ e
     exact kk d zd nn q2
  ·refine⟨hz2,?_,⟨_,_,up D.TOz a2⟩,a3.at fun o e=>up D.i1z e,a4.at fun o e=>up D.i2z e⟩;exact up D.TIz (hk _ _ D.TIz D.TITO D.TIi1 D.TIi2 hI)
  ·have hc2:c<s.heap.objs.size:=by
    simp only[JD,Ki,LJ]at hc;rcases hc with rfl | rfl | rfl | rfl | rfl
    ·exact hzlt
    ·exact Jv hI
    ·exact Jv hO
    ·obtain⟨_,e,_⟩:=h1;exact Jv e
    ·obtain⟨_,e,_⟩:=h2;exact Jv e
   rw[aM (JG hc2)];exact(hf c hc).1
 done:=by
  intro X hP hw hK hc i pins s σ H E I hf st hg;subst hP hw hK;obtain⟨xs,ys,qx,qy,hend⟩:=hg;obtain⟨its,rv,p,_⟩:=I.list qx;obtain⟨jts,rw',p',_⟩:=I.list qy;obtain⟨hz,hI,⟨x0,y0,hO⟩,h1,h2⟩:=st;have hend':its.toArray[i]?=none∨jts.toArray[i]?=none:=by
   rcases hend with e | e
   ·exact .inl (by simpa using jO rv e)
   ·exact .inr (by simpa using jO rw' e)
  refine wpAny_pyNext_zip_end (I.ok.hd hc) D hz hI hO h1 h2 p.isList p'.isList hend' fun h' hk=>⟨rfl,I.turnedN (t':=s.toks) (ch:=[z,TO,i1,i2]) (fun c o n q=>?_) fun c hc=>hf c ?_⟩
  ·simp only[JD,Ki,LJ,not_or]at n;exact hk c o n.1 n.2.1 n.2.2.1 n.2.2.2 q
  ·simp only[JD,Ki,LJ]at hc ⊢;rcases hc with e | e | e | e<;>simp[e]
 self:=fun _ _ _ _ _ st h=>wpAny_pyIter_zip st.1 h
section
variable {X:Cx}
def GC(K:PySem.W.Frag)(ta:TA):TI:=fun σ H R=>ta σ H fun vs H1=>∃a b,vs=[.ref a,.ref b]/\(∃xs,SqL K H1 a xs)/\(∃ys,SqL K H1 b ys)/\R (Itz K a b) H1
theorem BF{elts:List Expr}{k1}{tpos:Pos}{c d:Expr}{ta:TA}{p pos:Pos}(hg:Gl X "zip")(hm:X.mg "zip"=none)(ha:PA X [c,d] ta)(hs:starEach [c,d] X.env=[(false,eval c X.env),(false,eval d X.env)]:=by rfl)(hs2:starEach [d] X.env=[(false,eval d X.env)]:=by rfl) :
  PI X (.Tuple elts k1 tpos) (.Call (.Name "zip" p) [c,d] [] pos) (GC X.K ta):=by
 intro pins s σ H R I h;refine Call_ (dq I hg hm PyProof.Rows.boot_zip (Ka (thn (ha pos pins s σ H _ I h) fun us s1 ⟨vs,H1,I1,r1,q1⟩=>?_) (by rw[hs,hs2]) (by rw[hs2];rfl)));obtain⟨a,b,e,⟨xs,qx⟩,⟨ys,qy⟩,q⟩:=q1;subst e;cases r1 with
 | cons r rr =>
  cases rr with
  | cons r' rr =>
   cases rr;cases r;cases r';obtain⟨its,rv,p,_⟩:=I1.list qx;obtain⟨jts,rw',p',_⟩:=I1.list qy;obtain⟨_,ea,_⟩:=id p.isList;obtain⟨_,eb,_⟩:=id p'.isList;refine call_zip_2 p.isList p'.isList fun h1 hz hI hO l1 l2 hsz kk=>wpAny_pyIter_zip hz ?_;refine⟨_,_,_,_,H1,rfl,I1.kept (t':=s1.toks) kk,tN _ _ _ _ _ a b (PyProof.Rows.zipApart_new (Jv ea) (Jv eb)),⟨hz,hI,⟨_,_,hO⟩,l1,l2⟩,fun c hc=>?_,q⟩;have hb2:s1.heap.objs.size≤c:=by
    simp only[JD,Ki,LJ]at hc;rcases hc with rfl | rfl | rfl | rfl | rfl
    ·exact Nat.le_add_right _ _
    ·exact Nat.le_add_right _ _
    ·exact Nat.le_add_right _ _
    ·exact Jy _
    ·exact Nat.le_add_right _ _
   exact I1.fpOk hb2 (I1.hok.fresh hb2)
end
end L2
namespace U
open L2
variable {B:Bs}{X:Cx}{pos:Pos}
def d3:List PV->List PV->List PV
 | x::xs,y::ys=>.tup [x,y]::d3 xs ys
 | _,_=>[]
theorem iA:∀(l m:List PV),(d3 l m).length=min l.length m.length
 | [],_=>by simp[d3]
 | _::_,[]=>by simp[d3]
 | x::l,y::m=>by simp[d3,iA l m]
theorem fB:∀{l m:List PV} {i:Nat} {z:PV},(d3 l m)[i]?=some z->∃x y,l[i]?=some x/\m[i]?=some y/\z=.tup [x,y]
 | [],_,i,z,h=>by simp[d3]at h
 | _::_,[],i,z,h=>by simp[d3]at h
 | x::l,y::m,0,z,h=>⟨x,y,rfl,rfl,by simpa[d3]using h.symm⟩
 | x::l,y::m,i+1,z,h=>by
  have:=fB (l:=l) (m:=m) (i:=i) (z:=z) (by simpa[d3]using h);simpa using this
def zip2(vs:List PV)(H1:PHp)(R:It'->PHp->Prop):Prop:=match vs with
 | [.ref a,.ref b]=>∃l m,H1 a=some (.lst l)/\H1 b=some (.lst m)/\R ⟨d3 l m,fun H=>H a=some (.lst l)/\H b=some (.lst m)⟩ H1
 | _=>False
theorem Hz:zip2 [.ref a,.ref b] H R=∃l m,H a=some (.lst l)/\H b=some (.lst m)/\R ⟨d3 l m,fun H=>H a=some (.lst l)/\H b=some (.lst m)⟩ H:=rfl
def EV(t:TA'):TI':=fun σ H R=>t σ H fun vs H1=>zip2 vs H1 R
theorem zP{elts:List Expr}{k1}{tpos:Pos}{c d:Expr}{t:TA'}{p:Pos}(hg:Gl X "zip")(hm:X.mg "zip"=none)(ha:PA' X B [c,d] t)(hs:starEach [c,d] X.env=[(false,eval c X.env),(false,eval d X.env)]:=by rfl)(hs2:starEach [d] X.env=[(false,eval d X.env)]:=by rfl) :
  PIH X B (.Tuple elts k1 tpos) (.Call (.Name "zip" p) [c,d] [] pos) (EV t):=fe (BF hg hm ha hs hs2) fun σ H R y_=>by
 obtain⟨σ',H',R',s,h,k⟩:=y_;refine⟨σ',H',_,s,h,fun vs' H1' vs H1 h1 r1 s1 e1=>?_⟩;unfold zip2 at h1;split at h1
 ·rename_i a b;simp only[RPs,RP]at r1;obtain⟨u,r,rfl,rfl,u2,r2,rfl,rfl,rfl⟩:=r1;obtain⟨l,m,ha,hb,h1⟩:=h1;obtain⟨us,q1,_⟩:=s1.hp _ _ ha;obtain⟨ws,q2,_⟩:=s1.hp _ _ hb;have lk:∀H2' H2,HR X.K H2' H2->H2' a=some (.lst l)/\H2' b=some (.lst m)->∃us ws,SqL X.K H2 a us/\SqL X.K H2 b ws/\RPs X.K H2 l us/\RPs X.K H2 m ws:=fun H2' H2 hr o=>by
   obtain⟨us,a1,a2⟩:=hr _ _ o.1;obtain⟨ws,b1,b2⟩:=hr _ _ o.2;exact⟨us,ws,SqL.of a1,SqL.of b1,a2,b2⟩
  refine⟨a,b,rfl,⟨us,SqL.of q1⟩,⟨ws,SqL.of q2⟩,k _ H1' _ H1 h1 ⟨fun H2' H2 i k2 hr o hi=>?_,fun H2' H2 i x H3 k2 hr o y=>?_,fun H2' H2 k2 hr o=>?_⟩ s1 e1⟩
  ·obtain⟨us,ws,c1,c2,d1,d2⟩:=lk _ _ hr o;obtain⟨x,y,e1,e2,_⟩:=fB (Jo hi);obtain⟨u,f1,_⟩:=RPs.get _ d1 e1;obtain⟨v,f2,_⟩:=RPs.get _ d2 e2;exact⟨us,ws,u,v,c1,c2,f1,f2⟩
  ·obtain⟨T,u,v,hT,rfl,rfl,hy⟩:=y;obtain⟨us,ws,c1,c2,d1,d2⟩:=lk _ _ hr o;refine⟨hr.hid hT,Ev.hid hT,fun x' hx=>?_⟩;obtain⟨x,y,e1,e2,rfl⟩:=fB hx;obtain⟨u',f1,g1⟩:=RPs.get _ d1 e1;obtain⟨v',f2,g2⟩:=RPs.get _ d2 e2;obtain⟨y1,y2⟩:=hy us ws c1 c2;rw[f1]at y1;cases y1;rw[f2]at y2;cases y2;exact oC hT (RPs.cons _ g1 (RPs.cons _ g2 (RPs.nil _)))
  ·obtain⟨us,ws,c1,c2,d1,d2⟩:=lk _ _ hr o;refine⟨us,ws,c1,c2,?_⟩;show us[(d3 l m).length]?=none∨ws[(d3 l m).length]?=none;rw[iA,List.getElem?_eq_none_iff,List.getElem?_eq_none_iff,RPs.length _ d1,RPs.length _ d2];symm
 ·exact h1.elim
end U
namespace TR
section
variable {prog:Program}{w:World}{A:Around}{E:Value->Shared->Prop}{s:Shared}
theorem i6{n:Nat}(hh:A.handled=none)(hr:IsRange s.heap r a b c t u v)(hs:Builtin.Range.small a b c=true)(hn:Builtin.Range.rangeSize a b c=n)(hl:n≤2 ^ 24)
  (q:∀(h':Heap) tk acc,(∀b o,s.heap.get? b=some o->h'.get? b=some o)->ItemsOf (fun i v=>∃t,v=.int (a+i*c) t) acc n->Q acc.toList { s with heap:=h',toks:=tk }):wpAny (model prog w) A (collect (.ref r)) Q E s:=by
 unfold collect;refine Jm (wpAny_runValue (J5 F.entry_proto_collect ?go))
 case go =>
  rw[Kc F.plain_proto_collect _];show wpAny _ A.in1 (newList [] >>= fun l=>again (.builtin "list.__iadd__" ⟨[l,.ref r],[]⟩)) _ _ s;refine Jm (J8 (Jq ⟨plainId_quiet F.plain_list_iadd _,J5 F.entry_list_iadd ?_⟩));rw[Kc F.plain_list_iadd _];show wpAny _ A.in1 (Builtin.List.listExtendWith (.ref s.heap.objs.size) (.ref r) (.ref s.heap.objs.size)) _ _ _;have hS0:(s.heap.push { cls:=.type "list",data:=.seq ([]:List Value).toArray }).get? s.heap.objs.size=some { cls:=.type "list",data:=.seq #[] }:=JA _ rfl;refine wpAny_extend_range (R:=fun r s'=>match r with | .ok (.ret v)=>wpAny (model prog w) A (match v with | .ref a=>(do match (← load a).data with | .seq xs _=>pure xs.toList | _=>unsupported "internal:collect") | _=>unsupported "internal:collect") Q E s' | .ok _=>False | .error e=>E e s') (s:={ s with heap:=s.heap.push { cls:=.type "list",data:=.seq ([]:List Value).toArray } }) hh (Js _ hr) hs hn hl _ _ 0 hS0 fun h' tk acc c' hk hS hacc=>?_;show wpAny _ A (load s.heap.objs.size >>= _) _ _ _;exact Jm (wpAny_load hS (Jq (q h' tk acc (fun b o e=>hk b o (JG (Jv e)) (Js _ e)) hacc)))
end
open AutoSeq1 (wpAny_loadPart')
theorem fX{r:Addr}{a b c:Int}{t u v:Tok}{n:Nat}(hs:Builtin.Range.small a b c=true)(hn:Builtin.Range.rangeSize a b c=n)(hl:n≤2 ^ 24) :
  Meets (Builtin.«tuple.__new__» ⟨[.type "tuple",.ref r],[]⟩)
   (fun A R s=>A.handled=none/\IsRange s.heap r a b c t u v/\∀(h':Heap) tk acc,(∀b o,s.heap.get? b=some o->h'.get? b=some o)->ItemsOf (fun i v=>∃t,v=.int (a+i*c) t) acc n ->
    R (.ok (.ret (.ref h'.objs.size))) { s with heap:=h'.push { cls:=.type "tuple",data:=.seq acc },toks:=tk }) :=
 .of_wp fun prog w A R s h=>by
  obtain⟨hh,hr,h⟩:=h;have hsub:=sub_tuple_self;have hinit:=init_tuple_lookup;have hmh:=madeHere_tuple;have hT:s.TypeIs (.ref r) "range":=⟨_,hr,rfl⟩;have hh1:A.in1.handled=none:=hh
  wp_walk using wpAny_typeOf hT,i6 hh1 hr hs hn hl
  intro h' tk acc hk hacc;show wpAny _ _ (Builtin.Tuple.tupleExact acc.toList.toArray >>= fun v=>ret v) _ _ _;unfold Builtin.Tuple.tupleExact;have e:acc.toList.toArray=acc:=by simp
  rw[e];refine Jm (J8 (Jq ⟨_,rfl,h h' tk acc hk hacc⟩) (show acc.size≤sizeLine by rw[hacc.1,J9];symm))
section
variable {prog:Program}{w:World}{A:Around}{E:Value->Shared->Prop}{s:Shared}
theorem gk{n:Nat}(hh:A.handled=none)(hr:IsRange s.heap r a b c t u v)(hs:Builtin.Range.small a b c=true)(hn:Builtin.Range.rangeSize a b c=n)(hl:n≤2 ^ 24)
  (q:∀(h':Heap) tk acc,(∀b o,s.heap.get? b=some o->h'.get? b=some o)->ItemsOf (fun i v=>∃t,v=.int (a+i*c) t) acc n->Q (.ref h'.objs.size) { s with heap:=h'.push { cls:=.type "tuple",data:=.seq acc },toks:=tk }) :
  wpAny (model prog w) A (call (.type "tuple") [.ref r]) Q E s :=
 callType_new F.called_tuple (by decide) (F.typeCall_tuple_1 _) (F.newCall_tuple_1 _) (fun obj=>F.args_object_init_2 obj _) F.entry_tuple_new
  (fX (r:=r) (t:=t) (u:=u) (v:=v) hs hn hl) ⟨hh,hr,fun h' tk acc hk hacc=>⟨⟨_,JA _ rfl,rfl⟩,q h' tk acc hk hacc⟩⟩
end
end TR
namespace L2
variable {X:Cx}{a:Expr}{ta:TE}{p p2 pos pos2:Pos}
def kE(n:Nat):List V:=(List.range n).map fun k=>V.int ((k:Nat):Int)
theorem tM{n:Nat}(h:n<1000):Builtin.Range.rangeSize 0 (n:Int) 1=(n:Nat)/\Builtin.Range.small 0 (n:Int) 1=true:=by
 have e:Builtin.Range.rangeSize 0 (n:Int) 1=(n:Nat):=by
  unfold Builtin.Range.rangeSize;rw[JL (by decide)];split<;>symm
 refine⟨e,?_⟩;unfold Builtin.Range.small;rw[e];have hn:((n:Nat):Int)≤1000:=by symm
 have h0:(0:Int)≤((n:Nat):Int):=by symm
 generalize ((n:Nat):Int)=m at *;simp only[Builtin.Range.rangeFitsLong,KO,Bool.or_eq_true,Kk,Lb];refine⟨⟨⟨⟨by symm,by symm⟩,by decide⟩,by symm⟩,?_⟩;refine .inr ?_;rw[JL (by decide),KO,Kk,Kk];exact⟨by symm,by symm⟩
theorem tD(h:ItemsOf (fun i v=>∃t,v=Value.int (0+i*1) t) acc n):Vals (kE n) acc.toList:=by
 obtain⟨h1,h2⟩:=h;have key:∀(l:List Value) (k:Nat),(∀j v,l[j]?=some v->∃t,v=Value.int ((k+j:Nat):Int) t)->Vals ((List.range l.length).map fun j=>V.int ((k+j:Nat):Int)) l:=by
  intro l
  induction l with
  | nil=>intro k _;exact .nil
  | cons v l ih =>
   intro k hh;rw[JR,List.range_succ_eq_map,JF,JS];obtain⟨t,e⟩:=hh 0 v rfl;have:=ih (k+1) fun j v hj=>by
    have:=hh (j+1) v (by simpa using hj);rw[show k+1+j=k+(j+1) by symm];exact this
   refine .cons ⟨t,e⟩ ?_;have ee:((fun j=>V.int ((k+j:Nat):Int)) ∘ Nat.succ)=fun j=>V.int ((k+1+j:Nat):Int):=by
    funext j;show V.int ((k+(j+1):Nat):Int)=_;rw[show k+(j+1)=k+1+j by symm]
   rw[ee];exact this
 have:=key acc.toList 0 fun j v hj=>by
  obtain⟨t,e⟩:=h2 j v (by simpa using hj);exact⟨t,by rw[e];congr 1;symm⟩
 rw[KR,h1]at this;unfold kE;simpa using this
def C5(ta:TE):TE:=fun σ H Q=>ta σ H fun x H1=>∃n:Nat,[x]=[V.int (n:Nat)]/\n<1000/\∀q,H1 q=none->Q (.ref q) (upd H1 q (.tup (kE n)))
theorem x8(hc:X.calm=true)(hg:Gl X "tuple")(hm:X.mg "tuple"=none)(hg2:Gl X "range")(hm2:X.mg "range"=none)(b1:bootBuiltins "tuple"=some (.type "tuple"))(ha:PE X a ta)
  (he:starEach [.Call (.Name "range" p2) [a] [] pos2] X.env=[(false,eval (.Call (.Name "range" p2) [a] [] pos2) X.env)]:=by rfl) (he2:starEach [a] X.env=[(false,eval a X.env)]:=by rfl) (hpl:(backTo pos (starEach [] X.env)).any (·.1)=false:=by rfl) (hpl2:(backTo pos2 (starEach [] X.env)).any (·.1)=false:=by rfl) :
  PE X (.Call (.Name "tuple" p) [.Call (.Name "range" p2) [a] [] pos2] [] pos) (C5 ta):=by
 intro pins s σ H Q I h;refine Lc (dq I hg hm b1 ?_ (by decide) (by decide));refine Ka ?_ he hpl;rw[he];show wpAny _ _ (spliced ((false,eval (.Call (.Name "range" p2) [a] [] pos2) X.env)::[])) _ _ s;refine Calls.spliced_cons ?_;refine Lc (dq I hg2 hm2 boot_range ?_ (by decide) (by decide));refine Ka ?_ he2 hpl2;refine thn (bE ha bY he2 pos2 pins s σ H (fun xs H1=>∃n:Nat,xs=[.int (n:Nat)]/\n<1000/\∀q,H1 q=none->Q (.ref q) (upd H1 q (.tup (kE n)))) I h) fun us s1 y_=>?_;obtain⟨vs,H1,I1,r1,q1⟩:=y_;obtain⟨n,rfl,hn,q⟩:=q1;obtain⟨u,rfl,t,rfl⟩:=vals1 r1;obtain⟨e1,e2⟩:=tM hn;refine call_range_1 ?_;refine Calls.spliced_nil ?_;refine TR.gk (I.ok.hd hc) (IsRange.new ..) e2 e1 (by symm) fun h' tk acc kp hacc=>?_;have k2:∀b o,s1.heap.get? b=some o->h'.get? b=some o:=fun b o e=>kp b o (Js _ e);have I2:Inv X pins σ H1 { s1 with heap:=h',toks:=tk }:=I1.kept (t':=tk) k2;refine⟨.ref _,_,I2.laid (t':=tk) (o:=.tup (kE n)) (fun b o e=>Js _ e) (Jy _) ?_,rfl,q _ (I2.hok.fresh (Jy _))⟩;refine⟨by unfold kE;rw[Jl,KW,J9];symm,acc.toList,tD hacc,?_⟩;have e:acc.toList.toArray=acc:=by simp
 rw[e];exact IsTup.new _ _
end L2
namespace U
open L2
variable {B:Bs}{X:Cx}{a:Expr}{ta:TE'}{p p2 pos pos2:Pos}
def DT(x:PV)(H:PHp)(Q:VK'):Prop:=match x with
 | .int i=>0≤i/\i<1000/\Q (.tup (cb 0 i.toNat)) H
 | _=>False
theorem HL:DT (.int i) H Q=(0≤i/\i<1000/\Q (.tup (cb 0 i.toNat)) H):=rfl
def zM(ta:TE'):TE':=fun σ H Q=>ta σ H fun x H1=>DT x H1 Q
theorem yb{K:PySem.W.Frag}:RPs K H (cb 0 n) (kE n):=by
 have e1:cb 0 n=((List.range n).map fun k=>((k:Nat):Int)).map PV.int:=by
  unfold cb;rw[JS];refine List.map_congr_left fun k _=>?_;show PV.int (0+((k:Nat):Int))=PV.int ((k:Nat):Int);rw[Int.zero_add]
 have e2:kE n=((List.range n).map fun k=>((k:Nat):Int)).map V.int:=by unfold kE;rw[JS];rfl
 rw[e1,e2];exact RPs.ints K _
theorem yW(hc:X.calm=true)(hg:Gl X "tuple")(hm:X.mg "tuple"=none)(hg2:Gl X "range")(hm2:X.mg "range"=none)(b1:bootBuiltins "tuple"=some (.type "tuple"))(ha:PE' X B a ta)
  (he:starEach [.Call (.Name "range" p2) [a] [] pos2] X.env=[(false,eval (.Call (.Name "range" p2) [a] [] pos2) X.env)]:=by rfl) (he2:starEach [a] X.env=[(false,eval a X.env)]:=by rfl) (hpl:(backTo pos (starEach [] X.env)).any (·.1)=false:=by rfl) (hpl2:(backTo pos2 (starEach [] X.env)).any (·.1)=false:=by rfl) :
  PE' X B (.Call (.Name "tuple" p) [.Call (.Name "range" p2) [a] [] pos2] [] pos) (zM ta) :=
 aS (x8 hc hg hm hg2 hm2 b1 ha he he2 hpl hpl2) fun σ H Q h=>by
  obtain⟨σ',H',Q',s,h,k⟩:=h;refine⟨σ',H',_,s,h,fun x' H1' x H1 h1 rx s1 e1=>?_⟩;cases x' with
  | int i =>
   obtain⟨h0,h3,q⟩:=h1;simp only[RP]at rx;refine⟨i.toNat,by rw[rx,Int.toNat_of_nonneg h0],by symm,fun q' hq=>?_⟩;exact k _ _ _ _ q (oC hq yb) (s1.hid hq) (e1.trans (Ev.hid hq))
  | _=>exact h1.elim
end U
namespace RT
theorem pP:Manifest.owners.lookup (String.ofList ['d','e','s','r','e','v','e','r'].reverse)=some Manifest.sig_reversed:=by kernel_rfl
theorem iL:Slot "reversed" "__next__" "reversed.__next__" :=
 .of (owner:="reversed") (n:="__next__") (by rw[typeLookup_type,K9];kernel_rfl) (by decide +kernel) (by decide +kernel) (by decide +kernel) (by first | exact .inl (by decide +kernel) | exact .inr (by decide +kernel)) (by rw[Lr];kernel_rfl)
theorem ql:entryFor table "reversed.__next__"=some Builtin.«reversed.__next__»:=entryFor_of_tree (by kernel_rfl)
theorem ug(a:Value):argsOk "reversed.__next__" ⟨[a],[]⟩:=by
 unfold argsOk;rw[signature?_of (id:="reversed.__next__") (n:=['_','_','t','x','e','n','_','_']) (o:=['d','e','s','r','e','v','e','r']) (by kernel_rfl) pP]
 kernel_rfl
theorem sF:Slot "reversed" "__iter__" "reversed.__iter__" :=
 .of (owner:="reversed") (n:="__iter__") (by rw[typeLookup_type,K9];kernel_rfl) (by decide +kernel) (by decide +kernel) (by decide +kernel) (by first | exact .inl (by decide +kernel) | exact .inr (by decide +kernel)) (by rw[Lr];kernel_rfl)
theorem A0(a:Value):argsOk "reversed.__iter__" ⟨[a],[]⟩:=by
 unfold argsOk;rw[signature?_of (id:="reversed.__iter__") (n:=['_','_','r','e','t','i','_','_']) (o:=['d','e','s','r','e','v','e','r']) (by kernel_rfl) pP]
 kernel_rfl
theorem AQ:typeLookup (.type "tuple") "__reversed__"=pure none:=by rw[typeLookup_type,K9];kernel_rfl
theorem x9:entryFor table "reversed.__iter__"=some Builtin.«dict_keyiterator.__iter__» :=
 entryFor_alias (id':="dict_keyiterator.__iter__") (by kernel_rfl) (by first | rfl | decide +kernel |(unfold String.splitOn;simp +decide [String.splitOnAux])) (by decide +kernel) (by kernel_rfl)
theorem qS:Slot "reversed" "__init__" "object.__init__" :=
 .of (owner:="object") (n:="__init__") (by rw[typeLookup_type,K9];kernel_rfl) (by decide +kernel) (by decide +kernel) (by decide +kernel) (by first | exact .inl (by decide +kernel) | exact .inr (by decide +kernel)) (by rw[Lr];kernel_rfl)
theorem called:TypeCalled "reversed" "reversed.__new__" "object.__init__" :=
 ⟨by decide +kernel,by decide +kernel,⟨_,_,F.mro_reversed⟩,F.made_reversed,by decide +kernel,by rw[Lr];kernel_rfl,qS⟩
def rv(t:Addr)(i:Int):Obj:={ cls:=.type "reversed",data:=.fields #[.ref t,rawInt i] }
theorem yS:isSubtype (.type "tuple") (.type "dict")=pure false:=by rw[Lr];kernel_rfl
theorem fX(t:Addr)(its:Array Value):Meets (Builtin.«reversed.__new__» ⟨[.type "reversed",.ref t],[]⟩) (fun A R s=>IsTup s.heap t its/\(its.size:Int)<2 ^ 63/\R (.ok (.ret (.ref s.heap.objs.size))) { s with heap:=s.heap.push (rv t ((its.size:Int) - 1)),toks:=s.toks+1+1 }) :=
 .of_wp fun prog w A R s h=>by
  obtain⟨ht,hz,h⟩:=h;unfold Builtin.«reversed.__new__»;refine Jm (wpAny_of_eq (newClass_reversed _) ?_)
  try dsimp only
  refine Jm (wpAny_of_eq (a:=()) (by first | rfl | kernel_rfl) ?_);refine Jm (wpAny_of_eq (a:=()) (by first | rfl | kernel_rfl) ?_)
  try dsimp only
  refine Jm (wpAny_specialOf ht.typeIs AQ ?_)
  try dsimp only
  refine Jm ?_
  wp_delta
  refine Jm (wpAny_isInstance (T:="tuple") (b:=false) ht.typeIs yS ?_);rw[JK (by decide)];refine Jm (wpAny_specialOf ht.typeIs slot_tuple_getitem.lookup ?_);dsimp only;rw[JL (by decide +kernel)];refine Jq ?_;rw[JK (by decide)];refine Jm (len_tuple ht hz ?_);refine Jm (m:=asInt? _) (Jq ?_);dsimp only;refine Jm ?_;unfold Builtin.SmallTypes.newRecord;exact J8 (Jq ⟨_,rfl,h⟩)
def gK(h:Heap)(a t:Addr)(i:Int):Prop:=∃o,h.get? a=some o/\o.cls=.type "reversed"/\o.data=.fields #[.ref t,rawInt i]
theorem gK.at(x:gK h a t i)(e:∀o,h.get? a=some o->h'.get? a=some o):gK h' a t i:=let ⟨o,ho,r⟩:=x;⟨o,e _ ho,r⟩
section
variable {prog:Program}{w:World}{A:Around}{E:Value->Shared->Prop}{s:Shared}{it t:Addr}{its:Array Value}
theorem gK.ty(x:gK s.heap it t i):s.TypeIs (.ref it) "reversed":=let ⟨o,ho,hc,_⟩:=x;⟨o,ho,hc⟩
theorem vt(ht:IsTup s.heap t its)(hz:(its.size:Int)<2 ^ 63)(h:Q (.ref s.heap.objs.size) { s with heap:=s.heap.push (rv t ((its.size:Int) - 1)),toks:=s.toks+1+1 }) :
  wpAny (model prog w) A (call (.type "reversed") [.ref t]) Q E s :=
 callType_new called (by decide) (F.typeCall_reversed_1 _) (F.newCall_reversed_1 _) (fun obj=>F.args_object_init_2 obj _) F.entry_reversed_new (fX t its) ⟨ht,hz,⟨⟨_,JA _ rfl,rfl⟩,h⟩⟩
theorem Bo(h:i<n):seqIndex? ((i:Nat):Int) n=some i:=by
 unfold seqIndex?;simp only[show ¬(((i:Nat):Int)<0) by symm,if_false];rw[JL (by simp;symm),J7]
theorem next_item{i:Nat}{x:Value}{Q:Option Value->Shared->Prop}(hit:gK s.heap it t ((i:Nat):Int))(ht:IsTup s.heap t its)(hx:its[i]?=some x)(hz:its.size<2 ^ 62)
  (hQ:∀h' tk,gK h' it t (((i:Nat):Int) - 1)->Heap.SameBut it s.heap h'->Q (some x) { s with heap:=h',toks:=tk }):wpAny (model prog w) A (pyNext (.ref it)) Q E s:=by
 obtain⟨o,ho,hc,hd⟩:=id hit;have hi:i<its.size:=by
  rcases Nat.lt_or_ge i its.size with q | q
  ·exact q
  ·rw[Ll q]at hx;cases hx
 unfold pyNext;refine Jm (wpAny_attempt (K2 (name:=Str.ofString "__next__") hit.ty iL (Kt iL hit.ty ql ?_ (ug _))));unfold Builtin.«reversed.__next__»;refine Jm (wpAny_of_eq (a:=(Value.ref it,[])) rfl ?_);dsimp only;refine Jm (wpAny_field ho hd (x:=.ref t) rfl ?_);refine Jm (wpAny_field ho hd (x:=rawInt ((i:Nat):Int)) rfl ?_);show wpAny _ _ (if ((i:Nat):Int)<0 then _ else _) _ _ s;rw[JK (by symm)];refine Jm (wpAny_specialOf ht.typeIs slot_tuple_getitem.lookup ?_);rw[JK (by decide)];refine Jm (wpAny_mkInt ?_);refine Jm (wpAny_attempt (getItem_tuple (j:=i) (x:=x) (s:={ s with toks:=s.toks+1 }) ht (by symm) (by symm) (Bo hi) hx ?_));dsimp only;refine Jm (wpAny_field ho hd (x:=rawInt ((i:Nat):Int)) rfl ?_);refine Jm (wpAny_setField (s:={ s with toks:=s.toks+1 }) ho hd (by simp) ?_);refine Jq ⟨x,rfl,Jq (hQ _ _ ?_ (KD ..))⟩;refine⟨_,Kz _ ho (Obj.isFreed_of_fields (Obj.data_mapFields hd _)),(Obj.cls_mapFields ..).trans hc,?_⟩;rw[Obj.data_mapFields hd];simp
theorem next_end{Q:Option Value->Shared->Prop}(hA:A.handled=none)(hit:gK s.heap it t (-1))(hQ:∀h',Heap.ExtBut it s.heap h'->Q none { s with heap:=h' }):wpAny (model prog w) A (pyNext (.ref it)) Q E s:=by
 obtain⟨o,ho,hc,hd⟩:=id hit;unfold pyNext;refine Jm (wpAny_attempt (K2 (name:=Str.ofString "__next__") hit.ty iL (Kt iL hit.ty ql ?_ (ug _))));unfold Builtin.«reversed.__next__»;refine Jm (wpAny_of_eq (a:=(Value.ref it,[])) rfl ?_);dsimp only;refine Jm (wpAny_field ho hd (x:=.ref t) rfl ?_);refine Jm (wpAny_field ho hd (x:=rawInt (-1)) rfl ?_);show wpAny _ _ (if (-1:Int)<0 then _ else _) _ _ s;rw[JL (by decide)];refine Jm (wpAny_rule ?_);refine Jm ?_
 wp_delta
 refine Jm (wpAny_setField ho hd (by simp) ?_);have d2:=Obj.data_mapFields hd fun vs=>vs.set! 1 (rawInt (-1));have o2:=Kz _ ho (Obj.isFreed_of_fields d2);refine wpAny_setField (s:={ s with heap:=s.heap.update it _ }) o2 d2 (by simp) ?_;show wpAny _ _ (Builtin.SmallTypes.stopIteration >>= _) _ _ _;refine Jm ?_;show wpAny _ _ (newExc (Value.type "StopIteration") [] >>= _) _ _ _;refine Jm (?_);simp only[newTuple,newExc];refine Jm (J8 (?_) (by size_fits));refine Jm (m:=firstArgMember _ _) (wpAny_of_eq (a:=Value.none) (by first | rfl |(simp only[firstArgMember];rfl)) (?_));refine J8 (?_) (by size_fits);simp only[raiseNew,bind_assoc];refine Jm (wpAny_handled (?_))
 first | rw[show A.in1.handled=none from hA] | rw[hA]
 refine Jm (Jq (wpAny_throw (?_)));refine Jm (wpAny_isInstance (T:="StopIteration") (b:=true) ⟨_,JA _ rfl,rfl⟩ isSubtype_stop ?_);exact Jq (hQ _ ((((KD ..).trans (KD ..)).extBut.push _).push _))
theorem fY(hit:gK s.heap it t i)(h:Q (.ref it) s):wpAny (model prog w) A (pyIter (.ref it)) Q E s:=by
 refine wpAny_pyIter_slot hit.ty sF (Kt sF hit.ty x9 ?_ (A0 _));show wpAny _ _ (ret (Value.ref it)) _ _ s;exact Jq ⟨_,rfl,"reversed",_,hit.ty,iL.lookup,h⟩
end
theorem walks(hA:A.handled=none)(it t:Addr)(ne:t≠it)(its:Array Value)(hz:its.size<2 ^ 62) :
  Walks prog w A it [it,t] [it] its.size (fun i v=>its[its.size - 1 - i]?=some v) (fun i h=>i≤its.size/\gK h it t ((its.size:Int) - 1 - (i:Int))/\h.IsTuple t its) where
 sub:=fun b hb=>by simp at hb;simp[hb]
 frame:=fun _ _ _ x hk=>⟨x.1,x.2.1.at fun o e=>hk it (by simp) o e,x.2.2.at fun o e=>hk t (by simp) o e⟩
 item:=fun i s Q E hi x hQ=>by
  have e:(its.size:Int) - 1 - (i:Int)=((its.size - 1 - i:Nat):Int):=by symm
  have hit:=x.2.1;rw[e]at hit;have hx:its[its.size - 1 - i]?=some (its[its.size - 1 - i]'(by symm)):=JO (by symm);refine next_item hit x.2.2 hx hz fun h1 tk hit1 sb=>?_;have e2:((its.size - 1 - i:Nat):Int) - 1=(its.size:Int) - 1 - ((i+1:Nat):Int):=by symm
  rw[e2]at hit1;exact hQ _ h1 tk hx ⟨hi,hit1,x.2.2.at fun o q=>(sb.2 t ne).trans q⟩ fun b o hb q=>sb.extBut b o (fun z=>hb (by simp[z])) q
 done:=fun s Q E x hQ=>by
  have hit:=x.2.1;rw[show(its.size:Int) - 1 - (its.size:Int)=-1 by symm]at hit;exact next_end hA hit fun h1 eb=>hQ h1 s.toks fun b o hb q=>eb b o (fun z=>hb (by simp[z])) q
 self:=fun _ _ _ _ x hQ=>fY x.2.1 hQ
section
variable {prog:Program}{w:World}{A:Around}{E:Value->Shared->Prop}{s:Shared}{it t:Addr}{its:Array Value}
end
end RT
namespace RT
end RT
namespace L2
variable {X:Cx}{a:Expr}{ta:TE}{p p2 pos pos2:Pos}
theorem uP{R:α->β->Prop}{l l2:List α}{m m2:List β}(h:Paired R l m)(h2:Paired R l2 m2):Paired R (l++l2) (m++m2):=by
 induction h with
 | nil=>exact h2
 | cons a _ ih=>exact .cons a ih
end L2
namespace U
open L2
variable {B:Bs}{X:Cx}{a:Expr}{ta:TE'}{p p2 pos pos2:Pos}
theorem vB:bootBuiltins "reversed"=some (.type "reversed"):=by decide +kernel
end U
namespace L2
def Itv(K:PySem.W.Frag)(a:Addr)(n:Nat):It :=
 ⟨fun i H=>∃xs x,SqT K H a xs/\xs.length=n/\n<2 ^ 20/\i<n/\xs[n - 1 - i]?=some x,fun i H x H'=>H'=H/\∀xs,SqT K H a xs->xs[n - 1 - i]?=some x,fun i H=>i=n⟩
theorem xu{K:PySem.W.Frag}(a it:Addr)(n:Nat):Turn P w K tg (Itv K a n) [it] it (fun i h=>RT.gK h it a ((n:Int) - 1 - (i:Nat))) where
 mem:=by simp
 obj:=fun i h st b hb=>by
  have e:b=it:=by simpa using hb
  subst e;obtain⟨o,e,c,d⟩:=st;exact⟨o,e,fun v z=>by rw[d]at z;cases z⟩
 keep:=fun i h h' st k=>st.at fun o e=>k it (by simp) o e
 item:=by
  intro X hP hw hK hc i pins s σ H E I hf st hg;subst hP hw hK;obtain⟨xs,x,hq,hn,hn2,hi,hx⟩:=hg;obtain⟨its,rv,p,hz⟩:=I.tuple hq;obtain⟨u,hu,ru⟩:=rv.get hx;obtain⟨f0,f1,f2,f3,f4,f5⟩:=hf it (by simp);have hl:=rv.length;have hsz:its.toArray.size<2 ^ 62:=by
   show its.length<2 ^ 62;have:(2:Nat) ^ 20≤2 ^ 62:=Nat.pow_le_pow_right (by decide) (by decide);symm
  have ei:(n:Int) - 1 - (i:Nat)=((n - 1 - i:Nat):Int):=by symm
  rw[ei]at st;refine RT.next_item st (show IsTup s.heap a its.toArray from p) (x:=u) (by simpa using hu) hsz fun h' tk st' sb=>?_;have I1:Inv X pins σ H { s with heap:=h',toks:=tk }:=I.turned (t':=tk) (fun b o hb e=>(sb.2 b hb).trans e) f0 f1 f3 f4 f5;obtain⟨o,e,c,d⟩:=id st';refine⟨u,rfl,lT (s:={ s with heap:=h',toks:=tk }) e c d (by decide) ⟨x,H,I1,ru,⟨rfl,fun ys hy=>by rw[I.tuple_inj hy hq];exact hx⟩,?_,fun b hb=>(hf b hb).1⟩⟩;have e2:(n:Int) - 1 - ((i+1:Nat):Int)=((n - 1 - i:Nat):Int) - 1:=by symm
  rw[e2];exact st'
 done:=by
  intro X hP hw hK hc i pins s σ H E I hf st hg;subst hP hw hK;have hg:i=n:=hg;subst hg;obtain⟨f0,f1,f2,f3,f4,f5⟩:=hf it (by simp);rw[show(i:Int) - 1 - (i:Nat)=-1 by symm]at st;exact RT.next_end (I.ok.hd hc) st fun h' eb=>⟨rfl,I.turned (t':=s.toks) (fun b o hb e=>eb b o hb e) f0 f1 f3 f4 f5⟩
 self:=fun _ _ _ _ _ st h=>RT.fY st h
section
variable {X:Cx}
def iRv(K:PySem.W.Frag)(ta:TA):TI:=fun σ H R=>ta σ H fun vs H1=>∃a us,vs=[.ref a]/\SqT K H1 a us/\us.length≤1000/\R (Itv K a us.length) H1
theorem DO{tg:Expr}{c:Expr}{ta:TA}{p pos:Pos}(hg:Gl X "reversed")(hm:X.mg "reversed"=none)(b2:bootBuiltins "reversed"=some (.type "reversed"))(ha:PA X [c] ta)(hs:starEach [c] X.env=[(false,eval c X.env)]:=by rfl) :
  PI X tg (.Call (.Name "reversed" p) [c] [] pos) (iRv X.K ta):=by
 intro pins s σ H R I h;refine Call_ (dq I hg hm b2 (Ka (thn (ha pos pins s σ H _ I h) fun us s1 ⟨vs,H1,I1,r1,q1⟩=>?_) hs rfl));obtain⟨a,xs,e,hq,hl,q⟩:=q1;subst e;cases r1 with
 | cons r rr =>
  cases rr;cases r;obtain⟨its,rv,p,hz⟩:=I1.tuple hq;have hlen:=rv.length;have hs:its.toArray.size=xs.length:=by simp;symm
  refine RT.vt p (by rw[hs];symm) ?_;have st:RT.gK (s1.heap.push (RT.rv a ((its.toArray.size:Int) - 1))) s1.heap.objs.size a ((xs.length:Int) - 1 - ((0:Nat):Int)):=by
   rw[hs,show(xs.length:Int) - 1 - ((0:Nat):Int)=(xs.length:Int) - 1 by symm];exact⟨_,JA _ rfl,rfl,rfl⟩
  refine RT.fY (s:={ s1 with heap:=s1.heap.push (RT.rv a ((its.toArray.size:Int) - 1)),toks:=s1.toks+1+1 }) st ?_;refine⟨s1.heap.objs.size,[s1.heap.objs.size],_,_,H1,rfl,I1.kept (t':=s1.toks+1+1) fun b o e=>Js _ e,xu a _ xs.length,st,fun b hb=>?_,q⟩;have e:b=s1.heap.objs.size:=by simpa using hb
  subst e;exact I1.fpOk (Jy _) (I1.hok.fresh (Jy _))
end
end L2
namespace U
open L2
variable {B:Bs}{X:Cx}{pos:Pos}
def rv1(vs:List PV)(H1:PHp)(R:It'->PHp->Prop):Prop:=match vs with
 | [.tup l]=>l.length≤1000/\R ⟨l.reverse,fun _=>True⟩ H1
 | _=>False
theorem C3:rv1 [.tup l] H R=(l.length≤1000/\R ⟨l.reverse,fun _=>True⟩ H):=rfl
def EU(t:TA'):TI':=fun σ H R=>t σ H fun vs H1=>rv1 vs H1 R
theorem CP{tg:Expr}{c:Expr}{t:TA'}{p:Pos}(hg:Gl X "reversed")(hm:X.mg "reversed"=none)(ha:PA' X B [c] t)(hs:starEach [c] X.env=[(false,eval c X.env)]:=by rfl) :
  PIH X B tg (.Call (.Name "reversed" p) [c] [] pos) (EU t):=fe (DO hg hm vB ha hs) fun σ H R y_=>by
 obtain⟨σ',H',R',s,h,k⟩:=y_;refine⟨σ',H',_,s,h,fun vs' H1' vs H1 h1 r1 s1 e1=>?_⟩;unfold rv1 at h1;split at h1
 ·rename_i l;simp only[RPs,RP]at r1;obtain⟨u,r,rfl,⟨a,us,rfl,q,rl⟩,rfl⟩:=r1;obtain⟨hl,h1⟩:=h1;have hlen:=RPs.length _ rl;refine⟨a,us,rfl,q,by symm,k _ H1' _ H1 h1 ⟨fun H2' H2 i k2 hr _ hi=>?_,fun H2' H2 i x H3 k2 hr _ y=>?_,fun H2' H2 k2 hr _=>?_⟩ s1 e1⟩
  ·have hi':i<l.length:=by simpa using hi
   have hj:us.length - 1 - i<us.length:=by symm
   exact⟨us,_,k2.sqT q,rfl,by symm,by symm,Jo hj⟩
  ·obtain⟨rfl,y⟩:=y;refine⟨hr,Ev.refl _ _,fun x' hx=>?_⟩;have hi:i<l.length:=by
    have:=(JE.mp hx).1;simpa using this
   rw[List.getElem?_reverse hi]at hx;obtain⟨u,e,ru⟩:=RPs.get _ (RPs.kp _ k2 rl) hx;have ey:=y us (k2.sqT q);rw[hlen,e]at ey;cases ey;exact ru
  ·show l.reverse.length=us.length;rw[List.length_reverse,hlen]
 ·exact h1.elim
end U
namespace L2
theorem ie:∀{b a:List Nat},a.Nodup->(∀x∈a,x∈b)->a.length≤b.length
 | [],a,_,h=>by
  cases a with
  | nil=>exact Jy _
  | cons x a=>exact absurd (h x Jw) Ki
 | y::b,a,na,h=>by
  have e:=ie (b:=b) (a:=a.erase y) (na.erase y) fun x hx=>by
   have hm:=(na.mem_erase_iff).mp hx;rcases JD.mp (h x hm.2)with q | q
   ·exact absurd q hm.1
   ·exact q
  have l:=List.length_erase (a:=y) (l:=a);rw[JR];split at l<;>symm
theorem jo:∀{b a:List Nat},¬b.Nodup->a.Nodup->(∀x∈a,x∈b)->a.length<b.length
 | [],a,nb,_,_=>absurd List.nodup_nil nb
 | y::b,a,nb,na,h=>by
  by_cases hy:y∈b
  ·have:=ie (b:=b) na fun x hx=>by
    rcases JD.mp (h x hx)with q | q
    ·rw[q];exact hy
    ·exact q
   rw[JR];symm
  ·have e:=jo (b:=b) (a:=a.erase y) (fun n=>nb (K0.mpr ⟨hy,n⟩)) (na.erase y) fun x hx=>by
    have hm:=(na.mem_erase_iff).mp hx;rcases JD.mp (h x hm.2)with q | q
    ·exact absurd q hm.1
    ·exact q
   have l:=List.length_erase (a:=y) (l:=a);rw[JR];split at l<;>symm
theorem pj(hin:∀n∈ns,n<6)(nd:¬ns.Nodup):(SI.lof ns).length<ns.length :=
 jo nd (SI.gL _ (SI.fL hin)).2.2.1 fun x hx=>SI.gU.mp hx
end L2
namespace U
open L2
variable {B:Bs}{X:Cx}{a b e:Expr}{ta tb:TE'}{p p2 pos pos2:Pos}
def qq(x:PV)(H:PHp)(Q:VK'):Prop:=match x with
 | .ref a=>∃ns:List Nat,H a=some (.lst (ns.map dA))/\(∀n∈ns,n<6)/\Q (.int (SI.lof ns).length) H
 | _=>False
theorem HK{a:Addr}:qq (.ref a) H Q=∃ns:List Nat,H a=some (.lst (ns.map dA))/\(∀n∈ns,n<6)/\Q (.int (SI.lof ns).length) H:=rfl
def kS(ta:TE'):TE':=fun σ H Q=>ta σ H fun x H1=>qq x H1 Q
theorem m8(hc:X.calm=true)(hgl:Gl X "len")(hml:X.mg "len"=none)(hgs:Gl X "set")(hms:X.mg "set"=none)(bs:bootBuiltins "set"=some (.type "set"))(ha:PE' X B e ta)
  (he:starEach [.Call (.Name "set" p2) [e] [] pos2] X.env=[(false,eval (.Call (.Name "set" p2) [e] [] pos2) X.env)]:=by rfl) (he2:starEach [e] X.env=[(false,eval e X.env)]:=by rfl) :
  PE' X B (.Call (.Name "len" p) [.Call (.Name "set" p2) [e] [] pos2] [] pos) (kS ta) :=
 aS (cF jB hgl hml JJ (bE (cU (jM hc) hgs hms bs (bE ha bY he2) (by decide) (by decide) he2 rfl) bY he) (by decide) (by decide) he rfl) fun σ H Q h=>by
  obtain⟨σ',H',Q',s,h,k⟩:=h;refine⟨σ',H',_,s,h,fun x' H1' x H1 h1 rx s1 e1=>?_⟩;cases x' with
  | ref a =>
   obtain⟨ns,ea,hin,q⟩:=h1;simp only[RP]at rx;subst rx;obtain⟨us,eg,r2⟩:=s1.hp _ _ ea;rw[d9 r2]at eg;refine⟨a,ns,rfl,.inl (.inl eg),hin,fun S hS=>⟨S,SI.lof ns,rfl,bj,?_⟩⟩;exact k _ _ _ _ q (by simp[RP]) (s1.hid hS) (e1.trans (Ev.hid hS))
  | _=>exact h1.elim
end U
namespace SI
section
variable {prog:Program}{w:World}{A:Around}{E:Value->Shared->Prop}{s:Shared}
theorem DU(hh:A.in1.handled=none)(hT:kO vs ns)(hin:∀n∈ns,n<6)(hSI:S≠I)(hSl:S≠l)(hlI:l≠I) :
  ∀(k i:Nat) (s:Shared),ns.length - i=k->i≤ns.length->s.heap.IsTupleIter I l i->s.heap.IsTuple l vs.toArray->eP s.heap S led (lof (ns.take i)) ->
   (∀h' tk,(∀b o,b≠S->b≠I->s.heap.get? b=some o->h'.get? b=some o)->eP h' S led (lof ns)->R (.ok (.ret .none)) { s with heap:=h',toks:=tk }) ->
   codeAny (model prog w) A (.builtin "set.update.loop" ⟨[.ref S,.ref I],[]⟩) R s:=by
 intro k
 induction k with
 | zero =>
  intro i s hk hi hit hl hP hR;have e:i=ns.length:=by symm
  subst e;rw[JX]at hP;refine J5 K3 ?_;rw[Kc Ko _];show wpAny _ A.in1 (pyNext (.ref I) >>= _) _ _ s;refine Jm (wpAny_pyNext_tuple_end hh hit hl (by simp[hT.1]) fun h' eb=>?_);show wpAny _ A.in1 (ret Value.none) _ _ _;refine Jq (hR h' s.toks (fun b o _ hb e=>eb b o hb e) ?_);obtain⟨hL,es,ep,ho,r⟩:=hP.is;exact⟨hL,es,ep,eb S _ hSI ho,r⟩
 | succ k ih =>
  intro i s hk hi hit hl hP hR;have hlt:i<ns.length:=by symm
  have hvl:i<vs.length:=by rw[hT.1];exact hlt
  have hvi:vs[i]?=some vs[i]:=Jo hvl;obtain⟨tk,ev⟩:=hT.2 i _ hvi;have en:ns.getD i 0=ns[i]:=by rw[Jt,Jo hlt];rfl
  rw[en]at ev;refine J5 K3 ?_;rw[Kc Ko _];show wpAny _ A.in1 (pyNext (.ref I) >>= _) _ _ s;refine Jm (wpAny_pyNext_tuple_item hit hl (x:=Value.int ((ns[i]:Nat):Int) tk) (by rw[←ev];simp) fun h1 hit1 sb1=>?_);have k1:∀b o,b≠I->s.heap.get? b=some o->h1.get? b=some o:=fun b o hb e=>sb1.extBut b o hb e;have hP1:eP h1 S led (lof (ns.take i)):=by
   obtain⟨hL,es,epo,ho,r⟩:=hP.is;exact⟨hL,es,epo,k1 S _ hSI ho,r⟩
  show wpAny _ A.in1 (holding [Value.int ((ns[i]:Nat):Int) tk] (setAdd S (Value.int ((ns[i]:Nat):Int) tk)) >>= _) _ _ _;refine Jm (Kb (g7 (A:=A.in1) hP1 (hin _ (JV hlt)) fun b h2 tk2 sb2 hP2=>?_));have k2:∀b o,b≠S->h1.get? b=some o->h2.get? b=some o:=fun b o hb e=>sb2.extBut b o hb e;have hP3:eP h2 S led (lof (ns.take (i+1))):=by rw[lr hlt];exact hP2
  refine Jq ⟨plainId_quiet Ko _,ih (i+1) { s with heap:=h2,toks:=tk2 } (by symm) (by symm) (hit1.extBut (fun b o hb e=>k2 b o hb e) (Ne.symm hSI)) ?_ hP3 ?_⟩
  ·exact(hl.extBut (fun b o hb e=>k1 b o hb e) hlI).extBut (fun b o hb e=>k2 b o hb e) (Ne.symm hSl)
  ·intro h3 tk3 kp hP4;exact hR h3 tk3 (fun b o hb hb' e=>kp b o hb hb' (k2 b o hb (k1 b o hb' e))) hP4
theorem kh(hh:A.handled=none)(hl:s.heap.IsTuple l vs.toArray)(hT:kO vs ns)(hin:∀n∈ns,n<6)
  (h:∀h' tk,(∀b o,b<s.heap.objs.size->s.heap.get? b=some o->h'.get? b=some o)->eP h' s.heap.objs.size (bu w) (lof ns)->Q (.ref s.heap.objs.size) { s with heap:=h',toks:=tk }) :
  wpAny (model prog w) A (call (.type "set") [.ref l]) Q E s:=by
 obtain⟨c0,tl0,mro0⟩:=F.called_set.mro;have made0:=F.called_set.made;have sub0:=F.called_set.sub;have nt0:=F.called_set.notType;have cc0:=F.called_set.canCreate;have tc0:=F.typeCall_set_1 (.ref l);refine wpAny_call (codeAny_of_tree ?_);show wpAny (model prog w) _ (callAny (.type "set") _) _ _ _;refine Jq ⟨Lp _ (by decide +kernel),J5 F.entry_type_call ?_⟩;rw[Around.under_plain (weight_type_call_type "set" [.ref l] []) rfl]
 and_intros
 refine K5 (pF (.ref l) (E:=E) (Q₁:=fun obj s1=>obj=.ref s.heap.objs.size /\
  s1={ s with heap:=s.heap.push { cls:=.type "set",dict:=none,data:=.set #[] 0 (.fresh 0 0 (bu w)) } }) ⟨rfl,rfl⟩) fun r s1 hr=>?_
 cases r with
 | error e=>exact hr
 | ok fl =>
  cases fl with
  | ret obj =>
   obtain⟨rfl,rfl⟩:=hr;generalize hH:s.heap.push { cls:=.type "set",dict:=none,data:=.set #[] 0 (.fresh 0 0 (bu w)) }=H1;have hS:H1.get? s.heap.objs.size=some { cls:=.type "set",dict:=none,data:=.set #[] 0 (.fresh 0 0 (bu w)) }:=by rw[←hH];exact JA _ rfl
   have old:∀b o,s.heap.get? b=some o->H1.get? b=some o:=fun b o e=>by rw[←hH];exact Js _ e
   have hsz:H1.objs.size=s.heap.objs.size+1:=by rw[←hH,LC]
   have tyS:Shared.TypeIs { s with heap:=H1 } (.ref s.heap.objs.size) "set":=⟨_,hS,rfl⟩;have li0:=F.called_set.init.lookup;have bi0:=F.called_set.init.bind (.ref s.heap.objs.size)
   and_intros
   refine K5 (codeAny_call_builtin (R:=wants (fun r s2=>r=.none/\∃h' tk,s2={ s with heap:=h',toks:=tk }/\eP h' s.heap.objs.size (bu w) (lof ns) /\
    (∀b o,b<s.heap.objs.size->s.heap.get? b=some o->h'.get? b=some o)) E) F.called_set.init.plain F.entry_set_init (check_set_init_1 tyS ?_)) fun r2 s2 hr2=>?_
   ·obtain⟨ol,hol,hcl,nl,hdl⟩:=hl;obtain⟨oc,od,oda,osl⟩:=ol;simp only at hcl hdl;subst hcl;subst hdl;have hol1:H1.get? l=some { cls:=.type "tuple",dict:=od,data:=.seq vs.toArray nl,slots:=osl }:=old _ _ hol;have sls:=F.sub_tuple_set;have slf:=F.sub_tuple_frozenset;have nld:(Value.type "tuple"==Value.type "dict")=false:=by decide
    have hl1:H1.IsTuple l vs.toArray:=⟨_,hol1,rfl,nl,rfl⟩;have llt:l<s.heap.objs.size:=Jv hol;unfold Builtin.«set.__init__» noKeywords Builtin.Frozenset.updateFrom;generalize hPI:pyIter=PI
    wp_walk
    subst hPI;refine wpAny_pyIter_tuple hl1 ?_;refine Jm (wpAny_runValue ?_);generalize hH2:H1.push { cls:=.type "tuple_iterator",data:=.fields #[.ref l,.int 0 0] }=H2;have old2:∀b o,H1.get? b=some o->H2.get? b=some o:=fun b o e=>by rw[←hH2];exact Js _ e
    refine DU (l:=l) (ns:=ns) (vs:=vs) (led:=bu w) (by simp[hh]) hT hin (by show s.heap.objs.size≠H1.objs.size;rw[hsz];exact JG (Nat.lt_succ_self _)) (LD llt) (by show l≠H1.objs.size;rw[hsz];exact JG (KU llt)) ns.length 0 _ (by symm) (K1 _) ?_ ?_ ?_ ?_
    ·rw[←hH2];exact⟨_,JA _ rfl,rfl,rfl⟩
    ·exact⟨_,old2 _ _ hol1,rfl,nl,rfl⟩
    ·refine⟨ia,#[],0,old2 _ _ hS,[],rfl,rfl⟩
    ·intro h' tk kp hP;show wpAny _ _ (pure ()) _ _ _;refine Jq ?_;show wpAny _ _ (ret Value.none) _ _ _;refine Jq ⟨rfl,h',tk,rfl,hP,fun b o hb e=>?_⟩;refine kp b o (JG hb) ?_ (old2 _ _ (old _ _ e));show b≠H1.objs.size;rw[hsz];exact JG (KU hb)
   ·cases r2 with
    | error e=>exact hr2
    | ok f2 =>
     cases f2 with
     | ret r =>
      obtain⟨rfl,h',tk,rfl,hP,hk⟩:=hr2
      and_intros
      exact h _ _ hk hP
     | _=>exact hr2.elim
  | _=>exact hr.elim
end
end SI
namespace L2
variable {X:Cx}
theorem jE(hc:X.calm=true):cf X (.type "set") (fun xs H Q=>∃(a:Addr) (ns:List Nat),xs=[.ref a]/\SqT X.K H a (ns.map wB)/\(∀n∈ns,n<6)/\∀S,H S=none->Q (.ref S) (upd H S (.ext (fJ X.w S (SI.lof ns))))):=by
 intro pins s σ H xs us Q I r h;obtain⟨a,ns,rfl,hq,hin,q⟩:=h;obtain⟨u,rfl,ru⟩:=Vals.one r;cases ru;obtain⟨its,rv,p,hz⟩:=I.tuple hq;refine SI.kh (ns:=ns) (I.ok.hd hc) (show s.heap.IsTuple a its.toArray from p) (fZ rv) hin fun h' tk kp P=>?_;have hn:H s.heap.objs.size=none:=I.hok.fresh (Jy _);refine⟨.ref s.heap.objs.size,_,I.laid (t':=tk) (o:=.ext (fJ X.w s.heap.objs.size (SI.lof ns))) (fun b o e=>kp b o (Jv e) e) (Jy _) ?_,rfl,q _ hn⟩;obtain⟨hL,es,ep,ho,he⟩:=P.is;exact⟨P,⟨_,ho⟩,fun h1 h2 x k=>by obtain⟨a,es,ep,e,l⟩:=x.is;exact⟨a,es,ep,k _ e,l⟩⟩
end L2
namespace U
open L2
section
variable {B:Bs}{X:Cx}{a b e:Expr}{ta tb:TE'}{p p2 pos pos2:Pos}
def o8(x:PV)(H:PHp)(Q:VK'):Prop:=match x with
 | .tup l=>∃ns:List Nat,l=ns.map dA/\(∀n∈ns,n<6)/\Q (.int (SI.lof ns).length) H
 | _=>False
theorem HV:o8 (.tup l) H Q=∃ns:List Nat,l=ns.map dA/\(∀n∈ns,n<6)/\Q (.int (SI.lof ns).length) H:=rfl
def lx(ta:TE'):TE':=fun σ H Q=>ta σ H fun x H1=>o8 x H1 Q
theorem mX(hc:X.calm=true)(hgl:Gl X "len")(hml:X.mg "len"=none)(hgs:Gl X "set")(hms:X.mg "set"=none)(bs:bootBuiltins "set"=some (.type "set"))(ha:PE' X B e ta)
  (he:starEach [.Call (.Name "set" p2) [e] [] pos2] X.env=[(false,eval (.Call (.Name "set" p2) [e] [] pos2) X.env)]:=by rfl) (he2:starEach [e] X.env=[(false,eval e X.env)]:=by rfl) :
  PE' X B (.Call (.Name "len" p) [.Call (.Name "set" p2) [e] [] pos2] [] pos) (lx ta) :=
 aS (cF jB hgl hml JJ (bE (cU (jE hc) hgs hms bs (bE ha bY he2) (by decide) (by decide) he2 rfl) bY he) (by decide) (by decide) he rfl) fun σ H Q h=>by
  obtain⟨σ',H',Q',s,h,k⟩:=h;refine⟨σ',H',_,s,h,fun x' H1' x H1 h1 rx s1 e1=>?_⟩;cases x' with
  | tup l =>
   obtain⟨ns,rfl,hin,q⟩:=h1;simp only[RP]at rx;obtain⟨a,us,rfl,hq,r2⟩:=rx;rw[d9 r2]at hq;refine⟨a,ns,rfl,hq,hin,fun S hS=>⟨S,SI.lof ns,rfl,bj,?_⟩⟩;exact k _ _ _ _ q (by simp[RP]) (s1.hid hS) (e1.trans (Ev.hid hS))
  | _=>exact h1.elim
def mC(x:PV)(H:PHp)(Q:VK'):Prop:=match x with
 | .tup l=>∃ns:List Nat,l=ns.map dA/\(∀n∈ns,n<6)/\∀(r:Addr) (ks:List Nat),H r=none->ks.Pairwise (·<·)->(∀x,x∈ks↔x∈ns)->Q (.ref r) (put H r (.lst (ks.map dA)))
 | _=>False
theorem Dz:mC (.tup l) H Q=∃ns:List Nat,l=ns.map dA/\(∀n∈ns,n<6)/\∀(r:Addr) (ks:List Nat),H r=none->ks.Pairwise (·<·)->(∀x,x∈ks↔x∈ns)->Q (.ref r) (put H r (.lst (ks.map dA))):=rfl
def jN(ta:TE'):TE':=fun σ H Q=>ta σ H fun x H1=>mC x H1 Q
theorem il(hc:X.calm=true)(hu:X.A.units+64<cLine)(hgl:Gl X "sorted")(hml:X.mg "sorted"=none)(hgs:Gl X "set")(hms:X.mg "set"=none)(bs:bootBuiltins "set"=some (.type "set"))(ha:PE' X B e ta)(bo:bootBuiltins "sorted"=some (.builtin "sorted"):=by decide +kernel)
  (he:starEach [.Call (.Name "set" p2) [e] [] pos2] X.env=[(false,eval (.Call (.Name "set" p2) [e] [] pos2) X.env)]:=by rfl) (he2:starEach [e] X.env=[(false,eval e X.env)]:=by rfl) :
  PE' X B (.Call (.Name "sorted" p) [.Call (.Name "set" p2) [e] [] pos2] [] pos) (jN ta) :=
 aS (cF (iu hc) hgl hml bo (bE (cU (jE hc) hgs hms bs (bE ha bY he2) (by decide) (by decide) he2 rfl) bY he) (by decide) (by decide) he rfl) fun σ H Q h=>by
  obtain⟨σ',H',Q',s,h,k⟩:=h;refine⟨σ',H',_,s,h,fun x' H1' x H1 h1 rx s1 e1=>?_⟩;cases x' with
  | tup l =>
   obtain⟨ns,rfl,hin,q⟩:=h1;simp only[RP]at rx;obtain⟨a,us,rfl,hq,r2⟩:=rx;rw[d9 r2]at hq;refine⟨a,ns,rfl,hq,hin,fun S hS=>⟨S,SI.lof ns,rfl,bj,fun r ms hr hs hp=>?_⟩⟩;have s2:=s1.hid (o:=.ext (fJ X.w S (SI.lof ns))) hS;have e2:Ev H1' H1 H1' (upd H1 S (.ext (fJ X.w S (SI.lof ns)))):=Ev.hid hS;have nd:=(SI.gL _ (SI.fL hin)).2.2.1;have hm:∀x∈ms,∃n∈SI.lof ns,x=((n:Nat):Int):=fun x hx=>by
    obtain⟨n,h1,h2⟩:=Jp.mp (hp.mem_iff.mp hx);exact⟨n,h1,h2.symm⟩
   have em:=iG hm;generalize ms.map Int.toNat=ks at em;subst em;have pk:ks.Perm (SI.lof ns):=by
    have:=hp.map Int.toNat
    simpa[JS,Function.comp_def]using this
   have ndk:ks.Nodup:=pk.nodup_iff.mpr nd;have hsk:ks.Pairwise (·<·):=by
    rw[KH]at hs;refine List.Pairwise.imp₂ (fun a b h1 h2=>?_) hs ndk;have:a≠b:=h2;symm
   have hq:=q r ks (s2.hp.free hr) hsk fun x=>pk.mem_iff.trans SI.gU;have rr:RPs X.K (upd H1 S (.ext (fJ X.w S (SI.lof ns)))) (ks.map dA) ((ks.map fun(n:Nat)=>(n:Int)).map V.int):=by
    have e3:ks.map dA=(ks.map fun(n:Nat)=>(n:Int)).map PV.int:=by rw[JS];rfl
    rw[e3];exact fA
   exact k _ _ _ _ hq (by simp[RP]) (s2.new hr (kL hr rr)) ((e1.trans e2).trans (Ev.new hr))
  | _=>exact h1.elim
end
section
variable {B:Bs}
section
variable {X:Cx}{k:Nat}{f C:Addr}{fd:FuncData}{ps:List Str}{sp:Sp'}{E:XK}{E':XK'}{x m:Str}{p pos apos:Pos}{e o:Expr}{es:List Expr}{ta:TE'}{t:TA'}
theorem rS{K:PySem.W.Frag}(hE:XL K B E' E){σ:L2.St}{H:Hp}{Q:VK}(h:low K B (l8 C m sp E' ta t) σ H Q):vY C m (dF K sp) [] E (low K B ta) (n5 K B t) σ H Q:=by
 obtain⟨σ',H',Q',s,h,k⟩:=h;refine⟨σ',H',_,s,h,fun x' H1' x H1 h1 rx s1 e1=>?_⟩;obtain⟨hi,h1⟩:=h1;cases x' with
 | ref a =>
  obtain⟨dx,fs,ea,l⟩:=hi;simp only[RP]at rx;subst rx;obtain⟨gs,eg,fr⟩:=s1.hp _ _ ea;refine⟨a,dx,gs,rfl,eg,jL fr l,σ',H1',_,s1,h1,fun vs' H2' vs H2 h2 r2 s2 e2=>?_⟩;show dF K sp (V.ref a::(vs++[])) H2 Q E;rw[JQ];exact⟨.ref a::vs',H2',Q',E',RPs.cons _ (by simp[RP]) r2,s2.hp,h2,fun v' H3' v H3 q r3 h3 e3=>k v' H3' v H3 q r3 (s2.kp e3 h3) ((e1.trans e2).trans e3),fun c d H3' H3 q h3 e3=>hE c d H3' H3 q h3 (s2.ev.trans e3)⟩
 | _=>exact hi.elim
theorem tI{pl:Sem Bool}(l:Lv X E)(pn:Plain X)(hE:XL X.K B E' E)(he:PE' X B o ta)(cl:Cls X.K C)(hm:Meth X.K C m f)(F:aG X.prog X.w X.K X.mg X.base (CXU X.prog X.w) k f fd ps sp)(hr:bS k X.A)(hb:Binds X.K fd ps [])(ha:PA' X B (e::es) t)
  (hst:starEach (e::es) X.env=(false,eval e X.env)::starEach es X.env:=by rfl) (hpl:(backTo pos (starEach es X.env)).any (·.1)=false:=by rfl)
  (ht:eval (.Call (.Attribute o m apos) (e::es) [] pos) X.env=(do
   let ov←eval o X.env
   standAt apos.atName
   let (f,first)←holding [ov] (getMethod ov m pl)
   callWith pos f first (backTo pos (starEach (e::es) X.env)) (backToKw pos (keywordEach [] X.env))):=by rfl) :
  PE' X B (.Call (.Attribute o m apos) (e::es) [] pos) (l8 C m sp E' ta t):=aS (qa he cl hm F hr hb .nil (oP l pn) ha hst hpl ht) fun _ _ _ h=>rS hE h
def Ea(C:Addr)(m:Str)(sp:Sp')(ta:TE')(t:TA'):TX':=fun σ H Q E=>ta σ H fun x H1=>isIn C m x H1/\t σ H1 fun vs H2=>sp (x::vs) H2 Q E
end
end
end U
namespace L2
section
variable {prog:Program}{w:World}{A:Around}{E:Value->Shared->Prop}{s:Shared}
theorem eO{lo hi:Option Int}(tA:IsTup s.heap t items)(sA:s.heap.IsSliceOf sl vl vu .none)(pA:IsPart vl lo)(pB:IsPart vu hi)
  (hw:HT.sIx items.size 0 lo=0/\HT.sIx items.size items.size hi=items.size) (h:Q (.ref t) s):wpAny (model prog w) A (getItem (.ref t) (.ref sl)) Q E s:=by
 obtain⟨os,hos,hcs,hds⟩:=id sA;have tB:s.TypeIs (.ref sl) "slice":=⟨os,hos,hcs⟩;unfold getItem
 try with_reducible refine Kb ?_
 first | refine Jm (Jq ?_) | skip
 refine Jm (wpAny_sequenceKey tA.typeIs (by decide) ?_);refine Jm (K2 (name:=Str.ofString "__getitem__") tA.typeIs PyProof.Rows.slot_tuple_getitem
  (Kt PyProof.Rows.slot_tuple_getitem tA.typeIs entry_tuple_getitem ?_ (args_tuple_getitem _ _)))
 show wpAny _ _ (Builtin.Tuple.tupleItemsOf (.ref t) >>= _) _ _ s;refine Jm (tupleItemsOf_ tA ?_);refine Jm (wpAny_typeOf tB ?_);rw[JL (by decide)];refine Jm (HT.dz sA pA pB ?_);have hyes:(((HT.sIx items.size 0 lo:Nat):Int)==0&&(1:Int)==1&&(HT.sIx items.size items.size hi - HT.sIx items.size 0 lo)==items.size)=true:=by
  rw[hw.1,hw.2];simp
 show wpAny _ _ (if (((HT.sIx items.size 0 lo:Nat):Int)==0&&(1:Int)==1&&(HT.sIx items.size items.size hi - HT.sIx items.size 0 lo)==items.size)=true then _ else _) _ _ s;rw[JL hyes];unfold Builtin.Tuple.tupleIsExact;have hT:=tA.typeIs
 wp_walk
 exact⟨_,rfl,Jq h⟩
end
variable {X:Cx}
def Gv(K:PySem.W.Frag):V->Option Int->Option Int->Hp->VK->Prop:=fun x lo hi H Q=>∃a xs,x=.ref a/\SqT K H a xs /\
 ((HT.sIx xs.length 0 lo=0/\HT.sIx xs.length xs.length hi=xs.length)->Q (.ref a) H)/\(¬(HT.sIx xs.length 0 lo=0/\HT.sIx xs.length xs.length hi=xs.length)->∀p,H p=none->Q (.ref p) (upd H p (.tup (jX xs lo hi))))
theorem yl:SlR X (Gv X.K):=by
 intro pins s σ H x v vl vu lo hi sl Q I rx hs pl pu h;obtain⟨a,xs,rfl,hx,q1,q2⟩:=h;by_cases hw:HT.sIx xs.length 0 lo=0/\HT.sIx xs.length xs.length hi=xs.length
 ·cases rx;obtain⟨its,r,ht,hz⟩:=I.tuple hx;have hlen:its.toArray.size=xs.length:=by rw[JC];exact r.length.symm
  refine⟨"tuple",_,PyProof.Rows.slot_tuple_getitem.lookup,ht.typeIs,?_⟩;exact eO ht hs pl pu (by rw[hlen];exact hw) ⟨.ref a,H,I,rfl,q1 hw⟩
 ·exact u0 pins s σ H _ v vl vu lo hi sl Q I rx hs pl pu ⟨a,xs,rfl,hx,hw,q2 hw⟩
end L2
namespace U
open L2
variable {B:Bs}{X:Cx}{e:Expr}{ta:TE'}{pos:Pos}
def tW(x:PV)(lo hi:Option Int)(H3:PHp)(Q:VK'):Prop:=match x with
 | .tup l=>Q (.tup (bO l lo hi)) H3
 | _=>False
theorem FL{lo hi:Option Int}:tW (.tup l) lo hi H Q=Q (.tup (bO l lo hi)) H:=rfl
def qg(ta:TE')(tl th:TO'):TE':=fun σ H Q=>ta σ H fun x H1=>tl σ H1 fun lo H2=>th σ H2 fun hi H3=>tW x lo hi H3 Q
theorem eH{lo hi:Option Expr}(he:PE' X B e ta)(hl:PO' X B lo tl)(hu:PO' X B hi th):PE' X B (.Subscript e (.Slice lo hi none p2) pos) (qg ta tl th) :=
 aS (lD yl he hl hu) fun σ H Q y_=>by
 obtain⟨σ',H',Q',s,h,k⟩:=y_;refine⟨σ',H',_,s,h,fun x H1' v H1 h1 r1 s1 e1=>⟨σ',H1',_,s1,h1,fun l H2' H2 h2 s2 e2=>⟨σ',H2',_,s2,h2,fun u H3' H3 h3 s3 e3=>?_⟩⟩⟩;have r3:=RP.kp _ (e3.kp s2.hp) (RP.kp _ (e2.kp s1.hp) r1);have e123:=e1.trans (e2.trans e3);cases x with
 | tup xs =>
  have r3':=r3;simp only[RP]at r3;obtain⟨a,us,e,q,r⟩:=r3;refine⟨a,us,e,q,fun hw=>?_,fun _ p n=>?_⟩
  ·have ex:bO xs l u=xs:=by
    unfold bO;rw[RPs.length _ r]at hw;rw[hw.1,hw.2,List.drop_zero,Nat.sub_zero,JX]
   have h4:Q' (.tup (bO xs l u)) H3':=h3;rw[ex]at h4;rw[←e];exact k _ _ _ _ h4 r3' s3 e123
  ·exact k _ _ _ _ h3 (oC n (j7 r)) (s3.hid n) (e123.trans (Ev.hid n))
 | _=>exact h3.elim
end U
namespace L2
variable {X:Cx}
end L2
namespace U
open L2
variable {B:Bs}{X:Cx}{a b:Expr}{ta tb:TE'}{pos:Pos}
def FO:List PV->PHp->VK'->Prop:=fun xs H Q=>match xs with
 | [.int i,.int j]=>Q (.int (if j<i then j else i)) H
 | _=>False
theorem Gg:FO [.int i,.int j] H Q=Q (.int (if j<i then j else i)) H:=rfl
end U
namespace L2
variable {X:Cx}
theorem sy{ws:List Value}(ht:IsTup s.heap t ([]:List Value).toArray)(hb:IsTup s.heap b ws.toArray)(h:Q (.ref b) s):wpAny (model prog w) A (binaryOp .Add (.ref t) (.ref b)) Q E s:=by
 obtain⟨⟨cls,dd,data,sl⟩,g,hc,n,g2⟩:=id ht;obtain⟨⟨cls2,dd2,data2,sl2⟩,k,hc2,n2,k2⟩:=id hb;simp only at hc g2 hc2 k2;subst hc g2 hc2 k2;exact concat_meets ⟨_,g,rfl⟩ ⟨_,k,rfl⟩ noFill_tuple_add seq_tuple_add PySem.F.slot_tuple_add PySem.F.entry_tuple_add (PySem.F.args_tuple_add_2 _ _) (tuple_addW0 t b _ ws.toArray n n2 dd dd2 sl sl2 rfl) ⟨g,k,h⟩
def zy(K:PySem.W.Frag):R2:=fun x y H Q=>∃a b xs ys,x=.ref a/\y=.ref b/\SqT K H a xs/\SqT K H b ys/\xs.length+ys.length≤sizeLine/\(xs=[]->Q (.ref b) H)/\(ys=[]->Q (.ref a) H)/\(ys≠[]->∀p,H p=none->Q (.ref p) (upd H p (.tup (xs++ys))))
theorem xR:OpR X (binaryOp .Add) (zy X.K):=by
 intro pins s σ H x y v u Q I rx ry h;obtain⟨a,b,xs,ys,rfl,rfl,ha,hb,hz,q0,q1,q2⟩:=h;by_cases e:xs=[]
 ·cases rx;cases ry;subst e;obtain⟨its,r1,p1,_⟩:=I.tuple ha;obtain⟨its2,r2,p2,_⟩:=I.tuple hb;cases r1;exact sy p1 p2 ⟨.ref b,H,I,rfl,q0 rfl⟩
 ·exact xx pins s σ H _ _ v u Q I rx ry ⟨a,b,xs,ys,rfl,rfl,ha,hb,e,hz,q1,q2⟩
end L2
namespace U
open L2
section
variable {B:Bs}{X:Cx}{a b:Expr}{ta tb:TE'}{pos:Pos}
def kY:R2':=fun x y H Q=>match x,y with
 | .tup l,.tup m=>l.length+m.length≤sizeLine/\Q (.tup (l++m)) H
 | _,_=>False
theorem HJ:kY (.tup l) (.tup m) H Q=(l.length+m.length≤sizeLine/\Q (.tup (l++m)) H):=rfl
theorem yQ{K:PySem.W.Frag}:VR K B kY (zy K):=by
 intro σ' σ H' H x' y' x y Q' Q s rx ry h k;unfold kY at h;split at h
 ·rename_i l m;obtain⟨hl,q⟩:=h;have rx':=rx;have ry':=ry;simp only[RP]at rx ry;obtain⟨a,us,rfl,ha,r1⟩:=rx;obtain⟨b,ws,rfl,hb,r2⟩:=ry;have l1:=RPs.length _ r1;have l2:=RPs.length _ r2;refine⟨a,b,us,ws,rfl,rfl,ha,hb,by rw[l1,l2];exact hl,fun e=>?_,fun e=>?_,fun e p hp=>?_⟩
  ·have:l=[]:=Lh.mp (by rw[←l1,e];rfl);rw[this,List.nil_append]at q;exact k _ _ _ _ q ry' s (Ev.refl _ _)
  ·have:m=[]:=Lh.mp (by rw[←l2,e];rfl);rw[this,JQ]at q;exact k _ _ _ _ q rx' s (Ev.refl _ _)
  ·exact k _ _ _ _ q (oC hp (RPs.append _ r1 r2)) (s.hid hp) (Ev.hid hp)
 ·exact h.elim
theorem dh(ha:PE' X B a ta)(hb:PE' X B b tb):PE' X B (.BinOp a .Add b pos) (uOp kY ta tb):=eW xR yQ ha hb
end
section
variable {B:Bs}{X:Cx}
theorem two{x y:V}{its:List Value}(h:Paired R [x,y] its):∃u v,its=[u,v]/\R x u/\R y v:=by
 cases h with
 | cons a h=>cases h with
  | cons b h=>cases h;exact⟨_,_,rfl,a,b⟩
end
section
variable {B:Bs}{X:Cx}
end
end U
namespace L2
variable {X:Cx}
def sT(l:List Nat):Str:=⟨l.toArray⟩
end L2
namespace U
open L2
variable {B:Bs}{X:Cx}{a b o e:Expr}{es:List Expr}{ta tb to:TE'}{t:TA'}{pos apos cpos:Pos}{name:Str}
abbrev tx(l:List Nat):PV:=.str (sT l)
def Jk:R2':=fun x y H Q=>match x,y with
 | .str z,.int i=>z.length≤sizeLine/\∃c,atI z.cps.toList i=some c/\Q (.str ⟨#[c]⟩) H
 | _,_=>False
def Jj:PV->List PV->PHp->VK'->Prop:=fun x vs H Q=>match x,vs with
 | .str z,[.ref a]=>∃ys:List Str,H a=some (.lst (ys.map PV.str))/\z.length≤16/\(ys.map (·.length)).sum+ys.length≤1048576/\Q (.str (Txt.join z ys)) H
 | _,_=>False
def Aa(o i v:PV)(H:PHp)(Q:PHp->Prop):Prop:=match o,i with
 | .ref a,.int k=>∃l j,H a=some (.lst l)/\ixN l.length k=some j/\Q (put H a (.lst (l.set j v)))
 | _,_=>False
theorem F2{a:Addr}:Aa (.ref a) (.int k) v H Q=∃l j,H a=some (.lst l)/\ixN l.length k=some j/\Q (put H a (.lst (l.set j v))):=rfl
def CU(to ti:TE'):TG':=fun v σ H Q=>to σ H fun o H1=>ti σ H1 fun i H2=>Aa o i v H2 fun H3=>Q σ H3
theorem u7{i:Expr}{ti:TE'}(ho:PE' X B o to)(hi:PE' X B i ti) (ha:∀v,assign (.Subscript o i pos) X.env v=(do
   let ov←holding [v] (eval o X.env)
   let iv←holding [v,ov] (eval i X.env)
   standAt pos
   holding [v,ov,iv] (setItem ov iv v)
   release [v,ov,iv] []):=by intro _;rfl):PG' X B (.Subscript o i pos) (CU to ti):=kD (z0 ho hi set_list ha) fun v σ H Q h=>by
 obtain⟨v',σ',H',Q',rv,s,h,k⟩:=h;refine⟨σ',H',_,s,h,fun o' H1' o H1 h1 ro s1 e1=>⟨σ',H1',_,s1,h1,fun i' H2' i H2 h2 ri s2 e2=>?_⟩⟩;unfold Aa at h2;split at h2
 ·rename_i a n;obtain⟨l,j,ea,ej,q⟩:=h2;have ro2:=RP.kp X.K (e2.kp s1.hp) ro;have rv2:=RP.kp X.K ((e1.trans e2).kp s.hp) rv;simp only[RP]at ro2 ri;obtain⟨us,eg,r⟩:=s2.hp _ _ ea;have new:OAt X.K (upd H2 a (.lst (us.set j v))) a (.lst (l.set j v')):=⟨_,bj,RPs.kp X.K (s2.hp.kpw ea) (RPs.set X.K rv2 j r)⟩;exact⟨a,us,n,j,ro2,ri,eg,by rw[RPs.length _ r];exact ej,k _ _ _ _ q (s2.wr ea new) ((e1.trans e2).trans (Ev.wr ea))⟩
 ·exact h2.elim
end U
namespace L2
variable {X:Cx}
section
variable {e e3:Expr}{te:TE}{ts:TO}{pos p2:Pos}
end
end L2
namespace U
open L2
variable {B:Bs}{X:Cx}{a b o e e3:Expr}{es:List Expr}{ta tb to:TE'}{t:TA'}{pos p2 apos cpos:Pos}{name:Str}
def FI:List PV->PHp->VK'->Prop:=fun xs H Q=>match xs with
 | [.int i,.int j]=>Q (.int (if j>i then j else i)) H
 | _=>False
theorem G3:FI [.int i,.int j] H Q=Q (.int (if j>i then j else i)) H:=rfl
end U
namespace ST2
section
variable {prog:Program}{w:World}{A:Around}{E:Value->Shared->Prop}{s:Shared}
theorem vR(ht:s.heap.IsTuple a us.toArray)
  (k:Q us { s with heap:=(s.heap.push (seqObj "list" #[] 0)).update s.heap.objs.size (Obj.mapSeq (·++us.toArray)) }) (hz:us.length≤sizeLine) :
  wpAny (model prog w) A (collect (.ref a)) Q E s:=by
 obtain⟨o,ho,hc,n,hd⟩:=id ht;unfold collect;refine Jm (wpAny_runValue (J5 entry_proto_collect' ?_));show wpAny _ _ (do again (.builtin "list.__iadd__" ⟨[←newList [],.ref a],[]⟩)) _ _ s;refine Jm (wpAny_newList (Jq ⟨Lp _ (by decide +kernel),J5 entry_list_iadd' ?_⟩) (by simp));show wpAny _ _ (Builtin.List.listExtendWith (.ref s.heap.objs.size) (.ref a) (.ref s.heap.objs.size)) _ _ { s with heap:=s.heap.push (seqObj "list" #[] 0) };unfold Builtin.List.listExtendWith;have ho2:(s.heap.push (seqObj "list" #[] 0)).get? a=some o:=Js _ ho;refine Jm (wpAny_typeOf (T:="tuple") ⟨o,ho2,hc⟩ ?_);have et:(Value.type "tuple"==Value.type "tuple")=true:=by rfl
 rw[JL (by rw[et];simp)];refine Jm (listItems_at ho2 hd ?_);refine Jm (listItems_at (xs:=#[]) (n:=0) (JA _ rfl) rfl ?_);rw[JK (by simp)];refine Jm (listUpdate_at (xs:=#[]) (n:=0) (JA _ rfl) rfl ?_ (K1 _) (by show(#[]++us.toArray).size≤sizeLine+1;simp only[Array.size_append,JC,Lk];symm));refine Jq ?_;show wpAny (model prog w) A (do
   let o←load s.heap.objs.size
   match o.data with | .seq xs _=>pure xs.toList | _=>unsupported "internal:collect") Q E { s with heap:=(s.heap.push (seqObj "list" #[] 0)).update s.heap.objs.size (Obj.mapSeq (·++us.toArray)) }
 refine Jm (wpAny_load (get?_update_seq (JA _ rfl) _) ?_);show wpAny _ _ (pure ((#[]:Array Value)++us.toArray).toList) Q E _;rw[show((#[]:Array Value)++us.toArray).toList=us by simp];exact Jq k
theorem vw(ht:s.heap.IsTuple a us.toArray)(hI:IntsAre us ns)(h6:us.length<64)
  (k:∀(out:Array Value) (ms:List Int),IntsAre out.toList ms->ms.Perm ns->ms.Pairwise (·≤·)->Q (.ref (s.heap.objs.size+1)) { s with heap:=sortedAll s.heap us out }) :
  wpAny (model prog w) A (call (.builtin "sorted") [.ref a]) Q E s:=by
 refine Calls.call_function_entry kind_sorted plain_sorted entry_sorted (args_sorted1 _) ?_;unfold Builtin.«sorted»;refine Jm (m:=checkCount "sorted" 1 1 _) (Jq ?_);refine Jm (vR ht ?_ (by rw[J9];symm));refine Jm (wpAny_newList ?_ (by rw[J9];symm));have hq:((s.heap.push (seqObj "list" #[] 0)).update s.heap.objs.size (Obj.mapSeq (·++us.toArray))).objs.size=s.heap.objs.size+1:=by rw[Heap.size_update,size_push']
 have hL:(((s.heap.push (seqObj "list" #[] 0)).update s.heap.objs.size (Obj.mapSeq (·++us.toArray))).push (seqObj "list" us.toArray 0)).get? (s.heap.objs.size+1)=some (seqObj "list" us.toArray 0):=by rw[←hq];exact JA _ rfl
 show wpAny _ _ _ _ _ { s with heap:=((s.heap.push (seqObj "list" #[] 0)).update s.heap.objs.size (Obj.mapSeq (·++us.toArray))).push (seqObj "list" us.toArray 0) };rw[hq];refine Jm (Kb (Kt slot_list_sort ⟨_,hL,rfl⟩ entry_list_sort (list_sort_tree hL hI h6 fun out ms a1 a2 a3=>⟨_,rfl,?_⟩) (args_list_sort _)));exact Jq ⟨_,rfl,k out ms a1 a2 a3⟩
end
end ST2
namespace L2
variable {X:Cx}
def vO(K:PySem.W.Frag):List V->Hp->VK->Prop:=fun xs H Q=>∃(p:Addr) (ns:List Int),xs=[.ref p]/\SqT K H p (ns.map V.int)/\ns.length<64/\∀(r:Addr) (ms:List Int),H r=none->ms.Perm ns->ms.Pairwise (·≤·)->Q (.ref r) (upd H r (.lst (ms.map V.int)))
theorem iq:cf X (.builtin "sorted") (vO X.K):=by
 intro pins s σ H xs us Q I r h;obtain⟨a,ns,rfl,hq,h64,q⟩:=h;obtain⟨u,rfl,ru⟩:=Vals.one r;cases ru;obtain⟨its,rv,p,hz⟩:=I.tuple hq;have hl:its.length<64:=by have:=rv.length;rw[Jl]at this;symm
 refine ST2.vw (show s.heap.IsTuple a its.toArray from p) (jb rv) hl fun out ms h1 h2 h3=>?_;have hn:H (s.heap.objs.size+1)=none:=I.hok.fresh (Nat.le_succ _);obtain⟨e,he⟩:=sortedAll_at s.heap its out;have hv:=eL h1;have hz2:(ms.map V.int).length≤sizeLine:=by rw[Jl,h2.length_eq,J9];symm
 refine⟨.ref (s.heap.objs.size+1),_,I.laid (t':=s.toks) (o:=.lst (ms.map V.int)) (fun b o e=>sortedAll_old e) (Nat.le_succ _) ?_,rfl,q _ ms hn h2 h3⟩;exact⟨hz2,out.toList,e,hv,he⟩
end L2
namespace U
open L2
section
variable {B:Bs}{X:Cx}
def vi:List PV->PHp->VK'->Prop:=de fun x H Q=>match x with
 | .tup l=>∃ns:List Int,l=ns.map PV.int/\ns.length<64/\∀(r:Addr) (ms:List Int),H r=none->ms.Perm ns->ms.Pairwise (·≤·)->Q (.ref r) (put H r (.lst (ms.map PV.int)))
 | _=>False
theorem I0:vi [.tup l] H Q=∃ns:List Int,l=ns.map PV.int/\ns.length<64/\∀(r:Addr) (ms:List Int),H r=none->ms.Perm ns->ms.Pairwise (·≤·)->Q (.ref r) (put H r (.lst (ms.map PV.int))):=rfl
theorem ly{K:PySem.W.Frag}:VC K B vi (vO K):=by
 intro σ' σ H' H xs' xs Q' Q s r h k;obtain⟨x',x,rfl,rfl,rx,h⟩:=de.ex h r;cases x' with
 | tup l =>
  obtain⟨ns,rfl,h64,q⟩:=h;simp only[RP]at rx;obtain⟨a,us,rfl,hq,r2⟩:=rx;rw[lV r2]at hq;refine⟨a,ns,rfl,hq,h64,fun r ms hr h1 h2=>?_⟩;exact k _ _ _ _ (q r ms (s.hp.free hr) h1 h2) (by simp[RP]) (s.new hr (kL hr fA)) (Ev.new hr)
 | _=>exact h.elim
end
section
variable {B:Bs}{X:Cx}{pos:Pos}{x:Str}{a b e:Expr}{ta tb te:TE'}
theorem gN(i:Nat)(hN:X.N.Nodup)(hi:X.N[i]?=some x:=by rfl)(hx:Loc X.env.scope x:=by first | exact Or.inl rfl | exact Or.inr rfl)(hf:X.fn x=true∨X.env.scope.names.lookup x=some .local:=by first | exact .inl rfl | exact .inr rfl | assumption):PG' X B (.Name x pos) (du i):=yU hN hi hx hf
theorem sN{pos':Pos}(i:Nat)(hN:X.N.Nodup)(he:PE' X B e te)(hi:X.N[i]?=some x:=by rfl)(hx:Loc X.env.scope x:=by first | exact Or.inl rfl | exact Or.inr rfl)(hs:swapsWith e (some (.Name x pos')) pos.line X.env=pure false:=by rfl)(hf:X.fn x=true∨X.env.scope.names.lookup x=some .local:=by first | exact .inl rfl | exact .inr rfl | assumption):PS' X B (.Assign [.Name x pos'] e pos) (jV te (du i)):=fb hN hi hx he hs hf
theorem iX(ha:PE' X B a ta)(hb:PE' X B b tb)(hs:kC b:=by exact fun _ _=>rfl):PE' X B (.Subscript a b pos) (uOp uIx ta tb):=Et ha hb hs
theorem cW{op:CmpOp}{r':R2'}{r:R2}(ho:OpR X (compareOp op) r)(v:VR X.K B r' r)(ha:PE' X B a ta)(hb:PE' X B b tb)(hm:behindInMarks op b=false:=by with_unfolding_all rfl):PT' X B (.Compare a [op] [b] pos) (fI (uOp r' ta tb)):=u9 ho v ha hb hm
theorem cN{op:CmpOp}{r':R2'}{r:R2}(ho:OpR X (compareOp op) r)(v:VR X.K B r' r)(ha:PE' X B a ta)(hb:PE' X B b tb)(h1:op≠.In:=by decide)(h2:op≠.NotIn:=by decide):PT' X B (.Compare a [op] [b] pos) (fI (uOp r' ta tb)):=u9 ho v ha hb (da _ h1 h2)
section
variable {N2:List Str}{nt:Nat}{js:List Nat}{scope sc:Scope}{cl:List (Str×Addr)}{elt iter tg:Expr}{ifs:List Expr}{wi:TI'}{g:TG'}{tt:TT'}{y:Str}{py spos:Pos}
theorem cE(O:bZ X N2 nt js scope cl sc)(hi:PI' X B tg iter wi)(b:∀(s0:Shared) (H0:Hp) (fp:List Addr) (ps:List (Addr×Obj)),gr (cx X N2 scope cl s0 H0 fp ps) B tg ifs elt g tt te)(hc:X.calm=true:=by rfl)(hs:∀x,foldedSetIterable iter X.env x=pure x:=by intro _;rfl) :
  PE' X B (.ListComp elt [⟨tg,iter,ifs,0⟩] scope pos) (gA nt js wi g tt te):=yJ O hc hi b hs
theorem sC(i:Nat)(hN:X.N.Nodup)(O:bZ X N2 nt js scope cl sc)(hi:PI' X B tg iter wi)(b:∀(s0:Shared) (H0:Hp) (fp:List Addr) (ps:List (Addr×Obj)),gr (cx X N2 scope cl s0 H0 fp ps) B tg ifs elt g tt te)
  (hy:X.N[i]?=some y:=by rfl) (hl:Loc X.env.scope y:=by first | exact Or.inl rfl | exact Or.inr rfl) (hc:X.calm=true:=by rfl) (hsw:swapsWith (.ListComp elt [⟨tg,iter,ifs,0⟩] scope pos) (some (.Name y py)) spos.line X.env=pure true:=by rfl) (hs:∀x,foldedSetIterable iter X.env x=pure x:=by intro _;rfl)
  (hf:X.fn y=true∨X.env.scope.names.lookup y=some .local:=by first | exact .inl rfl | exact .inr rfl | assumption):PS' X B (.Assign [.Name y py] (.ListComp elt [⟨tg,iter,ifs,0⟩] scope pos) spos) (jV (gA nt js wi g tt te) (du i)):=yN hN hy hl O hc hi b hsw hs hf
end
theorem _root_.L2.bS.mo{j k:Nat}{A:Around}(r:bS k A)(h:j≤k:=by decide):bS j A:=r.mono h
end
section
variable {B:Bs}{X:Cx}
def DN:R2:=fun x y H Q=>(∃i j,x=.int i/\y=.int j/\Q (.bl (!(i==j))) H)∨(∃a b,x=.bl a/\y=.bl b/\Q (.bl (!(a==b))) H)∨∃a b,x=.str a/\y=.str b/\Q (.bl (!(a==b))) H
open SeqAt in
theorem gv:OpR X (compareOp .NotEq) DN:=by
 intro pins s σ H x y v u Q I rx ry h;rcases h with⟨i,j,rfl,rfl,q⟩ |⟨i,j,rfl,rfl,q⟩ |⟨i,j,rfl,rfl,q⟩
 ·obtain⟨t,rfl⟩:=rx;obtain⟨t',rfl⟩:=ry;exact RcNeAt.int_int i t j t' _ _ _ _ ⟨.bl _,H,I,rfl,q⟩
 ·cases rx;cases ry;exact RcNeAt.bool_bool i j _ _ _ _ ⟨.bl _,H,I,rfl,q⟩
 ·obtain⟨t,rfl⟩:=rx;obtain⟨t',rfl⟩:=ry;exact RcNeAt.str_str i t j t' _ _ _ _ ⟨.bl _,H,I,rfl,q⟩
def tj:R2':=fun x y H Q=>match x,y with
 | .int i,.int j=>Q (.bl (!(i==j))) H
 | .bl i,.bl j=>Q (.bl (!(i==j))) H
 | .str i,.str j=>Q (.bl (!(i==j))) H
 | _,_=>False
theorem HX:tj (.int i) (.int j) H Q=Q (.bl (!(i==j))) H:=rfl
theorem HM:tj (.bl i) (.bl j) H Q=Q (.bl (!(i==j))) H:=rfl
theorem GW:tj (.str i) (.str j) H Q=Q (.bl (!(i==j))) H:=rfl
theorem gf{K:PySem.W.Frag}:VR K B tj DN:=by
 intro σ' σ H' H x' y' x y Q' Q s rx ry h k;unfold tj at h;split at h
 ·simp only[RP]at rx ry;exact .inl ⟨_,_,rx,ry,k _ H' _ H h (by simp[RP]) s (Ev.refl _ _)⟩
 ·simp only[RP]at rx ry;exact .inr (.inl ⟨_,_,rx,ry,k _ H' _ H h (by simp[RP]) s (Ev.refl _ _)⟩)
 ·simp only[RP]at rx ry;exact .inr (.inr ⟨_,_,rx,ry,k _ H' _ H h (by simp[RP]) s (Ev.refl _ _)⟩)
 ·exact h.elim
end
end U
namespace DM
abbrev P2:=Int×Int
def pk(p:P2):Int:=6*p.1+p.2
structure Good (c:Int) (l:List P2):Prop where
 nd:l.Nodup
 lo:∀p∈l,0≤p.1/\p.1<p.2/\p.2<c
theorem i9{α:Type}(k:α->Int):∀{a b:List α},a.Pairwise (fun x y=>k x<k y)->b.Pairwise (fun x y=>k x<k y)->(∀x,x∈a↔x∈b)->a=b
 | [],[],_,_,_=>rfl
 | [],y::b,_,_,h=>by have:=(h y).mpr Jw;simp at this
 | x::a,[],_,_,h=>by have:=(h x).mp Jw;simp at this
 | x::a,y::b,ha,hb,h=>by
  obtain⟨h1,h2⟩:=Le.mp ha;obtain⟨g1,g2⟩:=Le.mp hb;have e:x=y:=by
   rcases JD.mp ((h x).mp Jw)with e | m
   ·exact e
   ·rcases JD.mp ((h y).mpr Jw)with e | m'
    ·exact e.symm
    ·have a1:=g1 x m;have a2:=h1 y m';symm
  subst e;congr 1;refine i9 k h2 g2 fun z=>⟨fun m=>?_,fun m=>?_⟩
  ·rcases JD.mp ((h z).mp (Jz _ m))with e | m'
   ·subst e;have:=h1 z m;symm
   ·exact m'
  ·rcases JD.mp ((h z).mpr (Jz _ m))with e | m'
   ·subst e;have:=g1 z m;symm
   ·exact m'
theorem eJ{a b l:List P2}(ha:a.Perm l)(sa:a.Pairwise (fun x y=>pk x<pk y))(hb:b.Perm l)(sb:b.Pairwise (fun x y=>pk x<pk y)):a=b :=
 i9 pk sa sb fun x=>ha.mem_iff.trans hb.mem_iff.symm
theorem Good.prs(g:Good c l)(hc:c≤6):∀p∈l,p∈SP.prs:=fun p hp=>by
 have:=g.lo p hp;exact SP.wH (u:=p.1) (v:=p.2) this.1 this.2.1 (by symm)
theorem bN{α:Type}[BEq α][LawfulBEq α]{l m:List α}(nd:l.Nodup)(h:∀x∈l,x∈m):l.length≤m.length:=by
 induction l generalizing m with
 | nil=>simp
 | cons x l ih =>
  obtain⟨h1,h2⟩:=K0.mp nd;have hx:=h x Jw;have:=ih (m:=m.erase x) h2 fun y hy=>(List.mem_erase_of_ne (by rintro rfl;exact h1 hy)).mpr (h y (Jz _ hy));have e:=List.length_erase_of_mem hx;have:0<m.length:=List.length_pos_of_mem hx;simp only[JR];symm
theorem Good.len(g:Good c l)(hc:c≤6):l.length≤15:=bN g.nd (g.prs hc)
end DM
namespace My
def gd(a b:Int):Int:=(Int.gcd a b:Nat)
abbrev ab(x:Int):Int:=if x<0 then -x else x
end My
namespace My
open U
def BN(n:Nat)(i:Int):Prop:=i.natAbs<2 ^ n
theorem BN.fit(h:BN n i)(hn:n≤9000):Fit i:=by
 unfold Fit;unfold BN at h;rcases Nat.eq_zero_or_pos i.natAbs with h0 | hp
 ·rw[h0,Nat.log2_zero];symm
 ·have:=(Nat.log2_lt (LD hp)).mpr h;symm
theorem BN.of_le(h:BN n i)(g:j.natAbs≤i.natAbs):BN n j:=Nat.lt_of_le_of_lt g h
end My
namespace My
abbrev P2:=Int×Int
inductive Reach (E:List P2) (S:List Int):Int→Prop where
 | base {x:Int} (h:x∈S):Reach E S x
 | step {a b:Int} (h:Reach E S a) (e:(a,b)∈E):Reach E S b
def outs(E:List P2)(a:Int):List Int:=(E.filter fun p=>decide (p.1=a)).map (·.2)
theorem fV:b∈outs E a↔(a,b)∈E:=by
 unfold outs;rw[Jp];constructor
 ·rintro⟨⟨x,y⟩,h,rfl⟩;rw[JU]at h;have:x=a:=Lz h.2;subst this;exact h.1
 ·intro h;exact⟨(a,b),JU.mpr ⟨h,J2 rfl⟩,rfl⟩
def bD(E:List P2)(f:List Int)(n:Int):List Int:=if n∈f then f++outs E n else f
theorem qP(h:x∈f):x∈bD E f n:=by
 unfold bD;split
 ·exact JN _ h
 ·exact h
theorem jG{E:List P2}:∀(L:List Int) {f:List Int} {x:Int},x∈f->x∈L.foldl (bD E) f
 | [],_,_,h=>h
 | _::L,_,_,h=>jG L (qP h)
theorem gC{E:List P2}{S:List Int}:∀(L:List Int) {f:List Int},(∀x∈f,Reach E S x)->∀x∈L.foldl (bD E) f,Reach E S x
 | [],_,h,x,hx=>h x hx
 | n::L,f,h,x,hx=>by
  refine gC L (f:=bD E f n) (fun y hy=>?_) x hx;unfold bD at hy;split at hy
  ·rename_i hn;rcases Ju.mp hy with hy | hy
   ·exact h y hy
   ·exact .step (h n hn) (fV.mp hy)
  ·exact h y hy
def Fwd(E:List P2)(L:List Int):Prop:=∀a b,(a,b)∈E->∀L1 L2,L=L1++L2->b∈L1->a∈L1
theorem fQ{E:List P2}:∀(L1 L2:List Int) {f:List Int},(∀a b,(a,b)∈E->a∈L1++L2)->(∀a b,(a,b)∈E->∀M1 M2,L1++L2=M1++M2->b∈M1->a∈M1)->(L1++L2).Nodup ->
  (∀a b,(a,b)∈E->a∈L1->a∈f->b∈f)->∀a b,(a,b)∈E->a∈L2.foldl (bD E) f->b∈L2.foldl (bD E) f
 | L1,[],f,hA,hF,hN,hc,a,b,e,ha=>by
  have:=hA a b e;rw[JQ]at this;exact hc a b e this ha
 | L1,n::L2,f,hA,hF,hN,hc,a,b,e,ha=>by
  have eq:L1++n::L2=(L1++[n])++L2:=by simp
  refine fQ (L1++[n]) L2 (f:=bD E f n) (by rw[←eq];exact hA) (by rw[←eq];exact hF) (by rw[←eq];exact hN) (fun a b e ha1 ha2=>?_) a b e ha;unfold bD at ha2 ⊢;split
  ·rename_i hn;rw[JL hn]at ha2;rcases Ju.mp ha2 with hf | ho
   ·rcases Ju.mp ha1 with h1 | h1
    ·exact JN _ (hc a b e h1 hf)
    ·have:a=n:=by simpa using h1
     subst this;exact JM _ (fV.mpr e)
   ·-- a is an out of n,so it stands behind n
    have en:=fV.mp ho;rcases Ju.mp ha1 with h1 | h1
    ·have q:=hF n a en L1 (n::L2) rfl h1;rw[J3]at hN;exact absurd rfl (hN.2.2 n q n (Jw))
    ·have:a=n:=by simpa using h1
     subst this;exact JM _ (fV.mpr e)
  ·rename_i hn;rw[JK hn]at ha2;rcases Ju.mp ha1 with h1 | h1
   ·exact hc a b e h1 ha2
   ·have:a=n:=by simpa using h1
    subst this;exact absurd ha2 hn
theorem jA(hA:∀a b,(a,b)∈E->a∈L)(hF:Fwd E L)(hN:L.Nodup)(x:Int):x∈L.foldl (bD E) S↔Reach E S x:=by
 constructor
 ·exact gC L (fun y hy=>.base hy) x
 ·intro h
  induction h with
  | base h=>exact jG L h
  | step h e ih=>exact fQ [] L hA hF hN (fun a b e h=>absurd h (by simp)) _ _ e ih
def DX(f:List Int)(p:P2):List Int:=if p.1∈f/\p.2∉f then f++[p.2]else f
def DK(E:List P2)(f:List Int):List Int:=E.foldl DX f
def Ab(E:List P2):Nat->List Int->List Int
 | 0,f=>f
 | n+1,f=>Ab E n (DK E f)
theorem bN:∀(m:Nat) (f:List Int),f.Nodup->(∀x∈f,0≤x/\x<(m:Int))->f.length≤m
 | 0,f,_,h=>by
  cases f with
  | nil=>exact Jy _
  | cons x f=>have:=h x Jw;symm
 | m+1,f,hn,h=>by
  have q:=bN m (f.erase (m:Int)) (hn.erase _) (fun x hx=>by
   have hx':=List.mem_of_mem_erase hx;have:=h x hx';have ne:x≠(m:Int):=(List.Nodup.mem_erase_iff hn).mp hx |>.1
   symm)
  by_cases hm:(m:Int)∈f
  ·rw[List.length_erase_of_mem hm]at q;symm
  ·rw[List.erase_of_not_mem hm]at q;symm
theorem eY:∀{xs ys:List Int},xs.Pairwise (·<·)->ys.Pairwise (·<·)->(∀x,x∈xs↔x∈ys)->xs=ys
 | [],[],_,_,_=>rfl
 | [],y::ys,_,_,h=>absurd ((h y).mpr Jw) (by simp)
 | x::xs,[],_,_,h=>absurd ((h x).mp Jw) (by simp)
 | x::xs,y::ys,hx,hy,h=>by
  rw[Le]at hx hy;have e:x=y:=by
   have h1:=(h x).mp Jw;have h2:=(h y).mpr Jw;rcases JD.mp h1 with h1 | h1
   ·exact h1
   ·rcases JD.mp h2 with h2 | h2
    ·exact h2.symm
    ·have:=hx.1 y h2;have:=hy.1 x h1;symm
  subst e;rw[eY hx.2 hy.2 fun z=>?_];constructor
  ·intro hz;rcases JD.mp ((h z).mp (Jz _ hz))with q | q
   ·have:=hx.1 z hz;symm
   ·exact q
  ·intro hz;rcases JD.mp ((h z).mpr (Jz _ hz))with q | q
   ·have:=hy.1 z hz;symm
   ·exact q
end My
namespace My
section
variable {α:Type}
def Chn(R:α->α->Prop):List α->Prop
 | a::b::l=>R a b/\Chn R (b::l)
 | _=>True
theorem bR{R:α->α->Prop}:∀{p q:List α},Chn R (p++q)↔Chn R p/\Chn R q/\∀a∈p.getLast?,∀b∈q.head?,R a b
 | [],q=>by simp[Chn]
 | [a],[]=>by simp[Chn]
 | [a],b::q=>by simp[Chn,and_comm]
 | a::b::p,q=>by
  have ih:=bR (R:=R) (p:=b::p) (q:=q);have e1:Chn R (a::b::p++q)↔R a b/\Chn R (b::p++q):=Iff.rfl;have e2:Chn R (a::b::p)↔R a b/\Chn R (b::p):=Iff.rfl;rw[e1,e2,ih,Kq,and_assoc]
theorem cZ:∀(p:List α) {s:α} {t:List α},(p++s::t).getLast?=(s::t).getLast?
 | [],_,_=>rfl
 | [a],s,t=>Kq
 | a::b::p,s,t=>by
  show(a::b::(p++s::t)).getLast?=_;rw[Kq];exact cZ (b::p)
theorem jI{β:Type}[DecidableEq β](f:α->β):∀{l:List α},¬(l.map f).Nodup->∃p s q s' t,l=p++s::(q++s'::t)/\f s=f s'
 | [],h=>absurd List.nodup_nil h
 | a::l,h=>by
  by_cases m:f a∈l.map f
  ·obtain⟨s',hs,e⟩:=Jp.mp m;obtain⟨q,t,rfl⟩:=List.append_of_mem hs;exact⟨[],a,q,s',t,rfl,e.symm⟩
  ·have:¬(l.map f).Nodup:=fun n=>h (by rw[JF,K0];exact⟨m,n⟩);obtain⟨p,s,q,s',t,rfl,e⟩:=jI f this;exact⟨a::p,s,q,s',t,rfl,e⟩
theorem dD{β:Type}{f:α->List β}{n:Nat}:∀{l:List α},(∀x∈l,(f x).length≤n)->(l.flatMap f).length≤l.length*n
 | [],_=>by simp
 | a::l,h=>by
  have:=dD (f:=f) (l:=l) fun x hx=>h x (Jz _ hx);have h1:=h a Jw;rw[List.flatMap_cons,Jr,JR,Nat.add_mul];symm
end
section
variable {κ:Type}[DecidableEq κ]
abbrev Stp(κ:Type):=Int×κ×Int
structure Lnk (dn up:κ) (G A:List Int) (s s':Stp κ):Prop where
 jn:s.2.2=s'.1
 mt:s.2.1≠up->s'.2.1≠dn->s.2.2∈A
 no:s.2.1=up∨s'.2.1=dn->s.2.2∉G
def nm(r:List (Stp κ)):List Int:=match r with
 | []=>[]
 | s::t=>s.1::(s::t).map (·.2.2)
structure Rd (Ed:Stp κ→Prop) (dn up:κ) (G A ones:List Int) (r:List (Stp κ)):Prop where
 hd:∃s∈r.head?,s.1∈ones
 ed:∀s∈r,Ed s
 ch:Chn (Lnk dn up G A) r
variable {Ed:Stp κ->Prop}{dn up:κ}{G A ones others:List Int}
theorem zw(ne:dn≠up)(hA:∀a b,Ed (a,dn,b)->b∈A->a∈A):∀{q:List (Stp κ)} {s e:Stp κ},(∀x∈s::q,Ed x)->Chn (Lnk dn up G A) (s::q)->s.2.1=dn->(s::q).getLast?=some e->e.2.1=up->s.1∈A
 | [],s,e,_,_,k,l,u=>by
  simp at l;subst l;exact absurd (k.symm.trans u) ne
 | s'::q,s,e,hd,c,k,l,u=>by
  have hs:Ed (s.1,dn,s.2.2):=by rw[←k];exact hd s Jw
  refine hA _ _ hs ?_;by_cases k':s'.2.1=dn
  ·have:=zw ne hA (q:=q) (s:=s') (e:=e) (fun x hx=>hd x (Jz _ hx)) c.2 k' (by rw[←l,Kq]) u;rw[c.1.jn];exact this
  ·exact c.1.mt (by rw[k];exact ne) k'
theorem short(ne:dn≠up)(hA:∀a b,Ed (a,dn,b)->b∈A->a∈A)(ap:∀x∈ones,x∉others):∀(n:Nat) (r:List (Stp κ)),r.length≤n->Rd Ed dn up G A ones r->(∃e∈r.getLast?,e.2.2∈others) ->
  ∃r',Rd Ed dn up G A ones r'/\(∃e∈r'.getLast?,e.2.2∈others)/\(nm r').Nodup
 | 0,r,hl,h,_=>by
  obtain⟨s,hs,_⟩:=h.hd;have:r=[]:=Lh.mp (by symm);subst this;cases hs
 | n+1,r,hl,h,hx=>by
  by_cases nd:(nm r).Nodup
  ·exact⟨r,h,hx,nd⟩
  obtain⟨s0,hs0,h0⟩:=h.hd;obtain⟨e,he,hb⟩:=hx;cases r with
  | nil=>cases hs0
  | cons s1 t1 =>
  have es:s1=s0:=by simpa using hs0
  subst es;have cut:(∃q s t,s1::t1=q++s::t/\s.2.2=s1.1)∨¬((s1::t1).map (·.2.2)).Nodup:=by
   by_cases m:s1.1∈(s1::t1).map (·.2.2)
   ·obtain⟨s,hs,e⟩:=Jp.mp m;obtain⟨q,t,e2⟩:=List.append_of_mem hs;exact .inl ⟨q,s,t,e2,e⟩
   ·exact .inr fun n=>nd (K0.mpr ⟨m,n⟩)
  rcases cut with⟨q,s,t,er,es⟩ | dup
  ·rw[er]at h hl he;have c:=bR.mp h.ch;cases t with
   | nil =>
    simp at he;subst he;exact absurd hb (by rw[es];exact ap _ h0)
   | cons s2 t =>
    have hl2:(s2::t).length≤n:=by simp at hl ⊢;symm
    refine short ne hA ap n (s2::t) hl2 ⟨⟨s2,rfl,?_⟩,fun x hx=>h.ed x (by simp at hx ⊢;grind),c.2.1.2⟩ ⟨e,?_,hb⟩
    ·rw[←c.2.1.1.jn,es];exact h0
    ·have:(q++s::s2::t).getLast?=(s2::t).getLast?:=by rw[cZ,Kq]
     rw[←this];exact he
  ·obtain⟨p,s,q,s',t,er,es⟩:=jI _ dup;rw[er]at h hl he;have c:=bR.mp h.ch;have c1:=c.2.1;have e1:s::(q++s'::t)=(s::q)++s'::t:=rfl;rw[e1]at c1;have c2:=bR.mp c1;have hds:∃z∈(p++[s]).head?,z.1∈ones:=by
    obtain⟨z,hz,hz1⟩:=h.hd;refine⟨z,?_,hz1⟩;cases p with
    | nil=>simpa using hz
    | cons _ _=>simpa using hz
   cases t with
   | nil =>
    refine short ne hA ap n (p++[s]) (by simp at hl ⊢;symm) ⟨hds,fun x hx=>h.ed x (by simp at hx ⊢;grind),?_⟩ ⟨s,by simp,?_⟩
    ·exact bR.mpr ⟨c.1,trivial,c.2.2⟩
    ·have:e=s':=by
      have:(p++s::(q++[s'])).getLast?=some s':=by rw[cZ,← List.cons_append,cZ];rfl
      rw[this]at he;exact(JT he).symm
     subst this;show s.2.2∈others;rw[show s.2.2=e.2.2 from es];exact hb
   | cons s2 t =>
    have l2:Lnk dn up G A s' s2:=c2.2.1.1;obtain⟨m,q',eq⟩:∃m q',q++[s']=m::q':=by
     cases q with
     | nil=>exact⟨s',[],rfl⟩
     | cons m q=>exact⟨m,q++[s'],rfl⟩
    have cm:Chn (Lnk dn up G A) (s::m::(q'++s2::t)):=by
     have:s::m::(q'++s2::t)=s::(q++s'::s2::t):=by
      have e3:q++s'::s2::t=(q++[s'])++s2::t:=by simp
      rw[e3,eq];rfl
     rw[this];exact c.2.1
    have l1:Lnk dn up G A s m:=cm.1;have inA:s.2.1≠up->s2.2.1≠dn->s.2.2∈A:=fun k1 k2=>by
     by_cases km:m.2.1=dn
     ·by_cases ks:s'.2.1=up
      ·rw[l1.jn];have cq:Chn (Lnk dn up G A) (m::q'):=((bR (p:=m::q') (q:=s2::t)).mp cm.2).1;refine zw ne hA (q:=q') (s:=m) (e:=s') (fun x hx=>h.ed x ?_) cq km (by rw[←eq];simp) ks;rw[←eq]at hx;simp at hx ⊢
       grind
      ·show s.2.2∈A;rw[show s.2.2=s'.2.2 from es];exact l2.mt ks k2
     ·exact l1.mt k1 km
    refine short ne hA ap n (p++s::s2::t) (by simp at hl ⊢;symm) ⟨?_,fun x hx=>h.ed x (by simp at hx ⊢;grind),bR.mpr ⟨c.1,⟨⟨?_,inA,?_⟩,c2.2.1.2⟩,c.2.2⟩⟩ ⟨e,?_,hb⟩
    ·obtain⟨z,hz,hz1⟩:=hds;refine⟨z,?_,hz1⟩;cases p with
     | nil=>simpa using hz
     | cons _ _=>simpa using hz
    ·rw[show s.2.2=s'.2.2 from es];exact l2.jn
    ·rintro(k | k)
     ·exact l1.no (.inl k)
     ·rw[show s.2.2=s'.2.2 from es];exact l2.no (.inr k)
    ·have h1:(p++s::s2::t).getLast?=(s2::t).getLast?:=by rw[cZ,Kq]
     have h2:(p++s::(q++s'::s2::t)).getLast?=(s2::t).getLast?:=by rw[cZ,← List.cons_append,cZ,Kq]
     rw[h1,← h2];exact he
inductive RS (Ed:Stp κ→Prop) (dn up:κ) (G A ones:List Int):Int→Bool→Prop where
 | base {x:Int} (h:x∈ones):RS Ed dn up G A ones x false
 | step {n m:Int} {p:Bool} {k:κ} (h:RS Ed dn up G A ones n p) (e:Ed (n,k,m)) (h1:k=dn->n∉G) (h2:k≠dn->p=true->n∈A) (h3:k≠dn->p=false->n∉G):RS Ed dn up G A ones m (decide (k≠up))
theorem wZ(gn:∀x∈ones,x∉G){x:Int}{p:Bool}(h:RS Ed dn up G A ones x p):(x∈ones/\p=false)∨∃r,Rd Ed dn up G A ones r/\∃e∈r.getLast?,e.2.2=x/\decide (e.2.1≠up)=p:=by
 induction h with
 | base h=>exact .inl ⟨h,rfl⟩
 | step h e h1 h2 h3 ih =>
  rename_i n m p k;refine .inr ?_;rcases ih with⟨ho,rfl⟩ |⟨r,rd,l,hl,rfl,hp⟩
  ·exact⟨[(n,k,m)],⟨⟨_,rfl,ho⟩,fun s hs=>by rw[Jx.mp hs];exact e,trivial⟩,_,rfl,rfl,rfl⟩
  ·refine⟨r++[(l.2.2,k,m)],⟨?_,fun s hs=>?_,bR.mpr ⟨rd.ch,trivial,fun a ha b hb=>?_⟩⟩,(l.2.2,k,m),by simp,rfl,rfl⟩
   ·obtain⟨z,hz,h0⟩:=rd.hd;refine⟨z,?_,h0⟩;cases r with
    | nil=>cases hz
    | cons _ _=>simpa using hz
   ·rcases Ju.mp hs with q | q
    ·exact rd.ed s q
    ·rw[Jx.mp q];exact e
   ·have ea:a=l:=by rw[hl]at ha;exact(JT ha).symm
    have eb:b=(l.2.2,k,m):=by simpa using hb.symm
    subst ea;subst eb;refine⟨rfl,fun k1 k2=>h2 k2 (by rw[←hp];exact J2 k1),?_⟩;rintro(z | z)
    ·by_cases kd:k=dn
     ·exact h1 kd
     ·exact h3 kd (by rw[←hp,z];simp)
    ·exact h1 z
theorem x5(ne:dn≠up)(hA:∀a b,Ed (a,dn,b)->b∈A->a∈A)(ap:∀x∈ones,x∉others)(gn:∀x∈ones,x∉G){x:Int}{p:Bool}(h:RS Ed dn up G A ones x p)(hx:x∈others) :
  ∃r,Rd Ed dn up G A ones r/\(∃e∈r.getLast?,e.2.2∈others)/\(nm r).Nodup:=by
 rcases wZ gn h with⟨ho,_⟩ |⟨r,rd,e,he,rfl,_⟩
 ·exact absurd hx (ap x ho)
 ·exact short ne hA ap r.length r (Jy _) rd ⟨e,he,hx⟩
end
theorem Ck{ts:List P2}(h:Reach (ts.map fun p=>(p.2,p.1)) G m):∃w,w.head?=some m/\Chn (fun a b=>(a,b)∈ts) w/\∃e∈w.getLast?,e∈G:=by
 induction h with
 | base h=>exact⟨[_],rfl,trivial,_,rfl,h⟩
 | step h e ih =>
  obtain⟨w,h1,h2,e1,h3,h4⟩:=ih;obtain⟨p,hp,ep⟩:=Jp.mp e;cases ep;cases w with
  | nil=>cases h3
  | cons a w =>
   have:a=p.2:=by simpa using h1
   subst this;exact⟨p.1::p.2::w,rfl,⟨hp,h2⟩,e1,by rw[Kq];exact h3,h4⟩
theorem nR{ts:List P2}(lt:∀a b,(a,b)∈ts->a<b):∀{w:List Int},Chn (fun a b=>(a,b)∈ts) w->w.Pairwise (·<·)
 | [],_=>.nil
 | [a],_=>KN _ a
 | a::b::w,h=>by
  have ih:=nR lt h.2;have hab:=lt a b h.1;refine Le.mpr ⟨fun x hx=>?_,ih⟩;rcases JD.mp hx with rfl | hx
  ·exact hab
  ·have:=(Le.mp ih).1 x hx;symm
end My
namespace Lw
open L2 U
theorem boot_all:bootBuiltins "all"=some (.builtin "all"):=by decide +kernel
theorem boot_sorted:bootBuiltins "sorted"=some (.builtin "sorted"):=by decide +kernel
theorem boot_set:bootBuiltins "set"=some (.type "set"):=by decide +kernel
theorem gR:bootBuiltins "ValueError"=some (.type "ValueError"):=by decide +kernel
theorem BR{x y:PV}:atI [x,y] 0=some x:=rfl
theorem Ac{x y:PV}:atI [x,y] 1=some y:=rfl
theorem boot_bool:bootBuiltins "bool"=some (.type "bool"):=by decide +kernel
theorem ck{X:Cx}{N2:List Str}{nt:Nat}{js:List Nat}{scope sc:Scope}{cl:List (Str×Addr)}(clos:closureFor scope X.env=pure cl:=by exact rfl)(sub:rb X.env.cells cl:=by repeat (first | exact trivial | refine⟨rfl,?_⟩))(xsc:X.env.scope=sc:=by rfl)(kind:scope.kind=.function:=by rfl)
  (nocell:∀y∈scope.names,y.2≠.cell:=by decide +kernel) (loc:∀y∈scope.names,y.2=.local->scope.names.lookup y.1=some .local:=by decide +kernel) (names:cl.map (·.1)=((scope.names.filter (·.2==.free)).map (·.1)).reverse:=by rfl)
  (frs:∀x∈N2.drop nt,scope.names.lookup x=some .free/\sc.names.lookup x=some .cell:=by decide +kernel) (len:N2.length=nt+js.length:=by rfl) (pl:js.map (fun j=>X.N[j]?)=(N2.drop nt).map some:=by rfl):bZ X N2 nt js scope cl sc:=cok clos sub xsc kind nocell loc names frs len pl
def top(i:Nat):Stmt:=PySem.Challenge.pw_doingbook_k72_formulas_of_doors.main.body.getD i (.Pass ⟨0,0,0,0⟩)
abbrev BA:Stmt:=top 26
local macro_rules | `(tactic| walk_at "q") => `(tactic| exact ⟨rfl, rfl, rfl, by decide +kernel, rfl, by decide +kernel, by decide +kernel⟩)
theorem EJ:aw ["count","pair"] ["count","pair"] (ai BA):=by walk_at "q"
abbrev xc:Stmt:=top 27
theorem Fo:aw ["count","pairs"] ["count","pairs"] (ai xc):=by walk_at "q"
abbrev Ar:Stmt:=top 28
theorem o9:aw ["count","names","ahead","name"] ["count","names"] (ai Ar):=by walk_at "q"
abbrev Bw:Stmt:=top 29
theorem CI:aw ["count"] ["count"] (ai Bw):=by walk_at "q"
abbrev xh:Stmt:=top 30
theorem Du:aw ["names","others"] ["names","others"] (ai xh):=by walk_at "q"
abbrev BU:Stmt:=top 31
theorem EI:aw ["names","others"] ["names","others"] (ai BU):=by walk_at "q"
abbrev rV:Stmt:=inClass (top 32) 0
theorem uB:aw ["self","count","ties","bows","own_ties","own_bows"] ["self","count","ties","bows"] (ai rV):=by walk_at "q"
abbrev AE:Stmt:=inClass (top 32) 2
theorem Fl:aw ["self","name"] ["self","name"] (ai AE):=by walk_at "q"
abbrev A7:Stmt:=inClass (top 32) 3
theorem D9:aw ["self","names"] ["self","names"] (ai A7):=by walk_at "q"
abbrev yX:Stmt:=inClass (top 32) 4
theorem Dx:aw ["self","name"] ["self","name"] (ai yX):=by walk_at "q"
abbrev xp:Stmt:=inClass (top 32) 5
theorem DG:aw ["self","name"] ["self","name"] (ai xp):=by walk_at "q"
abbrev BV:Stmt:=inClass (top 32) 6
theorem ua:aw ["self","names","found","name"] ["self","names"] (ai BV):=by walk_at "q"
abbrev AL:Stmt:=inClass (top 32) 7
theorem uz:aw ["self","names","found","name"] ["self","names"] (ai AL):=by walk_at "q"
abbrev uw:Stmt:=inClass (top 32) 8
theorem uo:aw ["self","name","ahead","behind"] ["self","name"] (ai uw):=by walk_at "q"
abbrev ui:Stmt:=inClass (top 32) 11
theorem uL:aw ["self","names","ties","bows"] ["self","names"] (ai ui):=by walk_at "q"
abbrev x6:Stmt:=inClass (top 32) 13
theorem zx:aw ["self","names","ties"] ["self","names"] (ai x6):=by walk_at "q"
abbrev Ag:Stmt:=top 33
theorem y6:aw ["drawing","sets","names"] ["drawing","sets"] (ai Ag):=by walk_at "q"
abbrev B5:Stmt:=top 34
theorem uf:aw ["sets","named","names"] ["sets"] (ai B5):=by walk_at "q"
abbrev B8:Stmt:=top 36
theorem EH:aw ["drawing","ones","others","given"] ["drawing","ones","others","given"] (ai B8):=by walk_at "q"
abbrev zX:Stmt:=top 37
theorem CN:aw ["step"] ["step"] (ai zX):=by walk_at "q"
abbrev Bh:Stmt:=top 38
theorem Fi:aw ["step"] ["step"] (ai Bh):=by walk_at "q"
abbrev Bq:Stmt:=top 39
theorem CQ:aw ["step","behind"] ["step","behind"] (ai Bq):=by walk_at "q"
abbrev qY:Stmt:=top 40
theorem qw:aw ["drawing","name","down","up","bow"] ["drawing","name"] (ai qY):=by walk_at "q"
abbrev wQ:Stmt:=top 41
theorem Dk:aw ["road"] ["road"] (ai wQ):=by walk_at "q"
abbrev yt:Stmt:=top 42
theorem DS:aw ["road"] ["road"] (ai yt):=by walk_at "q"
abbrev Be:Stmt:=top 43
theorem Fb:aw ["step","behind","given","above"] ["step","behind","given","above"] (ai Be):=by walk_at "q"
abbrev qC:Stmt:=top 44
theorem o7:aw ["drawing","standing","given","above","name","pointed","asked"] ["drawing","standing","given","above"] (ai qC):=by walk_at "q"
abbrev ya:Stmt:=top 45
theorem mL:aw ["drawing","ones","given","above","waiting","told","standing"] ["drawing","ones","given"] (ai ya):=by walk_at "q"
abbrev wV:Stmt:=top 46
theorem tY:aw ["drawing","names","told","name"] ["drawing","names"] (ai wV):=by walk_at "q"
abbrev AX:Stmt:=top 47
theorem jf:aw ["drawing","roads","given","above","told","road","names","step"] ["drawing","roads","given"] (ai AX):=by walk_at "q"
abbrev sj:Stmt:=top 48
theorem mw:aw ["drawing","ones","others","given","roads","found"] ["drawing","ones","others","given"] (ai sj):=by walk_at "q"
abbrev rL:Stmt:=top 49
theorem ip:aw ["drawing","meeting","given","ways","found","longer","way"] ["drawing","meeting","given"] (ai rL):=by walk_at "q"
abbrev wO:Stmt:=top 50
theorem Dh:aw ["drawing","road","given"] ["drawing","road","given"] (ai wO):=by walk_at "q"
abbrev wK:Stmt:=top 51
theorem tm:aw ["drawing","ones","others","given","standings","road"] ["drawing","ones","others","given"] (ai wK):=by walk_at "q"
abbrev Bj:Stmt:=top 53
theorem El:aw ["names","formula"] ["names","formula"] (ai Bj):=by walk_at "q"
abbrev yo:Stmt:=top 55
theorem zl:aw ["drawing","one","other","door","below"] ["drawing","one","other","door"] (ai yo):=by walk_at "q"
abbrev yR:Stmt:=top 56
theorem uq:aw ["drawing","one","other","door","left","below"] ["drawing","one","other","door"] (ai yR):=by walk_at "q"
abbrev Cd:Stmt:=top 57
theorem DE:aw ["drawing","one","other","door"] ["drawing","one","other","door"] (ai Cd):=by walk_at "q"
abbrev Bt:Stmt:=top 58
theorem Ft:aw ["names","given"] ["names","given"] (ai Bt):=by walk_at "q"
abbrev A6:Stmt:=top 59
theorem CL:aw ["drawing","one","other","door"] ["drawing","one","other","door"] (ai A6):=by walk_at "q"
abbrev Cb:Stmt:=top 60
theorem zj:aw ["drawing","one","other","door","behind"] ["drawing","one","other","door"] (ai Cb):=by walk_at "q"
abbrev BK:Stmt:=top 62
theorem Fh:aw ["_law_script","_law_k"] ["_law_script","_law_k"] (ai BK):=by walk_at "q"
abbrev AS:Stmt:=top 63
theorem vV:aw ["_law_cell","_law_place","_law_number"] ["_law_cell","_law_place"] (ai AS):=by walk_at "q"
abbrev A8:Stmt:=top 64
theorem d6:aw ["_law_script","_law_at","_law_many","_law_ties","_law_bows","_law_cell","_law_number","_law_place","_law_one","_law_two","_law_kind"] ["_law_script","_law_at","_law_many"] (ai A8):=by walk_at "q"
abbrev AK:Stmt:=top 65
theorem oM:aw ["_law_drawn","_law_names","_law_found","_law_one","_law_two"] ["_law_drawn","_law_names"] (ai AK):=by walk_at "q"
abbrev Aj:Stmt:=top 66
theorem qe:aw ["_law_drawn","_law_names","_law_found","_law_one","_law_two"] ["_law_drawn","_law_names"] (ai Aj):=by walk_at "q"
abbrev uG:Stmt:=top 67
theorem sE:aw ["_law_drawn","_law_into","_law_out","_law_ties","_law_bows"] ["_law_drawn","_law_into","_law_out"] (ai uG):=by walk_at "q"
abbrev oy:Stmt:=top 68
theorem gy:aw ["_law_drawn","_law_standing","_law_given","_law_above_here","_law_name","_law_pointed","_law_found"] ["_law_drawn","_law_standing","_law_given","_law_above_here"] (ai oy):=by walk_at "q"
abbrev xC:Stmt:=top 69
theorem jc:aw ["_law_drawn","_law_ones","_law_given","_law_above_here","_law_found","_law_at","_law_later"] ["_law_drawn","_law_ones","_law_given"] (ai xC):=by walk_at "q"
abbrev wD:Stmt:=top 70
theorem Df:aw ["_law_drawn","_law_ones","_law_others","_law_given"] ["_law_drawn","_law_ones","_law_others","_law_given"] (ai wD):=by walk_at "q"
abbrev tH:Stmt:=top 71
theorem iZ:aw ["_law_cell","_law_many","_law_kinds_here","_law_sets","_law_number","_law_name","_law_kind"] ["_law_cell","_law_many","_law_kinds_here"] (ai tH):=by walk_at "q"
abbrev AR:Stmt:=top 72
theorem lz:aw ["_law_sets","_law_kind","_law_place","_law_k","_law_found"] ["_law_sets","_law_kind"] (ai AR):=by walk_at "q"
abbrev xr:Stmt:=top 73
theorem zv:aw ["_law_drawn","_law_one","_law_other","_law_door","_law_below_here"] ["_law_drawn","_law_one","_law_other","_law_door"] (ai xr):=by walk_at "q"
abbrev xE:Stmt:=top 74
theorem C1:aw ["_law_drawn","_law_one","_law_other","_law_door"] ["_law_drawn","_law_one","_law_other","_law_door"] (ai xE):=by walk_at "q"
abbrev xi:Stmt:=top 76
theorem zf:aw ["_law_e","_law_kinds_here"] ["_law_e"] (ai xi):=by walk_at "q"
abbrev zZ:Stmt:=top 77
theorem zq:aw ["_law_found","_law_due_here","_law_k"] ["_law_found","_law_due_here"] (ai zZ):=by walk_at "q"
abbrev A4:Stmt:=top 78
theorem jv:aw ["_law_kind","_law_drawing","_law_sets","_law_found","_law_caught","_law_e"] ["_law_kind","_law_drawing","_law_sets"] (ai A4):=by walk_at "q"
abbrev Au:Stmt:=top 79
theorem zI:aw ["_law_names","_law_many","_law_k"] ["_law_names","_law_many"] (ai Au):=by walk_at "q"
abbrev BX:Stmt:=top 80
theorem iz:aw ["_law_kind","_law_one","_law_other","_law_door","_law_both","_law_whole","_law_over_both","_law_found","_law_inner"] ["_law_kind","_law_one","_law_other","_law_door"] (ai BX):=by walk_at "q"
abbrev yF:Stmt:=top 81
theorem kP:aw ["_law_kind","_law_drawn","_law_sets","_law_one","_law_other","_law_door","_law_names"] ["_law_kind","_law_drawn","_law_sets"] (ai yF):=by walk_at "q"
abbrev AJ:Stmt:=top 82
theorem fG:aw ["_law_sets","_law_cell","_law_many","_law_kind","_law_at","_law_names"] ["_law_sets","_law_cell","_law_many"] (ai AJ):=by walk_at "q"
abbrev BJ:Stmt:=top 83
theorem gF:aw ["_law_script","_law_many","_law_drawn","_law_drawing","_law_k","_law_sets","_law_kind"] ["_law_script"] (ai BJ):=by walk_at "q"
set_option genInjectivity false
structure Ad where
 a_yq:Addr
 d_yq:FuncData
 a_zZ:Addr
 d_zZ:FuncData
 a_yt:Addr
 d_yt:FuncData
 a_zK:Addr
 d_zK:FuncData
 a_yp:Addr
 d_yp:FuncData
 a_yl:Addr
 d_yl:FuncData
 a_zD:Addr
 d_zD:FuncData
 a_zc:Addr
 d_zc:FuncData
 a_ze:Addr
 d_ze:FuncData
 a_zh:Addr
 d_zh:FuncData
 a_zb:Addr
 d_zb:FuncData
 a_zd:Addr
 d_zd:FuncData
 a_za:Addr
 d_za:FuncData
 a_zt:Addr
 d_zt:FuncData
 a_zx:Addr
 d_zx:FuncData
 a_zg:Addr
 d_zg:FuncData
 a_ya:Addr
 d_ya:FuncData
 a_zQ:Addr
 d_zQ:FuncData
 a_zA:Addr
 d_zA:FuncData
 a_zB:Addr
 d_zB:FuncData
 a_zj:Addr
 d_zj:FuncData
 a_zS:Addr
 d_zS:FuncData
 a_zN:Addr
 d_zN:FuncData
 a_yj:Addr
 d_yj:FuncData
 a_yi:Addr
 d_yi:FuncData
 a_zV:Addr
 d_zV:FuncData
 a_zF:Addr
 d_zF:FuncData
 a_zO:Addr
 d_zO:FuncData
 a_zG:Addr
 d_zG:FuncData
 a_zy:Addr
 d_zy:FuncData
 a_zn:Addr
 d_zn:FuncData
 a_zu:Addr
 d_zu:FuncData
 a_zU:Addr
 d_zU:FuncData
 a_ys:Addr
 d_ys:FuncData
 a_zI:Addr
 d_zI:FuncData
 a_zE:Addr
 d_zE:FuncData
 a_zf:Addr
 d_zf:FuncData
 a_zm:Addr
 d_zm:FuncData
 a_zJ:Addr
 d_zJ:FuncData
 a_zv:Addr
 d_zv:FuncData
 a_zr:Addr
 d_zr:FuncData
 a_zL:Addr
 d_zL:FuncData
 a_zX:Addr
 d_zX:FuncData
 a_zC:Addr
 d_zC:FuncData
 a_yb:Addr
 d_yb:FuncData
 a_yd:Addr
 d_yd:FuncData
 a_yr:Addr
 d_yr:FuncData
 a_zw:Addr
 d_zw:FuncData
 a_zM:Addr
 d_zM:FuncData
 a_yg:Addr
 d_yg:FuncData
 a_ye:Addr
 d_ye:FuncData
 a_zz:Addr
 d_zz:FuncData
 a_yf:Addr
 d_yf:FuncData
 a_yc:Addr
 d_yc:FuncData
 a_zY:Addr
 d_zY:FuncData
 a_yk:Addr
 d_yk:FuncData
 a_zT:Addr
 d_zT:FuncData
 a_zR:Addr
 d_zR:FuncData
 a_ym:Addr
 d_ym:FuncData
 a_yo:Addr
 d_yo:FuncData
 a_yh:Addr
 d_yh:FuncData
 a_yw:Addr
 d_yw:FuncData
 a_A:Addr
 a_B:Addr
 a_C:Addr
 a_D:Addr
 a_E:Addr
 a_F:Addr
 a_G:Addr
 a_H:Addr
 a_I:Addr
 a_J:Addr
 a_K:Addr
 a_L:Addr
 a_M:Addr
 a_N:Addr
 a_O:Addr
 a_P:Addr
 a_Q:Addr
 a_R:Addr
 a_S:Addr
 a_T:Addr
 a_U:Addr
 a_V:Addr
def mE(K:PySem.W.Frag)(C:Value):List Value->List Bool->Prop
 | [],[]=>True
 | D::l,b::bs=>PySem.W.kitOne K C D=some b/\mE K C l bs
 | _,_=>False
def kl(t:Ad):List Value:=[.ref t.a_J,.ref t.a_G,.ref t.a_T,.ref t.a_F,.ref t.a_K,.ref t.a_P,.ref t.a_V,.ref t.a_U,.ref t.a_Q,.ref t.a_N,.ref t.a_O,.ref t.a_A,.ref t.a_L,.ref t.a_H,.ref t.a_S,.ref t.a_E,.ref t.a_M,.ref t.a_I,.ref t.a_B,.ref t.a_R]
abbrev kX1(K:PySem.W.Frag)(a b:Addr):=PySem.W.kitOne K (.ref a) (.ref b)=some false
abbrev nX1(K:PySem.W.Frag)(x:Str)(a:Addr):=PySem.W.nsIn K mainGlobals x=some (some (.ref a))
abbrev nX2(K:PySem.W.Frag)(x:Str):=PySem.W.nsIn K mainGlobals x=some none
abbrev fX1(K:PySem.W.Frag)(c:Addr)(x:Str)(a:Addr):=PySem.W.findIn K (.ref c) x=some (some (.ref a))
structure Tx (K:PySem.W.Frag) (mg:Str→Option Value) (t:Ad):Prop where
 F_yq:Fun K "is_pair" "is_pair" BA t.a_yq t.d_yq
 B_yq:Binds K t.d_yq ["count","pair"] []
 g_yq:mg "is_pair"=some (.ref t.a_yq)
 F_zZ:Fun K "are_pairs" "are_pairs" xc t.a_zZ t.d_zZ
 B_zZ:Binds K t.d_zZ ["count","pairs"] []
 g_zZ:mg "are_pairs"=some (.ref t.a_zZ)
 F_yt:Fun K "is_set" "is_set" Ar t.a_yt t.d_yt
 B_yt:Binds K t.d_yt ["count","names"] []
 g_yt:mg "is_set"=some (.ref t.a_yt)
 F_zK:Fun K "names_up_to" "names_up_to" Bw t.a_zK t.d_zK
 B_zK:Binds K t.d_zK ["count"] []
 g_zK:mg "names_up_to"=some (.ref t.a_zK)
 F_yp:Fun K "without" "without" xh t.a_yp t.d_yp
 B_yp:Binds K t.d_yp ["names","others"] []
 g_yp:mg "without"=some (.ref t.a_yp)
 F_yl:Fun K "together" "together" BU t.a_yl t.d_yl
 B_yl:Binds K t.d_yl ["names","others"] []
 g_yl:mg "together"=some (.ref t.a_yl)
 F_zD:Fun K "__init__" "Drawing.__init__" rV t.a_zD t.d_zD
 B_zD:Binds K t.d_zD ["self","count","ties","bows"] []
 F_zc:Fun K "need_name" "Drawing.need_name" AE t.a_zc t.d_zc
 B_zc:Binds K t.d_zc ["self","name"] []
 m_zc:Meth K t.a_D "need_name" t.a_zc
 F_ze:Fun K "need_set" "Drawing.need_set" A7 t.a_ze t.d_ze
 B_ze:Binds K t.d_ze ["self","names"] []
 m_ze:Meth K t.a_D "need_set" t.a_ze
 F_zh:Fun K "sources" "Drawing.sources" yX t.a_zh t.d_zh
 B_zh:Binds K t.d_zh ["self","name"] []
 m_zh:Meth K t.a_D "sources" t.a_zh
 F_zb:Fun K "followers" "Drawing.followers" xp t.a_zb t.d_zb
 B_zb:Binds K t.d_zb ["self","name"] []
 m_zb:Meth K t.a_D "followers" t.a_zb
 F_zd:Fun K "ancestors" "Drawing.ancestors" BV t.a_zd t.d_zd
 B_zd:Binds K t.d_zd ["self","names"] []
 m_zd:Meth K t.a_D "ancestors" t.a_zd
 F_za:Fun K "descendants" "Drawing.descendants" AL t.a_za t.d_za
 B_za:Binds K t.d_za ["self","names"] []
 m_za:Meth K t.a_D "descendants" t.a_za
 F_zt:Fun K "bowed" "Drawing.bowed" uw t.a_zt t.d_zt
 B_zt:Binds K t.d_zt ["self","name"] []
 m_zt:Meth K t.a_D "bowed" t.a_zt
 F_zx:Fun K "part" "Drawing.part" ui t.a_zx t.d_zx
 B_zx:Binds K t.d_zx ["self","names"] []
 m_zx:Meth K t.a_D "part" t.a_zx
 F_zg:Fun K "cut_out" "Drawing.cut_out" x6 t.a_zg t.d_zg
 B_zg:Binds K t.d_zg ["self","names"] []
 m_zg:Meth K t.a_D "cut_out" t.a_zg
 F_ya:Fun K "need_sets" "need_sets" Ag t.a_ya t.d_ya
 B_ya:Binds K t.d_ya ["drawing","sets"] []
 g_ya:mg "need_sets"=some (.ref t.a_ya)
 F_zQ:Fun K "need_apart" "need_apart" B5 t.a_zQ t.d_zQ
 B_zQ:Binds K t.d_zQ ["sets"] []
 g_zQ:mg "need_apart"=some (.ref t.a_zQ)
 F_zA:Fun K "need_barring" "need_barring" B8 t.a_zA t.d_zA
 B_zA:Binds K t.d_zA ["drawing","ones","others","given"] []
 g_zA:mg "need_barring"=some (.ref t.a_zA)
 F_zB:Fun K "points_at_to" "points_at_to" zX t.a_zB t.d_zB
 B_zB:Binds K t.d_zB ["step"] []
 g_zB:mg "points_at_to"=some (.ref t.a_zB)
 F_zj:Fun K "points_at_from" "points_at_from" Bh t.a_zj t.d_zj
 B_zj:Binds K t.d_zj ["step"] []
 g_zj:mg "points_at_from"=some (.ref t.a_zj)
 F_zS:Fun K "is_meeting" "is_meeting" Bq t.a_zS t.d_zS
 B_zS:Binds K t.d_zS ["step","behind"] []
 g_zS:mg "is_meeting"=some (.ref t.a_zS)
 F_zN:Fun K "steps_from" "steps_from" qY t.a_zN t.d_zN
 B_zN:Binds K t.d_zN ["drawing","name"] []
 g_zN:mg "steps_from"=some (.ref t.a_zN)
 F_yj:Fun K "names_on" "names_on" wQ t.a_yj t.d_yj
 B_yj:Binds K t.d_yj ["road"] []
 g_yj:mg "names_on"=some (.ref t.a_yj)
 F_yi:Fun K "meetings" "meetings" yt t.a_yi t.d_yi
 B_yi:Binds K t.d_yi ["road"] []
 g_yi:mg "meetings"=some (.ref t.a_yi)
 F_zV:Fun K "is_passed" "is_passed" Be t.a_zV t.d_zV
 B_zV:Binds K t.d_zV ["step","behind","given","above"] []
 g_zV:mg "is_passed"=some (.ref t.a_zV)
 F_zF:Fun K "asked_beside" "asked_beside" qC t.a_zF t.d_zF
 B_zF:Binds K t.d_zF ["drawing","standing","given","above"] []
 g_zF:mg "asked_beside"=some (.ref t.a_zF)
 F_zO:Fun K "least_shut" "least_shut" ya t.a_zO t.d_zO
 B_zO:Binds K t.d_zO ["drawing","ones","given"] []
 g_zO:mg "least_shut"=some (.ref t.a_zO)
 F_zG:Fun K "first_roads" "first_roads" wV t.a_zG t.d_zG
 B_zG:Binds K t.d_zG ["drawing","names"] []
 g_zG:mg "first_roads"=some (.ref t.a_zG)
 F_zy:Fun K "longer_roads" "longer_roads" AX t.a_zy t.d_zy
 B_zy:Binds K t.d_zy ["drawing","roads","given"] []
 g_zy:mg "longer_roads"=some (.ref t.a_zy)
 F_zn:Fun K "shortest_road" "shortest_road" sj t.a_zn t.d_zn
 B_zn:Binds K t.d_zn ["drawing","ones","others","given"] []
 g_zn:mg "shortest_road"=some (.ref t.a_zn)
 F_zu:Fun K "shortest_way" "shortest_way" rL t.a_zu t.d_zu
 B_zu:Binds K t.d_zu ["drawing","meeting","given"] []
 g_zu:mg "shortest_way"=some (.ref t.a_zu)
 F_zU:Fun K "ways_down" "ways_down" wO t.a_zU t.d_zU
 B_zU:Binds K t.d_zU ["drawing","road","given"] []
 g_zU:mg "ways_down"=some (.ref t.a_zU)
 F_ys:Fun K "barred" "barred" wK t.a_ys t.d_ys
 B_ys:Binds K t.d_ys ["drawing","ones","others","given"] []
 g_ys:mg "barred"=some (.ref t.a_ys)
 F_zI:Fun K "sum_formula" "sum_formula" Bj t.a_zI t.d_zI
 B_zI:Binds K t.d_zI ["names","formula"] []
 g_zI:mg "sum_formula"=some (.ref t.a_zI)
 F_zE:Fun K "is_back_door" "is_back_door" yo t.a_zE t.d_zE
 B_zE:Binds K t.d_zE ["drawing","one","other","door"] []
 g_zE:mg "is_back_door"=some (.ref t.a_zE)
 F_zf:Fun K "stops_roads_down" "stops_roads_down" yR t.a_zf t.d_zf
 B_zf:Binds K t.d_zf ["drawing","one","other","door"] []
 g_zf:mg "stops_roads_down"=some (.ref t.a_zf)
 F_zm:Fun K "is_front_door" "is_front_door" Cd t.a_zm t.d_zm
 B_zm:Binds K t.d_zm ["drawing","one","other","door"] []
 g_zm:mg "is_front_door"=some (.ref t.a_zm)
 F_zJ:Fun K "share_given" "share_given" Bt t.a_zJ t.d_zJ
 B_zJ:Binds K t.d_zJ ["names","given"] []
 g_zJ:mg "share_given"=some (.ref t.a_zJ)
 F_zv:Fun K "back_formula" "back_formula" A6 t.a_zv t.d_zv
 B_zv:Binds K t.d_zv ["drawing","one","other","door"] []
 g_zv:mg "back_formula"=some (.ref t.a_zv)
 F_zr:Fun K "front_formula" "front_formula" Cb t.a_zr t.d_zr
 B_zr:Binds K t.d_zr ["drawing","one","other","door"] []
 g_zr:mg "front_formula"=some (.ref t.a_zr)
 F_zL:Fun K "_law_cell_at" "_law_cell_at" BK t.a_zL t.d_zL
 B_zL:Binds K t.d_zL ["_law_script","_law_k"] []
 g_zL:mg "_law_cell_at"=some (.ref t.a_zL)
 F_zX:Fun K "_law_mixed" "_law_mixed" AS t.a_zX t.d_zX
 B_zX:Binds K t.d_zX ["_law_cell","_law_place"] []
 g_zX:mg "_law_mixed"=some (.ref t.a_zX)
 F_zC:Fun K "_law_pairs_of" "_law_pairs_of" A8 t.a_zC t.d_zC
 B_zC:Binds K t.d_zC ["_law_script","_law_at","_law_many"] []
 g_zC:mg "_law_pairs_of"=some (.ref t.a_zC)
 F_yb:Fun K "_law_above" "_law_above" AK t.a_yb t.d_yb
 B_yb:Binds K t.d_yb ["_law_drawn","_law_names"] []
 g_yb:mg "_law_above"=some (.ref t.a_yb)
 F_yd:Fun K "_law_below" "_law_below" Aj t.a_yd t.d_yd
 B_yd:Binds K t.d_yd ["_law_drawn","_law_names"] []
 g_yd:mg "_law_below"=some (.ref t.a_yd)
 F_yr:Fun K "_law_cut" "_law_cut" uG t.a_yr t.d_yr
 B_yr:Binds K t.d_yr ["_law_drawn","_law_into","_law_out"] []
 g_yr:mg "_law_cut"=some (.ref t.a_yr)
 F_zw:Fun K "_law_asked_by" "_law_asked_by" oy t.a_zw t.d_zw
 B_zw:Binds K t.d_zw ["_law_drawn","_law_standing","_law_given","_law_above_here"] []
 g_zw:mg "_law_asked_by"=some (.ref t.a_zw)
 F_zM:Fun K "_law_reached" "_law_reached" xC t.a_zM t.d_zM
 B_zM:Binds K t.d_zM ["_law_drawn","_law_ones","_law_given"] []
 g_zM:mg "_law_reached"=some (.ref t.a_zM)
 F_yg:Fun K "_law_bars" "_law_bars" wD t.a_yg t.d_yg
 B_yg:Binds K t.d_yg ["_law_drawn","_law_ones","_law_others","_law_given"] []
 g_yg:mg "_law_bars"=some (.ref t.a_yg)
 F_ye:Fun K "_law_roles" "_law_roles" tH t.a_ye t.d_ye
 B_ye:Binds K t.d_ye ["_law_cell","_law_many","_law_kinds_here"] []
 g_ye:mg "_law_roles"=some (.ref t.a_ye)
 F_zz:Fun K "_law_moved_to" "_law_moved_to" AR t.a_zz t.d_zz
 B_zz:Binds K t.d_zz ["_law_sets","_law_kind"] []
 g_zz:mg "_law_moved_to"=some (.ref t.a_zz)
 F_yf:Fun K "_law_back" "_law_back" xr t.a_yf t.d_yf
 B_yf:Binds K t.d_yf ["_law_drawn","_law_one","_law_other","_law_door"] []
 g_yf:mg "_law_back"=some (.ref t.a_yf)
 F_yc:Fun K "_law_front" "_law_front" xE t.a_yc t.d_yc
 B_yc:Binds K t.d_yc ["_law_drawn","_law_one","_law_other","_law_door"] []
 g_yc:mg "_law_front"=some (.ref t.a_yc)
 F_zY:Fun K "_law_kinds" "_law_kinds" xi t.a_zY t.d_zY
 B_zY:Binds K t.d_zY ["_law_e"] []
 g_zY:mg "_law_kinds"=some (.ref t.a_zY)
 F_yk:Fun K "_law_same" "_law_same" zZ t.a_yk t.d_yk
 B_yk:Binds K t.d_yk ["_law_found","_law_due_here"] []
 g_yk:mg "_law_same"=some (.ref t.a_yk)
 F_zT:Fun K "_law_asked" "_law_asked" A4 t.a_zT t.d_zT
 B_zT:Binds K t.d_zT ["_law_kind","_law_drawing","_law_sets"] []
 g_zT:mg "_law_asked"=some (.ref t.a_zT)
 F_zR:Fun K "_law_is_set" "_law_is_set" Au t.a_zR t.d_zR
 B_zR:Binds K t.d_zR ["_law_names","_law_many"] []
 g_zR:mg "_law_is_set"=some (.ref t.a_zR)
 F_ym:Fun K "_law_made" "_law_made" BX t.a_ym t.d_ym
 B_ym:Binds K t.d_ym ["_law_kind","_law_one","_law_other","_law_door"] []
 g_ym:mg "_law_made"=some (.ref t.a_ym)
 F_yo:Fun K "_law_due" "_law_due" yF t.a_yo t.d_yo
 B_yo:Binds K t.d_yo ["_law_kind","_law_drawn","_law_sets"] []
 g_yo:mg "_law_due"=some (.ref t.a_yo)
 F_yh:Fun K "_law_bent" "_law_bent" AJ t.a_yh t.d_yh
 B_yh:Binds K t.d_yh ["_law_sets","_law_cell","_law_many"] []
 g_yh:mg "_law_bent"=some (.ref t.a_yh)
 F_yw:Fun K "law" "law" BJ t.a_yw t.d_yw
 B_yw:Binds K t.d_yw ["_law_script"] []
 g_yw:mg "law"=some (.ref t.a_yw)
 g_A:mg "BadPaper"=some (.ref t.a_A)
 g_B:mg "BadStep"=some (.ref t.a_B)
 g_C:mg "DoingError"=some (.ref t.a_C)
 g_D:mg "Drawing"=some (.ref t.a_D)
 cl_D:Cls K t.a_D
 mk_D:Mk K t.a_D t.a_zD
 g_E:mg "NoAnswer"=some (.ref t.a_E)
 g_F:mg "NoBow"=some (.ref t.a_F)
 g_G:mg "NoCount"=some (.ref t.a_G)
 g_H:mg "NoDoor"=some (.ref t.a_H)
 g_I:mg "NoFormula"=some (.ref t.a_I)
 g_J:mg "NoFraction"=some (.ref t.a_J)
 g_K:mg "NoName"=some (.ref t.a_K)
 g_L:mg "NoNest"=some (.ref t.a_L)
 g_M:mg "NoQuestion"=some (.ref t.a_M)
 g_N:mg "NoRoad"=some (.ref t.a_N)
 g_O:mg "NoRule"=some (.ref t.a_O)
 g_P:mg "NoSets"=some (.ref t.a_P)
 g_Q:mg "NoShare"=some (.ref t.a_Q)
 g_R:mg "NoText"=some (.ref t.a_R)
 g_S:mg "NoThinning"=some (.ref t.a_S)
 g_T:mg "NoTie"=some (.ref t.a_T)
 g_U:mg "NoValue"=some (.ref t.a_U)
 g_V:mg "NoWorld"=some (.ref t.a_V)
 x_C:dW K t.a_C
 x_H:dW K t.a_H
 x_K:dW K t.a_K
 x_P:dW K t.a_P
 s_K:PySem.W.mroIn K t.a_K (.ref t.a_C)=some true
 kK_:PySem.W.kitOne K (.ref t.a_K) (.type "ValueError")=some true
 kk_K:mE K (.ref t.a_K) (kl t) [false,false,false,false,true,false,false,false,false,false,false,false,false,false,false,false,false,false,false,false]
 s_P:PySem.W.mroIn K t.a_P (.ref t.a_C)=some true
 kP_:PySem.W.kitOne K (.ref t.a_P) (.type "ValueError")=some true
 kk_P:mE K (.ref t.a_P) (kl t) [false,false,false,false,false,true,false,false,false,false,false,false,false,false,false,false,false,false,false,false]
 s_H:PySem.W.mroIn K t.a_H (.ref t.a_C)=some true
 kH_:PySem.W.kitOne K (.ref t.a_H) (.type "ValueError")=some true
 kk_H:mE K (.ref t.a_H) (kl t) [false,false,false,false,false,false,false,false,false,false,false,false,false,true,false,false,false,false,false,false]
 b_ValueError:mg "ValueError"=none
 b_all:mg "all"=none
 b_any:mg "any"=none
 b_bool:mg "bool"=none
 b_int:mg "int"=none
 b_isinstance:mg "isinstance"=none
 b_len:mg "len"=none
 b_list:mg "list"=none
 b_range:mg "range"=none
 b_reversed:mg "reversed"=none
 b_set:mg "set"=none
 b_sorted:mg "sorted"=none
 b_str:mg "str"=none
 b_tuple:mg "tuple"=none
 b_zip:mg "zip"=none
 c_MOST_BOWS:∃u,mg "MOST_BOWS"=some u/\RelV (.int 6) u
 c_MOST_NAMES:∃u,mg "MOST_NAMES"=some u/\RelV (.int 6) u
 nfD_bows:c9 K t.a_D "bows"
 nfD_count:c9 K t.a_D "count"
 nfD_ties:c9 K t.a_D "ties"
section
variable {P:Program}{w:World}{K:PySem.W.Frag}{mg:Str->Option Value}{base:Heap}{t:Ad}
open DM (P2 Good)
def DF(c:Int)(ts bs:List P2):List (Str×PV):=[("count",.int c),("ties",.tup (ts.map prV)),("bows",.tup (bs.map prV))]
def Srt(l:List P2):Prop:=l.Pairwise (fun x y=>ST.pk x<ST.pk y)
def Row(H:PHp)(y:PV)(p:P2):Prop:=y=prV p∨∃r,y=.ref r/\H r=some (.lst [.int p.1,.int p.2])
abbrev Rows(H:PHp):List PV->List P2->Prop:=Paired (Row H)
inductive Kn | R | I | T | F | V
def Sg:List Kn->Type
 | []=>Prop
 | .R::ks=>Addr->Sg ks
 | .I::ks=>Int->Sg ks
 | .T::ks=>List PV->Sg ks
 | .F::ks=>List PV->Sg ks
 | .V::ks=>PV->Sg ks
def ap:(ks:List Kn)->Sg ks->List PV->Prop
 | [],p,[]=>p
 | .R::ks,f,.ref x::r=>ap ks (f x) r
 | .I::ks,f,.int x::r=>ap ks (f x) r
 | .T::ks,f,.tup x::r=>ap ks (f x) r
 | .F::ks,f,.fls x::r=>ap ks (f x) r
 | .V::ks,f,x::r=>ap ks (f x) r
 | _,_,_=>False
def Ei:(ks:List Kn)->Sg ks->List PV->Prop
 | [],p,vs=>vs=[]/\p
 | .R::ks,f,vs=>∃x r,vs=.ref x::r/\Ei ks (f x) r
 | .I::ks,f,vs=>∃x r,vs=.int x::r/\Ei ks (f x) r
 | .T::ks,f,vs=>∃x r,vs=.tup x::r/\Ei ks (f x) r
 | .F::ks,f,vs=>∃x r,vs=.fls x::r/\Ei ks (f x) r
 | .V::ks,f,vs=>∃x r,vs=x::r/\Ei ks (f x) r
theorem aY(h:ap ks f vs):Ei ks f vs:=by
 induction ks generalizing vs with
 | nil =>
  cases vs with
  | nil=>exact⟨rfl,h⟩
  | cons v r=>exact h.elim
 | cons k ks ih =>
  cases vs with
  | nil=>cases k<;>exact h.elim
  | cons v r =>
   cases k<;>first | exact⟨_,_,rfl,ih h⟩ |(cases v<;>first | exact⟨_,_,rfl,ih h⟩ | exact h.elim)
theorem a8(h:ap ks f vs):vs.length=ks.length:=by
 induction ks generalizing vs with
 | nil =>
  cases vs with
  | nil=>rfl
  | cons v r=>exact h.elim
 | cons k ks ih =>
  cases vs with
  | nil=>cases k<;>exact h.elim
  | cons v r =>
   cases k<;>first | exact congrArg (·+1) (ih h) |(cases v<;>first | exact congrArg (·+1) (ih h) | exact h.elim)
theorem IM{p:Prop}:ap [] p []=p:=rfl
theorem Gk:ap (.R::ks) f (.ref x::r)=ap ks (f x) r:=rfl
theorem FA:ap (.I::ks) f (.int x::r)=ap ks (f x) r:=rfl
theorem Ga:ap (.T::ks) f (.tup x::r)=ap ks (f x) r:=rfl
theorem Jc:ap (.F::ks) f (.fls x::r)=ap ks (f x) r:=rfl
theorem HF:ap (.V::ks) f (x::r)=ap ks (f x) r:=rfl
def jD:Sp':=fun vs H Q _=>ap [.I,.T] (fun c l=>∃u v,l=[.int u,.int v]/\(0≤u/\u<v/\v<c)/\Q (.bl true) H) vs
theorem sv:jD [.int c,.tup [.int u,.int v]] H Q E=((0≤u/\u<v/\v<c)/\Q (.bl true) H):=by
 refine propext ⟨fun h=>?_,fun h=>?_⟩
 ·obtain⟨_,_,e,h⟩:=h;cases e;exact h
 ·exact⟨_,_,rfl,h⟩
def gz:Sp':=fun vs H Q _=>ap [.I,.R] (fun c a=>∃ps,H a=some (.lst (ps.map prV))/\Good c ps/\c≤6/\Q (.bl true) H) vs
theorem nF:gz [.int c,.ref a] H Q E=∃ps,H a=some (.lst (ps.map prV))/\Good c ps/\c≤6/\Q (.bl true) H:=rfl
def qj(t:Ad):Sp':=fun vs H Q _=>ap [.R,.I,.R,.R] (fun x c a b=>∃dx ys zs ps qs,H x=some (.ins t.a_D dx [])/\H a=some (.lst ys)/\H b=some (.lst zs)/\Rows H ys ps/\Rows H zs qs/\Good c ps/\Good c qs/\(1≤c/\c≤6/\qs.length≤6) /\
  ∀ts bs,ts.Perm ps->Srt ts->bs.Perm qs->Srt bs->Q .non (put H x (.ins t.a_D dx (DF c ts bs)))) vs
theorem Af:qj t [.ref x,.int c,.ref a,.ref b] H Q E=∃dx ys zs ps qs,H x=some (.ins t.a_D dx [])/\H a=some (.lst ys)/\H b=some (.lst zs)/\Rows H ys ps/\Rows H zs qs/\Good c ps/\Good c qs/\(1≤c/\c≤6/\qs.length≤6) /\
  ∀ts bs,ts.Perm ps->Srt ts->bs.Perm qs->Srt bs->Q .non (put H x (.ins t.a_D dx (DF c ts bs))):=rfl
def gG(t:Ad):Sp':=fun vs H Q _=>ap [.R,.I] (fun x n=>∃dx c ts bs,H x=some (.ins t.a_D dx (DF c ts bs))/\(0≤n/\n<c)/\Q .non H) vs
theorem nN:gG t [.ref x,.int n] H Q E=∃dx c ts bs,H x=some (.ins t.a_D dx (DF c ts bs))/\(0≤n/\n<c)/\Q .non H:=rfl
def fol(ts:List P2)(n:Int):List Int:=(ts.filter (fun p=>decide (p.1=n))).map (·.2)
def src(ts:List P2)(n:Int):List Int:=(ts.filter (fun p=>decide (p.2=n))).map (·.1)
def bwd(bs:List P2)(n:Int):List Int:=src bs n++fol bs n
def g9(t:Ad):Sp':=fun vs H Q _=>ap [.R,.I] (fun x n=>∃dx c ts bs,H x=some (.ins t.a_D dx (DF c ts bs))/\(0≤n/\n<c)/\ts.length≤15/\Q (.tup ((src ts n).map PV.int)) H) vs
theorem rn:g9 t [.ref x,.int n] H Q E=∃dx c ts bs,H x=some (.ins t.a_D dx (DF c ts bs))/\(0≤n/\n<c)/\ts.length≤15/\Q (.tup ((src ts n).map PV.int)) H:=rfl
def fW(t:Ad):Sp':=fun vs H Q _=>ap [.R,.I] (fun x n=>∃dx c ts bs,H x=some (.ins t.a_D dx (DF c ts bs))/\(0≤n/\n<c)/\ts.length≤15/\Q (.tup ((fol ts n).map PV.int)) H) vs
theorem mI:fW t [.ref x,.int n] H Q E=∃dx c ts bs,H x=some (.ins t.a_D dx (DF c ts bs))/\(0≤n/\n<c)/\ts.length≤15/\Q (.tup ((fol ts n).map PV.int)) H:=rfl
def oW:Sp':=fun vs H Q _=>ap [.F,.I] (fun l k=>(0≤k/\k<100)/\∃ns:List Int,l=ns.map PV.int/\Q (.int (ns.getD k.toNat 0)) H) vs
theorem Al:oW [.fls l,.int k] H Q E=((0≤k/\k<100)/\∃ns:List Int,l=ns.map PV.int/\Q (.int (ns.getD k.toNat 0)) H):=rfl
theorem cI{l:List PV}(h:i<l.length):atI l ((i:Nat):Int)=some l[i]:=by
 unfold atI ixN;rw[JL (by symm),JL (by symm)];show l[((i:Nat):Int).toNat]?=_;rw[J7,Jo h]
theorem nJ{R:α->β->Prop}{l:List α}{m:List β}(h:Paired R l m)(hi:i<l.length)(hj:i<m.length):R l[i] m[i]:=by
 induction h generalizing i with
 | nil=>cases hi
 | cons x _ ih =>
  cases i with
  | zero=>exact x
  | succ i=>exact ih (Nat.lt_of_succ_lt_succ hi) (Nat.lt_of_succ_lt_succ hj)
theorem kv{R:α->β->Prop}{x:α}{l:List α}{m:List β}(h:Paired R l m)(hx:x∈l):∃y∈m,R x y:=by
 induction h with
 | nil=>cases hx
 | cons h t ih =>
  rcases JD.mp hx with rfl | hx
  ·exact⟨_,Jw,h⟩
  ·obtain⟨y,hy,r⟩:=ih hx;exact⟨y,Jz _ hy,r⟩
theorem fm{a b:Int}(h:0<b):0≤a.fmod b/\a.fmod b<b:=by
 rw[Int.fmod_eq_emod_of_nonneg _ (by symm)];exact⟨Int.emod_nonneg _ (by symm),Int.emod_lt_of_pos _ h⟩
theorem uc(s:∀a u,a≠x->A a=some u->B a=some u)(h:B x=some o):U.Sub (put A x o) B:=fun a u e=>by
 by_cases q:a=x
 ·subst q;rw[ao]at e;cases e;exact h
 ·rw[au q]at e;exact s a u q e
theorem iI{f:Str}{v:PV}:∀{fs:List (Str×PV)},(i4 f v fs).length≤fs.length+1
 | []=>by simp[i4]
 |(g,y)::r=>by
  unfold i4;split
  ·simp
  ·have:=iI (f:=f) (v:=v) (fs:=r);simp only[JR];symm
theorem vS(h:j≠0)(f:j.natAbs<2 ^ 64):vK i j:=⟨h,(show My.BN 64 j from f).fit (by decide)⟩
theorem y9(f:i.natAbs<2 ^ 64):Fit i:=(show My.BN 64 i from f).fit (by decide)
def nO(H:PHp)(y:PV):PV:=match y with
 | .ref r=>(match H r with | some (.lst l)=>.tup l | _=>.non)
 | y=>y
theorem dX(h:H r=some (.lst l)):nO H (.ref r)=.tup l:=by
 unfold nO;dsimp only;rw[h]
theorem mB(h:Rows H ys ps):ys.map (nO H)=ps.map prV:=by
 induction h with
 | nil=>rfl
 | cons h t ih =>
  rw[JF,JF,ih];congr 1;rcases h with rfl |⟨r,rfl,hr⟩
  ·rfl
  ·exact dX hr
theorem Rows.up(h:Rows H ys ps)(s:U.Sub H H1):Rows H1 ys ps:=Paired.mapP h fun y p r=>r.elim .inl fun⟨q,e,hq⟩=>.inr ⟨q,e,s _ _ hq⟩
theorem c8{H:PHp}:∀{ps:List P2},Rows H (ps.map prV) ps
 | []=>.nil
 | _::_=>.cons (.inl rfl) c8
def at1(n:Int)(y:PV):Bool:=match y with | .tup [.int _,.int v]=>decide (v=n) | _=>false
def at0(n:Int)(y:PV):Bool:=match y with | .tup [.int u,.int _]=>decide (u=n) | _=>false
def g0(y:PV):PV:=match y with | .tup [u,_]=>u | _=>.non
def g1(y:PV):PV:=match y with | .tup [_,v]=>v | _=>.non
theorem src_list{n:Int}:∀{ts:List P2},((ts.map prV).filter (at1 n)).map g0=((ts.filter (fun p=>decide (p.2=n))).map (·.1)).map PV.int
 | []=>rfl
 | p::ts=>by
  have e:at1 n (prV p)=decide (p.2=n):=rfl;rw[JF,Ku,Ku,e];by_cases q:decide (p.2=n)=true
  ·rw[JL q,JL q,JF,JF,JF,src_list];rfl
  ·rw[JK q,JK q,src_list]
theorem dZ{n:Int}:∀{ts:List P2},((ts.map prV).filter (at0 n)).map g1=((ts.filter (fun p=>decide (p.1=n))).map (·.2)).map PV.int
 | []=>rfl
 | p::ts=>by
  have e:at0 n (prV p)=decide (p.1=n):=rfl;rw[JF,Ku,Ku,e];by_cases q:decide (p.1=n)=true
  ·rw[JL q,JL q,JF,JF,JF,dZ];rfl
  ·rw[JK q,JK q,dZ]
structure GJ (v j:Int) (l:List P2):Prop where
 nd:l.Nodup
 lo:∀p∈l,0≤p.1/\p.1<p.2/\(p.2<v∨(p.2=v/\p.1<j))
theorem GJ.app(h:GJ v j l)(h0:0≤j)(hj:j<v):GJ v (j+1) (l++[(j,v)]):=by
 refine⟨J3.mpr ⟨h.nd,by simp,?_⟩,fun p hp=>?_⟩
 ·intro a ha b hb e;rw[Jx]at hb;subst hb;subst e;have:=h.lo _ ha;simp only at this;symm
 ·rcases Ju.mp hp with hp | hp
  ·have:=h.lo p hp;symm
  ·rw[Jx]at hp;subst hp;exact⟨h0,hj,.inr ⟨rfl,Int.lt_succ j⟩⟩
theorem GJ.up(h:GJ v j l):GJ v (j+1) l:=⟨h.nd,fun p hp=>by have:=h.lo p hp;symm⟩
theorem GJ.of(h:Good v l):GJ v 0 l:=⟨h.nd,fun p hp=>by have:=h.lo p hp;symm⟩
theorem GJ.good(h:GJ v v l):Good (v+1) l:=⟨h.nd,fun p hp=>by have:=h.lo p hp;symm⟩
def cV(H:PHp):Nat->PV->PV->Prop
 | _+1,.int a,.int b=>a=b
 | _+1,.str a,.str b=>a=b
 | n+1,.tup l,.tup m=>l.length≤1000/\Paired (cV H n) l m
 | n+1,.ref a,.ref b=>∃l m,H a=some (.lst l)/\H b=some (.lst m)/\l.length≤1000/\Paired (cV H n) l m
 | _,_,_=>False
def fO(n:Nat):Sp':=fun vs H Q _=>ap [.V,.V] (fun x y=>cV H n x y/\Q (.bl true) H) vs
theorem IJ:fO n [x,y] H Q E=(cV H n x y/\Q (.bl true) H):=rfl
theorem aI{l:List Int}:(l.map PV.int).all (flat 8)=true:=by
 rw[Kg];intro z hz;obtain⟨p,_,rfl⟩:=Jp.mp hz;rfl
theorem aP{l:List Int}:((l.map PV.int).any fun z=>deq z (.int n))=decide (n∈l):=by
 rw[Bool.eq_iff_iff,Ln,Kk];constructor
 ·rintro⟨z,hz,e⟩;obtain⟨p,hp,rfl⟩:=Jp.mp hz;have:p=n:=by simpa[deq]using e
  rw[←this];exact hp
 ·intro h;exact⟨_,Jp.mpr ⟨_,h,rfl⟩,by simp[deq]⟩
def swp(p:P2):P2:=(p.2,p.1)
structure Nms (c:Int) (L:List Int):Prop where
 up:L.Pairwise (·<·)
 lo:∀x∈L,0≤x/\x<c
theorem Nms.nd(h:Nms c L):L.Nodup:=h.up.imp fun h=>by symm
theorem Nms.len(h:Nms c L)(hc:c≤6):L.length≤6:=My.bN 6 L h.nd fun x hx=>by have:=h.lo x hx;symm
def Ins(t:Ad)(H:PHp)(x:Addr)(c:Int)(ts:List P2):Prop:=∃dx bs,H x=some (.ins t.a_D dx (DF c ts bs))
theorem Ins.up(h:Ins t H x c ts)(s:U.Sub H H1):Ins t H1 x c ts:=by
 obtain⟨dx,bs,e⟩:=h;exact⟨dx,bs,s _ _ e⟩
def iw(t:Ad):Sp':=fun vs H Q _=>ap [.R,.T] (fun x l=>∃c ts,∃L:List Int,Ins t H x c ts/\l=L.map PV.int/\Nms c L/\Q .non H) vs
theorem qH:iw t [.ref x,.tup l] H Q E=∃c ts,∃L:List Int,Ins t H x c ts/\l=L.map PV.int/\Nms c L/\Q .non H:=rfl
def nW(t:Ad)(f:P2->P2):Sp':=fun vs H Q _=>ap [.R,.T] (fun x l=>∃c ts,∃L:List Int,Ins t H x c ts/\l=L.map PV.int/\Nms c L/\(1≤c/\c≤6)/\Good c ts/\∀M:List Int,M.Pairwise (·<·)->(∀y,y∈M↔My.Reach (ts.map f) L y)->Q (.tup (M.map PV.int)) H) vs
theorem CZ:nW t f [.ref x,.tup l] H Q E=∃c ts,∃L:List Int,Ins t H x c ts/\l=L.map PV.int/\Nms c L/\(1≤c/\c≤6)/\Good c ts/\∀M:List Int,M.Pairwise (·<·)->(∀y,y∈M↔My.Reach (ts.map f) L y)->Q (.tup (M.map PV.int)) H:=rfl
def II(b:Bool):P2->P2:=if b then swp else fun p=>p
theorem kK{α:Type}{R:α->α->Prop}:∀{l:List α},(∀x∈l,R x x)->Paired R l l
 | [],_=>.nil
 | x::l,h=>.cons (h x Jw) (kK fun y hy=>h y (Jz _ hy))
theorem same_ints{l:List Int}(h:l.length≤1000):cV H (n+2) (.tup (l.map PV.int)) (.tup (l.map PV.int)):=by
 unfold cV;refine⟨by rw[Jl];exact h,kK fun x hx=>?_⟩;obtain⟨i,_,rfl⟩:=Jp.mp hx;rfl
theorem mV{E:List P2}(hE:∀a b,(a,b)∈E->0≤b/\b<c)(hS:∀x∈S,0≤x/\x<c){y:Int}(r:My.Reach E S y):0≤y/\y<c:=by
 cases r with
 | base h=>exact hS _ h
 | step _ e=>exact hE _ _ e
def onI(q:Int->Bool)(y:PV):Bool:=match y with | .int u=>q u | _=>false
def ulN(c:Int):List Int:=(List.range c.toNat).map fun k=>((k:Nat):Int)
def dlN(c:Int):List Int:=(List.range c.toNat).map fun k=>c - 1 - ((k:Nat):Int)
theorem kN(c:Int):(ulN c).Pairwise (·<·):=by
 unfold ulN;rw[KH];exact List.pairwise_lt_range.imp fun h=>by symm
theorem pU(c:Int):(dlN c).Pairwise (·>·):=by
 unfold dlN;rw[KH];refine List.Pairwise.imp (fun {a b} h=>?_) (List.pairwise_lt_range (n:=c.toNat));show c - 1 - ((a:Nat):Int)>c - 1 - ((b:Nat):Int);symm
theorem cB:x∈ulN c↔0≤x/\x<c:=by
 unfold ulN;simp only[Jp,J1];constructor
 ·rintro⟨k,hk,rfl⟩;symm
 ·intro h;exact⟨x.toNat,by symm,by symm⟩
theorem jR:x∈dlN c↔0≤x/\x<c:=by
 unfold dlN;simp only[Jp,J1];constructor
 ·rintro⟨k,hk,rfl⟩;symm
 ·intro h;exact⟨(c - 1 - x).toNat,by symm,by symm⟩
theorem u5{E:List P2}(hp:L.Pairwise R)(as:∀a b,R a b->¬R b a)(hE:∀a b,(a,b)∈E->a∈L/\R a b):My.Fwd E L:=by
 intro a b e L1 L2 hl hb;obtain⟨ha,hr⟩:=hE a b e;rw[hl]at ha hp;rcases Ju.mp ha with h | h
 ·exact h
 ·exact absurd ((K4.mp hp).2.2 b hb a h) (as _ _ hr)
theorem AB(g:Good c ts)(y:Int):y∈(ulN c).foldl (My.bD (ts.map fun p=>p)) L↔My.Reach (ts.map fun p=>p) L y:=by
 rw[List.map_id'' (fun _=>rfl)];refine My.jA (fun a b e=>?_) (u5 (kN c) (fun a b h=>by symm) fun a b e=>?_) ((kN c).imp fun h=>by symm) y
 ·have:=g.lo _ e;exact cB.mpr ⟨this.1,by simp only at this;symm⟩
 ·have:=g.lo _ e;exact⟨cB.mpr ⟨this.1,by simp only at this;symm⟩,this.2.1⟩
theorem oZ{ts:List P2}:(a,b)∈ts.map swp↔(b,a)∈ts:=by
 rw[Jp];constructor
 ·rintro⟨p,hp,e⟩;unfold swp at e;cases e;exact hp
 ·intro h;exact⟨_,h,rfl⟩
theorem uN(g:Good c ts)(y:Int):y∈(dlN c).foldl (My.bD (ts.map swp)) L↔My.Reach (ts.map swp) L y:=by
 refine My.jA (fun a b e=>?_) (u5 (pU c) (fun a b h=>by symm) fun a b e=>?_) ((pU c).imp fun h=>by symm) y
 ·have:=g.lo _ (oZ.mp e);simp only at this;exact jR.mpr ⟨by symm,by symm⟩
 ·have:=g.lo _ (oZ.mp e);simp only at this;exact⟨jR.mpr ⟨by symm,by symm⟩,by symm⟩
theorem kU{n:Int}:∀{ts:List P2},My.outs (ts.map swp) n=(ts.filter (fun p=>decide (p.2=n))).map (·.1)
 | []=>rfl
 | p::ts=>by
  have ih:=kU (n:=n) (ts:=ts);unfold My.outs at ih ⊢;rw[JF,Ku,Ku];by_cases h:decide (p.2=n)=true
  ·have h':decide ((swp p).1=n)=true:=h;rw[JL h,JL h',JF,JF,ih];rfl
  ·have h':¬decide ((swp p).1=n)=true:=h;rw[JK h,JK h',ih]
theorem wa{ts:List P2}:My.outs (ts.map fun p=>p) n=(ts.filter (fun p=>decide (p.1=n))).map (·.2):=by
 rw[List.map_id'' (fun _=>rfl)];rfl
theorem uO{E:List P2}:(My.outs E n).length≤E.length:=by
 unfold My.outs;rw[Jl];exact KZ _ _
theorem jl{E:List P2}:(My.bD E f n).length≤f.length+E.length:=by
 unfold My.bD;split
 ·rw[Jr];have:=uO (E:=E) (n:=n);symm
 ·symm
theorem gx{α β:Type}{f:β->α->β}{l:List α}{b:β}{x:α}(h:l[i]?=some x):(l.take (i+1)).foldl f b=f ((l.take i).foldl f b) x:=by
 rw[Ly,h,List.foldl_append];rfl
theorem mf(g:Good c ps)(b:Bool):∀x y,(x,y)∈ps.map (II b)->0≤y/\y<c:=by
 intro x y h;obtain⟨p,hp,e⟩:=Jp.mp h;have:=g.lo p hp;cases b with
 | true=>have e':swp p=(x,y):=e;unfold swp at e';cases e';symm
 | false=>have e':p=(x,y):=e;subst e';simp only at this;symm
theorem ja{F:List Int}{ms:List Nat}{R:Int->Prop}(hc:c≤6)(hF:∀x∈F,0≤x/\x<c)(hR:∀y,y∈F↔R y)(hs:ms.Pairwise (·<·))(hm:∀x,x∈ms↔x∈F.map Int.toNat) :
  ((ms.map fun(n:Nat)=>(n:Int)).Pairwise (·<·))/\∀y,y∈(ms.map fun(n:Nat)=>(n:Int))↔R y:=by
 constructor
 ·rw[KH];exact hs.imp fun h=>by symm
 ·intro y;rw[←hR,Jp];constructor
  ·rintro⟨n,hn,rfl⟩;obtain⟨z,hz,e⟩:=Jp.mp ((hm n).mp hn);have:=hF z hz;have:((n:Nat):Int)=z:=by symm
   rw[this];exact hz
  ·intro h;have:=hF y h;exact⟨y.toNat,(hm _).mpr (Jp.mpr ⟨y,h,rfl⟩),by symm⟩
def mz(t:Ad):Sp':=fun vs H Q _=>ap [.R,.I] (fun x n=>∃dx c ts bs,H x=some (.ins t.a_D dx (DF c ts bs))/\(0≤n/\n<c)/\bs.length≤15/\Q (.tup ((bwd bs n).map PV.int)) H) vs
theorem xT:mz t [.ref x,.int n] H Q E=∃dx c ts bs,H x=some (.ins t.a_D dx (DF c ts bs))/\(0≤n/\n<c)/\bs.length≤15/\Q (.tup ((bwd bs n).map PV.int)) H:=rfl
def En(bs:List P2)(L:List Int):List P2:=bs.filter fun p=>decide (p.1∈L)&&decide (p.2∈L)
def both(bs:List P2)(L:List Int):List P2:=En bs L++(En bs L).map swp
def tupI(M:List Int):PV:=.tup (M.map PV.int)
structure OkD (c:Int) (ts bs:List P2):Prop where
 c1:1≤c
 c6:c≤6
 gt:Good c ts
 gb:Good c bs
 st:Srt ts
 sb:Srt bs
 b6:bs.length≤6
def FT(k:Nat)(L:List Int)(p:P2):Bool:=match k with
 | 0=>decide (p.1∈L)&&decide (p.2∈L)
 | 1=>!decide (p.2∈L)
 | _=>!decide (p.1∈L)
def FB(k:Nat)(L:List Int)(p:P2):Bool:=match k with
 | 0=>decide (p.1∈L)&&decide (p.2∈L)
 | 1=>!decide (p.1∈L)&&!decide (p.2∈L)
 | _=>true
theorem gI(g:Good c ps)(f:P2->Bool):Good c (ps.filter f):=⟨g.nd.sublist List.filter_sublist,fun p hp=>g.lo p (JU.mp hp).1⟩
theorem OkD.filter(h:OkD c ts bs)(f g:P2->Bool):OkD c (ts.filter f) (bs.filter g) :=
 ⟨h.c1,h.c6,gI h.gt f,gI h.gb g,List.Pairwise.sublist List.filter_sublist h.st,List.Pairwise.sublist List.filter_sublist h.sb,JY (KZ _ _) h.b6⟩
def Dr(t:Ad)(H:PHp)(x:Addr)(c:Int)(ts bs:List P2):Prop:=∃dx,H x=some (.ins t.a_D dx (DF c ts bs))
theorem Dr.up(h:Dr t H x c ts bs)(s:U.Sub H H1):Dr t H1 x c ts bs:=by
 obtain⟨dx,e⟩:=h;exact⟨dx,s _ _ e⟩
def shp(c:Int)(ts bs:List P2):PV:=.tup [.int c,.tup (ts.map prV),.tup (bs.map prV)]
abbrev Sd:=Int×Bool
def sdV(s:Sd):PV:=.tup [.int s.1,.bl s.2]
abbrev Sp3:=My.Stp Str
def stV(s:Sp3):PV:=.tup [.int s.1,.str s.2.1,.int s.2.2]
theorem dJ:m∈fol ts n↔(n,m)∈ts:=by
 unfold fol;simp only[Jp,JU,Kk];exact⟨fun y_=>by obtain⟨p,⟨h,e⟩,f⟩:=y_;subst e;subst f;exact h,fun h=>⟨_,⟨h,rfl⟩,rfl⟩⟩
theorem fi:m∈src ts n↔(m,n)∈ts:=by
 unfold src;simp only[Jp,JU,Kk];exact⟨fun y_=>by obtain⟨p,⟨h,e⟩,f⟩:=y_;subst e;subst f;exact h,fun h=>⟨_,⟨h,rfl⟩,rfl⟩⟩
theorem jY:m∈bwd bs n↔(n,m)∈bs∨(m,n)∈bs:=by
 unfold bwd;rw[Ju,fi,dJ,or_comm]
def EdG(ts bs:List P2)(s:Sp3):Prop:=(s.2.1="down"/\(s.1,s.2.2)∈ts)∨(s.2.1="up"/\(s.2.2,s.1)∈ts)∨(s.2.1="bow"/\((s.1,s.2.2)∈bs∨(s.2.2,s.1)∈bs))
def stp(ts bs:List P2)(n:Int):List Sp3:=(fol ts n).map (fun m=>(n,("down":Str),m))++(src ts n).map (fun m=>(n,("up":Str),m))++(bwd bs n).map (fun m=>(n,("bow":Str),m))
theorem gT:s∈stp ts bs n↔s.1=n/\EdG ts bs s:=by
 obtain⟨a,k,b⟩:=s;unfold stp EdG;simp only[Ju,Jp,dJ,fi,jY,Prod.mk.injEq];constructor
 ·rintro((⟨m,h,rfl,rfl,rfl⟩ |⟨m,h,rfl,rfl,rfl⟩) |⟨m,h,rfl,rfl,rfl⟩)
  ·exact⟨rfl,.inl ⟨rfl,h⟩⟩
  ·exact⟨rfl,.inr (.inl ⟨rfl,h⟩)⟩
  ·exact⟨rfl,.inr (.inr ⟨rfl,h⟩)⟩
 ·rintro⟨rfl,⟨rfl,h⟩ |⟨rfl,h⟩ |⟨rfl,h⟩⟩
  ·exact .inl (.inl ⟨_,h,rfl,rfl,rfl⟩)
  ·exact .inl (.inr ⟨_,h,rfl,rfl,rfl⟩)
  ·exact .inr ⟨_,h,rfl,rfl,rfl⟩
theorem ub(gt:Good c ts)(gb:Good c bs){s:Sp3}(h:EdG ts bs s):(0≤s.1/\s.1<c)/\0≤s.2.2/\s.2.2<c:=by
 rcases h with⟨_,h⟩ |⟨_,h⟩ |⟨_,h | h⟩
 ·have:=gt.lo _ h;simp only at this;symm
 ·have:=gt.lo _ h;simp only at this;symm
 ·have:=gb.lo _ h;simp only at this;symm
 ·have:=gb.lo _ h;simp only at this;symm
theorem tP(g:Good c ts)(n:Int):(fol ts n).Nodup:=by
 unfold fol;rw[Kl,KH];refine List.Pairwise.imp_of_mem (fun {x y} hx hy hxy e=>hxy ?_) (Kl.mp (g.nd.sublist List.filter_sublist));simp only[JU,Kk]at hx hy;exact Prod.ext (hx.2.trans hy.2.symm) e
theorem v9(g:Good c ts)(n:Int):(src ts n).Nodup:=by
 unfold src;rw[Kl,KH];refine List.Pairwise.imp_of_mem (fun {x y} hx hy hxy e=>hxy ?_) (Kl.mp (g.nd.sublist List.filter_sublist));simp only[JU,Kk]at hx hy;exact Prod.ext e (hx.2.trans hy.2.symm)
theorem cA(g:Good c ts)(hc:c≤6)(n:Int):(fol ts n).length≤6:=My.bN 6 _ (tP g n) fun x hx=>by have:=g.lo _ (dJ.mp hx);simp only at this;symm
theorem cR(g:Good c ts)(hc:c≤6)(n:Int):(src ts n).length≤6:=My.bN 6 _ (v9 g n) fun x hx=>by have:=g.lo _ (fi.mp hx);simp only at this;symm
theorem dN(g:Good c ts)(hc:c≤6)(n:Int):(bwd ts n).length≤6:=by
 refine My.bN 6 _ (J3.mpr ⟨v9 g n,tP g n,fun x hx y hy e=>?_⟩) fun x hx=>?_
 ·subst e;have h1:=g.lo _ (fi.mp hx);have h2:=g.lo _ (dJ.mp hy);simp only at h1 h2;symm
 ·rcases jY.mp hx with h | h
  ·have:=g.lo _ h;simp only at this;symm
  ·have:=g.lo _ h;simp only at this;symm
theorem gX(gt:Good c ts)(gb:Good c bs)(hc:c≤6)(n:Int):(stp ts bs n).length≤18:=by
 unfold stp;have h1:=cA gt hc n;have h2:=cR gt hc n;have h3:=dN gb hc n;simp only[Jr,Jl];symm
def mtg(s s':Sp3):Bool:=!(s.2.1=="up")&&!(s'.2.1=="down")
def psd(G A:List Int)(s s':Sp3):Bool:=if mtg s s' then decide (s.2.2∈A)else !decide (s.2.2∈G)
abbrev LnG(G A:List Int):=My.Lnk ("down":Str) "up" G A
abbrev RdG(ts bs:List P2)(G A ones:List Int)(r:List Sp3):=My.Rd (EdG ts bs) ("down":Str) "up" G A ones r
abbrev RSG(ts bs:List P2)(G A ones:List Int):=My.RS (EdG ts bs) ("down":Str) "up" G A ones
theorem sU:("down":Str)≠"up":=by decide
theorem CB:decide (("down":Str)≠"up")=true:=by decide
theorem DY:decide (("up":Str)≠"up")=false:=by decide
theorem EZ:decide (("bow":Str)≠"up")=true:=by decide
theorem fF:mtg s s'=true↔s.2.1≠"up"/\s'.2.1≠"down":=by
 unfold mtg;simp
theorem pM{s s':Sp3}:LnG G A s s'↔s.2.2=s'.1/\psd G A s s'=true:=by
 constructor
 ·intro h;refine⟨h.jn,?_⟩;unfold psd;split
  ·rename_i m;have:=fF.mp m;exact J2 (h.mt this.1 this.2)
  ·rename_i m;have:s.2.2∉G:=h.no (by
    by_cases e:s.2.1="up"
    ·exact .inl e
    ·exact .inr (Classical.byContradiction fun z=>m (fF.mpr ⟨e,z⟩)))
   simpa using this
 ·rintro⟨j,h⟩;unfold psd at h;refine⟨j,fun a b=>?_,fun a=>?_⟩
  ·rw[JL (fF.mpr ⟨a,b⟩)]at h;exact Lz h
  ·rw[JK (fun z=>by have:=fF.mp z;rcases a with a | a;exact this.1 a;exact this.2 a)]at h;simpa using h
def bes(ts bs:List P2)(G A:List Int)(s:Sd):List Sd :=
 (if s.1∈G then []else(fol ts s.1).map fun m=>(m,true))++(if (s.2=true/\s.1∈A)∨(s.2=false/\s.1∉G)then(src ts s.1).map (fun m=>(m,false))++(bwd bs s.1).map (fun m=>(m,true))else [])
theorem yC(gt:Good c ts)(gb:Good c bs)(hc:c≤6){G A:List Int}(s:Sd):(bes ts bs G A s).length≤18:=by
 have h1:=cA gt hc s.1;have h2:=cR gt hc s.1;have h3:=dN gb hc s.1;unfold bes;rw[Jr];have a:(if s.1∈G then []else(fol ts s.1).map fun m=>(m,true)).length≤6:=by split<;>simp<;>symm
 have b:(if (s.2=true/\s.1∈A)∨(s.2=false/\s.1∉G)then(src ts s.1).map (fun m=>(m,false))++(bwd bs s.1).map (fun m=>(m,true))else []).length≤12:=by split<;>simp<;>symm
 symm
theorem oV:z∈bes ts bs G A s↔(s.1∉G/\(s.1,z.1)∈ts/\z.2=true)∨(((s.2=true/\s.1∈A)∨(s.2=false/\s.1∉G))/\(((z.1,s.1)∈ts/\z.2=false)∨(((s.1,z.1)∈bs∨(z.1,s.1)∈bs)/\z.2=true))):=by
 obtain⟨x,p⟩:=z;unfold bes;rw[Ju];refine or_congr ?_ ?_
 ·by_cases h:s.1∈G
  ·simp[h]
  ·simp only[JK h,Jp,dJ,Prod.mk.injEq];exact⟨fun y_=>by obtain⟨m,a,e,f⟩:=y_;subst e;exact⟨h,a,f.symm⟩,fun y_=>by obtain⟨_,a,f⟩:=y_;exact ⟨_,a,rfl,f.symm⟩⟩
 ·by_cases h:(s.2=true/\s.1∈A)∨(s.2=false/\s.1∉G)
  ·simp only[JL h,Ju,Jp,fi,jY,Prod.mk.injEq];constructor
   ·rintro(⟨m,a,rfl,rfl⟩ |⟨m,a,rfl,rfl⟩)
    ·exact⟨h,.inl ⟨a,rfl⟩⟩
    ·exact⟨h,.inr ⟨a,rfl⟩⟩
   ·rintro⟨_,⟨a,rfl⟩ |⟨a,rfl⟩⟩
    ·exact .inl ⟨_,a,rfl,rfl⟩
    ·exact .inr ⟨_,a,rfl,rfl⟩
  ·rw[JK h];simp only[Ki,h,false_and]
theorem vU(h:RSG ts bs G A ones s.1 s.2)(hz:z∈bes ts bs G A s):RSG ts bs G A ones z.1 z.2:=by
 rcases oV.mp hz with⟨hg,e,hp⟩ |⟨hc,⟨e,hp⟩ |⟨e,hp⟩⟩
 ·have:=My.RS.step (k:=("down":Str)) (m:=z.1) h (.inl ⟨rfl,e⟩) (fun _=>hg) (fun k=>absurd rfl k) (fun k=>absurd rfl k);rw[hp];exact CB▸this
 ·have:=My.RS.step (k:=("up":Str)) (m:=z.1) h (.inr (.inl ⟨rfl,e⟩)) (fun k=>absurd k.symm sU) (fun _ hp=>hc.elim (fun q=>q.2) fun q=>by rw[hp]at q;exact absurd q.1 (by decide)) (fun _ hp=>hc.elim (fun q=>by rw[hp]at q;exact absurd q.1 (by decide)) fun q=>q.2);rw[hp];exact DY▸this
 ·have:=My.RS.step (k:=("bow":Str)) (m:=z.1) h (.inr (.inr ⟨rfl,e⟩)) (fun k=>absurd k (by decide)) (fun _ hp=>hc.elim (fun q=>q.2) fun q=>by rw[hp]at q;exact absurd q.1 (by decide)) (fun _ hp=>hc.elim (fun q=>by rw[hp]at q;exact absurd q.1 (by decide)) fun q=>q.2);rw[hp];exact EZ▸this
theorem qp{L:List Sd}(h0:∀x∈ones,(x,false)∈L)(hs:∀s∈L,∀z∈bes ts bs G A s,z∈L){x:Int}{p:Bool}(h:RSG ts bs G A ones x p):(x,p)∈L:=by
 induction h with
 | base h=>exact h0 _ h
 | step h e h1 h2 h3 ih =>
  rename_i n m p k;have cond:k≠"down"->(p=true/\n∈A)∨(p=false/\n∉G):=fun kd=>by
   cases p with
   | true=>exact .inl ⟨rfl,h2 kd rfl⟩
   | false=>exact .inr ⟨rfl,h3 kd rfl⟩
  refine hs (n,p) ih _ (oV.mpr ?_);rcases e with⟨ek,e⟩ |⟨ek,e⟩ |⟨ek,e⟩
  ·have ek:k="down":=ek;subst ek;exact .inl ⟨h1 rfl,e,CB⟩
  ·have ek:k="up":=ek;subst ek;exact .inr ⟨cond (by decide),.inl ⟨e,DY⟩⟩
  ·have ek:k="bow":=ek;subst ek;exact .inr ⟨cond (by decide),.inr ⟨e,EZ⟩⟩
def AY(c:Int):List Sd:=(ulN c).flatMap fun x=>[(x,false),(x,true)]
theorem ku(hc:c≤6){L:List Sd}(nd:L.Nodup)(h:∀s∈L,0≤s.1/\s.1<c):L.length≤12:=by
 have h1:L.length≤(AY c).length:=DM.bN nd fun s hs=>by
  unfold AY;obtain⟨x,p⟩:=s;rw[Lo];refine⟨x,cB.mpr (h _ hs),?_⟩;cases p<;>simp
 have h2:(AY c).length≤(ulN c).length*2:=My.dD fun x _=>by simp
 have h3:(ulN c).length≤6:=by unfold ulN;rw[Jl,KW];symm
 symm
theorem lQ(gt:Good c ts)(gb:Good c bs)(h1:∀x∈ones,0≤x/\x<c){x:Int}{p:Bool}(h:RSG ts bs G A ones x p):0≤x/\x<c:=by
 cases h with
 | base h=>exact h1 x h
 | step _ e _ _ _=>exact(ub gt gb e).2
def a9(H:PHp)(q:Addr)(vs:List PV)(ls:List (List PV)):Prop:=Paired (fun v l=>∃r,v=PV.ref r/\r≠q/\H r=some (.lst l)) vs ls
theorem a9.up(h:a9 H q vs ls)(s:U.Sub H H1):a9 H1 q vs ls:=Paired.mapP h fun _ _ ⟨r,e,n,hr⟩=>⟨r,e,n,s _ _ hr⟩
theorem a9.put(h:a9 H q vs ls):a9 (U.put H q o) q vs ls:=Paired.mapP h fun _ _ ⟨r,e,n,hr⟩=>⟨r,e,n,(au n).trans hr⟩
theorem j6{R:α->β->Prop}{a:α}{b:β}(r:R a b){l:List α}{m:List β}(h:Paired R l m):Paired R (l++[a]) (m++[b]):=by
 induction h with
 | nil=>exact .cons r .nil
 | cons x _ ih=>exact .cons x ih
theorem a9.snoc(h:a9 H q vs ls)(n:r≠q)(e:H r=some (.lst l)):a9 H q (vs++[.ref r]) (ls++[l]):=j6 ⟨r,rfl,n,e⟩ h
theorem Dd{R:α->β->Prop}{v:α}{l:List α}{m:List β}{i:Nat}(h:Paired R l m):l[i]?=some v->∃w,m[i]?=some w/\R v w:=by
 induction h generalizing i with
 | nil=>intro e;cases e
 | cons x _ ih =>
  intro e;cases i with
  | zero=>cases e;exact⟨_,rfl,x⟩
  | succ i=>exact ih e
theorem a9.at{i:Nat}(h:a9 H q vs ls)(e:vs[i]?=some v):∃l r,ls[i]?=some l/\v=.ref r/\r≠q/\H r=some (.lst l):=by
 obtain⟨l,hl,r,e,n,hr⟩:=Dd h e;exact⟨l,r,hl,e,n,hr⟩
theorem a9.len(h:a9 H q vs ls):vs.length=ls.length:=Paired.length h
theorem a9.mv(h:a9 H q vs ls)(s:U.Sub H H1)(n:H p=none):a9 H1 p vs ls:=Paired.mapP h fun _ _ ⟨r,e,_,hr⟩=>⟨r,e,aB hr n,s _ _ hr⟩
theorem a9.fr{H H0:PHp}(e:H0 q=some o){vs:List PV}{ls:List (List PV)}(h:a9 H a vs ls):(∀v∈vs,∀b,v=.ref b->H0 b=none)->a9 H q vs ls:=by
 unfold a9 at *
 induction h with
 | nil=>exact fun _=>.nil
 | cons x _ ih =>
  intro f;obtain⟨r,er,_,hr⟩:=x;exact .cons ⟨r,er,(aB e (f _ Jw r er)).symm,hr⟩ (ih fun v hv=>f v (Jz _ hv))
def Frs(H:PHp)(vs:List PV):Prop:=∀v∈vs,∀b,v=PV.ref b->H b=none
theorem Frs.nil:Frs H []:=fun _ h=>by cases h
theorem Frs.app(a:Frs H vs)(b:Frs H ws):Frs H (vs++ws):=fun v hv=>(Ju.mp hv).elim (a v) (b v)
theorem Frs.one(h:H r=none):Frs H [.ref r]:=fun v hv b e=>by rw[Jx]at hv;rw[hv]at e;cases e;exact h
theorem Frs.mono(s:U.Sub H H1)(h:Frs H1 vs):Frs H vs:=fun v hv b e=>s.free (h v hv b e)
theorem Frs.sub(h:Frs H vs)(k:∀v∈ws,v∈vs):Frs H ws:=fun v hv=>h v (k v hv)
theorem iK{y:PV}:atI (l++[y]) (-1)=some y:=by
 unfold atI ixN;rw[JK (by symm),Jr,JZ,JL (by symm),show(-1+((l.length+1:Nat):Int)).toNat=l.length by symm];simp
theorem mi(f:PV->PV)(pz:PV->Bool)(Iv:St'->Prop)(hlen:xs.length≤sizeLine)(hok:∀l,ok (put H1 acc (.lst l)))
  (hs:∀x∈xs,∀(l:List PV) (σ:St') (R:St'->PHp->Prop),Iv σ->l.length<sizeLine->(pz x=true->∀σ3,Iv σ3->R σ3 (put H1 acc (.lst (l++[f x]))))->(pz x=false->∀σ3,Iv σ3->R σ3 (put H1 acc (.lst l))) ->
   g x σ (put H1 acc (.lst l)) fun σ3 H2=>tt σ3 H2 fun b H3=>cif b (te σ3 H3 fun y H4=>∃l',H4 acc=some (.lst l')/\l'.length<sizeLine/\R σ3 (put H4 acc (.lst (l'++[y])))) (R σ3 H3))
  (hq:Q (.ref acc) (put H1 acc (.lst ((xs.filter pz).map f)))) {σ:St'} (h0:Iv σ):cp ok g tt te acc Q xs σ (put H1 acc (.lst [])):=by
 have key:∀(r d:List PV) (σ:St'),xs=d++r->Iv σ->cp ok g tt te acc Q r σ (put H1 acc (.lst ((d.filter pz).map f))):=by
  intro r
  induction r with
  | nil =>
   intro d σ e hv;have:d=xs:=by rw[e,JQ]
   subst this;exact⟨hok _,hq⟩
  | cons x r ih =>
   intro d σ e hv;have hd:((d.filter pz).map f).length<sizeLine:=by
    have h1:d.length+(r.length+1)=xs.length:=by rw[e,Jr,JR]
    have h2:=KZ pz d;rw[Jl];symm
   refine⟨hok _,hs x (by rw[e];simp) _ σ _ hv hd (fun hp σ3 h3=>?_) (fun hp σ3 h3=>?_)⟩
   ·have:=ih (d++[x]) σ3 (by rw[e];simp) h3;rw[Lq,JB]at this;simpa[hp]using this
   ·have:=ih (d++[x]) σ3 (by rw[e];simp) h3;rw[Lq,JB]at this;simpa[hp]using this
 exact key xs [] σ rfl h0
theorem rY{x y z:PV}:atI [x,y,z] 0=some x:=rfl
theorem sO{x y z:PV}:atI [x,y,z] 1=some y:=rfl
theorem vF{x y z:PV}:atI [x,y,z] 2=some z:=rfl
theorem Gm:flat n (.str k)=true:=by cases n<;>rfl
theorem oj{L:List Int}:((L.map PV.int).filter (fun _=>true)).map (fun y=>PV.tup [.int n,.str k,y])=(L.map fun m=>((n,k,m):Sp3)).map stV:=by
 rw[Kr.mpr (fun _ _=>rfl),JS,JS];rfl
theorem eZ{L:List Int}:((L.map PV.int).filter (fun _=>true)).map (fun y=>PV.tup [y,.bl b])=(L.map fun m=>((m,b):Sd)).map sdV:=by
 rw[Kr.mpr (fun _ _=>rfl),JS,JS];rfl
def g32(y:PV):PV:=match y with | .tup [_,_,b]=>b | _=>.non
theorem Di{road:List Sp3}:((road.map stV).filter (fun _=>true)).map g32=(road.map (·.2.2)).map PV.int:=by
 rw[Kr.mpr (fun _ _=>rfl),JS,JS];rfl
theorem uu{α:Type}(f:α->PV)(l:List α):bO (l.map f) (some 1) none=l.tail.map f:=by
 unfold bO;rw[show(1:Int)=((1:Nat):Int)from rfl,HT.yh,HT.fD,Jl];cases l with
 | nil=>rfl
 | cons a l =>
  rw[Nat.min_eq_left (by simp),JF,List.drop_one,List.tail_cons,List.tail_cons];exact KP (by simp)
theorem mS{α:Type}(f:α->PV)(l:List α):bO (l.map f) none (some (-1))=l.dropLast.map f:=by
 have e:HT.sIx (l.map f).length (l.map f).length (some (-1))=l.length - 1:=by
  unfold HT.sIx;rw[Jl];simp;symm
 unfold bO;rw[e,HT.fD,List.drop_zero,Nat.sub_zero,List.dropLast_eq_take,List.map_take]
def mts:List Sp3->List Int
 | s::s'::r=>if mtg s s' then s.2.2::mts (s'::r)else mts (s'::r)
 | _=>[]
def mtF(y:PV):Bool:=match y with | .tup [.tup [.int a,.str k,.int b],.tup [.int a',.str k',.int b']]=>mtg (a,k,b) (a',k',b') | _=>false
def mtN(y:PV):PV:=match y with | .tup [.tup [_,_,b],_]=>b | _=>.non
theorem qi:∀(r:List Sp3),((d3 (r.dropLast.map stV) (r.tail.map stV)).filter mtF).map mtN=(mts r).map PV.int
 | []=>rfl
 | [s]=>rfl
 | s::s'::r=>by
  have ih:=qi (s'::r);have e1:(s::s'::r).dropLast=s::(s'::r).dropLast:=rfl;have e2:(s::s'::r).tail.map stV=stV s'::(s'::r).tail.map stV:=rfl;have e3:mtF (.tup [stV s,stV s'])=mtg s s':=rfl;rw[e1,e2,JF,d3,Ku,e3];unfold mts;by_cases q:mtg s s'=true
  ·rw[JL q,JL q,JF,JF,ih];rfl
  ·rw[JK q,JK q,ih]
theorem ym:∀{l m:List PV} {z:PV},z∈d3 l m->∃x∈l,∃y∈m,z=.tup [x,y]:=fun {l m z} h=>by
 obtain⟨i,hi⟩:=List.getElem?_of_mem h;obtain⟨x,y,h1,h2,e⟩:=fB hi;exact⟨x,JH h1,y,JH h2,e⟩
theorem eI(h:∀R:TS',R=tb->j2 c R D σ H):j2 c tb D σ H:=h tb rfl
theorem yr{tb:TS'}{Pv:Nat->St'->PHp->Prop}(h:∀(N bk:St'->PHp->Prop),(∀σ' H',(∃m',m'<m/\Pv m' σ' H')->N σ' H')->tb { nx:=N,rt:=rt,bk:=bk,ct:=N } σ H1) :
  ∃N:St'->PHp->Prop,(∀σ' H',N σ' H'->∃m',m'<m/\Pv m' σ' H')/\tb { nx:=N,rt:=rt,bk:=bk,ct:=N } σ H1:=⟨fun σ' H'=>∃m',m'<m/\Pv m' σ' H',fun _ _ h=>h,h _ _ fun _ _ h=>h⟩
theorem pq{L:List Sd}:(L.map sdV).all (flat 8)=true:=by
 rw[Kg];intro z hz;obtain⟨p,_,rfl⟩:=Jp.mp hz;rfl
theorem uQ{L:List Sd}:((L.map sdV).any fun z=>deq z (.tup [.int n,.bl b]))=decide ((n,b)∈L):=by
 rw[Bool.eq_iff_iff,Ln,Kk];constructor
 ·rintro⟨z,hz,e⟩;obtain⟨p,hp,rfl⟩:=Jp.mp hz;simp only[sdV,deq,gm,Bool.and_true,KO,Lb]at e;obtain⟨p1,p2⟩:=p;simp only at e;rw[←e.1,← e.2];exact hp
 ·intro h;exact⟨_,Jp.mpr ⟨_,h,rfl⟩,by simp[sdV,deq,gm]⟩
structure LI (ts bs:List P2) (G A O:List Int) (W L:List Sd):Prop where
 nd:L.Nodup
 rl:∀s∈L,RSG ts bs G A O s.1 s.2
 rw:∀s∈W,RSG ts bs G A O s.1 s.2
 st:∀x∈O,(x,false)∈L∨(x,false)∈W
 sh:∀s∈L,∀z∈bes ts bs G A s,z∈L∨z∈W
theorem LI.iff(h:LI ts bs G A O [] L)(s:Sd):s∈L↔RSG ts bs G A O s.1 s.2:=by
 refine⟨h.rl s,fun r=>?_⟩;have:=qp (L:=L) (fun x hx=>(h.st x hx).resolve_right (by simp)) (fun s hs z hz=>(h.sh s hs z hz).resolve_right (by simp)) r;exact this
theorem LI.old(h:LI ts bs G A O (W++[s]) L)(hs:s∈L):LI ts bs G A O W L:=by
 have go:∀z,z∈L∨z∈W++[s]->z∈L∨z∈W:=fun z hz=>by
  rcases hz with q | q
  ·exact .inl q
  ·rcases Ju.mp q with q | q
   ·exact .inr q
   ·rw[Jx.mp q];exact .inl hs
 exact⟨h.nd,h.rl,fun z hz=>h.rw z (JN _ hz),fun x hx=>go _ (h.st x hx),fun z hz y hy=>go _ (h.sh z hz y hy)⟩
theorem LI.new(h:LI ts bs G A O (W++[s]) L)(hs:s∉L):LI ts bs G A O (W++bes ts bs G A s) (L++[s]):=by
 have go:∀z,z∈L∨z∈W++[s]->z∈L++[s]∨z∈W++bes ts bs G A s:=fun z hz=>by
  rcases hz with q | q
  ·exact .inl (JN _ q)
  ·rcases Ju.mp q with q | q
   ·exact .inr (JN _ q)
   ·exact .inl (JM _ q)
 have rs:RSG ts bs G A O s.1 s.2:=h.rw s (by simp);refine⟨J3.mpr ⟨h.nd,by simp,fun x hx y hy e=>hs (by rw[Jx.mp hy]at e;rw[←e];exact hx)⟩,fun z hz=>?_,fun z hz=>?_,fun x hx=>go _ (h.st x hx),fun z hz y hy=>?_⟩
 ·rcases Ju.mp hz with q | q
  ·exact h.rl z q
  ·rw[Jx.mp q];exact rs
 ·rcases Ju.mp hz with q | q
  ·exact h.rw z (JN _ q)
  ·exact vU rs q
 ·rcases Ju.mp hz with q | q
  ·exact go _ (h.sh z q y hy)
  ·rw[Jx.mp q]at hy;exact .inr (JM _ hy)
theorem fU(I:Nat->St'->PHp->Prop)
  (hs:∀(i:Nat) (x:PV) (σ:St') (H:PHp) (R:St'->PHp->Prop),xs[i]?=some x->I i σ H->(∀σ' H',I (i+1) σ' H'->R σ' H') ->
   ok H/\g x σ H fun σ3 H2=>tt σ3 H2 fun b H3=>cif b (te σ3 H3 fun y H4=>∃l',H4 acc=some (.lst l')/\l'.length<sizeLine/\R σ3 (put H4 acc (.lst (l'++[y])))) (R σ3 H3))
  (hq:∀σ H,I xs.length σ H->ok H/\Q (.ref acc) H) {σ:St'} {H:PHp} (h0:I 0 σ H):cp ok g tt te acc Q xs σ H:=by
 have key:∀(r d:List PV) (σ:St') (H:PHp),xs=d++r->I d.length σ H->cp ok g tt te acc Q r σ H:=by
  intro r
  induction r with
  | nil =>
   intro d σ H e hv;rw[JQ]at e;subst e;exact hq σ H hv
  | cons x r ih =>
   intro d σ H e hv;refine hs d.length x σ H _ (by rw[e];simp) hv fun σ' H' h'=>?_;exact ih (d++[x]) σ' H' (by rw[e];simp) (by rw[Jr];exact h')
 exact key xs [] σ H rfl h0
structure Ap (c:Int) (A B G:List Int):Prop where
 a:Nms c A
 b:Nms c B
 g:Nms c G
 nd:(A++(B++(G++[]))).Nodup
 na:A≠[]
 nb:B≠[]
theorem Ap.ab(h:Ap c A B G):∀x∈A,x∉B:=fun x hx hb=>(J3.mp h.nd).2.2 x hx x (JN _ hb) rfl
theorem Ap.ag(h:Ap c A B G):∀x∈A,x∉G:=fun x hx hb=>(J3.mp h.nd).2.2 x hx x (JM _ (JN _ hb)) rfl
def sR:Sp':=fun vs H Q _=>ap [.T] (fun l=>∃x k y,l=[x,.str k,y]/\Q (.bl (!(k=="up"))) H) vs
theorem Cz:sR [.tup [x,.str k,y]] H Q E=Q (.bl (!(k=="up"))) H:=by
 refine propext ⟨fun h=>?_,fun h=>?_⟩
 ·obtain⟨_,_,_,e,h⟩:=h;cases e;exact h
 ·exact⟨_,_,_,rfl,h⟩
def vq:Sp':=fun vs H Q _=>ap [.T] (fun l=>∃x k y,l=[x,.str k,y]/\Q (.bl (!(k=="down"))) H) vs
theorem E3:vq [.tup [x,.str k,y]] H Q E=Q (.bl (!(k=="down"))) H:=by
 refine propext ⟨fun h=>?_,fun h=>?_⟩
 ·obtain⟨_,_,_,e,h⟩:=h;cases e;exact h
 ·exact⟨_,_,_,rfl,h⟩
def oK:Sp':=fun vs H Q _=>ap [.V,.V] (fun x y=>∃s s':Sp3,x=stV s/\y=stV s'/\Q (.bl (mtg s s')) H) vs
theorem z8:oK [x,y] H Q E=(∃s s':Sp3,x=stV s/\y=stV s'/\Q (.bl (mtg s s')) H):=rfl
def jq:Sp':=fun vs H Q _=>ap [.V,.V,.T,.T] (fun x y l m=>∃s s':Sp3,∃G A:List Int,x=stV s/\y=stV s'/\l=G.map PV.int/\m=A.map PV.int/\Q (.bl (psd G A s s')) H) vs
theorem sf:jq [x,y,.tup l,.tup m] H Q E=(∃s s':Sp3,∃G A:List Int,x=stV s/\y=stV s'/\l=G.map PV.int/\m=A.map PV.int/\Q (.bl (psd G A s s')) H):=rfl
def l7(t:Ad):Sp':=fun vs H Q _=>ap [.R,.I] (fun x n=>∃c ts bs,Dr t H x c ts bs/\OkD c ts bs/\(0≤n/\n<c)/\∀r H1,H r=none->U.Sub H H1->H1 r=some (.lst ((stp ts bs n).map stV))->Q (.ref r) H1) vs
theorem yZ:l7 t [.ref x,.int n] H Q E=(∃c ts bs,Dr t H x c ts bs/\OkD c ts bs/\(0≤n/\n<c)/\∀r H1,H r=none->U.Sub H H1->H1 r=some (.lst ((stp ts bs n).map stV))->Q (.ref r) H1):=rfl
def lK:Sp':=fun vs H Q _=>ap [.R] (fun a=>∃road:List Sp3,H a=some (.lst (road.map stV))/\road≠[]/\road.length≤100/\∀r H1,H r=none->U.Sub H H1->H1 r=some (.lst ((My.nm road).map PV.int))->Q (.ref r) H1) vs
theorem wF:lK [.ref a] H Q E=(∃road:List Sp3,H a=some (.lst (road.map stV))/\road≠[]/\road.length≤100/\∀r H1,H r=none->U.Sub H H1->H1 r=some (.lst ((My.nm road).map PV.int))->Q (.ref r) H1):=rfl
def lX:Sp':=fun vs H Q _=>ap [.R] (fun a=>∃road:List Sp3,H a=some (.lst (road.map stV))/\road.length≤100/\∀r H1,H r=none->U.Sub H H1->H1 r=some (.lst ((mts road).map PV.int))->Q (.ref r) H1) vs
theorem yf:lX [.ref a] H Q E=(∃road:List Sp3,H a=some (.lst (road.map stV))/\road.length≤100/\∀r H1,H r=none->U.Sub H H1->H1 r=some (.lst ((mts road).map PV.int))->Q (.ref r) H1):=rfl
def jk(t:Ad):Sp':=fun vs H Q _=>ap [.R,.V,.T,.T] (fun x z l m=>∃c ts bs,∃G A:List Int,∃n p,z=sdV (n,p)/\Dr t H x c ts bs/\OkD c ts bs/\(0≤n/\n<c)/\l=G.map PV.int/\m=A.map PV.int/\∀r H1,H r=none->U.Sub H H1->H1 r=some (.lst ((bes ts bs G A (n,p)).map sdV))->Q (.ref r) H1) vs
theorem vX:jk t [.ref x,z,.tup l,.tup m] H Q E=(∃c ts bs,∃G A:List Int,∃n p,z=sdV (n,p)/\Dr t H x c ts bs/\OkD c ts bs/\(0≤n/\n<c)/\l=G.map PV.int/\m=A.map PV.int/\∀r H1,H r=none->U.Sub H H1->H1 r=some (.lst ((bes ts bs G A (n,p)).map sdV))->Q (.ref r) H1):=rfl
structure An (ts:List P2) (G A:List Int):Prop where
 up:A.Pairwise (·<·)
 iff:∀y,y∈A↔My.Reach (ts.map swp) G y
theorem An.one(h:An ts G A)(g:An ts G A'):A=A':=My.eY h.up g.up fun y=>(h.iff y).trans (g.iff y).symm
theorem An.shut(h:An ts G A):∀a b,(a,b)∈ts->b∈A->a∈A:=fun a b e hb=>(h.iff a).mpr (.step ((h.iff b).mp hb) (Jp.mpr ⟨_,e,rfl⟩))
def lj(t:Ad):Sp':=fun vs H Q _=>ap [.R,.T,.T] (fun x l m=>∃c ts bs,∃O G:List Int,Dr t H x c ts bs/\OkD c ts bs/\l=O.map PV.int/\m=G.map PV.int/\Nms c O/\Nms c G /\
  ∀r H1 A,∀L:List Sd,H r=none->U.Sub H H1->An ts G A->H1 r=some (.lst (L.map sdV))->L.Nodup->(∀s:Sd,s∈L↔RSG ts bs G A O s.1 s.2)->Q (.ref r) H1) vs
theorem xV:lj t [.ref x,.tup l,.tup m] H Q E=(∃c ts bs,∃O G:List Int,Dr t H x c ts bs/\OkD c ts bs/\l=O.map PV.int/\m=G.map PV.int/\Nms c O/\Nms c G /\
  ∀r H1 A,∀L:List Sd,H r=none->U.Sub H H1->An ts G A->H1 r=some (.lst (L.map sdV))->L.Nodup->(∀s:Sd,s∈L↔RSG ts bs G A O s.1 s.2)->Q (.ref r) H1):=rfl
def iy(ts bs:List P2)(ns:List Int):List (List Sp3):=ns.flatMap fun n=>(stp ts bs n).map fun s=>[s]
def lsS(r:List Sp3):Sp3:=r.getLastD (0,("":Str),0)
def gS(ts bs:List P2)(G A:List Int)(r:List Sp3):List (List Sp3):=((stp ts bs (lsS r).2.2).filter fun s=>!decide (s.2.2∈My.nm r)&&psd G A (lsS r) s).map fun s=>r++[s]
abbrev rdV(rs:List (List Sp3)):List (List PV):=rs.map fun r=>r.map stV
theorem d8:lsS (p++[e])=e:=by unfold lsS;simp
theorem p9{r:List Sp3}(h:r≠[]):∃l,My.nm r=l++[(lsS r).2.2]:=by
 rcases KA r with rfl |⟨p,e,rfl⟩
 ·exact absurd rfl h
 ·rw[KC,d8];cases p with
  | nil=>exact⟨[e.1],rfl⟩
  | cons a p=>exact⟨a.1::(a::p).map (·.2.2),by show a.1::List.map _ (a::(p++[e]))=_;simp⟩
theorem Fp{r:List Sp3}(h:r≠[]):atI ((My.nm r).map PV.int) (-1)=some (.int (lsS r).2.2):=by
 obtain⟨l,e⟩:=p9 h;rw[e,JB];exact iK
theorem si(h:r≠[]):atI (r.map stV) (-1)=some (stV (lsS r)):=by
 rcases KA r with rfl |⟨p,e,rfl⟩
 ·exact absurd rfl h
 ·rw[KC,d8,JB];exact iK
theorem pI(ok:OkD c ts bs){G A:List Int}(r:List Sp3):(gS ts bs G A r).length≤18:=by
 unfold gS;rw[Jl];exact JY (KZ _ _) (gX ok.gt ok.gb ok.c6 _)
def k8(t:Ad):Sp':=fun vs H Q _=>ap [.R,.T] (fun x l=>∃c ts bs,∃O:List Int,Dr t H x c ts bs/\OkD c ts bs/\l=O.map PV.int/\Nms c O/\∀r H1 us,H r=none->U.Sub H H1->H1 r=some (.lst us)->a9 H1 r us (rdV (iy ts bs O))->Frs H us->Q (.ref r) H1) vs
theorem xl:k8 t [.ref x,.tup l] H Q E=(∃c ts bs,∃O:List Int,Dr t H x c ts bs/\OkD c ts bs/\l=O.map PV.int/\Nms c O/\∀r H1 us,H r=none->U.Sub H H1->H1 r=some (.lst us)->a9 H1 r us (rdV (iy ts bs O))->Frs H us->Q (.ref r) H1):=rfl
def jH(t:Ad):Sp':=fun vs H Q _=>ap [.R,.R,.T] (fun x a l=>∃c ts bs,∃G:List Int,∃us,∃rs:List (List Sp3),Dr t H x c ts bs/\OkD c ts bs/\l=G.map PV.int/\Nms c G/\H a=some (.lst us)/\a9 H a us (rdV rs)/\rs.length*18≤sizeLine/\(∀r∈rs,r≠[]/\r.length≤100/\0≤(lsS r).2.2/\(lsS r).2.2<c) /\
  ∀r H1 ws A,H r=none->U.Sub H H1->An ts G A->H1 r=some (.lst ws)->a9 H1 r ws (rdV (rs.flatMap (gS ts bs G A)))->Frs H ws->Q (.ref r) H1) vs
theorem um:jH t [.ref x,.ref a,.tup l] H Q E=(∃c ts bs,∃G:List Int,∃us,∃rs:List (List Sp3),Dr t H x c ts bs/\OkD c ts bs/\l=G.map PV.int/\Nms c G/\H a=some (.lst us)/\a9 H a us (rdV rs)/\rs.length*18≤sizeLine/\(∀r∈rs,r≠[]/\r.length≤100/\0≤(lsS r).2.2/\(lsS r).2.2<c) /\
  ∀r H1 ws A,H r=none->U.Sub H H1->An ts G A->H1 r=some (.lst ws)->a9 H1 r ws (rdV (rs.flatMap (gS ts bs G A)))->Frs H ws->Q (.ref r) H1):=rfl
structure Opn (ts bs:List P2) (G A O:List Int) (r:List Sp3):Prop where
 rd:RdG ts bs G A O r
 nd:(My.nm r).Nodup
theorem zt(ok:OkD c ts bs){r:List Sp3}(h:∀s∈r,EdG ts bs s):∀x∈My.nm r,0≤x/\x<c:=by
 cases r with
 | nil=>intro x hx;cases hx
 | cons s r =>
  intro x hx;rcases JD.mp hx with rfl | hx
  ·exact(ub ok.gt ok.gb (h s Jw)).1
  ·obtain⟨z,hz,rfl⟩:=Jp.mp hx;exact(ub ok.gt ok.gb (h z hz)).2
theorem Br{r:List Sp3}(h:r≠[]):(My.nm r).length=r.length+1:=by
 cases r with
 | nil=>exact absurd rfl h
 | cons s r=>simp[My.nm]
theorem Opn.ne(h:Opn ts bs G A O r):r≠[]:=fun e=>by
 obtain⟨s,hs,_⟩:=h.rd.hd;subst e;cases hs
theorem Opn.len(h:Opn ts bs G A O r)(ok:OkD c ts bs):r.length≤5:=by
 have h1:=My.bN 6 _ h.nd fun x hx=>by have:=zt ok h.rd.ed x hx;have:=ok.c6;symm
 rw[Br h.ne]at h1;symm
structure RdK (ts bs:List P2) (G A O:List Int) (tg:List Sp3) (k:Nat) (rs:List (List Sp3)):Prop where
 ok:∀r∈rs,Opn ts bs G A O r
 k1:1≤k/\k≤tg.length
 le:rs.length≤6*18 ^ k
 tg:tg.take k∈rs
theorem ir(h:Opn ts bs G A O (p++q))(ne:p≠[]):Opn ts bs G A O p:=by
 refine⟨⟨?_,fun s hs=>h.rd.ed s (JN _ hs),(My.bR.mp h.rd.ch).1⟩,?_⟩
 ·obtain⟨s,hs,ho⟩:=h.rd.hd;refine⟨s,?_,ho⟩;cases p with
  | nil=>exact absurd rfl ne
  | cons a p=>simpa using hs
 ·have:=h.nd;cases p with
  | nil=>exact absurd rfl ne
  | cons a p =>
   have e:My.nm (a::p++q)=My.nm (a::p)++q.map (·.2.2):=by simp[My.nm]
   rw[e]at this;exact(J3.mp this).1
theorem lS:Opn ts bs G A O (r++[s])/\r≠[]↔(Opn ts bs G A O r/\s∈stp ts bs (lsS r).2.2/\s.2.2∉My.nm r/\psd G A (lsS r) s=true):=by
 have enm:r≠[]->My.nm (r++[s])=My.nm r++[s.2.2]:=fun ne=>by
  cases r with
  | nil=>exact absurd rfl ne
  | cons a p=>simp[My.nm]
 constructor
 ·rintro⟨h,ne⟩;have nd:=h.nd;rw[enm ne]at nd;have nd2:=J3.mp nd;have c:=(My.bR.mp h.rd.ch).2.2;have hl:lsS r∈r.getLast?:=by
   rcases KA r with rfl |⟨p,e,rfl⟩
   ·exact absurd rfl ne
   ·rw[KC,d8];simp
  have lk:=pM.mp (c _ hl s rfl);exact⟨ir h ne,gT.mpr ⟨lk.1.symm,h.rd.ed s (by simp)⟩,fun hm=>nd2.2.2 _ hm _ (by simp) rfl,lk.2⟩
 ·rintro⟨h,hs,hn,hp⟩;have ne:=h.ne;obtain⟨hs1,hs2⟩:=gT.mp hs;refine⟨⟨⟨?_,fun z hz=>?_,My.bR.mpr ⟨h.rd.ch,trivial,fun a ha b hb=>?_⟩⟩,?_⟩,ne⟩
  ·obtain⟨z,hz,ho⟩:=h.rd.hd;refine⟨z,?_,ho⟩;cases r with
   | nil=>exact absurd rfl ne
   | cons a p=>simpa using hz
  ·rcases Ju.mp hz with q | q
   ·exact h.rd.ed z q
   ·rw[Jx.mp q];exact hs2
  ·have eb:b=s:=by simpa using hb.symm
   have ea:a=lsS r:=by
    rcases KA r with rfl |⟨p,e,rfl⟩
    ·exact absurd rfl ne
    ·rw[KC]at ha ⊢;rw[d8];simpa using ha.symm
   subst eb;subst ea;exact pM.mpr ⟨hs1.symm,hp⟩
  ·rw[enm ne];refine J3.mpr ⟨h.nd,by simp,fun x hx y hy e=>?_⟩;rw[Jx]at hy;exact hn (by rw[←hy,← e];exact hx)
theorem o3(lt:∀p∈ts,p.1<p.2)(lb:∀p∈bs,p.1<p.2):Opn ts bs G A O [s]↔s.1∈O/\EdG ts bs s:=by
 constructor
 ·intro h;obtain⟨z,hz,ho⟩:=h.rd.hd;have:z=s:=by simpa using hz.symm
  subst this;exact⟨ho,h.rd.ed z (by simp)⟩
 ·rintro⟨ho,he⟩;refine⟨⟨⟨s,rfl,ho⟩,fun z hz=>by rw[Jx.mp hz];exact he,trivial⟩,?_⟩;have ne:s.1≠s.2.2:=by
   rcases he with⟨_,e⟩ |⟨_,e⟩ |⟨_,e | e⟩
   ·have:=lt _ e;simp only at this;symm
   ·have:=lt _ e;simp only at this;symm
   ·have:=lb _ e;simp only at this;symm
   ·have:=lb _ e;simp only at this;symm
  simp[My.nm,ne]
theorem wm(ok:OkD c ts bs)(hO:Nms c O){tg:List Sp3}(ht:Opn ts bs G A O tg):RdK ts bs G A O tg 1 (iy ts bs O):=by
 have lt:∀p∈ts,p.1<p.2:=fun p hp=>(ok.gt.lo p hp).2.1;have lb:∀p∈bs,p.1<p.2:=fun p hp=>(ok.gb.lo p hp).2.1;refine⟨fun r hr=>?_,⟨Jy _,?_⟩,?_,?_⟩
 ·unfold iy at hr;obtain⟨n,hn,hr⟩:=Lo.mp hr;obtain⟨s,hs,rfl⟩:=Jp.mp hr;have:=gT.mp hs;exact(o3 lt lb).mpr ⟨by rw[this.1];exact hn,this.2⟩
 ·have:=ht.ne;cases tg with
  | nil=>exact absurd rfl this
  | cons _ _=>simp
 ·have h1:(iy ts bs O).length≤O.length*18:=My.dD fun n _=>by rw[Jl];exact gX ok.gt ok.gb ok.c6 n
  have:=hO.len ok.c6;symm
 ·cases tg with
  | nil=>exact absurd rfl ht.ne
  | cons s t =>
   have h1:Opn ts bs G A O ([s]++t):=ht;have h2:=(o3 lt lb).mp (ir h1 (by simp));unfold iy;exact Lo.mpr ⟨s.1,h2.1,Jp.mpr ⟨s,gT.mpr ⟨rfl,h2.2⟩,rfl⟩⟩
theorem tK(ok:OkD c ts bs){tg:List Sp3}(ht:Opn ts bs G A O tg){k:Nat}{rs:List (List Sp3)}(h:RdK ts bs G A O tg k rs)(hk:k<tg.length):RdK ts bs G A O tg (k+1) (rs.flatMap (gS ts bs G A)):=by
 refine⟨fun r hr=>?_,⟨by symm,hk⟩,?_,?_⟩
 ·obtain⟨r0,h0,hr⟩:=Lo.mp hr;obtain⟨s,hs,rfl⟩:=Jp.mp hr;obtain⟨h1,h2⟩:=JU.mp hs;simp only[KO,Bool.not_eq_true',decide_eq_false_iff_not]at h2;exact(lS.mpr ⟨h.ok r0 h0,h1,h2.1,h2.2⟩).1
 ·have h1:(rs.flatMap (gS ts bs G A)).length≤rs.length*18:=My.dD fun r _=>pI ok r;have:=h.le;rw[Nat.pow_succ];symm
 ·have e:tg.take (k+1)=tg.take k++[tg[k]]:=by rw[Kv,Jo hk];rfl
  have h1:Opn ts bs G A O (tg.take k++[tg[k]]++tg.drop (k+1)):=by rw[←e,List.take_append_drop];exact ht
  have h2:=ir h1 (fun z=>by cases (List.append_eq_nil_iff.mp z).2);have ne:tg.take k≠[]:=(h.ok _ h.tg).ne;obtain⟨_,a1,a2,a3⟩:=lS.mp ⟨h2,ne⟩;rw[e];exact Lo.mpr ⟨_,h.tg,Jp.mpr ⟨_,JU.mpr ⟨a1,by simp[a2,a3]⟩,rfl⟩⟩
def ij(H:PHp)(B:List Int)(y:PV):Bool:=match y with
 | .ref r=>(match H r with
  | some (.lst l)=>(match atI l (-1)with
   | some (.tup [_,_,.int b])=>decide (b∈B)
   | _=>false)
  | _=>false)
 | _=>false
theorem iU(h:H r=some (.lst (road.map stV)))(ne:road≠[]):ij H B (.ref r)=decide ((lsS road).2.2∈B):=by
 unfold ij;dsimp only;rw[h];dsimp only;rw[si ne];rfl
theorem a9.mem(h:a9 H q vs ls)(hv:v∈vs):∃l r,l∈ls/\v=.ref r/\r≠q/\H r=some (.lst l):=by
 obtain⟨i,hi⟩:=List.getElem?_of_mem hv;obtain⟨l,r,h1,h2⟩:=h.at hi;exact⟨l,r,JH h1,h2⟩
theorem a9.of(h:a9 H q vs ls)(hl:l∈ls):∃r,PV.ref r∈vs/\H r=some (.lst l):=by
 unfold a9 at h
 induction h with
 | nil=>cases hl
 | cons a _ ih =>
  rcases JD.mp hl with rfl | hl
  ·obtain⟨r,e,_,hr⟩:=a;exact⟨r,by rw[e];exact Jw,hr⟩
  ·obtain⟨r,h1,h2⟩:=ih hl;exact⟨r,Jz _ h1,h2⟩
def mD(t:Ad):Sp':=fun vs H Q _=>ap [.R,.T,.T,.T] (fun x l m n=>∃c ts bs,∃O B G A:List Int,Dr t H x c ts bs/\OkD c ts bs/\l=O.map PV.int/\m=B.map PV.int/\n=G.map PV.int/\Nms c O/\Nms c G/\An ts G A/\(∃r,Opn ts bs G A O r/\(lsS r).2.2∈B) /\
  ∀r H1 road,H r=none->U.Sub H H1->H1 r=some (.lst (road.map stV))->Opn ts bs G A O road->(lsS road).2.2∈B->road.length≤5->Q (.ref r) H1) vs
theorem xw:mD t [.ref x,.tup l,.tup m,.tup n] H Q E=(∃c ts bs,∃O B G A:List Int,Dr t H x c ts bs/\OkD c ts bs/\l=O.map PV.int/\m=B.map PV.int/\n=G.map PV.int/\Nms c O/\Nms c G/\An ts G A/\(∃r,Opn ts bs G A O r/\(lsS r).2.2∈B) /\
  ∀r H1 road,H r=none->U.Sub H H1->H1 r=some (.lst (road.map stV))->Opn ts bs G A O road->(lsS road).2.2∈B->road.length≤5->Q (.ref r) H1):=rfl
structure Wy (ts:List P2) (G:List Int) (m:Int) (w:List Int):Prop where
 hd:w.head?=some m
 ch:My.Chn (fun a b=>(a,b)∈ts) w
 lo:∀x∈w.dropLast,x∉G
 la:∃e∈w.getLast?,e∈G
def lsI(w:List Int):Int:=w.getLastD 0
theorem lC:lsI (p++[e])=e:=by unfold lsI;simp
theorem sm{w:List Int}(h:w≠[]):atI (w.map PV.int) (-1)=some (.int (lsI w)):=by
 rcases KA w with rfl |⟨p,e,rfl⟩
 ·exact absurd rfl h
 ·rw[KC,lC,JB];exact iK
theorem ll{w:List Int}(h:w≠[]):w.getLast?=some (lsI w)/\w=w.dropLast++[lsI w]:=by
 rcases KA w with rfl |⟨p,e,rfl⟩
 ·exact absurd rfl h
 ·rw[KC,lC];simp
def iD(H:PHp)(G:List Int)(y:PV):Bool:=match y with
 | .ref r=>(match H r with
  | some (.lst l)=>(match atI l (-1)with
   | some (.int b)=>decide (b∈G)
   | _=>false)
  | _=>false)
 | _=>false
theorem iN{w:List Int}(h:H r=some (.lst (w.map PV.int)))(ne:w≠[]):iD H G (.ref r)=decide (lsI w∈G):=by
 unfold iD;dsimp only;rw[h];dsimp only;rw[sm ne]
def nX(ts:List P2)(w:List Int):List (List Int):=(fol ts (lsI w)).map fun n=>w++[n]
structure WyO (ts:List P2) (G:List Int) (m:Int) (w:List Int):Prop where
 hd:w.head?=some m
 ch:My.Chn (fun a b=>(a,b)∈ts) w
 lo:∀x∈w.dropLast,x∉G
theorem WyO.ne{w:List Int}(h:WyO ts G m w):w≠[]:=fun e=>by have:=h.hd;rw[e]at this;cases this
structure WyK (ts:List P2) (G:List Int) (m:Int) (tg:List Int) (k:Nat) (ws:List (List Int)):Prop where
 ok:∀w∈ws,WyO ts G m w
 k1:1≤k/\k≤tg.length
 le:ws.length≤6 ^ k
 tg:tg.take k∈ws
theorem uH(ok:OkD c ts bs){G:List Int}{m:Int}{tg:List Int}(ht:My.Chn (fun a b=>(a,b)∈ts) tg){k:Nat}{ws:List (List Int)}(h:WyK ts G m tg k ws)(hk:k<tg.length)(no:∀w∈ws,lsI w∉G):WyK ts G m tg (k+1) (ws.flatMap (nX ts)):=by
 refine⟨fun w hw=>?_,⟨by symm,hk⟩,?_,?_⟩
 ·obtain⟨w0,h0,hw⟩:=Lo.mp hw;obtain⟨n,hn,rfl⟩:=Jp.mp hw;have o:=h.ok w0 h0;obtain⟨l1,l2⟩:=ll o.ne;refine⟨?_,My.bR.mpr ⟨o.ch,trivial,fun a ha b hb=>?_⟩,fun x hx=>?_⟩
  ·have:=o.hd;cases w0 with
   | nil=>cases this
   | cons a w0=>simpa using this
  ·rw[l1]at ha;have ea:lsI w0=a:=JT ha;have eb:n=b:=by simpa using hb
   rw[←ea,← eb];exact dJ.mp hn
  ·have e:(w0++[n]).dropLast=w0:=by simp
   rw[e,l2]at hx;rcases Ju.mp hx with q | q
   ·exact o.lo x q
   ·rw[Jx.mp q];exact no w0 h0
 ·have h1:(ws.flatMap (nX ts)).length≤ws.length*6:=My.dD fun w _=>by unfold nX;rw[Jl];exact cA ok.gt ok.c6 _
  have:=h.le;rw[Nat.pow_succ];symm
 ·have e:tg.take (k+1)=tg.take k++[tg[k]]:=by rw[Kv,Jo hk];rfl
  have o:=h.ok _ h.tg;obtain⟨l1,l2⟩:=ll o.ne;have c1:My.Chn (fun a b=>(a,b)∈ts) (tg.take k++[tg[k]]++tg.drop (k+1)):=by rw[←e,List.take_append_drop];exact ht
  have c2:=(My.bR.mp (My.bR.mp c1).1).2.2 _ l1 _ rfl;rw[e];exact Lo.mpr ⟨_,h.tg,Jp.mpr ⟨_,dJ.mpr c2,rfl⟩⟩
theorem jK{ts:List P2}{G:List Int}:∀{w:List Int},My.Chn (fun a b=>(a,b)∈ts) w->(∃e∈w.getLast?,e∈G)->∀x∈w,My.Reach (ts.map swp) G x
 | [],_,_,x,hx=>by cases hx
 | [a],_,⟨e,he,hg⟩,x,hx=>by
  have:a=e:=by simpa using he
  rw[Jx.mp hx,this];exact .base hg
 | a::b::w,c,⟨e,he,hg⟩,x,hx=>by
  have ih:=jK (w:=b::w) c.2 ⟨e,by rw[Kq]at he;exact he,hg⟩;rcases JD.mp hx with rfl | hx
  ·exact .step (ih b Jw) (Jp.mpr ⟨_,c.1,rfl⟩)
  ·exact ih x hx
theorem An.lo(h:An ts G A)(g:Good c ts)(hG:Nms c G):∀x∈A,0≤x/\x<c:=fun x hx=>by
 cases (h.iff x).mp hx with
 | base h=>exact hG.lo x h
 | step _ e =>
  obtain⟨p,hp,ep⟩:=Jp.mp e;have:=g.lo p hp;unfold swp at ep;cases ep;symm
theorem uZ{c:Int}{ts:List P2}(g:Good c ts):∀{w:List Int},My.Chn (fun a b=>(a,b)∈ts) w->(∀m∈w.head?,0≤m/\m<c)->∀x∈w,0≤x/\x<c
 | [],_,_,x,hx=>by cases hx
 | [a],_,hm,x,hx=>by rw[Jx.mp hx];exact hm a rfl
 | a::b::w,ch,hm,x,hx=>by
  rcases JD.mp hx with rfl | hx
  ·exact hm _ rfl
  ·refine uZ g (w:=b::w) ch.2 (fun m hm=>?_) x hx;have e:b=m:=by simpa using hm
   have:=g.lo _ ch.1;simp only at this;symm
theorem pQ(ok:OkD c ts bs){G:List Int}(hG:Nms c G){w:List Int}(h:My.Chn (fun a b=>(a,b)∈ts) w)(hl:∃e∈w.getLast?,e∈G):w.length≤6:=by
 have up:=My.nR (fun a b e=>(ok.gt.lo _ e).2.1) h;refine My.bN 6 _ (up.imp fun h=>by symm) fun x hx=>?_;have:=ok.c6;cases jK h hl x hx with
 | base h=>have:=hG.lo x h;symm
 | step _ e =>
  obtain⟨p,hp,ep⟩:=Jp.mp e;have:=ok.gt.lo p hp;unfold swp at ep;cases ep;symm
def vH(t:Ad):Sp':=fun vs H Q _=>ap [.R,.I,.T] (fun x m l=>∃c ts bs,∃G A:List Int,Dr t H x c ts bs/\OkD c ts bs/\l=G.map PV.int/\Nms c G/\An ts G A/\m∈A/\∀r H1,∀w:List Int,H r=none->U.Sub H H1->H1 r=some (.lst (w.map PV.int))->Wy ts G m w->w.length≤6->Q (.ref r) H1) vs
theorem Dw:vH t [.ref x,.int m,.tup l] H Q E=(∃c ts bs,∃G A:List Int,Dr t H x c ts bs/\OkD c ts bs/\l=G.map PV.int/\Nms c G/\An ts G A/\m∈A/\∀r H1,∀w:List Int,H r=none->U.Sub H H1->H1 r=some (.lst (w.map PV.int))->Wy ts G m w->w.length≤6->Q (.ref r) H1):=rfl
abbrev inV(ws:List (List Int)):List (List PV):=ws.map fun w=>w.map PV.int
def oJ(t:Ad):Sp':=fun vs H Q _=>ap [.R,.R,.T] (fun x a l=>∃c ts bs,∃G A:List Int,∃road:List Sp3,Dr t H x c ts bs/\OkD c ts bs/\l=G.map PV.int/\Nms c G/\An ts G A/\H a=some (.lst (road.map stV))/\road.length≤100/\(∀m∈mts road,m∈A) /\
  ∀r H1 us,∀ws:List (List Int),H r=none->U.Sub H H1->H1 r=some (.lst us)->a9 H1 r us (inV ws)->Frs H us->Paired (Wy ts G) (mts road) ws->(∀w∈ws,w.length≤6)->Q (.ref r) H1) vs
theorem B7:oJ t [.ref x,.ref a,.tup l] H Q E=(∃c ts bs,∃G A:List Int,∃road:List Sp3,Dr t H x c ts bs/\OkD c ts bs/\l=G.map PV.int/\Nms c G/\An ts G A/\H a=some (.lst (road.map stV))/\road.length≤100/\(∀m∈mts road,m∈A) /\
  ∀r H1 us,∀ws:List (List Int),H r=none->U.Sub H H1->H1 r=some (.lst us)->a9 H1 r us (inV ws)->Frs H us->Paired (Wy ts G) (mts road) ws->(∀w∈ws,w.length≤6)->Q (.ref r) H1):=rfl
structure Tld (ts bs:List P2) (O B G:List Int) (L:List Sd) (A:List Int):Prop where
 an:An ts G A
 nd:L.Nodup
 iff:∀s:Sd,s∈L↔RSG ts bs G A O s.1 s.2
 no:∀s∈L,s.1∉B
structure Rod (ts bs:List P2) (O B G:List Int) (road:List Sp3) (ws:List (List Int)) (A:List Int):Prop where
 an:An ts G A
 op:Opn ts bs G A O road
 la:(lsS road).2.2∈B
 l5:road.length≤5
 wy:Paired (Wy ts G) (mts road) ws
 w6:∀w∈ws,w.length≤6
 ex:∃x p,RSG ts bs G A O x p/\x∈B
theorem oq{G A:List Int}:∀{r:List Sp3},My.Chn (LnG G A) r->∀m∈mts r,m∈A
 | [],_,m,hm=>by cases hm
 | [_],_,m,hm=>by cases hm
 | s::s'::r,h,m,hm=>by
  unfold mts at hm;split at hm
  ·rename_i q;rcases JD.mp hm with rfl | hm
   ·have:=fF.mp q;exact h.1.mt this.1 this.2
   ·exact oq h.2 m hm
  ·exact oq h.2 m hm
theorem px:∀(r:List Sp3),(mts r).length≤r.length
 | []=>by simp[mts]
 | [_]=>by simp[mts]
 | s::s'::r=>by
  have ih:=px (s'::r);unfold mts;split<;>simp at ih ⊢<;>symm
theorem yI(ap:Ap c O B G)(an:An ts G A){x:Int}{p:Bool}(h:RSG ts bs G A O x p)(hx:x∈B):∃r,Opn ts bs G A O r/\(lsS r).2.2∈B:=by
 obtain⟨r,rd,⟨e,he,hb⟩,nd⟩:=My.x5 sU (fun a b e hb=>an.shut a b (by
  rcases e with⟨_,e⟩ |⟨z,_⟩ |⟨z,_⟩
  ·exact e
  ·exact absurd z sU
  ·exact absurd (show("down":Str)="bow" from z) (by decide)) hb) ap.ab ap.ag h hx
 have op:Opn ts bs G A O r:=⟨rd,nd⟩;refine⟨r,op,?_⟩;rcases KA r with rfl |⟨q,z,rfl⟩
 ·exact absurd rfl op.ne
 ·rw[KC]at he ⊢;rw[d8];have:z=e:=by simpa using he
  rw[this];exact hb
def Cw(B:List Int)(y:PV):PV:=match y with | .tup [.int n,_]=>.bl (decide (n∈B)) | _=>.non
theorem Fe{a b:Int}(h:0<b)(hb:My.BN n b):My.BN n (a.fmod b):=by
 have:=fm (a:=a) h;exact hb.of_le (by symm)
structure GL (c i j:Int) (l:List P2):Prop where
 lo:∀p∈l,0≤p.1/\p.1<p.2/\p.2<c/\(p.1<i∨(p.1=i/\p.2<j))
 st:Srt l
theorem GL.nil:GL c i j []:=⟨fun p h=>(by cases h),List.Pairwise.nil⟩
theorem GL.up(h:GL c i j l)(hj:j≤j'):GL c i j' l:=⟨fun p hp=>by have:=h.lo p hp;symm,h.st⟩
theorem GL.nx(h:GL c i j l)(j':Int):GL c (i+1) j' l:=⟨fun p hp=>by have:=h.lo p hp;symm,h.st⟩
theorem GL.app(h:GL c i j l)(h0:0≤i)(hj:i<j)(hc:j<c)(c6:c≤6):GL c i (j+1) (l++[(i,j)]):=by
 refine⟨fun p hp=>?_,K4.mpr ⟨h.st,KN _ _,fun p hp q hq=>?_⟩⟩
 ·rcases Ju.mp hp with q | q
  ·have:=h.lo p q;symm
  ·rw[Jx]at q;subst q;exact⟨h0,hj,hc,.inr ⟨rfl,by show j<j+1;symm⟩⟩
 ·rw[Jx]at hq;subst hq;have:=h.lo p hp;show 6*p.1+p.2<6*i+j;symm
theorem GL.good(h:GL c i j l):Good c l:=⟨h.st.imp fun {a b} h e=>by subst e;exact absurd h (Int.lt_irrefl _),fun p hp=>by have:=h.lo p hp;symm⟩
def zr:Sp':=fun vs H Q _=>ap [.I,.I] (fun u k=>(0≤k/\k<100)/\∀n:Int,Q (.int n) H) vs
theorem G8:zr [.int u,.int k] H Q E=((0≤k/\k<100)/\∀n:Int,Q (.int n) H):=rfl
def vd:Sp':=fun vs H Q _=>ap [.F,.I,.I] (fun l k c=>(0≤k/\k<60)/\(1≤c/\c≤6)/\∃ns:List Int,l=ns.map PV.int/\∀ts bs,OkD c ts bs->Q (shp c ts bs) H) vs
theorem D5:vd [.fls l,.int k,.int c] H Q E=((0≤k/\k<60)/\(1≤c/\c≤6)/\∃ns:List Int,l=ns.map PV.int/\∀ts bs,OkD c ts bs->Q (shp c ts bs) H):=rfl
def mn:Sp':=fun vs H Q _=>ap [.T,.T] (fun l m=>∃c ts bs,∃G:List Int,PV.tup l=shp c ts bs/\m=G.map PV.int/\OkD c ts bs/\Nms c G/\∀r H1,∀F A:List Int,H r=none->U.Sub H H1->H1 r=some (.lst (F.map PV.int))->An ts G A->(∀y,y∈F↔y∈A)->Q (.ref r) H1) vs
theorem yT:mn [.tup l,.tup m] H Q E=(∃c ts bs,∃G:List Int,PV.tup l=shp c ts bs/\m=G.map PV.int/\OkD c ts bs/\Nms c G/\∀r H1,∀F A:List Int,H r=none->U.Sub H H1->H1 r=some (.lst (F.map PV.int))->An ts G A->(∀y,y∈F↔y∈A)->Q (.ref r) H1):=rfl
def lh:Sp':=fun vs H Q _=>ap [.T,.V,.T,.R] (fun l u m a=>∃c ts bs,∃G F A:List Int,∃n p,u=sdV (n,p)/\PV.tup l=shp c ts bs/\m=G.map PV.int/\OkD c ts bs/\H a=some (.lst (F.map PV.int))/\(∀y,y∈F↔y∈A)/\∀r H1,∀L:List Sd,H r=none->U.Sub H H1->H1 r=some (.lst (L.map sdV))->(∀z,z∈L↔z∈bes ts bs G A (n,p))->L.length≤60->Q (.ref r) H1) vs
theorem xH:lh [.tup l,u,.tup m,.ref a] H Q E=(∃c ts bs,∃G F A:List Int,∃n p,u=sdV (n,p)/\PV.tup l=shp c ts bs/\m=G.map PV.int/\OkD c ts bs/\H a=some (.lst (F.map PV.int))/\(∀y,y∈F↔y∈A)/\∀r H1,∀L:List Sd,H r=none->U.Sub H H1->H1 r=some (.lst (L.map sdV))->(∀z,z∈L↔z∈bes ts bs G A (n,p))->L.length≤60->Q (.ref r) H1):=rfl
def iO:Sp':=fun vs H Q _=>ap [.T,.T,.T] (fun l m n=>∃c ts bs,∃O G:List Int,PV.tup l=shp c ts bs/\m=O.map PV.int/\n=G.map PV.int/\OkD c ts bs/\Nms c O/\Nms c G/\∀r H1 A,∀L:List Sd,U.Sub H H1->An ts G A->H1 r=some (.lst (L.map sdV))->L.length≤12->(∀s:Sd,s∈L↔RSG ts bs G A O s.1 s.2)->Q (.ref r) H1) vs
theorem qE:iO [.tup l,.tup m,.tup n] H Q E=(∃c ts bs,∃O G:List Int,PV.tup l=shp c ts bs/\m=O.map PV.int/\n=G.map PV.int/\OkD c ts bs/\Nms c O/\Nms c G/\∀r H1 A,∀L:List Sd,U.Sub H H1->An ts G A->H1 r=some (.lst (L.map sdV))->L.length≤12->(∀s:Sd,s∈L↔RSG ts bs G A O s.1 s.2)->Q (.ref r) H1):=rfl
def lP:Sp':=fun vs H Q _=>ap [.T,.T,.T,.T] (fun l m k n=>∃c ts bs,∃O B G:List Int,PV.tup l=shp c ts bs/\m=O.map PV.int/\k=B.map PV.int/\n=G.map PV.int/\OkD c ts bs/\Nms c O/\Nms c G/\∀b A,An ts G A->(b=true↔∀x p,RSG ts bs G A O x p->x∉B)->Q (.bl b) H) vs
theorem yn:lP [.tup l,.tup m,.tup k,.tup n] H Q E=(∃c ts bs,∃O B G:List Int,PV.tup l=shp c ts bs/\m=O.map PV.int/\k=B.map PV.int/\n=G.map PV.int/\OkD c ts bs/\Nms c O/\Nms c G/\∀b A,An ts G A->(b=true↔∀x p,RSG ts bs G A O x p->x∉B)->Q (.bl b) H):=rfl
structure Pt (n:Nat) (c:Int) (Ls:List (List Int)):Prop where
 len:Ls.length=n
 up:∀L∈Ls,L.Pairwise (·<·)
 pm:Ls.flatten.Perm (ulN c)
theorem Pt.nms(h:Pt n c Ls):∀L∈Ls,Nms c L:=fun L hL=>⟨h.up L hL,fun x hx=>cB.mp (h.pm.mem_iff.mp (List.mem_flatten.mpr ⟨L,hL,hx⟩))⟩
def nh:Sp':=fun vs H Q _=>ap [.I,.I,.I] (fun _ c k=>(1≤c/\c≤6)/\(1≤k/\k≤10)/\∀r H1,∀Ls:List (List Int),H r=none->U.Sub H H1->H1 r=some (.lst (Ls.map tupI))->Pt k.toNat c Ls->Q (.ref r) H1) vs
theorem xO:nh [.int n,.int c,.int k] H Q E=((1≤c/\c≤6)/\(1≤k/\k≤10)/\∀r H1,∀Ls:List (List Int),H r=none->U.Sub H H1->H1 r=some (.lst (Ls.map tupI))->Pt k.toNat c Ls->Q (.ref r) H1):=rfl
def mU:Sp':=fun vs H Q _=>ap [.R,.I] (fun a j=>∃n c,∃Ls:List (List Int),H a=some (.lst (Ls.map tupI))/\Pt n c Ls/\(1≤c/\c≤6)/\n≤10/\(0≤j/\j<n)/\∀r H1,∀Ms:List (List Int),U.Sub H H1->H1 r=some (.lst (Ms.map tupI))->Pt n c Ms->Ms[j.toNat]?≠some []->Q (.ref r) H1) vs
theorem wc:mU [.ref a,.int j] H Q E=(∃n c,∃Ls:List (List Int),H a=some (.lst (Ls.map tupI))/\Pt n c Ls/\(1≤c/\c≤6)/\n≤10/\(0≤j/\j<n)/\∀r H1,∀Ms:List (List Int),U.Sub H H1->H1 r=some (.lst (Ms.map tupI))->Pt n c Ms->Ms[j.toNat]?≠some []->Q (.ref r) H1):=rfl
def bA(F:List Int)(p:P2):List Int:=if p.2∈F/\p.1∉F then F++[p.1]else F
theorem Cc(h:x∈F):x∈bA F p:=by
 unfold bA;split
 ·exact JN _ h
 ·exact h
theorem iT:∀(l:List P2) {F:List Int} {x:Int},x∈F->x∈l.foldl bA F
 | [],_,_,h=>h
 | _::l,_,_,h=>iT l (Cc h)
theorem kI:∀(l:List P2) {F:List Int} {x:Int},x∈l.foldl bA F->x∈F∨∃p∈l,p.1=x
 | [],_,_,h=>.inl h
 | p::l,F,x,h=>by
  rcases kI l (F:=bA F p) h with q |⟨z,hz,e⟩
  ·unfold bA at q;split at q
   ·rcases Ju.mp q with q | q
    ·exact .inl q
    ·exact .inr ⟨p,Jw,(Jx.mp q).symm⟩
   ·exact .inl q
  ·exact .inr ⟨z,Jz _ hz,e⟩
theorem h8{E:List P2}{G:List Int}:∀(l:List P2) {F:List Int},(∀p∈l,(p.2,p.1)∈E)->(∀x∈F,My.Reach E G x)->∀x∈l.foldl bA F,My.Reach E G x
 | [],_,_,h,x,hx=>h x hx
 | p::l,F,he,h,x,hx=>by
  refine h8 l (F:=bA F p) (fun q hq=>he q (Jz _ hq)) (fun y hy=>?_) x hx;unfold bA at hy;split at hy
  ·rename_i c;rcases Ju.mp hy with q | q
   ·exact h y q
   ·rw[Jx.mp q];exact .step (h _ c.1) (he p Jw)
  ·exact h y hy
theorem oI:∀(l:List P2),l.Pairwise (fun x y=>ST.pk y<ST.pk x)->(∀p∈l,0≤p.1/\p.1<p.2/\p.2<6)->∀{F:List Int} {a b:Int},(a,b)∈l->b∈l.foldl bA F->a∈l.foldl bA F
 | [],_,_,_,_,_,h,_=>by cases h
 | p::l,hs,hl,F,a,b,h,hb=>by
  rw[Le]at hs;rcases JD.mp h with e | h
  ·subst e;refine iT l (F:=bA F (a,b)) ?_;have h0:=hl (a,b) Jw;simp only at h0;have bF:b∈F:=by
    rcases kI l (F:=bA F (a,b)) hb with q |⟨z,hz,e⟩
    ·unfold bA at q;split at q
     ·rcases Ju.mp q with q | q
      ·exact q
      ·have:=Jx.mp q;simp only at this;symm
     ·exact q
    ·have h1:6*z.1+z.2<6*a+b:=hs.1 z hz;have h2:=hl z (Jz _ hz);symm
   unfold bA;by_cases ha:a∈F
   ·rw[JK (fun c=>c.2 ha)];exact ha
   ·rw[JL ⟨bF,ha⟩];simp
  ·exact oI l hs.2 (fun q hq=>hl q (Jz _ hq)) (F:=bA F p) h hb
theorem Av(ok:OkD c ts bs){G:List Int}(x:Int):x∈ts.reverse.foldl bA G↔My.Reach (ts.map swp) G x:=by
 have c6:=ok.c6;constructor
 ·exact fun h=>h8 ts.reverse (E:=ts.map swp) (G:=G) (fun p hp=>Jp.mpr ⟨p,List.mem_reverse.mp hp,rfl⟩) (fun y hy=>.base hy) x h
 ·intro h
  induction h with
  | base h=>exact iT _ h
  | step _ e ih =>
   obtain⟨p,hp,ep⟩:=Jp.mp e;unfold swp at ep;cases ep;refine oI ts.reverse (List.pairwise_reverse.mpr ok.st) (fun q hq=>?_) (b:=p.2) (List.mem_reverse.mpr hp) ih;have:=ok.gt.lo q (List.mem_reverse.mp hq);symm
theorem Ep(ok:OkD c ts bs){G F:List Int}(hG:Nms c G)(h:∀x,x∈F↔My.Reach (ts.map swp) G x):∃A,An ts G A/\∀y,y∈F↔y∈A:=by
 have lo:∀y∈F,0≤y/\y<c:=fun y hy=>by
  cases (h y).mp hy with
  | base h=>exact hG.lo y h
  | step _ e =>
   obtain⟨p,hp,ep⟩:=Jp.mp e;have:=ok.gt.lo p hp;unfold swp at ep;cases ep;symm
 have iff:∀y,y∈(ulN c).filter (fun y=>decide (y∈F))↔y∈F:=fun y=>by
  rw[JU,Kk];exact⟨fun z=>z.2,fun z=>⟨cB.mpr (lo y z),z⟩⟩
 exact⟨_,⟨(kN c).filter _,fun y=>(iff y).trans (h y)⟩,fun y=>(iff y).symm⟩
theorem ux:((ts.map prV).filter (at0 n)).map (fun y=>PV.tup [g1 y,.bl b])=((fol ts n).map fun m=>((m,b):Sd)).map sdV:=by
 have e:(fun y=>PV.tup [g1 y,.bl b])=(fun z=>PV.tup [z,.bl b]) ∘ g1:=rfl;have fl:((ts.map prV).filter (at0 n)).map g1=(fol ts n).map PV.int:=dZ;rw[e,← JS,fl,JS,JS];rfl
theorem ve:((ts.map prV).filter (at1 n)).map (fun y=>PV.tup [g0 y,.bl b])=((src ts n).map fun m=>((m,b):Sd)).map sdV:=by
 have e:(fun y=>PV.tup [g0 y,.bl b])=(fun z=>PV.tup [z,.bl b]) ∘ g0:=rfl;have fl:((ts.map prV).filter (at1 n)).map g0=(src ts n).map PV.int:=src_list;rw[e,← JS,fl,JS,JS];rfl
theorem or4{a b y w:Prop}:(((a∨b)∨y)∨w)↔(a∨(b∨(w∨y))):=⟨by rintro(((h | h) | h) | h)<;>simp[h],by rintro(h | h | h | h)<;>simp[h]⟩
structure RI (ts bs:List P2) (G A O:List Int) (L:List Sd) (k:Nat):Prop where
 nd:L.Nodup
 rl:∀s∈L,RSG ts bs G A O s.1 s.2
 st:∀x∈O,(x,false)∈L
 sh:∀s∈L.take k,∀z∈bes ts bs G A s,z∈L
theorem RI.iff(h:RI ts bs G A O L k)(hk:L.length≤k)(s:Sd):s∈L↔RSG ts bs G A O s.1 s.2:=by
 refine⟨h.rl s,fun r=>?_⟩;have e:L.take k=L:=KP hk;have sh:=h.sh;rw[e]at sh;exact qp h.st sh r
def uv(O:List Int):List Sd:=O.map fun m=>((m,false):Sd)
def inB(B:List Int)(y:PV):Bool:=match y with | .tup [.int n,_]=>decide (n∈B) | _=>false
theorem Gp:flat n (.int k)=true:=by cases n<;>rfl
theorem HH:flat n (.bl k)=true:=by cases n<;>rfl
structure Rl (H:PHp) (q:Addr) (rs:List Addr) (Ls:List (List Int)):Prop where
 nd:rs.Nodup
 at':Paired (fun r (L:List Int)=>r≠q/\H r=some (.lst (L.map PV.int))) rs Ls
theorem Rl.up(h:Rl H q rs Ls)(s:U.Sub H H1):Rl H1 q rs Ls:=⟨h.nd,Paired.mapP h.at' fun _ _ y_=>by obtain⟨a,b⟩:=y_;exact ⟨a,s _ _ b⟩⟩
theorem vc{H:PHp}{q:Addr}{M:List Int}:∀{rs:List Addr} {Ls:List (List Int)} {k:Nat} (hk:k<rs.length),rs.Nodup->Paired (fun r (L:List Int)=>r≠q/\H r=some (.lst (L.map PV.int))) rs Ls->Paired (fun r (L:List Int)=>r≠q/\put H rs[k] (.lst (M.map PV.int)) r=some (.lst (L.map PV.int))) rs (Ls.set k M)
 | r::rs,L::Ls,0,hk,nd,.cons h t=>by
  rw[K0]at nd;refine .cons ⟨h.1,ao⟩ ?_;have:∀{rs:List Addr} {Ls:List (List Int)},r∉rs->Paired (fun r (L:List Int)=>r≠q/\H r=some (.lst (L.map PV.int))) rs Ls->Paired (fun z (L:List Int)=>z≠q/\put H r (.lst (M.map PV.int)) z=some (.lst (L.map PV.int))) rs Ls:=fun {rs Ls} hn p=>by
   induction p with
   | nil=>exact .nil
   | cons a _ ih=>exact .cons ⟨a.1,(au fun e=>hn (by rw[e];exact Jw)).trans a.2⟩ (ih fun z=>hn (Jz _ z))
  exact this nd.1 t
 | r::rs,L::Ls,k+1,hk,nd,.cons h t=>by
  rw[K0]at nd;have hk':k<rs.length:=by simpa using hk
  exact .cons ⟨h.1,(au fun e=>nd.1 (by rw[e];exact JV hk')).trans h.2⟩ (vc hk' nd.2 t)
theorem fR{α:Type}:∀{Ls:List (List α)} {k:Nat} (hk:k<Ls.length) (X:List α),((Ls.set k X).flatten++Ls[k]).Perm (Ls.flatten++X)
 | L::Ls,0,_,X=>by
  simp only[List.set_cons_zero,List.flatten_cons,List.getElem_cons_zero];refine(La (l₁:=X++Ls.flatten) (l₂:=L)).trans ?_;rw[KL];exact List.Perm.append_left L La
 | L::Ls,k+1,hk,X=>by
  simp only[List.set_cons_succ,List.flatten_cons,List.getElem_cons_succ,KL];exact List.Perm.append_left L (fR (by simpa using hk) X)
theorem xP:ulN ((i+1:Nat):Int)=ulN (i:Nat)++[((i:Nat):Int)]:=by
 unfold ulN;rw[J7,J7,List.range_succ,JB];rfl
structure PtI (n:Nat) (i:Nat) (Ls:List (List Int)):Prop where
 len:Ls.length=n
 up:∀L∈Ls,L.Pairwise (·<·)
 pm:Ls.flatten.Perm (ulN (i:Nat))
theorem PtI.next(h:PtI n i Ls)(hk:k<Ls.length):PtI n (i+1) (Ls.set k (Ls[k]++[((i:Nat):Int)])):=by
 refine⟨by rw[Lx];exact h.len,fun L hL=>?_,?_⟩
 ·rcases List.mem_or_eq_of_mem_set hL with q | q
  ·exact h.up L q
  ·subst q;refine K4.mpr ⟨h.up _ (JV hk),KN _ _,fun x hx y hy=>?_⟩;rw[Jx]at hy;subst hy;exact(cB.mp (h.pm.mem_iff.mp (List.mem_flatten.mpr ⟨_,JV hk,hx⟩))).2
 ·have p:=fR hk (Ls[k]++[((i:Nat):Int)]);rw[xP];have p2:((Ls.set k (Ls[k]++[((i:Nat):Int)])).flatten++Ls[k]).Perm ((Ls.flatten++[((i:Nat):Int)])++Ls[k]):=by
   refine p.trans ?_;rw[KL];exact List.Perm.append_left _ La
  exact((List.perm_append_right_iff _).mp p2).trans (h.pm.append_right _)
theorem yj(h:Paired (fun r (L:List Int)=>r≠q/\H r=some (.lst (L.map PV.int))) rs Ls):(rs.map PV.ref).map (nO H)=Ls.map tupI:=by
 induction h with
 | nil=>rfl
 | cons h _ ih=>rw[JF,JF,JF,ih,dX h.2];rfl
theorem xI{α:Type}(f:α->PV)(P:List α)(e:α):bO ((P++[e]).map f) (some (-1)) none=[f e]:=by
 have h:HT.sIx ((P++[e]).map f).length 0 (some (-1))=P.length:=by
  unfold HT.sIx;rw[Jl];simp;symm
 unfold bO;rw[h,HT.fD,Jl,JB,List.drop_append_of_le_length (by simp)];have:(P.map f).drop P.length=[]:=List.drop_of_length_le (by simp);rw[this];simp
theorem Pt.move(h:Pt n c Ls){j pl:Nat}(hj:j<Ls.length)(hp:pl<Ls.length){P:List Int}{e:Int}(ej:Ls[j]=[])(ep:Ls[pl]=P++[e]):Pt n c ((Ls.set j [e]).set pl P)/\((Ls.set j [e]).set pl P)[j]?=some [e]:=by
 have ne:pl≠j:=fun z=>by subst z;rw[ej]at ep;simp at ep
 have hp':pl<(Ls.set j [e]).length:=by rw[Lx];exact hp
 have eA:(Ls.set j [e])[pl]=P++[e]:=by rw[List.getElem_set_ne ne.symm];exact ep
 refine⟨⟨by rw[Lx,Lx];exact h.len,fun L hL=>?_,?_⟩,?_⟩
 ·rcases List.mem_or_eq_of_mem_set hL with q | q
  ·rcases List.mem_or_eq_of_mem_set q with q | q
   ·exact h.up L q
   ·subst q;exact KN _ _
  ·subst q;have:=h.up _ (JV hp);rw[ep]at this;exact(K4.mp this).1
 ·have p1:=fR hj [e];rw[ej,JQ]at p1;have p2:=fR hp' P;rw[eA]at p2;have p3:(((Ls.set j [e]).set pl P).flatten++(P++[e])).Perm (Ls.flatten++(P++[e])):=by
   refine p2.trans ((p1.append_right P).trans ?_);rw[KL];exact List.Perm.append_left _ La
  exact((List.perm_append_right_iff _).mp p3).trans h.pm
 ·rw[Lg ne,KI hj]
theorem ix{α:Type}{k:Nat}:∀{Ls:List (List α)},(∀L∈Ls,L.length≤k)->Ls.flatten.length≤Ls.length*k
 | [],_=>by simp
 | L::Ls,h=>by
  have:=ix (k:=k) (Ls:=Ls) fun M hM=>h M (Jz _ hM);have h1:=h L Jw;rw[List.flatten_cons,Jr,JR,Nat.add_mul];symm
theorem Pt.ap(h:Pt 4 c [O,B,G,R])(no:O≠[])(nb:B≠[]):Ap c O B G:=by
 have n:=h.nms;have nd:(O++(B++(G++(R++[])))).Nodup:=h.pm.nodup_iff.mpr ((kN c).imp fun h=>by symm);refine⟨n O (by simp),n B (by simp),n G (by simp),nd.sublist ?_,no,nb⟩;exact Lf (Lf (Lf (List.nil_sublist _) G) B) O
def qM(ts bs:List P2)(G N A B:List Int):Prop:=∀x p,RSG ts bs G N A x p->x∉B
def k9:Sp':=fun vs H Q _=>ap [.I,.T] (fun c l=>∃L:List Int,l=L.map PV.int/\(Nms c L->Q (.bl true) H)/\(¬Nms c L->Q (.bl false) H)) vs
theorem xX:k9 [.int c,.tup l] H Q E=(∃L:List Int,l=L.map PV.int/\(Nms c L->Q (.bl true) H)/\(¬Nms c L->Q (.bl false) H)):=rfl
def el(t:Ad):Sp':=fun vs H Q E=>ap [.R,.T] (fun x l=>∃c ts bs,∃L:List Int,Dr t H x c ts bs/\l=L.map PV.int/\(Nms c L->Q .non H)/\(¬Nms c L->E (.ref t.a_K) none H)) vs
theorem iB:el t [.ref x,.tup l] H Q E=∃c ts bs,∃L:List Int,Dr t H x c ts bs/\l=L.map PV.int/\(Nms c L->Q .non H)/\(¬Nms c L->E (.ref t.a_K) none H):=rfl
def ft(t:Ad):Sp':=fun vs H Q E=>ap [.R,.R] (fun x a=>∃c ts bs,∃Ls:List (List Int),Dr t H x c ts bs/\H a=some (.lst (Ls.map tupI))/\((∀L∈Ls,Nms c L)->Q .non H)/\(¬(∀L∈Ls,Nms c L)->E (.ref t.a_K) none H)) vs
theorem mh:ft t [.ref x,.ref a] H Q E=(∃c ts bs,∃Ls:List (List Int),Dr t H x c ts bs/\H a=some (.lst (Ls.map tupI))/\((∀L∈Ls,Nms c L)->Q .non H)/\(¬(∀L∈Ls,Nms c L)->E (.ref t.a_K) none H)):=rfl
def eS(t:Ad):Sp':=fun vs H Q E=>ap [.R] (fun a=>∃c,∃Ls:List (List Int),H a=some (.lst (Ls.map tupI))/\(∀L∈Ls,Nms c L)/\c≤6/\Ls.length≤10/\(Ls.flatten.Nodup->Q .non H)/\(¬Ls.flatten.Nodup->∀H1,U.Sub H H1->E (.ref t.a_P) none H1)) vs
theorem j4:eS t [.ref a] H Q E=(∃c,∃Ls:List (List Int),H a=some (.lst (Ls.map tupI))/\(∀L∈Ls,Nms c L)/\c≤6/\Ls.length≤10/\(Ls.flatten.Nodup->Q .non H)/\(¬Ls.flatten.Nodup->∀H1,U.Sub H H1->E (.ref t.a_P) none H1)):=rfl
def N3(c:Int)(A B G:List Int):Prop:=Nms c A/\Nms c B/\Nms c G
def Rf3(t:Ad)(c:Int)(A B G:List Int)(H:PHp)(E:XK'):Prop:=(¬N3 c A B G->∀H1,U.Sub H H1->E (.ref t.a_K) none H1)/\(N3 c A B G->¬Ap c A B G->∀H1,U.Sub H H1->E (.ref t.a_P) none H1)
def gB(t:Ad):Sp':=fun vs H Q E=>ap [.R,.T,.T,.T] (fun x l m n=>∃c ts bs,∃A B G:List Int,Dr t H x c ts bs/\c≤6/\l=A.map PV.int/\m=B.map PV.int/\n=G.map PV.int/\(Ap c A B G->Q .non H)/\Rf3 t c A B G H E) vs
theorem ox:gB t [.ref x,.tup l,.tup m,.tup n] H Q E=(∃c ts bs,∃A B G:List Int,Dr t H x c ts bs/\c≤6/\l=A.map PV.int/\m=B.map PV.int/\n=G.map PV.int/\(Ap c A B G->Q .non H)/\Rf3 t c A B G H E):=rfl
def h9(t:Ad):Sp':=fun vs H Q E=>ap [.R,.T,.T,.T] (fun x l m n=>∃c ts bs,∃A B G:List Int,Dr t H x c ts bs/\OkD c ts bs/\l=A.map PV.int/\m=B.map PV.int/\n=G.map PV.int/\(Ap c A B G->∀b v H1 N,U.Sub H H1->An ts G N->(b=true↔qM ts bs G N A B)->Q (.tup [.bl b,v]) H1)/\Rf3 t c A B G H E) vs
theorem rH:h9 t [.ref x,.tup l,.tup m,.tup n] H Q E=(∃c ts bs,∃A B G:List Int,Dr t H x c ts bs/\OkD c ts bs/\l=A.map PV.int/\m=B.map PV.int/\n=G.map PV.int/\(Ap c A B G->∀b v H1 N,U.Sub H H1->An ts G N->(b=true↔qM ts bs G N A B)->Q (.tup [.bl b,v]) H1)/\Rf3 t c A B G H E):=rfl
theorem Ap.n3(h:Ap c A B G):N3 c A B G:=⟨h.a,h.b,h.g⟩
def jw:Sp':=fun vs H Q _=>ap [.T,.I] (fun l c=>∃L:List Int,l=L.map PV.int/\L.length≤100/\∀b:Bool,(b=true↔Nms c L)->Q (.bl b) H) vs
theorem uy:jw [.tup l,.int c] H Q E=(∃L:List Int,l=L.map PV.int/\L.length≤100/\∀b:Bool,(b=true↔Nms c L)->Q (.bl b) H):=rfl
theorem uX(h:N3 c A B G):Ap c A B G↔(A++(B++(G++[]))).Nodup/\A≠[]/\B≠[]:=⟨fun a=>⟨a.nd,a.na,a.nb⟩,fun y_=>by obtain⟨x,y,z⟩:=y_;exact ⟨h.1,h.2.1,h.2.2,x,y,z⟩⟩
theorem ke{L:List Int}(h:∀x∈L,0≤x):(L.map Int.toNat).Nodup↔L.Nodup:=by
 rw[Kl,Kl,KH];constructor
 ·exact fun p=>p.imp fun n e=>n (by rw[e])
 ·exact fun p=>List.Pairwise.imp_of_mem (fun {x y} hx hy hxy=>by have h1:=h x hx;have h2:=h y hy;symm) p
theorem vP{xs:List (Str×Bool)}(hl:l.length≤30)(hx:pairs l bs=xs.map pr)(hv:rO [some (.ref a),o] H l bs)(h:∀q,H q=none->R D [some (.ref a),some (.ref q)] (put H q (.lst (xs.map pr)))):kH (jV (Bp (kq l)) (du 1)) R D [some (.ref a),o] H:=by
 show kq l _ H fun xs H1=>_;have hn:=pairs_len l bs;refine lI hv ⟨ah (by symm),fun q hq=>?_⟩;rw[hx];exact h q hq
def kT2(y:PV):Bool:=match y with | .tup [_,.bl b]=>b | _=>false
def kN2(y:PV):PV:=match y with | .tup [n,_]=>n | _=>.non
theorem tQ{xs:List (Str×Bool)}{Q:VK'}(hn:((xs.map pr).filter kT2).map kN2=[.str nm])(hl:xs.length≤100)(h:∀r H1,U.Sub H H1->H1 r=some (.lst [.str nm])->Q (.ref r) H1)(q:Addr)(hq:H q=none) :
  ∀acc,put H q (.lst (xs.map pr)) acc=none->cp (fun H=>H q=some (.lst (xs.map pr))) (A3 2 (pL (du 0) (pL (du 1) yk))) (fI (fC 1)) (fC 0) acc (fun v H=>∃H3,U.Sub H3 H/\Q v H3) (xs.map pr) [none,none] (put (put H q (.lst (xs.map pr))) acc (.lst [])):=fun acc hacc=>by
 have nq:q≠acc:=fun e=>by subst e;rw[ao]at hacc;cases hacc
 refine aE kN2 kT2 (fun σ=>∃z z2,σ=[z,z2]) (by rw[Jl];symm) (fun _=>(au nq).trans ao) ?_ ?_ ⟨_,_,rfl⟩
 ·rintro y hy l σ R' ⟨z,z2,rfl⟩ hl kT kF;obtain⟨p,hp,rfl⟩:=Jp.mp hy;have e1:kT2 (pr p)=p.2:=rfl;rw[e1]at kT kF;show _/\_;refine⟨rfl,?_⟩;show([]:List PV)=[]/\_;exact⟨rfl,aV (fun q=>⟨_,ao,hl,by rw[aH];exact kT q _ ⟨_,_,rfl⟩⟩) (fun q=>kF q _ ⟨_,_,rfl⟩)⟩
 ·rw[hn];have s1:=(Sub.refl H).put (o:=.lst (xs.map pr)) hq;exact⟨_,Sub.refl _,h acc _ (s1.put (s1.free hacc)) ao⟩
noncomputable def qA (c:Int) (y:PV):Bool:=@decide (∃L:List Int,y=tupI L/\¬Nms c L) (Classical.propDecidable _)
theorem kW:∀{L M:List Int},L.map PV.int=M.map PV.int->L=M
 | [],[],_=>rfl
 | [],_::_,h=>by simp at h
 | _::_,[],h=>by simp at h
 | x::L,y::M,h=>by
  simp only[JF,List.cons.injEq,PV.int.injEq]at h;rw[h.1,kW h.2]
theorem kA:qA c (.tup (L.map PV.int))=true↔¬Nms c L:=by
 unfold qA;rw[@decide_eq_true_iff _ (Classical.propDecidable _)];constructor
 ·rintro⟨M,e,h⟩;unfold tupI at e;injection e with e;rw[kW e];exact h
 ·exact fun h=>⟨L,rfl,h⟩
theorem DD:(10:Int) ^ Int.toNat 30≠0:=by decide +kernel
theorem vj{α:Type}(f:α->PV)(l:List α):∃m:List α,bO (l.map f) (some (-1)) none=m.map f/\m.length≤1/\∀x∈m,x∈l:=by
 refine⟨l.drop (l.length - 1),?_,by rw[Ld];symm,fun x hx=>List.mem_of_mem_drop hx⟩;have e:HT.sIx (l.map f).length 0 (some (-1))=l.length - 1:=by
  unfold HT.sIx;rw[Jl];simp;symm
 unfold bO;rw[e,HT.fD,Jl,List.map_drop];exact KP (by rw[Ld,Jl];symm)
theorem DJ{A B G:List Int}(h0:0≤i)(h1:i<3)(hA:A.length≤6)(hB:B.length≤6)(hG:G.length≤6):∃M:List Int,atI [PV.tup (A.map PV.int),.tup (B.map PV.int),.tup (G.map PV.int)] i=some (.tup (M.map PV.int))/\M.length≤6:=by
 have:i=0∨i=1∨i=2:=by symm
 rcases this with rfl | rfl | rfl
 ·exact⟨A,rfl,hA⟩
 ·exact⟨B,rfl,hB⟩
 ·exact⟨G,rfl,hG⟩
theorem HY{A B G M:List Int}(h0:0≤i)(h1:i<3)(hA:A.length≤6)(hB:B.length≤6)(hG:G.length≤6)(hM:M.length≤20):∃A' B' G':List Int,(bO [PV.tup (A.map PV.int),.tup (B.map PV.int),.tup (G.map PV.int)] none (some i)++[PV.tup (M.map PV.int)])++bO [PV.tup (A.map PV.int),.tup (B.map PV.int),.tup (G.map PV.int)] (some (i+1)) none=[tupI A',tupI B',tupI G']/\A'.length≤20/\B'.length≤20/\G'.length≤20/\(bO [PV.tup (A.map PV.int),.tup (B.map PV.int),.tup (G.map PV.int)] none (some i)).length≤3/\(bO [PV.tup (A.map PV.int),.tup (B.map PV.int),.tup (G.map PV.int)] (some (i+1)) none).length≤3:=by
 have:i=0∨i=1∨i=2:=by symm
 rcases this with rfl | rfl | rfl
 ·exact⟨M,B,G,rfl,hM,by symm,by symm,J0 rfl,J0 rfl⟩
 ·exact⟨A,M,G,rfl,by symm,hM,by symm,J0 rfl,J0 rfl⟩
 ·exact⟨A,B,M,rfl,by symm,by symm,hM,J0 rfl,J0 rfl⟩
def onP(f:P2->Bool)(y:PV):Bool:=match y with | .tup [.int u,.int v]=>f (u,v) | _=>false
theorem eD{p:P2}:onP f (prV p)=f p:=rfl
theorem cz{f:P2->Bool}:∀{ts:List P2},((ts.map prV).filter (onP f)).map (fun y=>y)=(ts.filter f).map prV
 | []=>rfl
 | p::ts=>by
  have ih:=cz (f:=f) (ts:=ts);rw[JF,Ku,Ku,eD];by_cases h:f p=true
  ·rw[JL h,JL h,JF,JF,ih]
  ·rw[JK h,JK h,ih]
theorem cG{q:Int->Bool}:∀{l:List Int},((l.map PV.int).filter (onI q)).map (fun y=>y)=(l.filter q).map PV.int
 | []=>rfl
 | k::l=>by
  have e:onI q (PV.int k)=q k:=rfl;rw[JF,Ku,Ku,e];by_cases h:q k=true
  ·rw[JL h,JL h,JF,JF,cG]
  ·rw[JK h,JK h,cG]
theorem qX{α:Type}{l:List α}:l.filter (fun _=>true)=l:=Kr.mpr fun _ _=>rfl
theorem fb2{bs:List P2}:bs.filter (FB 2 L)=bs:=qX
def ig:Sp':=fun vs H Q _=>ap [.T,.T] (fun l m=>∃A B:List Int,l=A.map PV.int/\m=B.map PV.int/\A.length≤1000/\Q (.tup ((A.filter fun y=>!decide (y∈B)).map PV.int)) H) vs
theorem rG:ig [.tup l,.tup m] H Q E=(∃A B:List Int,l=A.map PV.int/\m=B.map PV.int/\A.length≤1000/\Q (.tup ((A.filter fun y=>!decide (y∈B)).map PV.int)) H):=rfl
def uU:Sp':=fun vs H Q _=>ap [.T,.T] (fun l m=>∃c,∃S V:List Int,c≤6/\l=S.map PV.int/\m=V.map PV.int/\Nms c S/\Nms c V/\∀G:List Int,Nms c G->(∀x,x∈G↔x∈S∨x∈V)->Q (.tup (G.map PV.int)) H) vs
theorem Eg:uU [.tup l,.tup m] H Q E=(∃c,∃S V:List Int,c≤6/\l=S.map PV.int/\m=V.map PV.int/\Nms c S/\Nms c V/\∀G:List Int,Nms c G->(∀x,x∈G↔x∈S∨x∈V)->Q (.tup (G.map PV.int)) H):=rfl
def vy(t:Ad)(k:Nat):Sp':=fun vs H Q _=>ap [.R,.T] (fun x l=>∃c ts bs,∃L:List Int,Dr t H x c ts bs/\l=L.map PV.int/\OkD c ts bs/\Nms c L/\∀y H1,U.Sub H H1->Dr t H1 y c (ts.filter (FT k L)) (bs.filter (FB k L))->Q (.ref y) H1) vs
theorem ER:vy t k [.ref x,.tup l] H Q E=(∃c ts bs,∃L:List Int,Dr t H x c ts bs/\l=L.map PV.int/\OkD c ts bs/\Nms c L/\∀y H1,U.Sub H H1->Dr t H1 y c (ts.filter (FT k L)) (bs.filter (FB k L))->Q (.ref y) H1):=rfl
def kQ(t:Ad):Sp':=fun vs H Q _=>ap [.R,.I,.R,.T] (fun x c a l=>∃dx ys ps qs,H x=some (.ins t.a_D dx [])/\H a=some (.lst ys)/\l=qs.map prV/\Rows H ys ps/\Good c ps/\Good c qs/\(1≤c/\c≤6/\qs.length≤6) /\
  ∀ts bs,ts.Perm ps->Srt ts->bs.Perm qs->Srt bs->Q .non (put H x (.ins t.a_D dx (DF c ts bs)))) vs
theorem yz:kQ t [.ref x,.int c,.ref a,.tup l] H Q E=∃dx ys ps qs,H x=some (.ins t.a_D dx [])/\H a=some (.lst ys)/\l=qs.map prV/\Rows H ys ps/\Good c ps/\Good c qs/\(1≤c/\c≤6/\qs.length≤6) /\
  ∀ts bs,ts.Perm ps->Srt ts->bs.Perm qs->Srt bs->Q .non (put H x (.ins t.a_D dx (DF c ts bs))):=rfl
def Seq(H:PHp)(v:PV)(xs:List PV):Prop:=v=.tup xs∨∃a,v=.ref a/\H a=some (.lst xs)
theorem Seq.up(h:Seq H v xs)(s:U.Sub H H1):Seq H1 v xs:=by
 rcases h with h | h
 ·exact .inl h
 ·obtain⟨a,e,q⟩:=h;exact .inr ⟨a,e,s _ _ q⟩
theorem Cp(q:Seq H v ys)(k:∀ok:PHp->Prop,(∀H1,U.Sub H H1->ok H1)->R ⟨ys,ok⟩ H):sL v H R:=by
 rcases q with e |⟨a,e,q⟩
 ·subst e;exact k _ fun _ _=>trivial
 ·subst e;exact⟨ys,q,k _ fun H1 s=>s _ _ q⟩
theorem D2(h:∀vs H Q E,¬sp vs H Q E):aG P w K mg base CX k f fd ps sp:=by
 refine⟨fun vs H Q E q=>?_,fun A o s H args us vs Q E _ _ _ _ q=>?_⟩
 ·obtain⟨a,b,c,d,_,_,q,_⟩:=q;exact(h _ _ _ _ q).elim
 ·obtain⟨a,b,c,d,_,_,q,_⟩:=q;exact(h _ _ _ _ q).elim
theorem ue(F:aG P w K mg base CX k f fd ps sp)(h:∀vs H Q E,sp' vs H Q E->sp vs H Q E):aG P w K mg base CX k f fd ps sp':=F.imp fun vs H Q E q=>by
 obtain⟨a,b,c,d,r1,r2,r3,r4⟩:=q;exact⟨a,b,c,d,r1,r2,h _ _ _ _ r3,r4⟩
def mY(t:Ad):Sp':=fun vs H Q _=>ap [.R,.I,.R,.V] (fun x c a vb=>∃dx ys zs ps qs,H x=some (.ins t.a_D dx [])/\H a=some (.lst ys)/\Seq H vb zs/\Rows H ys ps/\Rows H zs qs/\Good c ps/\Good c qs/\(1≤c/\c≤6/\qs.length≤6)/\∀ts bs,ts.Perm ps->Srt ts->bs.Perm qs->Srt bs->Q .non (put H x (.ins t.a_D dx (DF c ts bs)))) vs
theorem oN:mY t [.ref x,.int c,.ref a,vb] H Q E=∃dx ys zs ps qs,H x=some (.ins t.a_D dx [])/\H a=some (.lst ys)/\Seq H vb zs/\Rows H ys ps/\Rows H zs qs/\Good c ps/\Good c qs/\(1≤c/\c≤6/\qs.length≤6)/\∀ts bs,ts.Perm ps->Srt ts->bs.Perm qs->Srt bs->Q .non (put H x (.ins t.a_D dx (DF c ts bs))):=rfl
def RDr(k:Int)(ts bs:List P2)(S V N:List Int)(us cs:List P2):Prop :=
 (k=1->us=ts.filter (FT 1 S)/\cs=bs.filter (FB 1 S)) /\
 (k=2->us=(ts.filter (FT 1 S)).filter (FT 2 N)/\cs=bs.filter (FB 1 S)) /\
 (k=3->∃A,An (ts.filter (FT 1 S)) V A/\us=(ts.filter (FT 1 S)).filter (FT 1 (N.filter fun y=>!decide (y∈A)))/\cs=(bs.filter (FB 1 S)).filter (FB 1 (N.filter fun y=>!decide (y∈A))))
theorem RDr.one{S V N:List Int}(hk:1≤k/\k≤3)(h:RDr k ts bs S V N us cs)(g:RDr k ts bs S V N us' cs'):us=us'/\cs=cs':=by
 have hk:k=1∨k=2∨k=3:=by symm
 rcases hk with rfl | rfl | rfl
 ·obtain⟨a,b⟩:=h.1 rfl;obtain⟨c,d⟩:=g.1 rfl;exact⟨a.trans c.symm,b.trans d.symm⟩
 ·obtain⟨a,b⟩:=h.2.1 rfl;obtain⟨c,d⟩:=g.2.1 rfl;exact⟨a.trans c.symm,b.trans d.symm⟩
 ·obtain⟨A,i,a,b⟩:=h.2.2 rfl;obtain⟨B,j,c,d⟩:=g.2.2 rfl;have e:=i.one j;subst e;exact⟨a.trans c.symm,b.trans d.symm⟩
structure Stm (c:Int) (A S V N:List Int):Prop where
 a:Nms c A
 s:Nms c S
 v:Nms c V
 n:Nms c N
 nd:(A++(S++(V++(N++[])))).Nodup
 na:A≠[]
 nn:N≠[]
theorem Stm.ap{A S V N G:List Int}(h:Stm c A S V N)(g:Nms c G)(gi:∀x,x∈G↔x∈S∨x∈V):Ap c A N G:=by
 have n1:=J3.mp h.nd;have n2:=J3.mp n1.2.1;have n3:=J3.mp n2.2.1;refine⟨h.a,h.n,g,?_,h.na,h.nn⟩;refine J3.mpr ⟨h.a.nd,J3.mpr ⟨h.n.nd,by rw[JQ];exact g.nd,fun x hx y hy e=>?_⟩,fun x hx y hy e=>?_⟩
 ·subst e;rw[JQ]at hy;rcases (gi x).mp hy with q | q
  ·exact n2.2.2 x q x (JM _ (JN _ hx)) rfl
  ·exact n3.2.2 x q x (JN _ hx) rfl
 ·subst e;rw[JQ]at hy;rcases Ju.mp hy with q | q
  ·exact n1.2.2 x hx x (JM _ (JM _ (JN _ q))) rfl
  ·rcases (gi x).mp q with z | z
   ·exact n1.2.2 x hx x (JN _ z) rfl
   ·exact n1.2.2 x hx x (JM _ (JN _ z)) rfl
def CT(I O:List Int)(p:P2):Bool:=!decide (p.2∈I)&&!decide (p.1∈O)
theorem ct1:CT I []=FT 1 I:=by funext p;simp[CT,FT]
theorem ct2:CT [] O=FT 2 O:=by funext p;simp[CT,FT]
theorem fb0{bs:List P2}:bs.filter (FB 1 [])=bs:=Kr.mpr fun p _=>by simp[FB]
def pE:Sp':=fun vs H Q _=>ap [.T,.T,.T] (fun l m n=>∃c ts bs,∃I O:List Int,PV.tup l=shp c ts bs/\m=I.map PV.int/\n=O.map PV.int/\OkD c ts bs/\Q (shp c (ts.filter (CT I O)) (bs.filter (FB 1 I))) H) vs
theorem B0:pE [.tup l,.tup m,.tup n] H Q E=(∃c ts bs,∃I O:List Int,PV.tup l=shp c ts bs/\m=I.map PV.int/\n=O.map PV.int/\OkD c ts bs/\Q (shp c (ts.filter (CT I O)) (bs.filter (FB 1 I))) H):=rfl
theorem AZ:cb 0 c.toNat=(ulN c).map PV.int:=by
 unfold cb ulN;rw[JS];refine List.map_congr_left fun k _=>?_;show PV.int (0+(k:Int))=PV.int (k:Int);rw[Int.zero_add]
theorem pS:∀(l:List P2),l.Pairwise (fun x y=>ST.pk x<ST.pk y)->(∀p∈l,0≤p.1/\p.1<p.2/\p.2<6)->∀{F:List Int} {a b:Int},(a,b)∈l->a∈(l.map swp).foldl bA F->b∈(l.map swp).foldl bA F
 | [],_,_,_,_,_,h,_=>by cases h
 | p::l,hs,hl,F,a,b,h,ha=>by
  rw[Le]at hs;rcases JD.mp h with e | h
  ·subst e;refine iT (l.map swp) (F:=bA F (b,a)) ?_;have h0:=hl (a,b) Jw;simp only at h0;have aF:a∈F:=by
    rcases kI (l.map swp) (F:=bA F (b,a)) ha with q |⟨z,hz,e⟩
    ·unfold bA at q;split at q
     ·rcases Ju.mp q with q | q
      ·exact q
      ·have:=Jx.mp q;simp only at this;symm
     ·exact q
    ·obtain⟨y,hy,rfl⟩:=Jp.mp hz;have h1:6*a+b<6*y.1+y.2:=hs.1 y hy;have h2:=hl y (Jz _ hy);have e:y.2=a:=e;symm
   unfold bA;by_cases hb:b∈F
   ·rw[JK (fun c=>c.2 hb)];exact hb
   ·rw[JL ⟨aF,hb⟩];simp
  ·exact pS l hs.2 (fun q hq=>hl q (Jz _ hq)) (F:=bA F (swp p)) h ha
theorem Bg(ok:OkD c ts bs){G:List Int}(x:Int):x∈(ts.map swp).foldl bA G↔My.Reach ts G x:=by
 have c6:=ok.c6;constructor
 ·exact fun h=>h8 (ts.map swp) (E:=ts) (G:=G) (fun p hp=>by obtain⟨q,hq,rfl⟩:=Jp.mp hp;exact hq) (fun y hy=>.base hy) x h
 ·intro h
  induction h with
  | base h=>exact iT _ h
  | step _ e ih =>
   refine pS ts ok.st (fun q hq=>?_) e ih;have:=ok.gt.lo q hq;symm
def md:Sp':=fun vs H Q _=>ap [.T,.T] (fun l m=>∃c ts bs,∃G:List Int,PV.tup l=shp c ts bs/\m=G.map PV.int/\OkD c ts bs/\Nms c G/\∀r H1,∀F:List Int,H r=none->U.Sub H H1->H1 r=some (.lst (F.map PV.int))->(∀y,y∈F↔My.Reach ts G y)->F.length≤100->Q (.ref r) H1) vs
theorem wU:md [.tup l,.tup m] H Q E=(∃c ts bs,∃G:List Int,PV.tup l=shp c ts bs/\m=G.map PV.int/\OkD c ts bs/\Nms c G/\∀r H1,∀F:List Int,H r=none->U.Sub H H1->H1 r=some (.lst (F.map PV.int))->(∀y,y∈F↔My.Reach ts G y)->F.length≤100->Q (.ref r) H1):=rfl
def nin(c:Int)(A:List Int):List Int:=(ulN c).filter fun y=>!decide (y∈A)
theorem xK:Nms c (nin c A):=⟨(kN c).filter _,fun x hx=>cB.mp (JU.mp hx).1⟩
theorem kx:x∈nin c A↔(0≤x/\x<c)/\x∉A:=by
 unfold nin;rw[JU,cB];simp
def oO(t:Ad):Sp':=fun vs H Q _=>ap [.R,.T] (fun x l=>∃c ts bs,∃L:List Int,Dr t H x c ts bs/\l=L.map PV.int/\OkD c ts bs/\Nms c L/\∀y H1,U.Sub H H1->Dr t H1 y c (ts.filter (FT 0 L)) (bs.filter (FB 0 L))->Q (.ref y) H1) vs
theorem B3:oO t [.ref x,.tup l] H Q E=(∃c ts bs,∃L:List Int,Dr t H x c ts bs/\l=L.map PV.int/\OkD c ts bs/\Nms c L/\∀y H1,U.Sub H H1->Dr t H1 y c (ts.filter (FT 0 L)) (bs.filter (FB 0 L))->Q (.ref y) H1):=rfl
def pN:Sp':=fun vs H Q _=>ap [.I] (fun c=>(0≤c/\c<1000)/\Q (.tup ((ulN c).map PV.int)) H) vs
theorem zR:pN [.int c] H Q E=((0≤c/\c<1000)/\Q (.tup ((ulN c).map PV.int)) H):=rfl
def sumF(N:List Int)(f:PV):PV:=if N=[]then f else .tup [.str "sum",.tup (N.map PV.int),f]
def qm:Sp':=fun vs H Q _=>ap [.T,.V] (fun l f=>∃N:List Int,l=N.map PV.int/\Q (sumF N f) H) vs
theorem Ai:qm [.tup l,f] H Q E=(∃N:List Int,l=N.map PV.int/\Q (sumF N f) H):=rfl
def eR(L:List Int):PV:=.tup [.str "seen",.tup (L.map PV.int)]
def cK(G V:List Int):PV:=.tup [.str "over",eR G,eR V]
def lR:Sp':=fun vs H Q _=>ap [.T,.T] (fun l m=>∃c,∃S V:List Int,c≤6/\l=S.map PV.int/\m=V.map PV.int/\Nms c S/\Nms c V/\∀G:List Int,Nms c G->(∀y,y∈G↔y∈S∨y∈V)->Q (cK G V) H) vs
theorem xD:lR [.tup l,.tup m] H Q E=(∃c,∃S V:List Int,c≤6/\l=S.map PV.int/\m=V.map PV.int/\Nms c S/\Nms c V/\∀G:List Int,Nms c G->(∀y,y∈G↔y∈S∨y∈V)->Q (cK G V) H):=rfl
def onB(W:List Int)(y:PV):PV:=match y with | .int u=>.bl (decide (u∈W)) | _=>.non
theorem m6{W l:List Int}:((l.map PV.int).filter (fun _=>true)).map (onB W)=(l.map fun x=>decide (x∈W)).map PV.bl:=by
 rw[Kr.mpr (fun _ _=>rfl),JS,JS];rfl
theorem og{W l:List Int}:(l.map fun x=>decide (x∈W)).any id=true↔∃x∈l,x∈W:=by
 rw[List.any_map,Ln];simp
def m7(t:Ad):Sp':=fun vs H Q _=>ap [.R,.T,.T,.T] (fun x l m n=>∃c ts bs,∃A B G:List Int,Dr t H x c ts bs/\OkD c ts bs/\l=A.map PV.int/\m=B.map PV.int/\n=G.map PV.int/\Nms c A/\Nms c B/\Nms c G/\∀b:Bool,(b=true↔∀y∈B,¬My.Reach (ts.filter (FT 0 (nin c G))) A y)->Q (.bl b) H) vs
theorem wd:m7 t [.ref x,.tup l,.tup m,.tup n] H Q E=(∃c ts bs,∃A B G:List Int,Dr t H x c ts bs/\OkD c ts bs/\l=A.map PV.int/\m=B.map PV.int/\n=G.map PV.int/\Nms c A/\Nms c B/\Nms c G/\∀b:Bool,(b=true↔∀y∈B,¬My.Reach (ts.filter (FT 0 (nin c G))) A y)->Q (.bl b) H):=rfl
def eV(ts bs:List P2)(A B G:List Int):Prop:=(∀y∈G,¬My.Reach ts A y)/\∀N,An (ts.filter (FT 2 A)) G N->qM (ts.filter (FT 2 A)) (bs.filter (FB 2 A)) G N A B
def mq(t:Ad):Sp':=fun vs H Q E=>ap [.R,.T,.T,.T] (fun x l m n=>∃c ts bs,∃A B G:List Int,Dr t H x c ts bs/\OkD c ts bs/\l=A.map PV.int/\m=B.map PV.int/\n=G.map PV.int/\(Ap c A B G->∀b:Bool,(b=true↔eV ts bs A B G)->Q (.bl b) H)/\Rf3 t c A B G H E) vs
theorem yD:mq t [.ref x,.tup l,.tup m,.tup n] H Q E=(∃c ts bs,∃A B G:List Int,Dr t H x c ts bs/\OkD c ts bs/\l=A.map PV.int/\m=B.map PV.int/\n=G.map PV.int/\(Ap c A B G->∀b:Bool,(b=true↔eV ts bs A B G)->Q (.bl b) H)/\Rf3 t c A B G H E):=rfl
def qU(ts bs:List P2)(L A B G:List Int):Prop:=∀N,An (ts.filter (FT 2 L)) G N->qM (ts.filter (FT 2 L)) (bs.filter (FB 2 L)) G N A B
def dk(c:Int)(ts bs:List P2)(A B G:List Int):Prop:=(∀y∈B,¬My.Reach (ts.filter (FT 0 (nin c G))) A y)/\(G=[]∨(qU ts bs A A G []/\qU ts bs G G B A))
theorem Ap.one(h:Ap c A B G)(ne:G≠[]):Ap c A G [] :=
 ⟨h.a,h.g,⟨List.Pairwise.nil,fun x hx=>by cases hx⟩,h.nd.sublist (Lf (by simp) A),h.na,ne⟩
theorem Ap.two(h:Ap c A B G)(ne:G≠[]):Ap c G B A:=by
 have nd:=h.nd;rw[JQ]at nd;have p:(A++(B++G)).Perm (G++(B++A)):=by
  rw[←KL G B A];exact La.trans (List.Perm.append_right A La)
 exact⟨h.g,h.b,h.a,by rw[JQ];exact p.nodup_iff.mp nd,ne,h.nb⟩
def jF(t:Ad):Sp':=fun vs H Q E=>ap [.R,.T,.T,.T] (fun x l m n=>∃c ts bs,∃A B G:List Int,Dr t H x c ts bs/\OkD c ts bs/\l=A.map PV.int/\m=B.map PV.int/\n=G.map PV.int/\(Ap c A B G->∀b:Bool,(b=true↔dk c ts bs A B G)->Q (.bl b) H)/\Rf3 t c A B G H E) vs
theorem uY:jF t [.ref x,.tup l,.tup m,.tup n] H Q E=(∃c ts bs,∃A B G:List Int,Dr t H x c ts bs/\OkD c ts bs/\l=A.map PV.int/\m=B.map PV.int/\n=G.map PV.int/\(Ap c A B G->∀b:Bool,(b=true↔dk c ts bs A B G)->Q (.bl b) H)/\Rf3 t c A B G H E):=rfl
def Jn(c:Int)(A B J:List Int):Prop:=Nms c J/\∀y,y∈J↔y∈A∨y∈B
theorem Jn.one{A B J K:List Int}(h:Jn c A B J)(g:Jn c A B K):J=K:=My.eY h.1.up g.1.up fun y=>(h.2 y).trans (g.2 y).symm
theorem Jn.sw(h:Jn c A B J):Jn c B A J:=⟨h.1,fun y=>(h.2 y).trans Or.comm⟩
def bkF(G J W:List Int):PV:=sumF G (.tup [.str "times",cK W J,eR G])
def frF(A G J W:List Int):PV:=sumF G (.tup [.str "times",cK J A,.tup [.str "sum",.tup (A.map PV.int),.tup [.str "times",cK W J,eR A]]])
def uk(t:Ad):Sp':=fun vs H Q E=>ap [.R,.T,.T,.T] (fun x l m n=>∃c ts bs,∃A B G:List Int,Dr t H x c ts bs/\OkD c ts bs/\l=A.map PV.int/\m=B.map PV.int/\n=G.map PV.int/\(Ap c A B G->eV ts bs A B G->∀J W:List Int,Jn c A G J->Jn c B J W->Q (bkF G J W) H)/\Rf3 t c A B G H E/\(Ap c A B G->¬eV ts bs A B G->∀H1,U.Sub H H1->E (.ref t.a_H) none H1)) vs
theorem EW:uk t [.ref x,.tup l,.tup m,.tup n] H Q E=(∃c ts bs,∃A B G:List Int,Dr t H x c ts bs/\OkD c ts bs/\l=A.map PV.int/\m=B.map PV.int/\n=G.map PV.int/\(Ap c A B G->eV ts bs A B G->∀J W:List Int,Jn c A G J->Jn c B J W->Q (bkF G J W) H)/\Rf3 t c A B G H E/\(Ap c A B G->¬eV ts bs A B G->∀H1,U.Sub H H1->E (.ref t.a_H) none H1)):=rfl
def uR(t:Ad):Sp':=fun vs H Q E=>ap [.R,.T,.T,.T] (fun x l m n=>∃c ts bs,∃A B G:List Int,Dr t H x c ts bs/\OkD c ts bs/\l=A.map PV.int/\m=B.map PV.int/\n=G.map PV.int/\(Ap c A B G->A.length≤1->dk c ts bs A B G->∀J W:List Int,Jn c A G J->Jn c B J W->Q (frF A G J W) H)/\Rf3 t c A B G H E/\(Ap c A B G->¬A.length≤1->∀H1,U.Sub H H1->E (.ref t.a_P) none H1)/\(Ap c A B G->A.length≤1->¬dk c ts bs A B G->∀H1,U.Sub H H1->E (.ref t.a_H) none H1)) vs
theorem Eb:uR t [.ref x,.tup l,.tup m,.tup n] H Q E=(∃c ts bs,∃A B G:List Int,Dr t H x c ts bs/\OkD c ts bs/\l=A.map PV.int/\m=B.map PV.int/\n=G.map PV.int/\(Ap c A B G->A.length≤1->dk c ts bs A B G->∀J W:List Int,Jn c A G J->Jn c B J W->Q (frF A G J W) H)/\Rf3 t c A B G H E/\(Ap c A B G->¬A.length≤1->∀H1,U.Sub H H1->E (.ref t.a_P) none H1)/\(Ap c A B G->A.length≤1->¬dk c ts bs A B G->∀H1,U.Sub H H1->E (.ref t.a_H) none H1)):=rfl
theorem zB(an:An (ts.filter (FT 2 L)) G N)(hb:b=true↔∀x p,RSG (ts.filter (FT 2 L)) bs G N A x p->x∉B):b=true↔qU ts bs L A B G:=by
 unfold qU qM;rw[fb2];exact hb.trans ⟨fun z N' an'=>by rw[an'.one an];exact z,fun z=>z N an⟩
theorem xN:Nms c []:=⟨List.Pairwise.nil,fun x hx=>by cases hx⟩
def mG:Sp':=fun vs H Q _=>ap [.T,.T,.T,.T] (fun l m k n=>∃c ts bs,∃A B G:List Int,PV.tup l=shp c ts bs/\m=A.map PV.int/\k=B.map PV.int/\n=G.map PV.int/\OkD c ts bs/\Ap c A B G/\∀b:Bool,(b=true↔eV ts bs A B G)->Q (.bl b) H) vs
theorem xg:mG [.tup l,.tup m,.tup k,.tup n] H Q E=(∃c ts bs,∃A B G:List Int,PV.tup l=shp c ts bs/\m=A.map PV.int/\k=B.map PV.int/\n=G.map PV.int/\OkD c ts bs/\Ap c A B G/\∀b:Bool,(b=true↔eV ts bs A B G)->Q (.bl b) H):=rfl
def jg:Sp':=fun vs H Q _=>ap [.T,.T,.T,.T] (fun l m k n=>∃c ts bs,∃A B G:List Int,PV.tup l=shp c ts bs/\m=A.map PV.int/\k=B.map PV.int/\n=G.map PV.int/\OkD c ts bs/\Ap c A B G/\∀b:Bool,(b=true↔dk c ts bs A B G)->Q (.bl b) H) vs
theorem uJ:jg [.tup l,.tup m,.tup k,.tup n] H Q E=(∃c ts bs,∃A B G:List Int,PV.tup l=shp c ts bs/\m=A.map PV.int/\k=B.map PV.int/\n=G.map PV.int/\OkD c ts bs/\Ap c A B G/\∀b:Bool,(b=true↔dk c ts bs A B G)->Q (.bl b) H):=rfl
theorem m5(ok:OkD c ts bs){A G:List Int}(ag:∀x∈A,x∉G)(y:Int):My.Reach (ts.filter (FT 1 G)) A y↔My.Reach (ts.filter (FT 0 (nin c G))) A y:=by
 constructor
 ·intro h;have:y∉G/\My.Reach (ts.filter (FT 0 (nin c G))) A y:=by
   induction h with
   | base h=>exact⟨ag _ h,.base h⟩
   | @step a b _ e ih =>
    obtain⟨e1,e2⟩:=JU.mp e;have lo:=ok.gt.lo _ e1;have nb:b∉G:=by simpa[FT]using e2
    refine⟨nb,.step ih.2 (JU.mpr ⟨e1,?_⟩)⟩;have h1:a∈nin c G:=kx.mpr ⟨by simp only at lo;symm,ih.1⟩;have h2:b∈nin c G:=kx.mpr ⟨by simp only at lo;symm,nb⟩;simp[FT,h1,h2]
  exact this.2
 ·intro h
  induction h with
  | base h=>exact .base h
  | @step a b _ e ih =>
   obtain⟨e1,e2⟩:=JU.mp e;refine .step ih (JU.mpr ⟨e1,?_⟩);have:a∈nin c G/\b∈nin c G:=by simpa[FT]using e2
   have:=(kx.mp this.2).2;simp[FT,this]
def Kd(t:Ad)(C:Addr)(nm:Str):Prop:=(C=t.a_K/\nm="NoName")∨(C=t.a_P/\nm="NoSets")∨(C=t.a_H/\nm="NoDoor")
def lZ(t:Ad):Sp':=fun vs H Q _=>ap [.R] (fun a=>∃C nm,H a=some (.exc C)/\Kd t C nm/\∀r H1,U.Sub H H1->H1 r=some (.lst [.str nm])->Q (.ref r) H1) vs
theorem yE:lZ t [.ref a] H Q E=(∃C nm,H a=some (.exc C)/\Kd t C nm/\∀r H1,U.Sub H H1->H1 r=some (.lst [.str nm])->Q (.ref r) H1):=rfl
def Apd(d c:Int)(A B G:List Int):Prop:=Ap c A B G/\(d=1->A.length≤1)
def rP(d c:Int)(ts bs:List P2)(A B G:List Int):Prop:=(d=0->eV ts bs A B G)/\(d=1->dk c ts bs A B G)
def Rz(d c:Int)(ts bs:List P2)(A B G:List Int)(nm:Str):Prop:=(¬N3 c A B G/\nm="NoName")∨(N3 c A B G/\¬Apd d c A B G/\nm="NoSets")∨(Apd d c A B G/\¬rP d c ts bs A B G/\nm="NoDoor")
def Fm(d c:Int)(A B G:List Int)(v:PV):Prop:=∃J W,Jn c A G J/\Jn c B J W/\(d=0->v=bkF G J W)/\(d=1->v=frF A G J W)
theorem Rz.one(h:Rz d c ts bs A B G n)(g:Rz d c ts bs A B G m):n=m:=by
 rcases h with⟨a,rfl⟩ |⟨a,b,rfl⟩ |⟨a,b,rfl⟩<;>rcases g with⟨x,rfl⟩ |⟨x,y,rfl⟩ |⟨x,y,rfl⟩
 ·rfl
 ·exact absurd x a
 ·exact absurd x.1.n3 a
 ·exact absurd a x
 ·rfl
 ·exact absurd x b
 ·exact absurd a.1.n3 x
 ·exact absurd a y
 ·rfl
theorem Rz.no(h:Rz d c ts bs A B G n)(a:Apd d c A B G)(b:rP d c ts bs A B G):False:=by
 rcases h with⟨x,_⟩ |⟨_,x,_⟩ |⟨_,x,_⟩
 ·exact x a.1.n3
 ·exact x a
 ·exact x b
theorem Fm.one{v w:PV}(hd:d=0∨d=1)(h:Fm d c A B G v)(g:Fm d c A B G w):v=w:=by
 obtain⟨J,W,j,k,e,f⟩:=h;obtain⟨J',W',j',k',e',f'⟩:=g;have:=j.one j';subst this;have:=k.one k';subst this;rcases hd with rfl | rfl
 ·rw[e rfl,e' rfl]
 ·rw[f rfl,f' rfl]
def Told(d c:Int)(ts bs:List P2)(A B G:List Int)(H:PHp)(Q:VK'):Prop:=(∀nm,Rz d c ts bs A B G nm->∀r H1,U.Sub H H1->H1 r=some (.lst [.str nm])->Q (.ref r) H1)/\(Apd d c A B G->rP d c ts bs A B G->∀v H1,U.Sub H H1->Fm d c A B G v->Q v H1)
def i8(t:Ad):Sp':=fun vs H Q _=>ap [.I,.R,.R] (fun d x a=>∃c ts bs,∃A B G:List Int,(d=0∨d=1)/\Dr t H x c ts bs/\OkD c ts bs/\H a=some (.lst [tupI A,tupI B,tupI G])/\Told d c ts bs A B G H Q) vs
theorem t7:i8 t [.int d,.ref x,.ref a] H Q E=(∃c ts bs,∃A B G:List Int,(d=0∨d=1)/\Dr t H x c ts bs/\OkD c ts bs/\H a=some (.lst [tupI A,tupI B,tupI G])/\Told d c ts bs A B G H Q):=rfl
def oX:Sp':=fun vs H Q _=>ap [.I,.T,.T,.T] (fun d l m n=>∃c,∃A B G:List Int,(d=0∨d=1)/\l=A.map PV.int/\m=B.map PV.int/\n=G.map PV.int/\c≤6/\Ap c A B G/\∀v,Fm d c A B G v->Q v H) vs
theorem As:oX [.int d,.tup l,.tup m,.tup n] H Q E=(∃c,∃A B G:List Int,(d=0∨d=1)/\l=A.map PV.int/\m=B.map PV.int/\n=G.map PV.int/\c≤6/\Ap c A B G/\∀v,Fm d c A B G v->Q v H):=rfl
def pV:Sp':=fun vs H Q _=>ap [.I,.T,.R] (fun d l a=>∃c ts bs,∃A B G:List Int,(d=0∨d=1)/\PV.tup l=shp c ts bs/\OkD c ts bs/\H a=some (.lst [tupI A,tupI B,tupI G])/\A.length≤20/\B.length≤20/\G.length≤20/\Told d c ts bs A B G H Q) vs
theorem AW:pV [.int d,.tup l,.ref a] H Q E=(∃c ts bs,∃A B G:List Int,(d=0∨d=1)/\PV.tup l=shp c ts bs/\OkD c ts bs/\H a=some (.lst [tupI A,tupI B,tupI G])/\A.length≤20/\B.length≤20/\G.length≤20/\Told d c ts bs A B G H Q):=rfl
theorem sY(hA:∀x∈A,0≤x/\x<c)(hB:∀x∈B,0≤x/\x<c)(nd:L.Nodup)(iff:∀x,x∈L↔x∈A∨x∈B)(p:M.Perm L)(s:M.Pairwise (·≤·)):Jn c A B M:=by
 have nm:M.Nodup:=p.nodup_iff.mpr nd;refine⟨⟨?_,fun x hx=>?_⟩,fun y=>(p.mem_iff).trans (iff y)⟩
 ·rw[Kl]at nm;exact(s.and nm).imp fun h=>by symm
 ·rcases (iff x).mp (p.mem_iff.mp hx)with q | q
  ·exact hA x q
  ·exact hB x q
theorem oF:cV H (n+1) (.str s) (.str s):=rfl
theorem rX(hl:l.length≤1000)(h:∀x∈l,cV H n x x):cV H (n+1) (.tup l) (.tup l):=by
 unfold cV;exact⟨hl,kK h⟩
theorem Ay(h:cV H (n+1) x x):cV H (n+2) (.tup [.str s,x]) (.tup [.str s,x]):=rX (by simp) fun y hy=>by
 simp only[JD,Ki,LJ]at hy;rcases hy with rfl | rfl
 ·exact oF
 ·exact h
theorem bX(h:cV H (n+1) x x)(k:cV H (n+1) y y):cV H (n+2) (.tup [.str s,x,y]) (.tup [.str s,x,y]):=rX (by simp) fun z hz=>by
 simp only[JD,Ki,LJ]at hz;rcases hz with rfl | rfl | rfl
 ·exact oF
 ·exact h
 ·exact k
theorem eM(h:L.length≤6):cV H (n+3) (eR L) (eR L):=Ay (same_ints (by symm))
theorem dt(h:W.length≤6)(k:J.length≤6):cV H (n+4) (cK W J) (cK W J):=bX (eM h) (eM k)
theorem qc(hN:N.length≤6)(h:cV H (n+2) f f)(k:cV H (n+3) f f):cV H (n+3) (sumF N f) (sumF N f):=by
 unfold sumF;split
 ·exact k
 ·exact bX (same_ints (by symm)) h
theorem CC(hd:d=0∨d=1)(c6:c≤6)(ap:Ap c A B G)(h:Fm d c A B G v):cV H 12 v v:=by
 obtain⟨J,W,j,k,e,f⟩:=h;have lA:=ap.a.len c6;have lG:=ap.g.len c6;have lJ:=j.1.len c6;have lW:=k.1.len c6;rcases hd with rfl | rfl
 ·rw[e rfl];exact qc (n:=9) lG (bX (dt lW lJ) (eM lG)) (bX (dt lW lJ) (eM lG))
 ·rw[f rfl];exact qc (n:=9) lG (bX (dt lJ lA) (bX (same_ints (by symm)) (bX (dt lW lJ) (eM lA)))) (bX (dt lJ lA) (bX (same_ints (by symm)) (bX (dt lW lJ) (eM lA))))
def lq:Sp':=fun vs H Q _=>ap [.R,.I,.I] (fun a _ c=>∃A B G:List Int,(1≤c/\c≤6)/\H a=some (.lst [tupI A,tupI B,tupI G])/\A.length≤6/\B.length≤6/\G.length≤6/\∀r H1,∀A' B' G':List Int,U.Sub H H1->H1 r=some (.lst [tupI A',tupI B',tupI G'])->A'.length≤20->B'.length≤20->G'.length≤20->Q (.ref r) H1) vs
theorem yB:lq [.ref a,.int n,.int c] H Q E=(∃A B G:List Int,(1≤c/\c≤6)/\H a=some (.lst [tupI A,tupI B,tupI G])/\A.length≤6/\B.length≤6/\G.length≤6/\∀r H1,∀A' B' G':List Int,U.Sub H H1->H1 r=some (.lst [tupI A',tupI B',tupI G'])->A'.length≤20->B'.length≤20->G'.length≤20->Q (.ref r) H1):=rfl
theorem yM(l:List Int):∃m:List Int,bO (l.map PV.int) none (some 1)=m.map PV.int/\m.length≤1:=by
 refine⟨l.take 1,?_,by rw[J6];symm⟩;cases l with
 | nil=>rfl
 | cons x l =>
  unfold bO HT.sIx;simp
theorem wo{t u R:TS'}(h:∀T1 T2 R1:TS',T1=t->T2=u->R1=R->kH (rp c T1 T2) R1 D σ H):kH (rp c t u) R D σ H:=h t u R rfl rfl rfl
theorem bQ{t R:TS'}(h:∀T1 R1:TS',T1=t->R1=R->kH (rp c T1 pG) R1 D σ H):kH (rp c t pG) R D σ H:=h t R rfl rfl
theorem fo{a C:Addr}{H:PHp}{σ:St'}(ha:H a=some (.exc C))(c:dW K C):∀{ns:List Str} {Ds:List Value} {bs:List Bool},ns.length=Ds.length->mE K (.ref C) Ds bs->rO (some (.ref a)::σ) H ((ns.zip Ds).map fun p=>(p.1,nQ K p.2 (fC 0))) bs
 | [],[],[],_,_=>trivial
 | _::_,_::_,_::_,l,k=>⟨g4 ha c k.1,fo ha c (Nat.succ.inj l) k.2⟩
theorem eC{σ:St'}{H:PHp}{n:Str}{te:TE'}{b:Bool}(h:IsV σ H te b):∀{l:List (Str×TE')} {bs:List Bool},rO σ H l bs->rO σ H (l++[(n,te)]) (bs++[b])
 | [],[],_=>⟨h,trivial⟩
 | _::_,_::_,k=>⟨k.1,eC h k.2⟩
def kn:List Str:=["NoFraction","NoCount","NoTie","NoBow","NoName","NoSets","NoWorld","NoValue","NoShare","NoRoad","NoRule","BadPaper","NoNest","NoDoor","NoThinning","NoAnswer","NoQuestion","NoFormula","BadStep","NoText"]
def kit(K:PySem.W.Frag)(t:Ad):List (Str×TE'):=((kn.zip (kl t)).map fun p=>(p.1,nQ K p.2 (fC 0)))++[(("other":Str),pe (nQ K (.type "ValueError") (fC 0)))]
abbrev nl0:List Str:=["pair","count"]
theorem nn0:List.Nodup nl0:=by decide +kernel
abbrev nl1:List Str:=["tie"]
theorem nn1:List.Nodup nl1:=by decide +kernel
abbrev nl2:List Str:=["bow"]
theorem nn2:List.Nodup nl2:=by decide +kernel
abbrev nl3:List Str:=["tie","name"]
theorem nn3:List.Nodup nl3:=by decide +kernel
abbrev nl4:List Str:=["bow","name"]
theorem nn4:List.Nodup nl4:=by decide +kernel
abbrev nl5:List Str:=["other","name"]
theorem nn5:List.Nodup nl5:=by decide +kernel
abbrev nl6:List Str:=["step"]
theorem nn6:List.Nodup nl6:=by decide +kernel
abbrev nl7:List Str:=["step","behind"]
theorem nn7:List.Nodup nl7:=by decide +kernel
abbrev nl8:List Str:=["other"]
theorem nn8:List.Nodup nl8:=by decide +kernel
abbrev nl9:List Str:=["name"]
theorem nn9:List.Nodup nl9:=by decide +kernel
abbrev zV:List Str:=["road","others"]
theorem DL:List.Nodup zV:=by decide +kernel
abbrev B9:List Str:=["way","given"]
theorem D0:List.Nodup B9:=by decide +kernel
abbrev Fj:List Str:=["name","way"]
theorem Io:List.Nodup Fj:=by decide +kernel
abbrev CK:List Str:=["meeting","drawing","given"]
theorem FE:List.Nodup CK:=by decide +kernel
abbrev sZ:List Str:=["_law_one","_law_two","_law_name"]
theorem ni:List.Nodup sZ:=by decide +kernel
abbrev Ej:List Str:=["_law_name"]
theorem IZ:List.Nodup Ej:=by decide +kernel
abbrev CD:List Str:=["_law_name","_law_pointed","_law_others"]
theorem CS:List.Nodup CD:=by decide +kernel
abbrev D3:List Str:=["_law_kind"]
theorem GY:List.Nodup D3:=by decide +kernel
abbrev EA:List Str:=["_law_names"]
theorem GK:List.Nodup EA:=by decide +kernel
abbrev Fn:List Str:=["standing","others"]
theorem Ik:List.Nodup Fn:=by decide +kernel
abbrev DQ:List Str:=["name","others"]
theorem IU:List.Nodup DQ:=by decide +kernel
abbrev Bb:List Str:=["tie","names"]
theorem CY:List.Nodup Bb:=by decide +kernel
abbrev ES:List Str:=["_law_tie","_law_into","_law_out"]
theorem Gs:List.Nodup ES:=by decide +kernel
abbrev C7:List Str:=["_law_bow","_law_into"]
theorem Jb:List.Nodup C7:=by decide +kernel
abbrev Fs:List Str:=["bow","names"]
theorem FK:List.Nodup Fs:=by decide +kernel
abbrev AG:List Str:=["name","below"]
theorem Fv:List.Nodup AG:=by decide +kernel
abbrev EE:List Str:=["_law_name","_law_below_here"]
theorem F4:List.Nodup EE:=by decide +kernel
abbrev Ec:List Str:=["_law_name","_law_other"]
theorem GS:List.Nodup Ec:=by decide +kernel
abbrev Eo:List Str:=["_law_kind","_law_truth"]
theorem D7:List.Nodup Eo:=by decide +kernel
abbrev Dl:List Str:=["_law_names","_law_drawn"]
theorem G7:List.Nodup Dl:=by decide +kernel
end
section
variable {P:Program}{w:World}{K:PySem.W.Frag}{mg:Str->Option Value}{base:Heap}{t:Ad}
local macro_rules | `(tactic| ac_rfl) => `(tactic| simp only [IM, Gk, FA, Ga, Jc, HF, EX, CJ, uOp, uI, uI0, uIx, fC, uC, kH, jV, du, rp, pG, zD, fI, BI, C2, uOr, C6, zk, Hy, pe, uIf, uUn, xy, k6, Ae, Bp, uCB, EO, IX, Jh, zO, v7, uF, pC, za,
 nk,gA,Cy,qk,CW,HB,vG,Ge,l8,FN,zG,Ie,Ia,F6,qd,Hj,GA,Hu,HX,HM,GW,I0,sD,Il,Gy,lO,Je,Hl,zH,Ij,CH,zA,zM,HL,qg,FL,kY,HJ,IT,kS,HK,uEn,Gh,Ja,EV,Hz,EU,C3,G3,Gg,CU,F2,lx,HV,jN,Dz,tL,sk,zF,Ff,E4,IB,xIf,Ea,DP,Bv,zb,Dg,xn,BT.sub,BT.nm,FC,Ip,DV,ends,Cs,C8,d0,flat,deq,gm,w_V,w_B,w_I,w_O,Iz,IF,HW,Fy,F7,Jf,Hr,HD,Hn,IH,G1,HG,Gq,GU,IK,F9,G5,Iw,Im,IA,Jg,G6,Fz,HS,GG,w_1,Dt,IQ,Hi,Hv,GD,Ic,HC,Gb,Gu,Hk,CG,IV,C4,F5,GI,FG,CV,Fw,
 JF,List.map_nil,JR,Lk,Nat.reduceAdd,Nat.reduceSub,Nat.add_sub_cancel,Nat.sub_self,Nat.zero_add,List.replicate_succ,List.replicate_zero,List.cons_append,List.nil_append,JQ,List.getElem?_cons_zero,List.getElem?_cons_succ,List.set_cons_zero,List.set_cons_succ,
 BR,Ac,List.all_cons,List.all_nil,Bool.and_self,Bool.and_true,Bool.true_and,Bool.not_true,Bool.not_false,true_and,and_true,ao,Option.some.injEq,PO.lst.injEq,exists_eq_left',Int.zero_add ,sv,nF,Af,nN,rn,mI,Al,qH,CZ,xT,rY,sO,vF,Gm,Cz,E3,z8,sf,yZ,wF,yf,vX,xV,xl,um,xw,Dw,B7,G8,D5,yT,xH,qE,yn,xO,wc,Gp,HH,xX,iB,mh,j4,ox,rH,uy,rG,Eg,ER,yz,B0,wU,B3,zR,Ai,xD,wd,yD,uY,EW,Eb,xg,uJ,yE,t7,As,AW,yB])
local macro_rules | `(tactic| eq_refl) => `(tactic| first | exact Or.inl rfl | exact Or.inr rfl)
local macro_rules | `(tactic| left) => `(tactic| (refine aj fun $(Lean.mkIdent `R) $(Lean.mkIdent `hR)=>?_;ac_rfl))
local macro_rules | `(tactic| right) => `(tactic| (subst $(Lean.mkIdent `hR);left))
theorem IP(T:Tx K mg t):aG P w K mg base CX0 1 t.a_yq t.d_yq ["count","pair"] jD:=by
 refine okU (k:=0) T.F_yq EJ (fun vs H Q E h=>a8 h) (fun cdv A outer s H E B hr=>⟨_,(ak (ay (dU (b8 (aU hr.units) bw (az ax aW rfl T.b_len JJ (aa (qv 1) ae)) aq (da _)) (d7 (rh zo zJ fy fx fy fx aq (iX (qv 1) aq) (iX (qv 1) aq) (qv 0)))))),?_⟩);intro vs H Q E h
 replace h:=aY h
 obtain⟨c,_,rfl,l,_,rfl,rfl,h⟩:=h;obtain⟨u,v,rfl,⟨h1,h2,h3⟩,h⟩:=h;ac_rfl;exact av rfl (av (by simpa using h1) (av (by simpa using h2) ⟨H,Sub.refl _,by rw[J2 h3];exact h⟩))
theorem E8(T:Tx K mg t):aG P w K mg base CX0 2 t.a_zZ t.d_zZ ["count","pairs"] gz:=by
 refine okU (k:=1) T.F_zZ Fo (fun vs H Q E h=>a8 h) (fun cdv A outer s H E B hr=>⟨_,(ak (ay (dU (az (vC rfl) zS rfl T.b_all boot_all (aa (cE (N2:=nl0) (nt:=1) (js:=[0]) (ck (sc:=ai xc)) (aK (qv 1)) (fun _ _ _ _=>⟨(gN 0 nn0),bx,(aA (IP T) hr.mo rfl T.g_yq T.F_yq.kp T.B_yq (aa (qv 1) (aa (qv 0) ae)))⟩)) ae)) (d7 (b8 (aU hr.units) bw (oh rfl hr.units rfl T.b_len rfl T.b_set boot_set (qv 1)) (az ax aW rfl T.b_len JJ (aa (qv 1) ae)) (da _)))))),?_⟩);intro vs H Q E h
 replace h:=aY h
 obtain⟨c,_,rfl,a,_,rfl,rfl,h⟩:=h;obtain⟨ps,ha,gd,hc,h⟩:=h;have h15:=gd.len hc;ac_rfl;refine⟨_,ha,fun acc hacc=>?_⟩;have hna:=aB ha hacc;refine aE (fun _=>.bl true) (fun _=>true) (fun σ=>∃x,σ=[x,some (.int c)]) (by rw[Jl];symm) (fun l=>(au hna).trans ha) ?step ?fin ⟨_,rfl⟩
 case step =>
  rintro y hy l σ R ⟨x,rfl⟩ hl kT kF;obtain⟨p,hp,rfl⟩:=Jp.mp hy;have b:=gd.lo p hp;unfold prV;ac_rfl;exact⟨b,hl,by rw[aH];exact kT rfl _ ⟨_,rfl⟩⟩
 case fin =>
  ac_rfl;refine⟨ps.map fun _=>true,by rw[Kr.mpr (fun _ _=>rfl),JS,JS];rfl,av (by simp) ⟨ps,(au hna).trans ha,gd.nd,gd.prs hc,h15,_,(au hna).trans ha,H,Sub.put (Sub.refl _) hacc,?_⟩⟩;rw[Jl,beq_self_eq_true];exact h
theorem EM(T:Tx K mg t):aG P w K mg base CX0 3 t.a_zD t.d_zD ["self","count","ties","bows"] (mY t):=by
 refine okU (k:=2) T.F_zD uB (fun vs H Q E h=>a8 h) (fun cdv A outer s H E B hr=>⟨_,(af (aN (aX (dE (cN fy fx (qv 1) aq) (dm (cN dG dC (qv 1) (kX (v':=.int 6) rfl T.c_MOST_NAMES (fun _=>by simp[RP]))))))
  dw
  aC)
  (af (sC 4 uB.nd (N2:=nl1) (nt:=1) (js:=[]) (ck (sc:=ai rV)) (aK (qv 2)) (fun _ _ _ _=>⟨(gN 0 nn1),bx,(aO aL bg rfl T.b_tuple Kw (aa (qv 0) ae))⟩))
  (af (aN (b4 (br (aA (E8 T) hr.mo rfl T.g_zZ T.F_zZ.kp T.B_zZ (aa (qv 1) (aa (qv 4) ae)))))
  dw
  aC)
  (af (sC 5 uB.nd (N2:=nl2) (nt:=1) (js:=[]) (ck (sc:=ai rV)) (aK (qv 3)) (fun _ _ _ _=>⟨(gN 0 nn2),bx,(aO aL bg rfl T.b_tuple Kw (aa (qv 0) ae))⟩))
  (af (aN (b4 (br (aA (E8 T) hr.mo rfl T.g_zZ T.F_zZ.kp T.B_zZ (aa (qv 1) (aa (qv 5) ae)))))
  dw
  aC)
  (af (aN (cN dG dC (az ax aW rfl T.b_len JJ (aa (qv 5) ae)) (kX (v':=.int 6) rfl T.c_MOST_BOWS (fun _=>by simp[RP])))
  dw
  aC)
  (af (n4 (qv 0) (qv 1) T.cl_D T.nfD_count rfl)
  (af (n4 (qv 0) (aO aL bg rfl T.b_tuple Kw (aa (az hU mT rfl T.b_sorted boot_sorted (aa (qv 4) ae)) ae)) T.cl_D T.nfD_ties rfl)
  (ak (n4 (qv 0) (aO aL bg rfl T.b_tuple Kw (aa (az hU mT rfl T.b_sorted boot_sorted (aa (qv 5) ae)) ae)) T.cl_D T.nfD_bows rfl)))))))))),?_⟩)
 injections
 obtain⟨x,_,rfl,c,_,rfl,a,_,rfl,b,_,rfl,rfl,h⟩:=h;obtain⟨dx,ys,zs,ps,qs,hx,ha,hb,ry,rz,gp,gq,⟨c1,c6,q6⟩,h⟩:=h;have hp15:=gp.len c6;have hq15:=gq.len c6;left;refine ar (by simp;symm) (ar (by simp;symm) ?_);right;refine⟨_,ha,fun p1 hp1=>?_⟩;refine aE (nO H) (fun _=>true) (fun σ=>∃z,σ=[z]) (by rw[ry.length];symm) (fun l=>(au (aB ha hp1)).trans ha) ?_ ?_ ⟨_,rfl⟩
 ·ac_nf;obtain⟨p,hp,row⟩:=kv ry hy;rcases row with rfl |⟨r,rfl,hr⟩
  ·unfold prV;ac_rfl;exact⟨hl,by rw[aH];exact kT rfl _ ⟨_,rfl⟩⟩
  ·rw[dX hr]at kT;ac_rfl;exact⟨_,(au (aB hr hp1)).trans hr,hl,by rw[aH];exact kT rfl _ ⟨_,rfl⟩⟩
 rw[Kr.mpr (fun _ _=>rfl),mB ry];subst hR;have sb1:U.Sub H (put H p1 (.lst (ps.map prV))):=Sub.put (Sub.refl _) hp1;left;refine⟨ps,rfl,gp,c6,?_⟩
 try ac_rfl
 subst hR;have hp1s:put H p1 (.lst (ps.map prV)) p1=some (.lst (ps.map prV)):=ao;have hx1:=sb1 _ _ hx;have hb1:=hb.up sb1;have rz1:=rz.up sb1;generalize put H p1 (.lst (ps.map prV))=H1 at *;left;refine Cp hb1 fun ok hok p2 hp2=>?_;refine aE (nO H1) (fun _=>true) (fun σ=>∃z,σ=[z]) (by rw[rz1.length];symm) (fun l=>hok _ ((Sub.refl _).put hp2)) ?_ ?_ ⟨_,rfl⟩
 ·ac_nf;obtain⟨p,hp,row⟩:=kv rz1 hy;rcases row with rfl |⟨r,rfl,hr⟩
  ·unfold prV;ac_rfl;exact⟨hl,by rw[aH];exact kT rfl _ ⟨_,rfl⟩⟩
  ·rw[dX hr]at kT;ac_rfl;exact⟨_,(au (aB hr hp2)).trans hr,hl,by rw[aH];exact kT rfl _ ⟨_,rfl⟩⟩
 rw[Kr.mpr (fun _ _=>rfl),mB rz1];subst hR;have sb2:U.Sub H1 (put H1 p2 (.lst (qs.map prV))):=Sub.put (Sub.refl _) hp2;have hp1t:=sb2 _ _ hp1s;have hx2:=sb2 _ _ hx1;have hp2s:put H1 p2 (.lst (qs.map prV)) p2=some (.lst (qs.map prV)):=ao;left;refine⟨qs,rfl,gq,c6,?_⟩
 try ac_rfl
 subst hR;have sb3:=sb1.trans sb2;generalize put H1 p2 (.lst (qs.map prV))=H2 at *;left;refine⟨_,hp2s,ar (by rw[Jl];simp;symm) ?_⟩;right;refine⟨_,_,hx2,by simp,?_⟩;subst hR;have n1:p1≠x:=fun e=>by subst e;rw[hx2]at hp1t;cases hp1t
 have n2:p2≠x:=fun e=>by subst e;rw[hx2]at hp2s;cases hp2s
 left;refine⟨ps,(au n1).trans hp1t,gp.nd,fun p hp=>?_,by symm,fun r1 ts hr1 pt st=>?_⟩
 ·have:=gp.lo p hp;symm
 try ac_rfl
 have nx1:x≠r1:=fun e=>by subst e;rw[ao]at hr1;cases hr1
 refine⟨_,_,(au nx1).trans ao,Nat.lt_of_le_of_lt iI (by decide),?_⟩;subst hR;have n3:p2≠r1:=fun e=>by subst e;rw[au n2,hp2s]at hr1;cases hr1
 ac_rfl;refine⟨qs,(au n2).trans ((au n3).trans ((au n2).trans hp2s)),gq.nd,fun p hp=>?_,by symm,fun r2 bs hr2 pb sb=>?_⟩
 ·have:=gq.lo p hp;symm
 try ac_rfl
 have nx2:x≠r2:=fun e=>by subst e;rw[ao]at hr2;cases hr2
 have ul:=fun f v fs=>@iI f v fs;refine⟨_,_,(au nx2).trans ao,?_,put H x (.ins t.a_D dx (DF c ts bs)),uc ?_ ao,h ts bs pt st pb sb⟩
 ·have l1:=ul "ties" (.tup (ts.map prV)) (i4 "count" (.int c) []);have l2:=ul "count" (.int c) [];simp only[Lk]at l2;symm
 ·intro z o hzx hz;have hz2:=sb3 _ _ hz;have z1:z≠r1:=fun e=>by subst e;rw[au hzx,hz2]at hr1;cases hr1
  have z2:z≠r2:=fun e=>by subst e;rw[au hzx,au z1,au hzx,hz2]at hr2;cases hr2
  rw[au hzx,au z2,au hzx,au z1,au hzx];exact hz2
theorem EL(T:Tx K mg t):aG P w K mg base CX0 3 t.a_zD t.d_zD ["self","count","ties","bows"] (qj t):=by
 refine ue (EM T) fun vs H Q E h=>?_
 replace h:=aY h
 obtain⟨x,_,rfl,c,_,rfl,a,_,rfl,b,_,rfl,rfl,h⟩:=h;obtain⟨dx,ys,zs,ps,qs,hx,ha,hb,r⟩:=h;rw[oN];exact⟨dx,ys,zs,ps,qs,hx,ha,.inr ⟨b,rfl,hb⟩,r⟩
theorem A9(T:Tx K mg t):aG P w K mg base CX0 1 t.a_zc t.d_zc ["self","name"] (gG t):=by
 refine okU (k:=0) T.F_zc Fl (fun vs H Q E h=>a8 h) (fun cdv A outer s H E B hr=>⟨_,(ak (aN (aX (dE (cN fy fx (qv 1) aq) (dm (cN l9 mQ (qv 1) (b0 (qv 0) T.cl_D T.nfD_count rfl)))))
  dw
  aC)),?_⟩)
 injections
 obtain⟨x,_,rfl,n,_,rfl,rfl,h⟩:=h;obtain⟨dx,c,ts,bs,hx,⟨h0,h1⟩,h⟩:=h;ac_rfl;exact ar (by simpa using h0) ⟨_,_,_,hx,rfl,ar (by simpa using h1) ⟨H,Sub.refl _,h⟩⟩
theorem Bn(T:Tx K mg t):aG P w K mg base CX0 2 t.a_zh t.d_zh ["self","name"] (g9 t):=by
 refine okU (k:=1) T.F_zh Dx (fun vs H Q E h=>a8 h) (fun cdv A outer s H E B hr=>⟨_,(af (aR (a7 (qv 0) T.cl_D T.m_zc (A9 T) hr.mo T.B_zc (aa (qv 1) ae)))
  (ak (ay (aO aL bg rfl T.b_tuple Kw (aa (cE (N2:=nl3) (nt:=1) (js:=[1]) (ck (sc:=ai yX)) (aK (b0 (qv 0) T.cl_D T.nfD_ties rfl)) (fun _ _ _ _=>⟨(gN 0 nn3),(aZ (cN (aU hr.units) bw (iX (qv 0) aq) (qv 1))),(iX (qv 0) aq)⟩)) ae))))),?_⟩)
 injections
 obtain⟨x,_,rfl,n,_,rfl,rfl,h⟩:=h;obtain⟨dx,c,ts,bs,hx,⟨h0,h1⟩,h15,h⟩:=h;ac_rfl;refine⟨⟨_,_,hx,rfl⟩,_,_,_,_,hx,⟨h0,h1⟩,_,_,_,hx,rfl,?_⟩;show ∀acc,H acc=none->_;intro acc hacc;refine aE g0 (at1 n) (fun σ=>∃z,σ=[z,some (.int n)]) (by rw[Jl];symm) (fun _=>trivial) ?step ?fin ⟨_,rfl⟩
 case step =>
  rintro y hy l σ R ⟨z,rfl⟩ hl kT kF;obtain⟨p,hp,rfl⟩:=Jp.mp hy;have e:at1 n (prV p)=decide (p.2=n):=rfl;rw[e]at kT kF;unfold prV at *;ac_rfl;refine aV (fun q=>?_) (fun q=>?_)
  ·exact⟨hl,by rw[aH];exact kT (by simpa using q) _ ⟨_,rfl⟩⟩
  ·exact kF (by simpa using q) _ ⟨_,rfl⟩
 case fin =>
  refine⟨_,ao,H,Sub.put (Sub.refl _) hacc,?_⟩;rw[src_list];exact h
theorem wY(T:Tx K mg t):aG P w K mg base CX0 2 t.a_zb t.d_zb ["self","name"] (fW t):=by
 refine okU (k:=1) T.F_zb DG (fun vs H Q E h=>a8 h) (fun cdv A outer s H E B hr=>⟨_,(af (aR (a7 (qv 0) T.cl_D T.m_zc (A9 T) hr.mo T.B_zc (aa (qv 1) ae)))
  (ak (ay (aO aL bg rfl T.b_tuple Kw (aa (cE (N2:=nl3) (nt:=1) (js:=[1]) (ck (sc:=ai xp)) (aK (b0 (qv 0) T.cl_D T.nfD_ties rfl)) (fun _ _ _ _=>⟨(gN 0 nn3),(aZ (cN (aU hr.units) bw (iX (qv 0) aq) (qv 1))),(iX (qv 0) aq)⟩)) ae))))),?_⟩)
 injections
 obtain⟨x,_,rfl,n,_,rfl,rfl,h⟩:=h;obtain⟨dx,c,ts,bs,hx,⟨h0,h1⟩,h15,h⟩:=h;ac_rfl;refine⟨⟨_,_,hx,rfl⟩,_,_,_,_,hx,⟨h0,h1⟩,_,_,_,hx,rfl,?_⟩;show ∀acc,H acc=none->_;intro acc hacc;refine aE g1 (at0 n) (fun σ=>∃z,σ=[z,some (.int n)]) (by rw[Jl];symm) (fun _=>trivial) ?step ?fin ⟨_,rfl⟩
 case step =>
  rintro y hy l σ R ⟨z,rfl⟩ hl kT kF;obtain⟨p,hp,rfl⟩:=Jp.mp hy;have e:at0 n (prV p)=decide (p.1=n):=rfl;rw[e]at kT kF;unfold prV at *;ac_rfl;refine aV (fun q=>?_) (fun q=>?_)
  ·exact⟨hl,by rw[aH];exact kT (by simpa using q) _ ⟨_,rfl⟩⟩
  ·exact kF (by simpa using q) _ ⟨_,rfl⟩
 case fin =>
  refine⟨_,ao,H,Sub.put (Sub.refl _) hacc,?_⟩;rw[dZ];exact h
theorem xW(T:Tx K mg t):aG P w K mg base CX0 1 t.a_zL t.d_zL ["_law_script","_law_k"] oW:=by
 refine okU (k:=0) T.F_zL Fh (fun vs H Q E h=>a8 h) (fun cdv A outer s H E B hr=>⟨_,(af (aN (cN fy fx (qv 1) (az ax aW rfl T.b_len JJ (aa (qv 0) ae)))
  (ak (ay (iX (qv 0) (qv 1))))
  aC)
  (ak (ay aq))),?_⟩)
 injections
 obtain⟨l,_,rfl,k,_,rfl,rfl,h⟩:=h
 try dsimp only at h
 obtain⟨⟨h0,h1⟩,ns,rfl,h⟩:=h;ac_rfl;by_cases hk:k<ns.length
 ·refine av (by rw[Jl];simpa using hk) ?_;rw[yy h0 hk];exact⟨H,Sub.refl _,h⟩
 ·refine ar (by rw[Jl];simpa using hk) ⟨H,Sub.refl _,?_⟩;rw[Jt,KJ (by symm)]at h;exact h
theorem Hg(T:Tx K mg t):aG P w K mg base CX0 1 t.a_yt t.d_yt ["count","names"] k9:=by
 refine okU (k:=0) T.F_yt o9 (fun vs H Q E h=>a8 h) (fun cdv A outer s H E B hr=>⟨_,(af (sN 2 o9.nd (cj aq))
  (af (bM JW rfl (aK (qv 1)) (gN 3 o9.nd)
  (af (aN (aX (dE (cN zo zJ (qv 3) (qv 2)) (dm (cN l9 mQ (qv 3) (qv 0)))))
   (ak (ay bI))
   aC)
   (ak (sN 2 o9.nd (qv 3)))))
  (ak (ay bI)))),?_⟩)
 injections
 obtain⟨c,_,rfl,l,_,rfl,rfl,h⟩:=h;obtain⟨L,rfl,hY,hN⟩:=h;ac_rfl;refine cy (fun i σ H2=>∃z k,σ=[some (.int c),some (.tup (L.map PV.int)),some (.int z),k]/\H2=H/\Nms c (L.take i)/\(∀x∈L.take i,x≤z)/\(z=-1∨z∈L.take i)/\-1≤z) ?_ ?_ ⟨-1,none,rfl,rfl,⟨List.Pairwise.nil,by simp⟩,by simp,.inl rfl,by decide⟩
 ·rintro σ H2 ⟨z,k,rfl,rfl,hn,_,_⟩;rw[Jl,JX]at hn;exact⟨trivial,H2,Sub.refl _,hY hn⟩
 ·rintro G i y σ H2 hy ⟨z,k,rfl,rfl,hn,hz,hm,z1⟩ kk;refine⟨trivial,?_⟩;obtain⟨hi,e⟩:=JE.mp hy;rw[Jl]at hi;rw[List.getElem_map]at e;subst e;have tk:L.take (i+1)=L.take i++[L[i]]:=by rw[Ly,Jo hi];rfl
  have stop:(L[i]≤z∨c≤L[i])->¬Nms c L:=fun h n=>by
   have lo:=n.lo _ (JV hi);have hzl:z<L[i]:=by
    rcases hm with rfl | hm
    ·symm
    ·obtain⟨j,hj,e⟩:=List.mem_iff_getElem.mp hm;rw[List.getElem_take]at e;rw[J6]at hj;rw[←e];exact List.pairwise_iff_getElem.mp n.up j i (by symm) hi (by symm)
   symm
  generalize L[i]=y at *;ac_rfl;by_cases h1:y≤z
  ·exact av (by simp;symm) ⟨H2,Sub.refl _,hN (stop (.inl h1))⟩
  ·refine ar (by simp;symm) ?_;by_cases h2:c≤y
   ·exact av (by simp;symm) ⟨H2,Sub.refl _,hN (stop (.inr h2))⟩
   ·refine ar (by simp;symm) (kk _ _ ⟨_,_,rfl,rfl,?_,?_,?_,by symm⟩)
    ·rw[tk];refine⟨K4.mpr ⟨hn.up,KN _ _,fun a ha b hb=>?_⟩,fun x hx=>?_⟩
     ·rw[Jx]at hb;have:=hz a ha;symm
     ·rcases Ju.mp hx with hx | hx
      ·exact hn.lo x hx
      ·rw[Jx]at hx;symm
    ·intro x hx;rw[tk]at hx;rcases Ju.mp hx with hx | hx
     ·have:=hz x hx;symm
     ·rw[Jx]at hx;symm
    ·rw[tk];exact .inr (JM _ (Jx.mpr rfl))
theorem DI(T:Tx K mg t):aG P w K mg base (CXU P w) 2 t.a_ze t.d_ze ["self","names"] (el t):=by
 refine okX (k:=1) T.F_ze D9 (fun vs H Q E h=>a8 h) (fun cdv A outer s H0 E0 vs H Q E hr hE h=>⟨_,(ak (aN (b4 (br (aA (Hg T) hr.mo rfl T.g_yt T.F_yt.kp T.B_yt (aa (b0 (qv 0) T.cl_D T.nfD_count rfl) (aa (qv 1) ae)))))
  (ak (dB rfl bh hE rfl T.x_K rfl T.g_K))
  aC)),?_⟩)
 replace h:=aY h
 obtain⟨x,_,rfl,l,_,rfl,rfl,h⟩:=h;obtain⟨c,ts,bs,L,⟨dx,hx⟩,rfl,hY,hN⟩:=h;ac_rfl;refine⟨_,_,_,hx,rfl,L,rfl,fun n=>?_,fun n=>?_⟩
 ·exact⟨H,Sub.refl _,hY n⟩
 ·exact hN n
theorem xJ(T:Tx K mg t):aG P w K mg base CX0 2 t.a_ze t.d_ze ["self","names"] (iw t):=by
 refine ue (Fc (DI T)) fun vs H Q E h=>?_
 replace h:=aY h
 obtain⟨x,_,rfl,l,_,rfl,rfl,h⟩:=h;obtain⟨c,ts,L,⟨dx,bs,hx⟩,hl,hn,h⟩:=h;show el t _ _ _ _;rw[iB];exact⟨c,ts,bs,L,⟨dx,hx⟩,hl,fun _=>h,fun n=>absurd hn n⟩
theorem Ey(T:Tx K mg t):aG P w K mg base CX0 3 t.a_zd t.d_zd ["self","names"] (nW t swp):=by
 refine okU (k:=2) T.F_zd ua (fun vs H Q E h=>a8 h) (fun cdv A outer s H E B hr=>⟨_,(af (aR (a7 (qv 0) T.cl_D T.m_ze (xJ T) hr.mo T.B_ze (aa (qv 1) ae)))
  (af (sN 2 ua.nd (aO bL dR rfl T.b_list boot_list (aa (qv 1) ae)))
  (af (bM JW rfl (qB rfl T.b_range (aa (tR (b0 (qv 0) T.cl_D T.nfD_count rfl) aq) (aa (cj aq) (aa (cj aq) ae)))) (gN 3 ua.nd)
  (ak (aN (cW (bH hr.units) bf (qv 3) (qv 2))
   (ak (aR (cH Ke Kf fc kc (qv 2) (aa (a7 (qv 0) T.cl_D T.m_zh (Bn T) hr.mo T.B_zh (aa (qv 3) ae)) ae))))
   aC)))
  (ak (ay (aO aL bg rfl T.b_tuple Kw (aa (eU rfl hr.units rfl T.b_sorted rfl T.b_set boot_set (qv 2)) ae))))))),?_⟩)
 injections
 obtain⟨x,_,rfl,l,_,rfl,rfl,h⟩:=h;obtain⟨c,ts,L,⟨dx,bs,hx⟩,rfl,hL,hc,gt,h⟩:=h;have t15:=gt.len hc.2;have l6:=hL.len hc.2;ac_rfl;refine⟨⟨_,_,hx,rfl⟩,c,ts,L,⟨_,_,hx⟩,rfl,hL,fun p hp=>?_⟩;have nxp:=aB hx hp;refine⟨_,_,_,(au nxp).trans hx,rfl,?_⟩;show -1≤c - 1/\c - 1<1000/\_;refine⟨by symm,by symm,?_⟩;have ei:kZ (c - 1) (c - 1+1).toNat=(dlN c).map PV.int:=by
  unfold kZ dlN;rw[JS,show c - 1+1=c by symm];rfl
 rw[ei];refine cy (fun i σ H2=>∃k F,σ=[some (.ref x),some (.tup (L.map PV.int)),some (.ref p),k]/\H2=put H p (.lst (F.map PV.int))/\F=((dlN c).take i).foldl (My.bD (ts.map swp)) L/\F.length≤6+15*i) ?_ ?_ ⟨none,L,rfl,rfl,rfl,by symm⟩
 ·rintro σ H2 ⟨k,F,rfl,rfl,hF,hlen⟩;rw[Jl,JX]at hF;refine⟨trivial,?_⟩;ac_rfl;have iff:∀y,y∈F↔My.Reach (ts.map swp) L y:=fun y=>by rw[hF];exact uN gt y
  have lo:∀y∈F,0≤y/\y<c:=fun y hy=>mV (fun a b e=>mf gt true a b e) hL.lo ((iff y).mp hy);refine⟨F.map Int.toNat,by rw[fP fun y hy=>(by have:=lo y hy;symm)],fun n hn=>?_,fun r ms hr hs hm=>?_⟩
  ·obtain⟨z,hz,rfl⟩:=Jp.mp hn;have:=lo z hz;symm
  ·obtain⟨q1,q2⟩:=ja hc.2 lo iff hs hm
   try ac_rfl
   refine⟨H,((Sub.refl H).put hp).put (((Sub.refl H).put hp).free hr),?_⟩;have:=h _ q1 q2;rw[JS]at this;exact this
 ·rintro G i y σ H2 hy ⟨k,F,rfl,rfl,hF,hlen⟩ kk;refine⟨trivial,?_⟩;rw[JI]at hy;cases hn:(dlN c)[i]? with
  | none=>rw[hn]at hy;cases hy
  | some n =>
   rw[hn]at hy;cases hy;have hnm:=jR.mp (JH hn);have hil:i<(dlN c).length:=(JE.mp hn).1;have hi6:i<6:=by unfold dlN at hil;rw[Jl,KW]at hil;symm
   have hnx:((dlN c).take (i+1)).foldl (My.bD (ts.map swp)) L=My.bD (ts.map swp) F n:=by rw[gx hn,← hF]
   have hpl:=jl (E:=ts.map swp) (f:=F) (n:=n);rw[Jl]at hpl;ac_rfl;refine⟨aI,?_⟩;rw[aP];refine p8 (fun hm=>?_) (fun hm=>?_)
   ·have e:My.bD (ts.map swp) F n=F++(ts.filter (fun p=>decide (p.2=n))).map (·.1):=by
     unfold My.bD;rw[JL hm,kU]
    rw[e]at hnx hpl;refine⟨⟨_,rfl⟩,⟨_,_,(au nxp).trans hx,rfl⟩,_,_,_,_,(au nxp).trans hx,hnm,t15,?_⟩
    try ac_rfl
    rw[Jr]at hpl;unfold src;refine⟨ah (by rw[Jl,Jl];symm),kk _ _ ⟨_,F++(ts.filter (fun p=>decide (p.2=n))).map (·.1),rfl,?_,hnx.symm,?_⟩⟩
    ·rw[aH,JB]
    ·rw[Jr];symm
   ·have e:My.bD (ts.map swp) F n=F:=by
     unfold My.bD;rw[JK hm]
    rw[e]at hnx;exact kk _ _ ⟨_,F,rfl,rfl,hnx.symm,by symm⟩
theorem ED(T:Tx K mg t):aG P w K mg base CX0 2 t.a_zt t.d_zt ["self","name"] (mz t):=by
 refine okU (k:=1) T.F_zt uo (fun vs H Q E h=>a8 h) (fun cdv A outer s H E B hr=>⟨_,(af (aR (a7 (qv 0) T.cl_D T.m_zc (A9 T) hr.mo T.B_zc (aa (qv 1) ae)))
  (af (sC 2 uo.nd (N2:=nl4) (nt:=1) (js:=[1]) (ck (sc:=ai uw)) (aK (b0 (qv 0) T.cl_D T.nfD_bows rfl)) (fun _ _ _ _=>⟨(gN 0 nn4),(aZ (cN (aU hr.units) bw (iX (qv 0) aq) (qv 1))),(iX (qv 0) aq)⟩))
  (af (sC 3 uo.nd (N2:=nl4) (nt:=1) (js:=[1]) (ck (sc:=ai uw)) (aK (b0 (qv 0) T.cl_D T.nfD_bows rfl)) (fun _ _ _ _=>⟨(gN 0 nn4),(aZ (cN (aU hr.units) bw (iX (qv 0) aq) (qv 1))),(iX (qv 0) aq)⟩))
  (ak (ay (aO aL bg rfl T.b_tuple Kw (aa (cX (qv 2) (qv 3)) ae))))))),?_⟩)
 injections
 obtain⟨x,_,rfl,n,_,rfl,rfl,h⟩:=h;obtain⟨dx,c,ts,bs,hx,⟨h0,h1⟩,h15,h⟩:=h;have lf:∀(q:DM.P2->Bool) (g:DM.P2->Int),(((bs.filter q).map g).map PV.int).length≤15:=fun q g=>by
  rw[Jl,Jl];exact JY (KZ _ _) h15
 ac_rfl;refine⟨⟨_,_,hx,rfl⟩,_,_,_,_,hx,⟨h0,h1⟩,_,_,_,hx,rfl,?_⟩;show ∀acc,H acc=none->_;intro p1 hp1;refine aE g0 (at1 n) (fun σ=>∃z,σ=[z,some (.int n)]) (by rw[Jl];symm) (fun _=>trivial) ?_ ?_ ⟨_,rfl⟩
 ·rintro y hy l σ R ⟨z,rfl⟩ hl kT kF;obtain⟨p,hp,rfl⟩:=Jp.mp hy;have e:at1 n (prV p)=decide (p.2=n):=rfl;rw[e]at kT kF;unfold prV at *;ac_rfl;refine aV (fun q=>?_) (fun q=>?_)
  ·exact⟨hl,by rw[aH];exact kT (by simpa using q) _ ⟨_,rfl⟩⟩
  ·exact kF (by simpa using q) _ ⟨_,rfl⟩
 rw[src_list];refine⟨_,_,_,(au (aB hx hp1)).trans hx,rfl,?_⟩;show ∀acc,put H p1 _ acc=none->_;intro p2 hp2;have n12:p1≠p2:=fun e=>by subst e;rw[ao]at hp2;cases hp2
 have sa:=(Sub.refl H).put (o:=.lst (((bs.filter (fun p=>decide (p.2=n))).map (·.1)).map PV.int)) hp1;refine aE g1 (at0 n) (fun σ=>∃z,σ=[z,some (.int n)]) (by rw[Jl];symm) (fun _=>trivial) ?_ ?_ ⟨_,rfl⟩
 ·rintro y hy l σ R ⟨z,rfl⟩ hl kT kF;obtain⟨p,hp,rfl⟩:=Jp.mp hy;have e:at0 n (prV p)=decide (p.1=n):=rfl;rw[e]at kT kF;unfold prV at *;ac_rfl;refine aV (fun q=>?_) (fun q=>?_)
  ·exact⟨hl,by rw[aH];exact kT (by simpa using q) _ ⟨_,rfl⟩⟩
  ·exact kF (by simpa using q) _ ⟨_,rfl⟩
 rw[dZ];have sb:=sa.put (o:=.lst (((bs.filter (fun p=>decide (p.1=n))).map (·.2)).map PV.int)) (sa.free hp2);refine⟨_,_,(au n12).trans ao,ao,ah (by have a1:=lf (fun p=>decide (p.2=n)) (·.1);have a2:=lf (fun p=>decide (p.1=n)) (·.2);symm),fun p3 hp3=>?_⟩
 try ac_rfl
 refine⟨H,sb.put (sb.free hp3),?_⟩;rw[←JB];exact h
theorem IE(T:Tx K mg t):aG P w K mg base CX0 3 t.a_zD t.d_zD ["self","count","ties","bows"] (kQ t):=by
 refine ue (EM T) fun vs H Q E h=>?_
 replace h:=aY h
 obtain⟨x,_,rfl,c,_,rfl,a,_,rfl,l,_,rfl,rfl,h⟩:=h;obtain⟨dx,ys,ps,qs,hx,ha,hl,ry,r⟩:=h;rw[oN];exact⟨dx,ys,_,ps,qs,hx,ha,.inl (by rw[hl]),ry,c8,r⟩
theorem Ib(T:Tx K mg t):aG P w K mg base CX0 1 t.a_zB t.d_zB ["step"] sR:=by
 refine okU (k:=0) T.F_zB CN (fun vs H Q E h=>a8 h) (fun cdv A outer s H E B hr=>⟨_,(ak (ay (b8 gv gf (iX (qv 0) aq) aJ (da _)))),?_⟩);intro vs H Q E h
 replace h:=aY h
 obtain⟨l,_,rfl,rfl,h⟩:=h;obtain⟨x,k,y,rfl,h⟩:=h;ac_rfl;exact⟨H,Sub.refl _,h⟩
theorem F0(T:Tx K mg t):aG P w K mg base CX0 1 t.a_zj t.d_zj ["step"] vq:=by
 refine okU (k:=0) T.F_zj Fi (fun vs H Q E h=>a8 h) (fun cdv A outer s H E B hr=>⟨_,(ak (ay (b8 gv gf (iX (qv 0) aq) aJ (da _)))),?_⟩);intro vs H Q E h
 replace h:=aY h
 obtain⟨l,_,rfl,rfl,h⟩:=h;obtain⟨x,k,y,rfl,h⟩:=h;ac_rfl;exact⟨H,Sub.refl _,h⟩
theorem Es(T:Tx K mg t):aG P w K mg base CX0 2 t.a_zS t.d_zS ["step","behind"] oK:=by
 refine okU (k:=1) T.F_zS CQ (fun vs H Q E h=>a8 h) (fun cdv A outer s H E B hr=>⟨_,(ak (ay (dU (aA (Ib T) hr.mo rfl T.g_zB T.F_zB.kp T.B_zB (aa (qv 0) ae)) (d7 (aA (F0 T) hr.mo rfl T.g_zj T.F_zj.kp T.B_zj (aa (qv 1) ae)))))),?_⟩);intro vs H Q E h
 replace h:=aY h
 obtain⟨x,_,rfl,y,_,rfl,rfl,h⟩:=h;obtain⟨s,s',rfl,rfl,h⟩:=h;unfold stV;ac_rfl;unfold mtg at h;refine aV (fun q=>⟨H,Sub.refl _,?_⟩) (fun q=>⟨H,Sub.refl _,?_⟩)
 ·simp only[q,Bool.true_and]at h;exact h
 ·simp only[q,Bool.false_and]at h;exact h
theorem Gf(T:Tx K mg t):aG P w K mg base CX0 3 t.a_zV t.d_zV ["step","behind","given","above"] jq:=by
 refine okU (k:=2) T.F_zV Fb (fun vs H Q E h=>a8 h) (fun cdv A outer s H E B hr=>⟨_,(af (aN (br (aA (Es T) hr.mo rfl T.g_zS T.F_zS.kp T.B_zS (aa (qv 0) (aa (qv 1) ae))))
  (ak (ay (b8 (bH hr.units) bf (iX (qv 0) aq) (qv 3) (by with_unfolding_all rfl))))
  aC)
  (ak (ay (b8 (bb hr.units) bf (iX (qv 0) aq) (qv 2) (by with_unfolding_all rfl))))),?_⟩)
 injections
 obtain⟨x,_,rfl,y,_,rfl,l,_,rfl,m,_,rfl,rfl,h⟩:=h;obtain⟨s,s',G,A,rfl,rfl,rfl,rfl,h⟩:=h;unfold psd at h;unfold stV;ac_rfl;refine⟨s,s',rfl,rfl,?_⟩;refine aV (fun q=>?_) (fun q=>?_)
 ·rw[JL q]at h;exact⟨aI,H,Sub.refl _,by rw[aP];exact h⟩
 ·rw[JK (by rw[q];decide)]at h;exact⟨aI,H,Sub.refl _,by rw[aP];exact h⟩
theorem EK(T:Tx K mg t):aG P w K mg base CX0 3 t.a_zN t.d_zN ["drawing","name"] (l7 t):=by
 refine okU (k:=2) T.F_zN qw (fun vs H Q E h=>a8 h) (fun cdv A outer s H E B hr=>⟨_,(af (sC 2 qw.nd (N2:=nl5) (nt:=1) (js:=[1]) (ck (sc:=ai qY)) (aK (a7 (qv 0) T.cl_D T.m_zb (wY T) hr.mo T.B_zb (aa (qv 1) ae))) (fun _ _ _ _=>⟨(gN 0 nn5),bx,(aD (aa (qv 1) (aa aJ (aa (qv 0) ae))))⟩))
  (af (sC 3 qw.nd (N2:=nl5) (nt:=1) (js:=[1]) (ck (sc:=ai qY)) (aK (a7 (qv 0) T.cl_D T.m_zh (Bn T) hr.mo T.B_zh (aa (qv 1) ae))) (fun _ _ _ _=>⟨(gN 0 nn5),bx,(aD (aa (qv 1) (aa aJ (aa (qv 0) ae))))⟩))
  (af (sC 4 qw.nd (N2:=nl5) (nt:=1) (js:=[1]) (ck (sc:=ai qY)) (aK (a7 (qv 0) T.cl_D T.m_zt (ED T) hr.mo T.B_zt (aa (qv 1) ae))) (fun _ _ _ _=>⟨(gN 0 nn5),bx,(aD (aa (qv 1) (aa aJ (aa (qv 0) ae))))⟩))
  (ak (ay (cX (cX (qv 2) (qv 3)) (qv 4))))))),?_⟩)
 injections
 obtain⟨x,_,rfl,n,_,rfl,rfl,h⟩:=h;obtain⟨c,ts,bs,⟨dx,hx⟩,ok,hn,h⟩:=h;have t15:=ok.gt.len ok.c6;have b15:=ok.gb.len ok.c6;have lf:=cA ok.gt ok.c6 n;have lu:=cR ok.gt ok.c6 n;have lb:=dN ok.gb ok.c6 n;have s0:=Sub.refl H;left;refine⟨⟨_,_,hx,rfl⟩,dx,c,ts,bs,hx,hn,t15,?_⟩;show ∀acc,H acc=none->_;intro p1 hp1;refine aE (fun y=>PV.tup [.int n,.str "down",y]) (fun _=>true) (fun σ=>∃z,σ=[z,some (.int n)]) (by rw[Jl];exact JY (cA ok.gt ok.c6 n) (by decide)) (fun _=>trivial) ?_ ?_ ⟨_,rfl⟩
 ·ac_nf;obtain⟨k,hk,rfl⟩:=Jp.mp hy;ac_rfl;exact⟨ah (by decide),hl,by rw[aH];exact kT rfl _ ⟨_,rfl⟩⟩
 rw[oj];subst hR;have s1:=s0.put (o:=.lst (((fol ts n).map fun m=>((n,"down",m):Sp3)).map stV)) (s0.free hp1);have e1:put H p1 (.lst (((fol ts n).map fun m=>((n,"down",m):Sp3)).map stV)) p1=some (.lst (((fol ts n).map fun m=>((n,"down",m):Sp3)).map stV)):=ao;generalize put H p1 (.lst (((fol ts n).map fun m=>((n,"down",m):Sp3)).map stV))=H1 at *;left;refine⟨⟨_,_,s1 _ _ hx,rfl⟩,dx,c,ts,bs,s1 _ _ hx,hn,t15,?_⟩;show ∀acc,H1 acc=none->_;intro p2 hp2;refine aE (fun y=>PV.tup [.int n,.str "up",y]) (fun _=>true) (fun σ=>∃z,σ=[z,some (.int n)]) (by rw[Jl];exact JY (cR ok.gt ok.c6 n) (by decide)) (fun _=>trivial) ?_ ?_ ⟨_,rfl⟩
 ·ac_nf;obtain⟨k,hk,rfl⟩:=Jp.mp hy;ac_rfl;exact⟨ah (by decide),hl,by rw[aH];exact kT rfl _ ⟨_,rfl⟩⟩
 rw[oj];subst hR;have s2:=s1.put (o:=.lst (((src ts n).map fun m=>((n,"up",m):Sp3)).map stV)) (s1.free hp2);have e2:put H1 p2 (.lst (((src ts n).map fun m=>((n,"up",m):Sp3)).map stV)) p2=some (.lst (((src ts n).map fun m=>((n,"up",m):Sp3)).map stV)):=ao;have e1:put H1 p2 (.lst (((src ts n).map fun m=>((n,"up",m):Sp3)).map stV)) p1=some (.lst (((fol ts n).map fun m=>((n,"down",m):Sp3)).map stV)):=(au (aB e1 hp2)).trans e1;generalize put H1 p2 (.lst (((src ts n).map fun m=>((n,"up",m):Sp3)).map stV))=H2 at *;left;refine⟨⟨_,_,s2 _ _ hx,rfl⟩,dx,c,ts,bs,s2 _ _ hx,hn,b15,?_⟩;show ∀acc,H2 acc=none->_;intro p3 hp3;refine aE (fun y=>PV.tup [.int n,.str "bow",y]) (fun _=>true) (fun σ=>∃z,σ=[z,some (.int n)]) (by rw[Jl];exact JY (dN ok.gb ok.c6 n) (by decide)) (fun _=>trivial) ?_ ?_ ⟨_,rfl⟩
 ·ac_nf;obtain⟨k,hk,rfl⟩:=Jp.mp hy;ac_rfl;exact⟨ah (by decide),hl,by rw[aH];exact kT rfl _ ⟨_,rfl⟩⟩
 rw[oj];subst hR;have s3:=s2.put (o:=.lst (((bwd bs n).map fun m=>((n,"bow",m):Sp3)).map stV)) (s2.free hp3);have e3:put H2 p3 (.lst (((bwd bs n).map fun m=>((n,"bow",m):Sp3)).map stV)) p3=some (.lst (((bwd bs n).map fun m=>((n,"bow",m):Sp3)).map stV)):=ao;have e1:put H2 p3 (.lst (((bwd bs n).map fun m=>((n,"bow",m):Sp3)).map stV)) p1=some (.lst (((fol ts n).map fun m=>((n,"down",m):Sp3)).map stV)):=(au (aB e1 hp3)).trans e1;have e2:put H2 p3 (.lst (((bwd bs n).map fun m=>((n,"bow",m):Sp3)).map stV)) p2=some (.lst (((src ts n).map fun m=>((n,"up",m):Sp3)).map stV)):=(au (aB e2 hp3)).trans e2;generalize put H2 p3 (.lst (((bwd bs n).map fun m=>((n,"bow",m):Sp3)).map stV))=H3 at *;ac_rfl;refine⟨_,_,e1,e2,ah (by simp only[Jl];symm),fun p4 hp4=>⟨_,_,rfl,(au (aB e3 hp4)).trans e3,ah (by simp only[Jl,Jr];symm),fun p5 hp5=>?_⟩⟩;have s4:=s3.put (o:=.lst ((((fol ts n).map fun m=>((n,"down",m):Sp3)).map stV)++(((src ts n).map fun m=>((n,"up",m):Sp3)).map stV))) (s3.free hp4);refine⟨_,Sub.refl _,h p5 _ (s4.free hp5) (s4.put (s4.free hp5)) ?_⟩;rw[ao,stp,JB,JB]
theorem IG(T:Tx K mg t):aG P w K mg base CX0 1 t.a_yj t.d_yj ["road"] lK:=by
 refine okU (k:=0) T.F_yj Dk (fun vs H Q E h=>a8 h) (fun cdv A outer s H E B hr=>⟨_,(ak (ay (cX (bz (aa (iX (iX (qv 0) aq) aq) ae)) (cE (N2:=nl6) (nt:=1) (js:=[]) (ck (sc:=ai wQ)) (aK (qv 0)) (fun _ _ _ _=>⟨(gN 0 nn6),bx,(iX (qv 0) aq)⟩))))),?_⟩);intro vs H Q E h
 replace h:=aY h
 obtain⟨a,_,rfl,rfl,h⟩:=h;obtain⟨road,ha,ne,hl,h⟩:=h;cases road with
 | nil=>exact absurd rfl ne
 | cons s0 r0 =>
 ac_rfl;refine⟨_,ha,?_⟩;have e0:atI (stV s0::r0.map stV) 0=some (stV s0):=by
  have:=cI (l:=stV s0::r0.map stV) (i:=0) (by simp);exact this
 rw[JF,e0];unfold stV;ac_rfl;refine⟨ah (by decide),fun p1 hp1=>?_⟩;have e1:put H p1 (.lst [PV.int s0.1]) p1=some (.lst [PV.int s0.1]):=ao;have a1:put H p1 (.lst [PV.int s0.1]) a=some (.lst ((s0::r0).map stV)):=(au (aB ha hp1)).trans ha;have s1:=(Sub.refl H).put (o:=.lst [PV.int s0.1]) hp1;generalize put H p1 (.lst [PV.int s0.1])=H1 at *;refine⟨_,a1,fun acc hacc=>?_⟩;have na:=aB a1 hacc;refine aE g32 (fun _=>true) (fun σ=>∃z,σ=[z]) (by rw[Jl];symm) (fun _=>(au na).trans a1) ?_ ?_ ⟨_,rfl⟩
 ·rintro y hy l σ R' ⟨z,rfl⟩ hl' kT kF;obtain⟨s,hs,rfl⟩:=Jp.mp hy;unfold stV at *;ac_rfl;exact⟨hl',by rw[aH];exact kT rfl _ ⟨_,rfl⟩⟩
 rw[Di];ac_rfl;refine⟨_,_,(au (aB e1 hacc)).trans e1,rfl,ah (by simp at hl ⊢;symm),fun p3 hp3=>⟨_,Sub.refl _,h p3 _ ?_ ?_ ?_⟩⟩
 ·exact(s1.put (s1.free hacc)).free hp3
 ·have s2:=s1.put (o:=.lst (((s0::r0).map (·.2.2)).map PV.int)) (s1.free hacc);exact s2.put (s2.free hp3)
 ·rw[ao];rfl
theorem Iq(T:Tx K mg t):aG P w K mg base CX0 3 t.a_yi t.d_yi ["road"] lX:=by
 refine okU (k:=2) T.F_yi DS (fun vs H Q E h=>a8 h) (fun cdv A outer s H E B hr=>⟨_,(ak (ay (kR (N2:=nl7) (nt:=2) (js:=[]) (ck (sc:=ai yt)) rfl (zP rfl T.b_zip (aa (dY (qv 0) cP (cQ (cj aq))) (aa (dY (qv 0) (cQ aq) cP) ae))) (fun _ _ _ _=>⟨(dj (n:=2) rfl (aT (gN 0 nn7) (aT (gN 1 nn7) cg))),(aZ (br (aA (Es T) hr.mo rfl T.g_zS T.F_zS.kp T.B_zS (aa (qv 0) (aa (qv 1) ae))))),(iX (qv 0) aq)⟩)))),?_⟩);intro vs H Q E h
 replace h:=aY h
 obtain⟨a,_,rfl,rfl,h⟩:=h;obtain⟨road,ha,hl,h⟩:=h;ac_rfl;refine⟨_,ha,fun p1 hp1=>⟨_,(au (aB ha hp1)).trans ha,fun p2 hp2=>?_⟩⟩;rw[mS,uu]at *;have s1:=(Sub.refl H).put (o:=.lst (road.dropLast.map stV)) hp1;have s2:=s1.put (o:=.lst (road.tail.map stV)) (s1.free hp2);have n12:p1≠p2:=fun e=>by subst e;rw[ao]at hp2;cases hp2
 have e1:put (put H p1 (.lst (road.dropLast.map stV))) p2 (.lst (road.tail.map stV)) p1=some (.lst (road.dropLast.map stV)):=(au n12).trans ao;have e2:put (put H p1 (.lst (road.dropLast.map stV))) p2 (.lst (road.tail.map stV)) p2=some (.lst (road.tail.map stV)):=ao;generalize put (put H p1 (.lst (road.dropLast.map stV))) p2 (.lst (road.tail.map stV))=H2 at *;refine⟨_,_,e1,rfl,fun acc hacc=>?_⟩;have f1:=aB e1 hacc;have f2:=aB e2 hacc;refine aE mtN mtF (fun σ=>∃z y,σ=[z,y]) (by rw[iA,Jl,Jl,List.length_dropLast];symm) (fun _=>⟨(au f1).trans e1,(au f2).trans e2⟩) ?_ ?_ ⟨_,_,rfl⟩
 ·rintro y hy l σ R' ⟨z,z2,rfl⟩ hl' kT kF;obtain⟨u,hu,v,hv,rfl⟩:=ym hy;obtain⟨s,hs,rfl⟩:=Jp.mp hu;obtain⟨s',hs',rfl⟩:=Jp.mp hv;have e:mtF (.tup [stV s,stV s'])=mtg s s':=rfl;rw[e]at kT kF;unfold stV at *;ac_rfl;refine⟨s,s',rfl,rfl,?_⟩;exact aV (fun q=>⟨hl',by rw[aH];exact kT q _ ⟨_,_,rfl⟩⟩) (fun q=>kF q _ ⟨_,_,rfl⟩)
 rw[qi];exact⟨_,Sub.refl _,h acc _ (s2.free hacc) (s2.put (s2.free hacc)) ao⟩
theorem G0(T:Tx K mg t):aG P w K mg base CX0 3 t.a_zF t.d_zF ["drawing","standing","given","above"] (jk t):=by
 refine okU (k:=2) T.F_zF o7 (fun vs H Q E h=>a8 h) (fun cdv A outer s H E B hr=>⟨_,(af (sN 4 o7.nd (iX (qv 1) aq))
  (af (sN 5 o7.nd (iX (qv 1) aq))
  (af (sN 6 o7.nd (bz ae))
  (af (aN (cW (bb hr.units) bf (qv 4) (qv 2))
  (ak (aR (cH Ke Kf cT cS (qv 6) (aa (cE (N2:=nl8) (nt:=1) (js:=[]) (ck (sc:=ai qC)) (aK (a7 (qv 0) T.cl_D T.m_zb (wY T) hr.mo T.B_zb (aa (qv 4) ae))) (fun _ _ _ _=>⟨(gN 0 nn8),bx,(aD (aa (qv 0) (aa bI ae)))⟩)) ae))))
  aC)
  (af (aN (aX (dE (aX (bV (br (qv 5)) (bJ (cW (bH hr.units) bf (qv 4) (qv 3))))) (dm (aX (bV (b4 (br (qv 5))) (bJ (cW (bb hr.units) bf (qv 4) (qv 2))))))))
  (af (aR (cH Ke Kf cT cS (qv 6) (aa (cE (N2:=nl8) (nt:=1) (js:=[]) (ck (sc:=ai qC)) (aK (a7 (qv 0) T.cl_D T.m_zh (Bn T) hr.mo T.B_zh (aa (qv 4) ae))) (fun _ _ _ _=>⟨(gN 0 nn8),bx,(aD (aa (qv 0) (aa bI ae)))⟩)) ae)))
   (ak (aR (cH Ke Kf cT cS (qv 6) (aa (cE (N2:=nl8) (nt:=1) (js:=[]) (ck (sc:=ai qC)) (aK (a7 (qv 0) T.cl_D T.m_zt (ED T) hr.mo T.B_zt (aa (qv 4) ae))) (fun _ _ _ _=>⟨(gN 0 nn8),bx,(aD (aa (qv 0) (aa bI ae)))⟩)) ae)))))
  aC)
  (ak (ay (qv 6)))))))),?_⟩)
 injections
 obtain⟨x,_,rfl,z,_,rfl,l,_,rfl,m,_,rfl,rfl,h⟩:=h;obtain⟨c,ts,bs,G,A,n,b,rfl,⟨dx,hx⟩,ok,hn,rfl,rfl,h⟩:=h;unfold sdV at *;have sdd:∀s:Sd,PV.tup [.int s.1,.bl s.2]=sdV s:=fun _=>rfl;have t15:=ok.gt.len ok.c6;have b15:=ok.gb.len ok.c6;have lf:=cA ok.gt ok.c6 n;have lu:=cR ok.gt ok.c6 n;have lb:=dN ok.gb ok.c6 n;left;right;right;refine⟨ah (by decide),fun p hp=>?_⟩;have s0:=(Sub.refl H).put (o:=.lst []) hp;have e0:put H p (.lst []) p=some (.lst (([]:List Sd).map sdV)):=ao;generalize put H p (.lst [])=H0 at *;subst hR;refine aj fun R hR=>?_;have key:∀(L1:List Sd) (H1:PHp),U.Sub H H1->H1 p=some (.lst (L1.map sdV))->L1=(if n∈G then []else(fol ts n).map fun m=>((m,true):Sd))->R { nx:=fun _ H=>∃H3,U.Sub H3 H/\Q .non H3,rt:=fun v H=>∃H3,U.Sub H3 H/\Q v H3 } [some (.ref x),some (.tup [.int n,.bl b]),some (.tup (G.map PV.int)),some (.tup (A.map PV.int)),some (.int n),some (.bl b),some (.ref p)] H1:=fun L1 H1 s1 e1 hL=>by
  have l1:L1.length≤6:=by rw[hL];split<;>simp<;>symm
  subst hR;refine aj fun R hR=>?_;have key2:∀(L2:List Sd) (H2:PHp),U.Sub H H2->H2 p=some (.lst ((L1++L2).map sdV))->L2=(if (b=true/\n∈A)∨(b=false/\n∉G)then(src ts n).map (fun m=>((m,false):Sd))++(bwd bs n).map (fun m=>((m,true):Sd))else [])->R { nx:=fun _ H=>∃H3,U.Sub H3 H/\Q .non H3,rt:=fun v H=>∃H3,U.Sub H3 H/\Q v H3 } [some (.ref x),some (.tup [.int n,.bl b]),some (.tup (G.map PV.int)),some (.tup (A.map PV.int)),some (.int n),some (.bl b),some (.ref p)] H2:=fun L2 H2 s2 e2 hL2=>by
   subst hR;ac_rfl;refine⟨H2,Sub.refl _,h p H2 hp s2 ?_⟩;rw[e2,hL,hL2];rfl
  ac_rfl;cases b with
  | true =>
   refine av rfl ⟨aI,?_⟩;simp only[aP];by_cases ha:n∈A
   ·refine av (by simp[ha]) ?_;have cd:((true:Bool)=true/\n∈A)∨((true:Bool)=false/\n∉G):=.inl ⟨rfl,ha⟩;refine⟨⟨_,e1⟩,⟨_,_,s1 _ _ hx,rfl⟩,dx,c,ts,bs,s1 _ _ hx,hn,t15,?_⟩;show ∀acc,H1 acc=none->_;intro q1 hq1;refine aE (fun y=>PV.tup [y,.bl false]) (fun _=>true) (fun σ=>∃z,σ=[z]) (by rw[Jl];exact JY (cR ok.gt ok.c6 n) (by decide)) (fun _=>trivial) ?_ ?_ ⟨_,rfl⟩
    ·ac_nf;obtain⟨k,hk,rfl⟩:=Jp.mp hy;ac_rfl;exact⟨ah (by decide),hl,by rw[aH];exact kT rfl _ ⟨_,rfl⟩⟩
    rw[eZ];ac_rfl;refine⟨_,_,(au (aB e1 hq1)).trans e1,rfl,ah (by simp only[Jl,Jr,Lk];symm),?_⟩;rw[←JB];have s2:=(s1.put (o:=.lst (((src ts n).map fun m=>((m,false):Sd)).map sdV)) (s1.free hq1)).put (o:=.lst ((L1++(src ts n).map fun m=>((m,false):Sd)).map sdV)) hp;have e2:put (put H1 q1 (.lst (((src ts n).map fun m=>((m,false):Sd)).map sdV))) p (.lst ((L1++(src ts n).map fun m=>((m,false):Sd)).map sdV)) p=some (.lst ((L1++(src ts n).map fun m=>((m,false):Sd)).map sdV)):=ao;generalize put (put H1 q1 (.lst (((src ts n).map fun m=>((m,false):Sd)).map sdV))) p (.lst ((L1++(src ts n).map fun m=>((m,false):Sd)).map sdV))=H2 at *;refine⟨⟨_,rfl⟩,⟨_,_,s2 _ _ hx,rfl⟩,dx,c,ts,bs,s2 _ _ hx,hn,b15,?_⟩;show ∀acc,H2 acc=none->_;intro q2 hq2;refine aE (fun y=>PV.tup [y,.bl true]) (fun _=>true) (fun σ=>∃z,σ=[z]) (by rw[Jl];exact JY (dN ok.gb ok.c6 n) (by decide)) (fun _=>trivial) ?_ ?_ ⟨_,rfl⟩
    ·ac_nf;obtain⟨k,hk,rfl⟩:=Jp.mp hy;ac_rfl;exact⟨ah (by decide),hl,by rw[aH];exact kT rfl _ ⟨_,rfl⟩⟩
    rw[eZ];ac_rfl;refine⟨_,_,(au (aB e2 hq2)).trans e2,rfl,ah (by simp only[Jl,Jr,Lk];symm),?_⟩;rw[←JB];have s3:=(s2.put (o:=.lst (((bwd bs n).map fun m=>((m,true):Sd)).map sdV)) (s2.free hq2)).put (o:=.lst (((L1++((src ts n).map fun m=>((m,false):Sd)))++(bwd bs n).map fun m=>((m,true):Sd)).map sdV)) hp;have e3:put (put H2 q2 (.lst (((bwd bs n).map fun m=>((m,true):Sd)).map sdV))) p (.lst (((L1++((src ts n).map fun m=>((m,false):Sd)))++(bwd bs n).map fun m=>((m,true):Sd)).map sdV)) p=some (.lst (((L1++((src ts n).map fun m=>((m,false):Sd)))++(bwd bs n).map fun m=>((m,true):Sd)).map sdV)):=ao;generalize put (put H2 q2 (.lst (((bwd bs n).map fun m=>((m,true):Sd)).map sdV))) p (.lst (((L1++((src ts n).map fun m=>((m,false):Sd)))++(bwd bs n).map fun m=>((m,true):Sd)).map sdV))=H3 at *;exact key2 _ H3 s3 (by rw[e3,KL]) (by rw[JL cd])
   ·exact ar (by simp[ha]) (ar rfl (key2 [] H1 s1 (by rw[JQ];exact e1) (by rw[JK (by simp[ha])])))
  | false =>
   refine ar rfl (av rfl ⟨aI,?_⟩);simp only[aP];by_cases ha:n∈G
   ·exact ar (by simp[ha]) (key2 [] H1 s1 (by rw[JQ];exact e1) (by rw[JK (by simp[ha])]))
   ·refine av (by simp[ha]) ?_;have cd:((false:Bool)=true/\n∈A)∨((false:Bool)=false/\n∉G):=.inr ⟨rfl,ha⟩;refine⟨⟨_,e1⟩,⟨_,_,s1 _ _ hx,rfl⟩,dx,c,ts,bs,s1 _ _ hx,hn,t15,?_⟩;show ∀acc,H1 acc=none->_;intro q1 hq1;refine aE (fun y=>PV.tup [y,.bl false]) (fun _=>true) (fun σ=>∃z,σ=[z]) (by rw[Jl];exact JY (cR ok.gt ok.c6 n) (by decide)) (fun _=>trivial) ?_ ?_ ⟨_,rfl⟩
    ·ac_nf;obtain⟨k,hk,rfl⟩:=Jp.mp hy;ac_rfl;exact⟨ah (by decide),hl,by rw[aH];exact kT rfl _ ⟨_,rfl⟩⟩
    rw[eZ];ac_rfl;refine⟨_,_,(au (aB e1 hq1)).trans e1,rfl,ah (by simp only[Jl,Jr,Lk];symm),?_⟩;rw[←JB];have s2:=(s1.put (o:=.lst (((src ts n).map fun m=>((m,false):Sd)).map sdV)) (s1.free hq1)).put (o:=.lst ((L1++(src ts n).map fun m=>((m,false):Sd)).map sdV)) hp;have e2:put (put H1 q1 (.lst (((src ts n).map fun m=>((m,false):Sd)).map sdV))) p (.lst ((L1++(src ts n).map fun m=>((m,false):Sd)).map sdV)) p=some (.lst ((L1++(src ts n).map fun m=>((m,false):Sd)).map sdV)):=ao;generalize put (put H1 q1 (.lst (((src ts n).map fun m=>((m,false):Sd)).map sdV))) p (.lst ((L1++(src ts n).map fun m=>((m,false):Sd)).map sdV))=H2 at *;refine⟨⟨_,rfl⟩,⟨_,_,s2 _ _ hx,rfl⟩,dx,c,ts,bs,s2 _ _ hx,hn,b15,?_⟩;show ∀acc,H2 acc=none->_;intro q2 hq2;refine aE (fun y=>PV.tup [y,.bl true]) (fun _=>true) (fun σ=>∃z,σ=[z]) (by rw[Jl];exact JY (dN ok.gb ok.c6 n) (by decide)) (fun _=>trivial) ?_ ?_ ⟨_,rfl⟩
    ·ac_nf;obtain⟨k,hk,rfl⟩:=Jp.mp hy;ac_rfl;exact⟨ah (by decide),hl,by rw[aH];exact kT rfl _ ⟨_,rfl⟩⟩
    rw[eZ];ac_rfl;refine⟨_,_,(au (aB e2 hq2)).trans e2,rfl,ah (by simp only[Jl,Jr,Lk];symm),?_⟩;rw[←JB];have s3:=(s2.put (o:=.lst (((bwd bs n).map fun m=>((m,true):Sd)).map sdV)) (s2.free hq2)).put (o:=.lst (((L1++((src ts n).map fun m=>((m,false):Sd)))++(bwd bs n).map fun m=>((m,true):Sd)).map sdV)) hp;have e3:put (put H2 q2 (.lst (((bwd bs n).map fun m=>((m,true):Sd)).map sdV))) p (.lst (((L1++((src ts n).map fun m=>((m,false):Sd)))++(bwd bs n).map fun m=>((m,true):Sd)).map sdV)) p=some (.lst (((L1++((src ts n).map fun m=>((m,false):Sd)))++(bwd bs n).map fun m=>((m,true):Sd)).map sdV)):=ao;generalize put (put H2 q2 (.lst (((bwd bs n).map fun m=>((m,true):Sd)).map sdV))) p (.lst (((L1++((src ts n).map fun m=>((m,false):Sd)))++(bwd bs n).map fun m=>((m,true):Sd)).map sdV))=H3 at *;exact key2 _ H3 s3 (by rw[e3,KL]) (by rw[JL cd])
 ac_rfl;refine⟨aI,?_⟩;simp only[aP];by_cases hg:n∈G
 ·exact ar (by simp[hg]) (key [] H0 s0 e0 (by rw[JL hg]))
 refine av (by simp[hg]) ⟨⟨_,e0⟩,⟨_,_,s0 _ _ hx,rfl⟩,dx,c,ts,bs,s0 _ _ hx,hn,t15,?_⟩;show ∀acc,H0 acc=none->_;intro q hq;refine aE (fun y=>PV.tup [y,.bl true]) (fun _=>true) (fun σ=>∃z,σ=[z]) (by rw[Jl];exact JY (cA ok.gt ok.c6 n) (by decide)) (fun _=>trivial) ?_ ?_ ⟨_,rfl⟩
 ·ac_nf;obtain⟨k,hk,rfl⟩:=Jp.mp hy;ac_rfl;exact⟨ah (by decide),hl,by rw[aH];exact kT rfl _ ⟨_,rfl⟩⟩
 rw[eZ];ac_rfl;refine⟨_,_,(au (aB e0 hq)).trans e0,rfl,ah (by simp only[Jl,Jr,Lk];symm),?_⟩;rw[←JB];have s1:=(s0.put (o:=.lst (((fol ts n).map fun m=>((m,true):Sd)).map sdV)) (s0.free hq)).put (o:=.lst (([]++(fol ts n).map fun m=>((m,true):Sd)).map sdV)) hp;have e1:put (put H0 q (.lst (((fol ts n).map fun m=>((m,true):Sd)).map sdV))) p (.lst (([]++(fol ts n).map fun m=>((m,true):Sd)).map sdV)) p=some (.lst (([]++(fol ts n).map fun m=>((m,true):Sd)).map sdV)):=ao;generalize put (put H0 q (.lst (((fol ts n).map fun m=>((m,true):Sd)).map sdV))) p (.lst (([]++(fol ts n).map fun m=>((m,true):Sd)).map sdV))=H1 at *;exact key _ _ s1 e1 (by rw[JK hg];rfl)
theorem FX(T:Tx K mg t):aG P w K mg base CX0 4 t.a_zO t.d_zO ["drawing","ones","given"] (lj t):=by
 refine okU (k:=3) T.F_zO mL (fun vs H Q E h=>a8 h) (fun cdv A outer s H E B hr=>⟨_,(af (sN 3 mL.nd (a7 (qv 0) T.cl_D T.m_zd (Ey T) hr.mo T.B_zd (aa (qv 2) ae)))
  (af (sC 4 mL.nd (N2:=nl9) (nt:=1) (js:=[]) (ck (sc:=ai ya)) (aK (qv 1)) (fun _ _ _ _=>⟨(gN 0 nn9),bx,(aD (aa (qv 0) (aa bI ae)))⟩))
  (af (sN 5 mL.nd (bz ae))
  (af (fj JW (cN dG dC (az ax aW rfl T.b_len JJ (aa (qv 4) ae)) aq)
  (af (sN 6 mL.nd (BG PySem.F.slot_list_pop PySem.F.type_list_pop Cq BZ BB (qv 4)))
   (ak (aN (cW (bb hr.units) bf (qv 6) (qv 5))
   (af (aR (cH Kx Ky bU b9 (qv 5) (aa (qv 6) ae)))
    (ak (aR (cH Ke Kf cT cS (qv 4) (aa (aA (G0 T) hr.mo rfl T.g_zF T.F_zF.kp T.B_zF (aa (qv 0) (aa (qv 6) (aa (qv 2) (aa (qv 3) ae))))) ae)))))
   aC))))
  (ak (ay (qv 5))))))),?_⟩)
 injections
 obtain⟨x,_,rfl,l,_,rfl,m,_,rfl,rfl,h⟩:=h;obtain⟨c,ts,bs,O,G,⟨dx,hx⟩,ok,rfl,rfl,hO,hG,h⟩:=h;have t15:=ok.gt.len ok.c6;have b15:=ok.gb.len ok.c6;have o6:=hO.len ok.c6;left;refine⟨⟨_,_,hx,rfl⟩,c,ts,G,⟨_,_,hx⟩,rfl,hG,⟨ok.c1,ok.c6⟩,ok.gt,fun A up iff=>?_⟩;have an:An ts G A:=⟨up,iff⟩;right;show ∀acc,H acc=none->_;intro w hw;refine aE (fun y=>PV.tup [y,.bl false]) (fun _=>true) (fun σ=>∃z,σ=[z]) (by rw[Jl];symm) (fun _=>trivial) ?_ ?_ ⟨_,rfl⟩
 ·ac_nf;obtain⟨k,hk,rfl⟩:=Jp.mp hy;ac_rfl;exact⟨ah (by decide),hl,by rw[aH];exact kT rfl _ ⟨_,rfl⟩⟩
 rw[eZ];right;refine⟨ah (by decide),fun q hq=>?_⟩;have nwq:w≠q:=fun e=>by subst e;rw[ao]at hq;cases hq
 have s1:=(Sub.refl H).put (o:=.lst ((O.map fun m=>((m,false):Sd)).map sdV)) hw;have hqH:=s1.free hq;have s2:=s1.put (o:=.lst []) hqH;have e1:put (put H w (.lst ((O.map fun m=>((m,false):Sd)).map sdV))) q (.lst []) w=some (.lst ((O.map fun m=>((m,false):Sd)).map sdV)):=(au nwq).trans ao;have e2:put (put H w (.lst ((O.map fun m=>((m,false):Sd)).map sdV))) q (.lst []) q=some (.lst (([]:List Sd).map sdV)):=ao;generalize put (put H w (.lst ((O.map fun m=>((m,false):Sd)).map sdV))) q (.lst [])=H1 at *;subst hR;refine aj fun R hR=>?_;refine eI fun Rb hRb=>?_;refine d5 (fun m σ H2=>∃z,∃W L:List Sd,σ=[some (.ref x),some (.tup (O.map PV.int)),some (.tup (G.map PV.int)),some (.tup (A.map PV.int)),some (.ref w),some (.ref q),z]/\U.Sub H H2/\H2 w=some (.lst (W.map sdV))/\H2 q=some (.lst (L.map sdV))/\LI ts bs G A O W L/\W.length≤6+18*L.length/\m=(12 - L.length)*20+W.length) _ ⟨none,_,[],rfl,s2,e1,e2,⟨by simp,fun s hs=>(by cases hs),fun s hs=>?_,fun y hy=>.inr (Jp.mpr ⟨y,hy,rfl⟩),fun s hs=>(by cases hs)⟩,by rw[Jl];simp;symm,rfl⟩ ?_
 ·obtain⟨y,hy,rfl⟩:=Jp.mp hs;exact .base hy
 rintro m σ H2 ⟨z,W,L,rfl,s2,e1,e2,li,lw,rfl⟩;have l12:=ku ok.c6 li.nd fun s hs=>lQ ok.gt ok.gb hO.lo (li.rl s hs);ac_rfl;refine⟨_,e1,?_⟩;rcases KA W with rfl |⟨W',st,rfl⟩
 ·refine ar (by simp) ?_;subst hR;ac_rfl;exact⟨H2,Sub.refl _,h q H2 A L hqH s2 an e2 li.nd li.iff⟩
 rw[KC]at *;refine av (by simp) (yr fun N bk hN=>?_);have rst:=lQ ok.gt ok.gb hO.lo (li.rw st (by simp));subst hRb;refine aj fun R' hR'=>?_;ac_rfl;have dl:((W'++[st]).map sdV).dropLast=W'.map sdV:=by simp
 refine⟨_,sdV st,e1,by simp,?_⟩;rw[dl];have s3:=s2.put (o:=.lst (W'.map sdV)) hw;have e3:put H2 w (.lst (W'.map sdV)) w=some (.lst (W'.map sdV)):=ao;have e4:put H2 w (.lst (W'.map sdV)) q=some (.lst (L.map sdV)):=(au nwq.symm).trans e2;generalize put H2 w (.lst (W'.map sdV))=H3 at *;subst hR';unfold sdV at *;ac_rfl;refine⟨_,e4,?_⟩;refine⟨pq,?_⟩;have ea:=uQ (L:=L) (n:=st.1) (b:=st.2);unfold sdV at ea;rw[ea];rw[Jr,JZ]at lw;by_cases hm:(st.1,st.2)∈L
 ·refine ar (by simp[hm]) (hN _ _ ⟨(12 - L.length)*20+W'.length,by rw[Jr,JZ];symm,_,W',L,rfl,s3,e3,e4,li.old hm,by symm,rfl⟩)
 refine av (by simp[hm]) ?_;refine⟨⟨_,e4⟩,_,e4,bC (by rw[Jl];symm),?_⟩;have s5:=s3.put (o:=.lst (L.map sdV++[sdV st])) hqH;have e5:put H3 q (.lst (L.map sdV++[sdV st])) w=some (.lst (W'.map sdV)):=(au nwq).trans e3;have e6:put H3 q (.lst (L.map sdV++[sdV st])) q=some (.lst ((L++[st]).map sdV)):=by rw[ao,JB];rfl
 unfold sdV at s5 e5 e6;refine⟨⟨_,e5⟩,c,ts,bs,G,A,st.1,st.2,rfl,⟨dx,s5 _ _ hx⟩,ok,rst,rfl,rfl,fun r H4 _ s6 er=>?_⟩;have e7:=s6 _ _ e5;have bl:=yC ok.gt ok.gb ok.c6 (G:=G) (A:=A) st;have bl2:(bes ts bs G A (st.1,st.2)).length≤18:=bl;refine⟨_,_,e7,er,ah (by simp only[Jl];symm),?_⟩;show N _ (put H4 w (.lst (List.map sdV W'++List.map sdV (bes ts bs G A st))));rw[←JB];have li':=li.new hm;refine hN _ _ ⟨(12 - (L++[st]).length)*20+(W'++bes ts bs G A st).length,?_,_,_,L++[st],rfl,(s5.trans s6).put hw,ao,(au nwq.symm).trans (s6 _ _ e6),li',?_,rfl⟩
 ·have l13:=ku ok.c6 li'.nd fun s hs=>lQ ok.gt ok.gb hO.lo (li'.rl s hs);rw[Jr,JZ]at l13 ⊢;rw[Jr,Jr,JZ];symm
 ·rw[Jr,Jr,JZ];symm
theorem Gx(T:Tx K mg t):aG P w K mg base CX0 4 t.a_zG t.d_zG ["drawing","names"] (k8 t):=by
 refine okU (k:=3) T.F_zG tY (fun vs H Q E h=>a8 h) (fun cdv A outer s H E B hr=>⟨_,(af (sN 2 tY.nd (bz ae))
  (af (bM JW rfl (aK (qv 1)) (gN 3 tY.nd)
  (ak (aR (cH Ke Kf cT cS (qv 2) (aa (cE (N2:=nl6) (nt:=1) (js:=[]) (ck (sc:=ai wV)) (aK (aA (EK T) hr.mo rfl T.g_zN T.F_zN.kp T.B_zN (aa (qv 0) (aa (qv 3) ae)))) (fun _ _ _ _=>⟨(gN 0 nn6),bx,(bz (aa (qv 0) ae))⟩)) ae)))))
  (ak (ay (qv 2))))),?_⟩)
 injections
 obtain⟨x,_,rfl,l,_,rfl,rfl,h⟩:=h;obtain⟨c,ts,bs,O,⟨dx,hx⟩,ok,rfl,hO,h⟩:=h;have o6:=hO.len ok.c6;left;refine⟨ah (by decide),fun q hq=>?_⟩;have s0:=(Sub.refl H).put (o:=.lst []) hq;have e0:put H q (.lst []) q=some (.lst []):=ao;generalize put H q (.lst [])=H0 at *;right;refine cy (fun i σ H2=>∃z us,σ=[some (.ref x),some (.tup (O.map PV.int)),some (.ref q),z]/\U.Sub H H2/\H2 q=some (.lst us)/\a9 H2 q us (rdV (iy ts bs (O.take i)))/\Frs H us/\us.length≤18*i) ?_ ?_ ⟨none,[],rfl,s0,e0,by simp[iy,a9,Paired.nil],Frs.nil,by simp⟩
 ·rintro σ H2 ⟨z,us,rfl,s2,e2,ls,fu,lu⟩;refine⟨trivial,?_⟩;rw[Jl,JX]at ls;subst hR;ac_rfl;exact⟨H2,Sub.refl _,h q H2 us hq s2 e2 ls fu⟩
 ·rintro N i y σ H2 hy ⟨z,us,rfl,s2,e2,ls,fu,lu⟩ kk;refine⟨trivial,?_⟩;rw[JI]at hy;obtain⟨n,hn,rfl⟩:=J4.mp hy;have hi:i<O.length:=(JE.mp hn).1;have hno:=hO.lo n (JH hn);ac_rfl;refine⟨⟨_,e2⟩,c,ts,bs,⟨dx,s2 _ _ hx⟩,ok,hno,fun r H3 _ s3 er=>⟨_,er,?_⟩⟩;show ∀acc,H3 acc=none->_;intro acc hacc;have sl:=gX ok.gt ok.gb ok.c6 n;have e3:=s3 _ _ e2;have nqa:=aB e3 hacc;have nra:=aB er hacc;refine fU (fun j σ H4=>∃z ws,σ=[z]/\U.Sub H3 H4/\H4 acc=some (.lst ws)/\a9 H4 acc ws (rdV (((stp ts bs n).take j).map fun s=>[s]))/\Frs H3 ws) ?_ ?_ ⟨none,[],rfl,(Sub.refl H3).put hacc,ao,by simp[a9,Paired.nil],Frs.nil⟩
  ·rintro j v σ H4 R' hv ⟨z,ws,rfl,s4,e4,l4,f4⟩ k4;rw[JI]at hv;obtain⟨st,hst,rfl⟩:=J4.mp hv;refine⟨s4 _ _ er,?_⟩;ac_rfl;refine⟨ah (by decide),fun p hp=>?_⟩;have np:=aB e4 hp;have hl4:=l4.len;have tl:(((stp ts bs n).take j)).length≤18:=by rw[J6];symm
   simp only[rdV,Jl]at hl4;refine⟨_,(au np).trans e4,bC (by symm),?_⟩;have l5:a9 (put H4 p (.lst [stV st])) acc ws (rdV (((stp ts bs n).take j).map fun s=>[s])):=l4.up ((Sub.refl H4).put hp);have l6:=(l5.snoc (r:=p) (l:=[stV st]) np.symm ao).put (o:=.lst (ws++[.ref p]));refine k4 _ _ ⟨_,_,rfl,(s4.put (s4.free hp)).put hacc,ao,?_,f4.app (Frs.one (s4.free hp))⟩
   ·have ej:(stp ts bs n).take (j+1)=(stp ts bs n).take j++[st]:=by rw[Kv,hst];rfl
    rw[ej];simpa[rdV]using l6
  ·rintro σ H4 ⟨z,ws,rfl,s4,e4,l4,f4⟩;refine⟨s4 _ _ er,?_⟩;rw[Jl,JX]at l4;have e5:=s4 _ _ e3;have hl4:=l4.len;simp only[rdV,Jl]at hl4;have hqa:q≠acc:=nqa;ac_rfl;refine⟨_,_,e5,e4,ah (by symm),?_⟩;refine kk _ _ ⟨_,us++ws,rfl,((s2.trans s3).trans s4).put hq,ao,?_,fu.app (Frs.mono (s2.trans s3) f4),by rw[Jr];symm⟩;have ei:iy ts bs (O.take (i+1))=iy ts bs (O.take i)++(stp ts bs n).map fun s=>[s]:=by
    unfold iy;rw[Kv,hn];simp
   rw[ei];unfold rdV;rw[JB];exact uP ((ls.up (s3.trans s4)).put) (a9.put (a9.fr e3 l4 f4))
theorem Gw(T:Tx K mg t):aG P w K mg base CX0 4 t.a_zy t.d_zy ["drawing","roads","given"] (jH t):=by
 refine okU (k:=3) T.F_zy jf (fun vs H Q E h=>a8 h) (fun cdv A outer s H E B hr=>⟨_,(af (sN 3 jf.nd (a7 (qv 0) T.cl_D T.m_zd (Ey T) hr.mo T.B_zd (aa (qv 2) ae)))
  (af (sN 4 jf.nd (bz ae))
  (af (bM JW rfl (aK (qv 1)) (gN 5 jf.nd)
  (af (sN 6 jf.nd (aA (IG T) hr.mo rfl T.g_yj T.F_yj.kp T.B_yj (aa (qv 5) ae)))
   (ak (bM JW rfl (aK (aA (EK T) hr.mo rfl T.g_zN T.F_zN.kp T.B_zN (aa (qv 0) (aa (iX (qv 6) (cj aq)) ae)))) (gN 7 jf.nd)
   (ak (aN (aX (bV (cW (bb hr.units) bf (iX (qv 7) aq) (qv 6)) (bJ (br (aA (Gf T) hr.mo rfl T.g_zV T.F_zV.kp T.B_zV (aa (iX (qv 5) (cj aq)) (aa (qv 7) (aa (qv 2) (aa (qv 3) ae)))))))))
    (ak (aR (cH Kx Ky bU b9 (qv 4) (aa (cX (qv 5) (bz (aa (qv 7) ae))) ae))))
    aC))))))
  (ak (ay (qv 4)))))),?_⟩)
 injections
 obtain⟨x,_,rfl,a,_,rfl,l,_,rfl,rfl,h⟩:=h;obtain⟨c,ts,bs,G,us,rs,⟨dx,hx⟩,ok,rfl,hG,ha,lsts,big,hrs,h⟩:=h;left;refine⟨⟨_,_,hx,rfl⟩,c,ts,G,⟨_,_,hx⟩,rfl,hG,⟨ok.c1,ok.c6⟩,ok.gt,fun A up iff=>?_⟩;have an:An ts G A:=⟨up,iff⟩;right;refine⟨ah (by decide),fun q hq=>?_⟩;have s0:=(Sub.refl H).put (o:=.lst []) hq;have e0:put H q (.lst []) q=some (.lst []):=ao;generalize put H q (.lst [])=H0 at *;right;refine⟨_,s0 _ _ ha,?_⟩;have hlen:=lsts.len;simp only[rdV,Jl]at hlen;have nl:∀rs':List (List Sp3),(rs'.flatMap (gS ts bs G A)).length≤rs'.length*18:=fun rs'=>My.dD fun r _=>pI ok r;refine cy (fun i σ H2=>∃z1 z2 z3 ws,σ=[some (.ref x),some (.ref a),some (.tup (G.map PV.int)),some (.tup (A.map PV.int)),some (.ref q),z1,z2,z3]/\U.Sub H H2/\H2 q=some (.lst ws)/\a9 H2 q ws (rdV ((rs.take i).flatMap (gS ts bs G A)))/\Frs H ws) ?_ ?_ ⟨none,none,none,[],rfl,s0,e0,by simp[a9,Paired.nil],Frs.nil⟩
 ·rintro σ H2 ⟨z1,z2,z3,ws,rfl,s2,e2,ls,fw⟩;refine⟨s2 _ _ ha,?_⟩;rw[hlen,JX]at ls;subst hR;ac_rfl;exact⟨H2,Sub.refl _,h q H2 ws A hq s2 an e2 ls fw⟩
 ·rintro N i y σ H2 hy ⟨z1,z2,z3,ws,rfl,s2,e2,ls,fw⟩ kk;refine⟨s2 _ _ ha,?_⟩;obtain⟨l,ra,hl,rfl,nra,hra⟩:=lsts.at hy;have hl:(rs.map fun r=>r.map stV)[i]?=some l:=hl;rw[JI]at hl;obtain⟨r,hr,rfl⟩:=J4.mp hl;have hi:i<rs.length:=(JE.mp hr).1;obtain⟨r1,r2,r3⟩:=hrs r (JH hr);refine aj fun R' hR'=>?_;ac_rfl;refine⟨r,s2 _ _ hra,r1,r2,fun nr H3 hnr s3 en=>?_⟩;subst hR';ac_rfl;refine⟨_,en,?_⟩;rw[Fp r1];ac_rfl;refine⟨c,ts,bs,⟨dx,s3 _ _ (s2 _ _ hx)⟩,ok,r3,fun sr H4 hsr s4 es=>⟨_,es,?_⟩⟩;have sl:=gX ok.gt ok.gb ok.c6 (lsS r).2.2;have s24:=(s2.trans s3).trans s4;have nqs:sr≠q:=(aB (s3 _ _ e2) hsr).symm;have nqn:nr≠q:=(aB e2 hnr).symm;refine cy (fun j σ H5=>∃z3 vs,σ=[some (.ref x),some (.ref a),some (.tup (G.map PV.int)),some (.tup (A.map PV.int)),some (.ref q),some (.ref ra),some (.ref nr),z3]/\U.Sub H H5/\H5 nr=some (.lst ((My.nm r).map PV.int))/\H5 sr=some (.lst ((stp ts bs (lsS r).2.2).map stV))/\H5 q=some (.lst vs)/\a9 H5 q vs (rdV ((rs.take i).flatMap (gS ts bs G A)++(((stp ts bs (lsS r).2.2).take j).filter fun s=>!decide (s.2.2∈My.nm r)&&psd G A (lsS r) s).map fun s=>r++[s]))/\Frs H vs) ?_ ?_ ⟨_,ws,rfl,s24,s4 _ _ en,es,(s3.trans s4) _ _ e2,by simpa using ls.up (s3.trans s4),fw⟩
  ·rintro σ H5 ⟨z3,vs,rfl,s5,en5,es5,eq5,l5,fv⟩;refine⟨es5,kk _ _ ⟨_,_,_,vs,rfl,s5,eq5,?_,fv⟩⟩;rw[Jl,JX]at l5;have ei:(rs.take (i+1)).flatMap (gS ts bs G A)=(rs.take i).flatMap (gS ts bs G A)++gS ts bs G A r:=by rw[Kv,hr];simp
   rw[ei];exact l5
  ·rintro N' j v σ H5 hv ⟨z3,vs,rfl,s5,en5,es5,eq5,l5,fv⟩ kk';refine⟨es5,?_⟩;rw[JI]at hv;obtain⟨st,hst,rfl⟩:=J4.mp hv;have hj:j<(stp ts bs (lsS r).2.2).length:=(JE.mp hst).1;have ej:(stp ts bs (lsS r).2.2).take (j+1)=(stp ts bs (lsS r).2.2).take j++[st]:=by rw[Kv,hst];rfl
   have no:(!decide (st.2.2∈My.nm r)&&psd G A (lsS r) st)=false->N' [some (.ref x),some (.ref a),some (.tup (G.map PV.int)),some (.tup (A.map PV.int)),some (.ref q),some (.ref ra),some (.ref nr),some (stV st)] H5:=fun z=>kk' _ _ ⟨_,vs,rfl,s5,en5,es5,eq5,by rw[ej,Lq];simp only[Ku,z];simpa using l5,fv⟩;have at1:=si r1;generalize lsS r=le at *;unfold stV at *;ac_rfl;refine⟨_,en5,aI,?_⟩;rw[aP];by_cases hm:st.2.2∈My.nm r
   ·exact ar (by simp[hm]) (no (by simp[hm]))
   refine av (by simp[hm]) ⟨_,s5 _ _ hra,?_⟩;rw[at1];ac_rfl;refine⟨le,st,G,A,rfl,rfl,rfl,rfl,?_⟩;refine aV (fun z=>?_) (fun z=>no (by simp[hm];exact z));have ra5:=s5 _ _ hra;have hl5:=l5.len;have i2:=nl (rs.take i);have f2:=KZ (fun s=>!decide (s.2.2∈My.nm r)&&psd G A le s) ((stp ts bs le.2.2).take j);simp only[rdV,Jl,Jr]at hl5;rw[J6]at i2 f2;refine⟨⟨_,eq5⟩,ah (by decide),fun p1 hp1=>⟨_,_,(au (aB ra5 hp1)).trans ra5,rfl,ah (by simp only[Jl,JZ];symm),fun p2 hp2=>?_⟩⟩;have sa:=(Sub.refl H5).put (o:=.lst [PV.tup [PV.int st.1,PV.str st.2.1,PV.int st.2.2]]) hp1;have sb:=sa.put (o:=.lst (List.map (fun s=>PV.tup [PV.int s.1,PV.str s.2.1,PV.int s.2.2]) r++[PV.tup [PV.int st.1,PV.str st.2.1,PV.int st.2.2]])) (sa.free hp2);have hp2H:=sa.free hp2;refine⟨_,sb _ _ eq5,by symm,kk' _ _ ⟨_,_,rfl,(s5.trans sb).put hq,(au nqn).trans (sb _ _ en5),(au nqs).trans (sb _ _ es5),ao,?_,fv.app (Frs.one (s5.free hp2H))⟩⟩;have l6:=((l5.up sb).snoc (r:=p2) (aB eq5 hp2H).symm ao).put (o:=.lst (vs++[PV.ref p2]));rw[ej,Lq];simp only[Ku,z,hm];simp[rdV,hm,z]at l6 ⊢;exact l6
theorem Hw(T:Tx K mg t):aG P w K mg base CX0 5 t.a_zn t.d_zn ["drawing","ones","others","given"] (mD t):=by
 refine okU (k:=4) T.F_zn mw (fun vs H Q E h=>a8 h) (fun cdv A outer s H E B hr=>⟨_,(af (sN 4 mw.nd (aA (Gx T) hr.mo rfl T.g_zG T.F_zG.kp T.B_zG (aa (qv 0) (aa (qv 1) ae))))
  (af (sC 5 mw.nd (N2:=zV) (nt:=1) (js:=[2]) (ck (sc:=ai sj)) (aK (qv 4)) (fun _ _ _ _=>⟨(gN 0 DL),(aZ (cW (bH hr.units) bf (iX (iX (qv 0) (cj aq)) aq) (qv 1))),(qv 0)⟩))
  (af (fj JW (cN (aU hr.units) bw (az ax aW rfl T.b_len JJ (aa (qv 5) ae)) aq)
  (af (sN 4 mw.nd (aA (Gw T) hr.mo rfl T.g_zy T.F_zy.kp T.B_zy (aa (qv 0) (aa (qv 4) (aa (qv 3) ae)))))
   (ak (sC 5 mw.nd (N2:=zV) (nt:=1) (js:=[2]) (ck (sc:=ai sj)) (aK (qv 4)) (fun _ _ _ _=>⟨(gN 0 DL),(aZ (cW (bH hr.units) bf (iX (iX (qv 0) (cj aq)) aq) (qv 1))),(qv 0)⟩)))))
  (ak (ay (iX (qv 5) aq)))))),?_⟩)
 injections
 obtain⟨x,_,rfl,l,_,rfl,m,_,rfl,n,_,rfl,rfl,h⟩:=h;obtain⟨c,ts,bs,O,B,G,A,⟨dx,hx⟩,ok,rfl,rfl,rfl,hO,hG,an,⟨tg,ht,hb⟩,h⟩:=h;have o6:=hO.len ok.c6;have t5:=ht.len ok;left;refine⟨c,ts,bs,O,⟨dx,hx⟩,ok,rfl,hO,fun q H1 us hq s1 e1 l1 f1=>?_⟩;subst hR;refine aj fun R hR=>?_;have scan:∀(q:Addr) (H1:PHp) (us:List PV) (k:Nat) (rs:List (List Sp3)) (K:VK'),RdK ts bs G A O tg k rs->U.Sub H H1->H1 q=some (.lst us)->a9 H1 q us (rdV rs)->Frs H us ->
  (∀f H2,U.Sub H1 H2->H2 f=some (.lst (us.filter (ij H1 B)))->K (.ref f) H2)->∀σ1,σ1=[none,some (.tup (B.map PV.int))]->∀acc,H1 acc=none ->
  cp (fun H=>H q=some (.lst us)) (du 0) (fI (uOp (xn fun b=>b) (uOp uIx (uOp uIx (fC 0) (uUn (fun x H Q=>bW x fun i=>Q (.int (-i)) H) (uC (PV.int 1)))) (uC (PV.int 2))) (fC 1))) (fC 0) acc K us σ1 (put H1 acc (.lst [])):=fun q H1 us k rs K rk s1 e1 l1 f1 kk σ1 hσ acc hacc=>by
  subst hσ;have nq:=aB e1 hacc;have hle:=l1.len;simp only[rdV,Jl]at hle;have h6:rs.length≤6*18 ^ 5:=JY rk.le (Nat.mul_le_mul_left _ (Nat.pow_le_pow_right (by decide) (by have:=rk.k1;symm)));refine mi (fun y=>y) (ij H1 B) (fun σ=>∃z,σ=[z,some (.tup (B.map PV.int))]) (by rw[J9];symm) (fun _=>(au nq).trans e1) ?_ ?_ ⟨_,rfl⟩
  ·ac_nf;obtain⟨l',r,hl',rfl,nr,hr⟩:=l1.mem hy;obtain⟨road,hroad,rfl⟩:=Jp.mp hl';have ne:=(rk.ok road hroad).ne;rw[iU hr ne]at kT kF;ac_rfl;refine⟨_,(au (aB hr hacc)).trans hr,?_⟩;rw[si ne];unfold stV;ac_rfl;refine⟨aI,?_⟩;rw[aP];exact aV (fun q=>⟨hl,by rw[aH];exact kT q _ ⟨_,rfl⟩⟩) (fun q=>kF q _ ⟨_,rfl⟩)
  ·have em:((us.filter (ij H1 B)).map fun y=>y)=us.filter (ij H1 B):=List.map_id' _;rw[em];exact kk acc _ ((Sub.refl H1).put hacc) ao
 have fnd:∀(q:Addr) (H1:PHp) (us:List PV) (k:Nat) (rs:List (List Sp3)),RdK ts bs G A O tg k rs->a9 H1 q us (rdV rs)->us.filter (ij H1 B)=[]->k<tg.length:=fun q H1 us k rs rk l1 hf=>by
  rcases Nat.lt_or_ge k tg.length with z | z
  ·exact z
  ·have hm:=rk.tg;rw[KP z]at hm;obtain⟨r,h1,h2⟩:=l1.of (Jp.mpr ⟨tg,hm,rfl⟩);rw[KQ]at hf;exact absurd (by rw[iU h2 ht.ne];exact J2 hb) (hf _ h1)
 have fst:∀(q:Addr) (H1:PHp) (us:List PV) (k:Nat) (rs:List (List Sp3)) (v:PV) (fs:List PV),RdK ts bs G A O tg k rs->a9 H1 q us (rdV rs)->Frs H us->us.filter (ij H1 B)=v::fs->∃r road,v=.ref r/\H r=none/\H1 r=some (.lst (road.map stV))/\Opn ts bs G A O road/\(lsS road).2.2∈B:=fun q H1 us k rs v fs rk l1 f1 hf=>by
  have hv:v∈us.filter (ij H1 B):=by rw[hf];exact Jw
  obtain⟨hv1,hv2⟩:=JU.mp hv;obtain⟨l',r,hl',rfl,nr,hr⟩:=l1.mem hv1;obtain⟨road,hroad,rfl⟩:=Jp.mp hl';have op:=rk.ok road hroad;rw[iU hr op.ne]at hv2;exact⟨r,road,rfl,f1 _ hv1 r rfl,hr,op,Lz hv2⟩
 have rk1:=wm ok hO ht;ac_rfl;refine⟨_,e1,scan q H1 us 1 _ _ rk1 s1 e1 l1 f1 (fun f H2 s2 ef=>?_) _ rfl⟩;subst hR;refine aj fun R hR=>?_;refine eI fun Rb hRb=>?_;refine d5 (fun m σ H2=>∃q f us k rs Ha,σ=[some (.ref x),some (.tup (O.map PV.int)),some (.tup (B.map PV.int)),some (.tup (G.map PV.int)),some (.ref q),some (.ref f)]/\RdK ts bs G A O tg k rs/\U.Sub H Ha/\U.Sub Ha H2/\Ha q=some (.lst us)/\a9 Ha q us (rdV rs)/\Frs H us/\H2 f=some (.lst (us.filter (ij Ha B)))/\m=tg.length - k) _ ⟨q,f,us,1,_,H1,rfl,rk1,s1,s2,e1,l1,f1,ef,rfl⟩ ?_;rintro m σ H2 ⟨q,f,us,k,rs,Ha,rfl,rk,s1,s2,e1,l1,f1,ef,rfl⟩;ac_rfl;refine⟨_,ef,?_⟩;cases hf:us.filter (ij Ha B)with
 | cons v fs =>
  rw[hf]at ef;refine ar (by simp;symm) ?_;obtain⟨r,road,rfl,hr,er,op,hlb⟩:=fst q Ha us k rs v fs rk l1 f1 hf;subst hR;ac_rfl;refine⟨_,ef,?_⟩;have e0:atI (PV.ref r::fs) 0=some (.ref r):=cI (l:=PV.ref r::fs) (i:=0) (by simp);rw[e0];exact⟨H2,Sub.refl _,h r H2 road hr (s1.trans s2) (s2 _ _ er) op hlb (op.len ok)⟩
 | nil =>
  have hk:=fnd q Ha us k rs rk l1 hf;refine av (by simp) (yr fun N bk hN=>?_);subst hRb;refine aj fun R' hR'=>?_;ac_rfl;have k4:k≤4:=by symm
  have h6:rs.length≤6*18 ^ 4:=JY rk.le (Nat.mul_le_mul_left _ (Nat.pow_le_pow_right (by decide) k4));refine⟨c,ts,bs,G,us,rs,⟨dx,s2 _ _ (s1 _ _ hx)⟩,ok,rfl,hG,s2 _ _ e1,l1.up s2,by rw[J9];symm,fun r hr=>?_,fun q2 H3 ws A2 hq2 s3 an2 e3 l3 f3=>?_⟩
  ·have op:=rk.ok r hr;obtain⟨l,en⟩:=p9 op.ne;have:=op.len ok;exact⟨op.ne,by symm,zt ok op.rd.ed _ (by rw[en];simp)⟩
  have eA:=an.one an2;subst eA;subst hR';have rk2:=tK ok ht rk hk;have s03:=(s1.trans s2).trans s3;have f03:=Frs.mono (s1.trans s2) f3;ac_rfl;refine⟨_,e3,scan q2 H3 ws _ _ _ rk2 s03 e3 l3 f03 (fun f2 H4 s4 ef2=>?_) _ rfl⟩;exact hN _ _ ⟨tg.length - (k+1),by symm,q2,f2,ws,k+1,_,H3,rfl,rk2,s03,s4,e3,l3,f03,ef2,rfl⟩
theorem FJ(T:Tx K mg t):aG P w K mg base CX0 3 t.a_zu t.d_zu ["drawing","meeting","given"] (vH t):=by
 refine okU (k:=2) T.F_zu ip (fun vs H Q E h=>a8 h) (fun cdv A outer s H E B hr=>⟨_,(af (sN 3 ip.nd (bz (aa (bz (aa (qv 1) ae)) ae)))
  (af (sC 4 ip.nd (N2:=B9) (nt:=1) (js:=[2]) (ck (sc:=ai rL)) (aK (qv 3)) (fun _ _ _ _=>⟨(gN 0 D0),(aZ (cW (bH hr.units) bf (iX (qv 0) (cj aq)) (qv 1))),(qv 0)⟩))
  (af (fj JW (cN (aU hr.units) bw (az ax aW rfl T.b_len JJ (aa (qv 4) ae)) aq)
  (af (sN 5 ip.nd (bz ae))
   (af (bM JW rfl (aK (qv 3)) (gN 6 ip.nd)
   (ak (aR (cH Ke Kf cT cS (qv 5) (aa (cE (N2:=Fj) (nt:=1) (js:=[6]) (ck (sc:=ai rL)) (aK (a7 (qv 0) T.cl_D T.m_zb (wY T) hr.mo T.B_zb (aa (iX (qv 6) (cj aq)) ae))) (fun _ _ _ _=>⟨(gN 0 Io),bx,(cX (qv 1) (bz (aa (qv 0) ae)))⟩)) ae)))))
   (af (sN 3 ip.nd (qv 5))
   (ak (sC 4 ip.nd (N2:=B9) (nt:=1) (js:=[2]) (ck (sc:=ai rL)) (aK (qv 3)) (fun _ _ _ _=>⟨(gN 0 D0),(aZ (cW (bH hr.units) bf (iX (qv 0) (cj aq)) (qv 1))),(qv 0)⟩)))))))
  (ak (ay (iX (qv 4) aq)))))),?_⟩)
 injections
 obtain⟨x,_,rfl,m,_,rfl,l,_,rfl,rfl,h⟩:=h;obtain⟨c,ts,bs,G,A,⟨dx,hx⟩,ok,rfl,hG,an,hm,h⟩:=h;have t15:=ok.gt.len ok.c6;obtain⟨tg,ht0,htc,hte⟩:=My.Ck ((an.iff m).mp hm);have t6:=pQ ok hG htc hte;have tne:tg≠[]:=fun e=>by rw[e]at ht0;cases ht0
 have tgG:lsI tg∈G:=by
  obtain⟨e,he,hg⟩:=hte;rw[(ll tne).1]at he;rw[JT he];exact hg
 left;refine⟨ah (by decide),fun p1 hp1=>⟨ah (by decide),fun q hq=>?_⟩⟩;have s0:=(Sub.refl H).put (o:=.lst [PV.int m]) hp1;have e0:put H p1 (.lst [PV.int m]) p1=some (.lst (([m]:List Int).map PV.int)):=ao;generalize put H p1 (.lst [PV.int m])=Hb at *;have npq:=aB e0 hq;have s1:=s0.put (o:=.lst [PV.ref p1]) (s0.free hq);have e1:put Hb q (.lst [PV.ref p1]) q=some (.lst [PV.ref p1]):=ao;have l1:a9 (put Hb q (.lst [PV.ref p1])) q [PV.ref p1] (inV [[m]]):=.cons ⟨p1,rfl,npq,(au npq).trans e0⟩ .nil;have f1:Frs H [PV.ref p1]:=Frs.one hp1;generalize put Hb q (.lst [PV.ref p1])=H1 at *;have rk1:WyK ts G m tg 1 [[m]]:=by
  refine⟨fun w hw=>?_,⟨Jy _,?_⟩,by simp,?_⟩
  ·rw[Jx.mp hw];exact⟨rfl,trivial,fun x hx=>(by cases hx)⟩
  ·cases tg with
   | nil=>exact absurd rfl tne
   | cons _ _=>simp
  ·cases tg with
   | nil=>exact absurd rfl tne
   | cons a t =>
    have:a=m:=by simpa using ht0
    subst this;simp
 subst hR;refine aj fun R hR=>?_;have scan:∀(q:Addr) (H1:PHp) (us:List PV) (k:Nat) (ws:List (List Int)) (K:VK'),WyK ts G m tg k ws->U.Sub H H1->H1 q=some (.lst us)->a9 H1 q us (inV ws)->Frs H us ->
  (∀f H2,U.Sub H1 H2->H2 f=some (.lst (us.filter (iD H1 G)))->K (.ref f) H2)->∀σ1,σ1=[none,some (.tup (G.map PV.int))]->∀acc,H1 acc=none ->
  cp (fun H=>H q=some (.lst us)) (du 0) (fI (uOp (xn fun b=>b) (uOp uIx (fC 0) (uUn (fun x H Q=>bW x fun i=>Q (.int (-i)) H) (uC (PV.int 1)))) (fC 1))) (fC 0) acc K us σ1 (put H1 acc (.lst [])):=fun q H1 us k ws K rk s1 e1 l1 f1 kk σ1 hσ acc hacc=>by
  subst hσ;have nq:=aB e1 hacc;have hle:=l1.len;simp only[inV,Jl]at hle;have h6:ws.length≤6 ^ 6:=JY rk.le (Nat.pow_le_pow_right (by decide) (by have:=rk.k1;symm));refine mi (fun y=>y) (iD H1 G) (fun σ=>∃z,σ=[z,some (.tup (G.map PV.int))]) (by rw[J9];symm) (fun _=>(au nq).trans e1) ?_ ?_ ⟨_,rfl⟩
  ·ac_nf;obtain⟨l',r,hl',rfl,nr,hr⟩:=l1.mem hy;obtain⟨w,hw,rfl⟩:=Jp.mp hl';have ne:=(rk.ok w hw).ne;rw[iN hr ne]at kT kF;ac_rfl;refine⟨_,(au (aB hr hacc)).trans hr,?_⟩;rw[sm ne];ac_rfl;refine⟨aI,?_⟩;rw[aP];exact aV (fun q=>⟨hl,by rw[aH];exact kT q _ ⟨_,rfl⟩⟩) (fun q=>kF q _ ⟨_,rfl⟩)
  ·have em:((us.filter (iD H1 G)).map fun y=>y)=us.filter (iD H1 G):=List.map_id' _;rw[em];exact kk acc _ ((Sub.refl H1).put hacc) ao
 have fnd:∀(q:Addr) (H1:PHp) (us:List PV) (k:Nat) (ws:List (List Int)),WyK ts G m tg k ws->a9 H1 q us (inV ws)->us.filter (iD H1 G)=[]->k<tg.length/\∀w∈ws,lsI w∉G:=fun q H1 us k ws rk l1 hf=>by
  rw[KQ]at hf;have no:∀w∈ws,lsI w∉G:=fun w hw hg=>by
   obtain⟨r,h1,h2⟩:=l1.of (Jp.mpr ⟨w,hw,rfl⟩);exact absurd (by rw[iN h2 (rk.ok w hw).ne];exact J2 hg) (hf _ h1)
  refine⟨?_,no⟩;rcases Nat.lt_or_ge k tg.length with z | z
  ·exact z
  ·have hm:=rk.tg;rw[KP z]at hm;exact absurd tgG (no _ hm)
 have fst:∀(q:Addr) (H1:PHp) (us:List PV) (k:Nat) (ws:List (List Int)) (v:PV) (fs:List PV),WyK ts G m tg k ws->a9 H1 q us (inV ws)->Frs H us->us.filter (iD H1 G)=v::fs->∃r,∃w:List Int,v=.ref r/\H r=none/\H1 r=some (.lst (w.map PV.int))/\Wy ts G m w:=fun q H1 us k ws v fs rk l1 f1 hf=>by
  have hv:v∈us.filter (iD H1 G):=by rw[hf];exact Jw
  obtain⟨hv1,hv2⟩:=JU.mp hv;obtain⟨l',r,hl',rfl,nr,hr⟩:=l1.mem hv1;obtain⟨w,hw,rfl⟩:=Jp.mp hl';have o:=rk.ok w hw;rw[iN hr o.ne]at hv2;exact⟨r,w,rfl,f1 _ hv1 r rfl,hr,o.hd,o.ch,o.lo,_,(ll o.ne).1,Lz hv2⟩
 ac_rfl;refine⟨_,e1,scan q H1 _ 1 _ _ rk1 s1 e1 l1 f1 (fun f H2 s2 ef=>?_) _ rfl⟩;subst hR;refine aj fun R hR=>?_;refine eI fun Rb hRb=>?_;refine d5 (fun n σ H2=>∃q f us k ws Ha z1 z2,σ=[some (.ref x),some (.int m),some (.tup (G.map PV.int)),some (.ref q),some (.ref f),z1,z2]/\WyK ts G m tg k ws/\U.Sub H Ha/\U.Sub Ha H2/\Ha q=some (.lst us)/\a9 Ha q us (inV ws)/\Frs H us/\H2 f=some (.lst (us.filter (iD Ha G)))/\n=tg.length - k) _ ⟨q,f,_,1,_,H1,none,none,rfl,rk1,s1,s2,e1,l1,f1,ef,rfl⟩ ?_;rintro n σ H2 ⟨q,f,us,k,ws,Ha,z1,z2,rfl,rk,s1,s2,e1,l1,f1,ef,rfl⟩;ac_rfl;refine⟨_,ef,?_⟩;cases hf:us.filter (iD Ha G)with
 | cons v fs =>
  rw[hf]at ef;refine ar (by simp;symm) ?_;obtain⟨r,w,rfl,hr,er,wy⟩:=fst q Ha us k ws v fs rk l1 f1 hf;subst hR;ac_rfl;refine⟨_,ef,?_⟩;have e0:atI (PV.ref r::fs) 0=some (.ref r):=cI (l:=PV.ref r::fs) (i:=0) (by simp);rw[e0];exact⟨H2,Sub.refl _,h r H2 w hr (s1.trans s2) (s2 _ _ er) wy (pQ ok hG wy.ch wy.la)⟩
 | nil =>
  obtain⟨hk,no⟩:=fnd q Ha us k ws rk l1 hf;have rk2:=uH ok htc rk hk no;have k5:k≤5:=by symm
  have h6:ws.length≤6 ^ 5:=JY rk.le (Nat.pow_le_pow_right (by decide) k5);have hle:=l1.len;simp only[inV,Jl]at hle;refine av (by simp) (yr fun N bk hN=>?_);subst hRb;refine aj fun R' hR'=>?_;ac_rfl;refine⟨ah (by decide),fun g hg=>?_⟩;have s3:=s2.put (o:=.lst []) (s2.free hg);have hga:=s2.free hg;have hgH:=s1.free hga;have e3:put H2 g (.lst []) g=some (.lst []):=ao;generalize put H2 g (.lst [])=H3 at *;subst hR';refine aj fun R' hR'=>?_;ac_rfl;refine⟨_,s3 _ _ e1,?_⟩;refine cy (fun i σ H4=>∃z2 vs,σ=[some (.ref x),some (.int m),some (.tup (G.map PV.int)),some (.ref q),some (.ref f),some (.ref g),z2]/\U.Sub Ha H4/\H4 g=some (.lst vs)/\a9 H4 g vs (inV ((ws.take i).flatMap (nX ts)))/\Frs H vs/\vs.length≤6*i) ?_ ?_ ⟨_,[],rfl,s3,e3,by simp[a9,Paired.nil],Frs.nil,by simp⟩
  ·rintro σ H4 ⟨z2,vs,rfl,s4,e4,l4,f4,v4⟩;refine⟨s4 _ _ e1,?_⟩;rw[hle,JX]at l4;subst hR';refine aj fun R' hR'=>?_;ac_rfl;subst hR';ac_rfl;refine⟨_,e4,scan g H4 vs _ _ _ rk2 (s1.trans s4) e4 l4 f4 (fun f2 H5 s5 ef2=>?_) _ rfl⟩;exact hN _ _ ⟨tg.length - (k+1),by symm,g,f2,vs,k+1,_,H4,_,_,rfl,rk2,s1.trans s4,s5,e4,l4,f4,ef2,rfl⟩
  ·rintro N' i y σ H4 hy ⟨z2,vs,rfl,s4,e4,l4,f4,v4⟩ kk;refine⟨s4 _ _ e1,?_⟩;obtain⟨l,ra,hl,rfl,nra,hra⟩:=l1.at hy;have hl:(ws.map fun w=>w.map PV.int)[i]?=some l:=hl;rw[JI]at hl;obtain⟨w,hw,rfl⟩:=J4.mp hl;have hi:i<ws.length:=(JE.mp hw).1;have o:=rk.ok w (JH hw);have rng:=uZ ok.gt o.ch (fun z hz=>by rw[o.hd]at hz;rw[←JT hz];exact an.lo ok.gt hG m hm);have wl:w.length≤6:=My.bN 6 w ((My.nR (fun a b e=>(ok.gt.lo _ e).2.1) o.ch).imp fun h=>by symm) fun x hx=>by have:=rng x hx;have:=ok.c6;symm
   have nlo:0≤lsI w/\lsI w<c:=rng _ (List.mem_of_getLast? (ll o.ne).1);have ra4:=s4 _ _ hra;ac_rfl;refine⟨⟨_,e4⟩,⟨_,_,s4 _ _ (s1 _ _ hx),rfl⟩,_,ra4,?_⟩;rw[sm o.ne];ac_rfl;refine⟨dx,c,ts,bs,s4 _ _ (s1 _ _ hx),nlo,t15,?_⟩;show ∀acc,H4 acc=none->_;intro acc hacc;have nga:=aB e4 hacc;have fl:=cA ok.gt ok.c6 (lsI w);refine fU (fun j σ H5=>∃z us',σ=[z,some (.ref ra)]/\U.Sub H4 H5/\H5 acc=some (.lst us')/\a9 H5 acc us' (inV (((fol ts (lsI w)).take j).map fun n=>w++[n]))/\Frs H4 us') ?_ ?_ ⟨none,[],rfl,(Sub.refl H4).put hacc,ao,by simp[a9,Paired.nil],Frs.nil⟩
   ·rintro j v σ H5 R2 hv ⟨z,us',rfl,s5,e5,l5,f5⟩ k5';rw[JI]at hv;obtain⟨n,hn,rfl⟩:=J4.mp hv;refine⟨trivial,?_⟩;have ra5:=s5 _ _ ra4;ac_rfl;refine⟨ah (by decide),fun p1 hp1=>⟨_,_,(au (aB ra5 hp1)).trans ra5,rfl,ah (by simp only[Jl,JZ];symm),fun p2 hp2=>?_⟩⟩;have sa:=(Sub.refl H5).put (o:=.lst [PV.int n]) hp1;have hp2H:=sa.free hp2;have sb:=sa.put (o:=.lst (w.map PV.int++[PV.int n])) hp2H;have hl5:=l5.len;simp only[inV,Jl]at hl5;have ltk:((fol ts (lsI w)).take j).length≤6:=by rw[J6];symm
    refine⟨_,sb _ _ e5,bC (by symm),?_⟩;have l6:=((l5.up sb).snoc (r:=p2) (aB e5 hp2H).symm ao).put (o:=.lst (us'++[PV.ref p2]));refine k5' _ _ ⟨_,_,rfl,(s5.trans sb).put hacc,ao,?_,f5.app (Frs.one (s5.free hp2H))⟩;have ej:(fol ts (lsI w)).take (j+1)=(fol ts (lsI w)).take j++[n]:=by rw[Kv,hn];rfl
    rw[ej];simpa[inV]using l6
   ·rintro σ H5 ⟨z,us',rfl,s5,e5,l5,f5⟩;refine⟨trivial,?_⟩;rw[Jl,JX]at l5;have hl5:=l5.len;simp only[inV,Jl]at hl5;ac_rfl;refine⟨_,_,s5 _ _ e4,e5,by rw[J9];symm,?_⟩;refine kk _ _ ⟨_,vs++us',rfl,(s4.trans s5).put hga,ao,?_,f4.app (Frs.mono (s1.trans s4) f5),by rw[Jr];symm⟩;have ei:(ws.take (i+1)).flatMap (nX ts)=(ws.take i).flatMap (nX ts)++nX ts w:=by rw[Kv,hw];simp
    rw[ei];unfold inV;rw[JB];exact uP ((l4.up s5).put) (a9.put (a9.fr e4 l5 f5))
theorem GQ(T:Tx K mg t):aG P w K mg base CX0 4 t.a_zU t.d_zU ["drawing","road","given"] (oJ t):=by
 refine okU (k:=3) T.F_zU Dh (fun vs H Q E h=>a8 h) (fun cdv A outer s H E B hr=>⟨_,(ak (ay (cE (N2:=CK) (nt:=1) (js:=[0,2]) (ck (sc:=ai wO)) (aK (aA (Iq T) hr.mo rfl T.g_yi T.F_yi.kp T.B_yi (aa (qv 1) ae))) (fun _ _ _ _=>⟨(gN 0 FE),bx,(aA (FJ T) hr.mo rfl T.g_zu T.F_zu.kp T.B_zu (aa (qv 1) (aa (qv 0) (aa (qv 2) ae))))⟩)))),?_⟩);intro vs H Q E h
 replace h:=aY h
 obtain⟨x,_,rfl,a,_,rfl,l,_,rfl,rfl,h⟩:=h;obtain⟨c,ts,bs,G,A,road,⟨dx,hx⟩,ok,rfl,hG,an,ha,hl,hm,h⟩:=h;have ml:=px road;ac_rfl;refine⟨road,ha,hl,fun mr H1 hmr s1 em=>⟨_,em,fun acc hacc=>?_⟩⟩;have na:=aB em hacc;refine fU (fun j σ H2=>∃z us,∃ws:List (List Int),σ=[z,some (.ref x),some (.tup (G.map PV.int))]/\U.Sub H1 H2/\H2 acc=some (.lst us)/\a9 H2 acc us (inV ws)/\Frs H1 us/\Paired (Wy ts G) ((mts road).take j) ws/\∀w∈ws,w.length≤6) ?_ ?_ ⟨none,[],[],rfl,(Sub.refl H1).put hacc,ao,by simp[a9,Paired.nil],Frs.nil,by simp[Paired.nil],fun w hw=>(by cases hw)⟩
 ·rintro j v σ H2 R' hv ⟨z,us,ws,rfl,s2,e2,l2,f2,p2,w6⟩ kk;rw[JI]at hv;obtain⟨m,hmj,rfl⟩:=J4.mp hv;refine⟨s2 _ _ em,?_⟩;ac_rfl;refine⟨c,ts,bs,G,A,⟨dx,s2 _ _ (s1 _ _ hx)⟩,ok,rfl,hG,an,hm m (JH hmj),fun r H3 w hr s3 er wy wl=>?_⟩;have hl2:=l2.len;have hp2:=Paired.length p2;have ltk:((mts road).take j).length≤100:=by rw[J6];symm
  simp only[inV,Jl]at hl2;refine⟨_,s3 _ _ e2,bC (by symm),?_⟩;have nr:=aB e2 hr;refine kk _ _ ⟨_,us++[.ref r],ws++[w],rfl,(s2.trans s3).put hacc,ao,?_,f2.app (Frs.one (s2.free hr)),?_,fun w' hw'=>?_⟩
  ·have:=((l2.up s3).snoc (r:=r) nr.symm er).put (o:=.lst (us++[PV.ref r]));simpa[inV]using this
  ·have ej:(mts road).take (j+1)=(mts road).take j++[m]:=by rw[Kv,hmj];rfl
   rw[ej];exact j6 wy p2
  ·rcases Ju.mp hw' with q | q
   ·exact w6 w' q
   ·rw[Jx.mp q];exact wl
 ·rintro σ H2 ⟨z,us,ws,rfl,s2,e2,l2,f2,p2,w6⟩;rw[Jl,JX]at p2;exact⟨s2 _ _ em,H2,Sub.refl _,h acc H2 us ws (s1.free hacc) (s1.trans s2) e2 l2 (Frs.mono s1 f2) p2 w6⟩
theorem Ew(T:Tx K mg t):aG P w K mg base CX0 1 t.a_zX t.d_zX ["_law_cell","_law_place"] zr:=by
 refine okU (k:=0) T.F_zX vV (fun vs H Q E h=>a8 h) (fun cdv A outer s H E B hr=>⟨_,(af (sN 2 vV.nd (b7 (cc (cc (gw (b7 (qv 0) aq) aq) (gw aq (qv 1))) aq) aq))
  (af (sN 2 vV.nd (b7 (cc (cc (gw (qv 2) (qv 2)) (gw aq (qv 1))) aq) aq))
  (ak (ay (b7 (cc (gw (qv 2) (qv 2)) aq) aq))))),?_⟩)
 injections
 obtain⟨u,_,rfl,k,_,rfl,rfl,h⟩:=h
 try dsimp only at h
 obtain⟨⟨k0,k1⟩,h⟩:=h;ac_rfl;have bk:My.BN 64 k:=show k.natAbs<2 ^ 64 from JP (m:=100) (by symm) (by decide);have bm:∀a:Int,My.BN 64 (a.fmod 2147483629):=fun a=>Fe (by decide) (show My.BN 64 _ by unfold My.BN;decide);have bc:∀n:Int,n.natAbs<2 ^ 64->My.BN 64 n:=fun n h=>h;have f:∀{a b:Int},My.BN 64 a->My.BN 64 b->lY a b:=fun x y=>.inr ⟨x.fit (by decide),y.fit (by decide)⟩;exact⟨by decide,f (bm _) (bc _ (by decide)),f (bc _ (by decide)) bk,by decide,f (bm _) (bm _),f (bc _ (by decide)) bk,by decide,f (bm _) (bm _),by decide,H,Sub.refl _,h _⟩
theorem Hh(T:Tx K mg t):aG P w K mg base CX0 2 t.a_zC t.d_zC ["_law_script","_law_at","_law_many"] vd:=by
 refine okU (k:=1) T.F_zC d6 (fun vs H Q E h=>a8 h) (fun cdv A outer s H E B hr=>⟨_,(af (sN 3 d6.nd (bz ae))
  (af (sN 4 d6.nd (bz ae))
  (af (sN 5 d6.nd (aA (xW T) hr.mo rfl T.g_zL T.F_zL.kp T.B_zL (aa (qv 0) (aa (qv 1) ae))))
  (af (sN 6 d6.nd (fh (qv 5) aq))
  (af (sN 7 d6.nd aq)
  (af (bM JW rfl (cu rfl T.b_range (aa (qv 2) ae)) (gN 8 d6.nd)
  (ak (bM JW rfl (jr rfl T.b_range (aa (cc (qv 8) aq) (aa (qv 2) ae))) (gN 9 d6.nd)
   (af (sN 10 d6.nd (wL (AN (qv 6) (gw aq (qv 7))) aq))
    (af (aN (cN (aU hr.units) bw (b7 (qv 5) aq) aq)
    (ak (sN 10 d6.nd (b7 (aA (Ew T) hr.mo rfl T.g_zX T.F_zX.kp T.B_zX (aa (qv 5) (aa (qv 7) ae))) aq)))
    aC)
    (af (aN (cN (aU hr.units) bw (b7 (qv 10) aq) aq)
    (ak (aR (cH Kx Ky bU b9 (qv 3) (aa (aD (aa (qv 8) (aa (qv 9) ae))) ae))))
    aC)
    (af (aN (aX (bV (cN dG dC (qv 10) aq) (bJ (cN fy fx (az ax aW rfl T.b_len JJ (aa (qv 4) ae)) aq))))
    (ak (aR (cH Kx Ky bU b9 (qv 4) (aa (aD (aa (qv 8) (aa (qv 9) ae))) ae))))
    aC)
    (ak (sN 7 d6.nd (cc (qv 7) aq))))))))))
  (ak (ay (aD (aa (qv 2) (aa (aO aL bg rfl T.b_tuple Kw (aa (qv 3) ae)) (aa (aO aL bg rfl T.b_tuple Kw (aa (qv 4) ae)) ae)))))))))))),?_⟩)
 injections
 obtain⟨l,_,rfl,k,_,rfl,c,_,rfl,rfl,h⟩:=h
 try dsimp only at h
 obtain⟨⟨k0,k1⟩,⟨c1,c6⟩,ns,rfl,h⟩:=h;left;refine⟨ah (by decide),fun p hp=>?_⟩;right;refine⟨ah (by decide),fun q hq=>?_⟩;right;refine⟨⟨k0,by symm⟩,ns,rfl,?_⟩;generalize ns.getD k.toNat 0=u;have s0:=(Sub.refl H).put (o:=.lst []) hp;have hqH:=s0.free hq;have npq:p≠q:=fun e=>by subst e;rw[ao]at hq;cases hq
 have s1:=s0.put (o:=.lst []) hqH;have e1:put (put H p (.lst [])) q (.lst []) p=some (.lst (([]:List DM.P2).map prV)):=(au npq).trans ao;have e2:put (put H p (.lst [])) q (.lst []) q=some (.lst (([]:List DM.P2).map prV)):=ao;generalize put (put H p (.lst [])) q (.lst [])=H1 at *;right;refine⟨vS (by decide) (by decide),?_⟩;generalize u.fdiv 2=nu;right;right;refine⟨⟨by symm,by symm⟩,?_⟩;refine dg (fun i σ H2=>∃pl z1 z2 z3 ts bs,σ=[some (.fls (ns.map PV.int)),some (.int k),some (.int c),some (.ref p),some (.ref q),some (.int u),some (.int nu),some (.int pl),z1,z2,z3]/\(U.Sub H H2/\H2 p=some (.lst (ts.map prV))/\H2 q=some (.lst (bs.map prV)))/\GL c (i:Nat) 0 ts/\GL c (i:Nat) 0 bs/\bs.length≤6/\0≤pl/\pl≤6*(i:Nat)) ?_ ?_ ⟨0,none,none,none,[],[],rfl,⟨s1,e1,e2⟩,GL.nil,GL.nil,by simp,by symm,by symm⟩
 ·rintro σ H2 ⟨pl,z1,z2,z3,ts,bs,rfl,⟨s2,a1,a2⟩,g1,g2,l6,p0,p1⟩;refine⟨trivial,?_⟩;subst hR;ac_rfl;exact⟨_,a1,_,a2,ah (by decide),H,s2,h ts bs ⟨c1,c6,g1.good,g2.good,g1.st,g2.st,l6⟩⟩
 ·rintro G i σ H2 hi ⟨pl,z1,z2,z3,ts,bs,rfl,hH,g1,g2,l6,p0,p1⟩ kk;refine⟨trivial,?_⟩;ac_rfl;refine⟨⟨by symm,by symm,by symm,by symm⟩,?_⟩;have hn:(c - ((i:Nat)+1:Int)).toNat≤5:=by symm
  refine dg (fun j σ H3=>∃pl z2 z3 ts bs,σ=[some (.fls (ns.map PV.int)),some (.int k),some (.int c),some (.ref p),some (.ref q),some (.int u),some (.int nu),some (.int pl),some (.int (i:Nat)),z2,z3]/\(U.Sub H H3/\H3 p=some (.lst (ts.map prV))/\H3 q=some (.lst (bs.map prV)))/\GL c (i:Nat) ((i:Nat)+1+(j:Nat):Int) ts/\GL c (i:Nat) ((i:Nat)+1+(j:Nat):Int) bs/\bs.length≤6/\0≤pl/\pl≤6*(i:Nat)+(j:Nat)) ?_ ?_ ⟨pl,z2,z3,ts,bs,rfl,hH,g1.up (by symm),g2.up (by symm),l6,p0,by symm⟩
  ·rintro σ H3 ⟨pl,z2,z3,ts,bs,rfl,hH,g1,g2,l6,p0,p1⟩;exact⟨trivial,kk _ _ ⟨_,_,_,_,ts,bs,rfl,hH,g1.nx 0,g2.nx 0,l6,p0,by symm⟩⟩
  ·rintro G' j σ H3 hj ⟨pl,z2,z3,ts,bs,rfl,⟨s2,a1,a2⟩,g1,g2,l6,p0,p1⟩ kk';refine⟨trivial,?_⟩;have t15:=g1.good.len c6;refine aj fun R1 hR1=>?_;ac_rfl;refine⟨.inr ⟨y9 (by decide),y9 (by symm)⟩,by symm,?_⟩;generalize Builtin.bitAnd _ _=kd0;have fin:∀(kd:Int) (ts' bs':List DM.P2) (H4:PHp),(U.Sub H H4/\H4 p=some (.lst (ts'.map prV))/\H4 q=some (.lst (bs'.map prV)))->GL c (i:Nat) ((i:Nat)+1+(j:Nat)+1:Int) ts'->GL c (i:Nat) ((i:Nat)+1+(j:Nat)+1:Int) bs'->bs'.length≤6->G' [some (.fls (ns.map PV.int)),some (.int k),some (.int c),some (.ref p),some (.ref q),some (.int u),some (.int nu),some (.int (pl+1)),some (.int (i:Nat)),some (.int ((i:Nat)+1+(j:Nat):Int)),some (.int kd)] H4:=fun kd ts' bs' H4 x1 x2 x3 x4=>kk' _ _ ⟨_,_,_,ts',bs',rfl,x1,by rw[show(((i:Nat):Int)+1+((j+1:Nat):Int))=(i:Nat)+1+(j:Nat)+1 by symm];exact x2,by rw[show(((i:Nat):Int)+1+((j+1:Nat):Int))=(i:Nat)+1+(j:Nat)+1 by symm];exact x3,x4,by symm,by symm⟩;subst hR1;refine aj fun R1 hR1=>?_;have on1:∀kd:Int,R1 { nx:=G',rt:=fun v H=>∃H3,U.Sub H3 H/\Q v H3,bk:=G,ct:=G' } [some (.fls (ns.map PV.int)),some (.int k),some (.int c),some (.ref p),some (.ref q),some (.int u),some (.int nu),some (.int pl),some (.int (i:Nat)),some (.int ((i:Nat)+1+(j:Nat):Int)),some (.int kd)] H3:=fun kd=>by
    subst hR1;refine aj fun R1 hR1=>?_;have on2:∀(ts':List DM.P2) (H4:PHp),(U.Sub H H4/\H4 p=some (.lst (ts'.map prV))/\H4 q=some (.lst (bs.map prV)))->GL c (i:Nat) ((i:Nat)+1+(j:Nat)+1:Int) ts'->R1 { nx:=G',rt:=fun v H=>∃H3,U.Sub H3 H/\Q v H3,bk:=G,ct:=G' } [some (.fls (ns.map PV.int)),some (.int k),some (.int c),some (.ref p),some (.ref q),some (.int u),some (.int nu),some (.int pl),some (.int (i:Nat)),some (.int ((i:Nat)+1+(j:Nat):Int)),some (.int kd)] H4:=fun ts' H4 hH b1=>by
     subst hR1;refine aj fun R1 hR1=>?_;have on3:∀(bs':List DM.P2) (H5:PHp),(U.Sub H H5/\H5 p=some (.lst (ts'.map prV))/\H5 q=some (.lst (bs'.map prV)))->GL c (i:Nat) ((i:Nat)+1+(j:Nat)+1:Int) bs'->bs'.length≤6->R1 { nx:=G',rt:=fun v H=>∃H3,U.Sub H3 H/\Q v H3,bk:=G,ct:=G' } [some (.fls (ns.map PV.int)),some (.int k),some (.int c),some (.ref p),some (.ref q),some (.int u),some (.int nu),some (.int pl),some (.int (i:Nat)),some (.int ((i:Nat)+1+(j:Nat):Int)),some (.int kd)] H5:=fun bs' H5 hH' b2 b6=>by
      subst hR1;ac_rfl;exact fin kd ts' bs' H5 hH' b1 b2 b6
     obtain⟨u1,u3,u4⟩:=id hH;ac_rfl;refine aV (fun _=>?_) (fun _=>on3 bs H4 hH (g2.up (by symm)) l6);refine⟨_,u4,?_⟩;by_cases h6:bs.length<6
     ·refine av (by rw[Jl];simp;symm) ?_;refine⟨⟨_,u4⟩,ah (by decide),_,u4,by rw[Jl];exact bC (by symm),?_⟩;refine on3 (bs++[(((i:Nat):Int),((i:Nat):Int)+1+((j:Nat):Int))]) _ ⟨u1.put hqH,(au npq).trans u3,?_⟩ (g2.app (by symm) (by symm) (by symm) c6) (by rw[Jr];simp;symm);rw[ao,JB];rfl
     ·exact ar (by rw[Jl];simp;symm) (on3 bs H4 hH (g2.up (by symm)) l6)
    ac_rfl;refine⟨by decide,aV (fun _=>?_) (fun _=>on2 ts H3 ⟨s2,a1,a2⟩ (g1.up (by symm)))⟩;refine⟨⟨_,a1⟩,ah (by decide),_,a1,by rw[Jl];exact bC (by symm),?_⟩;refine on2 (ts++[(((i:Nat):Int),((i:Nat):Int)+1+((j:Nat):Int))]) _ ⟨s2.put hp,?_,(au npq.symm).trans a2⟩ (g1.app (by symm) (by symm) (by symm) c6);rw[ao,JB];rfl
   ac_rfl;refine⟨by decide,aV (fun _=>?_) (fun _=>on1 _)⟩;exact⟨⟨p0,by symm⟩,fun n=>⟨by decide,on1 _⟩⟩
theorem IY(T:Tx K mg t):aG P w K mg base CX0 1 t.a_yb t.d_yb ["_law_drawn","_law_names"] mn:=by
 refine okU (k:=0) T.F_yb oM (fun vs H Q E h=>a8 h) (fun cdv A outer s H E B hr=>⟨_,(af (sN 2 oM.nd (aO bL dR rfl T.b_list boot_list (aa (qv 1) ae)))
  (af (qo JW rfl (CP rfl T.b_reversed (aa (iX (qv 0) aq) ae)) (dj (n:=2) rfl (aT (gN 3 oM.nd) (aT (gN 4 oM.nd) cg)))
  (ak (aN (aX (bV (cW (bH hr.units) bf (qv 4) (qv 2)) (bJ (cW (bb hr.units) bf (qv 3) (qv 2)))))
   (ak (aR (cH Kx Ky bU b9 (qv 2) (aa (qv 3) ae))))
   aC)))
  (ak (ay (qv 2))))),?_⟩)
 injections
 obtain⟨l,_,rfl,m,_,rfl,rfl,h⟩:=h;obtain⟨c,ts,bs,G,e,rfl,ok,hG,h⟩:=h;unfold shp at e;injection e with e;subst e;have t15:=ok.gt.len ok.c6;have g6:=hG.len ok.c6;left;intro f hf;have s1:=(Sub.refl H).put (o:=.lst (G.map PV.int)) hf;have e1:put H f (.lst (G.map PV.int)) f=some (.lst (G.map PV.int)):=ao;generalize put H f (.lst (G.map PV.int))=H1 at *;right;refine⟨by rw[Jl];symm,?_⟩;rw[←List.map_reverse];refine cy (fun i σ H2=>∃z1 z2 F,σ=[some (.tup [.int c,.tup (ts.map prV),.tup (bs.map prV)]),some (.tup (G.map PV.int)),some (.ref f),z1,z2]/\U.Sub H H2/\H2 f=some (.lst (F.map PV.int))/\F=(ts.reverse.take i).foldl bA G/\F.length≤6+i) ?_ ?_ ⟨none,none,G,rfl,s1,e1,rfl,by symm⟩
 ·rintro σ H2 ⟨z1,z2,F,rfl,s2,e2,hF,lF⟩;refine⟨trivial,?_⟩;rw[Jl,JX]at hF;subst hR;ac_rfl;obtain⟨A,an,iff⟩:=Ep ok hG (F:=F) fun x=>by rw[hF];exact Av ok x
  exact⟨H2,Sub.refl _,h f H2 F A hf s2 e2 an iff⟩
 ·rintro N i y σ H2 hy ⟨z1,z2,F,rfl,s2,e2,hF,lF⟩ kk;refine⟨trivial,?_⟩;rw[JI]at hy;obtain⟨p,hp,rfl⟩:=J4.mp hy;have hi:i<ts.reverse.length:=(JE.mp hp).1;rw[List.length_reverse]at hi;have hnx:(ts.reverse.take (i+1)).foldl bA G=bA F p:=by rw[gx hp,← hF]
  unfold bA at hnx;have stay:¬(p.2∈F/\p.1∉F)->N [some (.tup [.int c,.tup (ts.map prV),.tup (bs.map prV)]),some (.tup (G.map PV.int)),some (.ref f),some (.int p.1),some (.int p.2)] H2:=fun hn=>by
   rw[JK hn]at hnx;exact kk _ _ ⟨_,_,F,rfl,s2,e2,hnx.symm,by symm⟩
  unfold prV;ac_rfl;refine⟨_,e2,aI,?_⟩;rw[aP];by_cases m1:p.2∈F
  ·refine av (by simp[m1]) ⟨_,e2,aI,?_⟩;rw[aP];by_cases m2:p.1∈F
   ·exact ar (by simp[m2]) (stay fun h=>h.2 m2)
   ·refine av (by simp[m2]) ⟨⟨_,e2⟩,_,e2,bC (by rw[Jl];symm),?_⟩;rw[JL ⟨m1,m2⟩]at hnx;refine kk _ _ ⟨_,_,F++[p.1],rfl,s2.put hf,by rw[ao,JB];rfl,hnx.symm,by rw[Jr,JZ];symm⟩
  ·exact ar (by simp[m1]) (stay fun h=>m1 h.1)
theorem Ig(T:Tx K mg t):aG P w K mg base CX0 1 t.a_zw t.d_zw ["_law_drawn","_law_standing","_law_given","_law_above_here"] lh:=by
 refine okU (k:=0) T.F_zw gy (fun vs H Q E h=>a8 h) (fun cdv A outer s H E B hr=>⟨_,(af (ka (qv 1) (dj (n:=2) rfl (aT (gN 4 gy.nd) (aT (gN 5 gy.nd) cg))))
  (af (sN 6 gy.nd (bz ae))
  (af (aN (cW (bb hr.units) bf (qv 4) (qv 2))
  (ak (sC 6 gy.nd (N2:=sZ) (nt:=2) (js:=[4]) (ck (sc:=ai oy)) (aK (iX (qv 0) aq)) (fun _ _ _ _=>⟨(dj (n:=2) rfl (aT (gN 0 ni) (aT (gN 1 ni) cg))),(aZ (cN (aU hr.units) bw (qv 0) (qv 2))),(aD (aa (qv 1) (aa bI ae)))⟩)))
  aC)
  (af (aN (aX (dE (aX (bV (br (qv 5)) (bJ (cW (bH hr.units) bf (qv 4) (qv 3))))) (dm (aX (bV (b4 (br (qv 5))) (bJ (cW (bb hr.units) bf (qv 4) (qv 2))))))))
  (af (sN 6 gy.nd (cX (qv 6) (cE (N2:=sZ) (nt:=2) (js:=[4]) (ck (sc:=ai oy)) (aK (iX (qv 0) aq)) (fun _ _ _ _=>⟨(dj (n:=2) rfl (aT (gN 0 ni) (aT (gN 1 ni) cg))),(aZ (cN (aU hr.units) bw (qv 1) (qv 2))),(aD (aa (qv 0) (aa bI ae)))⟩))))
   (af (sN 6 gy.nd (cX (qv 6) (cE (N2:=sZ) (nt:=2) (js:=[4]) (ck (sc:=ai oy)) (aK (iX (qv 0) aq)) (fun _ _ _ _=>⟨(dj (n:=2) rfl (aT (gN 0 ni) (aT (gN 1 ni) cg))),(aZ (cN (aU hr.units) bw (qv 0) (qv 2))),(aD (aa (qv 1) (aa bI ae)))⟩))))
   (ak (sN 6 gy.nd (cX (qv 6) (cE (N2:=sZ) (nt:=2) (js:=[4]) (ck (sc:=ai oy)) (aK (iX (qv 0) aq)) (fun _ _ _ _=>⟨(dj (n:=2) rfl (aT (gN 0 ni) (aT (gN 1 ni) cg))),(aZ (cN (aU hr.units) bw (qv 1) (qv 2))),(aD (aa (qv 0) (aa bI ae)))⟩)))))))
  aC)
  (ak (ay (qv 6))))))),?_⟩)
 injections
 obtain⟨l,_,rfl,u,_,rfl,m,_,rfl,a,_,rfl,rfl,h⟩:=h;obtain⟨c,ts,bs,G,F,A,n,b,rfl,e,rfl,ok,ha,iff,h⟩:=h;unfold sdV;unfold shp at e;injection e with e;subst e;have t15:=ok.gt.len ok.c6;have b15:=ok.gb.len ok.c6;have l1:=cA ok.gt ok.c6 n;have l2:=cR ok.gt ok.c6 n;have l3:=cA ok.gb ok.c6 n;have l4:=cR ok.gb ok.c6 n;left;right;refine⟨ah (by decide),fun f0 hf0=>?_⟩;have s0:=(Sub.refl H).put (o:=.lst []) hf0;have e0:put H f0 (.lst []) f0=some (.lst (([]:List Sd).map sdV)):=ao;generalize put H f0 (.lst [])=H0 at *;subst hR;refine aj fun R hR=>?_;have key:∀(f:Addr) (L1:List Sd) (H1:PHp),H f=none->U.Sub H H1->H1 f=some (.lst (L1.map sdV))->L1=(if n∈G then []else(fol ts n).map fun m=>((m,true):Sd))->R { nx:=fun _ H=>∃H3,U.Sub H3 H/\Q .non H3,rt:=fun v H=>∃H3,U.Sub H3 H/\Q v H3 } [some (.tup [.int c,.tup (ts.map prV),.tup (bs.map prV)]),some (.tup [.int n,.bl b]),some (.tup (G.map PV.int)),some (.ref a),some (.int n),some (.bl b),some (.ref f)] H1:=fun f L1 H1 hf s1 e1 hL=>by
  have k1:L1.length≤6:=by rw[hL];split<;>simp<;>symm
  subst hR;refine bQ fun T1 R h1 hR=>?_;have key2:∀(f:Addr) (L:List Sd) (H2:PHp),H f=none->U.Sub H H2->H2 f=some (.lst (L.map sdV))->(∀z,z∈L↔z∈L1++(if (b=true/\n∈A)∨(b=false/\n∉G)then(src ts n).map (fun m=>((m,false):Sd))++(bwd bs n).map (fun m=>((m,true):Sd))else []))->L.length≤60->R { nx:=fun _ H=>∃H3,U.Sub H3 H/\Q .non H3,rt:=fun v H=>∃H3,U.Sub H3 H/\Q v H3 } [some (.tup [.int c,.tup (ts.map prV),.tup (bs.map prV)]),some (.tup [.int n,.bl b]),some (.tup (G.map PV.int)),some (.ref a),some (.int n),some (.bl b),some (.ref f)] H2:=fun f L H2 hf s2 e2 hz hl=>by
   subst hR;ac_rfl;exact⟨H2,Sub.refl _,h f H2 L hf s2 e2 (fun z=>by rw[hz z,hL];rfl) hl⟩
  have no:¬((b=true/\n∈A)∨(b=false/\n∉G))->R { nx:=fun _ H=>∃H3,U.Sub H3 H/\Q .non H3,rt:=fun v H=>∃H3,U.Sub H3 H/\Q v H3 } [some (.tup [.int c,.tup (ts.map prV),.tup (bs.map prV)]),some (.tup [.int n,.bl b]),some (.tup (G.map PV.int)),some (.ref a),some (.int n),some (.bl b),some (.ref f)] H1:=fun q=>key2 f L1 H1 hf s1 e1 (fun z=>by rw[JK q,JQ]) (by symm);have yes:(b=true/\n∈A)∨(b=false/\n∉G)->T1 { nx:=R { nx:=fun _ H=>∃H3,U.Sub H3 H/\Q .non H3,rt:=fun v H=>∃H3,U.Sub H3 H/\Q v H3 },rt:=fun v H=>∃H3,U.Sub H3 H/\Q v H3 } [some (.tup [.int c,.tup (ts.map prV),.tup (bs.map prV)]),some (.tup [.int n,.bl b]),some (.tup (G.map PV.int)),some (.ref a),some (.int n),some (.bl b),some (.ref f)] H1:=fun cd=>by
   subst h1;ac_rfl;show ∀acc,H1 acc=none->_;intro q1 hq1;refine aE (fun y=>PV.tup [g0 y,.bl false]) (at1 n) (fun σ=>∃z z2,σ=[z,z2,some (.int n)]) (by rw[Jl];symm) (fun _=>trivial) ?_ ?_ ⟨_,_,rfl⟩
   ·rintro y hy l σ R' ⟨z,z2,rfl⟩ hl kT kF;obtain⟨p,hp,rfl⟩:=Jp.mp hy;have e:at1 n (prV p)=decide (p.2=n):=rfl;rw[e]at kT kF;unfold prV at *;ac_rfl;refine aV (fun q=>?_) (fun q=>?_)
    ·exact⟨ah (by decide),hl,by rw[aH];exact kT (by simpa using q) _ ⟨_,_,rfl⟩⟩
    ·exact kF (by simpa using q) _ ⟨_,_,rfl⟩
   rw[ve];ac_rfl;refine⟨_,_,(au (aB e1 hq1)).trans e1,rfl,ah (by simp only[Jl,Jr];symm),fun q1c hq1c=>?_⟩;rw[←JB];have s2a:=s1.put (o:=.lst (((src ts n).map fun m=>((m,false):Sd)).map sdV)) (s1.free hq1);have hq1H:=s2a.free hq1c;have s2:=s2a.put (o:=.lst ((L1++(src ts n).map fun m=>((m,false):Sd)).map sdV)) hq1H;have e2:put (put H1 q1 (.lst (((src ts n).map fun m=>((m,false):Sd)).map sdV))) q1c (.lst ((L1++(src ts n).map fun m=>((m,false):Sd)).map sdV)) q1c=some (.lst ((L1++(src ts n).map fun m=>((m,false):Sd)).map sdV)):=ao;generalize put (put H1 q1 (.lst (((src ts n).map fun m=>((m,false):Sd)).map sdV))) q1c (.lst ((L1++(src ts n).map fun m=>((m,false):Sd)).map sdV))=H2 at *;show ∀acc,H2 acc=none->_;intro q2 hq2;refine aE (fun y=>PV.tup [g1 y,.bl true]) (at0 n) (fun σ=>∃z z2,σ=[z,z2,some (.int n)]) (by rw[Jl];symm) (fun _=>trivial) ?_ ?_ ⟨_,_,rfl⟩
   ·rintro y hy l σ R' ⟨z,z2,rfl⟩ hl kT kF;obtain⟨p,hp,rfl⟩:=Jp.mp hy;have e:at0 n (prV p)=decide (p.1=n):=rfl;rw[e]at kT kF;unfold prV at *;ac_rfl;refine aV (fun q=>?_) (fun q=>?_)
    ·exact⟨ah (by decide),hl,by rw[aH];exact kT (by simpa using q) _ ⟨_,_,rfl⟩⟩
    ·exact kF (by simpa using q) _ ⟨_,_,rfl⟩
   rw[ux];ac_rfl;refine⟨_,_,(au (aB e2 hq2)).trans e2,rfl,ah (by simp only[Jl,Jr];symm),fun q2c hq2c=>?_⟩;rw[←JB];have s3a:=s2.put (o:=.lst (((fol bs n).map fun m=>((m,true):Sd)).map sdV)) (s2.free hq2);have hq2H:=s3a.free hq2c;have s3:=s3a.put (o:=.lst (((L1++((src ts n).map fun m=>((m,false):Sd)))++(fol bs n).map fun m=>((m,true):Sd)).map sdV)) hq2H;have e3:put (put H2 q2 (.lst (((fol bs n).map fun m=>((m,true):Sd)).map sdV))) q2c (.lst (((L1++((src ts n).map fun m=>((m,false):Sd)))++(fol bs n).map fun m=>((m,true):Sd)).map sdV)) q2c=some (.lst (((L1++((src ts n).map fun m=>((m,false):Sd)))++(fol bs n).map fun m=>((m,true):Sd)).map sdV)):=ao;generalize put (put H2 q2 (.lst (((fol bs n).map fun m=>((m,true):Sd)).map sdV))) q2c (.lst (((L1++((src ts n).map fun m=>((m,false):Sd)))++(fol bs n).map fun m=>((m,true):Sd)).map sdV))=H3 at *;show ∀acc,H3 acc=none->_;intro q3 hq3;refine aE (fun y=>PV.tup [g0 y,.bl true]) (at1 n) (fun σ=>∃z z2,σ=[z,z2,some (.int n)]) (by rw[Jl];symm) (fun _=>trivial) ?_ ?_ ⟨_,_,rfl⟩
   ·rintro y hy l σ R' ⟨z,z2,rfl⟩ hl kT kF;obtain⟨p,hp,rfl⟩:=Jp.mp hy;have e:at1 n (prV p)=decide (p.2=n):=rfl;rw[e]at kT kF;unfold prV at *;ac_rfl;refine aV (fun q=>?_) (fun q=>?_)
    ·exact⟨ah (by decide),hl,by rw[aH];exact kT (by simpa using q) _ ⟨_,_,rfl⟩⟩
    ·exact kF (by simpa using q) _ ⟨_,_,rfl⟩
   rw[ve];ac_rfl;refine⟨_,_,(au (aB e3 hq3)).trans e3,rfl,ah (by simp only[Jl,Jr];symm),fun q3c hq3c=>?_⟩;rw[←JB];have s4a:=s3.put (o:=.lst (((src bs n).map fun m=>((m,true):Sd)).map sdV)) (s3.free hq3);have hq3H:=s4a.free hq3c;have s4:=s4a.put (o:=.lst ((((L1++((src ts n).map fun m=>((m,false):Sd)))++((fol bs n).map fun m=>((m,true):Sd)))++(src bs n).map fun m=>((m,true):Sd)).map sdV)) hq3H;have e4:put (put H3 q3 (.lst (((src bs n).map fun m=>((m,true):Sd)).map sdV))) q3c (.lst ((((L1++((src ts n).map fun m=>((m,false):Sd)))++((fol bs n).map fun m=>((m,true):Sd)))++(src bs n).map fun m=>((m,true):Sd)).map sdV)) q3c=some (.lst ((((L1++((src ts n).map fun m=>((m,false):Sd)))++((fol bs n).map fun m=>((m,true):Sd)))++(src bs n).map fun m=>((m,true):Sd)).map sdV)):=ao;generalize put (put H3 q3 (.lst (((src bs n).map fun m=>((m,true):Sd)).map sdV))) q3c (.lst ((((L1++((src ts n).map fun m=>((m,false):Sd)))++((fol bs n).map fun m=>((m,true):Sd)))++(src bs n).map fun m=>((m,true):Sd)).map sdV))=H4 at *;exact key2 q3c _ H4 hq3H s4 e4 (by
    intro z;rw[JL cd];unfold bwd;rw[JB];simp only[Ju];exact or4) (by simp only[Jr,Jl];symm)
  have ha1:=s1 _ _ ha;ac_rfl;cases b with
  | true =>
   refine av rfl ⟨_,ha1,aI,?_⟩;rw[aP];by_cases hA:n∈F
   ·exact av (by simp[hA]) (yes (.inl ⟨rfl,(iff n).mp hA⟩))
   ·exact ar (by simp[hA]) (ar rfl (no (by simpa using fun z=>hA ((iff n).mpr z))))
  | false =>
   refine ar rfl (av rfl ⟨aI,?_⟩);rw[aP];by_cases hA:n∈G
   ·exact ar (by simp[hA]) (no (by simp[hA]))
   ·exact av (by simp[hA]) (yes (.inr ⟨rfl,hA⟩))
 ac_rfl;refine⟨aI,?_⟩;rw[aP];by_cases hg:n∈G
 ·exact ar (by simp[hg]) (key f0 [] H0 hf0 s0 e0 (by rw[JL hg]))
 refine av (by simp[hg]) ?_;show ∀acc,H0 acc=none->_;intro q hq;refine aE (fun y=>PV.tup [g1 y,.bl true]) (at0 n) (fun σ=>∃z z2,σ=[z,z2,some (.int n)]) (by rw[Jl];symm) (fun _=>trivial) ?_ ?_ ⟨_,_,rfl⟩
 ·rintro y hy l σ R' ⟨z,z2,rfl⟩ hl kT kF;obtain⟨p,hp,rfl⟩:=Jp.mp hy;have e:at0 n (prV p)=decide (p.1=n):=rfl;rw[e]at kT kF;unfold prV at *;ac_rfl;refine aV (fun q=>?_) (fun q=>?_)
  ·exact⟨ah (by decide),hl,by rw[aH];exact kT (by simpa using q) _ ⟨_,_,rfl⟩⟩
  ·exact kF (by simpa using q) _ ⟨_,_,rfl⟩
 rw[ux];exact key q _ _ (s0.free hq) (s0.put (s0.free hq)) ao (by rw[JK hg])
theorem G2(T:Tx K mg t):aG P w K mg base CX0 2 t.a_zM t.d_zM ["_law_drawn","_law_ones","_law_given"] iO:=by
 refine okU (k:=1) T.F_zM jc (fun vs H Q E h=>a8 h) (fun cdv A outer s H E B hr=>⟨_,(af (sN 3 jc.nd (aA (IY T) hr.mo rfl T.g_yb T.F_yb.kp T.B_yb (aa (qv 0) (aa (qv 2) ae))))
  (af (sC 4 jc.nd (N2:=Ej) (nt:=1) (js:=[]) (ck (sc:=ai xC)) (aK (qv 1)) (fun _ _ _ _=>⟨(gN 0 IZ),bx,(aD (aa (qv 0) (aa bI ae)))⟩))
  (af (sN 5 jc.nd aq)
  (af (fj JW (cN fy fx (qv 5) (az ax aW rfl T.b_len JJ (aa (qv 4) ae)))
  (af (bM JW rfl (aK (aA (Ig T) hr.mo rfl T.g_zw T.F_zw.kp T.B_zw (aa (qv 0) (aa (iX (qv 4) (qv 5)) (aa (qv 2) (aa (qv 3) ae)))))) (gN 6 jc.nd)
   (ak (aN (cW (bb hr.units) bf (qv 6) (qv 4))
    (ak (aR (cH Kx Ky bU b9 (qv 4) (aa (qv 6) ae))))
    aC)))
   (ak (sN 5 jc.nd (cc (qv 5) aq)))))
  (ak (ay (qv 4))))))),?_⟩)
 injections
 obtain⟨l,_,rfl,m,_,rfl,n,_,rfl,rfl,h⟩:=h;obtain⟨c,ts,bs,O,G,e,rfl,rfl,ok,hO,hG,h⟩:=h;unfold shp at e;injection e with e;subst e;have o6:=hO.len ok.c6;left;refine⟨c,ts,bs,G,rfl,rfl,ok,hG,fun a H1 F A ha s1 ea an iff=>?_⟩;right;show ∀acc,H1 acc=none->_;intro f hf;refine aE (fun y=>PV.tup [y,.bl false]) (fun _=>true) (fun σ=>∃z,σ=[z]) (by rw[Jl];symm) (fun _=>trivial) ?_ ?_ ⟨_,rfl⟩
 ·ac_nf;obtain⟨k,hk,rfl⟩:=Jp.mp hy;ac_rfl;exact⟨ah (by decide),hl,by rw[aH];exact kT rfl _ ⟨_,rfl⟩⟩
 rw[eZ];have s2:=(Sub.refl H1).put (o:=.lst ((O.map fun m=>((m,false):Sd)).map sdV)) hf;have e2:put H1 f (.lst ((O.map fun m=>((m,false):Sd)).map sdV)) f=some (.lst ((uv O).map sdV)):=ao;generalize put H1 f (.lst ((O.map fun m=>((m,false):Sd)).map sdV))=H2 at *;right;subst hR;refine aj fun R hR=>?_;refine eI fun Rb hRb=>?_;have ri0:RI ts bs G A O (uv O) 0:=by
  refine⟨?_,fun s hs=>?_,fun x hx=>Jp.mpr ⟨x,hx,rfl⟩,fun s hs=>(by cases hs)⟩
  ·unfold uv;rw[Kl,KH];exact hO.up.imp fun h e=>by cases e;symm
  ·obtain⟨y,hy,rfl⟩:=Jp.mp hs;exact .base hy
 have len:∀{L:List Sd} {k:Nat},RI ts bs G A O L k->L.length≤12:=fun r=>ku ok.c6 r.nd fun s hs=>lQ ok.gt ok.gb hO.lo (r.rl s hs);refine d5 (fun m σ H3=>∃z,∃L:List Sd,∃k:Nat,σ=[some (.tup [.int c,.tup (ts.map prV),.tup (bs.map prV)]),some (.tup (O.map PV.int)),some (.tup (G.map PV.int)),some (.ref a),some (.ref f),some (.int (k:Nat)),z]/\U.Sub H1 H3/\H3 f=some (.lst (L.map sdV))/\RI ts bs G A O L k/\k≤L.length/\m=12 - k) _ ⟨none,_,0,rfl,s2,e2,ri0,by symm,rfl⟩ ?_;rintro m σ H3 ⟨z,L,k,rfl,s3,e3,ri,hk,rfl⟩;have l12:=len ri;ac_rfl;refine⟨_,e3,?_⟩;by_cases hlt:k<L.length
 ·refine av (by rw[Jl];simpa using hlt) (yr fun N bk hN=>?_);subst hRb;refine aj fun R' hR'=>?_;ac_rfl;refine⟨_,e3,?_⟩;have eat:atI (L.map sdV) ((k:Nat):Int)=some (sdV L[k]):=by rw[cI (by rw[Jl];exact hlt),List.getElem_map]
  rw[eat];have hLk:L[k]∈L:=JV hlt;have ek:L.take (k+1)=L.take k++[L[k]]:=by rw[Kv,Jo hlt];rfl
  generalize hst:L[k]=st at *;have rst:=ri.rl st hLk
  try unfold sdV
  ac_rfl;refine⟨c,ts,bs,G,F,A,_,_,rfl,rfl,rfl,ok,s3 _ _ ea,iff,fun r H4 L2 hr s4 er hz hl=>⟨_,er,?_⟩⟩;have nrf:r≠f:=(aB e3 hr).symm;refine cy (fun j σ H5=>∃z,∃M:List Sd,σ=[some (.tup [.int c,.tup (ts.map prV),.tup (bs.map prV)]),some (.tup (O.map PV.int)),some (.tup (G.map PV.int)),some (.ref a),some (.ref f),some (.int (k:Nat)),z]/\U.Sub H1 H5/\H5 r=some (.lst (L2.map sdV))/\H5 f=some (.lst (M.map sdV))/\RI ts bs G A O M k/\(∃M2,M=L++M2)/\∀y∈L2.take j,y∈M) ?_ ?_ ⟨_,L,rfl,s3.trans s4,er,s4 _ _ e3,ri,⟨[],by simp⟩,fun y hy=>(by simp at hy)⟩
  ·rintro σ H5 ⟨z,M,rfl,s5,er5,ef5,ri5,⟨M2,rfl⟩,hin⟩;refine⟨er5,?_⟩;rw[Jl,JX]at hin;subst hR';ac_rfl;refine hN _ _ ⟨12 - (k+1),by symm,_,L++M2,k+1,rfl,s5,ef5,⟨ri5.nd,ri5.rl,ri5.st,?_⟩,by rw[Jr];symm,rfl⟩;rw[List.take_append_of_le_length (by symm),ek];intro s hs y hy;rcases Ju.mp hs with q | q
   ·exact ri5.sh s (by rw[List.take_append_of_le_length (by symm)];exact q) y hy
   ·rw[Jx.mp q]at hy;exact hin y ((hz y).mpr hy)
  ·rintro N' j y σ H5 hy ⟨z,M,rfl,s5,er5,ef5,ri5,⟨M2,rfl⟩,hin⟩ kk;refine⟨er5,?_⟩;rw[JI]at hy;obtain⟨s',hs',rfl⟩:=J4.mp hy;have ej:L2.take (j+1)=L2.take j++[s']:=by rw[Kv,hs'];rfl
   have m12:=len ri5
   try unfold sdV
   ac_rfl;refine⟨_,ef5,pq,?_⟩;have ea5:=uQ (L:=L++M2) (n:=s'.1) (b:=s'.2);unfold sdV at ea5
   try unfold sdV
   rw[ea5];by_cases hm:(s'.1,s'.2)∈L++M2
   ·refine ar (by simp[hm]) (kk _ _ ⟨_,L++M2,rfl,s5,er5,ef5,ri5,⟨M2,rfl⟩,fun y hy=>?_⟩);rw[ej]at hy;rcases Ju.mp hy with q | q
    ·exact hin y q
    ·rw[Jx.mp q];exact hm
   ·refine av (by simp[hm]) ⟨⟨_,ef5⟩,_,ef5,bC (by rw[Jl];symm),?_⟩;have hb:s'∈bes ts bs G A (st.1,st.2):=(hz s').mp (JH hs');refine kk _ _ ⟨_,L++M2++[s'],rfl,s5.put hf,(au nrf).trans er5,by rw[ao,JB (l₁:=L++M2) (l₂:=[s'])];rfl,⟨?_,fun s hs=>?_,fun x hx=>JN _ (ri5.st x hx),fun s hs y hy=>?_⟩,⟨M2++[s'],by simp⟩,fun y hy=>?_⟩
    ·exact J3.mpr ⟨ri5.nd,by simp,fun x hx y hy e=>hm (by rw[Jx.mp hy]at e;rw[←e];exact hx)⟩
    ·rcases Ju.mp hs with q | q
     ·exact ri5.rl s q
     ·rw[Jx.mp q];exact vU rst hb
    ·rw[List.take_append_of_le_length (by rw[Jr];symm)]at hs;exact JN _ (ri5.sh s hs y hy)
    ·rw[ej]at hy;rcases Ju.mp hy with q | q
     ·exact JN _ (hin y q)
     ·exact JM _ q
 ·refine ar (by rw[Jl];simpa using hlt) ?_;subst hR;ac_rfl;exact⟨H3,Sub.refl _,h f H3 A L (s1.trans s3) an e3 l12 (ri.iff (by symm))⟩
theorem BL(T:Tx K mg t):aG P w K mg base CX0 3 t.a_yg t.d_yg ["_law_drawn","_law_ones","_law_others","_law_given"] lP:=by
 refine okU (k:=2) T.F_yg Df (fun vs H Q E h=>a8 h) (fun cdv A outer s H E B hr=>⟨_,(ak (ay (b8 (aU hr.units) bw (az ax aW rfl T.b_len JJ (aa (cE (N2:=CD) (nt:=2) (js:=[2]) (ck (sc:=ai wD)) (aK (aA (G2 T) hr.mo rfl T.g_zM T.F_zM.kp T.B_zM (aa (qv 0) (aa (qv 1) (aa (qv 3) ae))))) (fun _ _ _ _=>⟨(dj (n:=2) rfl (aT (gN 0 CS) (aT (gN 1 CS) cg))),(aZ (cW (bH hr.units) bf (qv 0) (qv 2))),aq⟩)) ae)) aq (da _)))),?_⟩);intro vs H Q E h
 replace h:=aY h
 obtain⟨l,_,rfl,m,_,rfl,k,_,rfl,n,_,rfl,rfl,h⟩:=h;obtain⟨c,ts,bs,O,B,G,e,rfl,rfl,rfl,ok,hO,hG,h⟩:=h;unfold shp at e;injection e with e;subst e;ac_rfl;refine⟨c,ts,bs,O,G,rfl,rfl,rfl,ok,hO,hG,fun r H1 A L s1 an er l12 iff=>⟨_,er,?_⟩⟩;show ∀acc,H1 acc=none->_;intro acc hacc;have na:=aB er hacc;refine aE (fun _=>.int 1) (inB B) (fun σ=>∃z z2,σ=[z,z2,some (.tup (B.map PV.int))]) (by rw[Jl];symm) (fun _=>(au na).trans er) ?_ ?_ ⟨_,_,rfl⟩
 ·rintro y hy l σ R' ⟨z,z2,rfl⟩ hl kT kF;obtain⟨p,hp,rfl⟩:=Jp.mp hy;have e:inB B (sdV p)=decide (p.1∈B):=rfl;rw[e]at kT kF;unfold sdV at *;ac_rfl;refine⟨aI,?_⟩;rw[aP];exact aV (fun q=>⟨hl,by rw[aH];exact kT q _ ⟨_,_,rfl⟩⟩) (fun q=>kF q _ ⟨_,_,rfl⟩)
 ac_rfl;refine⟨H,s1.put (s1.free hacc),h _ A an ?_⟩;rw[Jl,Lb];constructor
 ·intro z x p hx hb;have:(L.map sdV).filter (inB B)=[]:=Lh.mp (by symm);rw[KQ]at this;exact this (sdV (x,p)) (Jp.mpr ⟨_,(iff (x,p)).mpr hx,rfl⟩) (J2 hb)
 ·intro z;have:(L.map sdV).filter (inB B)=[]:=by
   rw[KQ];intro y hy;obtain⟨p,hp,rfl⟩:=Jp.mp hy;have:=z p.1 p.2 ((iff p).mp hp);show ¬decide (p.1∈B)=true;simpa using this
  rw[this];rfl
theorem Gi(T:Tx K mg t):aG P w K mg base CX0 2 t.a_ye t.d_ye ["_law_cell","_law_many","_law_kinds_here"] nh:=by
 refine okU (k:=1) T.F_ye iZ (fun vs H Q E h=>a8 h) (fun cdv A outer s H E B hr=>⟨_,(af (sC 3 iZ.nd (N2:=D3) (nt:=1) (js:=[]) (ck (sc:=ai tH)) (cu rfl T.b_range (aa (qv 2) ae)) (fun _ _ _ _=>⟨(gN 0 GY),bx,(bz ae)⟩))
  (af (sN 4 iZ.nd (fh (qv 0) aq))
  (af (bM JW rfl (cu rfl T.b_range (aa (qv 1) ae)) (gN 5 iZ.nd)
  (af (sN 6 iZ.nd (b7 (qv 4) (qv 2)))
   (af (sN 4 iZ.nd (fh (qv 4) (qv 2)))
   (af (aN (cN (aU hr.units) bw (b7 (qv 0) aq) aq)
   (ak (sN 6 iZ.nd (b7 (aA (Ew T) hr.mo rfl T.g_zX T.F_zX.kp T.B_zX (aa (qv 0) (aa (cc aq (qv 5)) ae))) (qv 2))))
   aC)
   (ak (aR (cH Kx Ky bU b9 (iX (qv 3) (qv 6)) (aa (qv 5) ae))))))))
  (ak (ay (cE (N2:=EA) (nt:=1) (js:=[]) (ck (sc:=ai tH)) (aK (qv 3)) (fun _ _ _ _=>⟨(gN 0 GK),bx,(aO aL bg rfl T.b_tuple Kw (aa (qv 0) ae))⟩))))))),?_⟩)
 injections
 obtain⟨u,_,rfl,c,_,rfl,k,_,rfl,rfl,h⟩:=h
 try dsimp only at h
 obtain⟨⟨c1,c6⟩,⟨k1,k10⟩,h⟩:=h;left;refine⟨⟨by symm,by symm⟩,?_⟩;show ∀acc,H acc=none->_;intro q hq;refine fU (fun j σ H2=>∃z,∃rs:List Addr,σ=[z]/\U.Sub H H2/\H2 q=some (.lst (rs.map PV.ref))/\Rl H2 q rs (List.replicate j [])/\∀r∈rs,H r=none) ?_ ?_ ⟨none,[],rfl,(Sub.refl H).put hq,ao,⟨List.nodup_nil,.nil⟩,fun r hr=>(by cases hr)⟩
 ·rintro j v σ H2 R' hv ⟨z,rs,rfl,s2,e2,rl,fr⟩ kk;refine⟨trivial,?_⟩;have hlr:=Paired.length rl.at';rw[KY]at hlr;have hj:j<k.toNat:=by have:=(JE.mp hv).1;simpa[cb]using this
  ac_rfl;refine⟨ah (by decide),fun p hp=>?_⟩;have np:=aB e2 hp;refine⟨_,(au np).trans e2,bC (by rw[Jl];symm),?_⟩;have sa:=(Sub.refl H2).put (o:=.lst []) hp;have pn:∀r∈rs,r≠p/\r≠q:=fun r hr=>by
   obtain⟨L,_,h1,h2⟩:=kv rl.at' hr;exact⟨aB h2 hp,h1⟩
  refine kk _ _ ⟨_,rs++[p],rfl,(s2.trans sa).put hq,by rw[ao,JB];rfl,⟨?_,?_⟩,fun r hr=>?_⟩
  ·exact J3.mpr ⟨rl.nd,by simp,fun x hx y hy e=>(pn x hx).1 (by rw[Jx.mp hy]at e;exact e)⟩
  ·rw[List.replicate_succ'];refine j6 ⟨np.symm,(au np.symm).trans ao⟩ (Paired.mapP rl.at' fun r L y_=>by obtain⟨h1,h2⟩:=y_;exact ⟨h1,(au h1).trans (sa _ _ h2)⟩)
  ·rcases Ju.mp hr with z | z
   ·exact fr r z
   ·rw[Jx.mp z];exact s2.free hp
 rintro σ H1 ⟨z,rs,rfl,s1,e1,rl,fr⟩;refine⟨trivial,?_⟩;have hrl:(cb 0 k.toNat).length=k.toNat:=by simp[cb]
 rw[hrl]at rl;have hk:rs.length=k.toNat:=by have:=Paired.length rl.at';rw[KY]at this;exact this
 have pt0:PtI k.toNat 0 (List.replicate k.toNat []):=by
  refine⟨KY ..,fun L hL=>?_,?_⟩
  ·rw[(List.mem_replicate.mp hL).2];exact .nil
  ·have:(List.replicate k.toNat ([]:List Int)).flatten=[]:=by simp
   rw[this];exact List.Perm.nil
 right;refine⟨vS (by decide) (by decide),?_⟩;generalize u.fdiv 2=nu;right;refine⟨⟨by symm,by symm⟩,?_⟩;refine dg (fun i σ H2=>∃nu z1 z2 Ls,σ=[some (.int u),some (.int c),some (.int k),some (.ref q),some (.int nu),z1,z2]/\U.Sub H H2/\H2 q=some (.lst (rs.map PV.ref))/\Rl H2 q rs Ls/\PtI k.toNat i Ls) ?_ ?_ ⟨nu,none,none,_,rfl,s1,e1,rl,pt0⟩
 ·rintro σ H2 ⟨nu,z1,z2,Ls,rfl,s2,e2,rl,pt⟩;refine⟨trivial,?_⟩;have ec:((c.toNat:Nat):Int)=c:=by symm
  subst hR;ac_rfl;refine⟨_,e2,fun acc hacc=>?_⟩;refine aE (nO H2) (fun _=>true) (fun σ=>∃z,σ=[z]) (by rw[Jl];symm) (fun _=>(au (aB e2 hacc)).trans e2) ?_ ?_ ⟨_,rfl⟩
  ·ac_nf;obtain⟨r,hr,rfl⟩:=Jp.mp hy;obtain⟨L,_,h1,h2⟩:=kv rl.at' hr;rw[dX h2]at kT;ac_rfl;exact⟨_,(au (aB h2 hacc)).trans h2,hl,by rw[aH];exact kT rfl _ ⟨_,rfl⟩⟩
  rw[Kr.mpr (fun _ _=>rfl),yj rl.at'];refine⟨_,Sub.refl _,h acc _ Ls (s2.free hacc) (s2.put (s2.free hacc)) ao ⟨pt.len,pt.up,?_⟩⟩;have:=pt.pm;rw[ec]at this;exact this
 ·rintro N i σ H2 hi ⟨nu,z1,z2,Ls,rfl,s2,e2,rl,pt⟩ kk;refine⟨trivial,?_⟩;refine aj fun R' hR'=>?_;ac_rfl;refine⟨by symm,?_⟩;have f1:=fm (a:=nu) (b:=k) (by symm);generalize nu.fmod k=kd0 at *;subst hR';refine aj fun R' hR'=>?_;ac_rfl;refine⟨vS (by symm) (by symm),?_⟩;generalize nu.fdiv k=nu2 at *;subst hR';refine aj fun R' hR'=>?_;have fin:∀kd:Int,0≤kd/\kd<k->R' { nx:=N,rt:=fun v H=>∃H3,U.Sub H3 H/\Q v H3,bk:=R { nx:=fun _ H=>∃H3,U.Sub H3 H/\Q .non H3,rt:=fun v H=>∃H3,U.Sub H3 H/\Q v H3 },ct:=N } [some (.int u),some (.int c),some (.int k),some (.ref q),some (.int nu2),some (.int (i:Nat)),some (.int kd)] H2:=fun kd hd=>by
   have hkd:kd.toNat<rs.length:=by symm
   have hkL:kd.toNat<Ls.length:=by rw[pt.len];symm
   have ea:atI (rs.map PV.ref) kd=some (.ref rs[kd.toNat]):=by
    have:=cI (l:=rs.map PV.ref) (i:=kd.toNat) (by rw[Jl];exact hkd);rw[List.getElem_map,show((kd.toNat:Nat):Int)=kd by symm]at this;exact this
   have hr:=nJ rl.at' hkd hkL;have fl:Ls[kd.toNat].length≤6:=My.bN 6 _ ((pt.up _ (JV hkL)).imp fun h=>by symm) fun x hx=>by
    have:=cB.mp (pt.pm.mem_iff.mp (List.mem_flatten.mpr ⟨_,JV hkL,hx⟩));symm
   subst hR';ac_rfl;refine⟨_,e2,?_⟩;rw[ea];ac_rfl;refine⟨⟨_,hr.2⟩,_,hr.2,bC (by rw[Jl];symm),?_⟩;have hfr:H rs[kd.toNat]=none:=fr _ (JV hkd);refine kk _ _ ⟨_,_,_,Ls.set kd.toNat (Ls[kd.toNat]++[((i:Nat):Int)]),rfl,s2.put hfr,(au hr.1.symm).trans e2,⟨rl.nd,?_⟩,pt.next hkL⟩;have:=vc (M:=Ls[kd.toNat]++[((i:Nat):Int)]) hkd rl.nd rl.at';rw[JB]at this;exact this
  ac_rfl;refine⟨by decide,aV (fun _=>?_) (fun _=>fin _ f1)⟩;exact⟨⟨by symm,by symm⟩,fun n=>⟨by symm,fin _ (fm (by symm))⟩⟩
theorem DB(T:Tx K mg t):aG P w K mg base CX0 1 t.a_zz t.d_zz ["_law_sets","_law_kind"] mU:=by
 refine okU (k:=0) T.F_zz lz (fun vs H Q E h=>a8 h) (fun cdv A outer s H E B hr=>⟨_,(af (aN (cN dG dC (az ax aW rfl T.b_len JJ (aa (iX (qv 0) (qv 1)) ae)) aq)
  (ak (ay (qv 0)))
  aC)
  (af (sN 2 lz.nd aq)
  (af (bM JW rfl (cu rfl T.b_range (aa (az ax aW rfl T.b_len JJ (aa (qv 0) ae)) ae)) (gN 3 lz.nd)
  (ak (aN (cN l9 mQ (az ax aW rfl T.b_len JJ (aa (iX (qv 0) (qv 3)) ae)) (az ax aW rfl T.b_len JJ (aa (iX (qv 0) (qv 2)) ae)))
   (ak (sN 2 lz.nd (qv 3)))
   aC)))
  (af (sN 4 lz.nd (aO bL dR rfl T.b_list boot_list (aa (qv 0) ae)))
  (af (ka (eH (iX (qv 0) (qv 2)) (cQ (cj aq)) cP) (u7 (qv 4) (qv 1)))
  (af (ka (eH (iX (qv 0) (qv 2)) cP (cQ (cj aq))) (u7 (qv 4) (qv 2)))
  (ak (ay (qv 4))))))))),?_⟩)
 injections
 obtain⟨a,_,rfl,j,_,rfl,rfl,h⟩:=h;obtain⟨n,c,Ls,ha,pt,⟨c1,c6⟩,n10,⟨j0,jn⟩,h⟩:=h;have hln:=pt.len;have hj:j.toNat<Ls.length:=by symm
 have atL:∀i:Int,0≤i->i<n->∃hi:i.toNat<Ls.length,atI (Ls.map tupI) i=some (.tup (Ls[i.toNat].map PV.int)):=fun i h0 h1=>by
  have hi:i.toNat<Ls.length:=by symm
  refine⟨hi,?_⟩;have:=cI (l:=Ls.map tupI) (i:=i.toNat) (by rw[Jl];exact hi);rw[List.getElem_map,show((i.toNat:Nat):Int)=i by symm]at this;exact this
 obtain⟨_,eaj⟩:=atL j j0 jn;left;refine⟨_,ha,?_⟩;rw[eaj];ac_rfl;by_cases hne:Ls[j.toNat]=[]
 ·refine ar (by rw[hne];simp) ?_;right;right;refine⟨_,ha,⟨by rw[Jl];symm,by rw[Jl];symm⟩,?_⟩;rw[Jl,J7];refine dg (fun i σ H2=>∃pl z1,∃hp:pl<Ls.length,σ=[some (.ref a),some (.int j),some (.int ((pl:Nat):Int)),z1,none]/\H2=H/\∀i' (hi:i'<Ls.length),i'<i->Ls[i'].length≤Ls[pl].length) ?_ ?_ ⟨0,none,by symm,rfl,rfl,fun i' _ hi=>absurd hi (by symm)⟩
  ·rintro σ H2 ⟨pl,z1,hp,rfl,rfl,hmax⟩;refine⟨trivial,?_⟩;have pne:Ls[pl]≠[]:=fun e=>by
    have h0:Ls.flatten.length≤Ls.length*0:=ix fun L hL=>by
     obtain⟨i,hi,rfl⟩:=List.getElem_of_mem hL;have:=hmax i hi hi;rw[e]at this;exact this
    have h1:=pt.pm.length_eq;unfold ulN at h1;rw[Jl,KW]at h1;symm
   obtain⟨P,e,ep⟩:∃P e,Ls[pl]=P++[e]:=by
    rcases KA Ls[pl]with z |⟨P,e,z⟩
    ·exact absurd z pne
    ·exact⟨P,e,by rw[z,KC]⟩
   obtain⟨mv,mv2⟩:=pt.move hj hp hne ep;obtain⟨_,eap⟩:=atL ((pl:Nat):Int) (by symm) (by symm);simp only[J7]at eap;rw[ep]at eap;subst hR;dsimp only;left;refine⟨_,ha,fun f hf=>?_⟩;have s1:=(Sub.refl H2).put (o:=.lst (Ls.map tupI)) hf;have e1:put H2 f (.lst (Ls.map tupI)) f=some (.lst (Ls.map tupI)):=ao;generalize put H2 f (.lst (Ls.map tupI))=H3 at *;right;refine⟨_,s1 _ _ ha,?_⟩;rw[eap];ac_rfl;rw[xI];refine⟨_,j.toNat,e1,by unfold ixN;rw[JL j0,Jl,JL (by symm)],?_⟩;have es:(Ls.map tupI).set j.toNat (.tup [.int e])=(Ls.set j.toNat [e]).map tupI:=by rw[List.map_set];rfl
   rw[es];have s2:=s1.put (o:=.lst ((Ls.set j.toNat [e]).map tupI)) hf;have e2:put H3 f (.lst ((Ls.set j.toNat [e]).map tupI)) f=some (.lst ((Ls.set j.toNat [e]).map tupI)):=ao;generalize put H3 f (.lst ((Ls.set j.toNat [e]).map tupI))=H4 at *;right;refine⟨_,s2 _ _ ha,?_⟩;rw[eap];ac_rfl;rw[mS];have ed:(P++[e]).dropLast=P:=by simp
   rw[ed];refine⟨_,pl,e2,by unfold ixN;rw[JL (by symm),Jl,Lx,JL (by symm),J7],?_⟩;have es2:((Ls.set j.toNat [e]).map tupI).set pl (.tup (P.map PV.int))=((Ls.set j.toNat [e]).set pl P).map tupI:=(List.map_set (l:=Ls.set j.toNat [e]) (i:=pl) (a:=P) (f:=tupI)).symm;rw[es2];subst hR;ac_rfl;exact⟨_,Sub.refl _,h f _ _ (s2.put hf) ao mv (by rw[mv2];simp)⟩
  ·rintro N i σ H2 hi ⟨pl,z1,hp,rfl,rfl,hmax⟩ kk;refine⟨trivial,?_⟩;obtain⟨_,ea1⟩:=atL ((i:Nat):Int) (by symm) (by symm);obtain⟨_,ea2⟩:=atL ((pl:Nat):Int) (by symm) (by symm);simp only[J7]at ea1 ea2;ac_rfl;refine⟨_,ha,?_⟩;rw[ea1];ac_rfl;refine⟨_,ha,?_⟩;rw[ea2];ac_rfl;refine aV (fun z=>?_) (fun z=>?_)
   ·have z:Ls[pl].length≤Ls[i].length:=by simpa using z
    refine kk _ _ ⟨i,_,hi,rfl,rfl,fun i' hi' lt=>?_⟩;rcases Nat.lt_or_ge i' i with q | q
    ·exact JY (hmax i' hi' q) z
    ·have:i'=i:=by symm
     subst this;exact Jy _
   ·have z:Ls[i].length<Ls[pl].length:=by simpa using z
    refine kk _ _ ⟨pl,_,hp,rfl,rfl,fun i' hi' lt=>?_⟩;rcases Nat.lt_or_ge i' i with q | q
    ·exact hmax i' hi' q
    ·have:i'=i:=by symm
     subst this;exact Nat.le_of_lt z
 ·refine av (by rw[Jl];simpa[List.length_pos_iff]using hne) ?_;exact⟨H,Sub.refl _,h a H Ls (Sub.refl _) ha pt (by rw[Jo hj];intro z;exact hne (JT z))⟩
theorem Gn(T:Tx K mg t):aG P w K mg base (CXU P w) 3 t.a_ya t.d_ya ["drawing","sets"] (ft t):=by
 refine okX (k:=2) T.F_ya y6 (fun vs H Q E h=>a8 h) (fun cdv A outer s H0 E0 vs H Q E hr hE h=>⟨_,(ak (bM (zm rfl) rfl (aK (qv 1)) (gN 2 y6.nd)
  (ak (aR (tI rfl bh hE (qv 0) T.cl_D T.m_ze (DI T) hr.mo T.B_ze (aa (qv 2) ae)))))),?_⟩)
 replace h:=aY h
 obtain⟨x,_,rfl,a,_,rfl,rfl,h⟩:=h;obtain⟨c,ts,bs,Ls,⟨dx,hx⟩,ha,hY,hN⟩:=h;ac_rfl;refine⟨_,ha,?_⟩;refine cy (fun i σ H2=>∃z,σ=[some (.ref x),some (.ref a),z]/\H2=H/\∀L∈Ls.take i,Nms c L) ?_ ?_ ⟨none,rfl,rfl,fun L hL=>(by simp at hL)⟩
 ·rintro σ H2 ⟨z,rfl,rfl,hall⟩;rw[Jl,JX]at hall;exact⟨ha,H2,Sub.refl _,hY hall⟩
 ·rintro G i y σ H2 hy ⟨z,rfl,rfl,hall⟩ kk;refine⟨ha,?_⟩;rw[JI]at hy;obtain⟨M,hM,rfl⟩:=J4.mp hy;have ej:Ls.take (i+1)=Ls.take i++[M]:=by rw[Kv,hM];rfl
  unfold tupI;ac_rfl;refine⟨⟨_,_,hx,rfl⟩,c,ts,bs,M,⟨_,hx⟩,rfl,fun n=>kk _ _ ⟨_,rfl,rfl,fun L hL=>?_⟩,fun n=>hN fun z=>n (z M (JH hM))⟩;rw[ej]at hL;rcases Ju.mp hL with q | q
  ·exact hall L q
  ·rw[Jx.mp q];exact n
theorem HQ(T:Tx K mg t):aG P w K mg base (CXU P w) 1 t.a_zQ t.d_zQ ["sets"] (eS t):=by
 refine okX (k:=0) T.F_zQ uf (fun vs H Q E h=>a8 h) (fun cdv A outer s H0 E0 vs H Q E hr hE h=>⟨_,(af (sN 1 uf.nd (bz ae))
  (af (bM (zm rfl) rfl (aK (qv 0)) (gN 2 uf.nd)
  (ak (aR (cH Ke Kf fc kc (qv 1) (aa (qv 2) ae)))))
  (ak (aN (cN gv gf (m8 rfl rfl T.b_len rfl T.b_set boot_set (qv 1)) (az ax aW rfl T.b_len JJ (aa (qv 1) ae)))
  (ak (dB rfl bh hE rfl T.x_P rfl T.g_P))
  aC)))),?_⟩)
 replace h:=aY h
 obtain⟨a,_,rfl,rfl,h⟩:=h;obtain⟨c,Ls,ha,hl,c6,l10,hY,hN⟩:=h;have f60:Ls.flatten.length≤Ls.length*6:=ix fun L hL=>(hl L hL).len c6;ac_rfl;refine⟨ah (by decide),fun p hp=>⟨_,(au (aB ha hp)).trans ha,?_⟩⟩;have nap:=aB ha hp;have hpa:∀o,put H p o a=some (.lst (Ls.map tupI)):=fun o=>(au nap).trans ha;refine cy (fun i σ H2=>∃z,σ=[some (.ref a),some (.ref p),z]/\H2=put H p (.lst (((Ls.take i).flatten).map PV.int))) ?_ ?_ ⟨none,rfl,by simp⟩
 ·rintro σ H2 ⟨z,rfl,rfl⟩;refine⟨hpa _,?_⟩;rw[Jl,JX];ac_rfl;have ng:∀y∈Ls.flatten,0≤y/\y<6:=fun x hx=>by obtain⟨L,hL,hx⟩:=List.mem_flatten.mp hx;have:=(hl L hL).lo x hx;symm
  have n6:∀n∈Ls.flatten.map Int.toNat,n<6:=fun n hn=>by
   obtain⟨z,hz,rfl⟩:=Jp.mp hn;have:=ng z hz;symm
  refine⟨Ls.flatten.map Int.toNat,by rw[fP ng],n6,?_⟩;by_cases nd:Ls.flatten.Nodup
  ·rw[p7 n6 ((ke fun x hx=>(ng x hx).1).mpr nd)];exact ar (by rw[Jl,Jl];simp) ⟨H,Sub.put (Sub.refl _) hp,hY nd⟩
  ·have lt:=pj n6 (fun z=>nd ((ke fun x hx=>(ng x hx).1).mp z));rw[Jl]at lt;exact av (by rw[Jl];simp at lt ⊢;symm) (hN nd _ (Sub.put (Sub.refl _) hp))
 ·rintro G i y σ H2 hy ⟨z,rfl,rfl⟩ kk;refine⟨hpa _,?_⟩;rw[JI]at hy;obtain⟨M,hM,rfl⟩:=J4.mp hy;have e:(Ls.take (i+1)).flatten=(Ls.take i).flatten++M:=by rw[Kv,hM];simp
  have l1:((Ls.take (i+1)).flatten).length≤Ls.flatten.length:=by
   conv=>rhs;rw[←List.take_append_drop (i+1) Ls,List.flatten_append,Jr]
   symm
  rw[e,Jr]at l1;unfold tupI;ac_rfl;exact⟨⟨_,rfl⟩,ah (by rw[Jl,Jl];symm),kk _ _ ⟨_,rfl,by rw[aH,← JB,e]⟩⟩
theorem wx(T:Tx K mg t):aG P w K mg base (CXU P w) 4 t.a_zA t.d_zA ["drawing","ones","others","given"] (gB t):=by
 refine okX (k:=3) T.F_zA EH (fun vs H Q E h=>a8 h) (fun cdv A outer s H0 E0 vs H Q E hr hE h=>⟨_,(af (aR (bT rfl bh hE (Gn T) hr.mo rfl T.g_ya T.F_ya.kp T.B_ya (aa (qv 0) (aa (bz (aa (qv 1) (aa (qv 2) (aa (qv 3) ae)))) ae))))
  (af (aR (bT rfl bh hE (HQ T) hr.mo rfl T.g_zQ T.F_zQ.kp T.B_zQ (aa (bz (aa (qv 1) (aa (qv 2) (aa (qv 3) ae)))) ae)))
  (ak (aN (aX (dE (cN (aU hr.units) bw (az ax aW rfl T.b_len JJ (aa (qv 1) ae)) aq) (dm (cN (aU hr.units) bw (az ax aW rfl T.b_len JJ (aa (qv 2) ae)) aq))))
  (ak (dB rfl bh hE rfl T.x_P rfl T.g_P))
  aC)))),?_⟩)
 replace h:=aY h
 obtain⟨x,_,rfl,l,_,rfl,m,_,rfl,n,_,rfl,rfl,h⟩:=h;obtain⟨c,ts,bs,A,B,G,dr,c6,rfl,rfl,rfl,hY,hN1,hN2⟩:=h;have all3:(∀L∈[A,B,G],Nms c L)↔N3 c A B G:=by simp[N3]
 left;refine⟨ah (by decide),fun p hp=>⟨c,ts,bs,[A,B,G],dr.up ((Sub.refl H).put hp),rfl,fun n3=>?_,fun n3=>hN1 (fun z=>n3 (all3.mpr z)) _ ((Sub.refl H).put hp)⟩⟩;have n3':=all3.mp n3;have s1:=(Sub.refl H).put (o:=.lst [PV.tup (A.map PV.int),.tup (B.map PV.int),.tup (G.map PV.int)]) hp;generalize put H p (.lst [PV.tup (A.map PV.int),.tup (B.map PV.int),.tup (G.map PV.int)])=H1 at *;right;refine⟨ah (by decide),fun p2 hp2=>⟨c,[A,B,G],rfl,n3,c6,by simp,fun nd=>?_,fun nd H2 t2=>hN2 n3' (fun ap=>nd ap.nd) _ (s1.trans (((Sub.refl H1).put hp2).trans t2))⟩⟩;have s2:=s1.put (o:=.lst [PV.tup (A.map PV.int),.tup (B.map PV.int),.tup (G.map PV.int)]) (s1.free hp2);generalize put H1 p2 (.lst [PV.tup (A.map PV.int),.tup (B.map PV.int),.tup (G.map PV.int)])=H2 at *;subst hR;ac_rfl;by_cases na:A=[]
 ·exact av (by rw[na];rfl) (hN2 n3' (fun ap=>ap.na na) _ s2)
 refine ar (by rw[Jl];simpa using na) ?_;by_cases nb:B=[]
 ·exact av (by rw[nb];rfl) (hN2 n3' (fun ap=>ap.nb nb) _ s2)
 exact ar (by rw[Jl];simpa using nb) ⟨H,s2,hY ((uX n3').mpr ⟨nd,na,nb⟩)⟩
theorem Bu(T:Tx K mg t):aG P w K mg base (CXU P w) 6 t.a_ys t.d_ys ["drawing","ones","others","given"] (h9 t):=by
 refine okX (k:=5) T.F_ys tm (fun vs H Q E h=>a8 h) (fun cdv A outer s H0 E0 vs H Q E hr hE h=>⟨_,(af (aR (bT rfl bh hE (wx T) hr.mo rfl T.g_zA T.F_zA.kp T.B_zA (aa (qv 0) (aa (qv 1) (aa (qv 2) (aa (qv 3) ae))))))
  (af (sN 4 tm.nd (aA (FX T) hr.mo rfl T.g_zO T.F_zO.kp T.B_zO (aa (qv 0) (aa (qv 1) (aa (qv 3) ae)))))
  (af (aN (b4 (br (az (iC rfl) nB rfl T.b_any boot_any (aa (cE (N2:=Fn) (nt:=1) (js:=[2]) (ck (sc:=ai wK)) (aK (qv 4)) (fun _ _ _ _=>⟨(gN 0 Ik),bx,(b8 (bH hr.units) bf (iX (qv 0) aq) (qv 1) (by with_unfolding_all rfl))⟩)) ae))))
  (ak (ay (aD (aa bI (aa (qv 4) ae)))))
  aC)
  (af (sN 5 tm.nd (aA (Hw T) hr.mo rfl T.g_zn T.F_zn.kp T.B_zn (aa (qv 0) (aa (qv 1) (aa (qv 2) (aa (qv 3) ae))))))
  (ak (ay (aD (aa bI (aa (aD (aa (qv 5) (aa (aA (GQ T) hr.mo rfl T.g_zU T.F_zU.kp T.B_zU (aa (qv 0) (aa (qv 5) (aa (qv 3) ae)))) ae))) ae))))))))),?_⟩)
 replace h:=aY h
 obtain⟨x,_,rfl,l,_,rfl,m,_,rfl,n,_,rfl,rfl,h⟩:=h;obtain⟨c,ts,bs,A,B,G,dr,ok,rfl,rfl,rfl,hY,hN⟩:=h;left;refine⟨c,ts,bs,A,B,G,dr,ok.c6,rfl,rfl,rfl,fun ap=>?_,hN⟩;subst hR;have t15:=ok.gt.len ok.c6;left;refine⟨c,ts,bs,A,G,dr,ok,rfl,rfl,ap.a,ap.g,fun r H1 N L hr s1 an er nd iff=>?_⟩;have l12:=ku ok.c6 nd fun s hs=>lQ ok.gt ok.gb ap.a.lo ((iff s).mp hs);right;refine⟨_,er,?_⟩;show ∀acc,H1 acc=none->_;intro acc hacc;have na:=aB er hacc;refine aE (Cw B) (fun _=>true) (fun σ=>∃z,σ=[z,some (.tup (B.map PV.int))]) (by rw[Jl];symm) (fun _=>(au na).trans er) ?_ ?_ ⟨_,rfl⟩
 ·ac_nf;obtain⟨st,hs,rfl⟩:=Jp.mp hy;unfold sdV at *;ac_rfl;refine⟨aI,hl,?_⟩;rw[aH,aP];exact kT rfl _ ⟨_,rfl⟩
 have em:((L.map sdV).filter (fun _=>true)).map (Cw B)=(L.map fun s=>decide (s.1∈B)).map PV.bl:=by
  rw[Kr.mpr (fun _ _=>rfl),JS,JS];rfl
 rw[em];have s2:=(Sub.refl H1).put (o:=.lst ((L.map fun s=>decide (s.1∈B)).map PV.bl)) hacc;ac_rfl;refine⟨_,rfl,?_⟩;by_cases ex:∃s∈L,s.1∈B
 ·refine ar (by
   obtain⟨s,hs,hb⟩:=ex;simp only[List.any_map,Bool.not_eq_false'];rw[Ln];exact⟨s,hs,by simpa using hb⟩) ?_
  generalize put H1 acc (.lst ((L.map fun s=>decide (s.1∈B)).map PV.bl))=H2 at *;have s12:=s1.trans s2;subst hR;obtain⟨s,hs,hb⟩:=ex;have rs:=(iff s).mp hs;left;refine⟨c,ts,bs,A,B,G,N,dr.up s12,ok,rfl,rfl,rfl,ap.a,ap.g,an,yI ap an rs hb,fun r2 H3 road hr2 s3 er2 op hlb l5=>?_⟩;subst hR;ac_rfl;refine⟨c,ts,bs,G,N,road,dr.up (s12.trans s3),ok,rfl,ap.g,an,er2,by symm,oq op.rd.ch,fun q H4 us ws hq s4 eq l4 f4 p4 w6=>?_⟩;have s04:=(s12.trans s3).trans s4;refine⟨ah (by decide),ah (by decide),H4,Sub.refl _,hY ap false _ H4 N s04 an ⟨fun z=>(by cases z),fun z=>absurd hb (z _ _ rs)⟩⟩
 ·refine av (by
   simp only[List.any_map,Bool.not_eq_true'];rw[List.any_eq_false];intro s hs;simpa using fun hb=>ex ⟨s,hs,hb⟩) ?_
  refine⟨ah (by decide),H1,s2,hY ap true _ H1 N s1 an ⟨fun _ x p q hb=>ex ⟨(x,p),(iff (x,p)).mpr q,hb⟩,fun _=>rfl⟩⟩
theorem Gr(T:Tx K mg t):aG P w K mg base CX0 1 t.a_yp t.d_yp ["names","others"] ig:=by
 refine okU (k:=0) T.F_yp Du (fun vs H Q E h=>a8 h) (fun cdv A outer s H E B hr=>⟨_,(ak (ay (aO aL bg rfl T.b_tuple Kw (aa (cE (N2:=DQ) (nt:=1) (js:=[1]) (ck (sc:=ai xh)) (aK (qv 0)) (fun _ _ _ _=>⟨(gN 0 IU),(aZ (cW (bb hr.units) bf (qv 0) (qv 1))),(qv 0)⟩)) ae)))),?_⟩);intro vs H Q E h
 replace h:=aY h
 obtain⟨l,_,rfl,m,_,rfl,rfl,h⟩:=h;obtain⟨A,B,rfl,rfl,hl,h⟩:=h;ac_rfl;show ∀acc,H acc=none->_;intro acc hacc;refine aE (fun y=>y) (onI fun y=>!decide (y∈B)) (fun σ=>∃z,σ=[z,some (.tup (B.map PV.int))]) (by rw[Jl];exact hl) (fun _=>trivial) ?_ ?_ ⟨_,rfl⟩
 ·rintro y hy l σ R ⟨z,rfl⟩ hl kT kF;obtain⟨k,hk,rfl⟩:=Jp.mp hy;have e:onI (fun y=>!decide (y∈B)) (PV.int k)=!decide (k∈B):=rfl;rw[e]at kT kF;ac_rfl;refine⟨aI,?_⟩;simp only[aP];by_cases m:k∈B
  ·exact ar (by simp[m]) (kF (by simp[m]) _ ⟨_,rfl⟩)
  ·exact av (by simp[m]) ⟨hl,by rw[aH];exact kT (by simp[m]) _ ⟨_,rfl⟩⟩
 rw[cG];exact⟨_,ao,H,Sub.put (Sub.refl _) hacc,h⟩
theorem BM(T:Tx K mg t):aG P w K mg base CX0 1 t.a_yl t.d_yl ["names","others"] uU:=by
 refine okU (k:=0) T.F_yl EI (fun vs H Q E h=>a8 h) (fun cdv A outer s H E B hr=>⟨_,(ak (ay (aO aL bg rfl T.b_tuple Kw (aa (il rfl hr.units rfl T.b_sorted rfl T.b_set boot_set (dh (qv 0) (qv 1))) ae)))),?_⟩);intro vs H Q E h
 replace h:=aY h
 obtain⟨l,_,rfl,m,_,rfl,rfl,h⟩:=h;obtain⟨c,S,V,c6,rfl,rfl,hS,hV,h⟩:=h;have s6:=hS.len c6;have v6:=hV.len c6;ac_rfl;have ng:∀y∈S++V,0≤y/\y<6:=fun y hy=>by
  rcases Ju.mp hy with q | q
  ·have:=hS.lo y q;symm
  ·have:=hV.lo y q;symm
 have nc:∀y∈S++V,0≤y/\y<c:=fun y hy=>by
  rcases Ju.mp hy with q | q
  ·exact hS.lo y q
  ·exact hV.lo y q
 refine⟨ah (by simp only[Jr,Jl];symm),(S++V).map Int.toNat,by rw[←JB,fP ng],fun n hn=>?_,fun r ks hr up iff=>?_⟩
 ·obtain⟨z,hz,rfl⟩:=Jp.mp hn;have:=ng z hz;symm
 have ek:ks.map dA=(ks.map fun n=>((n:Nat):Int)).map PV.int:=by rw[JS];rfl
 rw[ek];refine⟨H,Sub.put (Sub.refl _) hr,h _ ⟨?_,fun x hx=>?_⟩ fun x=>?_⟩
 ·rw[KH];exact up.imp fun h=>by symm
 ·obtain⟨n,hn,rfl⟩:=Jp.mp hx;obtain⟨z,hz,e⟩:=Jp.mp ((iff n).mp hn);have:=nc z hz;symm
 ·rw[←Ju];constructor
  ·intro hx;obtain⟨n,hn,rfl⟩:=Jp.mp hx;obtain⟨z,hz,e⟩:=Jp.mp ((iff n).mp hn);have:=ng z hz;have e2:((n:Nat):Int)=z:=by symm
   rw[e2];exact hz
  ·intro hx;have:=ng x hx;exact Jp.mpr ⟨x.toNat,(iff _).mpr (Jp.mpr ⟨x,hx,rfl⟩),by symm⟩
theorem B6(T:Tx K mg t):aG P w K mg base CX0 5 t.a_zg t.d_zg ["self","names"] (vy t 2):=by
 refine okU (k:=4) T.F_zg zx (fun vs H Q E h=>a8 h) (fun cdv A outer s H E B hr=>⟨_,(af (aR (a7 (qv 0) T.cl_D T.m_ze (xJ T) hr.mo T.B_ze (aa (qv 1) ae)))
  (af (sC 2 zx.nd (N2:=Bb) (nt:=1) (js:=[1]) (ck (sc:=ai x6)) (aK (b0 (qv 0) T.cl_D T.nfD_ties rfl)) (fun _ _ _ _=>⟨(gN 0 CY),(aZ (cW (bb hr.units) bf (iX (qv 0) aq) (qv 1))),(qv 0)⟩))
  (ak (ay (kr T.mk_D (IE T) hr.mo rfl T.g_D T.B_zD (aa (b0 (qv 0) T.cl_D T.nfD_count rfl) (aa (qv 2) (aa (b0 (qv 0) T.cl_D T.nfD_bows rfl) ae)))))))),?_⟩)
 injections
 obtain⟨x,_,rfl,l,_,rfl,rfl,h⟩:=h;obtain⟨c,ts,bs,L,⟨dx,hx⟩,rfl,ok,nL,hY⟩:=h;have t15:=ok.gt.len ok.c6;have b6:=ok.b6;have ok2:=ok.filter (FT 2 L) (FB 2 L);left;refine⟨⟨_,_,hx,rfl⟩,c,ts,L,⟨_,_,hx⟩,rfl,nL,?_⟩;right;refine⟨_,_,_,hx,rfl,?_⟩;show ∀acc,H acc=none->_;intro p1 hp1;refine aE (fun y=>y) (onP (FT 2 L)) (fun σ=>∃z,σ=[z,some (.tup (L.map PV.int))]) (by rw[Jl];symm) (fun _=>trivial) ?_ ?_ ⟨_,rfl⟩
 ·ac_nf;obtain⟨p,hp,rfl⟩:=Jp.mp hy;rw[eD]at kT kF;unfold prV at *;ac_rfl;refine⟨aI,?_⟩;simp only[aP];by_cases m:p.1∈L
  ·exact ar (by simp[m]) (kF (by simp[FT,m]) _ ⟨_,rfl⟩)
  ·exact av (by simp[m]) ⟨hl,by rw[aH];exact kT (by simp[FT,m]) _ ⟨_,rfl⟩⟩
 rw[cz];subst hR;have s1:U.Sub H (put H p1 (.lst ((ts.filter (FT 2 L)).map prV))):=(Sub.refl H).put hp1;have i1:put H p1 (.lst ((ts.filter (FT 2 L)).map prV)) p1=some (.lst ((ts.filter (FT 2 L)).map prV)):=ao;generalize put H p1 (.lst ((ts.filter (FT 2 L)).map prV))=H1 at *;have hx1:=s1 _ _ hx;ac_rfl;refine⟨_,_,_,hx1,rfl,_,_,_,hx1,rfl,?_⟩;show ∀y dy,H1 y=none->H1 dy=none->dy≠y->_;intro y dy hy hdy nd;have s12:=s1;have sc:=(Sub.refl H1).put (o:=.ins t.a_D dy []) hy;refine⟨dy,_,_,_,ao,sc _ _ i1,rfl,c8,ok2.gt,ok.gb,⟨ok.c1,ok.c6,ok.b6⟩,fun T1 B1 pT sT pB sB=>?_⟩;have eT:=DM.eJ (K6 _) ok2.st pT sT;have eB:=DM.eJ (K6 _) ok.sb pB sB;subst eT;subst eB;rw[fb2]at hY;rw[aH];exact⟨rfl,_,Sub.refl _,hY y _ (s12.put (s12.free hy)) ⟨dy,ao⟩⟩
theorem w4(T:Tx K mg t):aG P w K mg base CX0 1 t.a_yr t.d_yr ["_law_drawn","_law_into","_law_out"] pE:=by
 refine okU (k:=0) T.F_yr sE (fun vs H Q E h=>a8 h) (fun cdv A outer s H E B hr=>⟨_,(af (sN 3 sE.nd (aO aL bg rfl T.b_tuple Kw (aa (cE (N2:=ES) (nt:=1) (js:=[1,2]) (ck (sc:=ai uG)) (aK (iX (qv 0) aq)) (fun _ _ _ _=>⟨(gN 0 Gs),(aZ (aX (bV (cW (bb hr.units) bf (iX (qv 0) aq) (qv 1)) (bJ (cW (bb hr.units) bf (iX (qv 0) aq) (qv 2)))))),(qv 0)⟩)) ae)))
  (af (sN 4 sE.nd (aO aL bg rfl T.b_tuple Kw (aa (cE (N2:=C7) (nt:=1) (js:=[1]) (ck (sc:=ai uG)) (aK (iX (qv 0) aq)) (fun _ _ _ _=>⟨(gN 0 Jb),(aZ (aX (bV (cW (bb hr.units) bf (iX (qv 0) aq) (qv 1)) (bJ (cW (bb hr.units) bf (iX (qv 0) aq) (qv 1)))))),(qv 0)⟩)) ae)))
  (ak (ay (aD (aa (iX (qv 0) aq) (aa (qv 3) (aa (qv 4) ae)))))))),?_⟩)
 injections
 obtain⟨l,_,rfl,m,_,rfl,n,_,rfl,rfl,h⟩:=h;obtain⟨c,ts,bs,I,O,e,rfl,rfl,ok,h⟩:=h;unfold shp at e;injection e with e;subst e;have t15:=ok.gt.len ok.c6;have b6:=ok.b6;left;show ∀acc,H acc=none->_;intro p1 hp1;refine aE (fun y=>y) (onP (CT I O)) (fun σ=>∃z,σ=[z,some (.tup (I.map PV.int)),some (.tup (O.map PV.int))]) (by rw[Jl];symm) (fun _=>trivial) ?_ ?_ ⟨_,rfl⟩
 ·ac_nf;obtain⟨p,hp,rfl⟩:=Jp.mp hy;rw[eD]at kT kF;unfold prV at *;ac_rfl;refine⟨aI,?_⟩;simp only[aP];by_cases m1:p.2∈I
  ·exact ar (by simp[m1]) (kF (by simp[CT,m1]) _ ⟨_,rfl⟩)
  ·refine av (by simp[m1]) ?_;refine⟨aI,?_⟩
   try simp only[aP]
   by_cases m2:p.1∈O
   ·exact ar (by simp[m2]) (kF (by simp[CT,m1,m2]) _ ⟨_,rfl⟩)
   ·exact av (by simp[m2]) ⟨hl,by rw[aH];exact kT (by simp[CT,m1,m2]) _ ⟨_,rfl⟩⟩
 rw[cz];refine⟨_,ao,?_⟩;have s1:U.Sub H (put H p1 (.lst ((ts.filter (CT I O)).map prV))):=(Sub.refl H).put hp1;generalize put H p1 (.lst ((ts.filter (CT I O)).map prV))=H1 at *;right;show ∀acc,H1 acc=none->_;intro p2 hp2;refine aE (fun y=>y) (onP (FB 1 I)) (fun σ=>∃z,σ=[z,some (.tup (I.map PV.int))]) (by rw[Jl];symm) (fun _=>trivial) ?_ ?_ ⟨_,rfl⟩
 ·ac_nf;obtain⟨p,hp,rfl⟩:=Jp.mp hy;rw[eD]at kT kF;unfold prV at *;ac_rfl;refine⟨aI,?_⟩;simp only[aP];by_cases m1:p.1∈I
  ·exact ar (by simp[m1]) (kF (by simp[FB,m1]) _ ⟨_,rfl⟩)
  ·refine av (by simp[m1]) ?_;refine⟨aI,?_⟩
   try simp only[aP]
   by_cases m2:p.2∈I
   ·exact ar (by simp[m2]) (kF (by simp[FB,m1,m2]) _ ⟨_,rfl⟩)
   ·exact av (by simp[m2]) ⟨hl,by rw[aH];exact kT (by simp[FB,m1,m2]) _ ⟨_,rfl⟩⟩
 rw[cz];refine⟨_,ao,?_⟩;have s2:=s1.put (o:=.lst ((bs.filter (FB 1 I)).map prV)) (s1.free hp2);generalize put H1 p2 (.lst ((bs.filter (FB 1 I)).map prV))=H2 at *;subst hR;ac_rfl;exact⟨ah (by decide),H,s2,h⟩
theorem E6(T:Tx K mg t):aG P w K mg base CX0 3 t.a_za t.d_za ["self","names"] (nW t fun p=>p):=by
 refine okU (k:=2) T.F_za uz (fun vs H Q E h=>a8 h) (fun cdv A outer s H E B hr=>⟨_,(af (aR (a7 (qv 0) T.cl_D T.m_ze (xJ T) hr.mo T.B_ze (aa (qv 1) ae)))
  (af (sN 2 uz.nd (aO bL dR rfl T.b_list boot_list (aa (qv 1) ae)))
  (af (bM JW rfl (cu rfl T.b_range (aa (b0 (qv 0) T.cl_D T.nfD_count rfl) ae)) (gN 3 uz.nd)
  (ak (aN (cW (bH hr.units) bf (qv 3) (qv 2))
   (ak (aR (cH Ke Kf fc kc (qv 2) (aa (a7 (qv 0) T.cl_D T.m_zb (wY T) hr.mo T.B_zb (aa (qv 3) ae)) ae))))
   aC)))
  (ak (ay (aO aL bg rfl T.b_tuple Kw (aa (eU rfl hr.units rfl T.b_sorted rfl T.b_set boot_set (qv 2)) ae))))))),?_⟩)
 injections
 obtain⟨x,_,rfl,l,_,rfl,rfl,h⟩:=h;obtain⟨c,ts,L,⟨dx,bs,hx⟩,rfl,hL,hc,gt,h⟩:=h;have t15:=gt.len hc.2;have l6:=hL.len hc.2;ac_rfl;refine⟨⟨_,_,hx,rfl⟩,c,ts,L,⟨_,_,hx⟩,rfl,hL,fun p hp=>?_⟩;have nxp:=aB hx hp;refine⟨_,_,_,(au nxp).trans hx,rfl,?_⟩;show(-2 ^ 62≤c/\c<2 ^ 62)/\_;refine⟨⟨by symm,by symm⟩,?_⟩;have ei:cb 0 c.toNat=(ulN c).map PV.int:=by
  unfold cb ulN;rw[JS];refine List.map_congr_left fun k _=>?_;show PV.int (0+(k:Int))=PV.int (k:Int);rw[Int.zero_add]
 rw[ei];refine cy (fun i σ H2=>∃k F,σ=[some (.ref x),some (.tup (L.map PV.int)),some (.ref p),k]/\H2=put H p (.lst (F.map PV.int))/\F=((ulN c).take i).foldl (My.bD (ts.map (fun p=>p))) L/\F.length≤6+15*i) ?_ ?_ ⟨none,L,rfl,rfl,rfl,by symm⟩
 ·rintro σ H2 ⟨k,F,rfl,rfl,hF,hlen⟩;rw[Jl,JX]at hF;refine⟨trivial,?_⟩;ac_rfl;have iff:∀y,y∈F↔My.Reach (ts.map (fun p=>p)) L y:=fun y=>by rw[hF];exact AB gt y
  have lo:∀y∈F,0≤y/\y<c:=fun y hy=>mV (fun a b e=>mf gt false a b e) hL.lo ((iff y).mp hy);refine⟨F.map Int.toNat,by rw[fP fun y hy=>(by have:=lo y hy;symm)],fun n hn=>?_,fun r ms hr hs hm=>?_⟩
  ·obtain⟨z,hz,rfl⟩:=Jp.mp hn;have:=lo z hz;symm
  ·obtain⟨q1,q2⟩:=ja hc.2 lo iff hs hm
   try ac_rfl
   refine⟨H,((Sub.refl H).put hp).put (((Sub.refl H).put hp).free hr),?_⟩;have:=h _ q1 q2;rw[JS]at this;exact this
 ·rintro G i y σ H2 hy ⟨k,F,rfl,rfl,hF,hlen⟩ kk;refine⟨trivial,?_⟩;rw[JI]at hy;cases hn:(ulN c)[i]? with
  | none=>rw[hn]at hy;cases hy
  | some n =>
   rw[hn]at hy;cases hy;have hnm:=cB.mp (JH hn);have hil:i<(ulN c).length:=(JE.mp hn).1;have hi6:i<6:=by unfold ulN at hil;rw[Jl,KW]at hil;symm
   have hnx:((ulN c).take (i+1)).foldl (My.bD (ts.map (fun p=>p))) L=My.bD (ts.map (fun p=>p)) F n:=by rw[gx hn,← hF]
   have hpl:=jl (E:=ts.map (fun p=>p)) (f:=F) (n:=n);rw[Jl]at hpl;ac_rfl;refine⟨aI,?_⟩;rw[aP];refine p8 (fun hm=>?_) (fun hm=>?_)
   ·have e:My.bD (ts.map (fun p=>p)) F n=F++(ts.filter (fun p=>decide (p.1=n))).map (·.2):=by
     unfold My.bD;rw[JL hm,wa]
    rw[e]at hnx hpl;refine⟨⟨_,rfl⟩,⟨_,_,(au nxp).trans hx,rfl⟩,_,_,_,_,(au nxp).trans hx,hnm,t15,?_⟩
    try ac_rfl
    rw[Jr]at hpl;unfold fol;refine⟨ah (by rw[Jl,Jl];symm),kk _ _ ⟨_,F++(ts.filter (fun p=>decide (p.1=n))).map (·.2),rfl,?_,hnx.symm,?_⟩⟩
    ·rw[aH,JB]
    ·rw[Jr];symm
   ·have e:My.bD (ts.map (fun p=>p)) F n=F:=by
     unfold My.bD;rw[JK hm]
    rw[e]at hnx;exact kk _ _ ⟨_,F,rfl,rfl,hnx.symm,by symm⟩
theorem Fg(T:Tx K mg t):aG P w K mg base CX0 1 t.a_yd t.d_yd ["_law_drawn","_law_names"] md:=by
 refine okU (k:=0) T.F_yd qe (fun vs H Q E h=>a8 h) (fun cdv A outer s H E B hr=>⟨_,(af (sN 2 qe.nd (aO bL dR rfl T.b_list boot_list (aa (qv 1) ae)))
  (af (bM JW rfl (aK (iX (qv 0) aq)) (dj (n:=2) rfl (aT (gN 3 qe.nd) (aT (gN 4 qe.nd) cg)))
  (ak (aN (aX (bV (cW (bH hr.units) bf (qv 3) (qv 2)) (bJ (cW (bb hr.units) bf (qv 4) (qv 2)))))
   (ak (aR (cH Kx Ky bU b9 (qv 2) (aa (qv 4) ae))))
   aC)))
  (ak (ay (qv 2))))),?_⟩)
 injections
 obtain⟨l,_,rfl,m,_,rfl,rfl,h⟩:=h;obtain⟨c,ts,bs,G,e,rfl,ok,hG,h⟩:=h;unfold shp at e;injection e with e;subst e;have t15:=ok.gt.len ok.c6;have g6:=hG.len ok.c6;left;intro f hf;have s1:=(Sub.refl H).put (o:=.lst (G.map PV.int)) hf;have e1:put H f (.lst (G.map PV.int)) f=some (.lst (G.map PV.int)):=ao;generalize put H f (.lst (G.map PV.int))=H1 at *;right;refine cy (fun i σ H2=>∃z1 z2 F,σ=[some (.tup [.int c,.tup (ts.map prV),.tup (bs.map prV)]),some (.tup (G.map PV.int)),some (.ref f),z1,z2]/\U.Sub H H2/\H2 f=some (.lst (F.map PV.int))/\F=((ts.take i).map swp).foldl bA G/\F.length≤6+i) ?_ ?_ ⟨none,none,G,rfl,s1,e1,rfl,by symm⟩
 ·rintro σ H2 ⟨z1,z2,F,rfl,s2,e2,hF,lF⟩;refine⟨trivial,?_⟩;rw[Jl,JX]at hF;subst hR;ac_rfl;rw[Jl]at lF;exact⟨H2,Sub.refl _,h f H2 F hf s2 e2 (fun x=>by rw[hF];exact Bg ok x) (by symm)⟩
 ·rintro N i y σ H2 hy ⟨z1,z2,F,rfl,s2,e2,hF,lF⟩ kk;refine⟨trivial,?_⟩;rw[JI]at hy;obtain⟨p,hp,rfl⟩:=J4.mp hy;have hi:i<ts.length:=(JE.mp hp).1;have hnx:((ts.take (i+1)).map swp).foldl bA G=bA F (swp p):=by rw[Ly,hp,JB,List.foldl_append,← hF];rfl
  unfold bA swp at hnx;simp only at hnx;have stay:¬(p.1∈F/\p.2∉F)->N [some (.tup [.int c,.tup (ts.map prV),.tup (bs.map prV)]),some (.tup (G.map PV.int)),some (.ref f),some (.int p.1),some (.int p.2)] H2:=fun hn=>by
   rw[JK hn]at hnx;exact kk _ _ ⟨_,_,F,rfl,s2,e2,hnx.symm,by symm⟩
  unfold prV;ac_rfl;refine⟨_,e2,aI,?_⟩;rw[aP];by_cases m1:p.1∈F
  ·refine av (by simp[m1]) ⟨_,e2,aI,?_⟩;rw[aP];by_cases m2:p.2∈F
   ·exact ar (by simp[m2]) (stay fun h=>h.2 m2)
   ·refine av (by simp[m2]) ⟨⟨_,e2⟩,_,e2,bC (by rw[Jl];symm),?_⟩;rw[JL ⟨m1,m2⟩]at hnx;refine kk _ _ ⟨_,_,F++[p.2],rfl,s2.put hf,by rw[ao,JB];rfl,hnx.symm,by rw[Jr,JZ];symm⟩
  ·exact ar (by simp[m1]) (stay fun h=>m1 h.1)
theorem Ih(T:Tx K mg t):aG P w K mg base CX0 5 t.a_zx t.d_zx ["self","names"] (oO t):=by
 refine okU (k:=4) T.F_zx uL (fun vs H Q E h=>a8 h) (fun cdv A outer s H E B hr=>⟨_,(af (aR (a7 (qv 0) T.cl_D T.m_ze (xJ T) hr.mo T.B_ze (aa (qv 1) ae)))
  (af (sC 2 uL.nd (N2:=Bb) (nt:=1) (js:=[1]) (ck (sc:=ai ui)) (aK (b0 (qv 0) T.cl_D T.nfD_ties rfl)) (fun _ _ _ _=>⟨(gN 0 CY),(aZ (aX (bV (cW (bH hr.units) bf (iX (qv 0) aq) (qv 1)) (bJ (cW (bH hr.units) bf (iX (qv 0) aq) (qv 1)))))),(qv 0)⟩))
  (af (sC 3 uL.nd (N2:=Fs) (nt:=1) (js:=[1]) (ck (sc:=ai ui)) (aK (b0 (qv 0) T.cl_D T.nfD_bows rfl)) (fun _ _ _ _=>⟨(gN 0 FK),(aZ (aX (bV (cW (bH hr.units) bf (iX (qv 0) aq) (qv 1)) (bJ (cW (bH hr.units) bf (iX (qv 0) aq) (qv 1)))))),(qv 0)⟩))
  (ak (ay (kr T.mk_D (EL T) hr.mo rfl T.g_D T.B_zD (aa (b0 (qv 0) T.cl_D T.nfD_count rfl) (aa (qv 2) (aa (qv 3) ae))))))))),?_⟩)
 injections
 obtain⟨x,_,rfl,l,_,rfl,rfl,h⟩:=h;obtain⟨c,ts,bs,L,⟨dx,hx⟩,rfl,ok,hL,h⟩:=h;have t15:=ok.gt.len ok.c6;have b6:=ok.b6;have ok2:=ok.filter (FT 0 L) (FB 0 L);left;refine⟨⟨_,_,hx,rfl⟩,c,ts,L,⟨_,_,hx⟩,rfl,hL,?_⟩;right;refine⟨_,_,_,hx,rfl,?_⟩;show ∀acc,H acc=none->_;intro p1 hp1;refine aE (fun y=>y) (onP (FT 0 L)) (fun σ=>∃z,σ=[z,some (.tup (L.map PV.int))]) (by rw[Jl];symm) (fun _=>trivial) ?_ ?_ ⟨_,rfl⟩
 ·ac_nf;obtain⟨p,hp,rfl⟩:=Jp.mp hy;rw[eD]at kT kF;unfold prV at *;ac_rfl;refine⟨aI,?_⟩;simp only[aP];by_cases m1:p.1∈L
  ·refine av (by simp[m1]) ⟨aI,?_⟩;by_cases m2:p.2∈L
   ·exact av (by simp[m2]) ⟨hl,by rw[aH];exact kT (by simp[FT,m1,m2]) _ ⟨_,rfl⟩⟩
   ·exact ar (by simp[m2]) (kF (by simp[FT,m1,m2]) _ ⟨_,rfl⟩)
  ·exact ar (by simp[m1]) (kF (by simp[FT,m1]) _ ⟨_,rfl⟩)
 rw[cz];subst hR;have s1:U.Sub H (put H p1 (.lst ((ts.filter (FT 0 L)).map prV))):=(Sub.refl H).put hp1;have i1:put H p1 (.lst ((ts.filter (FT 0 L)).map prV)) p1=some (.lst ((ts.filter (FT 0 L)).map prV)):=ao;generalize put H p1 (.lst ((ts.filter (FT 0 L)).map prV))=H1 at *;have hx1:=s1 _ _ hx;left;refine⟨_,_,_,hx1,rfl,?_⟩;show ∀acc,H1 acc=none->_;intro p2 hp2;refine aE (fun y=>y) (onP (FB 0 L)) (fun σ=>∃z,σ=[z,some (.tup (L.map PV.int))]) (by rw[Jl];symm) (fun _=>trivial) ?_ ?_ ⟨_,rfl⟩
 ·ac_nf;obtain⟨p,hp,rfl⟩:=Jp.mp hy;rw[eD]at kT kF;unfold prV at *;ac_rfl;refine⟨aI,?_⟩;simp only[aP];by_cases m1:p.1∈L
  ·refine av (by simp[m1]) ⟨aI,?_⟩;by_cases m2:p.2∈L
   ·exact av (by simp[m2]) ⟨hl,by rw[aH];exact kT (by simp[FB,m1,m2]) _ ⟨_,rfl⟩⟩
   ·exact ar (by simp[m2]) (kF (by simp[FB,m1,m2]) _ ⟨_,rfl⟩)
  ·exact ar (by simp[m1]) (kF (by simp[FB,m1]) _ ⟨_,rfl⟩)
 rw[cz];subst hR;have s2:U.Sub H1 (put H1 p2 (.lst ((bs.filter (FB 0 L)).map prV))):=(Sub.refl H1).put hp2;have i2:put H1 p2 (.lst ((bs.filter (FB 0 L)).map prV)) p2=some (.lst ((bs.filter (FB 0 L)).map prV)):=ao;generalize put H1 p2 (.lst ((bs.filter (FB 0 L)).map prV))=H2 at *;have hx2:=s2 _ _ hx1;have j1:=s2 _ _ i1;have s12:=s1.trans s2;ac_rfl;refine⟨_,_,_,hx2,rfl,?_⟩;show ∀y dy,H2 y=none->H2 dy=none->dy≠y->_;intro y dy hy hdy nd;have sc:=(Sub.refl H2).put (o:=.ins t.a_D dy []) hy;refine⟨dy,_,_,_,_,ao,sc _ _ j1,sc _ _ i2,c8,c8,ok2.gt,ok2.gb,⟨ok.c1,ok.c6,ok2.b6⟩,fun T1 B1 pT sT pB sB=>?_⟩;have eT:=DM.eJ (K6 _) ok2.st pT sT;have eB:=DM.eJ (K6 _) ok2.sb pB sB;subst eT;subst eB;rw[aH];exact⟨rfl,_,Sub.refl _,h y _ (s12.put (s12.free hy)) ⟨dy,ao⟩⟩
theorem IW(T:Tx K mg t):aG P w K mg base CX0 1 t.a_zK t.d_zK ["count"] pN:=by
 refine okU (k:=0) T.F_zK CI (fun vs H Q E h=>a8 h) (fun cdv A outer s H E B hr=>⟨_,(ak (ay (yW rfl rfl T.b_tuple rfl T.b_range Kw (qv 0)))),?_⟩);intro vs H Q E h
 replace h:=aY h
 obtain⟨c,_,rfl,rfl,h⟩:=h
 try dsimp only at h
 obtain⟨⟨h0,h1⟩,h⟩:=h;ac_rfl;rw[AZ];exact⟨h0,h1,H,Sub.refl _,h⟩
theorem Dc(T:Tx K mg t):aG P w K mg base CX0 1 t.a_zI t.d_zI ["names","formula"] qm:=by
 refine okU (k:=0) T.F_zI El (fun vs H Q E h=>a8 h) (fun cdv A outer s H E B hr=>⟨_,(ak (ay (vo (cN dG dC (az ax aW rfl T.b_len JJ (aa (qv 0) ae)) aq) (aD (aa aJ (aa (qv 0) (aa (qv 1) ae)))) (qv 1)))),?_⟩);intro vs H Q E h
 replace h:=aY h
 obtain⟨l,_,rfl,f,_,rfl,rfl,h⟩:=h;obtain⟨N,rfl,h⟩:=h;ac_rfl;rw[Jl];unfold sumF at h;by_cases e:N=[]
 ·subst e;exact ar (by simp) ⟨H,Sub.refl _,h⟩
 ·rw[JK e]at h;exact av (by have:=List.length_pos_iff.mpr e;simp;symm) ⟨ah (by decide),H,Sub.refl _,h⟩
theorem BW(T:Tx K mg t):aG P w K mg base CX0 2 t.a_zJ t.d_zJ ["names","given"] lR:=by
 refine okU (k:=1) T.F_zJ Ft (fun vs H Q E h=>a8 h) (fun cdv A outer s H E B hr=>⟨_,(ak (ay (aD (aa aJ (aa (aD (aa aJ (aa (aA (BM T) hr.mo rfl T.g_yl T.F_yl.kp T.B_yl (aa (qv 0) (aa (qv 1) ae))) ae))) (aa (aD (aa aJ (aa (qv 1) ae))) ae)))))),?_⟩);intro vs H Q E h
 replace h:=aY h
 obtain⟨l,_,rfl,m,_,rfl,rfl,h⟩:=h;obtain⟨c,S,V,c6,rfl,rfl,hS,hV,h⟩:=h;ac_rfl;exact⟨c,S,V,c6,rfl,rfl,hS,hV,fun G hG iff=>⟨ah (by decide),ah (by decide),ah (by decide),H,Sub.refl _,h G hG iff⟩⟩
theorem HZ(T:Tx K mg t):aG P w K mg base CX0 6 t.a_zf t.d_zf ["drawing","one","other","door"] (m7 t):=by
 refine okU (k:=5) T.F_zf uq (fun vs H Q E h=>a8 h) (fun cdv A outer s H E B hr=>⟨_,(af (sN 4 uq.nd (aA (Gr T) hr.mo rfl T.g_yp T.F_yp.kp T.B_yp (aa (aA (IW T) hr.mo rfl T.g_zK T.F_zK.kp T.B_zK (aa (b0 (qv 0) T.cl_D T.nfD_count rfl) ae)) (aa (qv 3) ae))))
  (af (sN 5 uq.nd (a7 (a7 (qv 0) T.cl_D T.m_zx (Ih T) hr.mo T.B_zx (aa (qv 4) ae)) T.cl_D T.m_za (E6 T) hr.mo T.B_za (aa (qv 1) ae)))
  (ak (ay (n9 (az (iC rfl) nB rfl T.b_any boot_any (aa (cE (N2:=AG) (nt:=1) (js:=[5]) (ck (sc:=ai yR)) (aK (qv 2)) (fun _ _ _ _=>⟨(gN 0 Fv),bx,(b8 (bH hr.units) bf (qv 0) (qv 1) (by with_unfolding_all rfl))⟩)) ae))))))),?_⟩)
 injections
 obtain⟨x,_,rfl,l,_,rfl,m,_,rfl,n,_,rfl,rfl,h⟩:=h;obtain⟨c,ts,bs,A,B,G,⟨dx,hx⟩,ok,rfl,rfl,rfl,hA,hB,hG,h⟩:=h;have c1:=ok.c1;have c6:=ok.c6;have lB:=hB.len c6;left;refine⟨_,_,_,hx,rfl,⟨by symm,by symm⟩,ulN c,G,rfl,rfl,by unfold ulN;rw[Jl,KW];symm,?_⟩;have en:(ulN c).filter (fun y=>!decide (y∈G))=nin c G:=rfl;rw[en];right;refine⟨⟨_,_,hx,rfl⟩,c,ts,bs,nin c G,⟨dx,hx⟩,rfl,ok,xK,fun y H1 s1 dry=>?_⟩;obtain⟨dy,hy⟩:=dry;have ok2:=ok.filter (FT 0 (nin c G)) (FB 0 (nin c G));refine⟨⟨_,_,hy,rfl⟩,c,_,A,⟨_,_,hy⟩,rfl,hA,⟨c1,c6⟩,ok2.gt,fun M up iff=>?_⟩;have iff:∀y,y∈M↔My.Reach (ts.filter (FT 0 (nin c G))) A y:=fun y=>by
  have z:=iff y
  rwa [List.map_id'' (fun _=>rfl)]at z
 subst hR;ac_rfl;show ∀acc,H1 acc=none->_;intro p hp;refine aE (onB M) (fun _=>true) (fun σ=>∃z,σ=[z,some (.tup (M.map PV.int))]) (by rw[Jl];symm) (fun _=>trivial) ?_ ?_ ⟨_,rfl⟩
 ·rintro y hy l σ R ⟨z,rfl⟩ hl kT kF;obtain⟨k,hk,rfl⟩:=Jp.mp hy;ac_rfl;refine⟨aI,?_⟩;simp only[aP];exact⟨hl,by rw[aH];exact kT rfl _ ⟨_,rfl⟩⟩
 rw[m6];refine⟨_,ao.trans rfl,H,s1.put (s1.free hp),h _ ?_⟩;rw[Bool.not_eq_true',← Bool.not_eq_true,og];exact⟨fun z y hy r=>z ⟨y,hy,(iff y).mpr r⟩,fun z y_=>by obtain⟨y,hy,hm⟩:=y_;exact z y hy ((iff y).mp hm)⟩
theorem ID(T:Tx K mg t):aG P w K mg base (CXU P w) 8 t.a_zE t.d_zE ["drawing","one","other","door"] (mq t):=by
 refine okX (k:=7) T.F_zE zl (fun vs H Q E h=>a8 h) (fun cdv A outer s H0 E0 vs H Q E hr hE h=>⟨_,(af (aR (bT rfl bh hE (wx T) hr.mo rfl T.g_zA T.F_zA.kp T.B_zA (aa (qv 0) (aa (qv 1) (aa (qv 2) (aa (qv 3) ae))))))
  (af (sN 4 zl.nd (a7 (qv 0) T.cl_D T.m_za (E6 T) hr.mo T.B_za (aa (qv 1) ae)))
  (af (aN (br (az (iC rfl) nB rfl T.b_any boot_any (aa (cE (N2:=AG) (nt:=1) (js:=[4]) (ck (sc:=ai yo)) (aK (qv 3)) (fun _ _ _ _=>⟨(gN 0 Fv),bx,(b8 (bH hr.units) bf (qv 0) (qv 1) (by with_unfolding_all rfl))⟩)) ae)))
  (ak (ay bI))
  aC)
  (ak (ay (iX (bT rfl bh hE (Bu T) hr.mo rfl T.g_ys T.F_ys.kp T.B_ys (aa (a7 (qv 0) T.cl_D T.m_zg (B6 T) hr.mo T.B_zg (aa (qv 1) ae)) (aa (qv 1) (aa (qv 2) (aa (qv 3) ae))))) aq)))))),?_⟩)
 replace h:=aY h
 obtain⟨x,_,rfl,l,_,rfl,m,_,rfl,n,_,rfl,rfl,h⟩:=h;obtain⟨c,ts,bs,A,B,G,⟨dx,hx⟩,ok,rfl,rfl,rfl,hY,hN⟩:=h;have c1:=ok.c1;have c6:=ok.c6;left;refine⟨c,ts,bs,A,B,G,⟨dx,hx⟩,c6,rfl,rfl,rfl,fun ap=>?_,hN⟩;have hY:=hY ap;have lG:=ap.g.len c6;have ok2:=ok.filter (FT 2 A) (FB 2 A);right;refine⟨⟨_,_,hx,rfl⟩,c,_,A,⟨_,_,hx⟩,rfl,ap.a,⟨c1,c6⟩,ok.gt,fun M up iff=>?_⟩;have iff:∀y,y∈M↔My.Reach ts A y:=fun y=>by
  have z:=iff y
  rwa [List.map_id'' (fun _=>rfl)]at z
 right;show ∀acc,H acc=none->_;intro p hp;refine aE (onB M) (fun _=>true) (fun σ=>∃z,σ=[z,some (.tup (M.map PV.int))]) (by rw[Jl];symm) (fun _=>trivial) ?_ ?_ ⟨_,rfl⟩
 ·rintro y hy l σ R ⟨z,rfl⟩ hl kT kF;obtain⟨k,hk,rfl⟩:=Jp.mp hy;ac_rfl;refine⟨aI,?_⟩;simp only[aP];exact⟨hl,by rw[aH];exact kT rfl _ ⟨_,rfl⟩⟩
 rw[m6];refine⟨_,ao.trans rfl,?_⟩;have s1:=(Sub.refl H).put (o:=.lst ((G.map fun x=>decide (x∈M)).map PV.bl)) hp;have hx1:=s1 _ _ hx;generalize put H p (.lst ((G.map fun x=>decide (x∈M)).map PV.bl))=H1 at *;refine aV (fun q=>?_) (fun q=>?_)
 ·obtain⟨y,hy,hm⟩:=og.mp q;exact⟨H,s1,hY false ⟨fun z=>(by cases z),fun z=>absurd ((iff y).mp hm) (z.1 y hy)⟩⟩
 ·have nq:∀y∈G,¬My.Reach ts A y:=fun y hy r=>by
   rw[og.mpr ⟨y,hy,(iff y).mpr r⟩]at q;cases q
  subst hR;ac_rfl;refine⟨⟨_,_,hx1,rfl⟩,c,ts,bs,A,⟨dx,hx1⟩,rfl,ok,ap.a,fun y H3 s3 dry=>⟨c,_,_,A,B,G,dry,ok2,rfl,rfl,rfl,fun _ b v H4 N s4 an fr=>?_,fun n3=>absurd ap.n3 n3,fun _ na=>absurd ap na⟩⟩;exact⟨H,(s1.trans s3).trans s4,hY b (fr.trans ⟨fun z=>⟨nq,fun N' an'=>by rw[an'.one an];exact z⟩,fun z=>z.2 N an⟩)⟩
theorem Gd(T:Tx K mg t):aG P w K mg base (CXU P w) 8 t.a_zm t.d_zm ["drawing","one","other","door"] (jF t):=by
 refine okX (k:=7) T.F_zm DE (fun vs H Q E h=>a8 h) (fun cdv A outer s H0 E0 vs H Q E hr hE h=>⟨_,(af (aR (bT rfl bh hE (wx T) hr.mo rfl T.g_zA T.F_zA.kp T.B_zA (aa (qv 0) (aa (qv 1) (aa (qv 2) (aa (qv 3) ae))))))
  (af (aN (b4 (br (aA (HZ T) hr.mo rfl T.g_zf T.F_zf.kp T.B_zf (aa (qv 0) (aa (qv 1) (aa (qv 2) (aa (qv 3) ae)))))))
  (ak (ay bI))
  aC)
  (af (aN (cN (aU hr.units) bw (az ax aW rfl T.b_len JJ (aa (qv 3) ae)) aq)
  (ak (ay bI))
  aC)
  (ak (ay (dU (iX (bT rfl bh hE (Bu T) hr.mo rfl T.g_ys T.F_ys.kp T.B_ys (aa (a7 (qv 0) T.cl_D T.m_zg (B6 T) hr.mo T.B_zg (aa (qv 1) ae)) (aa (qv 1) (aa (qv 3) (aa (aD ae) ae))))) aq) (d7 (iX (bT rfl bh hE (Bu T) hr.mo rfl T.g_ys T.F_ys.kp T.B_ys (aa (a7 (qv 0) T.cl_D T.m_zg (B6 T) hr.mo T.B_zg (aa (qv 3) ae)) (aa (qv 3) (aa (qv 2) (aa (qv 1) ae))))) aq)))))))),?_⟩)
 replace h:=aY h
 obtain⟨x,_,rfl,l,_,rfl,m,_,rfl,n,_,rfl,rfl,h⟩:=h;obtain⟨c,ts,bs,A,B,G,⟨dx,hx⟩,ok,rfl,rfl,rfl,hY,hN⟩:=h;have c6:=ok.c6;left;refine⟨c,ts,bs,A,B,G,⟨dx,hx⟩,c6,rfl,rfl,rfl,fun ap=>?_,hN⟩;have hY:=hY ap;right;refine⟨c,ts,bs,A,B,G,⟨dx,hx⟩,ok,rfl,rfl,rfl,ap.a,ap.b,ap.g,fun b1 e1=>?_⟩;refine aV (fun q=>⟨H,Sub.refl _,hY false ⟨fun z=>(by cases z),fun z=>by rw[e1.mpr z.1]at q;cases q⟩⟩) (fun q=>?_);have f1:=e1.mp (by simpa using q);right;rw[Jl];by_cases ne:G=[]
 ·exact av (by rw[ne];rfl) ⟨H,Sub.refl _,hY true ⟨fun _=>⟨f1,.inl ne⟩,fun _=>rfl⟩⟩
 refine ar (by simpa using ne) ?_;have ap1:=ap.one ne;have ap2:=ap.two ne;subst hR;ac_rfl;refine⟨⟨_,_,hx,rfl⟩,c,ts,bs,A,⟨dx,hx⟩,rfl,ok,ap.a,fun y H3 s3 dry=>⟨ah (by decide),c,_,_,A,G,[],dry,ok.filter (FT 2 A) (FB 2 A),rfl,rfl,rfl,fun _ b v H4 N s4 an fr=>?_,fun n3=>absurd ap1.n3 n3,fun _ na=>absurd ap1 na⟩⟩;have s34:=s3.trans s4;have hx4:=s34 _ _ hx;have fr:b=true↔qU ts bs A A G []:=fr.trans ⟨fun z N' an'=>by rw[an'.one an];exact z,fun z=>z N an⟩;refine aV (fun q2=>?_) (fun q2=>⟨H,s34,hY false ⟨fun z=>(by cases z),fun z=>?_⟩⟩)
 ·refine⟨⟨_,_,hx4,rfl⟩,c,ts,bs,G,⟨dx,hx4⟩,rfl,ok,ap.g,fun y2 H5 s5 dry2=>⟨c,_,_,G,B,A,dry2,ok.filter (FT 2 G) (FB 2 G),rfl,rfl,rfl,fun _ b2 v2 H6 N2 s6 an2 fr2=>?_,fun n3=>absurd ap2.n3 n3,fun _ na=>absurd ap2 na⟩⟩;have fr2:b2=true↔qU ts bs G G B A:=fr2.trans ⟨fun z N' an'=>by rw[an'.one an2];exact z,fun z=>z N2 an2⟩;exact⟨H,(s34.trans s5).trans s6,hY b2 (fr2.trans ⟨fun z=>⟨f1,.inr ⟨fr.mp q2,z⟩⟩,fun z=>z.2.elim (fun q=>absurd q ne) (fun q=>q.2)⟩)⟩
 ·rcases z.2 with q3 | q3
  ·exact absurd q3 ne
  ·rw[fr.mpr q3.1]at q2;cases q2
theorem HI(T:Tx K mg t):aG P w K mg base (CXU P w) 10 t.a_zv t.d_zv ["drawing","one","other","door"] (uk t):=by
 refine okX (k:=9) T.F_zv CL (fun vs H Q E h=>a8 h) (fun cdv A outer s H0 E0 vs H Q E hr hE h=>⟨_,(af (aN (b4 (br (bT rfl bh hE (ID T) hr.mo rfl T.g_zE T.F_zE.kp T.B_zE (aa (qv 0) (aa (qv 1) (aa (qv 2) (aa (qv 3) ae)))))))
  (ak (dB rfl bh hE rfl T.x_H rfl T.g_H))
  aC)
  (ak (ay (aA (Dc T) hr.mo rfl T.g_zI T.F_zI.kp T.B_zI (aa (qv 3) (aa (aD (aa aJ (aa (aA (BW T) hr.mo rfl T.g_zJ T.F_zJ.kp T.B_zJ (aa (qv 2) (aa (aA (BM T) hr.mo rfl T.g_yl T.F_yl.kp T.B_yl (aa (qv 1) (aa (qv 3) ae))) ae))) (aa (aD (aa aJ (aa (qv 3) ae))) ae)))) ae)))))),?_⟩)
 replace h:=aY h
 obtain⟨x,_,rfl,l,_,rfl,m,_,rfl,n,_,rfl,rfl,h⟩:=h;obtain⟨c,ts,bs,A,B,G,dr,ok,rfl,rfl,rfl,hY,hN,hD⟩:=h;have c6:=ok.c6;left;refine⟨c,ts,bs,A,B,G,dr,ok,rfl,rfl,rfl,fun ap b hb=>?_,hN⟩;refine aV (fun q=>hD ap (fun z=>by rw[hb.mpr z]at q;cases q) _ (Sub.refl _)) (fun q=>?_);have fd:=hb.mp (by simpa using q);subst hR;ac_rfl;exact⟨c,A,G,c6,rfl,rfl,ap.a,ap.g,fun J hJ iJ=>⟨c,B,J,c6,rfl,rfl,ap.b,hJ,fun W hW iW=>⟨ah (by decide),ah (by decide),G,rfl,H,Sub.refl _,hY ap fd J W ⟨hJ,iJ⟩ ⟨hW,iW⟩⟩⟩⟩
theorem Gj(T:Tx K mg t):aG P w K mg base (CXU P w) 10 t.a_zr t.d_zr ["drawing","one","other","door"] (uR t):=by
 refine okX (k:=9) T.F_zr zj (fun vs H Q E h=>a8 h) (fun cdv A outer s H0 E0 vs H Q E hr hE h=>⟨_,(af (aR (bT rfl bh hE (wx T) hr.mo rfl T.g_zA T.F_zA.kp T.B_zA (aa (qv 0) (aa (qv 1) (aa (qv 2) (aa (qv 3) ae))))))
  (af (aN (cN dG dC (az ax aW rfl T.b_len JJ (aa (qv 1) ae)) aq)
  (ak (dB rfl bh hE rfl T.x_P rfl T.g_P))
  aC)
  (af (aN (b4 (br (bT rfl bh hE (Gd T) hr.mo rfl T.g_zm T.F_zm.kp T.B_zm (aa (qv 0) (aa (qv 1) (aa (qv 2) (aa (qv 3) ae)))))))
  (ak (dB rfl bh hE rfl T.x_H rfl T.g_H))
  aC)
  (af (sN 4 zj.nd (aD (aa aJ (aa (qv 1) (aa (aD (aa aJ (aa (aA (BW T) hr.mo rfl T.g_zJ T.F_zJ.kp T.B_zJ (aa (qv 2) (aa (aA (BM T) hr.mo rfl T.g_yl T.F_yl.kp T.B_yl (aa (qv 1) (aa (qv 3) ae))) ae))) (aa (aD (aa aJ (aa (qv 1) ae))) ae)))) ae)))))
  (ak (ay (aA (Dc T) hr.mo rfl T.g_zI T.F_zI.kp T.B_zI (aa (qv 3) (aa (aD (aa aJ (aa (aA (BW T) hr.mo rfl T.g_zJ T.F_zJ.kp T.B_zJ (aa (qv 3) (aa (qv 1) ae))) (aa (qv 4) ae)))) ae))))))))),?_⟩)
 replace h:=aY h
 obtain⟨x,_,rfl,l,_,rfl,m,_,rfl,n,_,rfl,rfl,h⟩:=h;obtain⟨c,ts,bs,A,B,G,dr,ok,rfl,rfl,rfl,hY,hN,hS,hD⟩:=h;have c6:=ok.c6;left;refine⟨c,ts,bs,A,B,G,dr,c6,rfl,rfl,rfl,fun ap=>?_,hN⟩;right;rw[Jl];by_cases l1:¬A.length≤1
 ·exact av (J2 (by symm)) (hS ap l1 _ (Sub.refl _))
 have l1:=LA.mp l1;refine ar (KG (by symm)) ?_;right;refine⟨c,ts,bs,A,B,G,dr,ok,rfl,rfl,rfl,fun _ b hb=>?_,fun n3=>absurd ap.n3 n3,fun _ na=>absurd ap na⟩;refine aV (fun q=>hD ap l1 (fun z=>by rw[hb.mpr z]at q;cases q) _ (Sub.refl _)) (fun q=>?_);have fd:=hb.mp (by simpa using q);right;refine⟨c,A,G,c6,rfl,rfl,ap.a,ap.g,fun J hJ iJ=>⟨c,B,J,c6,rfl,rfl,ap.b,hJ,fun W hW iW=>⟨ah (by decide),ah (by decide),ah (by decide),?_⟩⟩⟩;subst hR;ac_rfl;refine⟨c,G,A,c6,rfl,rfl,ap.g,ap.a,fun V hV iV=>?_⟩;have e:=(Jn.sw ⟨hV,iV⟩).one ⟨hJ,iJ⟩;subst e;exact⟨ah (by decide),G,rfl,H,Sub.refl _,hY ap l1 fd V W ⟨hJ,iJ⟩ ⟨hW,iW⟩⟩
theorem FV(T:Tx K mg t):aG P w K mg base CX0 8 t.a_yf t.d_yf ["_law_drawn","_law_one","_law_other","_law_door"] mG:=by
 refine okU (k:=7) T.F_yf zv (fun vs H Q E h=>a8 h) (fun cdv A outer s H E B hr=>⟨_,(af (sN 4 zv.nd (aA (Fg T) hr.mo rfl T.g_yd T.F_yd.kp T.B_yd (aa (qv 0) (aa (qv 1) ae))))
  (af (aN (cN dG dC (az ax aW rfl T.b_len JJ (aa (cE (N2:=EE) (nt:=1) (js:=[4]) (ck (sc:=ai xr)) (aK (qv 3)) (fun _ _ _ _=>⟨(gN 0 F4),(aZ (cW (bH hr.units) bf (qv 0) (qv 1))),(qv 0)⟩)) ae)) aq)
  (ak (ay bI))
  aC)
  (ak (ay (aA (BL T) hr.mo rfl T.g_yg T.F_yg.kp T.B_yg (aa (aA (w4 T) hr.mo rfl T.g_yr T.F_yr.kp T.B_yr (aa (qv 0) (aa (aD ae) (aa (qv 1) ae)))) (aa (qv 1) (aa (qv 2) (aa (qv 3) ae))))))))),?_⟩)
 injections
 obtain⟨l,_,rfl,m,_,rfl,k,_,rfl,n,_,rfl,rfl,h⟩:=h;obtain⟨c,ts,bs,A,B,G,e,rfl,rfl,rfl,ok,ap,h⟩:=h;have g6:=ap.g.len ok.c6;left;refine⟨c,ts,bs,A,e,rfl,ok,ap.a,fun r H1 F hr s1 er iff lF=>?_⟩;right;show ∀acc,H1 acc=none->_;intro p hp;refine aE (fun y=>y) (onI fun y=>decide (y∈F)) (fun σ=>∃z,σ=[z,some (.ref r)]) (by rw[Jl];symm) (fun _=>trivial) ?_ ?_ ⟨_,rfl⟩
 ·ac_nf;obtain⟨k,hk,rfl⟩:=Jp.mp hy;have e:onI (fun y=>decide (y∈F)) (PV.int k)=decide (k∈F):=rfl;rw[e]at kT kF;ac_rfl;refine⟨_,(au (aB er hp)).trans er,aI,?_⟩;rw[aP];by_cases m:k∈F
  ·exact av (by simp[m]) ⟨hl,by rw[aH];exact kT (by simp[m]) _ ⟨_,rfl⟩⟩
  ·exact ar (by simp[m]) (kF (by simp[m]) _ ⟨_,rfl⟩)
 rw[cG];have s2:=s1.put (o:=.lst ((G.filter fun y=>decide (y∈F)).map PV.int)) (s1.free hp);ac_rfl;generalize put H1 p (.lst ((G.filter fun y=>decide (y∈F)).map PV.int))=H2 at *;rw[Jl];by_cases nn:∀y∈G,¬My.Reach ts A y
 ·have e0:(G.filter fun y=>decide (y∈F))=[]:=by
   rw[KQ];intro y hy;rw[Kk,iff];exact nn y hy
  refine ar (by rw[e0];rfl) ?_;subst hR;ac_rfl;refine⟨ah (by decide),c,ts,bs,[],A,e,rfl,rfl,ok,?_⟩;rw[ct2,fb0];unfold shp;ac_rfl;have ok2:=ok.filter (FT 2 A) (FB 2 A);rw[fb2]at ok2;refine⟨c,_,bs,A,B,G,rfl,rfl,rfl,rfl,ok2,ap.a,ap.g,fun b N an hb=>⟨H,s2,h b (hb.trans ?_)⟩⟩;unfold eV qM;rw[fb2];exact⟨fun z=>⟨nn,fun N' an'=>by rw[an'.one an];exact z⟩,fun z=>z.2 N an⟩
 ·obtain⟨y,hy⟩:=Classical.not_forall.mp nn;obtain⟨hy,hr⟩:=Classical.not_imp.mp hy;have hm:y∈G.filter fun y=>decide (y∈F):=JU.mpr ⟨hy,by rw[Kk,iff];exact LA.mp hr⟩;have:=List.length_pos_of_mem hm;exact av (J2 (by symm)) ⟨H,s2,h false ⟨fun z=>(by cases z),fun z=>absurd z.1 nn⟩⟩
theorem Iy(T:Tx K mg t):aG P w K mg base CX0 8 t.a_yc t.d_yc ["_law_drawn","_law_one","_law_other","_law_door"] jg:=by
 refine okU (k:=7) T.F_yc C1 (fun vs H Q E h=>a8 h) (fun cdv A outer s H E B hr=>⟨_,(af (aN (cN dG dC (az ax aW rfl T.b_len JJ (aa (cE (N2:=Ec) (nt:=1) (js:=[2]) (ck (sc:=ai xE)) (aK (aA (Fg T) hr.mo rfl T.g_yd T.F_yd.kp T.B_yd (aa (aA (w4 T) hr.mo rfl T.g_yr T.F_yr.kp T.B_yr (aa (qv 0) (aa (qv 3) (aa (aD ae) ae)))) (aa (qv 1) ae)))) (fun _ _ _ _=>⟨(gN 0 GS),(aZ (cW (bH hr.units) bf (qv 0) (qv 1))),(qv 0)⟩)) ae)) aq)
  (ak (ay bI))
  aC)
  (af (aN (cN (aU hr.units) bw (az ax aW rfl T.b_len JJ (aa (qv 3) ae)) aq)
  (ak (ay bI))
  aC)
  (af (aN (b4 (br (aA (BL T) hr.mo rfl T.g_yg T.F_yg.kp T.B_yg (aa (aA (w4 T) hr.mo rfl T.g_yr T.F_yr.kp T.B_yr (aa (qv 0) (aa (aD ae) (aa (qv 1) ae)))) (aa (qv 1) (aa (qv 3) (aa (aD ae) ae)))))))
  (ak (ay bI))
  aC)
  (ak (ay (aA (BL T) hr.mo rfl T.g_yg T.F_yg.kp T.B_yg (aa (aA (w4 T) hr.mo rfl T.g_yr T.F_yr.kp T.B_yr (aa (qv 0) (aa (aD ae) (aa (qv 3) ae)))) (aa (qv 3) (aa (qv 2) (aa (qv 1) ae)))))))))),?_⟩)
 injections
 obtain⟨l,_,rfl,m,_,rfl,k,_,rfl,n,_,rfl,rfl,h⟩:=h;obtain⟨c,ts,bs,A,B,G,e,rfl,rfl,rfl,ok,ap,h⟩:=h;have b6:=ap.b.len ok.c6;have ok1:=ok.filter (FT 1 G) (FB 1 G);left;refine⟨ah (by decide),c,ts,bs,G,[],e,rfl,rfl,ok,?_⟩;rw[ct1];unfold shp;ac_rfl;refine⟨c,_,_,A,rfl,rfl,ok1,ap.a,fun r H1 F hr s1 er iff lF=>?_⟩;refine⟨_,er,fun p hp=>?_⟩;refine aE (fun y=>y) (onI fun y=>decide (y∈B)) (fun σ=>∃z,σ=[z,some (.tup (B.map PV.int))]) (by rw[Jl];symm) (fun _=>(au (aB er hp)).trans er) ?_ ?_ ⟨_,rfl⟩
 ·ac_nf;obtain⟨k,hk,rfl⟩:=Jp.mp hy;have e:onI (fun y=>decide (y∈B)) (PV.int k)=decide (k∈B):=rfl;rw[e]at kT kF;ac_rfl;refine⟨aI,?_⟩;simp only[aP];by_cases m:k∈B
  ·exact av (by simp[m]) ⟨hl,by rw[aH];exact kT (by simp[m]) _ ⟨_,rfl⟩⟩
  ·exact ar (by simp[m]) (kF (by simp[m]) _ ⟨_,rfl⟩)
 rw[cG];have s2:=s1.put (o:=.lst ((F.filter fun y=>decide (y∈B)).map PV.int)) (s1.free hp);ac_rfl;generalize put H1 p (.lst ((F.filter fun y=>decide (y∈B)).map PV.int))=H2 at *;rw[Jl];have no:¬dk c ts bs A B G->∃H3,U.Sub H3 H2/\Q (.bl false) H3:=fun q=>⟨H,s2,h false ⟨fun z=>(by cases z),fun z=>absurd z q⟩⟩;by_cases nn:∀y∈B,¬My.Reach (ts.filter (FT 0 (nin c G))) A y
 ·have e0:(F.filter fun y=>decide (y∈B))=[]:=by
   rw[KQ];intro y hy hb;exact nn y (Lz hb) ((m5 ok ap.ag y).mp ((iff y).mp hy))
  refine ar (by rw[e0];rfl) ?_;right;rw[Jl];by_cases ne:G=[]
  ·exact av (by rw[ne];rfl) ⟨H,s2,h true ⟨fun _=>⟨nn,.inl ne⟩,fun _=>rfl⟩⟩
  refine ar (by simpa using ne) ?_;subst hR;have ap1:=ap.one ne;have ap2:=ap.two ne;have ok2:=ok.filter (FT 2 A) (FB 2 A);have ok3:=ok.filter (FT 2 G) (FB 2 G);rw[fb2]at ok2 ok3;left;refine⟨ah (by decide),c,ts,bs,[],A,e,rfl,rfl,ok,?_⟩;rw[ct2,fb0];unfold shp;ac_rfl;refine⟨ah (by decide),c,_,bs,A,G,[],rfl,rfl,rfl,rfl,ok2,ap.a,xN,fun b N an hb=>?_⟩;have fr:=zB an hb;refine aV (fun q=>no fun z=>?_) (fun q=>?_)
  ·rcases z.2 with q3 | q3
   ·exact ne q3
   ·rw[fr.mpr q3.1]at q;cases q
  have fr1:=fr.mp (by simpa using q);subst hR;ac_rfl;refine⟨ah (by decide),c,ts,bs,[],G,e,rfl,rfl,ok,?_⟩;rw[ct2,fb0];unfold shp;ac_rfl;refine⟨c,_,bs,G,B,A,rfl,rfl,rfl,rfl,ok3,ap.g,ap.a,fun b2 N2 an2 hb2=>⟨H,s2,h b2 ((zB an2 hb2).trans ⟨fun z=>⟨nn,.inr ⟨fr1,z⟩⟩,fun z=>z.2.elim (fun q=>absurd q ne) (fun q=>q.2)⟩)⟩⟩
 ·obtain⟨y,hy⟩:=Classical.not_forall.mp nn;obtain⟨hy,hr⟩:=Classical.not_imp.mp hy;have hm:y∈F.filter fun y=>decide (y∈B):=JU.mpr ⟨(iff y).mpr ((m5 ok ap.ag y).mpr (LA.mp hr)),J2 hy⟩;have:=List.length_pos_of_mem hm;exact av (J2 (by symm)) (no fun z=>nn z.1)
theorem IS(T:Tx K mg t):aG P w K mg base CX0 1 t.a_zY t.d_zY ["_law_e"] (lZ t):=by
 refine okU (k:=0) T.F_zY zf (fun vs H Q E h=>a8 h) (fun cdv A outer s H E B hr=>⟨_,(af (sN 1 zf.nd (bz (aa (aD (aa aJ (aa (bK T.g_J rfl rfl T.b_isinstance (qv 0)) ae))) (aa (aD (aa aJ (aa (bK T.g_G rfl rfl T.b_isinstance (qv 0)) ae))) (aa (aD (aa aJ (aa (bK T.g_T rfl rfl T.b_isinstance (qv 0)) ae))) (aa (aD (aa aJ (aa (bK T.g_F rfl rfl T.b_isinstance (qv 0)) ae))) (aa (aD (aa aJ (aa (bK T.g_K rfl rfl T.b_isinstance (qv 0)) ae))) (aa (aD (aa aJ (aa (bK T.g_P rfl rfl T.b_isinstance (qv 0)) ae))) (aa (aD (aa aJ (aa (bK T.g_V rfl rfl T.b_isinstance (qv 0)) ae))) (aa (aD (aa aJ (aa (bK T.g_U rfl rfl T.b_isinstance (qv 0)) ae))) (aa (aD (aa aJ (aa (bK T.g_Q rfl rfl T.b_isinstance (qv 0)) ae))) (aa (aD (aa aJ (aa (bK T.g_N rfl rfl T.b_isinstance (qv 0)) ae))) (aa (aD (aa aJ (aa (bK T.g_O rfl rfl T.b_isinstance (qv 0)) ae))) (aa (aD (aa aJ (aa (bK T.g_A rfl rfl T.b_isinstance (qv 0)) ae))) (aa (aD (aa aJ (aa (bK T.g_L rfl rfl T.b_isinstance (qv 0)) ae))) (aa (aD (aa aJ (aa (bK T.g_H rfl rfl T.b_isinstance (qv 0)) ae))) (aa (aD (aa aJ (aa (bK T.g_S rfl rfl T.b_isinstance (qv 0)) ae))) (aa (aD (aa aJ (aa (bK T.g_E rfl rfl T.b_isinstance (qv 0)) ae))) (aa (aD (aa aJ (aa (bK T.g_M rfl rfl T.b_isinstance (qv 0)) ae))) (aa (aD (aa aJ (aa (bK T.g_I rfl rfl T.b_isinstance (qv 0)) ae))) (aa (aD (aa aJ (aa (bK T.g_B rfl rfl T.b_isinstance (qv 0)) ae))) (aa (aD (aa aJ (aa (bK T.g_R rfl rfl T.b_isinstance (qv 0)) ae))) (aa (aD (aa aJ (aa (n9 (wR T.b_ValueError gR rfl rfl T.b_isinstance (qv 0))) ae))) ae)))))))))))))))))))))))
  (ak (ay (cE (N2:=Eo) (nt:=2) (js:=[]) (ck (sc:=ai xi)) (aK (qv 1)) (fun _ _ _ _=>⟨(dj (n:=2) rfl (aT (gN 0 D7) (aT (gN 1 D7) cg))),(aZ (br (qv 1))),(qv 0)⟩))))),?_⟩)
 injections
 obtain⟨a,_,rfl,rfl,h⟩:=h;obtain⟨C,nm,ha,hk,h⟩:=h;rcases hk with⟨rfl,rfl⟩ |⟨rfl,rfl⟩ |⟨rfl,rfl⟩
 ·
  refine vP (l:=kit K t) (bs:=[false,false,false,false,true,false,false,false,false,false,false,false,false,false,false,false,false,false,false,false]++[!true]) (xs:=kn.zip [false,false,false,false,true,false,false,false,false,false,false,false,false,false,false,false,false,false,false,false]++[(("other":Str),false)]) (J0 rfl) rfl (eC (j9 (g4 ha T.x_K T.kK_)) (fo ha T.x_K rfl T.kk_K)) fun q hq=>?_;ac_rfl;exact tQ (nm:="NoName") rfl (J0 rfl) h q hq
 ·
  refine vP (l:=kit K t) (bs:=[false,false,false,false,false,true,false,false,false,false,false,false,false,false,false,false,false,false,false,false]++[!true]) (xs:=kn.zip [false,false,false,false,false,true,false,false,false,false,false,false,false,false,false,false,false,false,false,false]++[(("other":Str),false)]) (J0 rfl) rfl (eC (j9 (g4 ha T.x_P T.kP_)) (fo ha T.x_P rfl T.kk_P)) fun q hq=>?_;ac_rfl;exact tQ (nm:="NoSets") rfl (J0 rfl) h q hq
 ·
  refine vP (l:=kit K t) (bs:=[false,false,false,false,false,false,false,false,false,false,false,false,false,true,false,false,false,false,false,false]++[!true]) (xs:=kn.zip [false,false,false,false,false,false,false,false,false,false,false,false,false,true,false,false,false,false,false,false]++[(("other":Str),false)]) (J0 rfl) rfl (eC (j9 (g4 ha T.x_H T.kH_)) (fo ha T.x_H rfl T.kk_H)) fun q hq=>?_;ac_rfl;exact tQ (nm:="NoDoor") rfl (J0 rfl) h q hq
theorem Ii(T:Tx K mg t):aG P w K mg base CX0 1 t.a_zR t.d_zR ["_law_names","_law_many"] jw:=by
 refine okU (k:=0) T.F_zR zI (fun vs H Q E h=>a8 h) (fun cdv A outer s H E B hr=>⟨_,(af (bM JW rfl (cu rfl T.b_range (aa (az ax aW rfl T.b_len JJ (aa (qv 0) ae)) ae)) (gN 2 zI.nd)
  (ak (aN (aX (dE (cN fy fx (iX (qv 0) (qv 2)) aq) (dE (cN l9 mQ (iX (qv 0) (qv 2)) (qv 1)) (dm (aX (bV (cN dG dC (qv 2) aq) (bJ (cN l9 mQ (iX (qv 0) (tR (qv 2) aq)) (iX (qv 0) (qv 2))))))))))
   (ak (ay bI))
   aC)))
  (ak (ay bI))),?_⟩)
 injections
 obtain⟨l,_,rfl,c,_,rfl,rfl,h⟩:=h;obtain⟨L,rfl,hl,h⟩:=h;ac_rfl;refine⟨⟨by rw[Jl];symm,by rw[Jl];symm⟩,?_⟩;rw[Jl,J7];refine dg (fun i σ H2=>∃z,σ=[some (.tup (L.map PV.int)),some (.int c),z]/\H2=H/\Nms c (L.take i)) ?_ ?_ ⟨none,rfl,rfl,by simp,fun x hx=>(by simp at hx)⟩
 ·rintro σ H2 ⟨z,rfl,rfl,hn⟩;rw[JX]at hn;refine⟨trivial,?_⟩;ac_rfl;exact⟨H2,Sub.refl _,h true ⟨fun _=>hn,fun _=>rfl⟩⟩
 ·rintro N i σ H2 hi ⟨z,rfl,rfl,hn⟩ kk;refine⟨trivial,?_⟩;have a1:atI (L.map PV.int) ((i:Nat):Int)=some (.int L[i]):=by rw[cI (by rw[Jl];symm),List.getElem_map]
  have hm:L[i]∈L:=JV hi;have bad:¬Nms c L->∃H3,U.Sub H3 H2/\Q (.bl false) H3:=fun q=>⟨H2,Sub.refl _,h false ⟨fun z=>(by cases z),fun z=>absurd z q⟩⟩;have ek:L.take (i+1)=L.take i++[L[i]]:=by rw[Kv,Jo hi];rfl
  ac_rfl;rw[a1];ac_rfl;by_cases c0:L[i]<0
  ·exact av (by simpa using c0) (bad fun n=>by have:=n.lo _ hm;symm)
  refine ar (by simpa using c0) ?_
  try rw[a1]
  try ac_rfl
  by_cases c1:L[i]≥c
  ·exact av (by simpa using c1) (bad fun n=>by have:=n.lo _ hm;symm)
  refine ar (by simpa using c1) ?_;have ok:(∀x∈L.take i,x<L[i])->N [some (.tup (L.map PV.int)),some (.int c),some (.int (i:Nat))] H2:=fun q=>kk _ _ ⟨_,rfl,rfl,by
   rw[ek];refine⟨K4.mpr ⟨hn.up,KN _ _,fun x hx y hy=>?_⟩,fun x hx=>?_⟩
   ·rw[Jx.mp hy];exact q x hx
   ·rcases Ju.mp hx with z | z
    ·exact hn.lo x z
    ·rw[Jx.mp z];symm⟩
  cases i with
  | zero=>exact ar (by simp) (ok fun x hx=>(by simp at hx))
  | succ i =>
   refine av (by simp) ?_;have a2:atI (L.map PV.int) (((i+1:Nat):Int) - 1)=some (.int L[i]):=by
    rw[show((i+1:Nat):Int) - 1=((i:Nat):Int) by symm,cI (by rw[Jl];symm),List.getElem_map]
   try rw[a2]
   try ac_rfl
   try rw[a1]
   try ac_rfl
   by_cases c2:L[i]≥L[i+1]
   ·refine av (by simpa using c2) (bad fun n=>?_);have:=List.pairwise_iff_getElem.mp n.up i (i+1) (by symm) hi (by symm);symm
   refine ar (by simpa using c2) (ok fun x hx=>?_);have e2:L.take (i+1)=L.take i++[L[i]]:=by rw[Kv,Jo (by symm)];rfl
   have up:=hn.up;rw[e2]at hx up;rcases Ju.mp hx with z | z
   ·have:=(K4.mp up).2.2 x z L[i] (by simp);symm
   ·rw[Jx.mp z];symm
theorem G4(T:Tx K mg t):aG P w K mg base CX0 1 t.a_yk t.d_yk ["_law_found","_law_due_here"] (fO 0):=by
 refine D2 fun vs H Q E h=>?_
 replace h:=aY h
 obtain⟨_,_,rfl,_,_,rfl,rfl,h⟩:=h;exact(show False from h.1).elim
theorem GP(T:Tx K mg t){n:Nat}(ih:aG P w K mg base CX0 (n+1) t.a_yk t.d_yk ["_law_found","_law_due_here"] (fO n)):aG P w K mg base CX0 (n+2) t.a_yk t.d_yk ["_law_found","_law_due_here"] (fO (n+1)):=by
 refine okU (k:=n+1) T.F_yk zq (fun vs H Q E h=>a8 h) (fun cdv A outer s H E B hr=>⟨_,(af (aN (aX (dE (br (az (bB .tuple) (cw .tuple) rfl T.b_isinstance Kj (aa (qv 1) (aa (cv rfl T.b_tuple Kw) ae)))) (dm (br (az (bB .list) (cw .list) rfl T.b_isinstance Kj (aa (qv 1) (aa (cv rfl T.b_list boot_list) ae)))))))
  (af (aN (aX (dE (cN gv gf (az (bB .tuple) (cw .tuple) rfl T.b_isinstance Kj (aa (qv 0) (aa (cv rfl T.b_tuple Kw) ae))) (az (bB .tuple) (cw .tuple) rfl T.b_isinstance Kj (aa (qv 1) (aa (cv rfl T.b_tuple Kw) ae)))) (dm (cN gv gf (az (bB .list) (cw .list) rfl T.b_isinstance Kj (aa (qv 0) (aa (cv rfl T.b_list boot_list) ae))) (az (bB .list) (cw .list) rfl T.b_isinstance Kj (aa (qv 1) (aa (cv rfl T.b_list boot_list) ae)))))))
   (ak (ay bI))
   aC)
   (af (aN (cN gv gf (az ax aW rfl T.b_len JJ (aa (qv 0) ae)) (az ax aW rfl T.b_len JJ (aa (qv 1) ae)))
   (ak (ay bI))
   aC)
   (af (bM JW rfl (cu rfl T.b_range (aa (az ax aW rfl T.b_len JJ (aa (qv 1) ae)) ae)) (gN 2 zq.nd)
   (ak (aN (b4 (br (aA ih (hr.mono (Jy _)) rfl T.g_yk T.F_yk.kp T.B_yk (aa (iX (qv 0) (qv 2)) (aa (iX (qv 1) (qv 2)) ae)))))
    (ak (ay bI))
    aC)))
   (ak (ay bI)))))
  aC)
  (af (aN (br (az (bB .bool) (cw .bool) rfl T.b_isinstance Kj (aa (qv 1) (aa (cv rfl T.b_bool boot_bool) ae))))
  (ak (ay (dU (az (bB .bool) (cw .bool) rfl T.b_isinstance Kj (aa (qv 0) (aa (cv rfl T.b_bool boot_bool) ae))) (d7 (b8 (aU hr.units) bw (qv 0) (qv 1) (da _))))))
  aC)
  (af (aN (br (az (bB .int) (cw .int) rfl T.b_isinstance Kj (aa (qv 1) (aa (cv rfl T.b_int boot_int) ae))))
  (ak (ay (dU (az (bB .int) (cw .int) rfl T.b_isinstance Kj (aa (qv 0) (aa (cv rfl T.b_int boot_int) ae))) (dU (n9 (az (bB .bool) (cw .bool) rfl T.b_isinstance Kj (aa (qv 0) (aa (cv rfl T.b_bool boot_bool) ae)))) (d7 (b8 (aU hr.units) bw (qv 0) (qv 1) (da _)))))))
  aC)
  (af (aN (br (az (bB .str) (cw .str) rfl T.b_isinstance Kj (aa (qv 1) (aa (cv rfl T.b_str boot_str) ae))))
  (ak (ay (dU (az (bB .str) (cw .str) rfl T.b_isinstance Kj (aa (qv 0) (aa (cv rfl T.b_str boot_str) ae))) (d7 (b8 (aU hr.units) bw (qv 0) (qv 1) (da _))))))
  aC)
  (ak (ay (dU (b8 tE vm (qv 1) iY (da _)) (d7 (b8 tE vm (qv 0) iY (da _)))))))))),?_⟩)
 injections
 obtain⟨x,_,rfl,y,_,rfl,rfl,h⟩:=h
 try dsimp only at h
 obtain⟨hs,h⟩:=h;unfold cV at hs;split at hs
 ·subst hs;refine bQ fun T1 R h1 hR=>?_;ac_rfl;subst hR;refine bQ fun T1 R h1 hR=>?_;ac_rfl;subst hR;refine bQ fun T1 R h1 hR=>?_;ac_rfl;subst h1;ac_rfl;exact⟨H,Sub.refl _,by rw[beq_self_eq_true];exact h⟩
 ·subst hs;refine bQ fun T1 R h1 hR=>?_;ac_rfl;subst hR;refine bQ fun T1 R h1 hR=>?_;ac_rfl;subst hR;refine bQ fun T1 R h1 hR=>?_;ac_rfl;subst hR;refine bQ fun T1 R h1 hR=>?_;ac_rfl;subst h1;ac_rfl;exact⟨H,Sub.refl _,by rw[beq_self_eq_true];exact h⟩
 ·rename_i n0 l m e;obtain⟨hl,hp⟩:=hs;cases e;have hlen:=hp.length;refine bQ fun T1 R h1 hR=>?_;ac_rfl;subst h1;refine bQ fun T1 R1 h1 hR1=>?_;ac_rfl;refine ar rfl (ar rfl ?_);subst hR1;refine bQ fun T1 R1 h1 hR1=>?_;ac_rfl;refine ar (by rw[hlen];simp) ?_;subst hR1;refine aj fun Z hZ=>?_;ac_rfl;refine⟨⟨by symm,by symm⟩,?_⟩;rw[J7];refine dg (fun i σ H2=>∃k,σ=[some (.tup l),some (.tup m),k]/\H2=H) ?_ ?_ ⟨none,rfl,rfl⟩
  ·rintro σ H2 ⟨k,rfl,rfl⟩;subst hZ;exact⟨trivial,H2,Sub.refl _,h⟩
  ·rintro G i σ H2 hi ⟨k,rfl,rfl⟩ kk;refine⟨trivial,?_⟩;ac_rfl;rw[cI (show i<l.length by symm),cI (show i<m.length by symm)];ac_rfl;exact⟨nJ hp _ _,kk _ _ ⟨_,rfl,rfl⟩⟩
 ·rename_i n0 a b e;obtain⟨l,m,ha,hb,hl,hp⟩:=hs;cases e;have hlen:=hp.length;refine bQ fun T1 R h1 hR=>?_;ac_rfl;refine⟨_,hb,_,hb,?_⟩;subst h1;refine bQ fun T1 R1 h1 hR1=>?_;ac_rfl;refine⟨_,ha,_,hb,ar rfl ⟨_,ha,_,hb,ar rfl ?_⟩⟩;subst hR1;refine bQ fun T1 R1 h1 hR1=>?_;ac_rfl;refine⟨_,ha,_,hb,ar (by rw[hlen];simp) ?_⟩;subst hR1;refine aj fun Z hZ=>?_;ac_rfl;refine⟨_,hb,⟨by symm,by symm⟩,?_⟩;rw[J7];refine dg (fun i σ H2=>∃k,σ=[some (.ref a),some (.ref b),k]/\H2=H) ?_ ?_ ⟨none,rfl,rfl⟩
  ·rintro σ H2 ⟨k,rfl,rfl⟩;subst hZ;exact⟨trivial,H2,Sub.refl _,h⟩
  ·rintro G i σ H2 hi ⟨k,rfl,rfl⟩ kk;refine⟨trivial,?_⟩;ac_rfl;refine⟨_,ha,?_⟩;rw[cI (show i<l.length by symm)];ac_rfl;refine⟨_,hb,?_⟩;rw[cI (show i<m.length by symm)];ac_rfl;exact⟨nJ hp _ _,kk _ _ ⟨_,rfl,rfl⟩⟩
 ·exact hs.elim
theorem Ee(T:Tx K mg t):∀n,aG P w K mg base CX0 (n+1) t.a_yk t.d_yk ["_law_found","_law_due_here"] (fO n)
 | 0=>G4 T
 | n+1=>GP T (Ee T n)
theorem GF(T:Tx K mg t):aG P w K mg base CX0 12 t.a_zT t.d_zT ["_law_kind","_law_drawing","_law_sets"] (i8 t):=by
 refine okU (k:=11) T.F_zT jv (fun vs H Q E h=>a8 h) (fun cdv A outer s H E B hr=>⟨_,(af (sN 3 jv.nd iY)
  (af (sN 4 jv.nd iY)
  (af (Bk (i:=5) (j:=4) ⟨rfl,rfl,rfl⟩ jv.nd rfl rfl rfl rfl T.x_C rfl T.g_C
  (j8 (Ez (cN (aU hr.units) bw (qv 0) aq)
   (j8 (vA (i:=3) jv.nd rfl (Or.inl rfl) (qb ⟨rfl,rfl,rfl⟩ (HI T) hr.mo rfl T.g_zv T.F_zv.kp T.B_zv (aa (qv 1) (aa (iX (qv 2) aq) (aa (iX (qv 2) aq) (aa (iX (qv 2) aq) ae)))))))
   (j8 (vA (i:=3) jv.nd rfl (Or.inl rfl) (qb ⟨rfl,rfl,rfl⟩ (Gj T) hr.mo rfl T.g_zr T.F_zr.kp T.B_zr (aa (qv 1) (aa (iX (qv 2) aq) (aa (iX (qv 2) aq) (aa (iX (qv 2) aq) ae))))))))))
  (af (aN (cN xm xS (qv 4) iY)
  (ak (ay (aA (IS T) hr.mo rfl T.g_zY T.F_zY.kp T.B_zY (aa (qv 4) ae))))
  aC)
  (ak (ay (qv 3))))))),?_⟩)
 injections
 obtain⟨d,_,rfl,x,_,rfl,a,_,rfl,rfl,h⟩:=h;obtain⟨c,ts,bs,A,B,G,hd,dr,ok,ha,hZ,hV⟩:=h;unfold tupI at ha;left;right;subst hR;refine aj fun R hR=>?_;have s0:=Sub.refl H;rcases hd with rfl | rfl
 ·ac_rfl
  repeat (first | refine ar rfl ?_ | refine av rfl ?_)
  refine⟨_,ha,?_⟩;rw[rY];ac_rfl;refine⟨_,ha,?_⟩;rw[sO];ac_rfl;refine⟨_,ha,?_⟩;rw[vF]
  try ac_rfl
  refine⟨c,ts,bs,A,B,G,dr,ok,rfl,rfl,rfl,fun ap bd J W hJ hW=>?_,⟨fun n3 H8 s8=>?_,fun n3 na H8 s8=>?_⟩,fun ap nb H8 s8=>?_⟩
  ·
   right;subst hR;ac_rfl;exact⟨H,Sub.refl _,hV ⟨ap,fun z=>(by cases z)⟩ ⟨fun _=>bd,fun z=>(by cases z)⟩ _ H s0 ⟨J,W,hJ,hW,fun _=>rfl,fun z=>(by cases z)⟩⟩
  ·
   refine⟨_,rfl,⟨T.x_K,T.s_K⟩,fun e he=>?_⟩;have s9:=s8.put (o:=.exc t.a_K) (s8.free he);have e9:put H8 e (.exc t.a_K) e=some (.exc t.a_K):=ao;generalize put H8 e (.exc t.a_K)=H9 at *;right;exact⟨_,"NoName",e9,.inl ⟨rfl,rfl⟩,fun r H1 s1 er=>⟨H1,Sub.refl _,hZ _ (.inl ⟨n3,rfl⟩) r H1 (s9.trans s1) er⟩⟩
  ·
   refine⟨_,rfl,⟨T.x_P,T.s_P⟩,fun e he=>?_⟩;have s9:=s8.put (o:=.exc t.a_P) (s8.free he);have e9:put H8 e (.exc t.a_P) e=some (.exc t.a_P):=ao;generalize put H8 e (.exc t.a_P)=H9 at *;right;exact⟨_,"NoSets",e9,.inr (.inl ⟨rfl,rfl⟩),fun r H1 s1 er=>⟨H1,Sub.refl _,hZ _ (.inr (.inl ⟨n3,fun z=>na z.1,rfl⟩)) r H1 (s9.trans s1) er⟩⟩
  ·
   refine⟨_,rfl,⟨T.x_H,T.s_H⟩,fun e he=>?_⟩;have s9:=s8.put (o:=.exc t.a_H) (s8.free he);have e9:put H8 e (.exc t.a_H) e=some (.exc t.a_H):=ao;generalize put H8 e (.exc t.a_H)=H9 at *;right;exact⟨_,"NoDoor",e9,.inr (.inr ⟨rfl,rfl⟩),fun r H1 s1 er=>⟨H1,Sub.refl _,hZ _ (.inr (.inr ⟨⟨ap,fun z=>(by cases z)⟩,fun z=>nb (z.1 rfl),rfl⟩)) r H1 (s9.trans s1) er⟩⟩
 ·ac_rfl
  repeat (first | refine ar rfl ?_ | refine av rfl ?_)
  refine⟨_,ha,?_⟩;rw[rY];ac_rfl;refine⟨_,ha,?_⟩;rw[sO];ac_rfl;refine⟨_,ha,?_⟩;rw[vF]
  try ac_rfl
  refine⟨c,ts,bs,A,B,G,dr,ok,rfl,rfl,rfl,fun ap l1 bd J W hJ hW=>?_,⟨fun n3 H8 s8=>?_,fun n3 na H8 s8=>?_⟩,fun ap l1 H8 s8=>?_,fun ap l1 nb H8 s8=>?_⟩
  ·
   right;subst hR;ac_rfl;exact⟨H,Sub.refl _,hV ⟨ap,fun _=>l1⟩ ⟨fun z=>(by cases z),fun _=>bd⟩ _ H s0 ⟨J,W,hJ,hW,fun z=>(by cases z),fun _=>rfl⟩⟩
  ·
   refine⟨_,rfl,⟨T.x_K,T.s_K⟩,fun e he=>?_⟩;have s9:=s8.put (o:=.exc t.a_K) (s8.free he);have e9:put H8 e (.exc t.a_K) e=some (.exc t.a_K):=ao;generalize put H8 e (.exc t.a_K)=H9 at *;right;exact⟨_,"NoName",e9,.inl ⟨rfl,rfl⟩,fun r H1 s1 er=>⟨H1,Sub.refl _,hZ _ (.inl ⟨n3,rfl⟩) r H1 (s9.trans s1) er⟩⟩
  ·
   refine⟨_,rfl,⟨T.x_P,T.s_P⟩,fun e he=>?_⟩;have s9:=s8.put (o:=.exc t.a_P) (s8.free he);have e9:put H8 e (.exc t.a_P) e=some (.exc t.a_P):=ao;generalize put H8 e (.exc t.a_P)=H9 at *;right;exact⟨_,"NoSets",e9,.inr (.inl ⟨rfl,rfl⟩),fun r H1 s1 er=>⟨H1,Sub.refl _,hZ _ (.inr (.inl ⟨n3,fun z=>na z.1,rfl⟩)) r H1 (s9.trans s1) er⟩⟩
  ·
   refine⟨_,rfl,⟨T.x_P,T.s_P⟩,fun e he=>?_⟩;have s9:=s8.put (o:=.exc t.a_P) (s8.free he);have e9:put H8 e (.exc t.a_P) e=some (.exc t.a_P):=ao;generalize put H8 e (.exc t.a_P)=H9 at *;right;exact⟨_,"NoSets",e9,.inr (.inl ⟨rfl,rfl⟩),fun r H1 s1 er=>⟨H1,Sub.refl _,hZ _ (.inr (.inl ⟨ap.n3,fun z=>l1 (z.2 rfl),rfl⟩)) r H1 (s9.trans s1) er⟩⟩
  ·
   refine⟨_,rfl,⟨T.x_H,T.s_H⟩,fun e he=>?_⟩;have s9:=s8.put (o:=.exc t.a_H) (s8.free he);have e9:put H8 e (.exc t.a_H) e=some (.exc t.a_H):=ao;generalize put H8 e (.exc t.a_H)=H9 at *;right;exact⟨_,"NoDoor",e9,.inr (.inr ⟨rfl,rfl⟩),fun r H1 s1 er=>⟨H1,Sub.refl _,hZ _ (.inr (.inr ⟨⟨ap,fun _=>l1⟩,fun z=>nb (z.2 rfl),rfl⟩)) r H1 (s9.trans s1) er⟩⟩
theorem GV(T:Tx K mg t):aG P w K mg base CX0 2 t.a_ym t.d_ym ["_law_kind","_law_one","_law_other","_law_door"] oX:=by
 refine okU (k:=1) T.F_ym iz (fun vs H Q E h=>a8 h) (fun cdv A outer s H E B hr=>⟨_,(@af _ _ _ _ _ _ (@fb _ _ _ _ _ 4 _ _ iz.nd rfl (by eq_refl) (aO aL bg rfl T.b_tuple Kw (aa (az iq ly rfl T.b_sorted boot_sorted (aa (dh (qv 1) (qv 3)) ae)) ae)) (by rfl) (by first | exact .inl rfl | exact .inr rfl | assumption))
  (@af _ _ _ _ _ _ (@fb _ _ _ _ _ 5 _ _ iz.nd rfl (by eq_refl) (aO aL bg rfl T.b_tuple Kw (aa (az iq ly rfl T.b_sorted boot_sorted (aa (dh (dh (qv 1) (qv 2)) (qv 3)) ae)) ae)) (by rfl) (by first | exact .inl rfl | exact .inr rfl | assumption))
  (@af _ _ _ _ _ _ (@fb _ _ _ _ _ 6 _ _ iz.nd rfl (by eq_refl) (@aD _ _ _ _ _ _ (@aa _ _ _ _ _ _ aJ (@aa _ _ _ _ _ _ (@aD _ _ _ _ _ _ (@aa _ _ _ _ _ _ aJ (@aa _ _ _ _ _ _ (qv 5) (@ae _ _) (by rfl)) (by rfl))) (@aa _ _ _ _ _ _ (@aD _ _ _ _ _ _ (@aa _ _ _ _ _ _ aJ (@aa _ _ _ _ _ _ (qv 4) (@ae _ _) (by rfl)) (by rfl))) (@ae _ _) (by rfl)) (by rfl)) (by rfl))) (by rfl) (by first | exact .inl rfl | exact .inr rfl | assumption))
  (@af _ _ _ _ _ _ (@aN _ _ _ _ _ _ _ _ _ (cN (aU hr.units) bw (qv 0) aq)
  (@ak _ _ _ _ (@fb _ _ _ _ _ 7 _ _ iz.nd rfl (by eq_refl) (@aD _ _ _ _ _ _ (@aa _ _ _ _ _ _ aJ (@aa _ _ _ _ _ _ (qv 6) (@aa _ _ _ _ _ _ (@aD _ _ _ _ _ _ (@aa _ _ _ _ _ _ aJ (@aa _ _ _ _ _ _ (qv 3) (@ae _ _) (by rfl)) (by rfl))) (@ae _ _) (by rfl)) (by rfl)) (by rfl))) (by rfl) (by first | exact .inl rfl | exact .inr rfl | assumption)))
  (@af _ _ _ _ _ _ (@fb _ _ _ _ _ 8 _ _ iz.nd rfl (by eq_refl) (@aD _ _ _ _ _ _ (@aa _ _ _ _ _ _ aJ (@aa _ _ _ _ _ _ (qv 1) (@aa _ _ _ _ _ _ (@aD _ _ _ _ _ _ (@aa _ _ _ _ _ _ aJ (@aa _ _ _ _ _ _ (qv 6) (@aa _ _ _ _ _ _ (@aD _ _ _ _ _ _ (@aa _ _ _ _ _ _ aJ (@aa _ _ _ _ _ _ (qv 1) (@ae _ _) (by rfl)) (by rfl))) (@ae _ _) (by rfl)) (by rfl)) (by rfl))) (@ae _ _) (by rfl)) (by rfl)) (by rfl))) (by rfl) (by first | exact .inl rfl | exact .inr rfl | assumption))
   (@ak _ _ _ _ (@fb _ _ _ _ _ 7 _ _ iz.nd rfl (by eq_refl) (@aD _ _ _ _ _ _ (@aa _ _ _ _ _ _ aJ (@aa _ _ _ _ _ _ (@aD _ _ _ _ _ _ (@aa _ _ _ _ _ _ aJ (@aa _ _ _ _ _ _ (@aD _ _ _ _ _ _ (@aa _ _ _ _ _ _ aJ (@aa _ _ _ _ _ _ (qv 4) (@ae _ _) (by rfl)) (by rfl))) (@aa _ _ _ _ _ _ (@aD _ _ _ _ _ _ (@aa _ _ _ _ _ _ aJ (@aa _ _ _ _ _ _ (qv 1) (@ae _ _) (by rfl)) (by rfl))) (@ae _ _) (by rfl)) (by rfl)) (by rfl))) (@aa _ _ _ _ _ _ (qv 8) (@ae _ _) (by rfl)) (by rfl)) (by rfl))) (by rfl) (by first | exact .inl rfl | exact .inr rfl | assumption)))))
  (@af _ _ _ _ _ _ (@aN _ _ _ _ _ _ _ _ _ (cN (aU hr.units) bw (az ax aW rfl T.b_len JJ (aa (qv 3) ae)) aq)
  (@ak _ _ _ _ (@ay _ _ _ _ _ (qv 7)))
  aC)
  (@ak _ _ _ _ (@ay _ _ _ _ _ (@aD _ _ _ _ _ _ (@aa _ _ _ _ _ _ aJ (@aa _ _ _ _ _ _ (qv 3) (@aa _ _ _ _ _ _ (qv 7) (@ae _ _) (by rfl)) (by rfl)) (by rfl)))))))))),?_⟩)
 injections
 obtain⟨d,_,rfl,l,_,rfl,m,_,rfl,n,_,rfl,rfl,h⟩:=h;obtain⟨c,A,B,G,hd,rfl,rfl,rfl,c6,ap,h⟩:=h;have lA:=ap.a.len c6;have lB:=ap.b.len c6;have lG:=ap.g.len c6;left;refine⟨ah (by simp only[Jl];symm),A++G,by rw[JB],by rw[Jr];symm,fun r J hr pJ sJ=>?_⟩;have s1:=(Sub.refl H).put (o:=.lst (J.map PV.int)) hr;generalize put H r (.lst (J.map PV.int))=H1 at *;have nd:=ap.nd;rw[JQ]at nd;have nd2:(A++G).Nodup:=nd.sublist (Lf (List.sublist_append_right B G) A);have jJ:Jn c A G J:=sY ap.a.lo ap.g.lo nd2 (fun x=>Ju) pJ sJ;right;refine⟨ah (by simp only[Jl];symm),ah (by simp only[Jr,Jl];symm),A++B++G,by rw[JB,JB],by simp only[Jr];symm,fun r2 W hr2 pW sW=>?_⟩;have s2:=s1.put (o:=.lst (W.map PV.int)) (s1.free hr2);generalize put H1 r2 (.lst (W.map PV.int))=H2 at *;have jW:Jn c B J W:=sY ap.b.lo jJ.1.lo (by rw[KL];exact nd) (fun x=>by rw[jJ.2 x,Ju,Ju,or_comm (a:=x∈A) (b:=x∈B),or_assoc]) pW sW;right;refine⟨ah (by decide),ah (by decide),ah (by decide),?_⟩;have eo:PV.tup [PV.str "over",PV.tup [PV.str "seen",PV.tup (W.map PV.int)],PV.tup [PV.str "seen",PV.tup (J.map PV.int)]]=cK W J:=rfl;rw[eo];obtain⟨ov,ho⟩:∃ov,ov=cK W J:=⟨_,rfl⟩;rw[←ho];subst hR;refine wo fun T1 T2 R h1 h2 hR=>?_;ac_rfl;have fin:∀f,(d=0->f=.tup [.str "times",cK W J,eR G])->(d=1->f=.tup [.str "times",cK J A,.tup [.str "sum",.tup (A.map PV.int),.tup [.str "times",cK W J,eR A]]])->∀z,R { nx:=fun _ H=>∃H3,U.Sub H3 H/\Q .non H3,rt:=fun v H=>∃H3,U.Sub H3 H/\Q v H3 } [some (.int d),some (.tup (A.map PV.int)),some (.tup (B.map PV.int)),some (.tup (G.map PV.int)),some (.tup (J.map PV.int)),some (.tup (W.map PV.int)),some ov,some f,z] H2:=fun f f0 f1 z=>by
  right;rw[Jl];by_cases ne:G=[]
  ·exact av (by rw[ne];rfl) ⟨H,s2,h _ ⟨J,W,jJ,jW,fun q=>(by unfold bkF sumF;rw[JL ne];exact f0 q),fun q=>(by unfold frF sumF;rw[JL ne];exact f1 q)⟩⟩
  refine ar (by simpa using ne) ?_;subst hR;ac_rfl;exact⟨ah (by decide),H,s2,h _ ⟨J,W,jJ,jW,fun q=>(by unfold bkF sumF;rw[JK ne,← f0 q]),fun q=>(by unfold frF sumF;rw[JK ne,← f1 q])⟩⟩
 rcases hd with rfl | rfl
 ·refine av rfl ?_;subst h1;ac_rfl;exact⟨ah (by decide),ah (by decide),fin _ (fun _=>by rw[ho];rfl) (fun z=>(by cases z)) _⟩
 ·refine ar rfl ?_;subst h2;refine aj fun R2 hR2=>?_;ac_rfl;refine⟨ah (by decide),ah (by decide),ah (by decide),?_⟩;have eq:PV.tup [PV.str "sum",.tup (A.map PV.int),.tup [.str "times",ov,.tup [.str "seen",.tup (A.map PV.int)]]]=.tup [.str "sum",.tup (A.map PV.int),.tup [.str "times",ov,eR A]]:=rfl;rw[eq];obtain⟨iv,hi⟩:∃iv,iv=PV.tup [PV.str "sum",.tup (A.map PV.int),.tup [.str "times",ov,eR A]]:=⟨_,rfl⟩;rw[←hi];subst hR2;ac_rfl;exact⟨ah (by decide),ah (by decide),ah (by decide),ah (by decide),fin _ (fun z=>(by cases z)) (fun _=>by rw[hi,ho];rfl) _⟩
theorem Hm(T:Tx K mg t):aG P w K mg base CX0 1 t.a_yh t.d_yh ["_law_sets","_law_cell","_law_many"] lq:=by
 refine okU (k:=0) T.F_yh fG (fun vs H Q E h=>a8 h) (fun cdv A outer s H E B hr=>⟨_,(af (sN 3 fG.nd (b7 (qv 1) aq))
  (af (sN 4 fG.nd (b7 (fh (qv 1) aq) aq))
  (af (sN 5 fG.nd (iX (qv 0) (qv 4)))
  (af (aN (cN (aU hr.units) bw (qv 3) aq)
  (ak (sN 5 fG.nd (iX (qv 0) (b7 (cc (qv 4) aq) aq))))
  aC)
  (af (aN (cN (aU hr.units) bw (qv 3) aq)
  (ak (sN 5 fG.nd (aD ae)))
  aC)
  (af (aN (cN (aU hr.units) bw (qv 3) aq)
  (ak (sN 5 fG.nd (dh (qv 5) (eH (qv 5) (cQ (cj aq)) cP))))
  aC)
  (af (aN (cN (aU hr.units) bw (qv 3) aq)
  (ak (sN 5 fG.nd (dh (qv 5) (aD (aa (cc (qv 2) (b7 (fh (qv 1) aq) (AH aq aq))) ae)))))
  aC)
  (af (aN (cN dG dC (qv 3) aq)
  (ak (sN 5 fG.nd (eH (qv 5) cP (cQ aq))))
  aC)
  (ak (ay (cX (cX (dY (qv 0) cP (cQ (qv 4))) (bz (aa (qv 5) ae))) (dY (qv 0) (cQ (cc (qv 4) aq)) cP)))))))))))),?_⟩)
 injections
 obtain⟨a,_,rfl,u,_,rfl,c,_,rfl,rfl,h⟩:=h;obtain⟨A,B,G,⟨c1,c6⟩,ha,hA,hB,hG,h⟩:=h;unfold tupI at ha;have cdvB3:(3:Int)≠0:=by decide
 left;refine⟨by decide,?_⟩;generalize u.fmod 9=kd;right;refine⟨vS (by decide) (by decide),by decide,?_⟩;have hi:=fm (a:=u.fdiv 9) (b:=3) (by decide);generalize (u.fdiv 9).fmod 3=i at *;right;obtain⟨M0,eM0,l0⟩:=DJ (A:=A) (B:=B) (G:=G) hi.1 hi.2 hA hB hG;refine⟨_,ha,?_⟩;rw[eM0];ac_rfl;subst hR;refine aj fun R hR=>?_;have key:∀M1:List Int,M1.length≤7->R { nx:=fun _ H=>∃H3,U.Sub H3 H/\Q .non H3,rt:=fun v H=>∃H3,U.Sub H3 H/\Q v H3 } [some (.ref a),some (.int u),some (.int c),some (.int kd),some (.int i),some (.tup (M1.map PV.int))] H:=fun M1 l1=>by
  subst hR;refine aj fun R hR=>?_;have key:∀M2:List Int,M2.length≤8->R { nx:=fun _ H=>∃H3,U.Sub H3 H/\Q .non H3,rt:=fun v H=>∃H3,U.Sub H3 H/\Q v H3 } [some (.ref a),some (.int u),some (.int c),some (.int kd),some (.int i),some (.tup (M2.map PV.int))] H:=fun M2 l2=>by
   subst hR;refine aj fun R hR=>?_;have key:∀M3:List Int,M3.length≤9->R { nx:=fun _ H=>∃H3,U.Sub H3 H/\Q .non H3,rt:=fun v H=>∃H3,U.Sub H3 H/\Q v H3 } [some (.ref a),some (.int u),some (.int c),some (.int kd),some (.int i),some (.tup (M3.map PV.int))] H:=fun M3 l3=>by
    subst hR;refine aj fun R hR=>?_;have key:∀M4:List Int,M4.length≤10->R { nx:=fun _ H=>∃H3,U.Sub H3 H/\Q .non H3,rt:=fun v H=>∃H3,U.Sub H3 H/\Q v H3 } [some (.ref a),some (.int u),some (.int c),some (.int kd),some (.int i),some (.tup (M4.map PV.int))] H:=fun M4 l4=>by
     subst hR;refine aj fun R hR=>?_;have key:∀M5:List Int,M5.length≤11->R { nx:=fun _ H=>∃H3,U.Sub H3 H/\Q .non H3,rt:=fun v H=>∃H3,U.Sub H3 H/\Q v H3 } [some (.ref a),some (.int u),some (.int c),some (.int kd),some (.int i),some (.tup (M5.map PV.int))] H:=fun M5 l5=>by
      subst hR;ac_rfl;obtain⟨A',B',G',ec,l1,l2,l3,n1,n2⟩:=HY (A:=A) (B:=B) (G:=G) (M:=M5) hi.1 hi.2 hA hB hG (by symm);refine⟨_,ha,fun p1 hp1=>⟨ah (by decide),fun p2 hp2=>?_⟩⟩;have x1:=(Sub.refl H).put (o:=.lst (bO [PV.tup (A.map PV.int),.tup (B.map PV.int),.tup (G.map PV.int)] none (some i))) hp1;have x2:=x1.put (o:=.lst [PV.tup (M5.map PV.int)]) (x1.free hp2);have n12:p1≠p2:=fun e=>by subst e;rw[ao]at hp2;cases hp2
      refine⟨_,_,(au n12).trans ao,rfl,ah (by simp only[JZ];symm),fun p3 hp3=>?_⟩;have x3:=x2.put (o:=.lst (bO [PV.tup (A.map PV.int),.tup (B.map PV.int),.tup (G.map PV.int)] none (some i)++[PV.tup (M5.map PV.int)])) (x2.free hp3);have e3:put (put (put H p1 (.lst (bO [PV.tup (A.map PV.int),.tup (B.map PV.int),.tup (G.map PV.int)] none (some i)))) p2 (.lst [PV.tup (M5.map PV.int)])) p3 (.lst (bO [PV.tup (A.map PV.int),.tup (B.map PV.int),.tup (G.map PV.int)] none (some i)++[PV.tup (M5.map PV.int)])) p3=some (.lst (bO [PV.tup (A.map PV.int),.tup (B.map PV.int),.tup (G.map PV.int)] none (some i)++[PV.tup (M5.map PV.int)])):=ao;generalize put (put (put H p1 (.lst (bO [PV.tup (A.map PV.int),.tup (B.map PV.int),.tup (G.map PV.int)] none (some i)))) p2 (.lst [PV.tup (M5.map PV.int)])) p3 (.lst (bO [PV.tup (A.map PV.int),.tup (B.map PV.int),.tup (G.map PV.int)] none (some i)++[PV.tup (M5.map PV.int)]))=Hx at *;refine⟨_,x3 _ _ ha,fun p4 hp4=>⟨_,_,(au (aB e3 hp4)).trans e3,rfl,ah (by rw[Jr,JZ];symm),fun p5 hp5=>?_⟩⟩;have x4:=x3.put (o:=.lst (bO [PV.tup (A.map PV.int),.tup (B.map PV.int),.tup (G.map PV.int)] (some (i+1)) none)) (x3.free hp4);refine⟨_,Sub.refl _,h p5 _ A' B' G' (x4.put (x4.free hp5)) ?_ l1 l2 l3⟩;rw[ao,ec]
     ac_rfl;refine aV (fun _=>?_) (fun _=>key M4 (by symm));obtain⟨m,em,lm⟩:=yM M4;rw[em];exact key m (by symm)
    ac_rfl;refine aV (fun _=>?_) (fun _=>key M3 (by symm));refine⟨vS (by decide) (by decide),⟨by decide,by decide,by decide⟩,DD,ah (by decide),ah (by rw[Jl];exact JY (Nat.add_le_add_right l3 _) (J0 rfl)),?_⟩;have:=key (M3++[c+(u.fdiv 27).fmod (10 ^ Int.toNat 30)]) (by rw[Jr,JZ];symm);rw[JB]at this;exact this
   ac_rfl;refine aV (fun _=>?_) (fun _=>key M2 (by symm));obtain⟨m,em,lm,_⟩:=vj PV.int M2;rw[em,← JB];exact⟨ah (by simp only[Jl];symm),key _ (by rw[Jr];symm)⟩
  ac_rfl;refine aV (fun _=>?_) (fun _=>key M1 (by symm));exact⟨ah (by decide),key [] (by simp)⟩
 ac_rfl;refine aV (fun _=>?_) (fun _=>key M0 (by symm));refine⟨cdvB3,_,ha,?_⟩;obtain⟨M',eM',lM'⟩:=DJ (A:=A) (B:=B) (G:=G) (fm (a:=i+1) (b:=3) (by decide)).1 (fm (a:=i+1) (b:=3) (by decide)).2 hA hB hG;rw[eM'];ac_rfl;exact key M' (by symm)
theorem GX(T:Tx K mg t):aG P w K mg base CX0 12 t.a_yo t.d_yo ["_law_kind","_law_drawn","_law_sets"] pV:=by
 refine okU (k:=11) T.F_yo kP (fun vs H Q E h=>a8 h) (fun cdv A outer s H E B hr=>⟨_,(af (aN (cN dG dC (az ax aW rfl T.b_len JJ (aa (cE (N2:=Dl) (nt:=1) (js:=[1]) (ck (sc:=ai yF)) (aK (qv 2)) (fun _ _ _ _=>⟨(gN 0 G7),(aZ (b4 (br (aA (Ii T) hr.mo rfl T.g_zR T.F_zR.kp T.B_zR (aa (qv 0) (aa (iX (qv 1) aq) ae)))))),(qv 0)⟩)) ae)) aq)
  (ak (ay (bz (aa aJ ae))))
  aC)
  (af (ka (qv 2) (By (n:=3) rfl (aT (gN 3 kP.nd) (aT (gN 4 kP.nd) (aT (gN 5 kP.nd) cg)))))
  (af (sN 6 kP.nd (dh (dh (qv 3) (qv 4)) (qv 5)))
  (af (aN (aX (dE (cN fy fx (mX rfl rfl T.b_len rfl T.b_set boot_set (qv 6)) (az ax aW rfl T.b_len JJ (aa (qv 6) ae))) (dE (cN (aU hr.units) bw (az ax aW rfl T.b_len JJ (aa (qv 3) ae)) aq) (dE (cN (aU hr.units) bw (az ax aW rfl T.b_len JJ (aa (qv 4) ae)) aq) (dm (aX (bV (cN (aU hr.units) bw (qv 0) aq) (bJ (cN dG dC (az ax aW rfl T.b_len JJ (aa (qv 3) ae)) aq)))))))))
  (ak (ay (bz (aa aJ ae))))
  aC)
  (af (aN (aX (bV (cN (aU hr.units) bw (qv 0) aq) (bJ (b4 (br (aA (FV T) hr.mo rfl T.g_yf T.F_yf.kp T.B_yf (aa (qv 1) (aa (qv 3) (aa (qv 4) (aa (qv 5) ae))))))))))
  (ak (ay (bz (aa aJ ae))))
  aC)
  (af (aN (aX (bV (cN (aU hr.units) bw (qv 0) aq) (bJ (b4 (br (aA (Iy T) hr.mo rfl T.g_yc T.F_yc.kp T.B_yc (aa (qv 1) (aa (qv 3) (aa (qv 4) (aa (qv 5) ae))))))))))
  (ak (ay (bz (aa aJ ae))))
  aC)
  (ak (ay (aA (GV T) hr.mo rfl T.g_ym T.F_ym.kp T.B_ym (aa (qv 0) (aa (qv 3) (aa (qv 4) (aa (qv 5) ae))))))))))))),?_⟩)
 injections
 obtain⟨d,_,rfl,l,_,rfl,a,_,rfl,rfl,h⟩:=h;obtain⟨c,ts,bs,A,B,G,hd,e,ok,ha,hA,hB,hG,hZ,hV⟩:=h;unfold tupI at ha;have e0:=e;unfold shp at e;injection e with e;subst e;have c6:=ok.c6;left;refine⟨_,ha,fun acc hacc=>?_⟩;refine aE (fun y=>y) (qA c) (fun σ=>∃z,σ=[z,some (.tup [.int c,.tup (ts.map prV),.tup (bs.map prV)])]) (by simp) (fun _=>(au (aB ha hacc)).trans ha) ?_ ?_ ⟨_,rfl⟩
 ·ac_nf;have sh:∃L:List Int,y=.tup (L.map PV.int)/\L.length≤20:=by
   simp only[JD,Ki,LJ]at hy;rcases hy with rfl | rfl | rfl
   ·exact⟨A,rfl,hA⟩
   ·exact⟨B,rfl,hB⟩
   ·exact⟨G,rfl,hG⟩
  obtain⟨L,rfl,lL⟩:=sh;ac_rfl;refine⟨L,rfl,by symm,fun b hb=>?_⟩;cases b with
  | true=>exact ar rfl (kF (by rw[Bool.eq_false_iff];exact fun z=>(kA.mp z) (hb.mp rfl)) _ ⟨_,rfl⟩)
  | false=>exact av rfl ⟨hl,by rw[aH];exact kT (kA.mpr fun z=>absurd (hb.mpr z) (by decide)) _ ⟨_,rfl⟩⟩
 have s1:=(Sub.refl H).put (o:=.lst (([PV.tup (A.map PV.int),.tup (B.map PV.int),.tup (G.map PV.int)].filter (qA c)).map fun y=>y)) hacc;ac_rfl;have ek:([PV.tup (A.map PV.int),.tup (B.map PV.int),.tup (G.map PV.int)].filter (qA c)=[])↔N3 c A B G:=by
  rw[KQ];simp only[JD,Ki,LJ,forall_eq_or_imp,forall_eq,kA,LA];exact Iff.rfl
 by_cases n3:N3 c A B G
 ·rw[ek.mpr n3]at *;refine ar (by simp) ?_;have s1:=(Sub.refl H).put (o:=.lst []) hacc;show R _ _ (put H acc (.lst []));generalize put H acc (.lst [])=H1 at *;have ha1:=s1 _ _ ha;right;refine⟨_,ha1,rfl,?_⟩;ac_rfl;right;refine⟨ah (by simp only[Jl];symm),ah (by simp only[Jl,Jr];symm),?_⟩;rw[←JB,← JB];subst hR;refine aj fun R hR=>?_;have ng:∀y∈A++B++G,0≤y/\y<6:=fun y hy=>by
   rcases Ju.mp hy with q | q
   ·rcases Ju.mp q with q | q
    ·have:=n3.1.lo y q;symm
    ·have:=n3.2.1.lo y q;symm
   ·have:=n3.2.2.lo y q;symm
  have n6:∀n∈(A++B++G).map Int.toNat,n<6:=fun n hn=>by
   obtain⟨z,hz,rfl⟩:=Jp.mp hn;have:=ng z hz;symm
  have eA:A++(B++(G++[]))=A++B++G:=by simp
  ac_rfl;refine⟨(A++B++G).map Int.toNat,by rw[fP ng],n6,?_⟩;have noset:¬Apd d c A B G->∀r,H1 r=none->∃H3,U.Sub H3 (put H1 r (.lst [PV.str (Str.ofString "NoSets")]))/\Q (.ref r) H3:=fun na r hr=>⟨_,Sub.refl _,hZ "NoSets" (.inr (.inl ⟨n3,na,rfl⟩)) r _ (s1.put (s1.free hr)) ao⟩;by_cases nd:¬(A++B++G).Nodup
  ·have lt:=pj n6 (fun z=>nd ((ke fun x hx=>(ng x hx).1).mp z));rw[Jl]at lt;exact av (by rw[Jl];simp at lt ⊢;symm) ⟨ah (by decide),noset fun ap=>nd (by rw[←eA];exact ap.1.nd)⟩
  have nd:=LA.mp nd;rw[p7 n6 ((ke fun x hx=>(ng x hx).1).mpr nd)];refine ar (by rw[Jl,Jl];simp) ?_;by_cases na:A=[]
  ·exact av (by rw[na];rfl) ⟨ah (by decide),noset fun ap=>ap.1.na na⟩
  refine ar (by rw[Jl];simpa using na) ?_;by_cases nb:B=[]
  ·exact av (by rw[nb];rfl) ⟨ah (by decide),noset fun ap=>ap.1.nb nb⟩
  refine ar (by rw[Jl];simpa using nb) ?_;have ap:Ap c A B G:=(uX n3).mpr ⟨by rw[eA];exact nd,na,nb⟩;have nodoor:Apd d c A B G->¬rP d c ts bs A B G->∀r,H1 r=none->∃H3,U.Sub H3 (put H1 r (.lst [PV.str (Str.ofString "NoDoor")]))/\Q (.ref r) H3:=fun q na r hr=>⟨_,Sub.refl _,hZ "NoDoor" (.inr (.inr ⟨q,na,rfl⟩)) r _ (s1.put (s1.free hr)) ao⟩;rcases hd with rfl | rfl
  ·refine ar rfl ?_;right;have apd:Apd 0 c A B G:=⟨ap,fun z=>(by cases z)⟩;refine av rfl ⟨c,ts,bs,A,B,G,rfl,rfl,rfl,rfl,ok,ap,fun b hb=>?_⟩;refine aV (fun q=>⟨ah (by decide),nodoor apd fun z=>by rw[hb.mpr (z.1 rfl)]at q;cases q⟩) (fun q=>?_);have dr:rP 0 c ts bs A B G:=⟨fun _=>hb.mp (by simpa using q),fun z=>(by cases z)⟩;right;refine ar rfl ?_;subst hR;ac_rfl;exact⟨c,A,B,G,by simp,rfl,rfl,rfl,c6,ap,fun v hv=>⟨_,Sub.refl _,hV apd dr v H1 s1 hv⟩⟩
  ·refine av rfl ?_;rw[Jl];by_cases l1:¬A.length≤1
   ·exact av (J2 (by symm)) ⟨ah (by decide),noset fun q=>l1 (q.2 rfl)⟩
   have l1:=LA.mp l1;refine ar (KG (by symm)) ?_;right;refine ar rfl ?_;right;have apd:Apd 1 c A B G:=⟨ap,fun _=>l1⟩;refine av rfl ⟨c,ts,bs,A,B,G,rfl,rfl,rfl,rfl,ok,ap,fun b hb=>?_⟩;refine aV (fun q=>⟨ah (by decide),nodoor apd fun z=>by rw[hb.mpr (z.2 rfl)]at q;cases q⟩) (fun q=>?_);have dr:rP 1 c ts bs A B G:=⟨fun z=>(by cases z),fun _=>hb.mp (by simpa using q)⟩;subst hR;ac_rfl;exact⟨c,A,B,G,by simp,rfl,rfl,rfl,c6,ap,fun v hv=>⟨_,Sub.refl _,hV apd dr v H1 s1 hv⟩⟩
 ·have ne:[PV.tup (A.map PV.int),.tup (B.map PV.int),.tup (G.map PV.int)].filter (qA c)≠[]:=fun z=>n3 (ek.mp z);refine av (J2 (by rw[Jl];have:=List.length_pos_iff.mpr ne;symm)) ⟨ah (by decide),fun r hr=>⟨_,Sub.refl _,hZ "NoName" (.inl ⟨n3,rfl⟩) r _ (s1.put (s1.free hr)) ao⟩⟩
theorem FW(T:Tx K mg t):aG P w K mg base CX0 15 t.a_yw t.d_yw ["_law_script"] spL:=by
 refine okU (k:=14) T.F_yw gF (fun vs H Q E h=>by
  unfold spL at h;split at h
  ·rfl
  ·exact h.elim) (fun cdv A outer s H E B hr=>⟨_,(af (sN 1 gF.nd (cc aq (b7 (aA (xW T) hr.mo rfl T.g_zL T.F_zL.kp T.B_zL (aa (qv 0) (aa aq ae))) aq)))
  (af (sN 2 gF.nd (aA (Hh T) hr.mo rfl T.g_zC T.F_zC.kp T.B_zC (aa (qv 0) (aa aq (aa (qv 1) ae)))))
  (af (sN 3 gF.nd (kr T.mk_D (EL T) hr.mo rfl T.g_D T.B_zD (aa (qv 1) (aa (aO bL dR rfl T.b_list boot_list (aa (iX (qv 2) aq) ae)) (aa (aO bL dR rfl T.b_list boot_list (aa (iX (qv 2) aq) ae)) ae)))))
  (af (bM JW rfl (jr rfl T.b_range (aa aq (aa aq ae))) (gN 4 gF.nd)
  (af (sN 5 gF.nd (dY (aA (DB T) hr.mo rfl T.g_zz T.F_zz.kp T.B_zz (aa (aA (DB T) hr.mo rfl T.g_zz T.F_zz.kp T.B_zz (aa (aA (Gi T) hr.mo rfl T.g_ye T.F_ye.kp T.B_ye (aa (aA (xW T) hr.mo rfl T.g_zL T.F_zL.kp T.B_zL (aa (qv 0) (aa (qv 4) ae))) (aa (qv 1) (aa aq ae)))) (aa aq ae))) (aa aq ae))) cP (cQ aq)))
   (af (sN 5 gF.nd (aA (Hm T) hr.mo rfl T.g_yh T.F_yh.kp T.B_yh (aa (qv 5) (aa (aA (xW T) hr.mo rfl T.g_zL T.F_zL.kp T.B_zL (aa (qv 0) (aa (cc aq (qv 4)) ae))) (aa (qv 1) ae)))))
   (ak (bM JW rfl (aK (bz (aa aq (aa aq (aa aq (aa aq ae)))))) (gN 6 gF.nd)
   (ak (aN (b4 (br (aA (Ee T 12) hr.mo rfl T.g_yk T.F_yk.kp T.B_yk (aa (aA (GF T) hr.mo rfl T.g_zT T.F_zT.kp T.B_zT (aa (qv 6) (aa (qv 3) (aa (qv 5) ae)))) (aa (aA (GX T) hr.mo rfl T.g_yo T.F_yo.kp T.B_yo (aa (qv 6) (aa (qv 2) (aa (qv 5) ae)))) ae)))))
    (ak (ay bI))
    aC)))))))
  (ak (ay bI)))))),?_⟩)
 intro vs H Q E h;unfold spL at h;split at h
 ·rename_i l;obtain⟨ns,rfl,hl,h⟩:=h;left;refine⟨⟨by decide,by decide⟩,ns,rfl,by decide,?_⟩;have hc:=fm (a:=ns.getD (Int.toNat 0) 0) (b:=5) (by decide);generalize hcc:2+(ns.getD (Int.toNat 0) 0).fmod 5=c at *;have c2:1≤c/\c≤6:=by symm
  right;refine⟨⟨by decide,by decide⟩,c2,ns,rfl,fun ts bs ok=>?_⟩;subst hR;unfold shp;left;intro p5 hp5;refine fun p6 hp6 x dx hx hdx nd=>?_;have n56:p5≠p6:=fun e=>by subst e;rw[ao]at hp6;cases hp6
  have sa:=(Sub.refl H).put (o:=.lst (ts.map prV)) hp5;have sb:=sa.put (o:=.lst (bs.map prV)) (sa.free hp6);have i1:put (put H p5 (.lst (ts.map prV))) p6 (.lst (bs.map prV)) p5=some (.lst (ts.map prV)):=(au n56).trans ao;have i2:put (put H p5 (.lst (ts.map prV))) p6 (.lst (bs.map prV)) p6=some (.lst (bs.map prV)):=ao;generalize put (put H p5 (.lst (ts.map prV))) p6 (.lst (bs.map prV))=H6 at *;have sc:=(Sub.refl H6).put (o:=.ins t.a_D dx []) hx;refine⟨dx,_,_,ts,bs,rfl,sc _ _ i1,sc _ _ i2,c8,c8,ok.gt,ok.gb,⟨by symm,c2.2,ok.b6⟩,fun T1 B1 pT sT pB sB=>?_⟩;rw[aH];have eT:=DM.eJ (K6 _) ok.st pT sT;have eB:=DM.eJ (K6 _) ok.sb pB sB;subst eT;subst eB;have sd:=sb.put (o:=.ins t.a_D dx (DF c ts bs)) (sb.free hx);have x3:put H6 x (.ins t.a_D dx (DF c ts bs)) x=some (.ins t.a_D dx (DF c ts bs)):=ao;generalize put H6 x (.ins t.a_D dx (DF c ts bs))=H7 at *;right;refine⟨⟨by decide,by decide,by decide,by decide⟩,?_⟩;refine dg (fun i σ H9=>∃z1 z2 z3,σ=[some (.fls (ns.map PV.int)),some (.int c),some (.tup [.int c,.tup (ts.map prV),.tup (bs.map prV)]),some (.ref x),z1,z2,z3]/\U.Sub H7 H9) ?_ ?_ ⟨none,none,none,rfl,Sub.refl _⟩
  ·rintro σ H9 ⟨z1,z2,z3,rfl,s9⟩;refine⟨trivial,?_⟩;subst hR;ac_rfl;exact⟨H,sd.trans s9,h⟩
  ·rintro N i σ H9 hi ⟨z1,z2,z3,rfl,s9⟩ kk;refine⟨trivial,?_⟩;have hi:i<18:=hi;refine aj fun R1 hR1=>?_;ac_rfl;refine⟨⟨by symm,by symm⟩,ns,rfl,c2,⟨by decide,by decide⟩,fun r1 Ha L1 _ sa1 er1 pt1=>?_⟩;have pt1:Pt 4 c L1:=pt1;refine⟨4,c,L1,er1,pt1,c2,by decide,⟨by decide,by decide⟩,fun r2 Hb L2 sb1 er2 pt2 _=>?_⟩;refine⟨4,c,L2,er2,pt2,c2,by decide,⟨by decide,by decide⟩,fun r3 Hc L3 sc1 er3 pt3 _=>?_⟩;obtain⟨A,B,G,W,rfl⟩:∃A B G W,L3=[A,B,G,W]:=by
    have:=pt3.len
    match L3,this with
    | [A,B,G,W],_=>exact⟨A,B,G,W,rfl⟩
   have nm:=pt3.nms;have lA:=(nm A (by simp)).len c2.2;have lB:=(nm B (by simp)).len c2.2;have lG:=(nm G (by simp)).len c2.2;refine⟨_,er3,fun p hp=>?_⟩;have ec:bO ([A,B,G,W].map tupI) none (some 3)=[tupI A,tupI B,tupI G]:=rfl;rw[ec];have s9c:=s9.trans (sa1.trans (sb1.trans sc1));have s10:=s9c.put (o:=.lst [tupI A,tupI B,tupI G]) (s9c.free hp);have e10:put Hc p (.lst [tupI A,tupI B,tupI G]) p=some (.lst [tupI A,tupI B,tupI G]):=ao;generalize put Hc p (.lst [tupI A,tupI B,tupI G])=Hd at *;subst hR1;refine aj fun R1 hR1=>?_;ac_rfl;refine⟨⟨by symm,by symm⟩,ns,rfl,A,B,G,c2,e10,lA,lB,lG,fun r4 He A' B' G' se er4 l1 l2 l3=>?_⟩;have s11:=s10.trans se;subst hR1;ac_rfl;refine⟨ah (by decide),fun q hq=>?_⟩;have s13:=s11.put (o:=.lst [PV.int 0,.int 1,.int 0,.int 1]) (s11.free hq);have e13:put He q (.lst [PV.int 0,.int 1,.int 0,.int 1]) q=some (.lst [PV.int 0,.int 1,.int 0,.int 1]):=ao;have er5:put He q (.lst [PV.int 0,.int 1,.int 0,.int 1]) r4=some (.lst [tupI A',tupI B',tupI G']):=(au (aB er4 hq)).trans er4;generalize put He q (.lst [PV.int 0,.int 1,.int 0,.int 1])=Hf at *;refine cy (fun j σ H13=>∃z5,σ=[some (.fls (ns.map PV.int)),some (.int c),some (.tup [.int c,.tup (ts.map prV),.tup (bs.map prV)]),some (.ref x),some (.int (2+(i:Nat))),some (.ref r4),z5]/\U.Sub Hf H13) ?_ ?_ ⟨_,rfl,Sub.refl _⟩
   ·rintro σ H13 ⟨z5,rfl,s14⟩;exact⟨s14 _ _ e13,kk _ _ ⟨_,_,_,rfl,s13.trans s14⟩⟩
   ·rintro M j y σ H13 hy ⟨z5,rfl,s14⟩ kk2;refine⟨s14 _ _ e13,?_⟩;have sh:∃d:Int,y=.int d/\(d=0∨d=1):=by
     have:=JH hy;simp only[JD,Ki,LJ]at this;rcases this with rfl | rfl | rfl | rfl
     ·exact⟨0,rfl,.inl rfl⟩
     ·exact⟨1,rfl,.inr rfl⟩
     ·exact⟨0,rfl,.inl rfl⟩
     ·exact⟨1,rfl,.inr rfl⟩
    obtain⟨d,rfl,hd⟩:=sh;ac_rfl;refine⟨c,ts,bs,A',B',G',hd,⟨dx,s14 _ _ (s13 _ _ x3)⟩,ok,s14 _ _ er5,fun nm rz r3 H14 s15 e14=>?_,fun apd dor v H14 s15 fm=>?_⟩
    ·refine⟨c,ts,bs,A',B',G',hd,rfl,ok,s15 _ _ (s14 _ _ er5),l1,l2,l3,fun nm2 rz2 r4 H15 s16 e15=>?_,fun apd dor=>(rz.no apd dor).elim⟩;have e:=rz.one rz2;subst e;refine⟨?_,kk2 _ _ ⟨_,rfl,s14.trans (s15.trans s16)⟩⟩;exact⟨_,_,s16 _ _ e14,e15,J0 rfl,.cons oF .nil⟩
    ·refine⟨c,ts,bs,A',B',G',hd,rfl,ok,s15 _ _ (s14 _ _ er5),l1,l2,l3,fun nm2 rz2=>(rz2.no apd dor).elim,fun _ _ v2 H15 s16 fm2=>?_⟩;have e:=fm.one hd fm2;subst e;exact⟨CC hd c2.2 apd.1 fm,kk2 _ _ ⟨_,rfl,s14.trans (s15.trans s16)⟩⟩
 ·exact h.elim
end
theorem lp(h:∀a,bindArgs fd ⟨[a],[]⟩=pure (List.zip ps [a]))(us:List Value)(hl:us.length=1):bindArgs fd ⟨us,[]⟩=pure (List.zip ps us):=Eh (P:=fun us=>bindArgs fd ⟨us,[]⟩=pure (List.zip ps us)) h us hl
theorem cn(h:∀a b,bindArgs fd ⟨[a,b],[]⟩=pure (List.zip ps [a,b]))(us:List Value)(hl:us.length=2):bindArgs fd ⟨us,[]⟩=pure (List.zip ps us):=Ef (P:=fun us=>bindArgs fd ⟨us,[]⟩=pure (List.zip ps us)) h us hl
theorem iP(h:∀a b c,bindArgs fd ⟨[a,b,c],[]⟩=pure (List.zip ps [a,b,c]))(us:List Value)(hl:us.length=3):bindArgs fd ⟨us,[]⟩=pure (List.zip ps us):=EG (P:=fun us=>bindArgs fd ⟨us,[]⟩=pure (List.zip ps us)) h us hl
theorem eQ(h:∀a b c d,bindArgs fd ⟨[a,b,c,d],[]⟩=pure (List.zip ps [a,b,c,d]))(us:List Value)(hl:us.length=4):bindArgs fd ⟨us,[]⟩=pure (List.zip ps us):=FH (P:=fun us=>bindArgs fd ⟨us,[]⟩=pure (List.zip ps us)) h us hl
open PySem.W in
theorem n8{K:Frag}{h:Heap}{mg:Str->Option Value}{f_yq f_zZ f_yt f_zK f_yp f_yl f_zD f_zc f_ze f_zh f_zb f_zd f_za f_zt f_zx f_zg f_ya f_zQ f_zA f_zB f_zj f_zS f_zN f_yj f_yi f_zV f_zF f_zO f_zG f_zy f_zn f_zu f_zU f_ys f_zI f_zE f_zf f_zm f_zJ f_zv f_zr f_zL f_zX f_zC f_yb f_yd f_yr f_zw f_zM f_yg f_ye f_zz f_yf f_yc f_zY f_yk f_zT f_zR f_ym f_yo f_yh f_yw k_A k_B k_C k_D k_E k_F k_G k_H k_I k_J k_K k_L k_M k_N k_O k_P k_Q k_R k_S k_T k_U k_V:Addr}(X:K.In h)(G:h.Ns mainGlobals mg)
  {d_yq d_zZ d_yt d_zK d_yp d_yl d_zD d_zc d_ze d_zh d_zb d_zd d_za d_zt d_zx d_zg d_ya d_zQ d_zA d_zB d_zj d_zS d_zN d_yj d_yi d_zV d_zF d_zO d_zG d_zy d_zn d_zu d_zU d_ys d_zI d_zE d_zf d_zm d_zJ d_zv d_zr d_zL d_zX d_zC d_yb d_yd d_yr d_zw d_zM d_yg d_ye d_zz d_yf d_yc d_zY d_yk d_zT d_zR d_ym d_yo d_yh d_yw:FuncData}
  {tk_MOST_BOWS tk_MOST_NAMES:Tok}
  (C_A:nX1 K "BadPaper" k_A)
  (C_B:nX1 K "BadStep" k_B)
  (C_C:nX1 K "DoingError" k_C)
  (C_D:nX1 K "Drawing" k_D)
  (C_E:nX1 K "NoAnswer" k_E)
  (C_F:nX1 K "NoBow" k_F)
  (C_G:nX1 K "NoCount" k_G)
  (C_H:nX1 K "NoDoor" k_H)
  (C_I:nX1 K "NoFormula" k_I)
  (C_J:nX1 K "NoFraction" k_J)
  (C_K:nX1 K "NoName" k_K)
  (C_L:nX1 K "NoNest" k_L)
  (C_M:nX1 K "NoQuestion" k_M)
  (C_N:nX1 K "NoRoad" k_N)
  (C_O:nX1 K "NoRule" k_O)
  (C_P:nX1 K "NoSets" k_P)
  (C_Q:nX1 K "NoShare" k_Q)
  (C_R:nX1 K "NoText" k_R)
  (C_S:nX1 K "NoThinning" k_S)
  (C_T:nX1 K "NoTie" k_T)
  (C_U:nX1 K "NoValue" k_U)
  (C_V:nX1 K "NoWorld" k_V)
  (a_yq:nX1 K "is_pair" f_yq)
  (l_yq:Fun K "is_pair" "is_pair" BA f_yq d_yq)
  (a_zZ:nX1 K "are_pairs" f_zZ)
  (l_zZ:Fun K "are_pairs" "are_pairs" xc f_zZ d_zZ)
  (a_yt:nX1 K "is_set" f_yt)
  (l_yt:Fun K "is_set" "is_set" Ar f_yt d_yt)
  (a_zK:nX1 K "names_up_to" f_zK)
  (l_zK:Fun K "names_up_to" "names_up_to" Bw f_zK d_zK)
  (a_yp:nX1 K "without" f_yp)
  (l_yp:Fun K "without" "without" xh f_yp d_yp)
  (a_yl:nX1 K "together" f_yl)
  (l_yl:Fun K "together" "together" BU f_yl d_yl)
  (a_zD:fX1 K k_D "__init__" f_zD)
  (i_zD:isFn K (.ref f_zD)=true)
  (l_zD:Fun K "__init__" "Drawing.__init__" rV f_zD d_zD)
  (a_zc:fX1 K k_D "need_name" f_zc)
  (i_zc:isFn K (.ref f_zc)=true)
  (l_zc:Fun K "need_name" "Drawing.need_name" AE f_zc d_zc)
  (a_ze:fX1 K k_D "need_set" f_ze)
  (i_ze:isFn K (.ref f_ze)=true)
  (l_ze:Fun K "need_set" "Drawing.need_set" A7 f_ze d_ze)
  (a_zh:fX1 K k_D "sources" f_zh)
  (i_zh:isFn K (.ref f_zh)=true)
  (l_zh:Fun K "sources" "Drawing.sources" yX f_zh d_zh)
  (a_zb:fX1 K k_D "followers" f_zb)
  (i_zb:isFn K (.ref f_zb)=true)
  (l_zb:Fun K "followers" "Drawing.followers" xp f_zb d_zb)
  (a_zd:fX1 K k_D "ancestors" f_zd)
  (i_zd:isFn K (.ref f_zd)=true)
  (l_zd:Fun K "ancestors" "Drawing.ancestors" BV f_zd d_zd)
  (a_za:fX1 K k_D "descendants" f_za)
  (i_za:isFn K (.ref f_za)=true)
  (l_za:Fun K "descendants" "Drawing.descendants" AL f_za d_za)
  (a_zt:fX1 K k_D "bowed" f_zt)
  (i_zt:isFn K (.ref f_zt)=true)
  (l_zt:Fun K "bowed" "Drawing.bowed" uw f_zt d_zt)
  (a_zx:fX1 K k_D "part" f_zx)
  (i_zx:isFn K (.ref f_zx)=true)
  (l_zx:Fun K "part" "Drawing.part" ui f_zx d_zx)
  (a_zg:fX1 K k_D "cut_out" f_zg)
  (i_zg:isFn K (.ref f_zg)=true)
  (l_zg:Fun K "cut_out" "Drawing.cut_out" x6 f_zg d_zg)
  (a_ya:nX1 K "need_sets" f_ya)
  (l_ya:Fun K "need_sets" "need_sets" Ag f_ya d_ya)
  (a_zQ:nX1 K "need_apart" f_zQ)
  (l_zQ:Fun K "need_apart" "need_apart" B5 f_zQ d_zQ)
  (a_zA:nX1 K "need_barring" f_zA)
  (l_zA:Fun K "need_barring" "need_barring" B8 f_zA d_zA)
  (a_zB:nX1 K "points_at_to" f_zB)
  (l_zB:Fun K "points_at_to" "points_at_to" zX f_zB d_zB)
  (a_zj:nX1 K "points_at_from" f_zj)
  (l_zj:Fun K "points_at_from" "points_at_from" Bh f_zj d_zj)
  (a_zS:nX1 K "is_meeting" f_zS)
  (l_zS:Fun K "is_meeting" "is_meeting" Bq f_zS d_zS)
  (a_zN:nX1 K "steps_from" f_zN)
  (l_zN:Fun K "steps_from" "steps_from" qY f_zN d_zN)
  (a_yj:nX1 K "names_on" f_yj)
  (l_yj:Fun K "names_on" "names_on" wQ f_yj d_yj)
  (a_yi:nX1 K "meetings" f_yi)
  (l_yi:Fun K "meetings" "meetings" yt f_yi d_yi)
  (a_zV:nX1 K "is_passed" f_zV)
  (l_zV:Fun K "is_passed" "is_passed" Be f_zV d_zV)
  (a_zF:nX1 K "asked_beside" f_zF)
  (l_zF:Fun K "asked_beside" "asked_beside" qC f_zF d_zF)
  (a_zO:nX1 K "least_shut" f_zO)
  (l_zO:Fun K "least_shut" "least_shut" ya f_zO d_zO)
  (a_zG:nX1 K "first_roads" f_zG)
  (l_zG:Fun K "first_roads" "first_roads" wV f_zG d_zG)
  (a_zy:nX1 K "longer_roads" f_zy)
  (l_zy:Fun K "longer_roads" "longer_roads" AX f_zy d_zy)
  (a_zn:nX1 K "shortest_road" f_zn)
  (l_zn:Fun K "shortest_road" "shortest_road" sj f_zn d_zn)
  (a_zu:nX1 K "shortest_way" f_zu)
  (l_zu:Fun K "shortest_way" "shortest_way" rL f_zu d_zu)
  (a_zU:nX1 K "ways_down" f_zU)
  (l_zU:Fun K "ways_down" "ways_down" wO f_zU d_zU)
  (a_ys:nX1 K "barred" f_ys)
  (l_ys:Fun K "barred" "barred" wK f_ys d_ys)
  (a_zI:nX1 K "sum_formula" f_zI)
  (l_zI:Fun K "sum_formula" "sum_formula" Bj f_zI d_zI)
  (a_zE:nX1 K "is_back_door" f_zE)
  (l_zE:Fun K "is_back_door" "is_back_door" yo f_zE d_zE)
  (a_zf:nX1 K "stops_roads_down" f_zf)
  (l_zf:Fun K "stops_roads_down" "stops_roads_down" yR f_zf d_zf)
  (a_zm:nX1 K "is_front_door" f_zm)
  (l_zm:Fun K "is_front_door" "is_front_door" Cd f_zm d_zm)
  (a_zJ:nX1 K "share_given" f_zJ)
  (l_zJ:Fun K "share_given" "share_given" Bt f_zJ d_zJ)
  (a_zv:nX1 K "back_formula" f_zv)
  (l_zv:Fun K "back_formula" "back_formula" A6 f_zv d_zv)
  (a_zr:nX1 K "front_formula" f_zr)
  (l_zr:Fun K "front_formula" "front_formula" Cb f_zr d_zr)
  (a_zL:nX1 K "_law_cell_at" f_zL)
  (l_zL:Fun K "_law_cell_at" "_law_cell_at" BK f_zL d_zL)
  (a_zX:nX1 K "_law_mixed" f_zX)
  (l_zX:Fun K "_law_mixed" "_law_mixed" AS f_zX d_zX)
  (a_zC:nX1 K "_law_pairs_of" f_zC)
  (l_zC:Fun K "_law_pairs_of" "_law_pairs_of" A8 f_zC d_zC)
  (a_yb:nX1 K "_law_above" f_yb)
  (l_yb:Fun K "_law_above" "_law_above" AK f_yb d_yb)
  (a_yd:nX1 K "_law_below" f_yd)
  (l_yd:Fun K "_law_below" "_law_below" Aj f_yd d_yd)
  (a_yr:nX1 K "_law_cut" f_yr)
  (l_yr:Fun K "_law_cut" "_law_cut" uG f_yr d_yr)
  (a_zw:nX1 K "_law_asked_by" f_zw)
  (l_zw:Fun K "_law_asked_by" "_law_asked_by" oy f_zw d_zw)
  (a_zM:nX1 K "_law_reached" f_zM)
  (l_zM:Fun K "_law_reached" "_law_reached" xC f_zM d_zM)
  (a_yg:nX1 K "_law_bars" f_yg)
  (l_yg:Fun K "_law_bars" "_law_bars" wD f_yg d_yg)
  (a_ye:nX1 K "_law_roles" f_ye)
  (l_ye:Fun K "_law_roles" "_law_roles" tH f_ye d_ye)
  (a_zz:nX1 K "_law_moved_to" f_zz)
  (l_zz:Fun K "_law_moved_to" "_law_moved_to" AR f_zz d_zz)
  (a_yf:nX1 K "_law_back" f_yf)
  (l_yf:Fun K "_law_back" "_law_back" xr f_yf d_yf)
  (a_yc:nX1 K "_law_front" f_yc)
  (l_yc:Fun K "_law_front" "_law_front" xE f_yc d_yc)
  (a_zY:nX1 K "_law_kinds" f_zY)
  (l_zY:Fun K "_law_kinds" "_law_kinds" xi f_zY d_zY)
  (a_yk:nX1 K "_law_same" f_yk)
  (l_yk:Fun K "_law_same" "_law_same" zZ f_yk d_yk)
  (a_zT:nX1 K "_law_asked" f_zT)
  (l_zT:Fun K "_law_asked" "_law_asked" A4 f_zT d_zT)
  (a_zR:nX1 K "_law_is_set" f_zR)
  (l_zR:Fun K "_law_is_set" "_law_is_set" Au f_zR d_zR)
  (a_ym:nX1 K "_law_made" f_ym)
  (l_ym:Fun K "_law_made" "_law_made" BX f_ym d_ym)
  (a_yo:nX1 K "_law_due" f_yo)
  (l_yo:Fun K "_law_due" "_law_due" yF f_yo d_yo)
  (a_yh:nX1 K "_law_bent" f_yh)
  (l_yh:Fun K "_law_bent" "_law_bent" AJ f_yh d_yh)
  (a_yw:nX1 K "law" f_yw)
  (l_yw:Fun K "law" "law" BJ f_yw d_yw)
  (pg_D:plainGet K k_D Str.empty=true)
  (hd_D:hasDictIn K k_D=true)
  (po_D:plainOver K k_D=true)
  (sa_D:findIn K (.ref k_D) "__setattr__"=some (some (.builtin "object.__setattr__")))
  (mk_D:makesIn K k_D=true)
  (kc_D:keepIn K (.ref k_D)=true)
  (xe_C:excIn K k_C [.type "ValueError",.type "Exception",.type "BaseException",.type "object"] "ValueError.__new__"=true)
  (xo_C:mroIn K k_C (.type "object")=some true)
  (xb_C:mroIn K k_C (.type "BaseException")=some true)
  (xg_C:findIn K (.ref k_C) "__getattribute__"=some (some (.builtin "BaseException.__getattribute__")))
  (xt_C:findIn K (.ref k_C) "__getattr__"=some none)
  (xc_C:findIn K (.ref k_C) "__class__"=some (some (.builtin "object.__class__")))
  (xe_H:excIn K k_H [.type "ValueError",.type "Exception",.type "BaseException",.type "object"] "ValueError.__new__"=true)
  (xo_H:mroIn K k_H (.type "object")=some true)
  (xb_H:mroIn K k_H (.type "BaseException")=some true)
  (xg_H:findIn K (.ref k_H) "__getattribute__"=some (some (.builtin "BaseException.__getattribute__")))
  (xt_H:findIn K (.ref k_H) "__getattr__"=some none)
  (xc_H:findIn K (.ref k_H) "__class__"=some (some (.builtin "object.__class__")))
  (xe_K:excIn K k_K [.type "ValueError",.type "Exception",.type "BaseException",.type "object"] "ValueError.__new__"=true)
  (xo_K:mroIn K k_K (.type "object")=some true)
  (xb_K:mroIn K k_K (.type "BaseException")=some true)
  (xg_K:findIn K (.ref k_K) "__getattribute__"=some (some (.builtin "BaseException.__getattribute__")))
  (xt_K:findIn K (.ref k_K) "__getattr__"=some none)
  (xc_K:findIn K (.ref k_K) "__class__"=some (some (.builtin "object.__class__")))
  (xe_P:excIn K k_P [.type "ValueError",.type "Exception",.type "BaseException",.type "object"] "ValueError.__new__"=true)
  (xo_P:mroIn K k_P (.type "object")=some true)
  (xb_P:mroIn K k_P (.type "BaseException")=some true)
  (xg_P:findIn K (.ref k_P) "__getattribute__"=some (some (.builtin "BaseException.__getattribute__")))
  (xt_P:findIn K (.ref k_P) "__getattr__"=some none)
  (xc_P:findIn K (.ref k_P) "__class__"=some (some (.builtin "object.__class__")))
  (s_K:mroIn K k_K (.ref k_C)=some true)
  (s_P:mroIn K k_P (.ref k_C)=some true)
  (s_H:mroIn K k_H (.ref k_C)=some true)
  (kkK_:kitOne K (.ref k_K) (.type "ValueError")=some true)
  (kk_K:mE K (.ref k_K) [.ref k_J,.ref k_G,.ref k_T,.ref k_F,.ref k_K,.ref k_P,.ref k_V,.ref k_U,.ref k_Q,.ref k_N,.ref k_O,.ref k_A,.ref k_L,.ref k_H,.ref k_S,.ref k_E,.ref k_M,.ref k_I,.ref k_B,.ref k_R] [false,false,false,false,true,false,false,false,false,false,false,false,false,false,false,false,false,false,false,false])
  (kkP_:kitOne K (.ref k_P) (.type "ValueError")=some true)
  (kk_P:mE K (.ref k_P) [.ref k_J,.ref k_G,.ref k_T,.ref k_F,.ref k_K,.ref k_P,.ref k_V,.ref k_U,.ref k_Q,.ref k_N,.ref k_O,.ref k_A,.ref k_L,.ref k_H,.ref k_S,.ref k_E,.ref k_M,.ref k_I,.ref k_B,.ref k_R] [false,false,false,false,false,true,false,false,false,false,false,false,false,false,false,false,false,false,false,false])
  (kkH_:kitOne K (.ref k_H) (.type "ValueError")=some true)
  (kk_H:mE K (.ref k_H) [.ref k_J,.ref k_G,.ref k_T,.ref k_F,.ref k_K,.ref k_P,.ref k_V,.ref k_U,.ref k_Q,.ref k_N,.ref k_O,.ref k_A,.ref k_L,.ref k_H,.ref k_S,.ref k_E,.ref k_M,.ref k_I,.ref k_B,.ref k_R] [false,false,false,false,false,false,false,false,false,false,false,false,false,true,false,false,false,false,false,false])
  (z_ValueError:nX2 K "ValueError")
  (z_all:nX2 K "all")
  (z_any:nX2 K "any")
  (z_bool:nX2 K "bool")
  (z_int:nX2 K "int")
  (z_isinstance:nX2 K "isinstance")
  (z_len:nX2 K "len")
  (z_list:nX2 K "list")
  (z_range:nX2 K "range")
  (z_reversed:nX2 K "reversed")
  (z_set:nX2 K "set")
  (z_sorted:nX2 K "sorted")
  (z_str:nX2 K "str")
  (z_tuple:nX2 K "tuple")
  (z_zip:nX2 K "zip")
  (v_MOST_BOWS:nsIn K mainGlobals "MOST_BOWS"=some (some (.int 6 tk_MOST_BOWS)))
  (v_MOST_NAMES:nsIn K mainGlobals "MOST_NAMES"=some (some (.int 6 tk_MOST_NAMES)))
  (nD_bows:findIn K (.ref k_D) "bows"=some none)
  (nD_count:findIn K (.ref k_D) "count"=some none)
  (nD_ties:findIn K (.ref k_D) "ties"=some none) :
  ∃t:Ad,Tx K mg t/\t.a_yw=f_yw/\∀(s:Shared) (v:Value),BindsTo s t.d_yw ⟨[v],[]⟩ [("_law_script",v)]:=by
 obtain⟨oc,od,kV,doc,pm,an,cdv,ct,osl,rfl,lk,hcd⟩:=l_yw.ex;exact⟨⟨f_yq,_,f_zZ,_,f_yt,_,f_zK,_,f_yp,_,f_yl,_,f_zD,_,f_zc,_,f_ze,_,f_zh,_,f_zb,_,f_zd,_,f_za,_,f_zt,_,f_zx,_,f_zg,_,f_ya,_,f_zQ,_,f_zA,_,f_zB,_,f_zj,_,f_zS,_,f_zN,_,f_yj,_,f_yi,_,f_zV,_,f_zF,_,f_zO,_,f_zG,_,f_zy,_,f_zn,_,f_zu,_,f_zU,_,f_ys,_,f_zI,_,f_zE,_,f_zf,_,f_zm,_,f_zJ,_,f_zv,_,f_zr,_,f_zL,_,f_zX,_,f_zC,_,f_yb,_,f_yd,_,f_yr,_,f_zw,_,f_zM,_,f_yg,_,f_ye,_,f_zz,_,f_yf,_,f_yc,_,f_zY,_,f_yk,_,f_zT,_,f_zR,_,f_ym,_,f_yo,_,f_yh,_,f_yw,_,k_A,k_B,k_C,k_D,k_E,k_F,k_G,k_H,k_I,k_J,k_K,k_L,k_M,k_N,k_O,k_P,k_Q,k_R,k_S,k_T,k_U,k_V⟩,⟨l_yq,
  l_yq.binds fun _ _ _ _ _ _=>cn fun _ _=>rfl,
  mg_of X G a_yq,
  l_zZ,
  l_zZ.binds fun _ _ _ _ _ _=>cn fun _ _=>rfl,
  mg_of X G a_zZ,
  l_yt,
  l_yt.binds fun _ _ _ _ _ _=>cn fun _ _=>rfl,
  mg_of X G a_yt,
  l_zK,
  l_zK.binds fun _ _ _ _ _ _=>lp fun _=>rfl,
  mg_of X G a_zK,
  l_yp,
  l_yp.binds fun _ _ _ _ _ _=>cn fun _ _=>rfl,
  mg_of X G a_yp,
  l_yl,
  l_yl.binds fun _ _ _ _ _ _=>cn fun _ _=>rfl,
  mg_of X G a_yl,
  l_zD,
  l_zD.binds fun _ _ _ _ _ _=>eQ fun _ _ _ _=>rfl,
  l_zc,
  l_zc.binds fun _ _ _ _ _ _=>cn fun _ _=>rfl,
  ⟨a_zc,i_zc,l_zc.kp⟩,
  l_ze,
  l_ze.binds fun _ _ _ _ _ _=>cn fun _ _=>rfl,
  ⟨a_ze,i_ze,l_ze.kp⟩,
  l_zh,
  l_zh.binds fun _ _ _ _ _ _=>cn fun _ _=>rfl,
  ⟨a_zh,i_zh,l_zh.kp⟩,
  l_zb,
  l_zb.binds fun _ _ _ _ _ _=>cn fun _ _=>rfl,
  ⟨a_zb,i_zb,l_zb.kp⟩,
  l_zd,
  l_zd.binds fun _ _ _ _ _ _=>cn fun _ _=>rfl,
  ⟨a_zd,i_zd,l_zd.kp⟩,
  l_za,
  l_za.binds fun _ _ _ _ _ _=>cn fun _ _=>rfl,
  ⟨a_za,i_za,l_za.kp⟩,
  l_zt,
  l_zt.binds fun _ _ _ _ _ _=>cn fun _ _=>rfl,
  ⟨a_zt,i_zt,l_zt.kp⟩,
  l_zx,
  l_zx.binds fun _ _ _ _ _ _=>cn fun _ _=>rfl,
  ⟨a_zx,i_zx,l_zx.kp⟩,
  l_zg,
  l_zg.binds fun _ _ _ _ _ _=>cn fun _ _=>rfl,
  ⟨a_zg,i_zg,l_zg.kp⟩,
  l_ya,
  l_ya.binds fun _ _ _ _ _ _=>cn fun _ _=>rfl,
  mg_of X G a_ya,
  l_zQ,
  l_zQ.binds fun _ _ _ _ _ _=>lp fun _=>rfl,
  mg_of X G a_zQ,
  l_zA,
  l_zA.binds fun _ _ _ _ _ _=>eQ fun _ _ _ _=>rfl,
  mg_of X G a_zA,
  l_zB,
  l_zB.binds fun _ _ _ _ _ _=>lp fun _=>rfl,
  mg_of X G a_zB,
  l_zj,
  l_zj.binds fun _ _ _ _ _ _=>lp fun _=>rfl,
  mg_of X G a_zj,
  l_zS,
  l_zS.binds fun _ _ _ _ _ _=>cn fun _ _=>rfl,
  mg_of X G a_zS,
  l_zN,
  l_zN.binds fun _ _ _ _ _ _=>cn fun _ _=>rfl,
  mg_of X G a_zN,
  l_yj,
  l_yj.binds fun _ _ _ _ _ _=>lp fun _=>rfl,
  mg_of X G a_yj,
  l_yi,
  l_yi.binds fun _ _ _ _ _ _=>lp fun _=>rfl,
  mg_of X G a_yi,
  l_zV,
  l_zV.binds fun _ _ _ _ _ _=>eQ fun _ _ _ _=>rfl,
  mg_of X G a_zV,
  l_zF,
  l_zF.binds fun _ _ _ _ _ _=>eQ fun _ _ _ _=>rfl,
  mg_of X G a_zF,
  l_zO,
  l_zO.binds fun _ _ _ _ _ _=>iP fun _ _ _=>rfl,
  mg_of X G a_zO,
  l_zG,
  l_zG.binds fun _ _ _ _ _ _=>cn fun _ _=>rfl,
  mg_of X G a_zG,
  l_zy,
  l_zy.binds fun _ _ _ _ _ _=>iP fun _ _ _=>rfl,
  mg_of X G a_zy,
  l_zn,
  l_zn.binds fun _ _ _ _ _ _=>eQ fun _ _ _ _=>rfl,
  mg_of X G a_zn,
  l_zu,
  l_zu.binds fun _ _ _ _ _ _=>iP fun _ _ _=>rfl,
  mg_of X G a_zu,
  l_zU,
  l_zU.binds fun _ _ _ _ _ _=>iP fun _ _ _=>rfl,
  mg_of X G a_zU,
  l_ys,
  l_ys.binds fun _ _ _ _ _ _=>eQ fun _ _ _ _=>rfl,
  mg_of X G a_ys,
  l_zI,
  l_zI.binds fun _ _ _ _ _ _=>cn fun _ _=>rfl,
  mg_of X G a_zI,
  l_zE,
  l_zE.binds fun _ _ _ _ _ _=>eQ fun _ _ _ _=>rfl,
  mg_of X G a_zE,
  l_zf,
  l_zf.binds fun _ _ _ _ _ _=>eQ fun _ _ _ _=>rfl,
  mg_of X G a_zf,
  l_zm,
  l_zm.binds fun _ _ _ _ _ _=>eQ fun _ _ _ _=>rfl,
  mg_of X G a_zm,
  l_zJ,
  l_zJ.binds fun _ _ _ _ _ _=>cn fun _ _=>rfl,
  mg_of X G a_zJ,
  l_zv,
  l_zv.binds fun _ _ _ _ _ _=>eQ fun _ _ _ _=>rfl,
  mg_of X G a_zv,
  l_zr,
  l_zr.binds fun _ _ _ _ _ _=>eQ fun _ _ _ _=>rfl,
  mg_of X G a_zr,
  l_zL,
  l_zL.binds fun _ _ _ _ _ _=>cn fun _ _=>rfl,
  mg_of X G a_zL,
  l_zX,
  l_zX.binds fun _ _ _ _ _ _=>cn fun _ _=>rfl,
  mg_of X G a_zX,
  l_zC,
  l_zC.binds fun _ _ _ _ _ _=>iP fun _ _ _=>rfl,
  mg_of X G a_zC,
  l_yb,
  l_yb.binds fun _ _ _ _ _ _=>cn fun _ _=>rfl,
  mg_of X G a_yb,
  l_yd,
  l_yd.binds fun _ _ _ _ _ _=>cn fun _ _=>rfl,
  mg_of X G a_yd,
  l_yr,
  l_yr.binds fun _ _ _ _ _ _=>iP fun _ _ _=>rfl,
  mg_of X G a_yr,
  l_zw,
  l_zw.binds fun _ _ _ _ _ _=>eQ fun _ _ _ _=>rfl,
  mg_of X G a_zw,
  l_zM,
  l_zM.binds fun _ _ _ _ _ _=>iP fun _ _ _=>rfl,
  mg_of X G a_zM,
  l_yg,
  l_yg.binds fun _ _ _ _ _ _=>eQ fun _ _ _ _=>rfl,
  mg_of X G a_yg,
  l_ye,
  l_ye.binds fun _ _ _ _ _ _=>iP fun _ _ _=>rfl,
  mg_of X G a_ye,
  l_zz,
  l_zz.binds fun _ _ _ _ _ _=>cn fun _ _=>rfl,
  mg_of X G a_zz,
  l_yf,
  l_yf.binds fun _ _ _ _ _ _=>eQ fun _ _ _ _=>rfl,
  mg_of X G a_yf,
  l_yc,
  l_yc.binds fun _ _ _ _ _ _=>eQ fun _ _ _ _=>rfl,
  mg_of X G a_yc,
  l_zY,
  l_zY.binds fun _ _ _ _ _ _=>lp fun _=>rfl,
  mg_of X G a_zY,
  l_yk,
  l_yk.binds fun _ _ _ _ _ _=>cn fun _ _=>rfl,
  mg_of X G a_yk,
  l_zT,
  l_zT.binds fun _ _ _ _ _ _=>iP fun _ _ _=>rfl,
  mg_of X G a_zT,
  l_zR,
  l_zR.binds fun _ _ _ _ _ _=>cn fun _ _=>rfl,
  mg_of X G a_zR,
  l_ym,
  l_ym.binds fun _ _ _ _ _ _=>eQ fun _ _ _ _=>rfl,
  mg_of X G a_ym,
  l_yo,
  l_yo.binds fun _ _ _ _ _ _=>iP fun _ _ _=>rfl,
  mg_of X G a_yo,
  l_yh,
  l_yh.binds fun _ _ _ _ _ _=>iP fun _ _ _=>rfl,
  mg_of X G a_yh,
  l_yw,
  l_yw.binds fun _ _ _ _ _ _=>lp fun _=>rfl,
  mg_of X G a_yw,
  mg_of X G C_A,
  mg_of X G C_B,
  mg_of X G C_C,
  mg_of X G C_D,
  ⟨pg_D,hd_D,po_D,sa_D⟩,
  ⟨mk_D,a_zD,i_zD,kc_D⟩,
  mg_of X G C_E,
  mg_of X G C_F,
  mg_of X G C_G,
  mg_of X G C_H,
  mg_of X G C_I,
  mg_of X G C_J,
  mg_of X G C_K,
  mg_of X G C_L,
  mg_of X G C_M,
  mg_of X G C_N,
  mg_of X G C_O,
  mg_of X G C_P,
  mg_of X G C_Q,
  mg_of X G C_R,
  mg_of X G C_S,
  mg_of X G C_T,
  mg_of X G C_U,
  mg_of X G C_V,
  ⟨xe_C,xo_C,xb_C,xg_C,xt_C,xc_C⟩,
  ⟨xe_H,xo_H,xb_H,xg_H,xt_H,xc_H⟩,
  ⟨xe_K,xo_K,xb_K,xg_K,xt_K,xc_K⟩,
  ⟨xe_P,xo_P,xb_P,xg_P,xt_P,xc_P⟩,
  s_K,
  kkK_,
  kk_K,
  s_P,
  kkP_,
  kk_P,
  s_H,
  kkH_,
  kk_H,
  mg_none_of X G z_ValueError,
  mg_none_of X G z_all,
  mg_none_of X G z_any,
  mg_none_of X G z_bool,
  mg_none_of X G z_int,
  mg_none_of X G z_isinstance,
  mg_none_of X G z_len,
  mg_none_of X G z_list,
  mg_none_of X G z_range,
  mg_none_of X G z_reversed,
  mg_none_of X G z_set,
  mg_none_of X G z_sorted,
  mg_none_of X G z_str,
  mg_none_of X G z_tuple,
  mg_none_of X G z_zip,
  ⟨_,mg_of X G v_MOST_BOWS,⟨_,rfl⟩⟩,
  ⟨_,mg_of X G v_MOST_NAMES,⟨_,rfl⟩⟩,
  nD_bows,
  nD_count,
  nD_ties⟩,rfl,fun s v=>.of_eq rfl⟩
theorem DW{K:PySem.W.Frag}(h:∃t:Ad,Tx K mg t/\t.a_yw=f/\∀(s:Shared) (v:Value),BindsTo s t.d_yw ⟨[v],[]⟩ [(x,v)])(e:mg "law"=some (.ref f)) :
  ∃t:Ad,Tx K mg t/\mg "law"=some (.ref t.a_yw)/\∀(s:Shared) (v:Value),BindsTo s t.d_yw ⟨[v],[]⟩ [(x,v)]:=by
 obtain⟨t,T,rfl,b⟩:=h;exact⟨t,T,e,b⟩
end Lw
end
open PySem PySem.W PyProof.Rows
set_option maxRecDepth 100000 in
set_option maxHeartbeats 0 in
theorem PySem.Challenge.cw_doingbook_k72_formulas_of_doors_holds : PySem.Challenge.rw_doingbook_k72_formulas_of_doors.Holds := by
 w_on;o_law;k_head;(case hw=>w_witness2)
 k_fill
 refine L2.tF (l:=PySem.Challenge.rw_doingbook_k72_formulas_of_doors) (n:=63) (k:=15) (x:="_law_script") (CX:=L2.CX0) (sp:=fun K=>U.dF K U.spL) rfl (by decide) rfl ⟨rfl,by decide,by decide⟩ (fun w h Y=>PySem.W.kIn_of Y) ?F (fun K H a ns hl hO hS=>U.rJ hl hO hS) (fun _ _ _ _ z=>z)
 case F =>
  intro w mg fa h KX G hmg;have T:∃t:Lw.Ad,Lw.Tx (L2.KOf KX) mg t/\mg "law"=some (.ref t.a_yw)/\∀(s:Shared) (v:Value),BindsTo s t.d_yw ⟨[v],[]⟩ [("_law_script",v)]:=by
   dsimp only[L2.KOf];refine Lw.DW ?_ (PySem.W.mg_of KX G (by k_is));apply Lw.n8 KX G<;>((try delta Lw.nX1);(try delta Lw.nX2);(try delta Lw.fX1);(try delta Lw.kX1);first|k_is|(apply L2.BS<;>k_is) | kernel_rfl | kit_is |((repeat' (first | exact trivial | refine And.intro ?_ ?_))<;>kit_is))
  obtain⟨t,T,e,hb⟩:=T;have e0:=hmg.symm.trans e;cases e0;exact⟨t.d_yw,hb,fun base kb nb=>Lw.FW T⟩
