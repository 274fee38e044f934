import PyProof.Rows.All
import Wide.All
import OpenK.AllK
import Wide.FinOn
import Lean
import PyProof.EqAt
import PyProof.EqKinds
import PyProof.TupleCall
import KE.KDictList
import PyProof.DictWalks
import PyProof.DictTruth
import PyProof.DictValues
import KE.KDictOf
import PyProof.NeKinds
import PyProof.StationsW
import PyProof.RulesAs
import PyProof.ExcClass2
import PyProof.IsiH_tuple
import PyProof.NsDelKeeps
import PyProof.ConsumeWalk
import PyProof.Rows.SortWalk
import PySem.SetOps
import PySem.Builtin.Tuple.Common
import PyProof.Rows.SetFrom
import PyProof.TupleKey
import PyProof.SetRoads
import KE.KSortTup
import PyProof.FactsAll.set
import PyProof.CollectWalk
import PyProof.Rows.Range3
import PyProof.SumAny
import PyProof.Draws
import PyProof.EnumMake
import PyProof.TupleIter
import PyProof.WalksMore
import PyProof.ZipIter
import PyProof.Rows.ZipGen
import PyProof.DictKinds
import PyProof.DictRoadsH
import PyProof.FactsAll.bool
import PyProof.Rows.StrWeight2
import PyProof.StrBlock
import PyProof.ListStr
import PyProof.SliceStr2
import PyProof.StrBlockI
import PyProof.ListRange
import PyProof.TupleOfStr
import PyProof.SeqI3
import PySem.Challenge.RW_doingbook_k23_what_is_seen
set_option Elab.async false
namespace PySem.W
structure Fast:Prop where(tw10840243626979435089 tw4072428700032921227 tw14411970612780456303 tw17997827041496206941 tw11256018791417025317 tw10913963780802315298 tw13785478669866504232 tw14146578758147633854 tw4031309918601116904 tw10127853482162198031 tw12029977767890304039 tw5399021103337106025 tw3555509244001399929 tw13800469633803762988 tw1810573242924963738 tw7597723103799931271 tw9440391397170890767 tw256381488506224949 tw15181629213469367770 tw4472569920252522010 tw7684420479527572610 tw11837522368110932512 tw4197092982254197181 tw4860499599700604059 tw6949528771943859111 tw13259714102877706421 tw13219061167537659631 tw17375438759175151293 tw14863425130666201571 tw15517228238854316476 tw16516568028526677034 tw2167010479320000653 tw1692788695653920209 tw12364900019929000287 tw6932527055249437069 tw5380840585067852360 tw4930364469394818652 tw15961941877906051925 tw15085054142786588578 tw934979748088710436 tw13265556826481958472 tw5431919625191649558 tw16363669335375372151 tw12539561151615917507 tw17258863769959029566 tw12477990958778419820 tw11945383005585749325 tw5003594407992234583 tw14166403522713579415 tw1992461797401905723 tw3437173899259083865 tw10209474757262936101 tw2210336463569286192 tw7785424967930238678 tw14350978423356968193 tw6918511089862929143 tw13182227639153000859 tw15448179754322269203 tw1884835630487507689 tw6891348556873187701 tw9842489250097064819 tw11429993364342310423 tw15121067937134157224 tw11283742232799056691 tw4856998132408554751 tw5818714763306970700 tw16956694812065413786 tw8759850366924050446 tw6852126989164932890 tw8409892762317749757 tw10094360935549078033 tw16909626370591690386 tw14872528711643620852 tw10587017164382887658 tw4856577901420449045 tw521718206115210827 tw2672037868361544392 tw11966403975540958529 tw8195600665828398773 tw14704598996059508283 tw4059580035073481097 tw16468221575923073882 tw12570840607430475477 tw14203767393405014863 tw5186694697336364437 tw9011516180984745669 tw13391437023139622479 tw11311199899997808527 tw13473628941249744468 tw6302727194746946525 tw7945868275396067122 tw2058885579881553523 tw5414997403618609110 tw4657109077220134283 tw12399262198923459043 tw16415207562264418363 tw10183967879304809558 tw18156739317341228104 tw16059933907033854907 tw18164162066767516521 tw12809007262590460726 tw7684537849339057341 tw2201431369890001368 tw6313350527664547328 tw5408075012806588374 tw2866660026813077549 tw10704768690148871803 tw10467927872270546405 tw1584099125172880222 tw6656862576458872516 tw16982365060437789802 tw11457597225173190529 tw12557142350135660561 tw18075970219197072258 tw13913933758622976066 tw14477335934113869096 tw11549129564307398960 tw7135600890939782943 tw11536400364295025370 tw14354572811789375078 tw1907301941724138872 tw12704509839617275565 tw13776353988420080891 tw7275181620866149492 tw7152119698148014138 tw2437838889953044725 tw15713368426294626266 tw7657324749527033494 tw89676592669008455 tw10148251978726243429 tw2076177170797524683 tw9732828858078161150 tw6321736641759542277 tw14993618392657488508 tw15862767213192668683 tw16956261205393933012 tw8271159526011787220 tw3978118643547894888 tw2886133477148555882 tw18163496845400990830 tw18251174993850994058 tw15143144046775540752 tw12014502316281297 tw11712022435375166668 tw6299685811688979533 tw2549548824652875237 tw10727987816310435462 tw14089906437257547905 tw10041732678047350688 tw5811785858593229270 tw3780091791080037852 tw13214325039766934490 tw7857340734762256174 tw2721756547538058199 tw3443023577239599779 tw13967763831631740868 tw11675004746551583200 tw15552096245863760964 tw18120585850921320444 tw12558924182285486984 tw5884319406301234754 tw16671543959192711643 tw14222063780229634064 tw7314983086664246949 tw13074194363634118948 tw14234289795613582438 tw13748526282190485518 tw9867442074086774200 tw9967230545897114834 tw2396661227750191496 tw14795630541720126996 tw1004657885758842705 tw2321726707928801796 tw7178602317605170222 tw13473927089137276423 tw16399589838012063528 tw11610094649640926104 tw15959260876464527161 tw6104353875306964541 tw11048073239730019946 tw12720313326761603570 tw6468182205074614487 tw11732475115687802492 tw2411063639386083419 tw17480624801930838213 tw1422007596348095498 tw14817776463362594584 tw10161915263698091846 tw6410788635156667808 tw14299119464375977507 tw13636996612422693912 tw3939045404483962209 tw9087821564324345615 tw7932484087949423278 tw18008409674743368315 tw10435482160637363352 tw13289663223665704431 tw8945557990450940569 tw17108767499086746949 tw2484817953372614504 tw17817350154480897740 tw2357932503656149993 tw2063825166614514779 tw17021865986412417655 tw12140675660923372774 tw8471221400046969759 tw8002909700101088798 tw15724056982186706720 tw7692952811673683228 tw10425531880533645527 tw13332122318898956408 tw1623557805103748749 tw18109381273482175004 tw5245914362751470424 tw13412233046824368675 tw5715956749118121723 tw16991315277657417710 tw9534272413499308945 tw14641687313835682054 tw8199416137530755413 tw17163284561666281663 tw4980762106143125048 tw6486923531342406864 tw4199973247538825490 tw8204426364078340532 tw246266558482772179 tw8532333083674663616 tw7051387397368714788 tw13749545274606287713 tw12280288741619059772 tw796165834549461786 tw2236579068700269885 tw12846842362492854903 tw8067947006743432851 tw524732235086280951 tw5381474519620337752 tw10196412194237350681 tw11130521409276358374 tw18115142537649016038 tw310322443824284016 tw17248707058284652591 tw6164076094842378215 tw2424068789460131007 tw4931793863662780771 tw11512511845165193854 tw5095716617873444555 tw1895152906139174008 tw12470351876900627389 tw3693522527461357722 tw10877342965190221097 tw2738962751549631397 tw17954782825072964653 tw776566085220912626 tw3675469859758809077 tw16784172357446722950 tw10730626415085834399 tw17843129021439029047 tw15019278485599868682 tw15470706491922935052 tw10257479286578793964 tw2678283337745386061 tw13273743593405740641 tw4907611257580118851 tw9826267715238137608 tw14586785227343282756 tw982798370124356976 tw15590666847613494417 tw14883254569899843278 tw7403710840543198437 tw15235255627903498960 tw7723134686156835563 tw17602764315587239057 tw549124025914559539 tw10351608557955968191 tw9014565017342499685 tw13932698442930025236 tw16041548071551623772 tw7295012967993439249 tw10892413150780826451 tw2088942393257118602 tw10627934339725972520 tw12539318253188794531 tw4271188597451226299 tw7897353520299217135 tw8537479309760795574 tw10907335618859295217 tw10273970618613821480 tw5904701089353975993 tw11952839330462777692 tw10569825866502305761 tw4061941173804144228 tw6375780811989775352 tw14795710274224580617 tw6667125745905499711 tw7242970217175313486 tw11539175848498100930 tw2249565315766695028 tw5140866200512276253 tw9644700840276494373 tw10119204969747267537 tw1145176738136073039 tw3488621089187533088 tw11825889934845603615 tw16786655966919336714 tw1088116930793465674 tw14132634746238612049 tw5258114659334207000 tw13164046095225675915 tw17130808757111039356 tw4243433454414763745 tw13773970107634978908 tw688333968281888348 tw16656503385986573964 tw8292180156797077821 tw1647057421050255579 tw16068349203406241806 tw15278057667181725012 tw9635673791374484527 tw10736776701713842951 tw17893063882770515031 tw12705522358586125950 tw3546173968112430649 tw15997525851646604831 tw8775986650289545817 tw1640031233846637016 tw16105565659014012879 tw3054174576999111038 tw14614733644838103845 tw9905436432209486109 tw18271674908052953268 tw3452964393204252601 tw10015354316525019400 tw17564154642119177833 tw10127594252108203460 tw5221120005082754634 tw9104529304670771063 tw8599821321870125020 tw4305915964000331037 tw7225626578932805598 tw15042107034893892723 tw13564166513467165981 tw4968411658951713323 tw9191689432291395943 tw8212247613284953251 tw1818841856976249325 tw8130290879392440140 tw10459775178402659338:True)
end PySem.W
local macro_rules | `(tactic| omega) => `(tactic| first | with_reducible exact Int.natCast_nonneg _ | with_reducible assumption | with_reducible exact Nat.lt_of_lt_of_eq (by assumption) (by assumption) | with_reducible exact Nat.le_of_lt (by assumption) | with_reducible exact Int.le_of_lt (by assumption) | with_reducible exact And.left (by assumption) | with_reducible exact And.right (by assumption) | lia)
set_option genSizeOf false
set_option Elab.async false
set_option linter.all false
set_option maxRecDepth 1000000
section
open PySem PySem.Spec PyProof.Rows
abbrev LFr:=PySem.W.Frag
theorem JN:type_of% @List.length_map:=@List.length_map
theorem JO:type_of% @List.getElem?_eq_getElem:=@List.getElem?_eq_getElem
theorem JP:type_of% @wpAny_bind:=@wpAny_bind
theorem JQ:type_of% @List.getD_eq_getElem?_getD:=@List.getD_eq_getElem?_getD
theorem JR:type_of% @Heap.get?_push_of_some:=@Heap.get?_push_of_some
theorem JS:type_of% @List.getElem?_eq_some_iff:=@List.getElem?_eq_some_iff
theorem JT:type_of% @wpAny_pure:=@wpAny_pure
theorem JU:type_of% @List.mem_map:=@List.mem_map
theorem JV:type_of% @List.getElem?_map:=@List.getElem?_map
theorem JW:type_of% @Nat.le_refl:=@Nat.le_refl
theorem JX:type_of% @List.mem_of_getElem?:=@List.mem_of_getElem?
theorem JY:type_of% @List.map_map:=@List.map_map
theorem JZ:type_of% @Heap.get?_push_size:=@Heap.get?_push_size
theorem J0:type_of% @Heap.lt_size:=@Heap.lt_size
theorem J2:type_of% @List.length_append:=@List.length_append
theorem J6:type_of% @List.mem_cons_self:=@List.mem_cons_self
theorem J7:type_of% @List.mem_cons:=@List.mem_cons
theorem J8:type_of% @List.mem_cons_of_mem:=@List.mem_cons_of_mem
theorem J9:type_of% @List.map_append:=@List.map_append
theorem Ka:type_of% @List.mem_singleton:=@List.mem_singleton
theorem Kb:type_of% @List.size_toArray:=@List.size_toArray
theorem Kc:type_of% @List.map_cons:=@List.map_cons
theorem Kd:type_of% @List.mem_append_right:=@List.mem_append_right
theorem Ke:type_of% @List.take_length:=@List.take_length
theorem Kf:type_of% @Array.getElem?_eq_getElem:=@Array.getElem?_eq_getElem
theorem Kg:type_of% @List.filter_eq_self:=@List.filter_eq_self
theorem Kh:type_of% @List.length_range:=@List.length_range
theorem Ki:type_of% @Nat.ne_of_lt:=@Nat.ne_of_lt
theorem Kj:type_of% @PassesOwn.never:=@PassesOwn.never
theorem Kk:type_of% @Int.toNat_natCast:=@Int.toNat_natCast
theorem Kl:type_of% @List.length_take:=@List.length_take
theorem Km:type_of% @boot_isinstance:=@boot_isinstance
theorem Ko:type_of% @Nat.lt_of_lt_of_le:=@Nat.lt_of_lt_of_le
theorem Kq:type_of% @if_neg:=@if_neg
theorem Kr:type_of% @List.take_add_one:=@List.take_add_one
theorem Ks:type_of% @Option.some.inj:=@Option.some.inj
theorem Kt:type_of% @List.length_cons:=rfl
theorem Ku:type_of% @PySem.boot_len:=@PySem.boot_len
theorem Kv:type_of% @List.getElem?_append_right:=@List.getElem?_append_right
theorem Kw:type_of% @if_pos:=@if_pos
theorem Ky:type_of% @List.all_eq_true:=@List.all_eq_true
theorem Kz:type_of% @List.getElem?_append_left:=@List.getElem?_append_left
theorem KA:type_of% @Int.mul_assoc:=@Int.mul_assoc
theorem KC:type_of% @List.getElem_mem:=@List.getElem_mem
theorem KD:type_of% @List.mem_append_left:=@List.mem_append_left
theorem KG:type_of% @Option.map_some:=@Option.map_some
theorem KH:type_of% @List.set_cons_succ:=rfl
theorem KI:type_of% @List.mem_range:=@List.mem_range
theorem KJ:type_of% @List.mem_of_mem_take:=@List.mem_of_mem_take
theorem KL:type_of% @List.set_cons_zero:=rfl
theorem KN:type_of% @List.lookup_cons:=rfl
theorem KO:type_of% @wpAny_newObj_type:=@wpAny_newObj_type
theorem KP:type_of% @Int.mul_comm:=@Int.mul_comm
theorem KQ:type_of% @Int.le_trans:=@Int.le_trans
theorem KR:type_of% @PySem.F.slot_list_append:=@PySem.F.slot_list_append
theorem KS:type_of% @PySem.F.type_list_append:=@PySem.F.type_list_append
theorem KU:type_of% @wpAny_callSpecial?_slot:=@wpAny_callSpecial?_slot
theorem KW:type_of% @wpAny_call_entry:=@wpAny_call_entry
theorem KY:type_of% @List.not_mem_nil:=@List.not_mem_nil
theorem KZ:type_of% @Array.length_toList:=rfl
theorem K0:type_of% @Heap.SameBut.update:=@Heap.SameBut.update
theorem K1:type_of% @List.map_congr_left:=@List.map_congr_left
theorem K2:type_of% @PyProof.Rows.callWith_type1:=@PyProof.Rows.callWith_type1
theorem K3:type_of% @sizeLine_eq:=@sizeLine_eq
theorem K4:type_of% @List.append_nil:=@List.append_nil
theorem K5:type_of% @boot_tuple:=@boot_tuple
theorem K6:type_of% @List.mem_append:=@List.mem_append
theorem K7:type_of% @PySem.W.kia_one:=@PySem.W.kia_one
theorem K8:type_of% @Bool.and_eq_true:=@Bool.and_eq_true
theorem K9:type_of% @Heap.size_push:=@Heap.size_push
theorem La:type_of% @Heap.get?_update_self:=@Heap.get?_update_self
theorem Lb:type_of% @Array.getElem?_toList:=@Array.getElem?_toList
theorem Lc:type_of% @List.map_nil:=@List.map_nil
theorem Ld:type_of% @decide_eq_false:=@decide_eq_false
theorem Le:type_of% @List.mem_filter:=@List.mem_filter
theorem Lf:type_of% @Int.mul_left_comm:=@Int.mul_left_comm
theorem Lg:type_of% @Nat.pow_le_pow_right:=@Nat.pow_le_pow_right
theorem Lh:type_of% @Bool.false_eq_true:=@Bool.false_eq_true
theorem Li:type_of% @List.getElem_map:=@List.getElem_map
theorem Lj:type_of% @Int.le_of_dvd:=@Int.le_of_dvd
theorem Lk:type_of% @Int.mul_one:=@Int.mul_one
theorem Ll:type_of% @Nat.zero_le:=@Nat.zero_le
theorem Lm:type_of% @List.length_replicate:=@List.length_replicate
theorem Ln:type_of% @wpAny_dictEntries:=@wpAny_dictEntries
theorem Lo:type_of% @Int.le_of_lt:=@Int.le_of_lt
theorem Lp:type_of% @wpAny_field:=@wpAny_field
theorem Lq:type_of% @decide_eq_true:=@decide_eq_true
theorem Lr:type_of% @Int.mul_nonneg:=@Int.mul_nonneg
theorem Ls:type_of% @Nat.lt_irrefl:=@Nat.lt_irrefl
theorem Lu:type_of% @List.find?_cons:=rfl
theorem Lv:type_of% @Nat.le_trans:=@Nat.le_trans
theorem Lx:type_of% @Nat.ne_of_gt:=@Nat.ne_of_gt
theorem Ly:type_of% @Int.mul_le_mul_of_nonneg_right:=@Int.mul_le_mul_of_nonneg_right
theorem Lz:type_of% @beq_eq_false_iff_ne:=@beq_eq_false_iff_ne
theorem LA:type_of% @List.getElem_of_mem:=@List.getElem_of_mem
theorem LB:type_of% @wpAny_truthy_bool:=@wpAny_truthy_bool
theorem LC:type_of% @of_decide_eq_true:=@of_decide_eq_true
theorem LD:type_of% @List.length_singleton:=rfl
theorem LF:type_of% @List.getElem?_eq_none:=@List.getElem?_eq_none
theorem LG:type_of% @wpAny_holding:=@wpAny_holding
theorem LH:type_of% @beq_self_eq_true:=@beq_self_eq_true
theorem LI:type_of% @List.sum_cons:=rfl
theorem LJ:type_of% @Array.getElem?_eq_none:=@Array.getElem?_eq_none
theorem LK:type_of% @Nat.lt_succ_of_lt:=@Nat.lt_succ_of_lt
theorem LL:type_of% @List.range_succ:=@List.range_succ
theorem LM:type_of% @List.drop_eq_getElem_cons:=@List.drop_eq_getElem_cons
theorem LN:type_of% @List.getElem?_eq_none_iff:=@List.getElem?_eq_none_iff
theorem LO:type_of% @wpAny_mono:=@wpAny_mono
theorem LP:type_of% @wpAny_seqItems:=@wpAny_seqItems
theorem LQ:type_of% @List.getElem?_replicate:=@List.getElem?_replicate
theorem LR:type_of% @decide_eq_true_eq:=@decide_eq_true_eq
theorem LS:type_of% @List.foldl_append:=@List.foldl_append
theorem LU:type_of% @List.flatMap_cons:=@List.flatMap_cons
theorem LV:type_of% @beq_iff_eq:=@beq_iff_eq
theorem LW:type_of% @List.nodup_cons:=@List.nodup_cons
theorem LX:type_of% @if_false:=@if_false
theorem LY:type_of% @Int.add_mul:=@Int.add_mul
theorem LZ:type_of% @boot_list:=@boot_list
theorem L1:type_of% @Bool.false_ne_true:=@Bool.false_ne_true
theorem L3:type_of% @wpAny_Call_Name_kw:=@wpAny_Call_Name_kw
theorem L4:type_of% @Nat.lt_of_le_of_lt:=@Nat.lt_of_le_of_lt
theorem L5:type_of% @Obj.data_mapFields:=@Obj.data_mapFields
theorem L6:type_of% @wpAny_passesOwn:=@wpAny_passesOwn
theorem L7:type_of% @or_false:=@or_false
theorem L8:type_of% @List.Perm.refl:=@List.Perm.refl
theorem L9:type_of% @Int.mul_pos:=@Int.mul_pos
theorem Ma:type_of% @Int.le_refl:=@Int.le_refl
theorem Mb:type_of% @Nat.sub_self:=@Nat.sub_self
namespace L2
section
abbrev Key:=Sum Int Str
def jA:Key->Value->Bool
 | .inl k,v=>Value.isInt k v
 | .inr x,v=>Value.isStrOf x v
def HA(w:World):Key->Int
 | .inl k=>hashInt k
 | .inr x=>hashStr w x
theorem bL:∀{k:Key} {v:Value},jA k v=true->(∃i t,k=Sum.inl i/\v=Value.int i t)∨(∃x t,k=Sum.inr x/\v=Value.str x t)
 | .inl i,v,h=>by
  obtain⟨t,e⟩:=Value.isInt_shape (k:=i) (v:=v) h;exact .inl ⟨i,t,rfl,e⟩
 | .inr x,v,h=>by
  obtain⟨t,e⟩:=Value.isStrOf_shape (x:=x) (v:=v) h;exact .inr ⟨x,t,rfl,e⟩
theorem qW(i:Int)(t:Tok):jA (.inl i) (.int i t)=true:=by simp[jA,Value.isInt]
theorem se(x:Str)(t:Tok):jA (.inr x) (.str x t)=true:=by simp[jA,Value.isStrOf]
theorem BP(a b:Int):decide ((Sum.inl a:Key)=Sum.inl b)=(a==b):=by
 by_cases e:a=b
 ·subst e;simp
 ·have h:¬(Sum.inl a:Key)=Sum.inl b:=fun q=>e (Sum.inl.inj q);rw[Ld h];exact(Lz.mpr e).symm
theorem CT(a b:Str):decide ((Sum.inr a:Key)=Sum.inr b)=decide (a=b):=by
 by_cases e:a=b
 ·subst e;simp
 ·have h:¬(Sum.inr a:Key)=Sum.inr b:=fun q=>e (Sum.inr.inj q);rw[Ld h,Ld e]
theorem CS(a:Int)(b:Str):decide ((Sum.inl a:Key)=Sum.inr b)=false:=Ld (fun q=>nomatch q)
theorem Be(a:Str)(b:Int):decide ((Sum.inr a:Key)=Sum.inl b)=false:=Ld (fun q=>nomatch q)
def cO(prog:Program)(w:World):PySem.KeyKind prog w Key where
 is:=jA
 hash:=HA w
 inj:=fun v a b ha hb=>by
  rcases bL ha with⟨i,t,rfl,rfl⟩ |⟨x,t,rfl,rfl⟩
  ·rcases bL hb with⟨j,u,rfl,e⟩ |⟨y,u,rfl,e⟩
   ·injection e with e1 _;rw[e1]
   ·exact nomatch e
  ·rcases bL hb with⟨j,u,rfl,e⟩ |⟨y,u,rfl,e⟩
   ·exact nomatch e
   ·injection e with e1 _;rw[e1]
 byValue:=fun k v h=>by
  rcases bL h with⟨i,t,rfl,rfl⟩ |⟨x,t,rfl,rfl⟩<;>rfl
 pyHash:=fun hv h=>by
  rcases bL hv with⟨i,t,rfl,rfl⟩ |⟨x,t,rfl,rfl⟩
  ·exact wpAny_pyHash_int h
  ·exact wpAny_pyHash_str h
 eqBool:=fun hu hv h=>by
  rcases bL hu with⟨i,t,rfl,rfl⟩ |⟨x,t,rfl,rfl⟩
  ·rcases bL hv with⟨j,u,rfl,rfl⟩ |⟨y,u,rfl,rfl⟩
   ·rw[BP]at h;exact wpAny_eqBool_int h
   ·rw[CS]at h;exact SeqAt.EqAt.int_str i t y u _ _ _ _ h
  ·rcases bL hv with⟨j,u,rfl,rfl⟩ |⟨y,u,rfl,rfl⟩
   ·rw[Be]at h;exact SeqAt.EqAt.str_int x t j u _ _ _ _ h
   ·rw[CT]at h;exact wpAny_eqBool_str h
 «strs»:=fun k x t v h=>by
  rcases bL h with⟨i,u,rfl,e⟩ |⟨y,u,rfl,e⟩
  ·exact nomatch e
  ·injection e with e1 _;subst e1;cases v<;>rfl
theorem mH(prog:Program)(w:World)(i:Int)(t:Tok):(cO prog w).is (.inl i) (.int i t)=true:=qW i t
theorem mh(prog:Program)(w:World)(x:Str)(t:Tok):(cO prog w).is (.inr x) (.str x t)=true:=se x t
end
section
inductive V where
 | non | bl (b:Bool) | int (i:Int) | str (x:Str) | byt (b:Array UInt8) | flt (b:UInt64) | ref (a:Addr) | ty (n:String)
 deriving DecidableEq
def RelV:V->Value->Prop
 | .non,u=>u=Value.none
 | .bl b,u=>u=Value.bool b
 | .int i,u=>∃t,u=Value.int i t
 | .str x,u=>∃t,u=Value.str x t
 | .byt b,u=>∃t,u=Value.bytes b t
 | .flt b,u=>∃t,u=Value.float b t
 | .ref a,u=>u=Value.ref a
 | .ty n,u=>u=Value.type n
abbrev Vals:List V->List Value->Prop:=Paired RelV
theorem Vals.length(r:Vals xs us):xs.length=us.length:=Paired.length r
theorem Vals.get:∀{xs:List V} {us:List Value} {i:Nat} {x:V},Vals xs us->xs[i]?=some x->∃u,us[i]?=some u/\RelV x u
 | _,_,_,_,.nil,e=>by simp at e
 | _,_,0,_,.cons r _,e=>by simp at e;subst e;exact⟨_,rfl,r⟩
 | _,_,i+1,x,.cons _ t,e=>by
  obtain⟨u,h1,h2⟩:=Vals.get (i:=i) (x:=x) t (by simpa using e);exact⟨u,by simpa using h1,h2⟩
theorem Vals.set{x:V}{u:Value}(r:RelV x u):∀{xs:List V} {us:List Value} (i:Nat),Vals xs us->Vals (xs.set i x) (us.set i u)
 | _,_,_,.nil=>.nil
 | _,_,0,.cons _ t=>.cons r t
 | _,_,i+1,.cons q t=>.cons q (Vals.set r i t)
theorem Vals.append:∀{xs ys:List V} {us ws:List Value},Vals xs us->Vals ys ws->Vals (xs++ys) (us++ws)
 | _,_,_,_,.nil,s=>s
 | _,_,_,_,.cons r t,s=>.cons r (Vals.append t s)
theorem Vals.take:∀{xs:List V} {us:List Value} (n:Nat),Vals xs us->Vals (xs.take n) (us.take n)
 | _,_,0,_=>.nil
 | _,_,_+1,.nil=>.nil
 | _,_,n+1,.cons r t=>.cons r (Vals.take n t)
theorem Vals.drop:∀{xs:List V} {us:List Value} (n:Nat),Vals xs us->Vals (xs.drop n) (us.drop n)
 | _,_,0,r=>r
 | _,_,_+1,.nil=>.nil
 | _,_,n+1,.cons _ t=>Vals.drop n t
def f9:Option V->Option Value->Prop
 | some v,some u=>RelV v u
 | none,none=>True
 | _,_=>False
def KV{κ:Type}:List (κ×V)->List (κ×Value)->Prop:=Paired fun(p:κ×V) (q:κ×Value)=>p.1=q.1/\RelV p.2 q.2
def kV:Key->V
 | .inl i=>.int i
 | .inr x=>.str x
inductive HO where
  | lst (xs:List V)
  | tup (xs:List V)
  | dK (kvs:List (Key×V)) | dT (kvs:List (List Key×V))
  | set (S:Int->Bool) (n:Nat)
  | ins (C dx:Addr) (fs:List (Str×V))
  | own (x:Addr)
  | xd (fs:List (Str×V))
  | met (f x:Addr)
  | rng (lo hi:Int)
  | frz (o:Obj) (u:HO)
  | tbl (ps:Array Value)
  | ext (φ:Heap->Prop)
abbrev Hp:=Addr->Option HO
def upd(H:Hp)(a:Addr)(o:HO):Hp:=fun b=>if b=a then some o else H b
theorem aT:upd H a o a=some o:=by unfold upd;rw[Kw rfl]
theorem aC(h:b≠a):upd H a o b=H b:=by unfold upd;rw[Kq h]
theorem zJ{H:Hp}(h:H a=some o)(h':H b=some u)(d:o≠u):a≠b:=by
 intro e;subst e;rw[h]at h';exact d (Ks h')
theorem aD{H:Hp}(h:H a=some o)(h':H b=none):a≠b:=by
 intro e;subst e;rw[h]at h';cases h'
section
variable (P:Program)(w:World)
def bg(H:Hp)(h:Heap)(a:Addr):HO->Prop
 | .lst xs=>xs.length≤sizeLine/\∃(its:List Value) (n:Nat),Vals xs its/\h.get? a=some { cls:=.type "list",data:=.seq its.toArray n }
 | .tup xs=>xs.length≤sizeLine/\∃its:List Value,Vals xs its/\IsTup h a its.toArray
 | .dK kvs=>kvs.length≤sizeLine/\(a==sysModules)=false/\∃vs,KV kvs vs/\h.DictOf (cO P w) a vs
 | .dT kvs=>kvs.length≤sizeLine/\(a==sysModules)=false/\∃xs:List (List Key×Addr×Value),
   Paired (fun(p:List Key×V) (q:List Key×Addr×Value)=>p.1=q.1/\H q.2.1=some (.tup (p.1.map kV))/\RelV p.2 q.2.2) kvs xs /\
   ∃o es ep,h.get? a=some o/\o.ExactDict/\o.data=.dict es ep/\es.toList=xs.map (entryOfKey (tupleKind (cO P w)))/\(xs.map (·.1)).Nodup
 | .set S n=>h.SetOf (intKind P w) a S n
 | .ins C dx fs=>H dx=some (.own a)/\fs.length≤1000/\dx≠a/\h.get? a=some (PySem.W.instObj C dx) /\
   ∃mA,h.Ns1 dx mA/\(∀f,f9 (fs.lookup f) (mA f))/\PySem.Within mA (fs.map (·.1))
 | .own _=>∃o,h.get? a=some o
 | .xd fs=>∃mA,h.Ns1 a mA/\∀f,f9 (fs.lookup f) (mA f)
 | .rng lo hi=>∃t u v,h.get? a=some { cls:=.type "range",data:=.fields #[.int lo t,.int hi u,.int 1 v] }
 | .frz o u=>h.get? a=some o/\bg H h a u
 | .tbl ps=>h.get? a=some { cls:=.none,data:=.fields ps }
 | .met f x=>h.get? a=some (PySem.W.methodObj (.ref f) (.ref x))
 | .ext φ=>φ h/\(∃o,h.get? a=some o)/\∀h1 h2:Heap,φ h1->(∀o,h1.get? a=some o->h2.get? a=some o)->φ h2
def HOk(H:Hp)(h:Heap):Prop:=∀a o,H a=some o->bg P w H h a o
end
section
variable {P:Program}{w:World}{H H':Hp}{h h':Heap}{a:Addr}{o:HO}
theorem bg.lt(x:bg P w H h a o):a<h.objs.size:=by
 cases o with
 | lst xs=>obtain⟨_,_,_,_,e⟩:=x;exact J0 e
 | tup xs=>obtain⟨_,_,_,p⟩:=x;exact p.lt
 | dK kvs=>obtain⟨_,_,_,_,o,_,_,e,_⟩:=x;exact J0 e
 | dT kvs=>obtain⟨_,_,_,_,o,_,_,e,_⟩:=x;exact J0 e
 | set S n=>obtain⟨o,_,_,_,e,_⟩:=x;exact J0 e
 | ins C dx fs=>obtain⟨_,_,_,e,_⟩:=x;exact J0 e
 | own y=>obtain⟨_,e⟩:=x;exact J0 e
 | xd fs=>obtain⟨_,⟨_,_,_,e,_⟩,_⟩:=x;exact J0 e
 | rng lo hi=>obtain⟨_,_,_,e⟩:=x;exact J0 e
 | frz ob u=>obtain⟨e,_⟩:=x;exact J0 e
 | tbl ps=>exact J0 (show h.get? a=some _ from x)
 | met f y=>exact J0 (show h.get? a=some _ from x)
 | ext φ=>obtain⟨_,⟨_,e⟩,_⟩:=x;exact J0 e
theorem Paired.mapP{α β:Type}{F G:α->β->Prop}:∀{l₁:List α} {l₂:List β},Paired F l₁ l₂->(∀a b,F a b->G a b)->Paired G l₁ l₂
 | _,_,.nil,_=>.nil
 | _,_,.cons r t,f=>.cons (f _ _ r) (Paired.mapP t f)
theorem bg.stay(x:bg P w H h a o)(k:∀b u,(b=a∨H b=some (.own a))->h.get? b=some u->h'.get? b=some u)
  (ho:∀b,H b=some (.own a)->H' b=some (.own a)) (ht:∀b xs,H b=some (.tup xs)->H' b=some (.tup xs)):bg P w H' h' a o:=by
 induction o with
 | lst xs=>obtain⟨z,its,n,r,e⟩:=x;exact⟨z,its,n,r,k _ _ (.inl rfl) e⟩
 | tup xs=>obtain⟨z,its,r,ob,e,c⟩:=x;exact⟨z,its,r,ob,k _ _ (.inl rfl) e,c⟩
 | dK kvs=>obtain⟨z,y,vs,r,ob,es,ep,e,c⟩:=x;exact⟨z,y,vs,r,ob,es,ep,k _ _ (.inl rfl) e,c⟩
 | dT kvs =>
  obtain⟨z,y,xs,r,ob,es,ep,e,c⟩:=x;exact⟨z,y,xs,Paired.mapP r fun p q z=>⟨z.1,ht _ _ z.2.1,z.2.2⟩,ob,es,ep,k _ _ (.inl rfl) e,c⟩
 | set S n=>obtain⟨ob,es,ep,t,e,c⟩:=x;exact⟨ob,es,ep,t,k _ _ (.inl rfl) e,c⟩
 | ins C dx fs =>
  obtain⟨d,z,ne,e,mA,⟨od,es,ep,e2,c⟩,r⟩:=x;exact⟨ho _ d,z,ne,k _ _ (.inl rfl) e,mA,⟨od,es,ep,k _ _ (.inr d) e2,c⟩,r⟩
 | own y=>obtain⟨ob,e⟩:=x;exact⟨ob,k _ _ (.inl rfl) e⟩
 | xd fs=>obtain⟨mA,⟨od,es,ep,e,c⟩,r⟩:=x;exact⟨mA,⟨od,es,ep,k _ _ (.inl rfl) e,c⟩,r⟩
 | rng lo hi=>obtain⟨t,u,v,e⟩:=x;exact⟨t,u,v,k _ _ (.inl rfl) e⟩
 | frz ob u ih=>obtain⟨e,q⟩:=x;exact⟨k _ _ (.inl rfl) e,ih q⟩
 | tbl ps =>
  have e:h.get? a=some { cls:=.none,data:=.fields ps }:=x;show h'.get? a=some { cls:=.none,data:=.fields ps };exact k a _ (.inl rfl) e
 | met f y =>
  have e:h.get? a=some (PySem.W.methodObj (.ref f) (.ref y)):=x;show h'.get? a=some (PySem.W.methodObj (.ref f) (.ref y));exact k a _ (.inl rfl) e
 | ext φ=>obtain⟨p,⟨o,e⟩,st⟩:=x;exact⟨st _ _ p fun o q=>k _ _ (.inl rfl) q,⟨o,k _ _ (.inl rfl) e⟩,st⟩
theorem HOk.lt(x:HOk P w H h)(e:H a=some o):a<h.objs.size:=(x a o e).lt
theorem HOk.fresh(x:HOk P w H h)(e:h.objs.size≤a):H a=none:=by
 cases q:H a with
 | none=>rfl
 | some u=>exact absurd (Ko (x.lt q) e) (Ls _)
theorem HOk.kept(x:HOk P w H h)(k:∀b u,h.get? b=some u->h'.get? b=some u):HOk P w H h':=fun a o e =>
 (x a o e).stay (fun b u _ q=>k b u q) (fun _ q=>q) fun _ _ q=>q
theorem HOk.laid(x:HOk P w H h)(k:∀b u,h.get? b=some u->h'.get? b=some u)(hp:h.objs.size≤a)(new:bg P w (upd H a o) h' a o):HOk P w (upd H a o) h':=fun b u e=>by
 have hn:=x.fresh hp;by_cases hb:b=a
 ·subst hb;rw[aT]at e;cases e;exact new
 ·rw[aC hb]at e;exact(x b u e).stay (fun c v _ q=>k c v q) (fun c q=>by rw[aC (aD q hn)];exact q) fun c xs q=>by rw[aC (aD q hn)];exact q
end
def Rd(H:Hp)(a:Addr)(u:HO):Prop:=H a=some u∨∃o,H a=some (.frz o u)
theorem Rd.ok(r:Rd H a u)(x:HOk P w H h):bg P w H h a u:=by
 rcases r with r |⟨o,r⟩
 ·exact x a u r
 ·obtain⟨_,q⟩:=x a _ r;exact q
def Mut:Option HO->Prop
 | some (.lst _)=>True
 | some (.dK _)=>True
 | some (.dT _)=>True
 | some (.set _ _)=>True
 | some (.ins _ _ _)=>True
 | some (.ext _)=>True
 | _=>False
section
variable {P:Program}{w:World}{H:Hp}{h h':Heap}{x e:Addr}{o':HO}
theorem HOk.write(ok:HOk P w H h)(mu:Mut (H x))(he:e=x∨H e=some (.own x))(k:∀b u,b≠e->h.get? b=some u->h'.get? b=some u)(heo:∃u,h'.get? e=some u)
  (new:bg P w (upd H x o') h' x o'):HOk P w (upd H x o') h':=fun b u q=>by
 have nown:∀c y,H c=some (.own y)->c≠x:=fun c y r z=>by subst z;rw[r]at mu;exact mu
 have ntup:∀c xs,H c=some (.tup xs)->c≠x:=fun c xs r z=>by subst z;rw[r]at mu;exact mu
 by_cases hb:b=x
 ·subst hb;rw[aT]at q;cases q;exact new
 ·rw[aC hb]at q;by_cases hbe:b=e
  ·have q':H b=some (.own x):=by
    rcases he with z | z
    ·exact absurd (hbe.trans z) hb
    ·rw[hbe];exact z
   rw[q]at q';cases q';obtain⟨v,hv⟩:=heo;exact⟨v,by rw[hbe];exact hv⟩
  ·refine(ok b u q).stay (fun c v hc r=>k c v ?_ r) (fun c r=>by rw[aC (nown c b r)];exact r) fun c xs r=>by rw[aC (ntup c xs r)];exact r
   rcases hc with rfl | hc
   ·exact hbe
   ·rintro rfl;rcases he with z | z
    ·exact nown c b hc z
    ·rw[hc]at z;cases z;exact hb rfl
end
structure Un (fs ex:List Addr) (H H':Hp) (h h':Heap):Prop where
 keep:∀b o,h.get? b=some o->H b=none->b∉fs->b∉ex->h'.get? b=some o
 slot:∀b o,h.get? b=some o->H b=none->b∈fs->b∉ex->∃sl,h'.get? b=some { o with slots:=sl }
 free:∀b o,h.get? b=some o->H b=none->b∉ex->H' b=none
 there:∀b o,h.get? b=some o->b∉ex->∃o',h'.get? b=some o'
 dN:∀b xs,H b=some (.tup xs)->H' b=some (.tup xs)
 frzs:∀b o u,H b=some (.frz o u)->H' b=some (.frz o u)
 tbls:∀b ps,H b=some (.tbl ps)->∃more,H' b=some (.tbl (ps++more))
section
variable {fs fs' ex ex':List Addr}{H H1 H2:Hp}{h h1 h2 h':Heap}{a x e:Addr}{o:HO}
theorem Un.any(u:Un fs ex H H1 h h1){b:Addr}{ob:Obj}(q:h.get? b=some ob)(n:H b=none)(hx:b∉ex):∃sl,h1.get? b=some { ob with slots:=sl }:=by
 by_cases hb:b∈fs
 ·exact u.slot b ob q n hb hx
 ·exact⟨ob.slots,u.keep b ob q n hb hx⟩
theorem Un.kept(k:∀b u,h.get? b=some u->h'.get? b=some u):Un fs ex H H h h' :=
 ⟨fun b ob q _ _ _=>k b ob q,fun b ob q _ _ _=>⟨ob.slots,k b ob q⟩,fun _ _ _ n _=>n,fun b ob q _=>⟨ob,k b ob q⟩,fun _ _ q=>q,fun _ _ _ q=>q,fun _ ps q=>⟨#[],by rw[q];simp⟩⟩
theorem Un.refl:Un fs ex H H h h:=Un.kept fun _ _ q=>q
theorem Un.laid(k:∀b u,h.get? b=some u->h'.get? b=some u)(hp:h.objs.size≤a)(hn:H a=none):Un fs ex H (upd H a o) h h' where
 keep:=fun b u q _ _ _=>k b u q
 slot:=fun b u q _ _ _=>⟨u.slots,k b u q⟩
 free:=fun b u q n _=>by rw[aC (Ki (Ko (J0 q) hp))];exact n
 there:=fun b u q _=>⟨u,k b u q⟩
 dN:=fun b xs q=>by rw[aC (aD q hn)];exact q
 frzs:=fun b u xs q=>by rw[aC (aD q hn)];exact q
 tbls:=fun b ps q=>⟨#[],by rw[aC (aD q hn),q];simp⟩
theorem Un.write(mu:Mut (H x))(he:e=x∨H e=some (.own x))(k:∀b u,b≠e->h.get? b=some u->h'.get? b=some u)(heo:∃u,h'.get? e=some u):Un fs ex H (upd H x o) h h':=by
 have hx:∀b,H b=none->b≠x:=fun b n z=>by subst z;rw[n]at mu;exact mu
 have hb:∀b,H b=none->b≠e:=fun b n z=>by
  subst z;rcases he with r | r
  ·exact hx b n r
  ·rw[n]at r;cases r
 have hm:∀b u,H b=some u->¬Mut (some u)->b≠x:=fun b u q nm z=>by subst z;rw[q]at mu;exact nm mu
 refine⟨fun b u q n _ _=>k b u (hb b n) q,fun b u q n _ _=>⟨u.slots,k b u (hb b n) q⟩,fun b u q n _=>by rw[aC (hx b n)];exact n,fun b u q _=>?_,
  fun b xs q=>by rw[aC (hm b _ q fun z=>z)];exact q,fun b u xs q=>by rw[aC (hm b _ q fun z=>z)];exact q,fun b ps q=>⟨#[],by rw[aC (hm b _ q fun z=>z),q];simp⟩⟩
 by_cases hbe:b=e
 ·subst hbe;exact heo
 ·exact⟨u,k b u hbe q⟩
end
def trk(h:Heap)(H:Hp):List Addr:=(List.range h.objs.size).filter fun a=>(H a).isSome
def kM(h:Heap)(H:Hp):Heap:=PySem.W.hideAll h (trk h H)
theorem rE(h:Heap)(H:Hp):(kM h H).objs.size=h.objs.size:=PySem.W.hideAll_size _ _
theorem sv(e:h.get? b=some o)(n:H b=none):(kM h H).get? b=some o :=
 PySem.W.hideAll_get _ e fun hm=>by
  have q:(H b).isSome=true:=(Le.mp hm).2;rw[n]at q;simp at q
theorem yj(e:(kM h H).get? b=some o):h.get? b=some o/\H b=none:=by
 have e':h.get? b=some o:=PySem.W.of_hideAll (trk h H) e;refine⟨e',?_⟩;cases q:H b with
 | none=>rfl
 | some x =>
  have hm:b∈trk h H:=Le.mpr ⟨KI.mpr (J0 e'),by simp[q]⟩;have z:(kM h H).get? b=none:=PySem.W.hideAll_none (trk h H) hm;rw[z]at e;cases e
def ya(g h:Heap)(L:Addr):List (Addr×Obj):=(List.range h.objs.size).filterMap fun a=>if a=L∨(g.get? a).isSome=true then none else(h.get? a).map fun o=>(a,o)
def rest(g h:Heap)(L d:Addr):List (Addr×Obj):=(ya g h L).filter fun p=>decide (p.1≠d)
end
section
structure Mod (K:LFr) (mg:Str→Option Value) (base:Heap):Prop where
 kin:K.In base
 glob:base.Ns mainGlobals mg
 blt:∃mb,base.Ns builtinsNs mb/\∀x:Str,x≠"__name__"->mb x=bootBuiltins x
 nolimit:base.NoLimit
structure Cx where
 prog:Program
 w:World
 K:LFr
 mg:Str->Option Value
 base:Heap
 A:Around
 N:List Str
 s₀:Shared
 H₀:Hp
 env:Env
 outer:List Env
 stack:List Env
 ex:List Addr
 fn:Str->Bool
 calm:Bool
 pn:List (Addr×Obj)
 xe:Value->Shared->Prop
def frs(l:List Env):List Addr:=l.filterMap (·.frame)
abbrev Cx.fs(X:Cx):List Addr:=frs X.outer
def Vis(sc:Scope)(x:Str):Prop:=sc.names.lookup x=some .local∨sc.names.lookup x=some .cell∨sc.names.lookup x=some .free
def Loc(sc:Scope)(x:Str):Prop:=sc.names.lookup x=some .local∨sc.names.lookup x=some .cell
def Look(env:Env)(h:Heap)(m:Str->Option Value)(x:Str)(u:Value):Prop :=
 (env.kindOf x=some .local/\m x=some u)∨((env.kindOf x=some .cell∨env.kindOf x=some .free)/\∃c,env.cells.lookup x=some c/\h.IsCell c (some u))
structure Cx.Ok (X:Cx):Prop where
 mod:Mod X.K X.mg X.base
 kind:X.env.scope.kind=.function
 glob:X.env.globals=mainGlobals
 blt:X.env.builtins=builtinsNs
 above:X.s₀.heap.objs.size≤X.env.locals
 inj:∀x y c,X.env.cells.lookup x=some c->X.env.cells.lookup y=some c->x=y
 has:∀x,(X.env.kindOf x=some .cell∨X.env.kindOf x=some .free)->∃c,X.env.cells.lookup x=some c
 cab:∀x c,X.fn x=true->X.env.cells.lookup x=some c->X.s₀.heap.objs.size≤c
 hd:X.calm=true->X.A.handled=none
 frames:X.A.frames=some X.stack
 stk:X.stack=X.outer∨(X.stack=X.env::X.outer/\X.env.frame=some X.env.locals)
 exf:∀b∈X.ex,b≠X.env.locals/\∀x c,X.env.cells.lookup x=some c->c≠b
 bs:∀b o,X.base.get? b=some o->X.s₀.heap.get? b=some o/\X.H₀ b=none
 bsz:X.base.objs.size≤X.s₀.heap.objs.size
 noex:∀b o,X.base.get? b=some o->b∉X.ex
 exfs:∀b∈X.ex,b∉X.fs
 funs:X.s₀.heap.FunFrames X.base X.outer
 frf:∀b∈X.fs,X.H₀ b=none
structure Inv (X:Cx) (pins:List (Addr × Obj)) (σ:List (Option V)) (H:Hp) (s:Shared):Prop where
 ok:X.Ok
 os:s.os=X.s₀.os
 bare:AllBare s.gens
 base:Un X.fs X.ex X.H₀ H X.s₀.heap s.heap
 loc:∃m,s.heap.Ns X.env.locals m/\∀(i:Nat) (x:Str) (v:V),X.N[i]?=some x->σ[i]?=some (some v)->Vis X.env.scope x->∃u,RelV v u/\Look X.env s.heap m x u
 cell:∀x c,X.env.cells.lookup x=some c->∃v,s.heap.IsCell c v
 free:H X.env.locals=none
 freeC:∀x c,X.env.cells.lookup x=some c->H c=none
 pin:∀p∈X.pn++pins,s.heap.get? p.1=some p.2/\H p.1=none/\p.1≠X.env.locals/\p.1∉X.fs/\∀v,p.2.data≠.cell v
 hok:HOk X.prog X.w H s.heap
 len:σ.length=X.N.length
section
variable {X:Cx}{pins:List (Addr×Obj)}{σ:List (Option V)}{H H':Hp}{s:Shared}{h':Heap}
theorem Cx.Ok.nofr(ok:X.Ok){b:Addr}{o:Obj}(e:X.base.get? b=some o):b∉X.fs:=fun hb=>by
 have:=(ok.funs.mem hb).1;rw[e]at this;cases this
theorem Inv.bs(I:Inv X pins σ H s):∀b o,X.base.get? b=some o->s.heap.get? b=some o/\H b=none:=fun b o e =>
 ⟨I.base.keep b o (I.ok.bs b o e).1 (I.ok.bs b o e).2 (I.ok.nofr e) (I.ok.noex b o e),I.base.free b o (I.ok.bs b o e).1 (I.ok.bs b o e).2 (I.ok.noex b o e)⟩
theorem Inv.bk(I:Inv X pins σ H s):∀b o,X.base.get? b=some o->s.heap.get? b=some o:=fun b o e=>(I.bs b o e).1
theorem Inv.mod(I:Inv X pins σ H s):Mod X.K X.mg X.base:=I.ok.mod
theorem Inv.kIn(I:Inv X pins σ H s):X.K.In s.heap:=I.ok.mod.kin.keeps I.bk
theorem Inv.lt(I:Inv X pins σ H s):X.env.locals<s.heap.objs.size:=let ⟨_,hn,_⟩:=I.loc;hn.lt
theorem Inv.sz(I:Inv X pins σ H s):X.s₀.heap.objs.size≤s.heap.objs.size:=Lv I.ok.above (Nat.le_of_lt I.lt)
theorem Inv.nofs(I:Inv X pins σ H s){a:Addr}(h:s.heap.objs.size≤a):a∉X.fs:=fun hb=>by
 obtain⟨_,o,ho,_⟩:=I.ok.funs.mem hb;exact absurd (Ko (J0 ho) (Lv I.sz h)) (Ls _)
theorem Inv.cne(I:Inv X pins σ H s):∀x c,X.env.cells.lookup x=some c->c≠X.env.locals:=fun x c e z=>by
 obtain⟨v,o,ho,hd⟩:=I.cell x c e;obtain⟨m,⟨o',es,ep,ho',hd',_⟩,_⟩:=I.loc;rw[z,ho']at ho;cases ho;rw[hd']at hd;cases hd
theorem Inv.funs(I:Inv X pins σ H s):s.heap.FunFrames X.base X.outer:=by
 have all:∀(l:List Env),(∀b∈frs l,b∈X.fs)->X.s₀.heap.FunFrames X.base l->s.heap.FunFrames X.base l:=by
  intro l
  induction l with
  | nil=>intro _ _;trivial
  | cons env r ih =>
   intro hs hl;obtain⟨hk,⟨L,o,hf,hn,ho,hd⟩,hr⟩:=hl;have hL:L∈X.fs:=hs L (by unfold frs;rw[List.filterMap_cons,hf];exact J6);obtain⟨sl,e⟩:=I.base.slot L o ho (I.ok.frf L hL) hL fun z=>I.ok.exfs L z hL;exact⟨hk,⟨L,_,hf,hn,e,hd⟩,ih (fun b hb=>hs b (by unfold frs;rw[List.filterMap_cons,hf];exact J8 _ hb)) hr⟩
 exact all X.outer (fun _ hb=>hb) I.ok.funs
theorem Inv.stack(I:Inv X pins σ H s):s.heap.FunFrames X.base X.stack:=by
 rcases I.ok.stk with e |⟨e,hf⟩
 ·rw[e];exact I.funs
 ·rw[e];obtain⟨m,hn,_⟩:=I.loc;refine .cons (by rw[I.ok.kind];decide) hf hn ?_ I.funs;exact Heap.get?_none_of_le (Lv I.ok.bsz I.ok.above)
theorem Inv.stkSub(I:Inv X pins σ H s):∀b∈frs X.stack,b∈X.env.locals::X.fs:=fun b hb=>by
 rcases I.ok.stk with e |⟨e,hf⟩
 ·rw[e]at hb;exact J8 _ hb
 ·rw[e]at hb;unfold frs at hb;rw[List.filterMap_cons,hf]at hb;exact hb
theorem Inv.stkFree(I:Inv X pins σ H s):∀b∈frs X.stack,H b=none:=fun b hb=>by
 rcases J7.mp (I.stkSub b hb)with e | hb
 ·rw[e];exact I.free
 ·obtain⟨_,o,ho,_⟩:=I.ok.funs.mem hb;exact I.base.free b o ho (I.ok.frf b hb) fun z=>I.ok.exfs b z hb
theorem Inv.step{ch:List Addr}(I:Inv X pins σ H s)
  (hch:∀b∈ch,(b∈X.ex∨X.s₀.heap.objs.size≤b)/\b≠X.env.locals/\(∀x c,X.env.cells.lookup x=some c->c≠b)/\∀p∈X.pn++pins,p.1≠b)
  (keep:∀b o,b≠X.env.locals->b∉X.fs->b∉ch->s.heap.get? b=some o->H b=none->h'.get? b=some o)
  (slot:∀b o,b≠X.env.locals->b∈X.fs->b∉ch->s.heap.get? b=some o->H b=none->∃sl,h'.get? b=some { o with slots:=sl }) (free:∀b o,b∉ch->s.heap.get? b=some o->H b=none->H' b=none)
  (there:∀b o,b∉ch->s.heap.get? b=some o->∃o',h'.get? b=some o')
  (dN:∀b xs,H b=some (.tup xs)->H' b=some (.tup xs)) (frzs:∀b o u,H b=some (.frz o u)->H' b=some (.frz o u)) (tbls:∀b ps,H b=some (.tbl ps)->∃more,H' b=some (.tbl (ps++more)))
  (ns:∀m,s.heap.Ns X.env.locals m->h'.Ns X.env.locals m) (hok:HOk X.prog X.w H' h') (hg:AllBare g') :
  Inv X pins σ H' { s with heap:=h',gens:=g',drawn:=d',toks:=t' }:=by
 have neL:∀b o,X.s₀.heap.get? b=some o->b≠X.env.locals:=fun b o e=>Ki (Ko (J0 e) I.ok.above);have neC:∀b o,X.s₀.heap.get? b=some o->b∉X.ex->b∉ch:=fun b o e hx hb=>by
  rcases (hch b hb).1 with z | z
  ·exact hx z
  ·exact absurd (Ko (J0 e) z) (Ls _)
 have cellK:∀x c,X.env.cells.lookup x=some c->∀v,s.heap.IsCell c v->h'.IsCell c v:=fun x c e v y_=>by
  obtain⟨o,ho,hd⟩:=y_;have nch:c∉ch:=fun z=>(hch c z).2.2.1 x c e rfl;by_cases hc:c∈X.fs
  ·obtain⟨sl,q⟩:=slot c o (I.cne x c e) hc nch ho (I.freeC x c e);exact⟨_,q,hd⟩
  ·exact⟨o,keep c o (I.cne x c e) hc nch ho (I.freeC x c e),hd⟩
 refine⟨I.ok,I.os,hg,⟨fun b o e n hb hx=>?_,fun b o e n hb hx=>?_,fun b o e n hx=>?_,fun b o e hx=>?_,fun b xs e=>dN b xs (I.base.dN b xs e),fun b o xs e=>frzs b o xs (I.base.frzs b o xs e),fun b ps e=>?_⟩,?_,fun x c e=>?_,?_,fun x c e=>?_,fun p hp=>?_,hok,I.len⟩
 ·exact keep b o (neL b o e) hb (neC b o e hx) (I.base.keep b o e n hb hx) (I.base.free b o e n hx)
 ·obtain⟨sl,e1⟩:=I.base.slot b o e n hb hx;obtain⟨sl',e2⟩:=slot b _ (neL b o e) hb (neC b o e hx) e1 (I.base.free b o e n hx);exact⟨sl',e2⟩
 ·obtain⟨o',e1⟩:=I.base.there b o e hx;exact free b o' (neC b o e hx) e1 (I.base.free b o e n hx)
 ·obtain⟨o',e1⟩:=I.base.there b o e hx;exact there b o' (neC b o e hx) e1
 ·obtain⟨m1,e1⟩:=I.base.tbls b ps e;obtain⟨m2,e2⟩:=tbls b _ e1;exact⟨m1++m2,by rw[e2,Array.append_assoc]⟩
 ·obtain⟨m,hn,hl⟩:=I.loc;refine⟨m,ns m hn,fun i x v e1 e2 e3=>?_⟩;obtain⟨u,r,l⟩:=hl i x v e1 e2 e3;refine⟨u,r,?_⟩;rcases l with l |⟨k,c,e,z⟩
  ·exact .inl l
  ·exact .inr ⟨k,c,e,cellK x c e _ z⟩
 ·obtain⟨v,z⟩:=I.cell x c e;exact⟨v,cellK x c e v z⟩
 ·obtain⟨m,⟨o,_,_,ho,_⟩,_⟩:=I.loc;exact free _ o (fun z=>(hch _ z).2.1 rfl) ho I.free
 ·obtain⟨v,o,ho,hd⟩:=I.cell x c e;exact free c o (fun z=>(hch c z).2.2.1 x c e rfl) ho (I.freeC x c e)
 ·obtain⟨e,n,ne,nf,d⟩:=I.pin p hp;have nch:p.1∉ch:=fun z=>(hch p.1 z).2.2.2 p hp rfl;exact⟨keep p.1 p.2 ne nf nch e n,free p.1 p.2 nch e n,ne,nf,d⟩
theorem Inv.un(I:Inv X pins σ H s)(u:Un X.fs [] H H' s.heap h')(hok:HOk X.prog X.w H' h'):Inv X pins σ H' { s with heap:=h',toks:=t' }:=by
 obtain⟨m,⟨o,es,ep,ho,r⟩,_⟩:=id I.loc;obtain⟨sl,hL⟩:=u.any ho I.free (by simp);exact I.step (g':=s.gens) (d':=s.drawn) (ch:=[]) (fun _ z=>nomatch z) (fun b o _ hb _ e n=>u.keep b o e n hb (by simp)) (fun b o _ hb _ e n=>u.slot b o e n hb (by simp)) (fun b o _ e n=>u.free b o e n (by simp)) (fun b o _ e=>u.there b o e (by simp)) u.dN u.frzs u.tbls (fun m' hm=>by
  obtain⟨o',es',ep',ho',r'⟩:=hm;rw[ho]at ho';cases ho';exact⟨_,es',ep',hL,r'⟩) hok I.bare
theorem Inv.call(I:Inv X pins σ H s)(u:Un (frs X.stack) ch H H' s.heap h')(hok:HOk X.prog X.w H' h')(hg:AllBare g')
  (hch:∀b∈ch,(b∈X.ex∨X.s₀.heap.objs.size≤b)/\b≠X.env.locals/\(∀x c,X.env.cells.lookup x=some c->c≠b)/\∀p∈X.pn++pins,p.1≠b) :
  Inv X pins σ H' { s with heap:=h',gens:=g',drawn:=d',toks:=t' }:=by
 obtain⟨m,⟨o,es,ep,ho,r⟩,_⟩:=id I.loc;obtain⟨sl,hL⟩:=u.any ho I.free fun z=>(hch _ z).2.1 rfl;exact I.step (ch:=ch) hch (fun b o hL hb hc e n=>u.keep b o e n (fun z=>(J7.mp (I.stkSub b z)).elim hL hb) hc) (fun b o _ _ hc e n=>u.any e n hc) (fun b o hc e n=>u.free b o e n hc) (fun b o hc e=>u.there b o e hc) u.dN u.frzs u.tbls (fun m' hm=>by
  obtain⟨o',es',ep',ho',r'⟩:=hm;rw[ho]at ho';cases ho';exact⟨_,es',ep',hL,r'⟩) hok hg
theorem Inv.turned(I:Inv X pins σ H s)(k:∀b o,b≠it->s.heap.get? b=some o->h'.get? b=some o)(hn:H it=none)(hL:it≠X.env.locals)
  (h1:it∈X.ex∨X.s₀.heap.objs.size≤it) (h2:∀x c,X.env.cells.lookup x=some c->c≠it) (h3:∀p∈X.pn++pins,p.1≠it):Inv X pins σ H { s with heap:=h',toks:=t' }:=by
 have nit:∀b u,H b=some u->b≠it:=fun b u e z=>by rw[z,hn]at e;cases e
 refine I.step (g':=s.gens) (d':=s.drawn) (ch:=[it]) (fun b hb=>?_) (fun b o _ _ hc e _=>k b o (fun z=>hc (by simp[z])) e) (fun b o _ _ hc e _=>⟨o.slots,k b o (fun z=>hc (by simp[z])) e⟩) (fun _ _ _ _ n=>n)
  (fun b o hc e=>⟨o,k b o (fun z=>hc (by simp[z])) e⟩) (fun _ _ e=>e) (fun _ _ _ e=>e) (fun b ps e=>⟨#[],by rw[e];simp⟩) (fun m hm=>?_) (fun b u e=>?_) I.bare
 ·have e:b=it:=by simpa using hb
  subst e;exact⟨h1,hL,h2,h3⟩
 ·obtain⟨o,es,ep,ho,r⟩:=hm;exact⟨o,es,ep,k _ o (Ne.symm hL) ho,r⟩
 ·refine(I.hok b u e).stay (fun c v hc q=>k c v ?_ q) (fun _ q=>q) fun _ _ q=>q;rcases hc with z | z
  ·rw[z];exact nit b u e
  ·exact nit c _ z
theorem Inv.tok(I:Inv X pins σ H s)(t:Nat):Inv X pins σ H { s with toks:=t }:=I.un (h':=s.heap) (t':=t) Un.refl I.hok
theorem Inv.kept(I:Inv X pins σ H s)(k:∀b u,s.heap.get? b=some u->h'.get? b=some u):Inv X pins σ H { s with heap:=h',toks:=t' }:=I.un (Un.kept k) (I.hok.kept k)
theorem Inv.laid{a:Addr}(I:Inv X pins σ H s)(k:∀b u,s.heap.get? b=some u->h'.get? b=some u)(hp:s.heap.objs.size≤a)(new:bg X.prog X.w (upd H a o) h' a o) :
  Inv X pins σ (upd H a o) { s with heap:=h',toks:=t' }:=I.un (Un.laid k hp (I.hok.fresh hp)) (I.hok.laid k hp new)
theorem Inv.write(I:Inv X pins σ H s)(mu:Mut (H x))(he:e=x∨H e=some (.own x))(k:∀b u,b≠e->s.heap.get? b=some u->h'.get? b=some u)(heo:∃u,h'.get? e=some u)
  (new:bg X.prog X.w (upd H x o) h' x o):Inv X pins σ (upd H x o) { s with heap:=h',toks:=t' }:=I.un (Un.write mu he k heo) (I.hok.write mu he k heo new)
theorem Inv.pins_of(I:Inv X pins σ H s)(h:∀p∈pins',s.heap.get? p.1=some p.2/\H p.1=none/\p.1≠X.env.locals/\p.1∉X.fs/\∀v,p.2.data≠.cell v):Inv X pins' σ H s :=
 ⟨I.ok,I.os,I.bare,I.base,I.loc,I.cell,I.free,I.freeC,fun p hp=>(K6.mp hp).elim (fun z=>I.pin p (KD _ z)) (h p),I.hok,I.len⟩
theorem mK{N:List Str}(hN:N.Nodup){i j:Nat}{x:Str}(a:N[i]?=some x)(b:N[j]?=some x):i=j:=by
 obtain⟨h1,e1⟩:=JS.mp a;obtain⟨h2,e2⟩:=JS.mp b;exact(List.getElem_inj hN).mp (e1.trans e2.symm)
theorem jE{M:Model}{A:Around}{E:Value->Shared->Prop}{i:Nat}{x:Str}{v:V}{u:Value}{Q:Unit->Shared->Prop}(I:Inv X pins σ H s)(hN:X.N.Nodup)(hi:X.N[i]?=some x)(hx:Loc X.env.scope x)(r:RelV v u)
  (h:∀s',Inv X pins (σ.set i (some v)) H s'->(∃a,Heap.SameBut a s.heap s'.heap/\(a=X.env.locals∨X.env.cells.lookup x=some a))->Q () s') (hf:X.fn x=true∨X.env.scope.names.lookup x=some .local:=by first | exact .inl rfl | exact .inr rfl | assumption):wpAny M A (storeName X.env x u) Q E s:=by
 obtain⟨m,hn,hl⟩:=id I.loc;have hcls:(X.env.scope.kind==.class||(X.env.scope.kind==.module&&X.env.locals !=X.env.globals))=false:=by rw[I.ok.kind];rfl
 have hiσ:i<σ.length:=by rw[I.len];exact(JS.mp hi).1
 have cne:=I.cne;have tracked:∀{a:Addr} {h':Heap},(∃o,s.heap.get? a=some o/\H a=none)->Heap.SameBut a s.heap h'->HOk X.prog X.w H h':=fun {a h'} ha hs b ob e=>by
  obtain⟨_,_,hfree⟩:=ha;refine(I.hok b ob e).stay (fun c w' hc q=>(hs.2 c ?_).trans q) (fun _ q=>q) fun _ _ q=>q;rintro rfl;rcases hc with rfl | hc
  ·rw[hfree]at e;cases e
  ·rw[hfree]at hc;cases hc
 rcases hx with hk | hk
 ·refine wpAny_storeName_local hk hn (fun h' hn' hs=>?_) hcls;obtain⟨oL,_,_,hoL,_⟩:=id hn;refine h _ ⟨I.ok,I.os,I.bare,⟨fun b o e n hb hx=>?_,fun b o e n hb hx=>?_,I.base.free,fun b o e hx=>?_,I.base.dN,I.base.frzs,I.base.tbls⟩,⟨_,hn',fun j y v' e1 e2 e3=>?_⟩,fun y c e=>?_,I.free,I.freeC,fun p hp=>?_,tracked ⟨oL,hoL,I.free⟩ hs,by simpa using I.len⟩ ⟨_,hs,.inl rfl⟩
  ·exact(hs.2 b (Ki (Ko (J0 e) I.ok.above))).trans (I.base.keep b o e n hb hx)
  ·obtain⟨sl,e1⟩:=I.base.slot b o e n hb hx;exact⟨sl,(hs.2 b (Ki (Ko (J0 e) I.ok.above))).trans e1⟩
  ·obtain⟨o',e1⟩:=I.base.there b o e hx;exact⟨o',(hs.2 b (Ki (Ko (J0 e) I.ok.above))).trans e1⟩
  ·by_cases hj:j=i
   ·subst hj;rw[hi]at e1;cases e1;rw[List.getElem?_set_self hiσ]at e2;cases e2;exact⟨u,r,.inl ⟨hk,by simp⟩⟩
   ·rw[List.getElem?_set_ne (Ne.symm hj)]at e2;obtain⟨u',r',q⟩:=hl j y v' e1 e2 e3;refine⟨u',r',?_⟩;rcases q with⟨k,e⟩ |⟨k,c,e,z⟩
    ·refine .inl ⟨k,?_⟩;have:y≠x:=fun e=>hj (mK hN e1 (e▸hi));simp[this,e]
    ·exact .inr ⟨k,c,e,z.sameBut hs (cne y c e)⟩
  ·obtain⟨w',z⟩:=I.cell y c e;exact⟨w',z.sameBut hs (cne y c e)⟩
  ·obtain⟨e,n,ne,nf,d⟩:=I.pin p hp;exact⟨(hs.2 p.1 ne).trans e,n,ne,nf,d⟩
 ·have hfn:X.fn x=true:=by
   rcases hf with z | z
   ·exact z
   ·rw[z]at hk;cases hk
  obtain⟨c,hc⟩:=I.ok.has x (.inl hk);obtain⟨w',z⟩:=I.cell x c hc;refine wpAny_storeName_cell I.ok.kind hk hc z (fun h' hc' hs=>?_);obtain⟨oc,hoc,hocd⟩:=id z;refine h { s with heap:=h' } ⟨I.ok,I.os,I.bare,⟨fun b o e n hb hx=>?_,fun b o e n hb hx=>?_,I.base.free,fun b o e hx=>?_,I.base.dN,I.base.frzs,I.base.tbls⟩,⟨m,hn.sameBut hs (Ne.symm (cne x c hc)),fun j y v' e1 e2 e3=>?_⟩,fun y c' e=>?_,I.free,I.freeC,fun p hp=>?_,tracked ⟨oc,hoc,I.freeC x c hc⟩ hs,by simpa using I.len⟩ ⟨c,hs,.inr hc⟩
  ·exact(hs.2 b (Ki (Ko (J0 e) (I.ok.cab x c hfn hc)))).trans (I.base.keep b o e n hb hx)
  ·obtain⟨sl,e1⟩:=I.base.slot b o e n hb hx;exact⟨sl,(hs.2 b (Ki (Ko (J0 e) (I.ok.cab x c hfn hc)))).trans e1⟩
  ·obtain⟨o',e1⟩:=I.base.there b o e hx;exact⟨o',(hs.2 b (Ki (Ko (J0 e) (I.ok.cab x c hfn hc)))).trans e1⟩
  ·by_cases hj:j=i
   ·subst hj;rw[hi]at e1;cases e1;rw[List.getElem?_set_self hiσ]at e2;cases e2;exact⟨u,r,.inr ⟨.inl hk,c,hc,hc'⟩⟩
   ·rw[List.getElem?_set_ne (Ne.symm hj)]at e2;obtain⟨u',r',q⟩:=hl j y v' e1 e2 e3;refine⟨u',r',?_⟩;rcases q with q |⟨k,c',e,z'⟩
    ·exact .inl q
    ·refine .inr ⟨k,c',e,z'.sameBut hs ?_⟩;rintro rfl;exact hj (mK hN e1 (I.ok.inj _ _ _ e hc▸hi))
  ·by_cases hcc:c'=c
   ·subst hcc;exact⟨_,hc'⟩
   ·obtain⟨w2,z2⟩:=I.cell y c' e;exact⟨w2,z2.sameBut hs hcc⟩
  ·obtain⟨e,n,ne,nf,d⟩:=I.pin p hp;refine⟨(hs.2 p.1 ?_).trans e,n,ne,nf,d⟩;intro q;rw[q,hoc]at e;have q':oc=p.2:=Ks e;exact d w' (by rw[←q'];exact hocd)
theorem lS{M:Model}{A:Around}{E:Value->Shared->Prop}{i:Nat}{x:Str}{v:V}{u:Value}{Q:Unit->Shared->Prop}(I:Inv X pins σ H s)(hN:X.N.Nodup)(hi:X.N[i]?=some x)(hx:Loc X.env.scope x)(r:RelV v u)
  (h:∀s',Inv X pins (σ.set i (some v)) H s'->Q () s') (hf:X.fn x=true∨X.env.scope.names.lookup x=some .local:=by first | exact .inl rfl | exact .inr rfl | assumption):wpAny M A (storeName X.env x u) Q E s :=
 jE I hN hi hx r (fun s' I' _=>h s' I') hf
theorem Inv.call'(I:Inv X pins σ H s)(ho:s'.os=s.os)(u:Un (frs X.stack) ch H H' s.heap s'.heap)(hok:HOk X.prog X.w H' s'.heap)(hg:AllBare s'.gens)
  (hch:∀b∈ch,(b∈X.ex∨X.s₀.heap.objs.size≤b)/\b≠X.env.locals/\(∀x c,X.env.cells.lookup x=some c->c≠b)/\∀p∈X.pn++pins,p.1≠b):Inv X pins σ H' s':=by
 obtain⟨h',g',d',t',o'⟩:=s';have e:o'=s.os:=ho;subst e;exact I.call (g':=g') (t':=t') (d':=d') u hok hg hch
end
abbrev XK:=Value->Option Addr->Hp->Prop
abbrev St:=List (Option V)
abbrev VK:=V->Hp->Prop
abbrev TE:=St->Hp->VK->Prop
abbrev TT:=St->Hp->(Bool->Hp->Prop)->Prop
abbrev TA:=St->Hp->(List V->Hp->Prop)->Prop
structure Ends where
 nx:St->Hp->Prop
 rt:VK
 bk:St->Hp->Prop:=fun _ _=>False
 ct:St->Hp->Prop:=fun _ _=>False
abbrev TS:=Ends->St->Hp->Prop
def EP(X:Cx)(pins:List (Addr×Obj))(σ:St)(Q:VK)(u:Value)(s':Shared):Prop:=∃v H',Inv X pins σ H' s'/\RelV v u/\Q v H'
def TP(X:Cx)(pins:List (Addr×Obj))(σ:St)(Q:Bool->Hp->Prop)(b:Bool)(s':Shared):Prop:=∃H',Inv X pins σ H' s'/\Q b H'
def AP(X:Cx)(pins:List (Addr×Obj))(σ:St)(Q:List V->Hp->Prop)(us:List Value)(s':Shared):Prop:=∃vs H',Inv X pins σ H' s'/\Vals vs us/\Q vs H'
def SP(X:Cx)(pins:List (Addr×Obj))(D:Ends)(f:Flow)(s':Shared):Prop :=
 match f with
 | .next=>∃σ' H',Inv X pins σ' H' s'/\D.nx σ' H'
 | .brk=>∃σ' H',Inv X pins σ' H' s'/\D.bk σ' H'
 | .cont=>∃σ' H',Inv X pins σ' H' s'/\D.ct σ' H'
 | .ret u=>∃v σ' H',Inv X pins σ' H' s'/\RelV v u/\D.rt v H'
def PE(X:Cx)(e:Expr)(t:TE):Prop :=
 ∀(pins:List (Addr×Obj)) (s:Shared) (σ:St) (H:Hp) (Q:VK),Inv X pins σ H s->t σ H Q->wpAny (model X.prog X.w) X.A (eval e X.env) (EP X pins σ Q) X.xe s
def PT(X:Cx)(e:Expr)(t:TT):Prop :=
 ∀(pins:List (Addr×Obj)) (s:Shared) (σ:St) (H:Hp) (Q:Bool->Hp->Prop),Inv X pins σ H s->t σ H Q->wpAny (model X.prog X.w) X.A (isTrue e X.env (eval e X.env)) (TP X pins σ Q) X.xe s
def PW(X:Cx)(e:Expr)(t:TT):Prop :=
 ∀(whole:Sem Value) (pins:List (Addr×Obj)) (s:Shared) (σ:St) (H:Hp) (Q:Bool->Hp->Prop),Inv X pins σ H s->t σ H Q->wpAny (model X.prog X.w) X.A (isTrue e X.env whole) (TP X pins σ Q) X.xe s
theorem PW.pt(h:PW X e t):PT X e t:=h _
def PA(X:Cx)(es:List Expr)(t:TA):Prop :=
 ∀(pos:Pos) (pins:List (Addr×Obj)) (s:Shared) (σ:St) (H:Hp) (Q:List V->Hp->Prop),Inv X pins σ H s->t σ H Q->wpAny (model X.prog X.w) X.A (spliced (backTo pos (starEach es X.env))) (AP X pins σ Q) X.xe s
def PS(X:Cx)(st:Stmt)(t:TS):Prop :=
 ∀(pins:List (Addr×Obj)) (s:Shared) (σ:St) (H:Hp) (D:Ends),Inv X pins σ H s->t D σ H->wpAny (model X.prog X.w) X.A (exec st X.env) (SP X pins D) X.xe s
def PSs(X:Cx)(st:List Stmt)(t:TS):Prop :=
 ∀(pins:List (Addr×Obj)) (s:Shared) (σ:St) (H:Hp) (D:Ends),Inv X pins σ H s->t D σ H->wpAny (model X.prog X.w) X.A (execs st X.env) (SP X pins D) X.xe s
theorem thn{t:Sem α}{Q Q':α->Shared->Prop}(h:wpAny M A t Q E s)(hQ:∀a s,Q a s->Q' a s):wpAny M A t Q' E s:=LO h hQ fun _ _ x=>x
end
section
section
variable {X:Cx}
theorem bin{a b:Expr}{ta tb:TE}(ha:PE X a ta)(hb:PE X b tb){pins:List (Addr×Obj)}{s:Shared}{σ:St}{H:Hp}{R:V->V->Hp->Prop}(I:Inv X pins σ H s)(h:ta σ H fun x H1=>tb σ H1 fun y H2=>R x y H2)
  {α:Type} {Q:α->Shared->Prop} {f:Value->Value->Sem α}
  (hf:∀v u s2 x y H2,Inv X pins σ H2 s2->RelV x v->RelV y u->R x y H2->wpAny (model X.prog X.w) X.A (f v u) Q X.xe s2) :
  wpAny (model X.prog X.w) X.A (eval a X.env) (fun v s₁=>wpAny (model X.prog X.w) X.A (eval b X.env) (fun u s₂=>wpAny (model X.prog X.w) X.A (f v u) Q X.xe s₂) X.xe s₁) X.xe s:=by
 refine thn (ha pins s σ H _ I h) fun v s1 y_=>?_;obtain⟨x,H1,I1,r1,q1⟩:=y_;refine thn (hb pins s1 σ H1 _ I1 q1) fun u s2 y_=>?_;obtain⟨y,H2,I2,r2,q2⟩:=y_;exact hf v u s2 x y H2 I2 r1 r2 q2
def F9(i:Nat):TE:=fun σ H Q=>∃v,σ[i]?=some (some v)/\Q v H
def tC(v:V):TE:=fun _ H Q=>Q v H
theorem C6{i:Nat}{x:Str}{pos:Pos}(hN:X.N[i]?=some x)(hv:Vis X.env.scope x)(hd:(x==("__debug__":Str))=false:=by decide)(hcd:(x==("__classdict__":Str))=false:=by decide):PE X (.Name x pos) (F9 i):=by
 intro pins s σ H Q I h;obtain⟨v,e,h⟩:=h;obtain⟨m,hn,hl⟩:=I.loc;obtain⟨u,r,l⟩:=hl i x v hN e hv;have fin:EP X pins σ Q u s:=⟨v,H,I,r,h⟩;rcases l with⟨hk,hm⟩ |⟨hk,c,hc,hcell⟩
 ·exact wpAny_Name (wpAny_loadName_local I.ok.kind hk hn hm fin) hd
 ·rcases hk with hk | hk
  ·exact wpAny_Name (wpAny_loadName_cell I.ok.kind hk hc hcell fin) hd
  ·exact wpAny_Name (wpAny_loadName_free I.ok.kind hk hc hcell fin hcd) hd
theorem AN:PE X (.Constant (.int i) j pos) (tC (.int i)):=fun _ _ _ H _ I h=>wpAny_Constant_int ⟨.int i,H,I.tok _,⟨_,rfl⟩,h⟩
theorem FT:PE X (.Constant (.bool b) j pos) (tC (.bl b)):=fun _ _ _ H _ I h=>Constant_bool ⟨.bl b,H,I,rfl,h⟩
theorem CW:PE X (.Constant .none j pos) (tC .non):=fun _ _ _ H _ I h=>Constant_none ⟨.non,H,I,rfl,h⟩
def Gl(X:Cx)(x:Str):Prop:=X.env.kindOf x=some .globalImplicit
theorem kS{E:Value->Shared->Prop}{pins:List (Addr×Obj)}{s:Shared}{σ:St}{H:Hp}{x:Str}{u:Value}{pos:Pos}{Q:Value->Shared->Prop}(I:Inv X pins σ H s)(hg:Gl X x)(hm:X.mg x=some u)(h:Q u s)
  (hd:(x==("__debug__":Str))=false:=by decide):wpAny (model X.prog X.w) X.A (eval (.Name x pos) X.env) Q E s :=
 Calls.Name_function_global I.ok.kind hg (Calls.loadGlobal_global (by rw[I.ok.glob];exact I.mod.glob.keeps I.bk) hm h) hd
theorem di{E:Value->Shared->Prop}{pins:List (Addr×Obj)}{s:Shared}{σ:St}{H:Hp}{x:Str}{u:Value}{pos:Pos}{Q:Value->Shared->Prop}(I:Inv X pins σ H s)(hg:Gl X x)(hm:X.mg x=none)(hv:bootBuiltins x=some u)(h:Q u s)
  (hn:x≠"__name__":=by decide) (hd:(x==("__debug__":Str))=false:=by decide):wpAny (model X.prog X.w) X.A (eval (.Name x pos) X.env) Q E s:=by
 obtain⟨mb,h1,h2⟩:=I.mod.blt;exact Calls.Name_function_global I.ok.kind hg (Calls.loadGlobal_builtin (by rw[I.ok.glob];exact I.mod.glob.keeps I.bk) hm (by rw[I.ok.blt];exact h1.keeps I.bk) ((h2 x hn).trans hv) h) hd
theorem xD{x:Str}{v:V}{u:Value}{pos:Pos}(hg:Gl X x)(hm:X.mg x=some u)(r:RelV v u)(hd:(x==("__debug__":Str))=false:=by decide):PE X (.Name x pos) (tC v) :=
 fun _ _ _ H _ I h=>kS I hg hm ⟨v,H,I,r,h⟩ hd
theorem xI{x:Str}{v:V}{u:Value}{pos:Pos}(hg:Gl X x)(hm:X.mg x=none)(hv:bootBuiltins x=some u)(r:RelV v u)(hn:x≠"__name__":=by decide)(hd:(x==("__debug__":Str))=false:=by decide):PE X (.Name x pos) (tC v) :=
 fun _ _ _ H _ I h=>di I hg hm hv ⟨v,H,I,r,h⟩ hn hd
variable {a b:Expr}{ta tb:TE}{pos:Pos}
def PC(X:Cx)(op:CmpOp)(a b:Expr)(t:TE):Prop :=
 ∀(pins:List (Addr×Obj)) (s:Shared) (σ:St) (H:Hp) (Q:VK),Inv X pins σ H s->t σ H Q ->
  wpAny (model X.prog X.w) X.A (eval a X.env) (fun v s₁=>wpAny (model X.prog X.w) X.A (eval b X.env) (fun u s₂=>wpAny (model X.prog X.w) X.A (compareOp op v u) (EP X pins σ Q) X.xe s₂) X.xe s₁) X.xe s
theorem su(b:Expr){op:CmpOp}(h:op≠.In)(h2:op≠.NotIn):behindInMarks op b=false:=by
 have e1:(op==CmpOp.In)=false:=by cases op<;>first | rfl | exact absurd rfl h
 have e2:(op==CmpOp.NotIn)=false:=by cases op<;>first | rfl | exact absurd rfl h2
 cases b<;>simp[behindInMarks,e1,e2]
def tB(t:TE):TT:=fun σ H Q=>t σ H fun x H1=>∃c,x=.bl c/\Q c H1
theorem Ih{op:CmpOp}{t:TE}(h:PC X op a b t)(h1:behindInMarks op b=false:=by first | exact su _ (by decide) (by decide) | rfl):PT X (.Compare a [op] [b] pos) (tB t):=by
 intro pins s σ H Q I hw;refine wpAny_isTrue_Compare1 (thn (h pins s σ H _ I hw) fun v s1 h1=>thn h1 fun u s2 h2=>thn h2 fun c s3 ⟨x,H1,I1,r1,q1⟩=>?_) h1;obtain⟨d,rfl,q⟩:=q1;cases r1;exact LB ⟨H1,I1,q⟩
theorem CH{e:Expr}{t:TE}(h:PE X e t)(he:∀whole,isTrue e X.env whole=(do let v←whole;standAt e.pos;holding [v] (truthy v)):=by intro _;rfl):PT X e (tB t):=by
 intro pins s σ H Q I hw;refine isTrue_plain (thn (h pins s σ H _ I hw) fun v s1 ⟨x,H1,I1,r1,q1⟩=>?_) (he _);obtain⟨d,rfl,q⟩:=q1;cases r1;exact LB ⟨H1,I1,q⟩
variable {tA tB':TT}{rest:List Expr}
def HI(t u:TT):TT:=fun σ H Q=>t σ H fun c H1=>if c=true then u σ H1 Q else Q false H1
def tOr(t u:TT):TT:=fun σ H Q=>t σ H fun c H1=>if c=true then Q true H1 else u σ H1 Q
def G0(t:TT):TT:=fun σ H Q=>t σ H fun c H1=>Q (!c) H1
theorem wo(ha:PT X a tA):PW X (.BoolOp .And [a] pos) tA:=by
 intro wh pins s σ H Q I h;refine isTrue_and (thn (ha pins s σ H Q I h) fun c s1 e=>?_);cases c with
 | true=>exact isTrue_and_nil e
 | false=>exact e
theorem A7(ha:PT X a tA):PW X (.BoolOp .Or [a] pos) tA:=by
 intro wh pins s σ H Q I h;refine isTrue_or (thn (ha pins s σ H Q I h) fun c s1 e=>?_);cases c with
 | false=>exact isTrue_or_nil e
 | true=>exact e
theorem AW(ha:PT X a tA)(hb:PW X (.BoolOp .And (b::rest) pos) tB'):PW X (.BoolOp .And (a::b::rest) pos) (HI tA tB'):=by
 intro wh pins s σ H Q I h;refine isTrue_and (thn (ha pins s σ H _ I h) fun c s1 y_=>?_);obtain⟨H1,I1,q1⟩:=y_;cases c with
 | true=>exact hb wh pins s1 σ H1 Q I1 q1
 | false=>exact⟨H1,I1,q1⟩
theorem DV(ha:PT X a tA)(hb:PW X (.BoolOp .Or (b::rest) pos) tB'):PW X (.BoolOp .Or (a::b::rest) pos) (tOr tA tB'):=by
 intro wh pins s σ H Q I h;refine isTrue_or (thn (ha pins s σ H _ I h) fun c s1 y_=>?_);obtain⟨H1,I1,q1⟩:=y_;cases c with
 | true=>exact⟨H1,I1,q1⟩
 | false=>exact hb wh pins s1 σ H1 Q I1 q1
theorem BY(ha:PT X a tA):PT X (.UnaryOp .Not a pos) (G0 tA):=by
 intro pins s σ H Q I h;exact isTrue_not (ha pins s σ H (fun c H1=>Q (!c) H1) I h)
def FR(ta tb:TE):TE:=fun σ H Q=>ta σ H fun x H1=>∃c,x=.bl c/\if c=true then tb σ H1 Q else Q (.bl false) H1
def F0(ta:TE):TE:=fun σ H Q=>ta σ H fun x H1=>∃c,x=.bl c/\Q (.bl (!c)) H1
theorem Ca(h:PE X a t):PE X (.BoolOp op [a] pos) t:=fun pins s σ H Q I hw=>BoolOp_one (h pins s σ H Q I hw)
theorem CD(ha:PE X a ta)(hb:PE X (.BoolOp .And (b::rest) pos) tb):PE X (.BoolOp .And (a::b::rest) pos) (FR ta tb):=by
 intro pins s σ H Q I h;refine BoolOp_and (thn (ha pins s σ H _ I h) fun v s1 y_=>?_);obtain⟨x,H1,I1,r1,q1⟩:=y_;obtain⟨c,rfl,q1⟩:=q1;cases r1;refine LB ?_;cases c with
 | true=>exact hb pins s1 σ H1 Q I1 q1
 | false=>exact⟨.bl false,H1,I1,rfl,q1⟩
theorem CZ(ha:PE X a ta):PE X (.UnaryOp .Not a pos) (F0 ta):=by
 intro pins s σ H Q I h;refine UnaryOp_ (thn (ha pins s σ H _ I h) fun v s1 y_=>?_);obtain⟨x,H1,I1,r1,q1⟩:=y_;obtain⟨c,rfl,q1⟩:=q1;cases r1;exact not_of (LB ⟨.bl (!c),H1,I1,rfl,q1⟩)
def tIf(t:TT)(ta tb:TE):TE:=fun σ H Q=>t σ H fun c H1=>if c=true then ta σ H1 Q else tb σ H1 Q
theorem uY(hc:PT X c tA)(ha:PE X a ta)(hb:PE X b tb):PE X (.IfExp c a b pos) (tIf tA ta tb):=by
 intro pins s σ H Q I h;refine wpAny_IfExp (thn (hc pins s σ H _ I h) fun d s1 y_=>?_);obtain⟨H1,I1,q1⟩:=y_;cases d with
 | true=>exact ha pins s1 σ H1 Q I1 q1
 | false=>exact hb pins s1 σ H1 Q I1 q1
end
end
section
def SqL(K:LFr)(H:Hp)(a:Addr)(xs:List V):Prop :=
 Rd H a (.lst xs) ∨
  ∃(o:Obj) (its:Array Value) (n:Nat),K.lookup a=some o/\o.cls=.type "list"/\o.dict=none/\o.data=.seq its n/\its.size≤sizeLine/\Vals xs its.toList
def SqT(K:LFr)(H:Hp)(a:Addr)(xs:List V):Prop :=
 Rd H a (.tup xs) ∨
  ∃(o:Obj) (its:Array Value) (n:Nat),K.lookup a=some o/\o.cls=.type "tuple"/\o.data=.seq its n/\its.size≤sizeLine/\Vals xs its.toList
def Hs:Value->Option V
 | .none=>some .non
 | .bool b=>some (.bl b)
 | .int i _=>some (.int i)
 | .str x _=>some (.str x)
 | .bytes b _=>some (.byt b)
 | .float b _=>some (.flt b)
 | .ref a=>some (.ref a)
 | .type n=>some (.ty n)
 | _=>none
theorem RelV.abs(r:RelV x u):Hs u=some x:=by
 cases x with
 | non=>cases r;rfl
 | bl _=>cases r;rfl
 | int _=>obtain⟨t,rfl⟩:=r;rfl
 | str _=>obtain⟨t,rfl⟩:=r;rfl
 | byt _=>obtain⟨t,rfl⟩:=r;rfl
 | flt _=>obtain⟨t,rfl⟩:=r;rfl
 | ref _=>cases r;rfl
 | ty _=>cases r;rfl
theorem RelV.inj{x y:V}{u:Value}(r:RelV x u)(q:RelV y u):x=y:=Ks (r.abs.symm.trans q.abs)
theorem Vals.inj:∀{xs ys:List V} {us:List Value},Vals xs us->Vals ys us->xs=ys
 | _,_,_,.nil,.nil=>rfl
 | _,_,_,.cons r t,.cons r' t'=>by rw[r.inj r',Vals.inj t t']
section
variable {X:Cx}{pins:List (Addr×Obj)}{σ:St}{H:Hp}{s:Shared}{a:Addr}{xs ys:List V}
theorem SqL.of{K:LFr}(h:H a=some (.lst xs)):SqL K H a xs:=.inl (.inl h)
theorem SqT.of{K:LFr}(h:H a=some (.tup xs)):SqT K H a xs:=.inl (.inl h)
theorem Inv.list(I:Inv X pins σ H s)(h:SqL X.K H a xs):∃its:List Value,Vals xs its/\PlainL s.heap a its.toArray/\xs.length≤sizeLine:=by
 rcases h with h |⟨o,its,n,hk,hc,hd,hs,hz,r⟩
 ·obtain⟨z,its,n,r,e⟩:=h.ok I.hok;exact⟨its,r,⟨_,n,e,rfl,rfl,rfl⟩,z⟩
 ·refine⟨its.toList,r,⟨o,n,I.kIn a o hk,hc,hd,by simpa using hs⟩,?_⟩;have e:=r.length;simp only[KZ]at e;omega
theorem Inv.tuple(I:Inv X pins σ H s)(h:SqT X.K H a xs):∃its:List Value,Vals xs its/\IsTup s.heap a its.toArray/\xs.length≤sizeLine:=by
 rcases h with h |⟨o,its,n,hk,hc,hs,hz,r⟩
 ·obtain⟨z,its,r,p⟩:=h.ok I.hok;exact⟨its,r,p,z⟩
 ·refine⟨its.toList,r,⟨o,I.kIn a o hk,hc,n,by simpa using hs⟩,?_⟩;have e:=r.length;simp only[KZ]at e;omega
theorem Inv.list_inj(I:Inv X pins σ H s)(h:SqL X.K H a xs)(h':SqL X.K H a ys):xs=ys:=by
 obtain⟨its,r,⟨o,n,e,_,_,d⟩,_⟩:=I.list h;obtain⟨its',r',⟨o',n',e',_,_,d'⟩,_⟩:=I.list h';rw[e]at e';cases e';rw[d]at d';injection d' with d1 _;have:its=its':=by simpa using congrArg Array.toList d1
 subst this;exact r.inj r'
theorem Inv.tuple_inj(I:Inv X pins σ H s)(h:SqT X.K H a xs)(h':SqT X.K H a ys):xs=ys:=by
 obtain⟨its,r,⟨o,e,_,n,d⟩,_⟩:=I.tuple h;obtain⟨its',r',⟨o',e',_,n',d'⟩,_⟩:=I.tuple h';rw[e]at e';cases e';rw[d]at d';injection d' with d1 _;have:its=its':=by simpa using congrArg Array.toList d1
 subst this;exact r.inj r'
end
abbrev Cx.wish(X:Cx)(E:Value->Shared->Prop):Cx:={ X with xe:=E }
abbrev Cx.nox(X:Cx):Cx:=X.wish fun _ _=>False
theorem Cx.Ok.wish{X:Cx}(ok:X.Ok)(E:Value->Shared->Prop):(X.wish E).Ok :=
 ⟨ok.mod,ok.kind,ok.glob,ok.blt,ok.above,ok.inj,ok.has,ok.cab,ok.hd,ok.frames,ok.stk,ok.exf,ok.bs,ok.bsz,ok.noex,ok.exfs,ok.funs,ok.frf⟩
theorem Cx.Ok.unwish{X:Cx}(ok:(X.wish E).Ok):X.Ok :=
 ⟨ok.mod,ok.kind,ok.glob,ok.blt,ok.above,ok.inj,ok.has,ok.cab,ok.hd,ok.frames,ok.stk,ok.exf,ok.bs,ok.bsz,ok.noex,ok.exfs,ok.funs,ok.frf⟩
section
variable {X:Cx}{pins:List (Addr×Obj)}{σ:St}{H:Hp}{s:Shared}{E:Value->Shared->Prop}
theorem Inv.wish(I:Inv X pins σ H s)(E:Value->Shared->Prop):Inv (X.wish E) pins σ H s:=⟨I.ok.wish E,I.os,I.bare,I.base,I.loc,I.cell,I.free,I.freeC,I.pin,I.hok,I.len⟩
theorem Inv.unwish(I:Inv (X.wish E) pins σ H s):Inv X pins σ H s:=⟨I.ok.unwish,I.os,I.bare,I.base,I.loc,I.cell,I.free,I.freeC,I.pin,I.hok,I.len⟩
theorem SP.unwish(h:SP (X.wish E) pins D f s'):SP X pins D f s':=by
 cases f with
 | next=>obtain⟨σ',H',I,q⟩:=h;exact⟨σ',H',I.unwish,q⟩
 | brk=>obtain⟨σ',H',I,q⟩:=h;exact⟨σ',H',I.unwish,q⟩
 | cont=>obtain⟨σ',H',I,q⟩:=h;exact⟨σ',H',I.unwish,q⟩
 | ret u=>obtain⟨v,σ',H',I,r,q⟩:=h;exact⟨v,σ',H',I.unwish,r,q⟩
theorem PSs.nox{st:List Stmt}(h:PSs X.nox st t):PSs X st t:=fun pins s σ H D I hw =>
 LO (h pins s σ H D (I.wish _) hw) (fun _ _ q=>q.unwish) fun _ _ z=>False.elim z
end
section
variable {X:Cx}{st:Stmt}{rest:List Stmt}{t u:TS}{e:Expr}{te:TE}{pos:Pos}
def Fl:TS:=fun D σ H=>D.nx σ H
def Im(t u:TS):TS:=fun D σ H=>t { D with nx:=u D } σ H
theorem yB:PSs X [] Fl:=fun _ _ σ H _ I h=>wpAny_execs_nil ⟨σ,H,I,h⟩
theorem uu(h1:PS X st t)(h2:PSs X rest u):PSs X (st::rest) (Im t u):=by
 intro pins s σ H D I h;refine wpAny_execs_cons (thn (h1 pins s σ H { D with nx:=u D } I h) fun f s1 q=>?_);cases f with
 | next =>
  obtain⟨σ',H',I',q⟩:=q;exact h2 pins s1 σ' H' D I' q
 | ret v=>exact q
 | brk=>exact q
 | cont=>exact q
theorem wI(h1:PS X st t):PSs X [st] t:=by
 intro pins s σ H D I h;refine wpAny_execs_cons (thn (h1 pins s σ H D I h) fun f s1 q=>?_);cases f with
 | next=>exact wpAny_execs_nil q
 | ret v=>exact q
 | brk=>exact q
 | cont=>exact q
theorem Inv.quiet{σ:St}(I:Inv X pins σ H s):interactive X.env=false:=by simp[interactive,I.ok.kind]
def Dk(te:TE):TS:=fun D σ H=>te σ H fun _ H1=>D.nx σ H1
theorem yX(he:PE X e te)(hs:swapsWith e none pos.line X.env=pure false:=by rfl):PS X (.Expr e pos) (Dk te):=by
 intro pins s σ H D I h;exact wpAny_Expr_any (thn (he pins s σ H _ I h) fun v s1 y_=>by obtain⟨x,H1,I1,r1,q1⟩:=y_;exact ⟨σ,H1,I1,q1⟩) I.quiet hs
def He(te:TE):TS:=fun D σ H=>te σ H D.rt
theorem Dd(he:PE X e te):PS X (.Return (some e) pos) (He te):=by
 intro pins s σ H D I h;exact wpAny_Return_some (thn (he pins s σ H _ I h) fun v s1 y_=>by obtain⟨x,H1,I1,r1,q1⟩:=y_;exact ⟨x,σ,H1,I1,r1,q1⟩)
def JK(c:TT)(t u:TS):TS:=fun D σ H=>c σ H fun b H1=>if b=true then t D σ H1 else u D σ H1
theorem EB(hc:PT X c tc)(ha:PSs X a t)(hb:PSs X b u):PS X (.If c a b pos) (JK tc t u):=by
 intro pins s σ H D I h;refine wpAny_If (thn (hc pins s σ H _ I h) fun d s1 y_=>?_);obtain⟨H1,I1,q1⟩:=y_;cases d with
 | true=>exact ha pins s1 σ H1 D I1 q1
 | false=>exact hb pins s1 σ H1 D I1 q1
end
abbrev TG:=V->St->Hp->(St->Hp->Prop)->Prop
abbrev TGs:=List V->St->Hp->(St->Hp->Prop)->Prop
def PG(X:Cx)(target:Expr)(t:TG):Prop :=
 ∀(pins:List (Addr×Obj)) (s:Shared) (σ:St) (H:Hp) (v:V) (u:Value) (Q:St->Hp->Prop),Inv X pins σ H s->RelV v u->t v σ H Q ->
  wpAny (model X.prog X.w) X.A (assign target X.env u) (fun _ s'=>∃σ' H',Inv X pins σ' H' s'/\Q σ' H') X.xe s
def PGs(X:Cx)(ts:List Expr)(t:TGs):Prop :=
 ∀(pins:List (Addr×Obj)) (s:Shared) (σ:St) (H:Hp) (vs:List V) (us:List Value) (Q:St->Hp->Prop),Inv X pins σ H s->Vals vs us->t vs σ H Q ->
  wpAny (model X.prog X.w) X.A (assignInOrder ((assignEach ts X.env).map (·.2)) us) (fun _ s'=>∃σ' H',Inv X pins σ' H' s'/\Q σ' H') X.xe s
abbrev Cg:=V->V->V->Hp->(Hp->Prop)->Prop
def i8(X:Cx)(t:Cg):Prop :=
 ∀(pins:List (Addr×Obj)) (s:Shared) (σ:St) (H:Hp) (o i v:V) (ov iv u:Value) (Q:Hp->Prop),Inv X pins σ H s->RelV o ov->RelV i iv->RelV v u->t o i v H Q ->
  wpAny (model X.prog X.w) X.A (setItem ov iv u) (fun _ s'=>∃H',Inv X pins σ H' s'/\Q H') X.xe s
section
variable {X:Cx}{pos:Pos}
def pD(i:Nat):TG:=fun v σ H Q=>Q (σ.set i (some v)) H
theorem xU{i:Nat}{x:Str}(hN:X.N.Nodup)(hi:X.N[i]?=some x)(hx:Loc X.env.scope x)(hf:X.fn x=true∨X.env.scope.names.lookup x=some .local:=by first | exact .inl rfl | exact .inr rfl | assumption):PG X (.Name x pos) (pD i):=by
 intro pins s σ H v u Q I r h;exact wpAny_assign_Name (lS I hN hi hx r (fun s' I'=>⟨_,H,I',h⟩) hf)
def JD:TGs:=fun vs σ H Q=>vs=[]/\Q σ H
def Ff(t:TG)(u:TGs):TGs:=fun vs σ H Q=>∃v r,vs=v::r/\t v σ H fun σ' H'=>u r σ' H' Q
theorem xm:PGs X [] JD:=by
 intro pins s σ H vs us Q I r h;obtain⟨e,h⟩:=h;subst e;cases r;exact assignInOrder_nil ⟨σ,H,I,h⟩
theorem tO{e:Expr}{es:List Expr}{t:TG}{u:TGs}(h1:PG X e t)(h2:PGs X es u)
  (hs:(assignEach (e::es) X.env).map (·.2)=assign e X.env::(assignEach es X.env).map (·.2):=by rfl):PGs X (e::es) (Ff t u):=by
 intro pins s σ H vs us Q I r h;obtain⟨v,vr,e1,h⟩:=h;subst e1;cases r with
 | cons r rr =>
  rw[hs];refine assignInOrder_cons (thn (h1 pins s σ H _ _ _ I r h) fun _ s1 y_=>?_);obtain⟨σ1,H1,I1,q1⟩:=y_;exact h2 pins s1 σ1 H1 _ _ Q I1 rr q1
def GV(K:LFr)(n:Nat)(t:TGs):TG:=fun v σ H Q=>∃a xs,v=.ref a/\SqT K H a xs/\xs.length=n/\t xs σ H Q
theorem Am{es:List Expr}{k:Nat}{t:TGs}{n:Nat}(hc:X.calm=true)(h:PGs X es t)
  (hn:(assignEach es X.env).length=n:=by rfl) (hst:(assignEach es X.env).findIdx? (·.1)=none:=by rfl):PG X (.Tuple es k pos) (GV X.K n t):=by
 intro pins s σ H v u Q I r hw;obtain⟨a,xs,e1,hq,hl,hw⟩:=hw;subst e1;cases r;obtain⟨its,rv,ht,hz⟩:=I.tuple hq;refine assign_Tuple_tuple (I.ok.hd hc) ht (by simp[hn,← hl,rv.length]) hst fun h' hx=>?_;have I1:Inv X pins σ H { s with heap:=h' }:=I.kept (t':=s.toks) fun b o e=>hx b o (Ki (J0 e)) e;exact h pins _ σ H xs _ Q I1 (by simpa using rv) hw
def IY(to ti:TE)(t:Cg):TG:=fun v σ H Q=>to σ H fun o H1=>ti σ H1 fun i H2=>t o i v H2 fun H3=>Q σ H3
theorem vW{o i:Expr}{to ti:TE}{t:Cg}(ho:PE X o to)(hi:PE X i ti)(hs:i8 X t)
  (ha:∀v,assign (.Subscript o i pos) X.env v=(do
   let ov←holding [v] (eval o X.env)
   let iv←holding [v,ov] (eval i X.env)
   standAt pos
   holding [v,ov,iv] (setItem ov iv v)
   release [v,ov,iv] []):=by intro _;rfl):PG X (.Subscript o i pos) (IY to ti t):=by
 intro pins s σ H v u Q I r h;rw[ha];refine JP (LG (thn (ho pins s σ H _ I h) fun ov s1 y_=>?_));obtain⟨x,H1,I1,r1,q1⟩:=y_;refine JP (LG (thn (hi pins s1 σ H1 _ I1 q1) fun iv s2 y_=>?_));obtain⟨y,H2,I2,r2,q2⟩:=y_;refine JP (wpAny_standAt (JP (LG (thn (hs pins s2 σ H2 x y v ov iv u _ I2 r1 r2 r q2) fun _ s3 y_=>?_))));obtain⟨H3,I3,q3⟩:=y_;exact wpAny_release ⟨σ,H3,I3,q3⟩
def wF(te:TE)(g:TG):TS:=fun D σ H=>te σ H fun x H1=>g x σ H1 D.nx
theorem BC{tg e:Expr}{te:TE}{g:TG}(he:PE X e te)(hg:PG X tg g)(hs:swapsWithSole [tg] e pos.line X.env=pure false:=by rfl)(hw:swappedStores [tg] e X.env=pure none:=by rfl)
  (h1:(assignEach [tg] X.env).map (·.2)=[assign tg X.env]:=by rfl):PS X (.Assign [tg] e pos) (wF te g):=by
 intro pins s σ H D I h;refine wpAny_Assign_stores (thn (he pins s σ H _ I h) fun v s1 ⟨x,H1,I1,r1,q1⟩=>?_) hs hw;rw[h1];exact thn (hg pins s1 σ H1 x v _ I1 r1 q1) fun _ s2 q=>q
theorem Az{i:Nat}{x:Str}{e:Expr}{te:TE}{pos':Pos}(hN:X.N.Nodup)(hi:X.N[i]?=some x)(hx:Loc X.env.scope x)(he:PE X e te)(hs:swapsWith e (some (.Name x pos')) pos.line X.env=pure false:=by rfl)(hf:X.fn x=true∨X.env.scope.names.lookup x=some .local:=by first | exact .inl rfl | exact .inr rfl | assumption) :
  PS X (.Assign [.Name x pos'] e pos) (wF te (pD i)):=by
 intro pins s σ H D I h;refine wpAny_Assign_Name (thn (he pins s σ H _ I h) fun v s1 ⟨y,H1,I1,r1,q1⟩=>?_) hs;exact lS I1 hN hi hx r1 (fun s2 I2=>⟨_,H1,I2,q1⟩) hf
end
section
variable {X:Cx}{pos:Pos}
def uE(c:TT)(tb:TS):TS:=fun D σ H=>∃W:Nat->St->Hp->Prop,(∃m,W m σ H)/\∀m σ H,W m σ H ->
 c σ H fun b H1=>if b=true then ∃N:St->Hp->Prop,(∀σ' H',N σ' H'->∃m',m'<m/\W m' σ' H')/\tb { D with nx:=N,ct:=N,bk:=D.nx } σ H1 else D.nx σ H1
theorem tu(hp:PassesOwn (model X.prog X.w) X.A X.env X.xe)(hc:PT X c tc)(hb:PSs X body tb):PS X (.While c body [] pos) (uE tc tb):=by
 intro pins s σ H D I h;obtain⟨W,⟨m0,w0⟩,turn⟩:=h;refine wpAny_While (codeAny_whileLoop (fun n s'=>∃σ' H',Inv X pins σ' H' s'/\W n σ' H') ?_ m0 ⟨σ,H,I,w0⟩);rintro n s1 ⟨σ1,H1,I1,w1⟩;refine L6 hp (thn (hc pins s1 σ1 H1 _ I1 (turn n σ1 H1 w1)) fun b s2 y_=>?_);obtain⟨H2,I2,q2⟩:=y_;cases b with
 | true =>
  obtain⟨N,hN,q2⟩:=q2;rw[Kw rfl];refine L6 hp (thn (hb pins s2 σ1 H2 _ I2 q2) fun f s3 q3=>?_);cases f with
  | next =>
   obtain⟨σ3,H3,I3,n3⟩:=q3;obtain⟨m',hm,w3⟩:=hN σ3 H3 n3;exact⟨m',hm,σ3,H3,I3,w3⟩
  | cont =>
   obtain⟨σ3,H3,I3,n3⟩:=q3;obtain⟨m',hm,w3⟩:=hN σ3 H3 n3;exact⟨m',hm,σ3,H3,I3,w3⟩
  | brk=>exact q3
  | ret v=>exact q3
 | false =>
  rw[Kq L1];exact wpAny_execs_nil ⟨σ1,H2,I2,q2⟩
end
structure It where
 go:Nat->Hp->Prop
 yld:Nat->Hp->V->Hp->Prop
 stop:Nat->Hp->Prop
def dm(X:Cx)(pins:List (Addr×Obj))(H:Hp)(b:Addr):Prop :=
 H b=none/\b≠X.env.locals/\b∉X.fs/\(b∈X.ex∨X.s₀.heap.objs.size≤b)/\(∀x c,X.env.cells.lookup x=some c->c≠b)/\∀p∈X.pn++pins,p.1≠b
theorem Inv.fpOk{σ:St}{b:Addr}(I:Inv X pins σ H s)(hb:s.heap.objs.size≤b)(hn:H' b=none):dm X pins H' b:=by
 refine⟨hn,Lx (Ko I.lt hb),I.nofs hb,.inr (Lv I.sz hb),fun x c e z=>?_,fun p hp z=>?_⟩
 ·obtain⟨v,q⟩:=I.cell x c e;exact absurd (Ko q.lt (by rw[z];exact hb)) (Ls _)
 ·exact absurd (Ko (J0 (I.pin p hp).1) (by rw[z];exact hb)) (Ls _)
structure Turn (P:Program) (w:World) (K:LFr) (tg:Expr) (J:It) (fp:List Addr) (it:Addr) (tn:Nat→Heap→Prop):Prop where
 mem:it∈fp
 obj:∀i h,tn i h->∀b∈fp,∃o,h.get? b=some o/\∀v,o.data≠.cell v
 keep:∀i h h',tn i h->(∀b∈fp,∀o,h.get? b=some o->h'.get? b=some o)->tn i h'
 item:∀(X:Cx),X.prog=P->X.w=w->X.K=K->X.calm=true->∀(i:Nat) (pins:List (Addr×Obj)) (s:Shared) (σ:St) (H:Hp) (E:Value->Shared->Prop),Inv X pins σ H s->(∀b∈fp,dm X pins H b)->tn i s.heap->J.go i H ->
  wpAny (model P w) X.A (pyNext (.ref it)) (fun r s1=>∃u,r=some u /\
   wpAny (model P w) X.A (letOwnedTupleGo tg (.ref it) u) (fun _ s2=>∃x H',Inv X pins σ H' s2/\RelV x u/\J.yld i H x H'/\tn (i+1) s2.heap/\∀b∈fp,H' b=none) E s1) E s
 done:∀(X:Cx),X.prog=P->X.w=w->X.K=K->X.calm=true->∀(i:Nat) (pins:List (Addr×Obj)) (s:Shared) (σ:St) (H:Hp) (E:Value->Shared->Prop),Inv X pins σ H s->(∀b∈fp,dm X pins H b)->tn i s.heap->J.stop i H ->
  wpAny (model P w) X.A (pyNext (.ref it)) (fun r s1=>r=none/\Inv X pins σ H s1) E s
 self:∀(A:Around) (i:Nat) (s:Shared) (Q:Value->Shared->Prop) (E:Value->Shared->Prop),tn i s.heap->Q (.ref it) s->wpAny (model P w) A (pyIter (.ref it)) Q E s
abbrev TI:=St->Hp->(It->Hp->Prop)->Prop
def PIE(X:Cx)(pins:List (Addr×Obj))(σ:St)(tg:Expr)(R:It->Hp->Prop)(itv:Value)(s2:Shared):Prop :=
 ∃(it:Addr) (fp:List Addr) (tn:Nat->Heap->Prop) (J:It) (H':Hp),itv=.ref it/\Inv X pins σ H' s2/\Turn X.prog X.w X.K tg J fp it tn/\tn 0 s2.heap/\(∀b∈fp,dm X pins H' b)/\R J H'
def PI(X:Cx)(tg iter:Expr)(wi:TI):Prop :=
 ∀(pins:List (Addr×Obj)) (s:Shared) (σ:St) (H:Hp) (R:It->Hp->Prop),Inv X pins σ H s->wi σ H R ->
  wpAny (model X.prog X.w) X.A (eval iter X.env) (fun v s1=>wpAny (model X.prog X.w) X.A (pyIter v) (PIE X pins σ tg R) X.xe s1) X.xe s
theorem mM(ho:s.heap.get? it=some o)(hc:o.cls=.type n)(hd:o.data=.fields vs)
  (hn:["enumerate","zip","dict_itemiterator","dict_reverseitemiterator","odict_iterator","itertools.zip_longest","itertools.pairwise"].contains n=false) (hQ:Q () s):wpAny M A (letOwnedTupleGo tg (.ref it) u) Q E s:=by
 unfold letOwnedTupleGo;cases tg<;>first
  | exact JT hQ
  |(cases u<;>first
    | exact JT hQ
    | (refine JP (wpAny_load ho ?_)
       rw [hc,hd];show wpAny M A (if (["enumerate","zip","dict_itemiterator","dict_reverseitemiterator","odict_iterator","itertools.zip_longest","itertools.pairwise"].contains n && vs[0]? == some (rawInt _))=true then _ else _) Q E s;rw [Kq (by intro h; rw [hn,Bool.false_and] at h; cases h)];exact JT hQ))
def Itl(K:LFr)(a:Addr):It :=
 ⟨fun i H=>∃xs x,SqL K H a xs/\xs[i]?=some x,fun i H x H'=>H'=H/\∀xs,SqL K H a xs->xs[i]?=some x,fun i H=>∃xs,SqL K H a xs/\xs.length≤i⟩
def Itt(K:LFr)(a:Addr):It :=
 ⟨fun i H=>∃xs x,SqT K H a xs/\xs[i]?=some x,fun i H x H'=>H'=H/\∀xs,SqT K H a xs->xs[i]?=some x,fun i H=>∃xs,SqT K H a xs/\xs.length≤i⟩
def Itr(lo:Int)(n:Nat):It:=⟨fun i _=>i<n,fun i H x H'=>H'=H/\x=.int (lo+i),fun i _=>n≤i⟩
theorem rm{K:LFr}(a it:Addr):Turn P w K tg (Itl K a) [it] it (fun i h=>h.IsListIter it a i) where
 mem:=by simp
 obj:=fun i h st b hb=>by
  have e:b=it:=by simpa using hb
  subst e;obtain⟨o,e,c,d⟩:=st;exact⟨o,e,fun v z=>by rw[d]at z;cases z⟩
 keep:=fun i h h' st k=>st.at fun o e=>k it (by simp) o e
 item:=by
  intro X hP hw hK hc i pins s σ H E I hf st hg;subst hP hw hK;obtain⟨xs,x,hq,hx⟩:=hg;obtain⟨its,rv,p,hz⟩:=I.list hq;obtain⟨u,hu,ru⟩:=rv.get hx;obtain⟨f0,f1,f2,f3,f4,f5⟩:=hf it (by simp);refine wpAny_pyNext_list_item st p.isList (x:=u) (by simpa using hu) fun h' st' sb=>?_;have I1:Inv X pins σ H { s with heap:=h' }:=I.turned (t':=s.toks) (fun b o hb e=>(sb.2 b hb).trans e) f0 f1 f3 f4 f5;obtain⟨o,e,c,d⟩:=id st';exact⟨u,rfl,mM (s:={ s with heap:=h' }) e c d (by decide) ⟨x,H,I1,ru,⟨rfl,fun ys hy=>by rw[I.list_inj hy hq];exact hx⟩,st',fun b hb=>(hf b hb).1⟩⟩
 done:=by
  intro X hP hw hK hc i pins s σ H E I hf st hg;subst hP hw hK;obtain⟨xs,hq,hx⟩:=hg;obtain⟨its,rv,p,hz⟩:=I.list hq;obtain⟨f0,f1,f2,f3,f4,f5⟩:=hf it (by simp);have hl:=rv.length;exact wpAny_pyNext_list_end (I.ok.hd hc) st p.isList (by simp;omega) fun h' eb=>⟨rfl,I.turned (t':=s.toks) (fun b o hb e=>eb b o hb e) f0 f1 f3 f4 f5⟩
 self:=fun _ _ _ _ _ st h=>wpAny_pyIter_listiter st h
theorem nC{K:LFr}(a it:Addr):Turn P w K tg (Itt K a) [it] it (fun i h=>h.IsTupleIter it a i) where
 mem:=by simp
 obj:=fun i h st b hb=>by
  have e:b=it:=by simpa using hb
  subst e;obtain⟨o,e,c,d⟩:=st;exact⟨o,e,fun v z=>by rw[d]at z;cases z⟩
 keep:=fun i h h' st k=>st.at fun o e=>k it (by simp) o e
 item:=by
  intro X hP hw hK hc i pins s σ H E I hf st hg;subst hP hw hK;obtain⟨xs,x,hq,hx⟩:=hg;obtain⟨its,rv,p,hz⟩:=I.tuple hq;obtain⟨u,hu,ru⟩:=rv.get hx;obtain⟨f0,f1,f2,f3,f4,f5⟩:=hf it (by simp);refine wpAny_pyNext_tuple_item st (show s.heap.IsTuple a its.toArray from p) (x:=u) (by simpa using hu) fun h' st' sb=>?_;have I1:Inv X pins σ H { s with heap:=h' }:=I.turned (t':=s.toks) (fun b o hb e=>(sb.2 b hb).trans e) f0 f1 f3 f4 f5;obtain⟨o,e,c,d⟩:=id st';exact⟨u,rfl,mM (s:={ s with heap:=h' }) e c d (by decide) ⟨x,H,I1,ru,⟨rfl,fun ys hy=>by rw[I.tuple_inj hy hq];exact hx⟩,st',fun b hb=>(hf b hb).1⟩⟩
 done:=by
  intro X hP hw hK hc i pins s σ H E I hf st hg;subst hP hw hK;obtain⟨xs,hq,hx⟩:=hg;obtain⟨its,rv,p,hz⟩:=I.tuple hq;obtain⟨f0,f1,f2,f3,f4,f5⟩:=hf it (by simp);have hl:=rv.length;exact wpAny_pyNext_tuple_end (I.ok.hd hc) st (show s.heap.IsTuple a its.toArray from p) (by simp;omega) fun h' eb=>⟨rfl,I.turned (t':=s.toks) (fun b o hb e=>eb b o hb e) f0 f1 f3 f4 f5⟩
 self:=fun _ _ _ _ _ st h=>wpAny_pyIter_tupleiter st h
theorem nI{K:LFr}(it:Addr)(lo:Int)(n:Nat):Turn P w K tg (Itr lo n) [it] it (fun i h=>IsRangeIter h it (lo+(i:Nat)*1) ((n:Int) - (i:Nat)) 1) where
 mem:=by simp
 obj:=fun i h st b hb=>by
  have e:b=it:=by simpa using hb
  subst e;exact⟨_,st,fun v z=>by
   have z':Data.fields _=Data.cell v:=z;cases z'⟩
 keep:=fun i h h' st k=>k it (by simp) _ st
 item:=by
  intro X hP hw hK hc i pins s σ H E I hf st hg;subst hP hw hK;obtain⟨f0,f1,f2,f3,f4,f5⟩:=hf it (by simp);have W:=Walks.range (prog:=X.prog) (w:=X.w) (I.ok.hd hc) it lo 1 n;refine W.item i s _ _ hg st fun v h' tk hv st' kk=>?_;obtain⟨t,rfl⟩:=hv;have I1:Inv X pins σ H { s with heap:=h',toks:=tk }:=I.turned (fun b o hb e=>kk b o (by simpa using hb) e) f0 f1 f3 f4 f5;refine⟨_,rfl,mM (s:={ s with heap:=h',toks:=tk }) (n:="range_iterator") st' rfl rfl (by decide) ⟨.int (lo+i),H,I1,⟨t,?_⟩,⟨rfl,rfl⟩,st',fun b hb=>(hf b hb).1⟩⟩;rw[Lk]
 done:=by
  intro X hP hw hK hc i pins s σ H E I hf st hg;subst hP hw hK;obtain⟨f0,f1,f2,f3,f4,f5⟩:=hf it (by simp);exact wpAny_pyNext_range_end (I.ok.hd hc) st (by have:n≤i:=hg;omega) fun h' eb=>⟨rfl,I.turned (t':=s.toks) (fun b o hb e=>eb b o hb e) f0 f1 f3 f4 f5⟩
 self:=fun _ _ _ _ _ st h=>wpAny_pyIter_rangeiter st h
end
section
section
variable {X:Cx}{tg:Expr}
theorem vC{σ:St}{lo hi:Int}(I:Inv X pins σ H s)(h1:-(2 ^ 62)≤lo)(h2:lo<2 ^ 62)(h3:-(2 ^ 62)≤hi)(h4:hi<2 ^ 62)
  (q:R (Itr lo (hi - lo).toNat) H):wpAny (model X.prog X.w) X.A (pyIter (.ref s.heap.objs.size)) (PIE X pins σ tg R) E { s with heap:=s.heap.push { cls:=.type "range",data:=.fields #[.int lo t,.int hi u,.int 1 v] },toks:=tk }:=by
 refine wpAny_pyIter_range (IsRange.new ..) (small_one h1 h2 h3 h4) ?_;have I1:Inv X pins σ H { s with heap:=s.heap.push { cls:=.type "range",data:=.fields #[.int lo t,.int hi u,.int 1 v] },toks:=tk }:=I.kept fun b o e=>JR _ e;refine⟨(s.heap.push { cls:=.type "range",data:=.fields #[.int lo t,.int hi u,.int 1 v] }).objs.size,[(s.heap.push { cls:=.type "range",data:=.fields #[.int lo t,.int hi u,.int 1 v] }).objs.size],_,_,H,rfl,
  I1.kept (t':=tk) fun b o e=>JR _ e,nI _ lo (hi - lo).toNat,?_,fun b hb=>?_,q⟩
 ·have e1:lo+((0:Nat):Int)*1=lo:=by simp
  have e2:(((hi - lo).toNat:Nat):Int) - ((0:Nat):Int)=Builtin.Range.rangeSize lo hi 1:=by rw[rangeSize_one];split<;>omega
  show IsRangeIter _ _ (lo+((0:Nat):Int)*1) ((((hi - lo).toNat:Nat):Int) - ((0:Nat):Int)) 1;rw[e1,e2];exact JZ _ rfl
 ·have e:b=(s.heap.push { cls:=.type "range",data:=.fields #[.int lo t,.int hi u,.int 1 v] }).objs.size:=by simpa using hb
  subst e;exact I1.fpOk (JW _) (I1.hok.fresh (JW _))
def Eh(ta:TA):TI:=fun σ H R=>ta σ H fun vs H1=>∃j:Int,vs=[.int j]/\-(2 ^ 62)≤j/\j<2 ^ 62/\R (Itr 0 j.toNat) H1
theorem rC{a:Expr}{ta:TA}{p pos:Pos}(hg:Gl X "range")(hm:X.mg "range"=none)(ha:PA X [a] ta)(hs:starEach [a] X.env=[(false,eval a X.env)]:=by rfl):PI X tg (.Call (.Name "range" p) [a] [] pos) (Eh ta):=by
 intro pins s σ H R I h;refine Call_ (di I hg hm boot_range (K2 (thn (ha pos pins s σ H _ I h) fun us s1 ⟨vs,H1,I1,r1,q1⟩=>?_) hs rfl));obtain⟨j,e,q1,q2,q⟩:=q1;subst e;cases r1 with
 | cons r rr =>
  cases rr;obtain⟨t,rfl⟩:=r;exact call_range_1 (vC I1 (by omega) (by omega) q1 q2 (by simpa using q))
def G4(wi:TI)(g:TG)(tb:TS):TS:=fun D σ H=>wi σ H fun J H1=>∃W:Nat->Nat->St->Hp->Prop,(∃m,W 0 m σ H1)/\∀i m σ H,W i m σ H ->
 (J.stop i H/\D.nx σ H)∨(J.go i H/\∃N:St->Hp->Prop,(∀σ' H',N σ' H'->∃m',m'<m/\W (i+1) m' σ' H')/\∀x H',J.yld i H x H'->g x σ H' fun σ2 H2=>tb { D with nx:=N,ct:=N,bk:=D.nx } σ2 H2)
def gA(fp:List Addr)(h:Heap):List (Addr×Obj):=fp.filterMap fun b=>(h.get? b).map fun o=>(b,o)
theorem cM(hb:b∈fp)(e:h.get? b=some o):(b,o)∈gA fp h:=List.mem_filterMap.mpr ⟨b,hb,by rw[e];rfl⟩
theorem qO(hp:p∈gA fp h):p.1∈fp/\h.get? p.1=some p.2:=by
 obtain⟨b,hb,e⟩:=List.mem_filterMap.mp hp;cases q:h.get? b with
 | none=>rw[q]at e;cases e
 | some o =>
  rw[q]at e;have e':(b,o)=p:=Ks e;subst e';exact⟨hb,q⟩
theorem Inv.pinned{σ:St}(I:Inv X pins σ H s)(hf:∀b∈fp,dm X pins H b)(ho:∀b∈fp,∃o,s.heap.get? b=some o/\∀v,o.data≠.cell v):Inv X (pins++gA fp s.heap) σ H s :=
 I.pins_of fun p hp=>(K6.mp hp).elim (fun z=>I.pin p (Kd _ z)) fun z=>by
  obtain⟨hb,e⟩:=qO z;obtain⟨f0,f1,f2,_⟩:=hf p.1 hb;obtain⟨o,e',d⟩:=ho p.1 hb;rw[e]at e';cases e';exact⟨e,f0,f1,f2,d⟩
theorem Inv.unpinned{σ:St}(I:Inv X (pins++pl) σ H s):Inv X pins σ H s:=I.pins_of fun p hp=>I.pin p (Kd _ (KD _ hp))
theorem AQ{iter:Expr}{body:List Stmt}{wi:TI}{g:TG}{tb:TS}{pos:Pos}(hp:PassesOwn (model X.prog X.w) X.A X.env X.xe)(hc:X.calm=true)(hi:PI X tg iter wi)(hg:PG X tg g)(hb:PSs X body tb)
  (hs:∀x,foldedSetIterable iter X.env x=pure x:=by intro _;rfl):PS X (.For tg iter body [] pos) (G4 wi g tb):=by
 intro pins s σ H D I h;refine wpAny_For (thn (hi pins s σ H _ I h) fun v s1 h1=>thn h1 fun itv s2 h2=>?_) hs;obtain⟨it,fp,tn,J,H2,e,I2,T,st2,f2,W,⟨m0,w0⟩,turn⟩:=h2;subst e;have stat:∀{H':Hp},(∀b∈fp,H' b=none)->∀b∈fp,dm X pins H' b:=fun hn b hb=>⟨hn b hb,(f2 b hb).2⟩;refine codeAny_forLoop_any (fun n s'=>∃i σ' H',Inv X pins σ' H' s'/\tn i s'.heap/\(∀b∈fp,H' b=none)/\W i n σ' H') ?_ m0 ⟨0,σ,H2,I2,st2,fun b hb=>(f2 b hb).1,w0⟩;rintro n s3 ⟨i,σ3,H3,I3,st3,fr3,w3⟩;rcases turn i n σ3 H3 w3 with⟨stop,qn⟩ |⟨go,N,hN,step⟩
 ·refine L6 hp (thn (T.done X rfl rfl rfl hc i pins s3 σ3 H3 X.xe I3 (stat fr3) st3 stop) fun r s4 y_=>?_);obtain⟨hr,I4⟩:=y_;subst hr;exact wpAny_execs_nil ⟨σ3,H3,I4,qn⟩
 ·refine L6 hp (thn (T.item X rfl rfl rfl hc i pins s3 σ3 H3 X.xe I3 (stat fr3) st3 go) fun r s4 y_=>?_);obtain⟨u,hr,h4⟩:=y_;subst hr;refine L6 hp (thn h4 fun _ s5 y_=>?_);obtain⟨x,H5,I5,r5,y5,st5,fr5⟩:=y_;have I5':=I5.pinned (stat fr5) (T.obj _ _ st5);refine L6 hp (thn (hg _ s5 σ3 H5 x u _ I5' r5 (step x H5 y5)) fun _ s6 y_=>?_);obtain⟨σ6,H6,I6,q6⟩:=y_;refine L6 hp (thn (hb _ s6 σ6 H6 _ I6 q6) fun f s7 q7=>?_);have again:∀{σ7:St} {H7:Hp},Inv X (pins++gA fp s5.heap) σ7 H7 s7->N σ7 H7->∃m,m<n/\∃i σ' H',Inv X pins σ' H' s7/\tn i s7.heap/\(∀b∈fp,H' b=none)/\W i m σ' H':=fun {σ7 H7} I7 n7=>by
   obtain⟨m',hm,w7⟩:=hN σ7 H7 n7;refine⟨m',hm,i+1,σ7,H7,I7.unpinned,T.keep _ _ _ st5 fun b hb o e=>(I7.pin (b,o) (Kd _ (Kd _ (cM hb e)))).1,fun b hb=>?_,w7⟩;obtain⟨o,e,d⟩:=T.obj _ _ st5 b hb;exact(I7.pin (b,o) (Kd _ (Kd _ (cM hb e)))).2.1
  cases f with
  | next=>obtain⟨σ7,H7,I7,n7⟩:=q7;exact again I7 n7
  | cont=>obtain⟨σ7,H7,I7,n7⟩:=q7;exact again I7 n7
  | brk=>obtain⟨σ7,H7,I7,q7⟩:=q7;exact⟨σ7,H7,I7.unpinned,q7⟩
  | ret v=>obtain⟨x7,σ7,H7,I7,r7,q7⟩:=q7;exact⟨x7,σ7,H7,I7.unpinned,r7,q7⟩
end
theorem jb{c:TT}{tb:TS}{D:Ends}{σ:St}{H:Hp}(Pv:St->Hp->Prop)(μ:St->Hp->Nat)(h0:Pv σ H)
  (hs:∀σ H,Pv σ H->c σ H fun b H1=>if b=true then tb { D with nx:=fun σ' H'=>Pv σ' H'/\μ σ' H'<μ σ H,ct:=fun σ' H'=>Pv σ' H'/\μ σ' H'<μ σ H,bk:=D.nx } σ H1 else D.nx σ H1)
  (mono:∀σ H Q Q',(∀b H1,Q b H1->Q' b H1)->c σ H Q->c σ H Q'):uE c tb D σ H:=by
 refine⟨fun m σ H=>m=μ σ H/\Pv σ H,⟨_,rfl,h0⟩,?_⟩;rintro m σ H ⟨rfl,p⟩;refine mono σ H _ _ (fun b H1 q=>?_) (hs σ H p);cases b with
 | true=>exact⟨_,fun σ' H' y_=>by obtain⟨p',l⟩:=y_;exact ⟨_,l,rfl,p'⟩,q⟩
 | false=>exact q
end
section
abbrev R2:=V->V->Hp->VK->Prop
def OpR(X:Cx)(f:Value->Value->Sem Value)(r:R2):Prop :=
 ∀(pins:List (Addr×Obj)) (s:Shared) (σ:St) (H:Hp) (x y:V) (v u:Value) (Q:VK),Inv X pins σ H s->RelV x v->RelV y u->r x y H Q ->
  wpAny (model X.prog X.w) X.A (f v u) (EP X pins σ Q) X.xe s
def UnR(X:Cx)(f:Value->Sem Value)(r:V->Hp->VK->Prop):Prop :=
 ∀(pins:List (Addr×Obj)) (s:Shared) (σ:St) (H:Hp) (x:V) (v:Value) (Q:VK),Inv X pins σ H s->RelV x v->r x H Q ->
  wpAny (model X.prog X.w) X.A (f v) (EP X pins σ Q) X.xe s
def cj(X:Cx)(f:Value)(r:List V->Hp->VK->Prop):Prop :=
 ∀(pins:List (Addr×Obj)) (s:Shared) (σ:St) (H:Hp) (xs:List V) (us:List Value) (Q:VK),Inv X pins σ H s->Vals xs us->r xs H Q ->
  wpAny (model X.prog X.w) X.A (call f us) (EP X pins σ Q) X.xe s
def tOp(r:R2)(ta tb:TE):TE:=fun σ H Q=>ta σ H fun x H1=>tb σ H1 fun y H2=>r x y H2 Q
def tUn(r:V->Hp->VK->Prop)(ta:TE):TE:=fun σ H Q=>ta σ H fun x H1=>r x H1 Q
def rI(C:Int->Int->Prop)(g:Int->Int->V):R2:=fun x y H Q=>∃i j,x=.int i/\y=.int j/\C i j/\Q (g i j) H
def rI0(g:Int->Int->V):R2:=fun x y H Q=>∃i j,x=.int i/\y=.int j/\Q (g i j) H
def rU(g:Int->V):V->Hp->VK->Prop:=fun x H Q=>∃i,x=.int i/\Q (g i) H
section
variable {X:Cx}{a b c:Expr}{ta tb tc:TE}{pos:Pos}
theorem Af(ha:PE X a ta)(hb:PE X b tb){pins:List (Addr×Obj)}{s:Shared}{σ:St}{H:Hp}{R:V->V->Hp->Prop}(I:Inv X pins σ H s)
  (h:ta σ H fun x H1=>tb σ H1 fun y H2=>R x y H2) {Q:Value->Shared->Prop} {f:Value->Value->Sem Value}
  (hf:∀v u s2 x y H2,Inv X pins σ H2 s2->RelV x v->RelV y u->R x y H2->wpAny (model X.prog X.w) X.A (f v u) Q X.xe s2) :
  wpAny (model X.prog X.w) X.A (eval a X.env) (fun v s₁=>wpAny (model X.prog X.w) X.A (eval b X.env) (fun u s₂=>wpAny (model X.prog X.w) X.A (f v u) Q X.xe s₂) X.xe s₁) X.xe s:=by
 refine thn (ha pins s σ H _ I h) fun v s1 y_=>?_;obtain⟨x,H1,I1,r1,q1⟩:=y_;refine thn (hb pins s1 σ H1 _ I1 q1) fun u s2 y_=>?_;obtain⟨y,H2,I2,r2,q2⟩:=y_;exact hf v u s2 x y H2 I2 r1 r2 q2
theorem Fu(ho:OpR X (binaryOp op) r)(ha:PE X a ta)(hb:PE X b tb):PE X (.BinOp a op b pos) (tOp r ta tb):=by
 intro pins s σ H Q I h;exact wpAny_BinOp (Af ha hb I h fun v u s2 x y H2 I2 rx ry q=>ho pins s2 σ H2 x y v u Q I2 rx ry q)
theorem F5(ho:UnR X (unaryOp op) r)(ha:PE X a ta):PE X (.UnaryOp op a pos) (tUn r ta):=by
 intro pins s σ H Q I h;exact UnaryOp_ (thn (ha pins s σ H _ I h) fun v s1 y_=>by obtain⟨x,H1,I1,r1,q1⟩:=y_;exact ho pins s1 σ H1 x v Q I1 r1 q1)
theorem opI{g:Int->Int->Int}
  (rule:∀(i j:Int) (t u:Tok) (s:Shared) (Q:Value->Shared->Prop) (E:Value->Shared->Prop),C i j->Q (.int (g i j) s.toks) { s with toks:=s.toks+1 }->wpAny (model X.prog X.w) X.A (f (.int i t) (.int j u)) Q E s) :
  OpR X f (rI C fun i j=>.int (g i j)):=by
 intro pins s σ H x y v u Q I rx ry h;obtain⟨i,j,rfl,rfl,hc,q⟩:=h;obtain⟨t,rfl⟩:=rx;obtain⟨t',rfl⟩:=ry;exact rule i j t t' s _ _ hc ⟨.int (g i j),H,I.tok _,⟨_,rfl⟩,q⟩
theorem Fz{g:Int->Int->Int}
  (rule:∀(i j:Int) (t u:Tok) (s:Shared) (Q:Value->Shared->Prop) (E:Value->Shared->Prop),Q (.int (g i j) s.toks) { s with toks:=s.toks+1 }->wpAny (model X.prog X.w) X.A (f (.int i t) (.int j u)) Q E s) :
  OpR X f (rI0 fun i j=>.int (g i j)):=by
 intro pins s σ H x y v u Q I rx ry h;obtain⟨i,j,rfl,rfl,q⟩:=h;obtain⟨t,rfl⟩:=rx;obtain⟨t',rfl⟩:=ry;exact rule i j t t' s _ _ ⟨.int (g i j),H,I.tok _,⟨_,rfl⟩,q⟩
theorem qC{g:Int->Int->Bool}
  (rule:∀(i j:Int) (t u:Tok) (s:Shared) (Q:Value->Shared->Prop) (E:Value->Shared->Prop),Q (.bool (g i j)) s->wpAny (model X.prog X.w) X.A (f (.int i t) (.int j u)) Q E s) :
  OpR X f (rI0 fun i j=>.bl (g i j)):=by
 intro pins s σ H x y v u Q I rx ry h;obtain⟨i,j,rfl,rfl,q⟩:=h;obtain⟨t,rfl⟩:=rx;obtain⟨t',rfl⟩:=ry;exact rule i j t t' s _ _ ⟨.bl (g i j),H,I,rfl,q⟩
def FA(i j:Int):Prop:=0≤j/\j≤1000000/\i.natAbs<2 ^ 64
def CQ(i j:Int):Prop:=(-(2 ^ 64)<i/\i<2 ^ 64)∨(-(2 ^ 64)<j/\j<2 ^ 64)
theorem CQ.ok(h:CQ i j):IntMulOk i j:=by
 rcases h with⟨h1,h2⟩ |⟨h1,h2⟩
 ·exact .of_left (intBits_le_64 h1 h2)
 ·exact .of_right (intBits_le_64 h1 h2)
theorem CO:OpR X (binaryOp .Add) (rI0 fun i j=>.int (i+j)):=Fz fun _ _ _ _ _ _ _ q=>add_int q
theorem Bl:OpR X (binaryOp .Sub) (rI0 fun i j=>.int (i - j)):=Fz fun _ _ _ _ _ _ _ q=>sub_int q
theorem xQ:OpR X (binaryOp .Mod) (rI (fun _ j=>j≠0) fun i j=>.int (i.fmod j)):=opI fun _ _ _ _ _ _ _ hc q=>mod_int' hc q
theorem BE:OpR X (binaryOp .LShift) (rI FA fun i j=>.int (i*2 ^ j.toNat)):=opI fun _ _ _ _ _ _ _ hc q=>lshift_int_small hc.1 hc.2.1 hc.2.2 q
theorem unI{g:Int->Int}
  (rule:∀(i:Int) (t:Tok) (s:Shared) (Q:Value->Shared->Prop) (E:Value->Shared->Prop),Q (.int (g i) s.toks) { s with toks:=s.toks+1 }->wpAny (model X.prog X.w) X.A (f (.int i t)) Q E s) :
  UnR X f (rU fun i=>.int (g i)):=by
 intro pins s σ H x v Q I rx h;obtain⟨i,rfl,q⟩:=h;obtain⟨t,rfl⟩:=rx;exact rule i t s _ _ ⟨.int (g i),H,I.tok _,⟨_,rfl⟩,q⟩
theorem Ct:UnR X (unaryOp .USub) (rU fun i=>.int (-i)):=unI fun _ _ _ _ _ q=>neg_int q
end
section
variable {X:Cx}{a b c:Expr}{ta tb tc:TE}{pos:Pos}
theorem CL{σ:St}(I:Inv X pins σ H s)(q:Q (.bl k) H)(e:k=k'):EP X pins σ Q (.bool k') s:=by
 subst e;exact⟨.bl k,H,I,rfl,q⟩
theorem fU:OpR X (compareOp .Lt) (rI0 fun i j=>.bl (decide (i<j))):=qC fun _ _ _ _ _ _ _ q=>lt_int q
theorem jN:OpR X (compareOp .LtE) (rI0 fun i j=>.bl (decide (i≤j))):=qC fun _ _ _ _ _ _ _ q=>le_int q
theorem jf:OpR X (compareOp .Gt) (rI0 fun i j=>.bl (decide (j<i))):=qC fun _ _ _ _ _ _ _ q=>gt_int q
theorem vA:OpR X (compareOp .GtE) (rI0 fun i j=>.bl (decide (j≤i))):=qC fun _ _ _ _ _ _ _ q=>ge_int q
theorem gG:OpR X (compareOp .Is) (fun x y H Q=>y=.non/\Q (.bl (decide (x=.non))) H):=by
 intro pins s σ H x y v u Q I rx ry h;obtain⟨rfl,q⟩:=h;cases ry;refine is_none_gen (CL I q ?_);cases x<;>first
  |(cases rx;rfl)
  |(obtain⟨t,rfl⟩:=rx;rfl)
theorem ba(b:Expr){op:CmpOp}(h:op≠.In:=by decide)(h2:op≠.NotIn:=by decide):behindInMarks op b=false:=by
 have e1:(op==CmpOp.In)=false:=by cases op<;>first | rfl | exact absurd rfl h
 have e2:(op==CmpOp.NotIn)=false:=by cases op<;>first | rfl | exact absurd rfl h2
 cases b<;>simp[behindInMarks,e1,e2]
theorem yb(ho:OpR X (compareOp op) r)(ha:PE X a ta)(hb:PE X b tb)(hm:behindInMarks op b=false):PE X (.Compare a [op] [b] pos) (tOp r ta tb):=by
 intro pins s σ H Q I h;exact wpAny_Compare1 (Af ha hb I h fun v u s2 x y H2 I2 rx ry q=>ho pins s2 σ H2 x y v u Q I2 rx ry q) hm
def zC(t:TE):TT:=fun σ H Q=>t σ H fun x H'=>∃k,x=.bl k/\Q k H'
theorem xh(ho:OpR X (compareOp op) r)(ha:PE X a ta)(hb:PE X b tb)(hm:behindInMarks op b=false):PT X (.Compare a [op] [b] pos) (zC (tOp r ta tb)):=by
 intro pins s σ H Q I h;refine wpAny_isTrue_Compare1 (thn (ha pins s σ H _ I h) fun v s1 ⟨x,H1,I1,r1,q1⟩=>thn (hb pins s1 σ H1 _ I1 q1) fun u s2 ⟨y,H2,I2,r2,q2⟩ =>
  thn (ho pins s2 σ H2 x y v u _ I2 r1 r2 q2) fun c s3 ⟨z,H3,I3,r3,k,e,q3⟩=>?_) hm
 subst e;cases r3;exact LB ⟨H3,I3,q3⟩
def sx(r r':R2)(ta tb tc:TE):TE:=fun σ H Q=>ta σ H fun x H1=>tb σ H1 fun y H2=>r x y H2 fun z H3=>∃k,z=.bl k /\
 (if k=true then tc σ H3 fun w' H4=>r' y w' H4 Q else Q (.bl false) H3)
theorem tR{op op':CmpOp}{r r':R2}(ho:OpR X (compareOp op) r)(ho':OpR X (compareOp op') r')(ha:PE X a ta)(hb:PE X b tb)(hc:PE X c tc)
  (hm:lastMarks [op,op'] [b,c]=false:=by with_unfolding_all rfl):PE X (.Compare a [op,op'] [b,c] pos) (sx r r' ta tb tc):=by
 intro pins s σ H Q I h;refine Compare_chain (thn (ha pins s σ H _ I h) fun v s1 ⟨x,H1,I1,r1,q1⟩=>chain_link (thn (hb pins s1 σ H1 _ I1 q1) fun u s2 ⟨y,H2,I2,r2,q2⟩ =>
  thn (ho pins s2 σ H2 x y v u _ I2 r1 r2 q2) fun d s3 ⟨z,H3,I3,r3,k,e,q3⟩=>?_)) hm
 subst e;cases r3;refine LB ?_;cases k with
 | false=>exact ite_ff ⟨.bl false,H3,I3,rfl,q3⟩
 | true=>exact ite_tt (chain_last (thn (hc pins s3 σ H3 _ I3 q3) fun w' s4 y_=>by obtain⟨z',H4,I4,r4,q4⟩:=y_;exact ho' pins s4 σ H4 y z' u w' Q I4 r2 r4 q4))
theorem kN:(sizeLine:Nat)<2 ^ 63:=by rw[K3];decide
theorem vals1(r:Vals [x] us):∃u,us=[u]/\RelV x u:=by
 cases r with
 | cons r1 r2=>cases r2;exact⟨_,rfl,r1⟩
theorem vals2(r:Vals [x,y] us):∃u w',us=[u,w']/\RelV x u/\RelV y w':=by
 cases r with
 | cons r1 r2 =>
  cases r2 with
  | cons r3 r4=>cases r4;exact⟨_,_,rfl,r1,r3⟩
theorem jk:cj X (.builtin "abs") (fun xs H Q=>∃i,xs=[.int i]/\Q (.int (if i<0 then -i else i)) H):=by
 intro pins s σ H xs us Q I r h;obtain⟨i,rfl,q⟩:=h;obtain⟨u,rfl,t,rfl⟩:=vals1 r;exact call_abs_int fun u tk=>⟨.int (if i<0 then -i else i),H,I.tok _,⟨_,rfl⟩,q⟩
theorem qS(hc:X.calm=true):cj X (.builtin "min") (fun xs H Q=>∃i j,xs=[.int i,.int j]/\Q (.int (if j<i then j else i)) H):=by
 intro pins s σ H xs us Q I r h;obtain⟨i,j,rfl,q⟩:=h;obtain⟨u,w',rfl,⟨t,rfl⟩,⟨t',rfl⟩⟩:=vals2 r;refine min_two_ints (I.ok.hd hc) fun h' tk k=>⟨_,H,I.kept k,?_,q⟩;by_cases hj:j<i
 ·rw[Kw hj,Kw hj];exact⟨_,rfl⟩
 ·rw[Kq hj,Kq hj];exact⟨_,rfl⟩
theorem rJ:cj X (.type "int") (fun xs H Q=>(∃i,xs=[.int i]/\Q (.int i) H)∨∃k,xs=[.bl k]/\Q (.int (if k then 1 else 0)) H):=by
 intro pins s σ H xs us Q I r h;rcases h with⟨i,rfl,q⟩ |⟨k,rfl,q⟩
 ·obtain⟨u,rfl,t,rfl⟩:=vals1 r;exact call_int_int ⟨.int i,H,I,⟨_,rfl⟩,q⟩
 ·obtain⟨u,rfl,r1⟩:=vals1 r;cases r1;exact call_int_bool ⟨.int (if k then 1 else 0),H,I.tok _,⟨_,rfl⟩,q⟩
end
end
section
structure ou (h:Heap) (x dx C:Addr) (mA:Str→Option Value):Prop where
 obj:h.get? x=some (PySem.W.instObj C dx)
 ns:h.Ns1 dx mA
 ne:dx≠x
theorem qJ{h:Heap}(n:h.Ns1 dx mA):∃od,h.get? dx=some od/\∀name,PySem.W.lookIn name od=some (mA name):=by
 obtain⟨o,es,ep,ho,hd,hk,_,hm⟩:=n;refine⟨o,ho,fun name=>?_⟩;have e:=hm name;unfold nsFind findBy at e;rw[←Array.find?_toList]at e;unfold PySem.W.lookIn;rw[hd];dsimp only;split
 ·rename_i y q;rw[q]at e;exact congrArg some e
 ·rename_i q;rw[q]at e;have a:es.toList.any (·.refKey)=false:=by
   rw[List.any_eq_false];intro y hy;obtain⟨z,t,hkey⟩:=hk y (Array.mem_toList_iff.mp hy);simp[DictEntry.refKey,hkey]
  have a':¬es.toList.any (·.refKey)=true:=by rw[a];exact L1
  rw[Kq a'];exact congrArg some e
theorem ou.look(I:ou h x dx C mA):∃od,PySem.W.InstAt h x (PySem.W.instObj C dx) C (some od)/\∀name,PySem.W.lookIn name od=some (mA name) :=
 let ⟨od,ho,hl⟩:=qJ I.ns
 ⟨od,⟨I.obj,rfl,rfl,ho⟩,hl⟩
section
variable {prog:Program}{w:World}{A:Around}{E:Value->Shared->Prop}{s:Shared}{K:LFr}{x dx C f:Addr}{mA:Str->Option Value}{name:Str}{v:Value}
theorem get_map(X:K.In s.heap)(I:ou s.heap x dx C mA)(hg:PySem.W.plainGet K C name=true)(hh:PySem.W.hasDictIn K C=true)
  (ha:PySem.W.findIn K (.ref C) name=some none) (hv:mA name=some v) (hv':PySem.W.handedIn v=true) (h:Q v { s with toks:=s.toks+1 }) :
  wpAny (model prog w) A (getAttr (.ref x) name expr) Q E s:=by
 obtain⟨od,J,hl⟩:=I.look;exact PySem.W.get_value X J (PySem.W.plainGet_of hg).1 (PySem.W.findObj_own hh ha rfl (by rw[hl,hv])) hv' h
theorem t6(X:K.In s.heap)(I:ou s.heap x dx C mA)(hg:PySem.W.plainGet K C name=true)
  (hf:PySem.W.findIn K (.ref C) name=some (some (.ref f))) (ht:PySem.W.isFn K (.ref f)=true) (hv:mA name=none) (h:Q (.ref f,[.ref x]) s) :
  wpAny (model prog w) A (getMethod (.ref x) name pl) Q E s:=by
 obtain⟨od,J,hl⟩:=I.look;exact PySem.W.method_fn X J (PySem.W.plainGet_of hg).1 (PySem.W.plainGet_of hg).2 hf (LV.mp ht) (by show(PySem.W.lookIn name od).map (·.isSome)=some false;rw[hl,hv];rfl) h
theorem xn(X:K.In s.heap)(I:ou s.heap x dx C mA)
  (hs:PySem.W.findIn K (.ref C) "__setattr__"=some (some (.builtin "object.__setattr__"))) (hp:PySem.W.plainOver K C=true) (ht:PySem.W.takerIn K C name=some none) (hh:PySem.W.hasDictIn K C=true)
  (hw:PySem.Within mA ns) (hsz:ns.length≤sizeLine)
  (h:∀h',ou h' x dx C (fun y=>if y=name then some v else mA y)->Heap.SameBut dx s.heap h'->Q () { s with heap:=h',toks:=s.toks+2 }) :
  wpAny (model prog w) A (setAttr (.ref x) name v) Q E s:=by
 obtain⟨od,J,hl⟩:=I.look;refine PySem.W.set_plain X J hs (PySem.W.osa_open (s:={ s with toks:=s.toks+1 }) (r:=none) X J hp ht fun b=>?_);obtain⟨cd,hc,hd'⟩:=PySem.W.any_some hh;have hx:s.heap.get? x=some ⟨.ref C,some dx,.plain,#[]⟩:=I.obj;refine JP (JT (JP (JP (wpAny_loadPart hx (JP (PySem.W.Looks.here (s:={ s with toks:=s.toks+1 }) (PySem.W.looks_clsIn X hc) ?_))))));rw[hd'];refine JT (a:=some dx) (JP (JT (JP ?_)));refine wpAny_nsSet1 (s:={ s with toks:=s.toks+1 }) I.ns fun h' hn2 hs2=>?_;obtain⟨oD,esD,epD,hoD,hdD,hcD⟩:=hn2.count (PySem.Within.cons name v hw);refine JP (wpAny_lookBehind hoD (by rw[hdD];exact pastItsLine_dict (Lv hcD (by rw[Kt];omega))) ?_);exact JT (h _ ⟨(hs2.2 _ (Ne.symm I.ne)).trans I.obj,hn2,I.ne⟩ hs2)
theorem vt(X:K.In s.heap)(hm:PySem.W.makesIn K C=true)
  (hi:PySem.W.findIn K (.ref C) "__init__"=some (some (.ref f))) (hf:PySem.W.typeIn K (.ref f)=some (.type "function"))
  (h:codeAny (model prog w) (A.under (.builtin "type.__call__" ⟨.ref C::vs,kw⟩)) (.call (.ref f) ⟨.ref (s.heap.objs.size+1)::vs,kw⟩) (PySem.W.InitBack (s.heap.objs.size+1) R)
   { s with heap:=(s.heap.push PySem.W.emptyDict).push (PySem.W.instObj C s.heap.objs.size) }) :
  codeAny (model prog w) A (.call (.ref C) ⟨vs,kw⟩) R s:=by
 obtain⟨hh,g,d,t,os⟩:=s;exact PySem.W.make_core (PySem.W.makes_of X hm) (PySem.W.looks_findIn X hi) (fun self=>PySem.W.bind_fn X self hf) (.inl rfl) h
end
def dP(f:Str)(v:V):List (Str×V)->List (Str×V)
 | []=>[(f,v)]
 |(g,x)::r=>if g=f then(g,v)::r else(g,x)::dP f v r
theorem hU(f g:Str)(v:V):∀fs:List (Str×V),(dP f v fs).lookup g=if g=f then some v else fs.lookup g
 | []=>by
  show List.lookup g [(f,v)]=_;by_cases h:g=f
  ·have hb:(g==f)=true:=LV.mpr h;simp only[List.lookup,hb,Kw h]
  ·have hb:(g==f)=false:=Lz.mpr h;simp only[List.lookup,hb,Kq h]
 |(k,x)::r=>by
  have ih:=hU f g v r;rw[show dP f v ((k,x)::r)=(if k=f then(k,v)::r else(k,x)::dP f v r)from rfl];by_cases hk:k=f
  ·rw[Kw hk];by_cases h:g=k
   ·have hb:(g==k)=true:=LV.mpr h;simp only[List.lookup,hb,Kw (h.trans hk)]
   ·have hb:(g==k)=false:=Lz.mpr h;simp only[List.lookup,hb,Kq (fun e:g=f=>h (e.trans hk.symm))]
  ·rw[Kq hk];by_cases h:g=k
   ·have hb:(g==k)=true:=LV.mpr h;simp only[List.lookup,hb,Kq (fun e:g=f=>hk (h.symm.trans e))]
   ·have hb:(g==k)=false:=Lz.mpr h;simp only[List.lookup,hb];exact ih
theorem gC(f:Str)(v:V):∀fs:List (Str×V),f∈(dP f v fs).map (·.1)/\∀g,g∈fs.map (·.1)->g∈(dP f v fs).map (·.1)
 | []=>⟨by simp[dP],fun g h=>by simp at h⟩
 |(k,x)::r=>by
  obtain⟨i1,i2⟩:=gC f v r;rw[show dP f v ((k,x)::r)=(if k=f then(k,v)::r else(k,x)::dP f v r)from rfl];by_cases hk:k=f
  ·rw[Kw hk];subst hk;exact⟨by simp,fun g h=>by simpa using h⟩
  ·rw[Kq hk];refine⟨?_,fun g h=>?_⟩
   ·rw[Kc];exact J8 _ i1
   ·rw[Kc]at h ⊢;rcases J7.mp h with e | e
    ·exact J7.mpr (.inl e)
    ·exact J8 _ (i2 g e)
theorem gX(f:Str)(v:V):∀fs:List (Str×V),(dP f v fs).length≤fs.length+1
 | []=>by simp[dP]
 |(k,x)::r=>by
  have ih:=gX f v r;rw[show dP f v ((k,x)::r)=(if k=f then(k,v)::r else(k,x)::dP f v r)from rfl];by_cases hk:k=f
  ·rw[Kw hk,Kt,Kt];omega
  ·rw[Kq hk,Kt,Kt];omega
theorem f9.some_of(r:f9 (some v) o):∃u,o=some u/\RelV v u:=by
 cases o with
 | none=>exact(show False from r).elim
 | some u=>exact⟨u,rfl,r⟩
theorem f9.none_of(r:f9 none o):o=none:=by
 cases o with
 | none=>rfl
 | some u=>exact(show False from r).elim
theorem r9(r:RelV v u):PySem.W.handedIn u=true:=by
 cases v with
 | non=>cases (show u=Value.none from r);rfl
 | bl b=>cases (show u=Value.bool b from r);rfl
 | int i=>obtain⟨t,e⟩:=(show ∃t,u=Value.int i t from r);cases e;rfl
 | str x=>obtain⟨t,e⟩:=(show ∃t,u=Value.str x t from r);cases e;rfl
 | byt b=>obtain⟨t,e⟩:=(show ∃t,u=Value.bytes b t from r);cases e;rfl
 | flt b=>obtain⟨t,e⟩:=(show ∃t,u=Value.float b t from r);cases e;rfl
 | ref a=>cases (show u=Value.ref a from r);rfl
 | ty n=>cases (show u=Value.type n from r);rfl
section
variable {P:Program}{w:World}{H H':Hp}{h h':Heap}{a C dx:Addr}{fs fs':List (Str×V)}
theorem ig(hok:HOk P w H h)(e:H a=some (.ins C dx fs)):∃mA,ou h a dx C mA/\(∀f,f9 (fs.lookup f) (mA f))/\PySem.Within mA (fs.map (·.1))/\fs.length≤1000/\H dx=some (.own a):=by
 obtain⟨d,z,ne,ob,mA,n,r,q⟩:=(show bg P w H h a (.ins C dx fs)from hok a _ e);exact⟨mA,⟨ob,n,ne⟩,r,q,z,d⟩
end
structure Cls (K:LFr) (C:Addr):Prop where
 pg:PySem.W.plainGet K C Str.empty=true
 hd:PySem.W.hasDictIn K C=true
 po:PySem.W.plainOver K C=true
 sa:PySem.W.findIn K (.ref C) "__setattr__"=some (some (.builtin "object.__setattr__"))
theorem Cls.get{K:LFr}{C:Addr}(c:Cls K C)(f:Str):PySem.W.plainGet K C f=true:=c.pg
def b8(K:LFr)(C:Addr)(f:Str):Prop:=PySem.W.findIn K (.ref C) f=some none
theorem b8.taker{K:LFr}(n:b8 K C f):PySem.W.takerIn K C f=some none:=by
 unfold PySem.W.takerIn;rw[show PySem.W.findIn K (.ref C) f=some none from n];rfl
structure Meth (K:LFr) (C:Addr) (m:Str) (f:Addr):Prop where
 at_:PySem.W.findIn K (.ref C) m=some (some (.ref f))
 fn:PySem.W.isFn K (.ref f)=true
 kp:PySem.W.keepIn K (.ref f)=true
section
variable {X:Cx}{pins:List (Addr×Obj)}{σ:St}{H:Hp}{s:Shared}{a C dx:Addr}{fs:List (Str×V)}{f:Str}{v:V}{A:Around}{E:Value->Shared->Prop}
theorem nj(I:Inv X pins σ H s)(e:H a=some (.ins C dx fs))(c:Cls X.K C)(n:b8 X.K C f)(l:fs.lookup f=some v)
  (h:∀u s',Inv X pins σ H s'->RelV v u->Q u s'):wpAny (model X.prog X.w) A (getAttr (.ref a) f b) Q E s:=by
 obtain⟨mA,O,r,_,_,_⟩:=ig I.hok e;obtain⟨u,hu,ru⟩:=f9.some_of (v:=v) (o:=mA f) (by rw[←l];exact r f);exact get_map I.kIn O (c.get f) c.hd n hu (r9 ru) (h u _ (I.tok _) ru)
theorem eX(I:Inv X pins σ H s)(e:H a=some (.ins C dx fs))(c:Cls X.K C)(k:Meth X.K C m g)(l:fs.lookup m=none)
  (h:Q (.ref g,[.ref a]) s):wpAny (model X.prog X.w) A (getMethod (.ref a) m pl) Q E s:=by
 obtain⟨mA,O,r,_,_,_⟩:=ig I.hok e;have hn:mA m=none:=f9.none_of (by rw[←l];exact r m);exact t6 I.kIn O (c.get m) k.at_ k.fn hn h
theorem n9(I:Inv X pins σ H s)(e:H a=some (.ins C dx fs))(c:Cls X.K C)(n:b8 X.K C f)(hl:fs.length<1000)(ry:RelV y u)
  (h:∀s',Inv X pins σ (upd H a (.ins C dx (dP f y fs))) s'->Q () s'):wpAny (model X.prog X.w) A (setAttr (.ref a) f u) Q E s:=by
 obtain⟨mA,O,r,wi,_,ho⟩:=ig I.hok e;have hz:(fs.map (·.1)).length≤sizeLine:=by rw[JN,K3];omega
 refine xn I.kIn O c.sa c.po n.taker c.hd wi hz fun h' O' sb=>h _ ?_;have hd:∃o,h'.get? dx=some o:=let ⟨o,_,_,e',_⟩:=O'.ns;⟨o,e'⟩
 refine I.write (x:=a) (e:=dx) (by rw[e];exact True.intro) (.inr ho) (fun b q hb z=>(sb.2 b hb).trans z) hd ?_;refine⟨by rw[aC O.ne];exact ho,?_,O.ne,O'.obj,_,O'.ns,fun g=>?_,fun g hg=>?_⟩
 ·have:=gX f y fs;omega
 ·show f9 ((dP f y fs).lookup g) (if g=f then some u else mA g);rw[hU];by_cases q:g=f
  ·rw[Kw q,Kw q];exact ry
  ·rw[Kq q,Kq q];exact r g
 ·by_cases q:g=f
  ·rw[q];exact(gC f y fs).1
  ·refine(gC f y fs).2 g (wi g fun z=>hg ?_);show(if g=f then some u else mA g)=none;rw[Kq q];exact z
theorem Inv.made(I:Inv X pins σ H s):Inv X pins σ (upd (upd H s.heap.objs.size (.own (s.heap.objs.size+1))) (s.heap.objs.size+1) (.ins C s.heap.objs.size []))
  { s with heap:=(s.heap.push PySem.W.emptyDict).push (PySem.W.instObj C s.heap.objs.size) }:=by
 have e1:(s.heap.push PySem.W.emptyDict).get? s.heap.objs.size=some PySem.W.emptyDict:=JZ s.heap rfl;have e2:((s.heap.push PySem.W.emptyDict).push (PySem.W.instObj C s.heap.objs.size)).get? (s.heap.objs.size+1)=some (PySem.W.instObj C s.heap.objs.size):=by
  have:=JZ (s.heap.push PySem.W.emptyDict) (o:=PySem.W.instObj C s.heap.objs.size) rfl
  rwa [K9]at this
 have e3:(s.heap.push PySem.W.emptyDict).Ns s.heap.objs.size (fun _=>none):=⟨PySem.W.emptyDict,#[],_,e1,rfl,(fun e he=>absurd he (by simp)),fun _=>rfl⟩;have I1:=I.laid (a:=s.heap.objs.size) (o:=.own (s.heap.objs.size+1)) (h':=s.heap.push PySem.W.emptyDict) (t':=s.toks) (fun b u q=>JR _ q) (JW _) ⟨_,e1⟩;refine I1.laid (a:=s.heap.objs.size+1) (o:=.ins C s.heap.objs.size []) (t':=s.toks) (fun b u q=>JR _ q) (Nat.le_of_eq (K9 _ _)) ?_;have ne:s.heap.objs.size≠s.heap.objs.size+1:=Ki (Nat.lt_succ_self _);refine⟨by rw[aC ne,aT],Ll _,ne,e2,fun _=>none,(Heap.Ns1.of_empty e3).at fun o q=>JR _ q,fun _=>True.intro,fun y hy=>absurd rfl hy⟩
theorem wb(hb:attributeBase e f env (eval e env)=eval e env)
  (h:wpAny (model prog w) A (eval e env) (fun o s₁=>wpAny (model prog w) A (getAttr o f true) Q E s₁) E s):wpAny (model prog w) A (eval (.Attribute e f pos) env) Q E s :=
 Attribute_any_ h (by rw[arm_eval_Attribute,hb])
end
def Jb(K:LFr)(ta:TE)(f:Str):TE:=fun σ H Q=>ta σ H fun x H1=>∃a C dx fs v,x=.ref a/\H1 a=some (.ins C dx fs)/\Cls K C/\b8 K C f/\fs.lookup f=some v/\Q v H1
def Iz(K:LFr)(ta tv:TE)(f:Str):TS:=fun D σ H=>tv σ H fun y H1=>ta σ H1 fun x H2=>∃a C dx fs,x=.ref a/\H2 a=some (.ins C dx fs)/\Cls K C/\b8 K C f/\fs.length<1000 /\
 D.nx σ (upd H2 a (.ins C dx (dP f y fs)))
section
variable {X:Cx}{o e value:Expr}{f:Str}{pos pos' tpos:Pos}{ta tv:TE}
theorem Ci(he:PE X e ta)(hb:attributeBase e f X.env (eval e X.env)=eval e X.env):PE X (.Attribute e f pos) (Jb X.K ta f):=by
 intro pins s σ H Q I h;refine wb hb (thn (he pins s σ H _ I h) fun u s1 y_=>?_);obtain⟨x,H1,I1,rx,a,C,dx,fs,v,ex,ea,c,n,l,q⟩:=y_;subst ex;obtain rfl:u=Value.ref a:=rx;exact nj I1 ea c n l fun u' s2 I2 ru=>⟨v,H1,I2,ru,q⟩
theorem BZ(ha:PE X o ta)(hv:PE X value tv)(hs:swapsWith value (some (.Attribute o f pos')) pos.line X.env=pure false):PS X (.Assign [.Attribute o f pos'] value pos) (Iz X.K ta tv f):=by
 intro pins s σ H D I h;refine plainObj_wpAny_Assign_Attribute (thn (hv pins s σ H _ I h) fun u s1 ⟨y,H1,I1,ry,q⟩=>thn (ha pins s1 σ H1 _ I1 q) fun ov s2 ⟨x,H2,I2,rx,a,C,dx,fs,ex,ea,c,n,l,q2⟩=>?_) hs;subst ex;obtain rfl:ov=Value.ref a:=rx;exact n9 I2 ea c n l ry fun s3 I3=>⟨σ,_,I3,q2⟩
theorem yZ{σ:St}(he:PE X e te)(I:Inv X pins σ H s)
  (h:te σ H fun x H1=>∃a C dx fs g,x=.ref a/\H1 a=some (.ins C dx fs)/\Cls X.K C/\Meth X.K C m g/\fs.lookup m=none /\
   ∀s1,Inv X pins σ H1 s1->wpAny (model X.prog X.w) X.A (callWith pos (.ref g) [.ref a] (backTo pos (starEach args X.env)) (backToKw pos (keywordEach [] X.env))) Q X.xe s1)
  (ht:eval (.Call (.Attribute e m apos) args [] pos) X.env=(do
   let ov←eval e X.env
   standAt apos.atName
   let (f,first)←holding [ov] (getMethod ov m pl)
   callWith pos f first (backTo pos (starEach args X.env)) (backToKw pos (keywordEach [] X.env)))) :
  wpAny (model X.prog X.w) X.A (eval (.Call (.Attribute e m apos) args [] pos) X.env) Q X.xe s:=by
 refine PySem.W.methodCall_KW (pl:=pl) (thn (he pins s σ H _ I h) fun u s1 ⟨x,H1,I1,rx,a,C,dx,fs,g,ex,ea,c,k,l,q⟩=>?_) ht;subst ex;obtain rfl:u=Value.ref a:=rx;exact eX I1 ea c k l (q s1 I1)
end
section
variable {X:Cx}{pins:List (Addr×Obj)}{σ:St}{H:Hp}{s:Shared}{A:Around}{E:Value->Shared->Prop}{Q:Value->Shared->Prop}{c:Value}{b:Bool}
inductive h9 (K:LFr) (H:Hp):V→Value→Prop where
 | non:h9 K H .non (.type "NoneType")
 | bl (x:Bool):h9 K H (.bl x) (.type "bool")
 | int (i:Int):h9 K H (.int i) (.type "int")
 | str (x:Str):h9 K H (.str x) (.type "str")
 | flt (x:UInt64):h9 K H (.flt x) (.type "float")
 | lst {a:Addr} {xs:List V} (e:H a=some (.lst xs)):h9 K H (.ref a) (.type "list")
 | frz {a:Addr} {o:Obj} {xs:List V} (e:H a=some (.frz o (.lst xs))):h9 K H (.ref a) (.type "list")
 | tup {a:Addr} {xs:List V} (e:H a=some (.tup xs)):h9 K H (.ref a) (.type "tuple")
 | dK {a:Addr} {kvs:List (Key×V)} (e:H a=some (.dK kvs)):h9 K H (.ref a) (.type "dict")
 | dT {a:Addr} {kvs:List (List Key×V)} (e:H a=some (.dT kvs)):h9 K H (.ref a) (.type "dict")
 | ins {a C dx:Addr} {fs:List (Str×V)} (e:H a=some (.ins C dx fs)) (cl:Cls K C) (ha:PySem.W.findIn K (.ref C) "__class__"=some (some (.builtin "object.__class__")))
   (hn:PySem.W.specialIn K (.builtin "object.__class__") "__get__"=some (some (.builtin "getset_descriptor.__get__"))) (htk:PySem.W.takesIn K (.builtin "object.__class__")=some true)
   (hm:PySem.W.mroIn K C (.type "object")=some true):h9 K H (.ref a) (.ref C)
theorem eM(I:Inv X pins σ H s)(rx:RelV x u)(ty:h9 X.K H x t)(e:PySem.W.kitOne X.K t c=some b)(h:∀tk,Q (.bool b) { s with toks:=tk }) :
  wpAny (model X.prog X.w) A (call (.builtin "isinstance") [u,c]) Q E s:=by
 cases ty with
 | non=>cases (show u=Value.none from rx);exact K7 PySem.W.kitx_none I.kIn True.intro e (fun z=>nomatch z) h
 | bl y=>cases (show u=Value.bool y from rx);exact K7 PySem.W.kitx_bool I.kIn True.intro e (fun z=>nomatch z) h
 | int i=>obtain⟨t,q⟩:=(show ∃t,u=Value.int i t from rx);cases q;exact K7 PySem.W.kitx_int I.kIn True.intro e (fun z=>nomatch z) h
 | str y=>obtain⟨t,q⟩:=(show ∃t,u=Value.str y t from rx);cases q;exact K7 PySem.W.kitx_str I.kIn True.intro e (fun z=>nomatch z) h
 | flt y=>obtain⟨t,q⟩:=(show ∃t,u=Value.float y t from rx);cases q;exact K7 PySem.W.kitx_float I.kIn True.intro e (fun z=>nomatch z) h
 | @lst a xs ea =>
  cases (show u=Value.ref a from rx);obtain⟨_,_,n,_,h1⟩:=(show bg X.prog X.w H s.heap a (.lst xs)from I.hok a _ ea);exact K7 PySem.W.kitx_list I.kIn ⟨_,h1,rfl⟩ e (fun z=>nomatch z) h
 | @frz a ob xs ea =>
  cases (show u=Value.ref a from rx);obtain⟨_,_,_,n,_,h1⟩:=(show bg X.prog X.w H s.heap a (.frz ob (.lst xs))from I.hok a _ ea);exact K7 PySem.W.kitx_list I.kIn ⟨_,h1,rfl⟩ e (fun z=>nomatch z) h
 | @tup a xs ea =>
  cases (show u=Value.ref a from rx);obtain⟨_,_,_,p⟩:=(show bg X.prog X.w H s.heap a (.tup xs)from I.hok a _ ea);obtain⟨o,h1,h2,_⟩:=p;exact K7 PySem.W.kitx_tuple I.kIn ⟨o,h1,h2⟩ e (fun z=>nomatch z) h
 | @dK a kvs ea =>
  cases (show u=Value.ref a from rx);obtain⟨_,_,vs,_,p⟩:=(show bg X.prog X.w H s.heap a (.dK kvs)from I.hok a _ ea);obtain⟨o,es,ep,h1,h2,_⟩:=p;exact K7 PySem.W.kitx_dict I.kIn ⟨o,h1,h2.1⟩ e (fun z=>nomatch z) h
 | @dT a kvs ea =>
  cases (show u=Value.ref a from rx);obtain⟨_,_,xs,_,o,es,ep,h1,h2,_⟩:=(show bg X.prog X.w H s.heap a (.dT kvs)from I.hok a _ ea);exact K7 PySem.W.kitx_dict I.kIn ⟨o,h1,h2.1⟩ e (fun z=>nomatch z) h
 | @ins a C dx fs ea cl ha hn htk hm =>
  cases (show u=Value.ref a from rx);obtain⟨mA,O,_⟩:=ig I.hok ea;obtain⟨od,J,_⟩:=O.look;exact K7 (PySem.W.kitx_own (cl.get _) cl.hd ha hn htk hm) I.kIn J e (fun z=>nomatch z) h
end
end
section
structure b9 (k:Nat) (A:Around):Prop where
 hd:A.handled=none
 dp:A.depth+3*k+5<recursionLimit
 un:A.units+16*k+200<cLine
theorem b9.mono(r:b9 k A)(h:j≤k):b9 j A:=⟨r.hd,by have:=r.dp;omega,by have:=r.un;omega⟩
theorem b9.deeper(r:b9 (k+1) A)(env:Env):b9 k (A.deeper env) :=
 ⟨r.hd,by have:=r.dp;show A.depth+1+3*k+5<_;omega,by have:=r.un;show A.units+3+16*k+200<_;omega⟩
theorem oy{A:Around}:(A.under (.builtin "type.__call__" ⟨.ref C::us,kw⟩)).depth=A.depth+1:=by
 first | rfl | simp[Around.under,Code.weight,Code.isCreation,Code.isGuard,Code.isCaller,Code.frames,Code.isFrame,guardIds]
theorem nz{A:Around}:(A.under (.builtin "type.__call__" ⟨.ref C::us,kw⟩)).units=A.units+1:=by
 first | rfl | simp[Around.under,Code.cUnits,Code.frames,Code.isFrame]
theorem b9.make(r:b9 (k+1) A)(C:Addr)(us:List Value)(kw:List (Str×Value)):b9 k (A.under (.builtin "type.__call__" ⟨.ref C::us,kw⟩)) :=
 ⟨r.hd,by have:=r.dp;rw[oy];omega,by have:=r.un;rw[nz];omega⟩
theorem b9.depth(r:b9 k A):A.depth<recursionLimit:=by have:=r.dp;omega
theorem b9.units(r:b9 k A):A.units+64<cLine:=by have:=r.un;omega
def ES:TA:=fun _ H Q=>Q [] H
def D1(ta:TE)(tr:TA):TA:=fun σ H Q=>ta σ H fun x H1=>tr σ H1 fun xs H2=>Q (x::xs) H2
section
variable {X:Cx}{e:Expr}{es:List Expr}{te:TE}{t:TA}{pos:Pos}
theorem ku:PA X [] ES:=fun _ _ _ _ H Q I h=>Calls.spliced_nil ⟨[],H,I,.nil,h⟩
theorem iy(ha:PE X e te)(hr:PA X es t)(hs:starEach (e::es) X.env=(false,eval e X.env)::starEach es X.env:=by rfl):PA X (e::es) (D1 te t):=by
 intro pos pins s σ H Q I h;rw[hs];show wpAny _ _ (spliced ((false,eval e X.env)::backTo pos (starEach es X.env))) _ _ s;refine Calls.spliced_cons (thn (ha pins s σ H _ I h) fun u s1 y_=>?_);obtain⟨x,H1,I1,r1,q1⟩:=y_;exact thn (hr pos pins s1 σ H1 _ I1 q1) fun us s2 ⟨xs,H2,I2,r2,q2⟩=>⟨x::xs,H2,I2,.cons r1 r2,q2⟩
def Hy(t:TA):TE:=fun σ H Q=>t σ H fun xs H1=>xs.length≤sizeLine/\∀p,H1 p=none->Q (.ref p) (upd H1 p (.tup xs))
def IF(t:TA):TE:=fun σ H Q=>t σ H fun xs H1=>xs.length≤sizeLine/\∀p,H1 p=none->Q (.ref p) (upd H1 p (.lst xs))
theorem AR(h:PA X es t):PE X (.Tuple es x1 pos) (Hy t):=by
 intro pins s σ H Q I hq;refine wpAny_Tuple_spliced (thn (h pos pins s σ H _ I hq) fun us s1 ⟨xs,H1,I1,r,z,q⟩=>⟨by rw[←r.length];exact z,?_⟩);have hf:H1 s1.heap.objs.size=none:=I1.hok.fresh (JW _);refine⟨.ref s1.heap.objs.size,upd H1 s1.heap.objs.size (.tup xs),I1.laid (t':=s1.toks) (fun b u e=>JR _ e) (JW _) ?_,rfl,q _ hf⟩;exact⟨z,us,r,⟨_,JZ _ rfl,rfl,_,rfl⟩⟩
theorem Cr(h:PA X es t):PE X (.List es pos) (IF t):=by
 intro pins s σ H Q I hq;refine wpAny_List_spliced (thn (h pos pins s σ H _ I hq) fun us s1 ⟨xs,H1,I1,r,z,q⟩=>⟨by rw[←r.length];exact z,?_⟩);have hf:H1 s1.heap.objs.size=none:=I1.hok.fresh (JW _);refine⟨.ref s1.heap.objs.size,upd H1 s1.heap.objs.size (.lst xs),I1.laid (t':=s1.toks) (fun b u e=>JR _ e) (JW _) ?_,rfl,q _ hf⟩;exact⟨z,us,0,r,JZ _ rfl⟩
end
abbrev Sp:=List V->Hp->VK->XK->Prop
abbrev CXT:=List Env->Hp->Shared->XK->Value->Shared->Prop
structure nL (P:Program) (w:World) (K:LFr) (mg:Str→Option Value) (base:Heap) (A:Around) (outer:List Env) (s:Shared) (H:Hp):Prop where
 frames:A.frames=some outer
 mod:Mod K mg base
 bs:∀b o,base.get? b=some o->s.heap.get? b=some o/\H b=none
 bsz:base.objs.size≤s.heap.objs.size
 funs:s.heap.FunFrames base outer
 frf:∀b∈frs outer,H b=none
 hok:HOk P w H s.heap
 bare:AllBare s.gens
def CE(outer:List Env)(P:Program)(w:World)(H:Hp)(s:Shared)(Q:VK)(u:Value)(s':Shared):Prop :=
 ∃v H',s'.os=s.os/\AllBare s'.gens/\Un (frs outer) [] H H' s.heap s'.heap/\HOk P w H' s'.heap/\RelV v u/\Q v H'
def CR(CX:CXT)(outer:List Env)(P:Program)(w:World)(H:Hp)(s:Shared)(Q:VK)(E:XK)(r:Result)(s':Shared):Prop :=
 match r with
 | .ok (.ret u)=>CE outer P w H s Q u s'
 | .ok _=>False
 | .error e=>CX outer H s E e s'
structure eW (P:Program) (w:World) (K:LFr) (mg:Str→Option Value) (base:Heap) (CX:CXT) (k:Nat) (f:Addr) (fd:FuncData) (ps:List Str) (sp:Sp):Prop where
 len:∀vs H Q E,sp vs H Q E->vs.length=ps.length
 run:∀(A:Around) (outer:List Env) (s:Shared) (H:Hp) (args:Args) (us:List Value) (vs:List V) (Q:VK) (E:XK),b9 k A->nL P w K mg base A outer s H->BindsTo s fd args (ps.zip us)->Vals vs us->sp vs H Q E ->
  codeAny (model P w) A (.call (.ref f) args) (CR CX outer P w H s Q E) s
theorem eW.mono{K:LFr}(F:eW P w K mg base CX j f fd ps sp)(h:j≤k) :
  eW P w K mg base CX k f fd ps sp:=⟨F.len,fun A outer s H args us vs Q E hr=>F.run A outer s H args us vs Q E (hr.mono h)⟩
theorem nL.make{K:LFr}(e:nL P w K mg base A outer s H)(C:Addr)(us:List Value)(kw:List (Str×Value)) :
  nL P w K mg base (A.under (.builtin "type.__call__" ⟨.ref C::us,kw⟩)) outer s H:=⟨by first | exact e.frames |(simpa[Around.under,Code.envs,Code.isFrame,pushEnvs]using e.frames),e.mod,e.bs,e.bsz,e.funs,e.frf,e.hok,e.bare⟩
section
variable {X:Cx}{pins:List (Addr×Obj)}{σ:St}{H:Hp}{s s':Shared}
theorem Inv.env0(I:Inv X pins σ H s):nL X.prog X.w X.K X.mg X.base X.A X.stack s H :=
 ⟨I.ok.frames,I.ok.mod,I.bs,Lv I.ok.bsz I.sz,I.stack,I.stkFree,I.hok,I.bare⟩
theorem Inv.after(I:Inv X pins σ H s)(h:CE X.stack X.prog X.w H s Q u s'):EP X pins σ Q u s':=by
 obtain⟨v,H',os,bare,un,hok,r,q⟩:=h;obtain⟨hh,g,d,t,os'⟩:=s';obtain rfl:os'=s.os:=os;exact⟨v,H',I.call (h':=hh) (g':=g) (d':=d) (t':=t) (ch:=[]) un hok bare (fun b z=>absurd z (by simp)),r,q⟩
end
def zP(sp:Sp)(dvs:List V)(E:XK)(t:TA):TE:=fun σ H Q=>t σ H fun vs H1=>sp (vs++dvs) H1 Q E
def tU(C:Addr)(m:Str)(sp:Sp)(dvs:List V)(E:XK)(ta:TE)(t:TA):TE:=fun σ H Q=>ta σ H fun x H1=>∃a dx fs,x=.ref a/\H1 a=some (.ins C dx fs)/\fs.lookup m=none /\
 t σ H1 fun vs H2=>sp (x::(vs++dvs)) H2 Q E
def Et(C:Addr)(sp:Sp)(dvs:List V)(E:XK)(t:TA):TE:=fun σ H Q=>t σ H fun vs H1=>∀x dx,H1 x=none->H1 dx=none->dx≠x ->
 sp (.ref x::(vs++dvs)) (upd (upd H1 dx (.own x)) x (.ins C dx [])) (fun v H2=>v=.non/\Q (.ref x) H2) E
def Binds(K:LFr)(fd:FuncData)(ps:List Str)(ds:List Value):Prop :=
 ∀(s:Shared) (us:List Value),K.In s.heap->(us++ds).length=ps.length->BindsTo s fd ⟨us,[]⟩ (ps.zip (us++ds))
theorem Binds.all{K:LFr}(h:∀us:List Value,us.length=ps.length->bindArgs fd ⟨us,[]⟩=pure (ps.zip us)):Binds K fd ps []:=fun s us _ hl=>by
 rw[K4]at hl ⊢;exact .of_eq (h us hl)
def Passes(CX:CXT)(X:Cx)(E:XK):Prop:=∀(pins:List (Addr×Obj)) (σ:St) (H:Hp) (s:Shared) (e:Value) (s':Shared),Inv X pins σ H s->CX X.stack H s E e s'->X.xe e s'
section
variable {X:Cx}{CX:CXT}{k:Nat}{f C:Addr}{fd:FuncData}{ps:List Str}{sp:Sp}{dvs:List V}{ds:List Value}{E:XK}{x m:Str}{p pos apos:Pos}{e o:Expr}{es:List Expr}{ta:TE}{t:TA}
theorem ni{σ:St}(F:eW X.prog X.w X.K X.mg X.base CX k f fd ps sp)(hr:b9 k X.A)(hb:Binds X.K fd ps ds)(hd:Vals dvs ds)(hx:Passes CX X E)
  (I:Inv X pins σ H s) (r:Vals vs us) (h:sp (vs++dvs) H Q E):wpAny (model X.prog X.w) X.A (call (.ref f) us) (EP X pins σ Q) X.xe s:=by
 have r2:Vals (vs++dvs) (us++ds):=r.append hd;have hl:(us++ds).length=ps.length:=by rw[←r2.length];exact F.len _ _ _ _ h
 refine wpAny_call (codeAny_mono (F.run X.A X.stack s H ⟨us,[]⟩ (us++ds) (vs++dvs) Q E hr I.env0 (hb s us I.kIn hl) r2 h) fun r s' hq=>?_);cases r with
 | error e=>exact hx pins σ H s e s' I hq
 | ok fl =>
  cases fl with
  | ret u=>exact I.after hq
  | next=>exact False.elim hq
  | brk=>exact False.elim hq
  | cont=>exact False.elim hq
theorem yS(F:eW X.prog X.w X.K X.mg X.base CX k f fd ps sp)(hr:b9 k X.A)(hg:Gl X x)(hm:X.mg x=some (.ref f))(hk:PySem.W.keepIn X.K (.ref f)=true)(hb:Binds X.K fd ps ds)(hd:Vals dvs ds)(hx:Passes CX X E)
  (ha:PA X (e::es) t) (hdb:(x==("__debug__":Str))=false:=by decide) (he:starEach (e::es) X.env=(false,eval e X.env)::starEach es X.env:=by rfl) (hpl:(backTo pos (starEach es X.env)).any (·.1)=false:=by rfl) :
  PE X (.Call (.Name x p) (e::es) [] pos) (zP sp dvs E t):=by
 intro pins s σ H Q I h;refine L3 (kS I hg hm ?_ hdb);refine PySem.W.callWith_K (h₀:=X.base) I.ok.mod.kin hk (thn (ha pos pins s σ H _ I h) fun us s1 ⟨vs,H1,I1,r,q⟩=>⟨I1.kIn,?_⟩) he hpl;exact ni F hr hb hd hx I1 r q
theorem yt{pl:Sem Bool}(he:PE X o ta)(c:Cls X.K C)(hm:Meth X.K C m f)(F:eW X.prog X.w X.K X.mg X.base CX k f fd ps sp)(hr:b9 k X.A)(hb:Binds X.K fd ps ds)(hd:Vals dvs ds)(hx:Passes CX X E)(ha:PA X (e::es) t)
  (hst:starEach (e::es) X.env=(false,eval e X.env)::starEach es X.env:=by rfl) (hpl:(backTo pos (starEach es X.env)).any (·.1)=false:=by rfl)
  (ht:eval (.Call (.Attribute o m apos) (e::es) [] pos) X.env=(do
   let ov←eval o X.env
   standAt apos.atName
   let (f,first)←holding [ov] (getMethod ov m pl)
   callWith pos f first (backTo pos (starEach (e::es) X.env)) (backToKw pos (keywordEach [] X.env))):=by rfl) :
  PE X (.Call (.Attribute o m apos) (e::es) [] pos) (tU C m sp dvs E ta t):=by
 intro pins s σ H Q I h;refine PySem.W.methodCall_KW (pl:=pl) (thn (he pins s σ H _ I h) fun u s1 ⟨x,H1,I1,rx,a,dx,fs,ex,ea,l,q⟩=>?_) ht;subst ex;obtain rfl:u=Value.ref a:=rx;refine eX I1 ea c hm l ?_;refine PySem.W.callWith_K (first:=[.ref a]) (h₀:=X.base) I.ok.mod.kin hm.kp (thn (ha pos pins s1 σ H1 _ I1 q) fun us s2 ⟨vs,H2,I2,r,q2⟩=>⟨I2.kIn,?_⟩) hst hpl;exact ni (us:=.ref a::us) (vs:=.ref a::vs) F hr hb hd hx I2 (.cons rfl r) q2
theorem uL{pl:Sem Bool}(he:PE X o ta)(c:Cls X.K C)(hm:Meth X.K C m f)(F:eW X.prog X.w X.K X.mg X.base CX k f fd ps sp)(hr:b9 k X.A)(hb:Binds X.K fd ps ds)(hd:Vals dvs ds)(hx:Passes CX X E)
  (ht:eval (.Call (.Attribute o m apos) [] [] pos) X.env=(do
   let ov←eval o X.env
   standAt apos.atName
   let (f,first)←holding [ov] (getMethod ov m pl)
   callWith pos f first (backTo pos (starEach [] X.env)) (backToKw pos (keywordEach [] X.env))):=by rfl) :
  PE X (.Call (.Attribute o m apos) [] [] pos) (tU C m sp dvs E ta ES):=by
 intro pins s σ H Q I h;refine PySem.W.methodCall_KW (pl:=pl) (thn (he pins s σ H _ I h) fun u s1 ⟨x,H1,I1,rx,a,dx,fs,ex,ea,l,q⟩=>?_) ht;subst ex;obtain rfl:u=Value.ref a:=rx;refine eX I1 ea c hm l ?_;exact PySem.W.callWith_K0 (first:=[.ref a]) I1.kIn hm.kp (ni (us:=[.ref a]) (vs:=[.ref a]) F hr hb hd hx I1 (.cons rfl .nil) q)
structure Mk (K:LFr) (C f:Addr):Prop where
 makes:PySem.W.makesIn K C=true
 init:PySem.W.findIn K (.ref C) "__init__"=some (some (.ref f))
 fn:PySem.W.isFn K (.ref f)=true
 kp:PySem.W.keepIn K (.ref C)=true
theorem tW{σ:St}(M:Mk X.K C f)(F:eW X.prog X.w X.K X.mg X.base CX k f fd ps sp)(hr:b9 (k+1) X.A)(hb:Binds X.K fd ps ds)(hd:Vals dvs ds)
  (hx:Passes CX X E) (I:Inv X pins σ H s) (r:Vals vs us)
  (h:∀x dx,H x=none->H dx=none->dx≠x->sp (.ref x::(vs++dvs)) (upd (upd H dx (.own x)) x (.ins C dx [])) (fun v H2=>v=.non/\Q (.ref x) H2) E) :
  wpAny (model X.prog X.w) X.A (call (.ref C) us) (EP X pins σ Q) X.xe s:=by
 have hq:=h (s.heap.objs.size+1) s.heap.objs.size (I.hok.fresh (Nat.le_succ _)) (I.hok.fresh (JW _)) (Ki (Nat.lt_succ_self _));have I2:=Inv.made (C:=C) I;have r2:Vals (V.ref (s.heap.objs.size+1)::(vs++dvs)) (Value.ref (s.heap.objs.size+1)::(us++ds)):=.cons rfl (r.append hd);have hl:(Value.ref (s.heap.objs.size+1)::us++ds).length=ps.length:=by
  have e:=r2.length;rw[F.len _ _ _ _ hq]at e;exact e.symm
 refine wpAny_call (vt (f:=f) I.kIn M.makes M.init (LV.mp M.fn) (codeAny_mono (F.run _ X.stack _ _ ⟨Value.ref (s.heap.objs.size+1)::us,[]⟩ (Value.ref (s.heap.objs.size+1)::(us++ds)) _ _ E (hr.make C us [])
  (I2.env0.make C us []) (hb _ (Value.ref (s.heap.objs.size+1)::us) I2.kIn hl) r2 hq) fun r s' hq'=>?_))
 cases r with
 | error e=>exact hx pins σ _ _ e s' I2 hq'
 | ok fl =>
  cases fl with
  | ret u =>
   obtain⟨v,H',I3,rv,ev,q3⟩:=I2.after hq';subst ev;exact⟨rv,⟨V.ref (s.heap.objs.size+1),H',I3,rfl,q3⟩⟩
  | next=>exact False.elim hq'
  | brk=>exact False.elim hq'
  | cont=>exact False.elim hq'
theorem yn(M:Mk X.K C f)(F:eW X.prog X.w X.K X.mg X.base CX k f fd ps sp)(hr:b9 (k+1) X.A)(hg:Gl X x)(hm:X.mg x=some (.ref C))(hb:Binds X.K fd ps ds)(hd:Vals dvs ds)(hx:Passes CX X E)
  (ha:PA X (e::es) t) (hdb:(x==("__debug__":Str))=false:=by decide) (he:starEach (e::es) X.env=(false,eval e X.env)::starEach es X.env:=by rfl) (hpl:(backTo pos (starEach es X.env)).any (·.1)=false:=by rfl) :
  PE X (.Call (.Name x p) (e::es) [] pos) (Et C sp dvs E t):=by
 intro pins s σ H Q I h;refine L3 (kS I hg hm ?_ hdb);refine PySem.W.callWith_K (h₀:=X.base) I.ok.mod.kin M.kp (thn (ha pos pins s σ H _ I h) fun us s1 ⟨vs,H1,I1,r,q⟩=>⟨I1.kIn,?_⟩) he hpl;exact tW M F hr hb hd hx I1 r q
end
section
variable {X:Cx}{CX:CXT}{k:Nat}{f C:Addr}{fd:FuncData}{ps ks:List Str}{sp:Sp}{E:XK}{x m:Str}{p pos apos kpos:Pos}{e o:Expr}{es:List Expr}{kws:List Keyword}{te ta:TE}{t tk:TA}{nm:Option Str}
variable {g:List Value->List Value->List Value}{gV:List V->List V->List V}
end
structure ay (N P:List Str) (sc:Scope):Prop where
 kind:sc.kind=.function
 co:sc.isCoroutine=false
 gen:sc.isGenerator=false
 nd:N.Nodup
 pre:N.take P.length=P
 par:∀x∈P,sc.names.lookup x=some .local∨sc.names.lookup x=some .cell
 nofree:∀y∈sc.names,y.2≠.free
theorem jS{kindOf:Str->Option NameKind}{x:Str}:∀{binds:List (Str×Value)} {m:Str->Option Value},(∀v,(x,v)∉binds)->bindL kindOf binds m x=m x
 | [],_,_=>rfl
 |(n,v)::r,m,h=>by
  unfold bindL;rw[jS fun w hw=>h w (J8 _ hw)];split
  ·have:x≠n:=by rintro rfl;exact h v J6
   simp[this]
  ·rfl
theorem jZ{kindOf:Str->Option NameKind}{x:Str}:∀{binds:List (Str×Value)} {m:Str->Option Value},(∀v,(x,v)∉binds)->bindC kindOf binds m x=m x
 | [],_,_=>rfl
 |(n,v)::r,m,h=>by
  unfold bindC;rw[jZ fun w hw=>h w (J8 _ hw)];split
  ·rfl
  ·have:x≠n:=by rintro rfl;exact h v J6
   simp[this]
theorem jP{kindOf:Str->Option NameKind}{x:Str}{v:Value}:∀{P:List Str} {vs:List Value} {i:Nat} {m:Str->Option Value},P.Nodup->P[i]?=some x->vs[i]?=some v->kindOf x=some .local ->
  bindL kindOf (P.zip vs) m x=some v
 | [],_,_,_,_,h,_,_=>by simp at h
 | _::_,[],_,_,_,_,h,_=>by simp at h
 | p::P,w::vs,0,m,nd,h1,h2,hk=>by
  simp at h1 h2;subst h1;subst h2;show bindL kindOf ((p,w)::P.zip vs) m p=_;unfold bindL;rw[jS fun v hv=>(LW.mp nd).1 (List.of_mem_zip hv).1,Kw hk];simp
 | p::P,w::vs,i+1,m,nd,h1,h2,hk=>by
  show bindL kindOf ((p,w)::P.zip vs) m x=_;unfold bindL;exact jP (i:=i) (LW.mp nd).2 (by simpa using h1) (by simpa using h2) hk
theorem j0{kindOf:Str->Option NameKind}{x:Str}{v:Value}:∀{P:List Str} {vs:List Value} {i:Nat} {m:Str->Option Value},P.Nodup->P[i]?=some x->vs[i]?=some v->kindOf x≠some .local ->
  bindC kindOf (P.zip vs) m x=some v
 | [],_,_,_,_,h,_,_=>by simp at h
 | _::_,[],_,_,_,_,h,_=>by simp at h
 | p::P,w::vs,0,m,nd,h1,h2,hk=>by
  simp at h1 h2;subst h1;subst h2;show bindC kindOf ((p,w)::P.zip vs) m p=_;unfold bindC;rw[jZ fun v hv=>(LW.mp nd).1 (List.of_mem_zip hv).1,Kq hk];simp
 | p::P,w::vs,i+1,m,nd,h1,h2,hk=>by
  show bindC kindOf ((p,w)::P.zip vs) m x=_;unfold bindC;exact j0 (i:=i) (LW.mp nd).2 (by simpa using h1) (by simpa using h2) hk
def start(N:List Str)(vs:List V):St:=vs.map some++List.replicate (N.length - vs.length) none
def nM(CX:CXT)(P:Program)(w:World)(K:LFr)(mg:Str->Option Value)(base:Heap)(N:List Str)(qual:Str)(scope:Scope)(f:Addr)(cd:Value)(A:Around)(outer:List Env)(s:Shared)(H:Hp)(E:XK):Cx where
 prog:=P
 w:=w
 K:=K
 mg:=mg
 base:=base
 A:=A.deeper (envOfC qual scope s.heap.objs.size f cd)
 N:=N
 s₀:=s
 H₀:=H
 env:=envOfC qual scope s.heap.objs.size f cd
 outer:=outer
 stack:=envOfC qual scope s.heap.objs.size f cd::outer
 ex:=[]
 calm:=true
 fn:=fun _=>true
 pn:=[]
 xe:=fun e s'=>wpAny (model P w) (A.deeper (envOfC qual scope s.heap.objs.size f cd)) (leaving (envOfC qual scope s.heap.objs.size f cd) e) (fun _ s''=>CX outer H s E e s'') (fun e' s''=>CX outer H s E e' s'') s'
theorem lJ{sc:Scope}(h:sc.names.lookup x=some .cell):∃c,(cellsFrom n sc.names []).lookup x=some c:=by
 have q:=PySem.W.cellsFrom_some sc.names n [] (.inl h);exact Option.isSome_iff_exists.mp q
theorem rN{K:LFr}
  (S:ay N ps scope) (hd:A.handled=none) (e0:nL P w K mg base A outer s H) (hl:vs.length=ps.length) (r:Vals vs us)
  (x:InCallC s s.heap.objs.size (bindL (envOfC qual scope s.heap.objs.size f cd).kindOf (ps.zip us) fun _=>none) (cellsFrom (s.heap.objs.size+1) scope.names []) (bindC (envOfC qual scope s.heap.objs.size f cd).kindOf (ps.zip us) fun _=>none) s1) :
  Inv (nM CX P w K mg base N qual scope f cd A outer s H E) [] (start N vs) H s1:=by
 have hpl:ps.length≤N.length:=by have:=congrArg List.length S.pre;rw[Kl]at this;omega
 obtain⟨h1,tk,rfl,hk⟩:=x.done;have noA:∀b:Addr,b∉(nM CX P w K mg base N qual scope f cd A outer s H E).ex:=fun b z=>absurd (show b∈([]:List Addr)from z) (by simp);refine⟨⟨e0.mod,S.kind,rfl,rfl,JW _,fun y z c h1 h2=>?_,fun y hy=>?_,fun y c _ h=>?_,fun _=>hd,Around.frames_deeper e0.frames,.inr ⟨rfl,rfl⟩,fun b z=>absurd z (noA b),e0.bs,e0.bsz,fun b _ _=>noA b,fun b z=>absurd z (noA b),e0.funs,e0.frf⟩,
  rfl,e0.bare,Un.kept hk,⟨_,x.toInCall.ns,fun i y v h1 h2 h3=>?_⟩,fun y c h=>⟨_,x.cell y c h⟩,e0.hok.fresh (JW _),fun y c h=>?_,fun p hp=>absurd (show p∈([]:List (Addr×Obj))from hp) (by simp),e0.hok.kept hk,?_⟩
 ·exact name_of_addr x.apart (PySem.mem_of_lookup h1) (PySem.mem_of_lookup h2)
 ·have hy:scope.names.lookup y=some .cell∨scope.names.lookup y=some .free:=hy;rcases hy with hy | hy
  ·exact lJ hy
  ·exact absurd rfl (S.nofree _ (PySem.mem_of_lookup hy))
 ·exact Nat.le_of_lt (x.above y c (PySem.mem_of_lookup h))
 ·have hi:i<vs.length:=by
   unfold start at h2;by_cases hi:i<vs.length
   ·exact hi
   ·rw[Kv (by simpa using hi)]at h2;rw[LQ]at h2;split at h2<;>cases h2
  have ha:vs[i]?=some v:=by
   unfold start at h2;rw[Kz (by simpa using hi),JV]at h2;cases e:vs[i]? with
   | none=>rw[e]at h2;cases h2
   | some a=>rw[e]at h2;cases h2;rfl
  obtain⟨u,hu,rv⟩:=r.get ha;have hp:ps[i]?=some y:=by
   rw[←S.pre,List.getElem?_take_of_lt (by omega)];exact h1
  have ndP:ps.Nodup:=by rw[←S.pre];exact S.nd.sublist (List.take_sublist _ _)
  refine⟨u,rv,?_⟩;rcases S.par y (JX hp)with k | k
  ·exact .inl ⟨k,jP ndP hp hu k⟩
  ·obtain⟨c,e⟩:=lJ (n:=s.heap.objs.size+1) k;refine .inr ⟨.inl k,c,e,?_⟩;have q:=x.cell y c e;rw[j0 ndP hp hu (by show scope.names.lookup y≠_;rw[k];decide)]at q;exact q
 ·exact e0.hok.fresh (Nat.le_of_lt (x.above y c (PySem.mem_of_lookup h)))
 ·unfold start;show _=N.length;rw[J2,JN,Lm];omega
theorem Fp{K:LFr}{dV kV doc pm cdv ct oc:Value}
     (lk:K.lookup f=some ⟨oc,od,.func (PySem.W.fnOf name qual params body scope dV kV doc pm an cdv ct),osl⟩) (hcd:PySem.W.codeIn K cdv qual=true) (S:ay N ps scope)
  (len:∀vs H Q E,sp vs H Q E->vs.length=ps.length)
  (hbody:∀(A:Around) (outer:List Env) (s:Shared) (H:Hp) (vs:List V) (Q:VK) (E:XK),b9 k (A.deeper (envOfC qual scope s.heap.objs.size f cdv))->sp vs H Q E ->
   ∃t,PSs (nM CX P w K mg base N qual scope f cdv A outer s H E) body t/\t { nx:=fun _ H'=>Q .non H',rt:=Q } (start N vs) H) :
  eW P w K mg base CX (k+1) f (PySem.W.fnOf name qual params body scope dV kV doc pm an cdv ct) ps sp:=by
 refine⟨len,fun A outer s H args us vs Q E hr e0 hb r hsp=>?_⟩;have hl:=len _ _ _ _ hsp;have KX:K.In s.heap:=e0.mod.kin.keeps fun b o e=>(e0.bs b o e).1;have lim:s.heap.NoLimit:=e0.mod.nolimit.keeps fun b o e=>(e0.bs b o e).1;have hkind:∀y∈ps.zip us,scope.names.lookup y.1=some .local∨(scope.names.lookup y.1=some .cell/\((cellsFrom (s.heap.objs.size+1) scope.names []).lookup y.1).isSome=true):=fun y_ hy=>by
  obtain⟨n,v⟩:=y_;rcases S.par n (List.of_mem_zip hy).1 with q | q
  ·exact .inl q
  ·exact .inr ⟨q,PySem.W.cellsFrom_some _ _ _ (.inl q)⟩
 refine codeAny_call_function hr.depth (KX _ _ lk) rfl S.co S.gen rfl (PySem.W.codeRec_of KX hcd) (hb _ _ _ _ ?_);refine wpAny_newFunctionEnv_cells S.kind hkind fun env he s1 x=>?_;subst he;refine⟨lim.keeps x.toInCall.keep,codeAny_func ?_⟩;obtain⟨t,ht,hq⟩:=hbody A outer s H vs Q E (hr.deeper _) hsp;have I:Inv (nM CX P w K mg base N qual scope f cdv A outer s H E) [] (start N vs) H s1:=rN S hr.hd e0 hl r x;refine LO (ht [] s1 (start N vs) H _ I hq) (fun fl s' hs=>?_) fun e s' hs=>hs;have fin:∀{σ':St} {H':Hp} {v:V} {u:Value},Inv (nM CX P w K mg base N qual scope f cdv A outer s H E) [] σ' H' s'->RelV v u->Q v H'->CE outer P w H s Q u s' :=
  fun {σ' H' v u} J rv q=>⟨v,H',J.os,J.bare,J.base,J.hok,rv,q⟩
 cases fl with
 | ret u =>
  obtain⟨v,σ',H',J,rv,q⟩:=hs;exact fin J rv q
 | next =>
  obtain⟨σ',H',J,q⟩:=hs;exact fin (v:=V.non) (u:=Value.none) J rfl q
 | brk =>
  obtain⟨_,_,_,q⟩:=hs;exact False.elim q
 | cont =>
  obtain⟨_,_,_,q⟩:=hs;exact False.elim q
end
section
section
variable {X:Cx}{x:Str}{p pos:Pos}{e:Expr}{es:List Expr}{t:TA}{id T:String}{r:List V->Hp->VK->Prop}
def tCB(r:List V->Hp->VK->Prop)(t:TA):TE:=fun σ H Q=>t σ H fun vs H1=>r vs H1 Q
theorem l5(hc:cj X (.builtin id) r)(hg:Gl X x)(hm:X.mg x=none)(hv:bootBuiltins x=some (.builtin id))(ha:PA X (e::es) t)(hn:x≠"__name__":=by decide)(hdb:(x==("__debug__":Str))=false:=by decide)
  (he:starEach (e::es) X.env=(false,eval e X.env)::starEach es X.env:=by rfl) (hpl:(backTo pos (starEach es X.env)).any (·.1)=false:=by rfl):PE X (.Call (.Name x p) (e::es) [] pos) (tCB r t):=by
 intro pins s σ H Q I h;refine L3 (di I hg hm hv ?_ hn hdb);exact PyProof.Rows.callWith_builtin1 (thn (ha pos pins s σ H _ I h) fun us s1 y_=>by obtain⟨vs,H1,I1,r1,q1⟩:=y_;exact hc pins s1 σ H1 vs us Q I1 r1 q1) he hpl
theorem jT(hc:cj X (.type T) r)(hg:Gl X x)(hm:X.mg x=none)(hv:bootBuiltins x=some (.type T))(ha:PA X (e::es) t)(hn:x≠"__name__":=by decide)(hdb:(x==("__debug__":Str))=false:=by decide)
  (he:starEach (e::es) X.env=(false,eval e X.env)::starEach es X.env:=by rfl) (hpl:(backTo pos (starEach es X.env)).any (·.1)=false:=by rfl):PE X (.Call (.Name x p) (e::es) [] pos) (tCB r t):=by
 intro pins s σ H Q I h;refine L3 (di I hg hm hv ?_ hn hdb);exact K2 (thn (ha pos pins s σ H _ I h) fun us s1 y_=>by obtain⟨vs,H1,I1,r1,q1⟩:=y_;exact hc pins s1 σ H1 vs us Q I1 r1 q1) he hpl
end
end
end L2
namespace HT
section
open PySem.SeqAt
open PySem.AutoSeq1 (wpAny_loadPart')
open PySem.MeetsSeq PySem.MeetsSeq2 PySem.MeetsSeq3
end
section
variable {prog:Program}{w:World}{A:Around}{E:Value->Shared->Prop}{s:Shared}
theorem wg(ht:IsTup s.heap t vs.toArray)(hb:IsTup s.heap b ws.toArray)(hv:vs≠[])
  (h1:ws=[]->Q (.ref t) s) (h2:ws≠[]->Q (.ref s.heap.objs.size) { s with heap:=s.heap.push { cls:=.type "tuple",data:=.seq (vs++ws).toArray } })
  (hsz:vs.length+ws.length≤sizeLine):wpAny (model prog w) A (binaryOp .Add (.ref t) (.ref b)) Q E s:=by
 obtain⟨⟨cls,dd,data,sl⟩,ho,hc,n,hd⟩:=id ht;obtain⟨⟨cls2,dd2,data2,sl2⟩,ho2,hc2,n2,hd2⟩:=id hb;simp only at hc hd hc2 hd2;subst hc hd hc2 hd2;have e:vs.toArray++ws.toArray=(vs++ws).toArray:=by simp
 by_cases hw:ws=[]
 ·exact concat_meets ⟨_,ho,rfl⟩ ⟨_,ho2,rfl⟩ noFill_tuple_add seq_tuple_add PySem.F.slot_tuple_add PySem.F.entry_tuple_add (PySem.F.args_tuple_add_2 _ _)
   (tuple_addW1 t b vs.toArray ws.toArray n n2 dd dd2 sl sl2 (by simpa using hv) (by simp[hw])) ⟨ho,ho2,h1 hw⟩
 ·refine concat_meets ⟨_,ho,rfl⟩ ⟨_,ho2,rfl⟩ noFill_tuple_add seq_tuple_add PySem.F.slot_tuple_add PySem.F.entry_tuple_add (PySem.F.args_tuple_add_2 _ _)
   (tuple_addW2 t b vs.toArray ws.toArray n n2 dd dd2 sl sl2 (by simpa using hv) (by simpa using hw) (by rw[Kb,Kb];exact hsz)) ⟨ho,ho2,?_⟩
  rw[e];exact h2 hw
def sIx(n d:Nat):Option Int->Nat
 | none=>d
 | some v=>if v<0 then(v+(n:Int)).toNat else min v.toNat n
theorem BJ(n d:Nat)(hd:d≤n)(o:Option Int):sIx n d o≤n:=by
 cases o with
 | none=>exact hd
 | some v =>
  show(if v<0 then(v+(n:Int)).toNat else min v.toNat n)≤n;by_cases hv:v<0
  ·rw[Kw hv];omega
  ·rw[Kq hv];exact Nat.min_le_right _ _
theorem qo(v:Int)(n d:Nat):(if v<0 then max (v+(n:Int)) 0 else min v (n:Int))=((sIx n d (some v):Nat):Int):=by
 show(if v<0 then max (v+(n:Int)) 0 else min v (n:Int))=(((if v<0 then(v+(n:Int)).toNat else min v.toNat n):Nat):Int);by_cases hv:v<0
 ·simp only[Kw hv];omega
 ·simp only[Kq hv];omega
theorem om(lo hi:Option Int)(n:Nat):Builtin.Slice.sliceAdjust lo hi 1 (n:Int)=(((sIx n 0 lo:Nat):Int),((sIx n n hi:Nat):Int)):=by
 have h1:¬((1:Int)<0):=by omega
 unfold Builtin.Slice.sliceAdjust;simp only[h1,LX];refine Prod.ext ?_ ?_
 ·cases lo with
  | none=>rfl
  | some v=>exact qo v n 0
 ·cases hi with
  | none=>rfl
  | some v=>exact qo v n n
theorem oF(i j:Nat):Builtin.Slice.slicePlaces (i:Int) (j:Int) 1=j - i:=by
 unfold Builtin.Slice.slicePlaces;have h1:(1:Int)>0:=by omega
 simp only[h1,if_true,Int.ediv_one];split<;>omega
theorem iN(p:IsPart v o)(h:Q o s):wpAny (model prog w) A (Builtin.Slice.slicePartIndex v) Q E s:=by
 cases p with
 | none=>exact slicePart_none h
 | int i t=>exact slicePart_int h
theorem dr{sl:Addr}{vl vu:Value}{lo hi:Option Int}{n:Nat}(hs:s.heap.IsSliceOf sl vl vu .none)(pl:IsPart vl lo)(pu:IsPart vu hi)
  (h:Q (((sIx n 0 lo:Nat):Int),1,sIx n n hi - sIx n 0 lo) s):wpAny (model prog w) A (Builtin.Slice.sliceApplied (.ref sl) (pure (n:Int))) Q E s:=by
 obtain⟨os,hos,hcs,hds⟩:=id hs;unfold Builtin.Slice.sliceApplied Builtin.Slice.sliceFields;refine JP (JP (Lp hos hds (x:=vl) rfl (JP (Lp hos hds (x:=vu) rfl (JP (Lp hos hds (x:=.none) rfl (JT ?_)))))));refine JP (slicePart_none ?_);show wpAny _ _ (if ((1:Int)==0)=true then _ else _) _ _ s;rw[Kq (by decide)];refine JP (iN pl (JP (iN pu (JP (JT ?_)))));show wpAny _ _ (match Builtin.Slice.sliceAdjust lo hi 1 (n:Int)with |(lo,hi)=>pure (lo,(1:Int),Builtin.Slice.slicePlaces lo hi 1)) _ _ s;rw[om lo hi n];show wpAny _ _ (pure (((sIx n 0 lo:Nat):Int),(1:Int),Builtin.Slice.slicePlaces ((sIx n 0 lo:Nat):Int) ((sIx n n hi:Nat):Int) 1)) _ _ s;rw[oF];exact JT h
theorem uD(xs:Array Value)(i k:Nat):((List.range k).filterMap fun(m:Nat)=>xs[((i:Int)+(m:Int)*1).toNat]?).toArray=((xs.toList.drop i).take k).toArray:=by
 have e:(fun(m:Nat)=>xs[((i:Int)+(m:Int)*1).toNat]?)=fun m=>xs[i+m]?:=by
  funext m;have:((i:Int)+(m:Int)*1).toNat=i+m:=by omega
  rw[this]
 rw[e];have:=pick_run xs i k;rw[List.filterMap_map]at this;have e2:((fun x=>xs[x]?) ∘ fun x=>i+x)=fun m=>xs[i+m]?:=rfl;rw[e2]at this;rw[this]
theorem f6{lo hi:Option Int}(ht:IsTup s.heap t items)(hs:s.heap.IsSliceOf sl vl vu .none)(pl:IsPart vl lo)(pu:IsPart vu hi)
  (hw:¬(sIx items.size 0 lo=0/\sIx items.size items.size hi=items.size))
  (h:Q (.ref s.heap.objs.size) { s with heap:=s.heap.push { cls:=.type "tuple",data:=.seq ((items.toList.drop (sIx items.size 0 lo)).take (sIx items.size items.size hi - sIx items.size 0 lo)).toArray } })
  (hsz:items.size≤sizeLine):wpAny (model prog w) A (getItem (.ref t) (.ref sl)) Q E s:=by
 have htake:sizeOk (.seq ((items.toList.drop (sIx items.size 0 lo)).take (sIx items.size items.size hi - sIx items.size 0 lo)).toArray):=by
  show((items.toList.drop (sIx items.size 0 lo)).take (sIx items.size items.size hi - sIx items.size 0 lo)).toArray.size≤sizeLine;rw[Kb,Kl,List.length_drop,KZ];omega
 have hj:sIx items.size items.size hi≤items.size:=BJ _ _ (JW _) hi;obtain⟨os,hos,hcs,hds⟩:=id hs;have hTs:s.TypeIs (.ref sl) "slice":=⟨os,hos,hcs⟩;unfold getItem
 try with_reducible refine LG ?_
 first | refine JP (JT ?_) | skip
 refine JP (wpAny_sequenceKey ht.typeIs (by decide) ?_);refine JP (KU (name:=Str.ofString "__getitem__") ht.typeIs PyProof.Rows.slot_tuple_getitem
  (KW PyProof.Rows.slot_tuple_getitem ht.typeIs entry_tuple_getitem ?_ (args_tuple_getitem _ _)))
 show wpAny _ _ (Builtin.Tuple.tupleItemsOf (.ref t) >>= _) _ _ s;refine JP (tupleItemsOf_ ht ?_);refine JP (wpAny_typeOf hTs ?_);rw[Kw (by decide)];refine JP (dr hs pl pu ?_);have hno:¬((((sIx items.size 0 lo:Nat):Int)==0&&(1:Int)==1&&(sIx items.size items.size hi - sIx items.size 0 lo)==items.size)=true):=by
  intro q;rw[K8,K8]at q;have q1:((sIx items.size 0 lo:Nat):Int)=0:=eq_of_beq q.1.1;have q2:sIx items.size items.size hi - sIx items.size 0 lo=items.size:=eq_of_beq q.2;exact hw ⟨by omega,by omega⟩
 show wpAny _ _ (if (((sIx items.size 0 lo:Nat):Int)==0&&(1:Int)==1&&(sIx items.size items.size hi - sIx items.size 0 lo)==items.size)=true then _ else _) _ _ s;rw[Kq hno,uD]
 first
  | exact JP (m:=Builtin.Tuple.tupleExact _) (KO (JT ⟨_,rfl,JT h⟩) htake)
  | exact JP (m:=Builtin.Tuple.tupleExact _) (KO (JP (JT (JT ⟨_,rfl,JT h⟩))) htake)
  | exact JP (JP (m:=Builtin.Tuple.tupleExact _) (KO (JT (JT ⟨_,rfl,JT h⟩)) htake))
  | exact JP (JP (m:=Builtin.Tuple.tupleExact _) (KO (JT ⟨_,rfl,JT h⟩) htake))
end
end HT
namespace L2
section
abbrev TO:=St->Hp->(Option Int->Hp->Prop)->Prop
def PO(X:Cx)(e:Option Expr)(t:TO):Prop :=
 ∀(pins:List (Addr×Obj)) (s:Shared) (σ:St) (H:Hp) (Q:Option Int->Hp->Prop),Inv X pins σ H s->t σ H Q ->
  wpAny (model X.prog X.w) X.A (evalPart e X.env) (fun u s'=>∃o H',Inv X pins σ H' s'/\IsPart u o/\Q o H') X.xe s
def Gk(t:TE):TO:=fun σ H Q=>t σ H fun x H1=>∃i,x=.int i/\Q (some i) H1
section
variable {X:Cx}{e:Expr}{te:TE}{lo hi:Option Expr}{tl th:TO}{pos p2:Pos}
theorem yo(h:PE X e te):PO X (some e) (Gk te):=by
 intro pins s σ H Q I hw;rw[evalPart_some];refine thn (h pins s σ H _ I hw) fun u s1 y_=>?_;obtain⟨x,H1,I1,r1,q1⟩:=y_;obtain⟨i,rfl,q⟩:=q1;obtain⟨t,rfl⟩:=r1;exact⟨some i,H1,I1,.int i t,q⟩
def SlR(X:Cx)(r:V->Option Int->Option Int->Hp->VK->Prop):Prop :=
 ∀(pins:List (Addr×Obj)) (s:Shared) (σ:St) (H:Hp) (x:V) (v vl vu:Value) (lo hi:Option Int) (sl:Addr) (Q:VK),Inv X pins σ H s->RelV x v->s.heap.IsSliceOf sl vl vu .none->IsPart vl lo->IsPart vu hi->r x lo hi H Q ->
  ∃T id,typeLookup (.type T) "__getitem__"=pure (some (.builtin id))/\s.TypeIs v T/\wpAny (model X.prog X.w) X.A (getItem v (.ref sl)) (EP X pins σ Q) X.xe s
def tSl(r:V->Option Int->Option Int->Hp->VK->Prop)(te:TE)(tl th:TO):TE:=fun σ H Q=>te σ H fun x H1=>tl σ H1 fun l H2=>th σ H2 fun u H3=>r x l u H3 Q
theorem vo(hr:SlR X r)(he:PE X e te)(hl:PO X lo tl)(hu:PO X hi th):PE X (.Subscript e (.Slice lo hi none p2) pos) (tSl r te tl th):=by
 intro pins s σ H Q I h;refine Subscript_ (thn (he pins s σ H _ I h) fun v s1 y_=>?_);obtain⟨x,H1,I1,r1,q1⟩:=y_;refine wpAny_Slice (thn (hl pins s1 σ H1 _ I1 q1) fun vl s2 ⟨l,H2,I2,pl,q2⟩=>thn (hu pins s2 σ H2 _ I2 q2) fun vu s3 y_=>?_);obtain⟨u,H3,I3,pu,q3⟩:=y_;rw[evalPart_none];refine JT ?_;have I4:Inv X pins σ H3 { s3 with heap:=s3.heap.push { cls:=.type "slice",data:=.fields #[vl,vu,.none] } }:=I3.kept (t':=s3.toks) fun b ob q=>JR _ q;obtain⟨T,id,hT,ht,hg⟩:=hr pins { s3 with heap:=s3.heap.push { cls:=.type "slice",data:=.fields #[vl,vu,.none] } } σ H3 x v vl vu l u s3.heap.objs.size Q I4 r1 (Heap.IsSliceOf.new ..) pl pu q3;show wpAny (model X.prog X.w) X.A (subscriptTail e (.Slice lo hi none p2) v (.ref s3.heap.objs.size)) (EP X pins σ Q) X.xe { s3 with heap:=s3.heap.push { cls:=.type "slice",data:=.fields #[vl,vu,.none] } };exact tail_any (ops:=[.ref s3.heap.objs.size,v]) ht hT hg (by with_unfolding_all rfl)
def kH(xs:List V)(lo hi:Option Int):List V:=(xs.drop (HT.sIx xs.length 0 lo)).take (HT.sIx xs.length xs.length hi - HT.sIx xs.length 0 lo)
theorem gZ(xs:List V)(lo hi:Option Int):(kH xs lo hi).length≤xs.length:=by
 unfold kH;rw[Kl,List.length_drop];omega
def GK(K:LFr):V->Option Int->Option Int->Hp->VK->Prop:=fun x lo hi H Q=>∃a xs,x=.ref a/\SqT K H a xs /\
 ¬(HT.sIx xs.length 0 lo=0/\HT.sIx xs.length xs.length hi=xs.length)/\∀p,H p=none->Q (.ref p) (upd H p (.tup (kH xs lo hi)))
theorem AZ:SlR X (GK X.K):=by
 intro pins s σ H x v vl vu lo hi sl Q I rx hs pl pu h;obtain⟨a,xs,rfl,hx,hw,q⟩:=h;cases rx;obtain⟨its,r,ht,hz⟩:=I.tuple hx;have hlen:its.toArray.size=xs.length:=by rw[Kb];exact r.length.symm
 refine⟨"tuple",_,PyProof.Rows.slot_tuple_getitem.lookup,ht.typeIs,?_⟩;refine HT.f6 ht hs pl pu (by rw[hlen];exact hw) ?_ (by rw[hlen];exact hz);rw[hlen];refine⟨.ref s.heap.objs.size,_,I.laid (t':=s.toks) (o:=.tup (kH xs lo hi)) (fun b ob q=>JR _ q) (JW _) ?_,rfl,q _ (I.hok.fresh (JW _))⟩;exact⟨Lv (gZ xs lo hi) hz,_,(r.drop (HT.sIx xs.length 0 lo)).take (HT.sIx xs.length xs.length hi - HT.sIx xs.length 0 lo),IsTup.new _ _⟩
def DW(K:LFr):R2:=fun x y H Q=>∃a b xs ys,x=.ref a/\y=.ref b/\SqT K H a xs/\SqT K H b ys/\xs≠[]/\xs.length+ys.length≤sizeLine /\
 (ys=[]->Q (.ref a) H)/\(ys≠[]->∀p,H p=none->Q (.ref p) (upd H p (.tup (xs++ys))))
theorem Vals.nil_iff(r:Vals xs us):us=[]↔xs=[]:=by
 cases r with
 | nil=>simp
 | cons _ _=>simp
theorem x5:OpR X (binaryOp .Add) (DW X.K):=by
 intro pins s σ H x y v u Q I rx ry h;obtain⟨a,b,xs,ys,rfl,rfl,ha,hb,hx,hz,q1,q2⟩:=h;cases rx;cases ry;obtain⟨its,r1,p1,_⟩:=I.tuple ha;obtain⟨its2,r2,p2,_⟩:=I.tuple hb;refine HT.wg p1 p2 (fun z=>hx (r1.nil_iff.mp z)) (fun z=>⟨.ref a,H,I,rfl,q1 (r2.nil_iff.mp z)⟩) (fun z=>?_) (by rw[←r1.length,← r2.length];exact hz);refine⟨.ref s.heap.objs.size,_,I.laid (t':=s.toks) (o:=.tup (xs++ys)) (fun b ob q=>JR _ q) (JW _) ?_,rfl,q2 (fun w=>z (r2.nil_iff.mpr w)) _ (I.hok.fresh (JW _))⟩;exact⟨by rw[J2];exact hz,_,r1.append r2,IsTup.new _ _⟩
end
end
section
def ixN(n:Nat)(i:Int):Option Nat:=if 0≤i then(if i<n then some i.toNat else none)else if -(n:Int)≤i then some (i+n).toNat else none
def atI{α:Type}(xs:List α)(i:Int):Option α:=(ixN xs.length i).bind fun j=>xs[j]?
theorem pW(h:ixN n i=some j):seqIndex? i n=some j/\j<n/\-(n:Int)≤i/\i<n:=by
 unfold ixN at h;by_cases h0:0≤i
 ·rw[Kw h0]at h;by_cases h1:i<n
  ·rw[Kw h1]at h;have e:i.toNat=j:=Ks h;exact⟨by rw[seqIndex_of h0 h1,e],by omega,by omega,h1⟩
  ·rw[Kq h1]at h;cases h
 ·rw[Kq h0]at h;by_cases h1:-(n:Int)≤i
  ·rw[Kw h1]at h;have e:(i+n).toNat=j:=Ks h;exact⟨by rw[seqIndex_neg (by omega) h1,e],by omega,h1,by omega⟩
  ·rw[Kq h1]at h;cases h
theorem qf{xs:List α}{v:α}(h:atI xs i=some v):∃j,seqIndex? i xs.length=some j/\xs[j]?=some v/\j<xs.length/\-(xs.length:Int)≤i/\i<xs.length:=by
 unfold atI at h;cases e:ixN xs.length i with
 | none=>rw[e]at h;cases h
 | some j =>
  rw[e]at h;obtain⟨h1,h2,h3,h4⟩:=pW e;exact⟨j,h1,h,h2,h3,h4⟩
def kU(b:Expr):Prop:=∀o i,subscripted b false o i=operate [o,i] (getItem o i)
def IxR(X:Cx)(r:R2):Prop :=
 ∀(value slice:Expr) (pins:List (Addr×Obj)) (s:Shared) (σ:St) (H:Hp) (x y:V) (v u:Value) (Q:VK),Inv X pins σ H s->RelV x v->RelV y u->r x y H Q ->
  subscripted slice false v u=operate [v,u] (getItem v u)->wpAny (model X.prog X.w) X.A (subscriptTail value slice v u) (EP X pins σ Q) X.xe s
def MtR(X:Cx)(id:String)(r:V->List V->Hp->VK->Prop):Prop :=
 ∀(pins:List (Addr×Obj)) (s:Shared) (σ:St) (H:Hp) (x:V) (xs:List V) (v:Value) (us:List Value) (Q:VK),Inv X pins σ H s->RelV x v->Vals xs us->r x xs H Q ->
  wpAny (model X.prog X.w) X.A (call (.builtin id) (v::us)) (EP X pins σ Q) X.xe s
section
variable {X:Cx}{a b:Expr}{ta tb:TE}{pos:Pos}
theorem IxR.or(h:IxR X r)(h':IxR X r'):IxR X (fun x y H Q=>r x y H Q∨r' x y H Q):=by
 intro value slice pins s σ H x y v u Q I rx ry q hs;rcases q with q | q
 ·exact h value slice pins s σ H x y v u Q I rx ry q hs
 ·exact h' value slice pins s σ H x y v u Q I rx ry q hs
theorem D9(hr:IxR X r)(ha:PE X a ta)(hb:PE X b tb)(hs:kU b):PE X (.Subscript a b pos) (tOp r ta tb):=by
 intro pins s σ H Q I h;exact Subscript_ (Af ha hb I h fun v u s2 x y H2 I2 rx ry q=>hr a b pins s2 σ H2 x y v u Q I2 rx ry q (hs _ _))
def B8(K:LFr):R2:=fun x y H Q=>∃p xs i v,x=.ref p/\y=.int i/\SqL K H p xs/\atI xs i=some v/\Q v H
def AU(K:LFr):R2:=fun x y H Q=>∃p xs i v,x=.ref p/\y=.int i/\SqT K H p xs/\atI xs i=some v/\Q v H
theorem wW:IxR X (B8 X.K):=by
 intro value slice pins s σ H x y v u Q I rx ry h hs;obtain⟨p,xs,i,z,rfl,rfl,hq,he,q⟩:=h;cases rx;obtain⟨t,rfl⟩:=ry;obtain⟨its,r,pl,hz⟩:=I.list hq;obtain⟨j,h1,h2,h3,h4,h5⟩:=qf he;obtain⟨w,ew,rw'⟩:=r.get h2;have hl:=r.length;have hn:=kN;have fin:EP X pins σ Q w s:=⟨z,H,I,rw',q⟩;by_cases h0:0≤i
 ·have hj:i.toNat=j:=by
   rw[seqIndex_of h0 h5]at h1;exact Ks h1
  exact item_listR pl.isList h0 (by omega) (by rw[hj];simpa using ew) fin hs
 ·have hj:(i+(its.toArray.size:Int)).toNat=j:=by
   rw[seqIndex_neg (by omega) h4]at h1;rw[Kb,← hl];exact Ks h1
  exact subscriptTail_builtinR (x:=w) pl.isList.typeIs slot_list_getitem.lookup
   (wpAny_getItem_list_neg (Q:=fun r s'=>r=w/\EP X pins σ Q r s') pl.isList (by omega) (by rw[Kb]<;>omega) (by omega) (by rw[hj];simpa using ew) ⟨rfl,fin⟩) hs
theorem Ab:IxR X (AU X.K):=by
 intro value slice pins s σ H x y v u Q I rx ry h hs;obtain⟨p,xs,i,z,rfl,rfl,hq,he,q⟩:=h;cases rx;obtain⟨t,rfl⟩:=ry;obtain⟨its,r,pl,hz⟩:=I.tuple hq;obtain⟨j,h1,h2,h3,h4,h5⟩:=qf he;obtain⟨w,ew,rw'⟩:=r.get h2;have hl:=r.length;have hn:=kN;have fin:EP X pins σ Q w s:=⟨z,H,I,rw',q⟩;exact subscriptTail_builtinR (x:=w) pl.typeIs slot_tuple_getitem.lookup
  (getItem_tuple (j:=j) (Q:=fun r s'=>r=w/\EP X pins σ Q r s') pl (by omega) (by omega) (by rw[Kb,← hl];exact h1) (by simpa using ew) ⟨rfl,fin⟩) hs
theorem nJ(its:List Value)(n j:Nat)(u:Value):Obj.mapSeq (·.setIfInBounds j u) { cls:=.type "list",data:=.seq its.toArray n }={ cls:=.type "list",data:=.seq (its.set j u).toArray n }:=by
 simp[Obj.mapSeq]
theorem Inv.lst{pins:List (Addr×Obj)}{σ:St}{H:Hp}{s:Shared}{p:Addr}{xs:List V}(I:Inv X pins σ H s)(h:H p=some (.lst xs)) :
  ∃(its:List Value) (n:Nat),Vals xs its/\s.heap.get? p=some { cls:=.type "list",data:=.seq its.toArray n }/\xs.length≤sizeLine:=by
 obtain⟨z,its,n,r,e⟩:=I.hok p _ h;exact⟨its,n,r,e,z⟩
theorem Inv.lstUpd{σ:St}{its its':List Value}(I:Inv X pins σ H s)(h:H p=some (.lst xs))
  (ho:s.heap.get? p=some { cls:=.type "list",data:=.seq its.toArray n }) (hf:f { cls:=.type "list",data:=.seq its.toArray n }={ cls:=.type "list",data:=.seq its'.toArray n' }) (r:Vals ys its') (hz:ys.length≤sizeLine) (t:Nat) :
  Inv X pins σ (upd H p (.lst ys)) { s with heap:=s.heap.update p f,toks:=t }:=by
 have e:(s.heap.update p f).get? p=some { cls:=.type "list",data:=.seq its'.toArray n' }:=by
  rw[La f ho (by rw[hf]<;>rfl),hf]
 refine I.write (x:=p) (e:=p) (by rw[h];trivial) (.inl rfl) (fun b u hb q=>(Heap.get?_update_other _ _ (Ne.symm hb)).trans q) ⟨_,e⟩ ?_;exact⟨hz,its',n',r,e⟩
def Ek:V->V->V->Hp->(Hp->Prop)->Prop:=fun o i v H Q=>∃p xs k j,o=.ref p/\i=.int k/\H p=some (.lst xs)/\ixN xs.length k=some j/\Q (upd H p (.lst (xs.set j v)))
theorem set_list:i8 X Ek:=by
 intro pins s σ H o i v ov iv u Q I ro ri rv h;obtain⟨p,xs,k,j,rfl,rfl,hp,hj,q⟩:=h;cases ro;obtain⟨t,rfl⟩:=ri;obtain⟨its,n,r,ho,hz⟩:=I.lst hp;obtain⟨h1,h2,h3,h4⟩:=pW hj;have hl:=r.length;have hn:=kN;have I':Inv X pins σ (upd H p (.lst (xs.set j v))) { s with heap:=s.heap.update p (Obj.mapSeq (·.setIfInBounds j u)) } :=
  I.lstUpd hp ho (nJ its n j u) (r.set rv j) (by rw[List.length_set];exact hz) s.toks
 by_cases h0:0≤k
 ·have hk:k.toNat=j:=by
   rw[seqIndex_of h0 h4]at h1;exact Ks h1
  exact PySem.W.ki_setAt ho h0 (by omega) (by rw[Kb,← hl];exact h4) (by rw[hk];exact⟨_,I',q⟩)
 ·have hk:(k+(its.toArray.size:Int)).toNat=j:=by
   rw[seqIndex_neg (by omega) h3]at h1;rw[Kb,← hl];exact Ks h1
  exact PySem.W.ki_setBack ho (by omega) (by rw[Kb,← hl];exact h3) (by omega) (by rw[hk];exact⟨_,I',q⟩)
theorem ki(lo hi:Option Int)(n:Nat):(sliceBounds lo hi none n).1=((HT.sIx n 0 lo:Nat):Int)/\(sliceBounds lo hi none n).2.1=((HT.sIx n n hi:Nat):Int)/\(sliceBounds lo hi none n).2.2=1:=by
 refine⟨?_,?_,rfl⟩
 ·cases lo with
  | none=>simp[sliceBounds,HT.sIx]
  | some i =>
   simp only[sliceBounds,HT.sIx,Option.getD_none,show(1:Int)>0 by decide,if_true];by_cases h:i<0
   ·simp only[h,if_true]<;>omega
   ·simp only[h,LX]<;>omega
 ·cases hi with
  | none=>simp[sliceBounds,HT.sIx]
  | some i =>
   simp only[sliceBounds,HT.sIx,Option.getD_none,show(1:Int)>0 by decide,if_true];by_cases h:i<0
   ·simp only[h,if_true]<;>omega
   ·simp only[h,LX]<;>omega
theorem jv(its:List Value)(lo hi:Option Int):slicePick its.toArray lo hi none=((its.drop (HT.sIx its.length 0 lo)).take (HT.sIx its.length its.length hi - HT.sIx its.length 0 lo)).toArray:=by
 obtain⟨h1,h2,h3⟩:=ki lo hi its.toArray.size;unfold slicePick;rw[h1,h2,h3];simp only[sliceRange_one,pick_run,Kb]<;>rfl
def Ir(K:LFr):V->Option Int->Option Int->Hp->VK->Prop:=fun x lo hi H Q=>∃a xs,x=.ref a/\SqL K H a xs/\∀p,H p=none->Q (.ref p) (upd H p (.lst (kH xs lo hi)))
theorem Gw:SlR X (Ir X.K):=by
 intro pins s σ H x v vl vu lo hi sl Q I rx hs pl pu h;obtain⟨a,xs,rfl,hx,q⟩:=h;cases rx;obtain⟨its,r,ht,hz⟩:=I.list hx;have hlen:=r.length;refine⟨"list",_,slot_list_getitem.lookup,ht.isList.typeIs,?_⟩;refine wpAny_getItem_list_slice ht.isList hs pl pu .none (by simp) ?_ (by rw[Kb]<;>omega);rw[jv,← hlen];refine⟨.ref s.heap.objs.size,_,I.laid (t':=s.toks) (o:=.lst (kH xs lo hi)) (fun b ob q=>JR _ q) (JW _) ?_,rfl,q _ (I.hok.fresh (JW _))⟩;exact⟨Lv (gZ xs lo hi) hz,_,0,(r.drop (HT.sIx xs.length 0 lo)).take (HT.sIx xs.length xs.length hi - HT.sIx xs.length 0 lo),JZ _ rfl⟩
theorem az:cj X (.builtin "len") (fun xs H Q=>∃p ys,xs=[.ref p]/\(SqL X.K H p ys∨SqT X.K H p ys)/\Q (.int ys.length) H):=by
 intro pins s σ H xs us Q I r h;obtain⟨p,ys,rfl,hq,q⟩:=h;obtain⟨u,rfl,rx⟩:=vals1 r;cases rx;have hn:=kN;rcases hq with hq | hq
 ·obtain⟨its,r',pl,hz⟩:=I.list hq;have hlen:=r'.length;exact Calls.call_len_list pl.isList (by simp only[Kb]<;>omega) ⟨.int ys.length,H,I.tok _,⟨s.toks+1,by rw[Kb,hlen]⟩,q⟩
 ·obtain⟨its,r',pl,hz⟩:=I.tuple hq;have hlen:=r'.length;exact len_tuple pl (by simp only[Kb]<;>omega) ⟨.int ys.length,H,I.tok _,⟨s.toks+1,by rw[Kb,hlen]⟩,q⟩
theorem cD:cj X (.type "list") (fun xs H Q=>∃p ys,xs=[.ref p]/\(SqL X.K H p ys∨SqT X.K H p ys)/\∀l,H l=none->Q (.ref l) (upd H l (.lst ys))):=by
 intro pins s σ H xs us Q I r h;obtain⟨p,ys,rfl,hq,q⟩:=h;obtain⟨u,rfl,rx⟩:=vals1 r;cases rx;have fin:∀(its:List Value),Vals ys its->ys.length≤sizeLine->∀(h':Heap) (c':Nat),(∀b o',s.heap.get? b=some o'->h'.get? b=some o') ->
   h'.get? s.heap.objs.size=some { cls:=.type "list",dict:=none,data:=.seq its.toArray c',slots:=#[] }->EP X pins σ Q (.ref s.heap.objs.size) { s with heap:=h' }:=fun its r' hz h' c' kp e =>
  ⟨.ref s.heap.objs.size,_,I.laid (t':=s.toks) kp (JW _) (show bg X.prog X.w _ h' _ (.lst ys)from⟨hz,its,c',r',e⟩),rfl,q _ (I.hok.fresh (JW _))⟩
 rcases hq with hq | hq
 ·obtain⟨its,r',pl,hz⟩:=I.list hq;have hlen:=r'.length;obtain⟨o,ho,hc,n,hd⟩:=pl.isList;exact call_list_seq p (.inl rfl) ho hc hd (fun h' c' kp e=>fin its r' hz h' c' kp e) (by simp only[Kb]<;>omega)
 ·obtain⟨its,r',pl,hz⟩:=I.tuple hq;have hlen:=r'.length;obtain⟨o,ho,hc,n,hd⟩:=pl;exact call_list_seq p (.inr rfl) ho hc hd (fun h' c' kp e=>fin its r' hz h' c' kp e) (by simp only[Kb]<;>omega)
theorem aH:cj X (.type "tuple") (fun xs H Q=>∃p ys,xs=[.ref p]/\((SqL X.K H p ys/\∀l,H l=none->Q (.ref l) (upd H l (.tup ys)))∨(SqT X.K H p ys/\Q (.ref p) H))):=by
 intro pins s σ H xs us Q I r h;obtain⟨p,ys,rfl,h⟩:=h;obtain⟨u,rfl,rx⟩:=vals1 r;cases rx;rcases h with⟨hq,q⟩ |⟨hq,q⟩
 ·obtain⟨its,r',pl,hz⟩:=I.list hq;have hlen:=r'.length;refine call_tuple_list pl.isList (fun h' kp=>?_) (by simp only[Kb]<;>omega);have I1:Inv X pins σ H { s with heap:=h' }:=I.kept (t':=s.toks) kp;have I2:Inv X pins σ (upd H h'.objs.size (.tup ys)) { s with heap:=h'.push { cls:=.type "tuple",data:=.seq its.toArray } } :=
   I1.laid (t':=s.toks) (fun b o e=>JR _ e) (JW _) (show bg X.prog X.w _ _ _ (.tup ys)from⟨hz,its,r',IsTup.new _ _⟩)
  exact⟨.ref h'.objs.size,_,I2,rfl,q _ (I1.hok.fresh (JW _))⟩
 ·obtain⟨its,r',pl,hz⟩:=I.tuple hq;exact call_tuple_same pl ⟨.ref p,H,I,rfl,q⟩
def tyV(K:LFr)(T:String)(x:V)(H:Hp):Prop:=match x with
 | .str _=>T="str"
 | .int _=>T="int"
 | .ref p=>(T="list"/\∃xs,SqL K H p xs)∨(T="tuple"/\∃o,K.lookup p=some o/\o.cls=.type "tuple"/\o.dict=none) ∨
   (T="dict"/\((∃kvs,H p=some (.dK kvs))∨∃kvs,H p=some (.dT kvs)))∨(T="set"/\∃S n,H p=some (.set S n))
 | _=>False
theorem Bf{σ:St}(I:Inv X pins σ H s)(r:RelV x v)(ty:tyV X.K T x H) :
  s.TypeIs v T/\∀a,v=.ref a->∃ob,s.heap.get? a=some ob/\ob.dict=none:=by
 cases x with
 | str z =>
  obtain⟨t,rfl⟩:=r;cases (show T="str" from ty);exact⟨typeIs_str s z t,fun _ e=>nomatch e⟩
 | int i =>
  obtain⟨t,rfl⟩:=r;cases (show T="int" from ty);exact⟨typeIs_int s i t,fun _ e=>nomatch e⟩
 | ref p =>
  cases r;rcases ty with⟨rfl,xs,hq⟩ |⟨rfl,o,hk,hc,hd⟩ |⟨rfl,hk⟩ |⟨rfl,S,n,hk⟩
  ·obtain⟨its,_,pl,_⟩:=I.list hq;refine⟨pl.isList.typeIs,fun a e=>?_⟩;cases e;obtain⟨o,n,e,c,hd,_⟩:=pl;exact⟨o,e,hd⟩
  ·refine⟨⟨o,I.kIn p o hk,hc⟩,fun a e=>?_⟩;cases e;exact⟨o,I.kIn _ o hk,hd⟩
  ·have z:∃o,s.heap.get? p=some o/\o.ExactDict:=by
    rcases hk with⟨kvs,hk⟩ |⟨kvs,hk⟩
    ·obtain⟨_,_,_,_,o,_,_,e,ex,_⟩:=I.hok p _ hk;exact⟨o,e,ex⟩
    ·obtain⟨_,_,_,_,o,_,_,e,ex,_⟩:=I.hok p _ hk;exact⟨o,e,ex⟩
   obtain⟨o,e,ex⟩:=z;refine⟨⟨o,e,ex.1⟩,fun a e2=>?_⟩;cases e2;exact⟨o,e,ex.2.1⟩
  ·obtain⟨o,_,_,_,e,ex,_⟩:=I.hok p _ hk;refine⟨⟨o,e,ex.1⟩,fun a e2=>?_⟩;cases e2;exact⟨o,e,ex.2.1⟩
 | _=>exact False.elim ty
def tBM(K:LFr)(T:String)(r:V->List V->Hp->VK->Prop)(to:TE)(t:TA):TE:=fun σ H Q=>to σ H fun x H1=>tyV K T x H1/\t σ H1 fun xs H2=>r x xs H2 Q
variable {o e:Expr}{es:List Expr}{to:TE}{t:TA}{name:Str}{apos cpos:Pos}{T id:String}{r:V->List V->Hp->VK->Prop}
theorem Du(pa:PlainAttrs T)(slot:Slot T name id)(hty:typeOf (.builtin id)=pure (.type "method_descriptor"))(hm:MtR X id r)(ho:PE X o to)(ha:PA X (e::es) t)
  (hbase:attributeBase o name X.env (eval o X.env)=eval o X.env:=by rfl)
  (hfew:((backTo cpos (starEach (e::es) X.env)).all (fun x=>!x.1)&&(backToKw cpos (keywordEach [] X.env)).all (fun x=>x.1.isSome)
   && decide ((e::es).length+([]:List Keyword).length+(if ([]:List Keyword).isEmpty then 0 else 1)<30))=true:=by rfl)
  (hline:(apos.endLine==cpos.line)=true:=by rfl) (hs:starEach (e::es) X.env=(false,eval e X.env)::starEach es X.env:=by rfl) (hplain:(backTo cpos (starEach es X.env)).any (·.1)=false:=by rfl) :
  PE X (.Call (.Attribute o name apos) (e::es) [] cpos) (tBM X.K T r to t):=by
 intro pins s σ H Q I h;refine wpAny_Call_method_late hbase hfew hline rfl (thn (ho pins s σ H _ I h) fun v s1 y_=>?_);obtain⟨x,H1,I1,r1,ty,q1⟩:=y_;obtain⟨h1,h2⟩:=Bf I1 r1 ty;refine⟨T,id,pa,slot,hty,h1,h2,?_⟩;have hA:=ha cpos pins s1 σ H1 _ I1 q1;rw[hs]at hA ⊢;refine Calls.callWith_builtin (by show(false||(backTo cpos (starEach es X.env)).any (·.1))=false;rw[hplain]<;>rfl) (Calls.evalArgs_plain ?_);exact thn hA fun us s2 ⟨vs,H2,I2,r2,q2⟩=>hm pins s2 σ H2 x vs v us Q I2 r1 r2 q2
end
end
section
def MtM(X:Cx)(id:String)(r:V->List V->Hp->VK->Prop):Prop :=
 ∀(pins:List (Addr×Obj)) (s:Shared) (σ:St) (H:Hp) (x:V) (xs:List V) (v:Value) (us:List Value) (Q:VK),Inv X pins σ H s->RelV x v->Vals xs us->r x xs H Q ->
  wpAny (model X.prog X.w) X.A (call (.builtin id) (v::us)) (EP X pins σ Q) X.xe s
theorem Vals.one:∀{x:V} {us:List Value},Vals [x] us->∃u,us=[u]/\RelV x u
 | _,_,.cons r .nil=>⟨_,rfl,r⟩
theorem Vals.dropLast(h:Vals xs us):Vals xs.dropLast us.dropLast:=by
 induction h with
 | nil=>exact .nil
 | cons r t ih =>
  cases t with
  | nil=>exact .nil
  | cons q t'=>exact .cons r ih
theorem Cz{α:Type}(l:List α):l.eraseIdx (l.length - 1)=l.dropLast:=by
 induction l with
 | nil=>rfl
 | cons a r ih =>
  cases r with
  | nil=>rfl
  | cons b r =>
   have e:(a::b::r).length - 1=((b::r).length - 1)+1:=by
    have h1:(a::b::r).length=r.length+2:=rfl;have h2:(b::r).length=r.length+1:=rfl;omega
   rw[e,List.eraseIdx_cons_succ,ih]
   all_goals rfl
section
variable {X:Cx}{pins:List (Addr×Obj)}{σ:St}{H:Hp}{s:Shared}{l b:Addr}{xs ys zs:List V}
theorem Inv.lset{its its':List Value}(I:Inv X pins σ H s)(hH:H l=some (.lst xs))
  (e:s.heap.get? l=some { cls:=.type "list",data:=.seq its.toArray n }) (hf:f its.toArray=its'.toArray) (hv:Vals ys its') (hz:ys.length≤sizeLine) :
  Inv X pins σ (upd H l (.lst ys)) { s with heap:=s.heap.update l (Obj.mapSeq f),toks:=t' }:=by
 have q:=PySem.IsL.update e f;rw[hf]at q;refine I.write (x:=l) (e:=l) (by rw[hH];exact trivial) (.inl rfl) (fun b' u hb hu=>(Heap.get?_update_other s.heap (Obj.mapSeq f) (Ne.symm hb)).trans hu) ⟨_,q⟩ ?_;exact⟨hz,its',_,hv,q⟩
theorem Inv.lnew(I:Inv X pins σ H s)(hv:Vals ys its)(hz:ys.length≤sizeLine) :
  Inv X pins σ (upd H s.heap.objs.size (.lst ys)) { s with heap:=s.heap.push { cls:=.type "list",data:=.seq its.toArray },toks:=t' } :=
 I.laid (fun _ _ q=>JR _ q) (JW _) ⟨hz,its,0,hv,JZ _ rfl⟩
theorem Inv.fresh(I:Inv X pins σ H s):H s.heap.objs.size=none:=I.hok.fresh (JW _)
theorem Inv.lstM(I:Inv X pins σ H s)(hH:H l=some (.lst xs)):xs.length≤sizeLine/\∃(its:List Value) (n:Nat),Vals xs its/\xs.length=its.length/\s.heap.get? l=some { cls:=.type "list",data:=.seq its.toArray n }:=by
 obtain⟨z,its,n,r,e⟩:=I.hok l _ hH;exact⟨z,its,n,r,r.length,e⟩
theorem tN(h:n≤sizeLine):Builtin.List.listTooLong n=false:=by
 unfold Builtin.List.listTooLong;exact Ld (by omega)
end
section
variable {X:Cx}
def pE:V->List V->Hp->VK->Prop:=fun x vs H Q=>∃l xs y,x=.ref l/\vs=[y]/\H l=some (.lst xs)/\xs.length<sizeLine/\Q .non (upd H l (.lst (xs++[y])))
theorem bJ:MtM X "list.append" pE:=by
 intro pins s σ H x vs v us Q I rx rv h;obtain⟨l,xs,y,rfl,rfl,hH,hz,q⟩:=h;cases rx;obtain⟨u,rfl,ru⟩:=rv.one;obtain⟨z,its,n,r,hl,e⟩:=I.lstM hH;refine call_meets F.slot_list_append ⟨_,e,rfl⟩ F.entry_list_append (F.args_list_append_2 _ _) (PySem.list_append l its.toArray n u (by rw[Kb];omega)) ⟨e,?_⟩;refine⟨.non,_,I.lset (its':=its++[u]) hH e (by simp) (r.append (.cons ru .nil)) ?_,rfl,q⟩;rw[J2,LD];omega
def pj:V->List V->Hp->VK->Prop:=fun x vs H Q=>∃l b xs zs,x=.ref l/\vs=[.ref b]/\H l=some (.lst xs)/\H b=some (.lst zs)/\xs.length+zs.length≤sizeLine/\Q .non (upd H l (.lst (xs++zs)))
theorem kg:MtM X "list.extend" pj:=by
 intro pins s σ H x vs v us Q I rx rv h;obtain⟨l,b,xs,zs,rfl,rfl,hH,hB,hz,q⟩:=h;cases rx;obtain⟨u,rfl,ru⟩:=rv.one;cases ru;obtain⟨z,its,n,r,hl,e⟩:=I.lstM hH;obtain⟨z2,its2,n2,r2,hl2,e2⟩:=I.lstM hB;have hsz:its.toArray.size+its2.toArray.size≤sizeLine:=by rw[Kb,Kb];omega
 have hlong:¬(!its.toArray.isEmpty&&Builtin.List.listTooLong (its.toArray.size+its2.toArray.size))=true:=by
  rw[tN hsz,Bool.and_false];exact L1
 refine call_meets F.slot_list_extend ⟨_,e,rfl⟩ F.entry_list_extend (F.args_list_extend_2 _ _)
  (AutoSeq1.list_extend_list_list_0 l its.toArray n b its2.toArray n2 hlong (by rw[Kb];omega) (by omega)) ⟨e,e2,?_⟩
 refine⟨.non,_,I.lset (its':=its++its2) hH e (by simp) (r.append r2) ?_,rfl,q⟩;rw[J2];omega
def DL:R2:=fun x y H Q=>∃l b xs zs,x=.ref l/\y=.ref b/\H l=some (.lst xs)/\H b=some (.lst zs)/\xs.length+zs.length≤sizeLine/\∀p,H p=none->Q (.ref p) (upd H p (.lst (xs++zs)))
theorem A9:OpR X (binaryOp .Add) DL:=by
 intro pins s σ H x y v u Q I rx ry h;obtain⟨l,b,xs,zs,rfl,rfl,hH,hB,hz,q⟩:=h;cases rx;cases ry;obtain⟨z,its,n,r,hl,e⟩:=I.lstM hH;obtain⟨z2,its2,n2,r2,hl2,e2⟩:=I.lstM hB;refine PySem.P.add_list e e2 ?_ (by rw[Kb,Kb];omega);have ea:its.toArray++its2.toArray=(its++its2).toArray:=by simp
 rw[ea];exact⟨.ref _,_,I.lnew (t':=s.toks) (r.append r2) (by rw[J2];omega),rfl,q _ I.fresh⟩
end
section
variable {prog:Program}{w:World}{A:Around}{E:Value->Shared->Prop}{s:Shared}
end
section
variable {X:Cx}
end
end
end L2
namespace Att
open PySem.W PySem.Calls
theorem hW:∀(ns:List Int) (vs:List Value),WellAll P h vs (ns.map WData.int)->IntsAre vs ns:=by
 intro ns
 induction ns with
 | nil =>
  intro vs w;rw[Lc]at w;cases w;exact .nil
 | cons n ns ih =>
  intro vs w;rw[Kc]at w;cases w with
  | cons a b =>
   cases a;exact .cons _ _ (ih _ b)
theorem rD{l:OpenLaw}(hn:l.most=some n){P:Params}{h:Heap}{args:List WData}{vals:List Value}
  (hpre:l.row.toRowW.claim.pre args=true) (hwl:WellAll P h vals args) :
  ∃a vs ns,vals=[Value.ref a]/\args=[WData.list (ns.map WData.int)]/\h.get? a=some { cls:=.type "list",data:=.seq vs.toArray }/\IntsAre vs ns/\ns.length≤n:=by
 have hsh:WShape.hasAll [] args [.list .int]=true:=(pre_splitW hpre).1;have hc:l.pre.holds [] { args:=args }=true:=(pre_splitW hpre).2;obtain⟨d,r,rfl,h1,h2⟩:=hasAllW_cons hsh;obtain rfl:=hasAllW_nil h2;obtain⟨xs,rfl,h3⟩:=hasW_list h1;obtain⟨ns,rfl⟩:=items_int h3;have hlen:ns.length≤n:=by
  unfold OpenLaw.pre at hc;have h4:(WTm.not (.lt (.lit (.int (n:Int))) (.len (.arg 0)))).holds [] { args:=[.list (ns.map .int)] }=true:=by
   have h4:=(holds_andW hc).1;rw[hn]at h4;exact h4
  have h5:=condW_of h4 (w_not (w_lt w_lit (w_len_list (w_arg rfl))));rw[JN]at h5;refine Nat.le_of_not_lt fun q=>?_;have q':(n:Int)<((ns.length:Nat):Int):=by omega
  first
   |(rw[Lq q']at h5;exact absurd h5 (by decide))
   |(simp at h5;omega)
 cases hwl with
 | cons w1 w2 =>
  cases w2;cases w1 with
  | list ho hall=>exact⟨_,_,ns,rfl,rfl,ho,hW ns _ hall,hlen⟩
theorem qZ(l:OpenLaw)(args:List WData):l.row.toRowW.claim.post args (.bool true) args=true :=
 postW_of (r:=l.row.toRowW) (X:=(true==true))
  (show WShape.has [] (.bool true) .bool=true by first | rfl | decide | simp[WShape.has,WShape.arms,WShape.armsAll])
  (show(WTm.eq .res (.lit (.bool true))).value [] { args:=args,res:=some (.bool true),after:=args }=some (.bool (true==true))from w_eq_bool (w_res rfl) w_lit) rfl
theorem lN{l:OpenLaw}
  (hn:l.most=some n) (hdf:d.params.defaults=[])
  (call:∀(w:World) (s₀ s₁:Shared) (mg mb:Str->Option Value) (fa:Addr) (o:Obj) (pm cd doc:Value) (a:Addr) (vs:List Value) (ns:List Int),
   Ground q loose [] XP w s₀ mg mb s₁.heap->YP w s₁.heap ->
   s₁.heap.get? fa=some o->o.data=.func (docDef d.name d.params d.body d.scope pm cd doc)->s₁.heap.CodeRec cd d.name->mg d.name=some (.ref fa) ->
   s₁.heap.get? a=some { cls:=.type "list",data:=.seq vs.toArray }->IntsAre vs ns->ns.length≤n->s₁.gens=#[] ->
   codeAny (model l.prog w) callerA (.call (.ref fa) ⟨[.ref a],[]⟩) (fun r s'=>r=.ok (.ret (.bool true))/\OldK s₁.heap s'.heap/\s'.os=s₁.os/\AllBare s'.gens) s₁) :
  WalkO q loose XP YP l.row.toRowW d [] (fun f vs=>PySem.call f vs):=by
 intro w s₀ s₁ mg mb G Y fa o pm cd doc dV kV ho hd hcd hD hmg hg args vals as hpre hlay hrd hwl hlo;obtain rfl:dV=.none:=Dflts.none hD hdf;obtain rfl:kV=.none:=Dflts.noKw hD;obtain⟨a,vs,ns,rfl,rfl,hobj,hints,hlen⟩:=rD hn hpre hwl;refine enter_call (codeAny_mono (call w s₀ s₁ mg mb fa o pm cd doc a vs ns G Y ho (fd_plain hd) hcd hmg hobj hints hlen hg) fun r s' hq=>?_);obtain⟨rfl,h2,h3,h4⟩:=hq;exact⟨.inl ⟨.bool true,.bool true,[],rfl,fun _=>rfl,.bool true,qZ l _,fun _=>⟨List.Pairwise.nil,fun _ hm=>(nomatch hm)⟩⟩,h2,h3,h4⟩
section
variable {prog:Program}{w:World}{A:Around}{E:Value->Shared->Prop}{s:Shared}{K:Frag}
def ledger(h:Heap)(L d:Addr):List (Addr×Obj):=(List.range h.objs.size).filterMap fun a=>if a=L∨a=d then none else(h.get? a).map fun o=>(a,o)
end
end Att
namespace L2
section
theorem jG:∀{vs:List Value} {ns:List Int},IntsAre vs ns->Vals (ns.map V.int) vs
 | _,_,.nil=>.nil
 | _,_,.cons n t h=>.cons ⟨t,rfl⟩ (jG h)
def rj(H:Hp):Prop:=∀b,H b=none∨∃o xs,H b=some (.frz o (.lst xs))
theorem tq{K:LFr}
  (KX:K.In s₁.heap) (hns:s₁.heap.Ns mainGlobals mg) (hb:s₁.heap.Ns builtinsNs mb) (hbb:∀x:Str,x≠"__name__"->mb x=bootBuiltins x) (hlim:s₁.heap.NoLimit) (hg:s₁.gens=#[])
  (ha:s₁.heap.get? a=some { cls:=.type "list",data:=.seq vs.toArray }) (hi:IntsAre vs ns) (hl:ns.length≤sizeLine) (hr:b9 k callerA)
  (F:∀base:Heap,K.In base->base.Ns mainGlobals mg->eW P w K mg base CX k fa fd [x] sp) (hbind:∀(s:Shared) (u:Value),BindsTo s fd ⟨[u],[]⟩ [(x,u)])
  (hsp:∀H:Hp,rj H->SqL K H a (ns.map V.int)->sp [.ref a] H (fun v _=>v=.bl true) fun _ _ _=>False)
  (hCX:∀H e s',CX [] H s₁ (fun _ _ _=>False) e s'->False) :
  codeAny (model P w) callerA (.call (.ref fa) ⟨[.ref a],[]⟩) (fun r s'=>r=.ok (.ret (.bool true))/\OldK s₁.heap s'.heap/\s'.os=s₁.os/\AllBare s'.gens) s₁:=by
 have rv:=jG hi;have lenV:=hi.length;have core:∀H:Hp,rj H->SqL K H a (ns.map V.int)->HOk P w H s₁.heap->(∀b,H b≠none->b=a)->(H a≠none->K.lookup a=none) ->
   codeAny (model P w) callerA (.call (.ref fa) ⟨[.ref a],[]⟩) (fun r s'=>r=.ok (.ret (.bool true))/\OldK s₁.heap s'.heap/\s'.os=s₁.os/\AllBare s'.gens) s₁:=by
  intro H hO hS hok hA hK;have base_of:∀{b:Addr} {o:Obj},s₁.heap.get? b=some o->H b=none->(kM s₁.heap H).get? b=some o:=fun e n=>sv e n;have noA:∀{b:Addr} {o:Obj} {es:Array DictEntry} {ep:Nat},s₁.heap.get? b=some o->o.data=.dict es ep->H b=none:=fun {b o es ep} e d=>by
   cases q:H b with
   | none=>rfl
   | some u =>
    have e':b=a:=hA b (by rw[q];simp);subst e';rw[ha]at e;cases e;have d':Data.seq vs.toArray _=Data.dict es ep:=d;cases d'
  have nsK:∀{b:Addr} {m:Str->Option Value},s₁.heap.Ns b m->(kM s₁.heap H).Ns b m:=fun {b m} ⟨o,es,ep,e,d,r⟩=>⟨o,es,ep,base_of e (noA e d),d,r⟩;have hKb:K.In (kM s₁.heap H):=fun b o e=>base_of (KX b o e) (by
   cases q:H b with
   | none=>rfl
   | some u =>
    have e':b=a:=hA b (by rw[q];simp);subst e';rw[hK (by rw[q];simp)]at e;cases e)
  have hM:Mod K mg (kM s₁.heap H):=⟨hKb,nsK hns,⟨mb,nsK hb,hbb⟩,let ⟨mc,h1,h2⟩:=hlim;⟨mc,nsK h1,h2⟩⟩;have e0:nL P w K mg (kM s₁.heap H) callerA [] s₁ H:=⟨rfl,hM,fun b o e=>yj e,Nat.le_of_eq (rE _ _),trivial,fun b hb=>absurd (show b∈([]:List Addr)from hb) (by simp),hok,.of_eq hg⟩;refine codeAny_mono ((F _ hKb (nsK hns)).run callerA [] s₁ H ⟨[.ref a],[]⟩ [.ref a] [.ref a] _ _ hr e0 (hbind s₁ (.ref a)) (.cons rfl .nil) (hsp H hO hS)) fun r s' h=>?_;cases r with
  | error e=>exact(hCX H e s' h).elim
  | ok fl =>
   cases fl with
   | next=>exact False.elim h
   | brk=>exact False.elim h
   | cont=>exact False.elim h
   | ret u =>
    obtain⟨v,H',os,bare,un,hok',r',q⟩:=h;have q':v=.bl true:=q;subst q';obtain rfl:u=Value.bool true:=r';refine⟨rfl,OldK.of_keep fun b o e=>?_,os,bare⟩;cases q:H b with
    | none=>exact un.keep b o e q (by intro z;exact absurd (show b∈([]:List Addr)from z) (by simp)) (by simp)
    | some u =>
     rcases hO b with z |⟨ob,xs,z⟩
     ·rw[q]at z;cases z
     ·have z2:=un.frzs b ob _ z;obtain⟨e1,_⟩:=hok b _ z;obtain⟨e2,_⟩:=hok' b _ z2;rw[e]at e1;cases e1;exact e2
 cases hk:K.lookup a with
 | some o =>
  have e:=KX a o hk;rw[ha]at e;cases e;refine core (fun _=>none) (fun _=>.inl rfl) (.inr ⟨_,vs.toArray,_,hk,rfl,rfl,rfl,by rw[Kb,lenV];exact hl,by simpa using rv⟩) (fun b u z=>by have z':(none:Option HO)=some u:=z;cases z') (fun b z=>absurd rfl z) fun z=>absurd rfl z
 | none =>
  refine core (fun b=>if b=a then some (.frz { cls:=.type "list",data:=.seq vs.toArray } (.lst (ns.map V.int)))else none) (fun b=>?_) (.inl (.inr ⟨{ cls:=.type "list",data:=.seq vs.toArray },Kw rfl⟩)) (fun b u z=>?_) (fun b z=>?_) fun _=>hk
  ·by_cases hb:b=a
   ·exact .inr ⟨_,_,Kw hb⟩
   ·exact .inl (Kq hb)
  ·by_cases hb:b=a
   ·have z':=(Kw hb).symm.trans z;cases z';subst hb;exact⟨ha,by rw[JN];exact hl,vs,_,rv,ha⟩
   ·have z':=(Kq hb).symm.trans z;cases z'
  ·by_cases hb:b=a
   ·exact hb
   ·exact absurd (Kq hb) z
end
section
abbrev KOf{K:LFr}{h:Heap}(_:K.In h):LFr:=K
theorem oY{l:PySem.W.OpenLaw}{K:Params->LFr}{CX:World->CXT}{sp:World->Sp}
  (hn:l.most=some n) (hn2:n≤sizeLine) (hdf:d.params.defaults=[]) (hr:b9 k callerA)
  (hY:∀(w:World) (h:Heap),YP w h->(K w.params).In h)
  (F:∀(w:World) (mg:Str->Option Value) (fa:Addr) (h:Heap),(K w.params).In h->h.Ns mainGlobals mg->mg d.name=some (.ref fa) ->
   ∃fd:FuncData,(∀(s:Shared) (u:Value),BindsTo s fd ⟨[u],[]⟩ [(x,u)]) /\
    ∀base:Heap,(K w.params).In base->base.Ns mainGlobals mg->eW l.prog w (K w.params) mg base (CX w) k fa fd [x] (sp w))
  (hsp:∀(w:World) (H:Hp) (a:Addr) (ns:List Int),ns.length≤n->rj H->SqL (K w.params) H a (ns.map V.int)->sp w [.ref a] H (fun v _=>v=.bl true) fun _ _ _=>False)
  (hCX:∀(w:World) (H:Hp) (s:Shared) (e:Value) (s':Shared),CX w [] H s (fun _ _ _=>False) e s'->False) :
  PySem.W.WalkO q loose XP YP l.row.toRowW d [] (fun f vs=>PySem.call f vs):=by
 refine Att.lN hn hdf fun w s₀ s₁ mg mb fa o pm cd doc a vs ns G Y ho hd hcd hmg hobj hints hlen hg=>?_;have KX:=hY w _ Y;obtain⟨fd,hb,hF⟩:=F w mg fa _ KX G.T.g hmg;exact tq KX G.T.g G.T.b G.T.builtins G.T.nolimit hg hobj hints (Lv hlen hn2) hr hF hb (fun H hO hS=>hsp w H a ns hlen hO hS) fun H e s'=>hCX w H s₁ e s'
theorem uj{l:PySem.W.OpenLaw}{K:Params->LFr}{sp:LFr->Sp}
  (hn:l.most=some n) (hn2:n≤sizeLine) (hdf:d.params.defaults=[]) (hr:b9 k callerA)
  (hY:∀(w:World) (h:Heap),YP w h->(K w.params).In h)
  (F:∀(w:World) (mg:Str->Option Value) (fa:Addr) (h:Heap),(K w.params).In h->h.Ns mainGlobals mg->mg d.name=some (.ref fa) ->
   ∃fd:FuncData,(∀(s:Shared) (u:Value),BindsTo s fd ⟨[u],[]⟩ [(x,u)]) /\
    ∀base:Heap,(K w.params).In base->base.Ns mainGlobals mg->eW l.prog w (K w.params) mg base CX k fa fd [x] (sp (K w.params)))
  (hsp:∀(K:LFr) (H:Hp) (a:Addr) (ns:List Int),ns.length≤n->rj H->SqL K H a (ns.map V.int)->sp K [.ref a] H (fun v _=>v=.bl true) fun _ _ _=>False)
  (hCX:∀(H:Hp) (s:Shared) (e:Value) (s':Shared),CX [] H s (fun _ _ _=>False) e s'->False) :
  PySem.W.WalkO q loose XP YP l.row.toRowW d [] (fun f vs=>PySem.call f vs) :=
 oY (K:=K) (CX:=fun _=>CX) (sp:=fun w=>sp (K w.params)) hn hn2 hdf hr hY F (fun w H a ns h1 h2 h3=>hsp (K w.params) H a ns h1 h2 h3) fun _ H s e s'=>hCX H s e s'
end
section
def inClass(s:Stmt)(j:Nat):Stmt:=match s with
 | .ClassDef _ _ _ body _ _ _ _ _ _ _=>body.getD j (.Pass ⟨0,0,0,0⟩)
 | _=>.Pass ⟨0,0,0,0⟩
def iq(s:Stmt):Arguments:=match s with
 | .FunctionDef _ a _ _ _ _ _ _ _ _=>a
 | _=>{ posonlyargs:=[],args:=[],vararg:=none,kwonlyargs:=[],kw_defaults:=[],kwarg:=none,defaults:=[] }
def eJ(s:Stmt):List Stmt:=match s with
 | .FunctionDef _ _ b _ _ _ _ _ _ _=>b
 | _=>[]
def av(s:Stmt):Scope:=match s with
 | .FunctionDef _ _ _ _ _ _ sc _ _ _=>sc
 | _=>{ kind:=.function,names:=[],isGenerator:=false,isCoroutine:=false }
abbrev CX0:CXT:=fun _ _ _ _ _ _=>False
abbrev E0:XK:=fun _ _ _=>False
theorem pH:Passes CX0 X E0:=fun _ _ _ _ _ _ _ h=>h.elim
structure Fun (K:LFr) (x qual:Str) (st:Stmt) (f:Addr) (fd:FuncData):Prop where
 ex:∃(oc:Value) (od:Option Addr) (kV doc pm:Value) (an:Option Addr) (cdv ct:Value) (osl:Array (Option Value)),
  fd=PySem.W.fnOf x qual (iq st) (eJ st) (av st) .none kV doc pm an cdv ct/\K.lookup f=some ⟨oc,od,.func fd,osl⟩/\PySem.W.codeIn K cdv qual=true
 kp:PySem.W.keepIn K (.ref f)=true
section
variable {P:Program}{w:World}{K:LFr}{mg:Str->Option Value}{base:Heap}
theorem Fun.ok{st:Stmt}(F:Fun K x qual st f fd)(S:ay N ps (av st))(len:∀vs H Q E,sp vs H Q E->vs.length=ps.length)
  (hbody:∀(cdv:Value) (A:Around) (outer:List Env) (s:Shared) (H:Hp) (vs:List V) (Q:VK) (E:XK),b9 k (A.deeper (envOfC qual (av st) s.heap.objs.size f cdv))->sp vs H Q E ->
   ∃t,PSs (nM CX0 P w K mg base N qual (av st) f cdv A outer s H E).nox (eJ st) t/\t { nx:=fun _ H'=>Q .non H',rt:=Q } (start N vs) H):eW P w K mg base CX0 (k+1) f fd ps sp:=by
 obtain⟨oc,od,kV,doc,pm,an,cdv,ct,osl,rfl,lk,hcd⟩:=F.ex;refine Fp lk hcd S len fun A outer s H vs Q E hr hsp=>?_;obtain⟨t,h,q⟩:=hbody cdv A outer s H vs Q E hr hsp;exact⟨t,h.nox,q⟩
theorem Fun.binds{st:Stmt}(F:Fun K x qual st f fd)
  (h:∀(kV doc pm:Value) (an:Option Addr) (cdv ct:Value) (us:List Value),us.length=ps.length->bindArgs (PySem.W.fnOf x qual (iq st) (eJ st) (av st) .none kV doc pm an cdv ct) ⟨us,[]⟩=pure (ps.zip us)):Binds K fd ps []:=by
 obtain⟨oc,od,kV,doc,pm,an,cdv,ct,osl,rfl,lk,hcd⟩:=F.ex;exact .all (h kV doc pm an cdv ct)
theorem Cd{st:Stmt}{kV doc pm cdv ct:Value}(l:K.lookup f=some ⟨oc,od,.func (PySem.W.fnOf x qual (iq st) (eJ st) (av st) .none kV doc pm an cdv ct),osl⟩)
  (c:PySem.W.codeIn K cdv qual=true) (k:PySem.W.keepIn K (.ref f)=true):Fun K x qual st f (PySem.W.fnOf x qual (iq st) (eJ st) (av st) .none kV doc pm an cdv ct):=⟨⟨oc,od,kV,doc,pm,an,cdv,ct,osl,rfl,l,c⟩,k⟩
end
theorem aO(h:n≤1000):n<sizeLine:=L4 h (by decide)
section
variable {X:Cx}
theorem pv(i:Nat){x:Str}{pos:Pos}(hN:X.N[i]?=some x:=by rfl)(hv:Vis X.env.scope x:=by first | exact Or.inl rfl | exact Or.inr (Or.inl rfl) | exact Or.inr (Or.inr rfl))(hd:(x==("__debug__":Str))=false:=by decide)
  (hcd:(x==("__classdict__":Str))=false:=by decide):PE X (.Name x pos) (F9 i):=C6 hN hv hd hcd
end
theorem ju{A B:Prop}(h:B):if false=true then A else B:=by
 rw[Kq L1];exact h
theorem jy{A B:Prop}(h:A):if true=true then A else B:=by
 rw[Kw rfl];exact h
def kz(H H':Hp):Prop:=∀b o,H b=some o->H' b=some o
end
end L2
set_option Elab.async false
namespace L2
section
variable {κ:Type}[DecidableEq κ]
def dW(kvs:List (κ×V))(k:κ):Option V:=(kvs.find? fun kv=>decide (kv.1=k)).map (·.2)
theorem gh{p:κ×V}{r:List (κ×V)}{k:κ}(e:p.1=k):dW (p::r) k=some p.2:=by simp[dW,Lu,e]
theorem fS{p:κ×V}{r:List (κ×V)}{k:κ}(e:¬p.1=k):dW (p::r) k=dW r k:=by simp[dW,Lu,e]
theorem f9.isSome_eq(r:f9 o u):o.isSome=u.isSome:=by
 cases o with
 | none=>cases u with
  | none=>rfl
  | some _=>exact(show False from r).elim
 | some _=>cases u with
  | none=>exact(show False from r).elim
  | some _=>rfl
theorem KV.val{kvs:List (κ×V)}{vs:List (κ×Value)}(r:KV kvs vs)(k:κ):f9 (dW kvs k) (valueAt vs k):=by
 unfold KV at r
 induction r with
 | nil=>exact True.intro
 | @cons p q ps qs h t ih =>
  obtain⟨h1,h2⟩:=h;by_cases e:p.1=k
  ·have e':q.1=k:=h1.symm.trans e;have b:valueAt (q::qs) k=some q.2:=by simp[valueAt,Lu,e']
   rw[gh e,b];exact h2
  ·have e':¬q.1=k:=fun z=>e (h1.trans z);have b:valueAt (q::qs) k=valueAt qs k:=by simp[valueAt,Lu,e']
   rw[fS e,b];exact ih
end
theorem zq(r:RelV (kV k) u):(cO P w).is k u=true:=by
 cases k with
 | inl i=>obtain⟨t,e⟩:=(show ∃t,u=Value.int i t from r);subst e;exact mH P w i t
 | inr x=>obtain⟨t,e⟩:=(show ∃t,u=Value.str x t from r);subst e;exact mh P w x t
theorem jF{P:Program}{w:World}:∀{ks:List Key} {us:List Value},Vals (ks.map kV) us->ItemsAre (cO P w) ks us
 | [],_,r=>by rw[Lc]at r;cases r;exact .nil
 | k::ks,_,r=>by
  rw[Kc]at r;cases r with
  | cons h t=>exact .cons (zq h) (jF t)
abbrev KT(H:Hp):List (List Key×V)->List (List Key×Addr×Value)->Prop:=Paired fun p q=>p.1=q.1/\H q.2.1=some (.tup (p.1.map kV))/\RelV p.2 q.2.2
theorem KT.val(r:KT H kvs xs)(k:List Key):f9 (dW kvs k) ((atKey xs k).map (·.2)):=by
 induction r with
 | nil=>exact True.intro
 | @cons p q ps qs h t ih =>
  obtain⟨h1,_,h2⟩:=h;by_cases e:p.1=k
  ·have e':q.1=k:=h1.symm.trans e;have b:atKey (q::qs) k=some q.2:=by simp[atKey,Lu,e']
   rw[gh e,b];exact h2
  ·have e':¬q.1=k:=fun z=>e (h1.trans z);have b:atKey (q::qs) k=atKey qs k:=by simp[atKey,Lu,e']
   rw[fS e,b];exact ih
section
variable {P:Program}{w:World}{H:Hp}{h:Heap}{a:Addr}
theorem zB(ok:HOk P w H h)(e:Rd H a u):bg P w H h a u:=e.ok ok
theorem Gf(ok:HOk P w H h)(e:Rd H a (.dK kvs)):kvs.length≤sizeLine/\(a==sysModules)=false/\∃vs,KV kvs vs/\h.DictOf (cO P w) a vs :=
 show bg P w H h a (.dK kvs)from zB ok e
theorem ud(ok:HOk P w H h)(e:H a=some (.tup (ks.map kV))):(tupleKind (cO P w)).is h ks a:=by
 obtain⟨_,its,r,o,h1,h2,n,h3⟩:=(show bg P w H h a (.tup (ks.map kV))from ok a _ e);exact⟨o,its.toArray,n,h1,h2,h3,by simpa using jF r⟩
theorem Ez(ok:HOk P w H h)(e:Rd H a (.dT kvs)):kvs.length≤sizeLine/\(a==sysModules)=false /\
  ∃xs,KT H kvs xs/\h.DictOfH (tupleKind (cO P w)) a xs:=by
 obtain⟨z,y,xs,r,o,es,ep,h1,h2,h3,h4,h5⟩:=(show bg P w H h a (.dT kvs)from zB ok e);refine⟨z,y,xs,r,o,es,ep,h1,h2,h3,h4,fun x hx=>?_,h5⟩;have all:∀{l:List (List Key×V)} {m:List (List Key×Addr×Value)},KT H l m->∀x∈m,(tupleKind (cO P w)).is h x.1 x.2.1:=by
  intro l m q
  induction q with
  | nil=>intro x hx;exact nomatch hx
  | @cons p q ps qs hq t ih =>
   intro x hx;rcases J7.mp hx with e | hx
   ·subst e;exact ud ok (by rw[←hq.1];exact hq.2.1)
   ·exact ih x hx
 exact all r x hx
end
def xx(H:Hp)(a:Addr)(y:V)(r:Option V):Prop :=
 (∃kvs k,Rd H a (.dK kvs)/\y=kV k/\r=dW kvs k)∨∃kvs k b,Rd H a (.dT kvs)/\y=.ref b/\H b=some (.tup (k.map kV))/\r=dW kvs k
theorem xx.k{k:Key}(e:H a=some (.dK kvs)):xx H a (kV k) (dW kvs k):=.inl ⟨kvs,k,.inl e,rfl,rfl⟩
section
variable {X:Cx}{pins:List (Addr×Obj)}{σ:St}{H:Hp}{s:Shared}{a:Addr}{y v:V}{u r:Value}{o:Option V}{A:Around}{E:Value->Shared->Prop}
theorem Inv.big(I:Inv X pins σ H s):sysModules<s.heap.objs.size:=by
 have h:mainGlobals<s.heap.objs.size:=(I.mod.glob.keeps I.bk).lt;exact Nat.lt_trans (by decide) h
theorem HP(hu:A.units+1<cLine)(I:Inv X pins σ H s)(g:xx H a y o)(ry:RelV y u)(h:∀s',Inv X pins σ H s'->Q (.bool o.isSome) s') :
  wpAny (model X.prog X.w) A (compareOp .In u (.ref a)) Q E s:=by
 rcases g with⟨kvs,k,e,ey,l⟩ |⟨kvs,k,b,e,ey,eb,l⟩
 ·subst ey;obtain⟨z,hd,vs,rel,dd⟩:=Gf I.hok e;refine wpAny_in_of (zq ry) hd dd.mapOf ?_;rw[←(rel.val k).isSome_eq,← l];exact h _ (I.tok _)
 ·subst ey;cases (show u=Value.ref b from ry);obtain⟨z,hd,xs,rel,dd⟩:=Ez I.hok e;refine wpAny_in_heap (tupleKind_room_in1 hu) (ud I.hok eb) hd dd ?_;have q:=(rel.val k).isSome_eq;rw[Option.isSome_map]at q;rw[←q,← l];exact h _ (I.tok _)
end
section
variable {X:Cx}{pins:List (Addr×Obj)}{σ:St}{H:Hp}{s:Shared}{a:Addr}{kvs:List (Key×V)}{k:Key}{u:Value}{A:Around}{E:Value->Shared->Prop}
end
def A0(i:Expr):Prop:=∀ov iv,subscripted i false ov iv=operate [ov,iv] (getItem ov iv)
theorem xM{T id:String}
  (hl:typeLookup (.type T) "__getitem__"=pure (some (.builtin id))) (hs:A0 slice)
  (h:wpAny (model prog w) A (eval value env) (fun o s₁=>wpAny (model prog w) A (eval slice env) (fun i s₂=>s₂.TypeIs o T/\wpAny (model prog w) A (getItem o i) Q E s₂) E s₁) E s) :
  wpAny (model prog w) A (eval (.Subscript value slice pos) env) Q E s:=by
 refine Subscript_ (LO h (fun o s₁ h₁=>LO h₁ (fun i s₂ h₂=>?_) fun _ _ x=>x) fun _ _ x=>x);obtain⟨hT,h₂⟩:=h₂;unfold subscriptTail;refine JP ?_;rw[getitemInPython_of_ne hT.not_modules];refine JP (wpAny_specialOf hT hl ?_);have fin:wpAny (model prog w) A (subscripted slice false o i) (fun r s₃=>wpAny (model prog w) A (letTemporaryGo value o r >>= fun _=>pure r) Q E s₃) E s₂:=by
  rw[hs o i];exact wpAny_operating (LO h₂ (fun r s₃ h₃=>JP (wpAny_letTemporaryGo (JT h₃))) fun _ _ x=>x)
 first
  | exact JT (JP fin)
  | exact JP (JT (JP fin))
  | exact JP fin
section
variable {X:Cx}{o i e value:Expr}{pos pos' tpos:Pos}{td ty tv:TE}
end
theorem sV(h:Heap)(hb:sysModules<h.objs.size):bg P w H (h.push { cls:=.type "dict",data:=.dict #[] }) h.objs.size (.dK []) :=
 ⟨Ll _,Lz.mpr (Ne.symm (Ki hb)),[],.nil,Heap.DictOf.new h⟩
def Cw:TE:=fun _ H Q=>∀p,H p=none->Q (.ref p) (upd H p (.dK []))
section
variable {X:Cx}{pos:Pos}
theorem uz:PE X (.Dict [] [] pos) Cw:=fun pins s σ H Q I h =>
 wpAny_Dict_empty ⟨.ref s.heap.objs.size,_,I.laid (a:=s.heap.objs.size) (o:=.dK []) (t':=s.toks) (fun _ _ q=>JR _ q) (JW _) (sV s.heap I.big),rfl,h _ (I.hok.fresh (JW _))⟩
end
end L2
set_option maxHeartbeats 4000000 -- own
namespace RD
open Sem (wp)
def At(h:Heap)(d:Addr)(es:Array DictEntry)(ep:Nat):Prop:=∃o,h.get? d=some o/\o.ExactDict/\o.data=.dict es ep
variable {prog:Program}{w:World}{A:Around}{E:Value->Shared->Prop}{s:Shared}{d it:Addr}{es:Array DictEntry}{ep i:Nat}
theorem At.ty(x:At s.heap d es ep):s.TypeIs (.ref d) "dict":=by
 obtain⟨o,g,c,_⟩:=x;exact⟨o,g,c.1⟩
theorem At.lt(x:At h d es ep):d<h.objs.size:=by
 obtain⟨o,g,_⟩:=x;exact J0 g
theorem At.to(x:At h d es ep)(k:∀o,h.get? d=some o->h'.get? d=some o):At h' d es ep:=by
 obtain⟨o,g,r⟩:=x;exact⟨o,k o g,r⟩
theorem iter(lo:(d==sysModules)=false)(m:At s.heap d es ep)(q:Q (.ref s.heap.objs.size) { s with heap:=s.heap.push { cls:=.type "dict_keyiterator",data:=.fields #[.ref d,.int 0 0,.int es.size 0,.int ep 0] } }) :
  wpAny (model prog w) A (PySem.pyIter (.ref d)) Q E s:=by
 have ty:=m.ty;obtain⟨o,g,c,g2⟩:=m;refine wpAny_pyIter_slot ty F.slot_dict_iter (KW F.slot_dict_iter ty F.entry_dict_iter ?_ (F.args_dict_iter_1 _));unfold Builtin.«dict.__iter__»;refine JP ?_;unfold Builtin.Dict.dictSlotNone;refine JP (wpAny_notOrdered_dict ty ?_);show wpAny _ _ (Pure.pure (Value.ref d)) _ _ s;refine JT ?_;show wpAny _ _ (Bind.bind (Builtin.Dict.showsAll d) _) _ _ s;unfold Builtin.Dict.showsAll;rw[Kq (by rw[lo];simp)];refine JP (JT (JP (Ln g g2 (JP (wpAny_dictEpoch g g2 ?_)))));refine JP (KO (JT ⟨_,rfl,"dict_keyiterator",_,⟨_,JZ s.heap rfl,rfl⟩,F.slot_dict_keyiterator_next.lookup,?_⟩));simpa[rawInt]using q
theorem item(t:s.heap.IsKeyIter it d i es.size ep)(m:At s.heap d es ep)(hi:i<es.size)(q:∀h',h'.IsKeyIter it d (i+1) es.size ep->Heap.SameBut it s.heap h'->Q (some es[i].key) { s with heap:=h' }) :
  wpAny (model prog w) A (PySem.pyNext (.ref it)) Q E s:=by
 obtain⟨o,g,c,g2⟩:=id t;obtain⟨od,gd,cd,gd2⟩:=id m;have ty:=t.typeIs;unfold pyNext;refine JP (wpAny_attempt (KU (name:=Str.ofString "__next__") ty F.slot_dict_keyiterator_next (KW F.slot_dict_keyiterator_next ty F.entry_dict_keyiterator_next ?_ (F.args_dict_keyiterator_next_1 _))));refine JP (JT (JP (JP ?_)))
 first | refine JP (wpAny_typeNameOfWhole_keyiter ty (JT ?_)) | refine JP (wpAny_typeNameOf_keyiter ty (JT ?_))
 refine JP (wpAny_fieldsOf g g2 ?_);simp only[show Builtin.Dict_items.ownsTuple "dict_keyiterator"=false by decide,Lh,LX];show wpAny _ _ (ite ((Value.ref d==Value.none)=true) _ _) _ _ s;rw[Kq (show ¬((Value.ref d==Value.none)=true) by simp)];refine JP (JT (JP (Ln gd gd2 ?_)));rw[Kq (by simp)];refine JP (JT (JP (wpAny_dictEpoch gd gd2 ?_)));rw[Kq (by simp)];refine JT ?_;simp only[show ¬((i:Int)<0) by omega,LX,Kk,Kf hi];refine JP ?_
 first | refine JP (wpAny_typeNameOfWhole_keyiter ty (JT ?_)) | refine JP (wpAny_typeNameOf_keyiter ty (JT ?_))
 refine JP (wpAny_isOneOf_keyiter ty ?_);show wpAny _ _ (Bind.bind (setField (.ref it) 1 (rawInt ((i:Int)+1))) _) _ _ s;refine JP (wpAny_setField g g2 (by simp) ?_);have t':(s.heap.update it (Obj.mapFields (·.setIfInBounds 1 (rawInt ((i:Int)+1))))).IsKeyIter it d (i+1) es.size ep:=⟨_,La _ g (Obj.isFreed_of_fields (L5 g2 _)),(Obj.cls_mapFields ..).trans c,by rw[L5 g2];simp[rawInt]⟩;refine JP (LG (JP (wpAny_isOneOf_keyiter (s:={ s with heap:=s.heap.update it (Obj.mapFields (·.setIfInBounds 1 (rawInt ((i:Int)+1)))) }) t'.typeIs ?_)));show wpAny _ _ (Pure.pure es[i].key) _ _ _;exact JT (JT ⟨_,rfl,JT (q _ t' (K0 ..))⟩)
theorem fin(hh:A.handled=none)(t:s.heap.IsKeyIter it d es.size es.size ep)(m:At s.heap d es ep)(q:∀h',Heap.ExtBut it s.heap h'->Q none { s with heap:=h' }):wpAny (model prog w) A (pyNext (.ref it)) Q E s:=by
 obtain⟨o,g,c,g2⟩:=id t;obtain⟨od,gd,cd,gd2⟩:=id m;have ty:=t.typeIs;unfold pyNext;refine JP (wpAny_attempt (KU (name:=Str.ofString "__next__") ty F.slot_dict_keyiterator_next (KW F.slot_dict_keyiterator_next ty F.entry_dict_keyiterator_next ?_ (F.args_dict_keyiterator_next_1 _))));refine JP (JT (JP (JP ?_)))
 first | refine JP (wpAny_typeNameOfWhole_keyiter ty (JT ?_)) | refine JP (wpAny_typeNameOf_keyiter ty (JT ?_))
 refine JP (wpAny_fieldsOf g g2 ?_);simp only[show Builtin.Dict_items.ownsTuple "dict_keyiterator"=false by decide,Lh,LX];show wpAny _ _ (ite ((Value.ref d==Value.none)=true) _ _) _ _ s;rw[Kq (show ¬((Value.ref d==Value.none)=true) by simp)];refine JP (JT (JP (Ln gd gd2 ?_)));rw[Kq (by simp)];refine JP (JT (JP (wpAny_dictEpoch gd gd2 ?_)));rw[Kq (by simp)];refine JT ?_;simp only[show ¬((es.size:Int)<0) by omega,LX,Kk,LJ (JW es.size)];refine JP ?_
 first | refine JP (wpAny_typeNameOfWhole_keyiter ty (JT ?_)) | refine JP (wpAny_typeNameOf_keyiter ty (JT ?_))
 show wpAny _ _ (Bind.bind (setField (.ref it) 0 .none) _) _ _ s;refine JP (wpAny_setField g g2 (by simp) ?_);show wpAny _ _ (Bind.bind (newExc (.type "StopIteration") []) _) _ _ _;refine JP ?_;simp only[newExc,newTuple];refine JP (KO (JP (m:=firstArgMember _ _) (wpAny_of_eq (a:=Value.none) (by first | rfl |(simp only[firstArgMember];rfl)) (KO ?_ (by size_fits)))) (by size_fits));simp only[raiseNew];refine JP (wpAny_handled ?_);rw[show A.in1.handled=none from hh];refine JP (JT (wpAny_throw ?_));refine JP (wpAny_isInstance (T:="StopIteration") (b:=true) ⟨_,JZ _ rfl,rfl⟩ isSubtype_stop ?_);exact JT (q _ (((K0 ..).extBut.push _).push _))
theorem walks(hh:A.handled=none)(I:Addr)(hne:d≠I):Walks prog w A I [I,d] [I] es.size (fun j v=>∃h:j<es.size,v=es[j].key) (fun j h=>h.IsKeyIter I d j es.size ep/\At h d es ep) where
 sub:=fun b hb=>by simp only[Ka]at hb;simp[hb]
 frame:=fun _ _ _ st hk=>⟨st.1.at fun o e=>hk I (by simp) o e,st.2.to fun o e=>hk d (by simp) o e⟩
 item:=fun j s Q E hi st hQ=>item st.1 st.2 hi fun h' t' hs=>hQ _ h' s.toks ⟨hi,rfl⟩ ⟨t',st.2.to fun o e=>hs.extBut d o hne e⟩ fun b o hb e=>hs.extBut b o (fun z=>hb (by simp[z])) e
 done:=fun s Q E st hQ=>fin hh st.1 st.2 fun h' he=>hQ h' s.toks fun b o hb e=>he b o (fun z=>hb (by simp[z])) e
 self:=fun _ _ _ _ st q=>wpAny_pyIter_keyiter st.1 q
theorem src(lo:(d==sysModules)=false):PySem.W.KdlSrc prog w "dict" d d es.size (fun j v=>∃h:j<es.size,v=es[j].key) (fun h=>At h d es ep) where
 type:=fun _ m=>m.ty
 there:=fun _ m=>⟨m.lt,m.lt⟩
 keep:=fun _ _ m k=>m.to fun o e=>k d (.inl rfl) o e
 notList:=by decide
 notTuple:=by decide
 hint:=fun _ _ _ _ m q=>PySem.W.kdl_hint_dict m.ty q
 iter:=fun _ _ hh m=>⟨_,_,(fun _ _ q=>iter lo m q),walks hh _ (Ki m.lt),⟨⟨_,JZ _ rfl,rfl,rfl⟩,m.to fun o e=>JR _ e⟩⟩
end RD
namespace L2
variable {X:Cx}{pins:List (Addr×Obj)}{σ:St}{H:Hp}{s:Shared}
abbrev fq(P:Program)(w:World):=tupleKind (intKind P w)
def bD(P:Program)(w:World)(a:Addr)(ks:List (List Int))(as:List Addr)(vs:List V)(ep:Nat):Heap->Prop:=fun h=>(a==sysModules)=false/\∃o es,∃xs:List (List Int×Addr×Value),h.get? a=some o/\o.ExactDict/\o.data=.dict es ep/\es.toList=xs.map (entryOfKey (fq P w))/\xs.map (·.1)=ks/\xs.map (·.2.1)=as/\Vals vs (xs.map (·.2.2))/\ks.Nodup
theorem bD.ok(n:bD P w a ks as vs ep h):bg P w H h a (.ext (bD P w a ks as vs ep)):=by
 refine⟨n,?_,?_⟩
 ·obtain⟨_,o,es,xs,ho,_⟩:=n;exact⟨o,ho⟩
 ·rintro h1 h2 ⟨hb,o,es,xs,ho,r⟩ k;exact⟨hb,o,es,xs,k o ho,r⟩
def qP(K:LFr)(H:Hp)(k:List Int)(a:Addr):Prop:=SqT K H a (k.map V.int)
theorem hG{prog:Program}{w:World}:∀{ns:List Int} {vs:List Value},Vals (ns.map V.int) vs->ItemsAre (intKind prog w) ns vs
 | [],_,.nil=>.nil
 | _::_,_,.cons h r=>by
  obtain⟨t,rfl⟩:=h;exact .cons (by simp[intKind,Value.isInt]) (hG r)
theorem qp(I:Inv X pins σ H s){k:List Int}{a:Addr}(hq:qP X.K H k a):(fq X.prog X.w).is s.heap k a:=by
 obtain⟨its,rv,p,_⟩:=I.tuple hq;have p':s.heap.IsTuple a its.toArray:=p;obtain⟨ot,hot,hct,nt,hdt⟩:=p';exact⟨ot,its.toArray,nt,hot,hct,hdt,hG rv⟩
def i0(K:LFr)(H:Hp)(ks:List (List Int))(as:List Addr):Prop:=Paired (qP K H) ks as
theorem t7(I:Inv X pins σ H s):∀{ks:List (List Int)} {as:List Addr} {xs:List (List Int×Addr×Value)},i0 X.K H ks as->xs.map (·.1)=ks->xs.map (·.2.1)=as->∀x∈xs,(fq X.prog X.w).is s.heap x.1 x.2.1:=by
 intro ks as xs
 induction xs generalizing ks as with
 | nil=>intro _ _ _ x hx;cases hx
 | cons y xs ih =>
  intro h e1 e2 x hx;cases h with
  | nil=>cases e2
  | cons h1 h2 =>
   simp only[Kc,List.cons.injEq]at e1 e2;rcases J7.mp hx with rfl | hx
   ·rw[e1.1,e2.1];exact qp I h1
   ·exact ih h2 e1.2 e2.2 x hx
theorem kK(I:Inv X pins σ H s){d:Addr}{ks:List (List Int)}{as:List Addr}{vs:List V}{ep:Nat}(hH:H d=some (.ext (bD X.prog X.w d ks as vs ep)))(hK:i0 X.K H ks as):(d==sysModules)=false/\ks.Nodup/\∃xs:List (List Int×Addr×Value),xs.map (·.1)=ks/\xs.map (·.2.1)=as/\Vals vs (xs.map (·.2.2))/\s.heap.DictOfH (fq X.prog X.w) d xs:=by
 obtain⟨hN,_,_⟩:=(show bg X.prog X.w H s.heap d (.ext (bD X.prog X.w d ks as vs ep))from I.hok d _ hH);obtain⟨hb,o,es,xs,ho,hc,hd,he,e1,e2,e3,nd⟩:=hN;exact⟨hb,nd,xs,e1,e2,e3,o,es,ep,ho,hc,hd,he,t7 I hK e1 e2,by rw[e1];exact nd⟩
theorem zI{ks:List (List Int)}{k:List Int}(e:xs.map (·.1)=ks):(atKey xs k).isSome=decide (k∈ks):=by
 have h:(atKey xs k).isSome=true↔k∈xs.map (·.1):=by
  unfold atKey;rw[Option.isSome_map,List.find?_isSome];constructor
  ·rintro⟨x,hx,q⟩;exact JU.mpr ⟨x,hx,LC q⟩
  ·intro q;obtain⟨x,hx,e⟩:=JU.mp q;exact⟨x,hx,Lq e⟩
 rw[Bool.eq_iff_iff,h,e,LR]
theorem vm:∀{xs:List (List Int×Addr×Value)} {ks:List (List Int)} {vs:List V} {k:List Int},xs.map (·.1)=ks->Vals vs (xs.map (·.2.2))->k∈ks->∃p v,atKey xs k=some p/\dW (ks.zip vs) k=some v/\RelV v p.2
 | [],_,_,_,rfl,_,h=>by cases h
 | x::xs,_,vs,k,rfl,r,h=>by
  cases r with
  | cons r1 r2 =>
   rename_i v1 vs;by_cases e:x.1=k
   ·refine⟨x.2,v1,?_,?_,r1⟩
    ·unfold atKey;simp[Lu,e]
    ·show dW ((x.1,v1)::_) k=_;exact gh e
   ·have h':k∈xs.map (·.1):=by
     rcases J7.mp h with q | q
     ·exact absurd q.symm e
     ·exact q
    obtain⟨p,v,a1,a2,a3⟩:=vm (vs:=vs) rfl r2 h';refine⟨p,v,?_,?_,a3⟩
    ·unfold atKey at a1 ⊢;simp[Lu,e];simpa using a1
    ·show dW ((x.1,v1)::_) k=_;rw[fS e];exact a2
def FZ(P:Program)(w:World)(K:LFr)(f:Bool->Bool):R2:=fun x y H Q=>∃a d k ks as vs ep,x=.ref a/\qP K H k a/\y=.ref d/\H d=some (.ext (bD P w d ks as vs ep))/\i0 K H ks as/\Q (.bl (f (decide (k∈ks)))) H
theorem sf(hu:X.A.units+64<cLine):OpR X (compareOp .NotIn) (FZ X.prog X.w X.K not):=by
 intro pins s σ H x y v u Q I rx ry h;obtain⟨a,d,k,ks,as,vs,ep,rfl,hk,rfl,hd,hK,q⟩:=h;cases rx;cases ry;obtain⟨hb,nd,xs,e1,e2,e3,hm⟩:=kK I hd hK;refine wpAny_notIn_heap (xs:=xs) (k:=k) (knd:=fq X.prog X.w) (tupleKind_room_in1 (by omega)) (qp I hk) hb hm ?_;rw[zI e1];exact⟨.bl _,H,I.tok _,rfl,q⟩
def Gu(P:Program)(w:World)(K:LFr):R2:=fun x y H Q=>∃d a k ks as vs ep,x=.ref d/\y=.ref a/\qP K H k a/\H d=some (.ext (bD P w d ks as vs ep))/\i0 K H ks as/\k∈ks/\∀v,dW (ks.zip vs) k=some v->Q v H
theorem xj(hu:X.A.units+64<cLine)(ho:PE X o td)(hi:PE X i ty)(hs:A0 i):PE X (.Subscript o i pos) (fun σ H Q=>td σ H fun x H1=>ty σ H1 fun y H2=>Gu X.prog X.w X.K x y H2 Q):=by
 intro pins s σ H Q I h;refine xM PySem.F.slot_dict_getitem.lookup hs (thn (ho pins s σ H _ I h) fun u s1 ⟨x,H1,I1,rx,q1⟩=>thn (hi pins s1 σ H1 _ I1 q1) fun iv s2 y_=>?_);obtain⟨y,H2,I2,ry,d,a,k,ks,as,vs,ep,ex,ey,hk,hd,hK,hm,q2⟩:=y_;subst ex;subst ey;cases rx;cases ry;obtain⟨hb,nd,xs,e1,e2,e3,hD⟩:=kK I2 hd hK;obtain⟨p,v,a1,a2,a3⟩:=vm e1 e3 hm;exact⟨hD.typeIs,wpAny_getItem_heap (knd:=fq X.prog X.w) (tupleKind_room_in1 (by omega)) (qp I2 hk) hD a1 ⟨v,H2,I2.tok _,a3,q2 v a2⟩⟩
def mq(ks:List (List Int))(vs:List V)(k:List Int)(v:V):List V:=(ks.zip vs).map fun p=>if p.1=k then v else p.2
def EK(P:Program)(w:World)(K:LFr):V->V->V->Hp->(Hp->Prop)->Prop:=fun o i v H Q=>∃d ks as vs ep k a,o=.ref d/\i=.ref a/\H d=some (.ext (bD P w d ks as vs ep))/\i0 K H ks as/\qP K H k a/\ks.length<1000/\∀ep',(k∈ks->Q (upd H d (.ext (bD P w d ks as (mq ks vs k v) ep'))))/\(k∉ks->Q (upd H d (.ext (bD P w d (ks++[k]) (as++[a]) (vs++[v]) ep'))))
theorem sF{xs:List (List Int×Addr×Value)}:(xs.map (putAt k v)).map (·.1)=xs.map (·.1)/\(xs.map (putAt k v)).map (·.2.1)=xs.map (·.2.1):=by
 rw[JY,JY];constructor<;>refine K1 fun x _=>?_<;>(unfold putAt;simp only[Function.comp];split<;>simp_all)
theorem mG{k:List Int}{v:V}{u:Value}(r:RelV v u):∀{xs:List (List Int×Addr×Value)} {vs:List V},Vals vs (xs.map (·.2.2))->Vals (mq (xs.map (·.1)) vs k v) ((xs.map (putAt k u)).map (·.2.2))
 | [],vs,h=>by cases h;exact .nil
 | x::xs,vs,h=>by
  cases h with
  | cons h1 h2 =>
   refine .cons ?_ (mG r h2);show RelV (if x.1=k then v else _) (putAt k u x).2.2;unfold putAt;by_cases e:x.1=k
   ·simp[e];exact r
   ·simp[e];exact h1
theorem An(hu:X.A.units+64<cLine):i8 X (EK X.prog X.w X.K):=by
 intro pins s σ H o i v ov iv u Q I ro ri rv h;obtain⟨d,ks,as,vs,ep,k,a,rfl,rfl,hH,hK,hk,hz,qq⟩:=h;cases ro;cases ri;obtain⟨hb,nd,xs,e1,e2,e3,hm⟩:=kK I hH hK;have lx:xs.length=ks.length:=by have:=congrArg List.length e1;simpa using this
 refine wpAny_setItem_heap (xs:=xs) (k:=k) (knd:=fq X.prog X.w) (tupleKind_room_in1 (by omega)) (qp I hk) hm (fun h' hm' hs'=>?_) (by rw[K3];omega);have ia:=zI (k:=k) e1;obtain⟨o',es',ep',ho',hc',hd',he',_,nd'⟩:=hm';by_cases hm:k∈ks
 ·obtain⟨p,hp⟩:=Option.isSome_iff_exists.mp (ia.trans (Lq hm));rw[storedH_old hp]at he';obtain⟨p1,p2⟩:=sF (xs:=xs) (k:=k) (v:=u);have p3:=mG (k:=k) rv e3;rw[e1]at p3;exact⟨_,I.write (x:=d) (e:=d) (o:=.ext (bD X.prog X.w d ks as (mq ks vs k v) ep')) (by rw[hH];exact trivial) (.inl rfl) (fun b u hb hu=>(hs'.2 b hb).trans hu) ⟨o',ho'⟩ (bD.ok ⟨hb,o',es',_,ho',hc',hd',he',p1.trans e1,p2.trans e2,p3,nd⟩),(qq ep').1 hm⟩
 ·have hp:atKey xs k=none:=by
   rw[Ld hm]at ia;exact Option.isSome_eq_false_iff.mp ia |> fun z=>by simpa using z
  rw[storedH_new hp]at he';refine⟨_,I.write (x:=d) (e:=d) (o:=.ext (bD X.prog X.w d (ks++[k]) (as++[a]) (vs++[v]) ep')) (by rw[hH];exact trivial) (.inl rfl) (fun b u hb hu=>(hs'.2 b hb).trans hu) ⟨o',ho'⟩ (bD.ok ⟨hb,o',es',_,ho',hc',hd',he',by simp[e1],by simp[e2],by rw[J9];exact e3.append (.cons rv .nil),?_⟩),(qq ep').2 hm⟩;exact List.nodup_append.mpr ⟨nd,by simp,fun x hx y hy e=>hm (by rw[Ka.mp hy]at e;rw[←e];exact hx)⟩
def Bx(P:Program)(w:World):TE:=fun _ H Q=>∀p,H p=none->Q (.ref p) (upd H p (.ext (bD P w p [] [] [] 0)))
theorem vq:PE X (.Dict [] [] pos) (Bx X.prog X.w):=fun pins s σ H Q I h =>
 wpAny_Dict_empty ⟨.ref s.heap.objs.size,_,I.laid (a:=s.heap.objs.size) (o:=.ext (bD X.prog X.w s.heap.objs.size [] [] [] 0)) (t':=s.toks) (fun _ _ q=>JR _ q) (JW _) (bD.ok ⟨Lz.mpr (Ne.symm (Ki I.big)),_,#[],[],JZ _ rfl,⟨rfl,rfl,rfl⟩,rfl,rfl,rfl,rfl,.nil,List.nodup_nil⟩),rfl,h _ (I.hok.fresh (JW _))⟩
theorem bD.raw(n:bD P w a ks as vs ep h):(a==sysModules)=false/\∃es,RD.At h a es ep/\es.toList.map (·.key)=as.map Value.ref/\Vals vs (es.toList.map (·.val))/\as.length=ks.length/\es.size=ks.length:=by
 obtain⟨lo,o,es,xs,ho,hc,hd,he,rfl,rfl,e3,_⟩:=n;refine⟨lo,es,⟨o,ho,hc,hd⟩,?_,?_,by simp,?_⟩
 ·rw[he,JY,JY];rfl
 ·rw[he,JY];exact e3
 ·rw[←KZ,he];simp
theorem i7:∀{as:List Addr},Vals (as.map V.ref) (as.map Value.ref)
 | []=>.nil
 | _::_=>.cons rfl i7
def vF(P:Program)(w:World):List V->Hp->VK->Prop:=fun xs H Q=>∃d ks as vs ep,xs=[.ref d]/\H d=some (.ext (bD P w d ks as vs ep))/\ks.length<1000/\∀r,H r=none->Q (.ref r) (upd H r (.lst (as.map V.ref)))
theorem iP(hc:X.calm=true):cj X (.type "list") (vF X.prog X.w):=by
 intro pins s σ H xs us Q I r h;obtain⟨d,ks,as,vs,ep,rfl,hH,hz,q⟩:=h;obtain⟨u,rfl,ru⟩:=Vals.one r;cases ru;obtain⟨hN,_,_⟩:=(show bg X.prog X.w H s.heap d (.ext (bD X.prog X.w d ks as vs ep))from I.hok d _ hH);obtain⟨lo,es,m,hk,hv,hl,hes⟩:=hN.raw;have e:es.size=as.length:=by omega
 refine PySem.W.kdl_call (RD.src lo) (I.ok.hd hc) m (by rw[K3];omega) fun h' tk acc c kp hS hacc=>?_;have hn:H s.heap.objs.size=none:=I.hok.fresh (JW _);have ea:acc.toList=as.map Value.ref:=by
  rw[←hk];apply List.ext_getElem?;intro j;rw[JV,Lb,Lb];by_cases hj:j<es.size
  ·have hj':j<acc.size:=by rw[hacc.1];exact hj
   obtain⟨_,ev⟩:=hacc.2 j acc[j] (Kf hj');rw[Kf hj',Kf hj,ev];rfl
  ·rw[LJ (by rw[hacc.1];omega),LJ (by omega)];rfl
 refine⟨.ref s.heap.objs.size,_,I.laid (t':=tk) (o:=.lst (as.map V.ref)) (fun b o e=>kp b o e) (JW _) ?_,rfl,q _ hn⟩;refine⟨by rw[JN,K3];omega,as.map Value.ref,c,i7,?_⟩;rw[hS,← ea]
def Ft(P:Program)(w:World)(d:Addr)(n ep:Nat):It :=
 ⟨fun i H=>(∃ks as vs,H d=some (.ext (bD P w d ks as vs ep))/\ks.length=n)/\i<n,fun i H x H'=>H'=H/\∀ks as vs,H d=some (.ext (bD P w d ks as vs ep))->∃b,as[i]?=some b/\x=.ref b,fun i H=>(∃ks as vs,H d=some (.ext (bD P w d ks as vs ep))/\ks.length=n)/\i=n⟩
theorem wB{K:LFr}(d it:Addr)(n ep:Nat):Turn P w K tg (Ft P w d n ep) [it] it (fun i h=>h.IsKeyIter it d i n ep) where
 mem:=Ka.mpr rfl
 obj:=fun i h st b hb=>by
  rw[Ka.mp hb];obtain⟨o,e,c,q⟩:=st;exact⟨o,e,fun v z=>by rw[q]at z;cases z⟩
 keep:=fun i h h' st k=>st.at fun o e=>k it (Ka.mpr rfl) o e
 item:=by
  intro X hP hw hK hc i pins s σ H E I hf st hg;subst hP hw hK;obtain⟨⟨ks,as,vs,hH,rfl⟩,hi⟩:=hg;have all:∀ks as vs,H d=some (.ext (bD X.prog X.w d ks as vs ep))->∃es,RD.At s.heap d es ep/\es.toList.map (·.key)=as.map Value.ref/\es.size=ks.length:=fun ks as vs hH=>by
   obtain⟨hN,_,_⟩:=(show bg X.prog X.w H s.heap d (.ext (bD X.prog X.w d ks as vs ep))from I.hok d _ hH);obtain⟨lo,es,m,hk,hv,hl,hes⟩:=hN.raw;exact⟨es,m,hk,hes⟩
  obtain⟨es,m,hk,hes⟩:=all ks as vs hH;obtain⟨f0,f1,f2,f3,f4,f5⟩:=hf it (Ka.mpr rfl);rw[←hes]at hi st;have key:∀as':List Addr,es.toList.map (·.key)=as'.map Value.ref->∃b,as'[i]?=some b/\es[i].key=.ref b:=fun as' q=>by
   have e1:(es.toList.map (·.key))[i]?=some es[i].key:=by rw[JV,Lb,Kf hi];rfl
   rw[q,JV]at e1;cases z:as'[i]? with
   | none=>rw[z]at e1;cases e1
   | some b=>rw[z]at e1;exact⟨b,rfl,(Ks e1).symm⟩
  refine RD.item st m hi fun h' st' sb=>?_;have I1:Inv X pins σ H { s with heap:=h' }:=I.turned (t':=s.toks) (fun b o hb e=>(sb.2 b hb).trans e) f0 f1 f3 f4 f5;obtain⟨o,e,c,dd⟩:=id st';obtain⟨b0,hb0,ek⟩:=key as hk;refine⟨es[i].key,rfl,mM (s:={ s with heap:=h' }) e c dd (by decide) ⟨.ref b0,H,I1,by rw[ek];rfl,⟨rfl,fun ks' as' vs' hH'=>?_⟩,by rw[←hes];exact st',fun b hb=>(hf b hb).1⟩⟩;obtain⟨es2,m2,hk2,hes2⟩:=all ks' as' vs' hH';obtain⟨o1,g1,_,d1⟩:=m;obtain⟨o2,g2,_,d2⟩:=m2;rw[g1]at g2;cases g2;rw[d1]at d2;cases d2;obtain⟨b,hb,ek2⟩:=key as' hk2;rw[ek]at ek2;exact⟨b,hb,by cases ek2;rfl⟩
 done:=by
  intro X hP hw hK hc i pins s σ H E I hf st hg;subst hP hw hK;obtain⟨⟨ks,as,vs,hH,rfl⟩,rfl⟩:=hg;obtain⟨hN,_,_⟩:=(show bg X.prog X.w H s.heap d (.ext (bD X.prog X.w d ks as vs ep))from I.hok d _ hH);obtain⟨lo,es,m,hk,hv,hl,hes⟩:=hN.raw;obtain⟨f0,f1,f2,f3,f4,f5⟩:=hf it (Ka.mpr rfl);rw[←hes]at st;exact RD.fin (I.ok.hd hc) st m fun h' eb=>⟨rfl,I.turned (t':=s.toks) (fun b o hb e=>eb b o hb e) f0 f1 f3 f4 f5⟩
 self:=fun _ _ _ _ _ st h=>wpAny_pyIter_keyiter st h
def iId(P:Program)(w:World)(tl:TE):TI:=fun σ H R=>tl σ H fun x H1=>∃d ks as vs ep,x=.ref d/\H1 d=some (.ext (bD P w d ks as vs ep))/\R (Ft P w d ks.length ep) H1
theorem Fv(hl:PE X l tl):PI X tg l (iId X.prog X.w tl):=by
 intro pins s σ H R I h;refine thn (hl pins s σ H _ I h) fun v s1 y_=>?_;obtain⟨x,H1,I1,r1,q1⟩:=y_;obtain⟨d,ks,as,vs,ep,e,hH,q⟩:=q1;subst e;cases r1;obtain⟨hN,_,_⟩:=(show bg X.prog X.w H1 s1.heap d (.ext (bD X.prog X.w d ks as vs ep))from I1.hok d _ hH);obtain⟨lo,es,m,hk,hv,hl,hes⟩:=hN.raw;refine RD.iter lo m ?_;refine⟨s1.heap.objs.size,[s1.heap.objs.size],_,_,H1,rfl,I1.kept (t':=s1.toks) fun b o e=>JR _ e,wB d _ ks.length ep,⟨_,JZ _ rfl,rfl,by rw[←hes];rfl⟩,fun b hb=>?_,q⟩;rw[Ka.mp hb];exact I1.fpOk (JW _) (I1.hok.fresh (JW _))
end L2
namespace RD
open Sem (wp)
variable {prog:Program}{w:World}{A:Around}{E:Value->Shared->Prop}{s:Shared}{d it v:Addr}{es:Array DictEntry}{ep i:Nat}
theorem view(lo:(d==sysModules)=false)(m:At s.heap d es ep){P:PySem.Fin->Shared->Prop}(q:P (.done (.ret (.ref s.heap.objs.size))) { s with heap:=s.heap.push { cls:=.type "dict_values",data:=.fields #[.ref d] } }) :
  wpAny (model prog w) A (Builtin.«dict.values» ⟨[.ref d],[]⟩) P E s:=by
 unfold Builtin.«dict.values»;refine JP ?_;unfold Builtin.Dict.noArgs;refine JP (wpAny_notOrdered_dict m.ty ?_);show wpAny _ _ (Pure.pure d) _ _ s;refine JT ?_;show wpAny _ _ (Bind.bind (Builtin.Dict.showsAll d) _) _ _ s;unfold Builtin.Dict.showsAll;rw[Kq (by rw[lo];simp)];exact JP (JT (JP (KO (JT q))))
theorem zK(t:s.heap.IsValuesView v d)(m:At s.heap d es ep)(q:Q (.ref s.heap.objs.size) { s with heap:=s.heap.push { cls:=.type "dict_valueiterator",data:=.fields #[.ref d,.int 0 0,.int es.size 0,.int ep 0] } }) :
  wpAny (model prog w) A (PySem.pyIter (.ref v)) Q E s:=by
 have ty:=t.typeIs;obtain⟨ov,gv,cv,dv⟩:=t;obtain⟨o,g,c,g2⟩:=m;refine wpAny_pyIter_slot ty F.slot_dict_values_iter (KW F.slot_dict_values_iter ty F.entry_dict_values_iter ?_ (F.args_dict_values_iter_1 _));unfold Builtin.«dict_values.__iter__»;refine JP (JT (JP ?_));unfold Builtin.Dict_items.dictOf;refine JP (Lp gv dv (x:=.ref d) rfl (JT (JP ?_)));unfold Builtin.Dict_items.newIterator;refine JP (Ln g g2 (JP (wpAny_dictEpoch g g2 ?_)));simp only[show Builtin.Dict_items.ownsTuple "dict_valueiterator"=false by decide,Lh,LX];refine KO (JT ⟨_,rfl,"dict_valueiterator",_,⟨_,JZ s.heap rfl,rfl⟩,F.slot_dict_valueiterator_next.lookup,?_⟩);simpa[rawInt]using q
theorem zr(t:s.heap.IsValIter it d i es.size ep)(m:At s.heap d es ep)(hi:i<es.size)(q:∀h',h'.IsValIter it d (i+1) es.size ep->Heap.SameBut it s.heap h'->Q (some es[i].val) { s with heap:=h' }) :
  wpAny (model prog w) A (PySem.pyNext (.ref it)) Q E s:=by
 obtain⟨o,g,c,g2⟩:=id t;obtain⟨od,gd,cd,gd2⟩:=id m;have ty:=t.typeIs;unfold pyNext;refine JP (wpAny_attempt (KU (name:=Str.ofString "__next__") ty F.slot_dict_valueiterator_next (KW F.slot_dict_valueiterator_next ty F.entry_dict_valueiterator_next ?_ (F.args_dict_valueiterator_next_1 _))));refine JP (JT (JP (JP ?_)))
 first | refine JP (wpAny_typeNameOfWhole_valiter ty (JT ?_)) | refine JP (wpAny_typeNameOf_valiter ty (JT ?_))
 refine JP (wpAny_fieldsOf g g2 ?_);simp only[show Builtin.Dict_items.ownsTuple "dict_valueiterator"=false by decide,Lh,LX];show wpAny _ _ (ite ((Value.ref d==Value.none)=true) _ _) _ _ s;rw[Kq (show ¬((Value.ref d==Value.none)=true) by simp)];refine JP (JT (JP (Ln gd gd2 ?_)));rw[Kq (by simp)];refine JP (JT (JP (wpAny_dictEpoch gd gd2 ?_)));rw[Kq (by simp)];refine JT ?_;simp only[show ¬((i:Int)<0) by omega,LX,Kk,Kf hi];refine JP ?_
 first | refine JP (wpAny_typeNameOfWhole_valiter ty (JT ?_)) | refine JP (wpAny_typeNameOf_valiter ty (JT ?_))
 refine JP (wpAny_isOneOf_valiter ty ?_);show wpAny _ _ (Bind.bind (setField (.ref it) 1 (rawInt ((i:Int)+1))) _) _ _ s;refine JP (wpAny_setField g g2 (by simp) ?_);have t':(s.heap.update it (Obj.mapFields (·.setIfInBounds 1 (rawInt ((i:Int)+1))))).IsValIter it d (i+1) es.size ep:=⟨_,La _ g (Obj.isFreed_of_fields (L5 g2 _)),(Obj.cls_mapFields ..).trans c,by rw[L5 g2];simp[rawInt]⟩;refine JP (LG (JP (wpAny_isOneOf_valiter (s:={ s with heap:=s.heap.update it (Obj.mapFields (·.setIfInBounds 1 (rawInt ((i:Int)+1)))) }) t'.typeIs ?_)));refine JP (wpAny_isOneOf_valiter (s:={ s with heap:=s.heap.update it (Obj.mapFields (·.setIfInBounds 1 (rawInt ((i:Int)+1)))) }) t'.typeIs ?_);show wpAny _ _ (Pure.pure es[i].val) _ _ _;exact JT (JT ⟨_,rfl,JT (q _ t' (K0 ..))⟩)
theorem Ex(hh:A.handled=none)(t:s.heap.IsValIter it d es.size es.size ep)(m:At s.heap d es ep)(q:∀h',Heap.ExtBut it s.heap h'->Q none { s with heap:=h' }):wpAny (model prog w) A (pyNext (.ref it)) Q E s:=by
 obtain⟨o,g,c,g2⟩:=id t;obtain⟨od,gd,cd,gd2⟩:=id m;have ty:=t.typeIs;unfold pyNext;refine JP (wpAny_attempt (KU (name:=Str.ofString "__next__") ty F.slot_dict_valueiterator_next (KW F.slot_dict_valueiterator_next ty F.entry_dict_valueiterator_next ?_ (F.args_dict_valueiterator_next_1 _))));refine JP (JT (JP (JP ?_)))
 first | refine JP (wpAny_typeNameOfWhole_valiter ty (JT ?_)) | refine JP (wpAny_typeNameOf_valiter ty (JT ?_))
 refine JP (wpAny_fieldsOf g g2 ?_);simp only[show Builtin.Dict_items.ownsTuple "dict_valueiterator"=false by decide,Lh,LX];show wpAny _ _ (ite ((Value.ref d==Value.none)=true) _ _) _ _ s;rw[Kq (show ¬((Value.ref d==Value.none)=true) by simp)];refine JP (JT (JP (Ln gd gd2 ?_)));rw[Kq (by simp)];refine JP (JT (JP (wpAny_dictEpoch gd gd2 ?_)));rw[Kq (by simp)];refine JT ?_;simp only[show ¬((es.size:Int)<0) by omega,LX,Kk,LJ (JW es.size)];refine JP ?_
 first | refine JP (wpAny_typeNameOfWhole_valiter ty (JT ?_)) | refine JP (wpAny_typeNameOf_valiter ty (JT ?_))
 show wpAny _ _ (Bind.bind (setField (.ref it) 0 .none) _) _ _ s;refine JP (wpAny_setField g g2 (by simp) ?_);show wpAny _ _ (Bind.bind (newExc (.type "StopIteration") []) _) _ _ _;refine JP ?_;simp only[newExc,newTuple];refine JP (KO (JP (m:=firstArgMember _ _) (wpAny_of_eq (a:=Value.none) (by first | rfl |(simp only[firstArgMember];rfl)) (KO ?_ (by size_fits)))) (by size_fits));simp only[raiseNew];refine JP (wpAny_handled ?_);rw[show A.in1.handled=none from hh];refine JP (JT (wpAny_throw ?_));refine JP (wpAny_isInstance (T:="StopIteration") (b:=true) ⟨_,JZ _ rfl,rfl⟩ isSubtype_stop ?_);exact JT (q _ (((K0 ..).extBut.push _).push _))
theorem Aa(hh:A.handled=none)(I:Addr)(hne:d≠I):Walks prog w A I [I,d] [I] es.size (fun j v=>∃h:j<es.size,v=es[j].val) (fun j h=>h.IsValIter I d j es.size ep/\At h d es ep) where
 sub:=fun b hb=>by simp only[Ka]at hb;simp[hb]
 frame:=fun _ _ _ st hk=>⟨st.1.at fun o e=>hk I (by simp) o e,st.2.to fun o e=>hk d (by simp) o e⟩
 item:=fun j s Q E hi st hQ=>zr st.1 st.2 hi fun h' t' hs=>hQ _ h' s.toks ⟨hi,rfl⟩ ⟨t',st.2.to fun o e=>hs.extBut d o hne e⟩ fun b o hb e=>hs.extBut b o (fun z=>hb (by simp[z])) e
 done:=fun s Q E st hQ=>Ex hh st.1 st.2 fun h' he=>hQ h' s.toks fun b o hb e=>he b o (fun z=>hb (by simp[z])) e
 self:=fun _ _ _ _ st q=>wpAny_pyIter_valiter st.1 q
theorem GU:PySem.W.KdlSrc prog w "dict_values" v d es.size (fun j u=>∃h:j<es.size,u=es[j].val) (fun h=>h.IsValuesView v d/\At h d es ep) where
 type:=fun _ m=>m.1.typeIs
 there:=fun _ m=>⟨let ⟨_,g,_⟩:=m.1;J0 g,m.2.lt⟩
 keep:=fun _ _ m k=>⟨let ⟨o,g,x⟩:=m.1;⟨o,k v (.inl rfl) o g,x⟩,m.2.to fun o e=>k d (.inr rfl) o e⟩
 notList:=by decide
 notTuple:=by decide
 hint:=fun _ _ _ _ m q=>PySem.W.kdl_hint_values m.1.typeIs q
 iter:=fun _ _ hh m=>⟨_,_,(fun _ _ q=>zK m.1 m.2 q),Aa hh _ (Ki m.2.lt),⟨⟨_,JZ _ rfl,rfl,rfl⟩,m.2.to fun o e=>JR _ e⟩⟩
theorem clear(m:At s.heap d es ep)(z:es.size≤sizeLine){P:PySem.Fin->Shared->Prop}(q:∀h',At h' d #[] (ep+1)->Heap.SameBut d s.heap h'->P (.done (.ret .none)) { s with heap:=h' }):wpAny (model prog w) A (Builtin.«dict.clear» ⟨[.ref d],[]⟩) P E s:=by
 have ty:=m.ty;obtain⟨o,g,c,g2⟩:=m;unfold Builtin.«dict.clear»;refine JP ?_;unfold Builtin.Dict.noArgs;refine JP (wpAny_notOrdered_dict ty ?_);show wpAny _ _ (Pure.pure d) _ _ s;refine JT (JP (Ln g g2 (JP ?_)));unfold bearsInstanceDictMark;refine JP (wpAny_load g (JT (JP (wpAny_updateDictKeys (hz:=z) g g2 ?_))));have n:At (s.heap.update d (Obj.mapDictKeys fun _=>#[])) d #[] (ep+1):=⟨_,La _ g (Obj.isFreed_of_dict (Obj.data_mapDictKeys g2 _)),c.mapDictKeys _,Obj.data_mapDictKeys g2 _⟩;split
 ·exact JP (wpAny_letGo (JT (q _ n (K0 ..))))
 ·exact JP (JT (JT (q _ n (K0 ..))))
end RD
namespace L2
variable {X:Cx}{pins:List (Addr×Obj)}{σ:St}{H:Hp}{s:Shared}
theorem cS(I:Inv X pins σ H s){d:Addr}{ks:List (List Int)}{as:List Addr}{vs:List V}{ep:Nat}(hH:H d=some (.ext (bD X.prog X.w d ks as vs ep))):(d==sysModules)=false/\∃es,RD.At s.heap d es ep/\es.toList.map (·.key)=as.map Value.ref/\Vals vs (es.toList.map (·.val))/\as.length=ks.length/\es.size=ks.length:=by
 obtain⟨hN,_,_⟩:=(show bg X.prog X.w H s.heap d (.ext (bD X.prog X.w d ks as vs ep))from I.hok d _ hH);exact hN.raw
theorem tj{o:Expr}{to:TE}{name:Str}{id:String}{apos cpos:Pos}{r:Addr->Hp->VK->Prop}(slot:Slot "dict" name id)(hty:typeOf (.builtin id)=pure (.type "method_descriptor"))
  (hm:∀pins s σ H d Q,Inv X pins σ H s->r d H Q->(∃es ep,RD.At s.heap d es ep)/\wpAny (model X.prog X.w) X.A (call (.builtin id) [.ref d]) (EP X pins σ Q) X.xe s) (ho:PE X o to)
  (hbase:attributeBase o name X.env (eval o X.env)=eval o X.env:=by rfl) (hline:(apos.endLine==cpos.line)=true:=by rfl):PE X (.Call (.Attribute o name apos) [] [] cpos) (fun σ H Q=>to σ H fun x H1=>∃d,x=.ref d/\r d H1 Q):=by
 intro pins s σ H Q I h;refine wpAny_Call_method0_late hbase hline (thn (ho pins s σ H _ I h) fun v s1 y_=>?_);obtain⟨x,H1,I1,r1,d,e,q1⟩:=y_;subst e;cases r1;obtain⟨⟨es,ep,m⟩,q⟩:=hm pins s1 σ H1 d Q I1 q1;refine⟨"dict",id,PySem.F.plainAttrs_dict,slot,hty,m.ty,fun b e=>?_,Calls.callWith_builtin rfl (PySem.evalArgs_none q)⟩;cases e;obtain⟨ob,g,c,_⟩:=m;exact⟨ob,g,c.2.1⟩
def iZ(v d:Addr):Heap->Prop:=fun h=>h.IsValuesView v d
theorem iZ.ok(n:iZ v d h):bg P w H h v (.ext (iZ v d)):=by
 refine⟨n,?_,?_⟩
 ·obtain⟨o,ho,_⟩:=n;exact⟨o,ho⟩
 ·rintro h1 h2 ⟨o,ho,r⟩ k;exact⟨o,k o ho,r⟩
def F1(P:Program)(w:World):Addr->Hp->VK->Prop:=fun d H Q=>(∃ks as vs ep,H d=some (.ext (bD P w d ks as vs ep)))/\∀p,H p=none->Q (.ref p) (upd H p (.ext (iZ p d)))
theorem v5(I:Inv X pins σ H s)(h:F1 X.prog X.w d H Q):(∃es ep,RD.At s.heap d es ep)/\wpAny (model X.prog X.w) X.A (call (.builtin "dict.values") [.ref d]) (EP X pins σ Q) X.xe s:=by
 obtain⟨⟨ks,as,vs,ep,hH⟩,q⟩:=h;obtain⟨lo,es,m,_⟩:=cS I hH;refine⟨⟨es,ep,m⟩,KW PySem.F.slot_dict_values m.ty PySem.F.entry_dict_values (RD.view lo m ⟨_,rfl,?_⟩) (PySem.F.args_dict_values_1 _)⟩;refine⟨.ref s.heap.objs.size,_,I.laid (a:=s.heap.objs.size) (o:=.ext (iZ s.heap.objs.size d)) (t':=s.toks) (fun _ _ q=>JR _ q) (JW _) (iZ.ok ⟨_,JZ _ rfl,rfl,rfl⟩),rfl,q _ (I.hok.fresh (JW _))⟩
def Ec(P:Program)(w:World):Addr->Hp->VK->Prop:=fun d H Q=>∃ks as vs ep,H d=some (.ext (bD P w d ks as vs ep))/\ks.length<1000/\∀ep',Q .non (upd H d (.ext (bD P w d [] [] [] ep')))
theorem C7(I:Inv X pins σ H s)(h:Ec X.prog X.w d H Q):(∃es ep,RD.At s.heap d es ep)/\wpAny (model X.prog X.w) X.A (call (.builtin "dict.clear") [.ref d]) (EP X pins σ Q) X.xe s:=by
 obtain⟨ks,as,vs,ep,hH,hz,q⟩:=h;obtain⟨lo,es,m,_,_,_,hes⟩:=cS I hH;refine⟨⟨es,ep,m⟩,KW PySem.F.slot_dict_clear m.ty PySem.F.entry_dict_clear (RD.clear m (by rw[K3];omega) fun h' m' hs=>⟨_,rfl,?_⟩) (PySem.F.args_dict_clear_1 _)⟩;obtain⟨o,g,c,g2⟩:=m';exact⟨.non,_,I.write (t':=s.toks) (x:=d) (e:=d) (o:=.ext (bD X.prog X.w d [] [] [] (ep+1))) (by rw[hH];exact trivial) (.inl rfl) (fun b u hb hu=>(hs.2 b hb).trans hu) ⟨o,g⟩ (bD.ok ⟨lo,o,#[],[],g,c,g2,rfl,rfl,rfl,.nil,List.nodup_nil⟩),rfl,q _⟩
def uB(P:Program)(w:World):List V->Hp->VK->Prop:=fun xs H Q=>∃v d ks as vs ep,xs=[.ref v]/\H v=some (.ext (iZ v d))/\H d=some (.ext (bD P w d ks as vs ep))/\ks.length<1000/\∀r,H r=none->Q (.ref r) (upd H r (.lst vs))
theorem n8(hc:X.calm=true):cj X (.type "list") (uB X.prog X.w):=by
 intro pins s σ H xs us Q I r h;obtain⟨v,d,ks,as,vs,ep,rfl,hV,hH,hz,q⟩:=h;obtain⟨u,rfl,ru⟩:=Vals.one r;cases ru;obtain⟨lo,es,m,hk,hv,hl,hes⟩:=cS I hH;obtain⟨hw,_,_⟩:=(show bg X.prog X.w H s.heap v (.ext (iZ v d))from I.hok v _ hV);refine PySem.W.kdl_call RD.GU (I.ok.hd hc) ⟨hw,m⟩ (by rw[K3];omega) fun h' tk acc c kp hS hacc=>?_;have hn:H s.heap.objs.size=none:=I.hok.fresh (JW _);have ea:acc.toList=es.toList.map (·.val):=by
  apply List.ext_getElem?;intro j;rw[JV,Lb,Lb];by_cases hj:j<es.size
  ·have hj':j<acc.size:=by rw[hacc.1];exact hj
   obtain⟨_,ev⟩:=hacc.2 j acc[j] (Kf hj');rw[Kf hj',Kf hj,ev];rfl
  ·rw[LJ (by rw[hacc.1];omega),LJ (by omega)];rfl
 have lv:vs.length=ks.length:=by rw[hv.length,JN,KZ];exact hes
 refine⟨.ref s.heap.objs.size,_,I.laid (t':=tk) (o:=.lst vs) (fun b o e=>kp b o e) (JW _) ?_,rfl,q _ hn⟩;refine⟨by rw[lv,K3];omega,es.toList.map (·.val),c,hv,?_⟩;rw[hS,← ea]
def EZ(P:Program)(w:World)(d:Addr)(n ep:Nat):It :=
 ⟨fun i H=>(∃ks as vs,H d=some (.ext (bD P w d ks as vs ep))/\ks.length=n)/\i<n,fun i H x H'=>H'=H/\∀ks as vs,H d=some (.ext (bD P w d ks as vs ep))->vs[i]?=some x,fun i H=>(∃ks as vs,H d=some (.ext (bD P w d ks as vs ep))/\ks.length=n)/\i=n⟩
theorem wN{K:LFr}(d it:Addr)(n ep:Nat):Turn P w K tg (EZ P w d n ep) [it] it (fun i h=>h.IsValIter it d i n ep) where
 mem:=Ka.mpr rfl
 obj:=fun i h st b hb=>by
  rw[Ka.mp hb];obtain⟨o,e,c,q⟩:=st;exact⟨o,e,fun v z=>by rw[q]at z;cases z⟩
 keep:=fun i h h' st k=>st.at fun o e=>k it (Ka.mpr rfl) o e
 item:=by
  intro X hP hw hK hc i pins s σ H E I hf st hg;subst hP hw hK;obtain⟨⟨ks,as,vs,hH,rfl⟩,hi⟩:=hg;obtain⟨lo,es,m,hk,hv,hl,hes⟩:=cS I hH;obtain⟨f0,f1,f2,f3,f4,f5⟩:=hf it (Ka.mpr rfl);rw[←hes]at hi st;have e1:(es.toList.map (·.val))[i]?=some es[i].val:=by rw[JV,Lb,Kf hi];rfl
  have lv:vs.length=ks.length:=by rw[hv.length,JN,KZ];exact hes
  have hiv:i<vs.length:=by omega
  obtain⟨u,eu,ru⟩:=hv.get (JO hiv);rw[e1]at eu;cases eu;refine RD.zr st m hi fun h' st' sb=>?_;have I1:Inv X pins σ H { s with heap:=h' }:=I.turned (t':=s.toks) (fun b o hb e=>(sb.2 b hb).trans e) f0 f1 f3 f4 f5;obtain⟨o,e,c,dd⟩:=id st';refine⟨es[i].val,rfl,mM (s:={ s with heap:=h' }) e c dd (by decide) ⟨vs[i],H,I1,ru,⟨rfl,fun ks' as' vs' hH'=>?_⟩,by rw[←hes];exact st',fun b hb=>(hf b hb).1⟩⟩;obtain⟨_,es2,m2,_,hv2,_,_⟩:=cS I hH';obtain⟨o1,g1,_,d1⟩:=m;obtain⟨o2,g2,_,d2⟩:=m2;rw[g1]at g2;cases g2;rw[d1]at d2;cases d2;rw[hv2.inj hv];exact JO hiv
 done:=by
  intro X hP hw hK hc i pins s σ H E I hf st hg;subst hP hw hK;obtain⟨⟨ks,as,vs,hH,rfl⟩,rfl⟩:=hg;obtain⟨lo,es,m,hk,hv,hl,hes⟩:=cS I hH;obtain⟨f0,f1,f2,f3,f4,f5⟩:=hf it (Ka.mpr rfl);rw[←hes]at st;exact RD.Ex (I.ok.hd hc) st m fun h' eb=>⟨rfl,I.turned (t':=s.toks) (fun b o hb e=>eb b o hb e) f0 f1 f3 f4 f5⟩
 self:=fun _ _ _ _ _ st h=>wpAny_pyIter_valiter st h
def iVw(P:Program)(w:World)(tl:TE):TI:=fun σ H R=>tl σ H fun x H1=>∃v d ks as vs ep,x=.ref v/\H1 v=some (.ext (iZ v d))/\H1 d=some (.ext (bD P w d ks as vs ep))/\R (EZ P w d ks.length ep) H1
theorem Eg(hl:PE X l tl):PI X tg l (iVw X.prog X.w tl):=by
 intro pins s σ H R I h;refine thn (hl pins s σ H _ I h) fun u s1 y_=>?_;obtain⟨x,H1,I1,r1,q1⟩:=y_;obtain⟨v,d,ks,as,vs,ep,e,hV,hH,q⟩:=q1;subst e;cases r1;obtain⟨lo,es,m,hk,hv,hl,hes⟩:=cS I1 hH;obtain⟨hw,_,_⟩:=(show bg X.prog X.w H1 s1.heap v (.ext (iZ v d))from I1.hok v _ hV);refine RD.zK hw m ?_;refine⟨s1.heap.objs.size,[s1.heap.objs.size],_,_,H1,rfl,I1.kept (t':=s1.toks) fun b o e=>JR _ e,wN d _ ks.length ep,⟨_,JZ _ rfl,rfl,by rw[←hes];rfl⟩,fun b hb=>?_,q⟩;rw[Ka.mp hb];exact I1.fpOk (JW _) (I1.hok.fresh (JW _))
end L2
namespace RD
variable {prog:Program}{w:World}{A:Around}{E:Value->Shared->Prop}{s:Shared}{d n:Addr}{es:Array DictEntry}{ep:Nat}
theorem fold_all{α:Type}{M:Model}{body:α->PUnit->Sem (ForInStep PUnit)}{Q:PUnit->Shared->Prop}:∀(l:List α),(∀x∈l,∀(R:ForInStep PUnit->Shared->Prop),R (.yield ⟨⟩) s->wpAny M A (body x ⟨⟩) R E s)->Q ⟨⟩ s->wpAny M A (forIn l PUnit.unit body) Q E s
 | [],_,q=>by rw[List.forIn_nil];exact JT q
 | x::l,h,q=>by
  rw[List.forIn_cons];exact JP (h x J6 _ (fold_all l (fun y hy=>h y (J8 _ hy)) q))
theorem xl{id:String}(m:At s.heap d es ep)(hk:∀e∈es.toList,∃a,e.key=.ref a/\s.TypeIs (.ref a) "tuple")(hh:∀e∈es.toList,(es.filter (·.hash==e.hash)).size≤1)(q:Q es s) :
  wpAny (model prog w) A (Builtin.Dict.entriesForEmpty id d) Q E s:=by
 obtain⟨o,g,c,g2⟩:=m;unfold Builtin.Dict.entriesForEmpty;refine JP (Ln g g2 ?_);rw[←Array.forIn_toList];refine JP (fold_all _ (fun e he R r=>?_) (JT q));obtain⟨a,ek,ty⟩:=hk e he;have hs:=hh e he;rw[ek];refine JP ?_;unfold Builtin.Dict.quietEq;refine JP (wpAny_specialOf ty F.slot_tuple_eq.lookup (JT ?_));rw[Kw (by decide),Kq (by omega)];exact JT r
theorem merge{Q:PUnit->Shared->Prop}(lo:(d==sysModules)=false)(m:At s.heap d es ep)(mn:At s.heap n #[] 0)(nd:n≠d)(ne:0<es.size)(z:es.size≤sizeLine)(hk:∀e∈es.toList,∃a,e.key=.ref a/\s.TypeIs (.ref a) "tuple")(hh:∀e∈es.toList,(es.filter (·.hash==e.hash)).size≤1)
  (q:∀h' ep',At h' n es ep'->Heap.SameBut n s.heap h'->Q ⟨⟩ { s with heap:=h' }):wpAny (model prog w) A (Builtin.Dict.mergeDict nm n d) Q E s:=by
 obtain⟨o,g,c,g2⟩:=id m;obtain⟨on,gn,cn,gn2⟩:=id mn;unfold Builtin.Dict.mergeDict;rw[Kq (by simpa using nd)];unfold Builtin.Dict.showsAll;rw[Kq (by rw[lo];simp)];refine JP (JT (JP (Ln g g2 ?_)));have few:(decide (es.size≤8)&&es.all fun e=>(keyPart e.key).isSome)=false:=by
  rw[Bool.and_eq_false_iff];right;rw[Bool.eq_false_iff];intro h;rw[Array.all_eq_true]at h;obtain⟨a,ek,_⟩:=hk es[0] (by rw[Array.mem_toList_iff];exact Array.getElem_mem ne);have:=h 0 ne;rw[ek]at this;cases this
 simp only[few,Bool.not_false,if_true];refine JP (Ln gn gn2 ?_);rw[Kw (show(#[]:Array DictEntry).isEmpty=true from rfl)];refine JP (xl m hk hh ?_);have hne:(!es.isEmpty)=true:=by
  rw[Bool.not_eq_true',Bool.eq_false_iff];intro h;rw[Array.isEmpty_iff_size_eq_zero]at h;omega
 rw[Kw hne];refine JP (wpAny_updateDictKeysTo gn gn2 (JT (q _ _ ⟨_,La _ gn (Obj.isFreed_of_dict (Obj.data_mapDictKeys gn2 _)),cn.mapDictKeys _,Obj.data_mapDictKeys gn2 _⟩ (K0 ..))) (Nat.le_succ_of_le z))
theorem copy(lo:(d==sysModules)=false)(m:At s.heap d es ep)(ne:0<es.size)(z:es.size≤sizeLine)(hk:∀e∈es.toList,∃a,e.key=.ref a/\s.TypeIs (.ref a) "tuple")(hh:∀e∈es.toList,(es.filter (·.hash==e.hash)).size≤1)
  (q:∀h' ep',At h' s.heap.objs.size es ep'->Heap.SameBut s.heap.objs.size (s.heap.push { cls:=.type "dict",data:=.dict #[] }) h'->Q (.ref s.heap.objs.size) { s with heap:=h' }):wpAny (model prog w) A (call (.type "dict") [.ref d]) Q E s:=by
 refine callType_codes (Q₁:=fun obj s₁=>obj=.ref s.heap.objs.size/\s₁={ s with heap:=s.heap.push { cls:=.type "dict",data:=.dict #[] } }) F.kt_called_dict (F.kt_typeCall_dict_1 _) F.entry_dict_init (kt_code_dict_new _ ⟨rfl,rfl⟩) ?_;rintro obj s₁ ⟨rfl,rfl⟩;have kp:∀b o,s.heap.get? b=some o->(s.heap.push { cls:=.type "dict",data:=.dict #[] }).get? b=some o:=fun b o e=>JR _ e;have mn:At (s.heap.push { cls:=.type "dict",data:=.dict #[] }) s.heap.objs.size #[] 0:=⟨_,JZ _ rfl,⟨rfl,rfl,rfl⟩,rfl⟩;have m':At (s.heap.push { cls:=.type "dict",data:=.dict #[] }) d es ep:=m.to fun o e=>kp d o e;have tn:Shared.TypeIs { s with heap:=s.heap.push { cls:=.type "dict",data:=.dict #[] } } (.ref s.heap.objs.size) "dict":=mn.ty (s:={ s with heap:=s.heap.push { cls:=.type "dict",data:=.dict #[] } });have td:Shared.TypeIs { s with heap:=s.heap.push { cls:=.type "dict",data:=.dict #[] } } (.ref d) "dict":=m'.ty (s:={ s with heap:=s.heap.push { cls:=.type "dict",data:=.dict #[] } });refine⟨tn,F.args_dict_init_2 _ _,?_⟩;unfold Builtin.«dict.__init__»;refine JP ?_;unfold Builtin.Dict.selfAndRest;refine JP (wpAny_notOrdered_dict tn ?_);show wpAny _ _ (Pure.pure (s.heap.objs.size,[Value.ref d])) _ _ _;refine JT ?_;show wpAny _ _ (Builtin.Dict.updateFrom "dict.__init__" s.heap.objs.size (.ref d) [] .none) _ _ _;unfold Builtin.Dict.updateFrom;refine JP (wpAny_typeOf td ?_);rw[Kq (by decide)];refine JP ?_;unfold Builtin.Dict.merge;refine JP ?_;unfold Builtin.Dict.readDirectly;refine JP (wpAny_isInstance td isSubtype_dict_dict ?_);simp only[Bool.not_true,Lh,LX];refine JP (wpAny_specialOf td F.slot_dict_iter.lookup (JT ?_));simp only[LH,if_true];refine JP (JT (merge (s:={ s with heap:=s.heap.push { cls:=.type "dict",data:=.dict #[] } }) lo m' mn (Lx m.lt) ne z (fun e he=>?_) hh fun h' ep' a1 a2=>?_))
 ·obtain⟨a,ek,o,g,c⟩:=hk e he;exact⟨a,ek,o,kp a o g,c⟩
 ·show wpAny _ _ (Bind.bind (Builtin.Dict.addKeywords s.heap.objs.size []) _) _ _ _;exact JP (JT (JT ⟨rfl,q h' ep' a1 a2⟩))
end RD
namespace L2
variable {X:Cx}{pins:List (Addr×Obj)}{σ:St}{H:Hp}{s:Shared}
def hI(P:Program)(w:World)(k:List Int):Int:=(fq P w).hash k
def t8(P:Program)(w:World)(K:LFr):List V->Hp->VK->Prop:=fun xs H Q=>∃d ks as vs ep,xs=[.ref d]/\H d=some (.ext (bD P w d ks as vs ep))/\i0 K H ks as/\0<ks.length/\ks.length<1000/\(ks.map (hI P w)).Nodup/\∀r ep',H r=none->Q (.ref r) (upd H r (.ext (bD P w r ks as vs ep')))
theorem oA:cj X (.type "dict") (t8 X.prog X.w X.K):=by
 intro pins s σ H xs us Q I r h;obtain⟨d,ks,as,vs,ep,rfl,hH,hK,h0,hz,hn,q⟩:=h;obtain⟨u,rfl,ru⟩:=Vals.one r;cases ru;obtain⟨hN,_,_⟩:=(show bg X.prog X.w H s.heap d (.ext (bD X.prog X.w d ks as vs ep))from I.hok d _ hH);obtain⟨lo,o,es,xs,ho,hc,hd,he,e1,e2,e3,nd⟩:=id hN;have hes:es.size=ks.length:=by rw[←KZ,he,JN,← e1,JN]
 have key:=t7 I hK e1 e2;refine RD.copy lo ⟨o,ho,hc,hd⟩ (by omega) (by rw[K3];omega) (fun e hm=>?_) (fun e hm=>?_) fun h' ep' m' hs=>?_
 ·rw[he]at hm;obtain⟨x,hx,rfl⟩:=JU.mp hm;obtain⟨ot,its,nt,a1,a2,_⟩:=key x hx;exact⟨x.2.1,rfl,ot,a1,a2⟩
 ·rw[he]at hm;obtain⟨x,hx,rfl⟩:=JU.mp hm;have e4:(es.filter (·.hash==(entryOfKey (fq X.prog X.w) x).hash)).size=((xs.filter fun y=>hI X.prog X.w y.1==hI X.prog X.w x.1)).length:=by
   rw[←KZ,Array.toList_filter,he,List.filter_map,JN];rfl
  rw[e4];have e5:((xs.filter fun y=>hI X.prog X.w y.1==hI X.prog X.w x.1).map fun y=>hI X.prog X.w y.1).length≤1:=by
   have nd2:((xs.filter fun y=>hI X.prog X.w y.1==hI X.prog X.w x.1).map fun y=>hI X.prog X.w y.1).Nodup:=by
    have h3:(xs.map fun y=>hI X.prog X.w y.1).Nodup:=by rw[←e1,JY]at hn;exact hn
    exact h3.sublist (List.filter_sublist.map _)
   match hq:(xs.filter fun y=>hI X.prog X.w y.1==hI X.prog X.w x.1).map fun y=>hI X.prog X.w y.1 with
   | []=>rw[hq];exact Ll _
   | [_]=>rw[hq];exact JW _
   | a::b::l =>
    rw[hq]at nd2;have all:∀c∈a::b::l,c=hI X.prog X.w x.1:=fun c hc=>by
     rw[←hq]at hc;obtain⟨y,hy,rfl⟩:=JU.mp hc;exact LV.mp (Le.mp hy).2
    rw[LW]at nd2;exact absurd (show a∈b::l by rw[all a (by simp),← all b (by simp)];simp) nd2.1
  rwa [JN]at e5
 ·obtain⟨o',g',c',d'⟩:=m';have hf:H s.heap.objs.size=none:=I.hok.fresh (JW _);refine⟨.ref s.heap.objs.size,_,I.laid (a:=s.heap.objs.size) (o:=.ext (bD X.prog X.w s.heap.objs.size ks as vs ep')) (t':=s.toks) (fun b o e=>(hs.2 b (Ki (J0 e))).trans (JR _ e)) (JW _) (bD.ok ⟨Lz.mpr (Ne.symm (Ki I.big)),o',es,xs,g',c',d',he,e1,e2,e3,nd⟩),rfl,q _ _ hf⟩
end L2
namespace U
open L2
section
inductive PV where
 | non | bl (b:Bool) | int (i:Int) | str (x:Str) | ref (a:Addr) | tup (l:List PV) | fls (l:List PV) | oth (v:V)
def FzL(K:LFr)(H:Hp)(a:Addr)(xs:List V):Prop :=
 (∃o,H a=some (.frz o (.lst xs))) ∨
  ∃(o:Obj) (its:Array Value) (n:Nat),K.lookup a=some o/\o.cls=.type "list"/\o.dict=none/\o.data=.seq its n/\its.size≤sizeLine/\Vals xs its.toList
theorem FzL.sq{K:LFr}(h:FzL K H a xs):SqL K H a xs:=by
 rcases h with h | h
 ·exact .inl (.inr h)
 ·exact .inr h
structure Kp (H H1:Hp):Prop where
 t:∀a us,H a=some (.tup us)->H1 a=some (.tup us)
 z:∀a o u,H a=some (.frz o u)->H1 a=some (.frz o u)
theorem Kp.sqT{K:LFr}(k:Kp H H1){a:Addr}{us:List V}(h:SqT K H a us):SqT K H1 a us:=by
 rcases h with(h |⟨o,h⟩) | h
 ·exact .inl (.inl (k.t _ _ h))
 ·exact .inl (.inr ⟨o,k.z _ _ _ h⟩)
 ·exact .inr h
theorem Kp.fzL{K:LFr}(k:Kp H H1){a:Addr}{us:List V}(h:FzL K H a us):FzL K H1 a us:=by
 rcases h with⟨o,h⟩ | h
 ·exact .inl ⟨o,k.z _ _ _ h⟩
 ·exact .inr h
section
variable (K:LFr)
mutual
def RP(H:Hp):PV->V->Prop
 | .non,v=>v=.non
 | .bl b,v=>v=.bl b
 | .int i,v=>v=.int i
 | .str x,v=>v=.str x
 | .ref a,v=>v=.ref a
 | .oth w,v=>v=w
 | .tup l,v=>∃a us,v=.ref a/\SqT K H a us/\RPs H l us
 | .fls l,v=>∃a us,v=.ref a/\FzL K H a us/\RPs H l us
def RPs(H:Hp):List PV->List V->Prop
 | [],us=>us=[]
 | x::l,us=>∃u r,us=u::r/\RP H x u/\RPs H l r
end
mutual
theorem RP.kp{H H1:Hp}(k:Kp H H1):∀{x:PV} {v:V},RP K H x v->RP K H1 x v
 | .non,_,h=>h
 | .bl _,_,h=>h
 | .int _,_,h=>h
 | .str _,_,h=>h
 | .ref _,_,h=>h
 | .oth _,_,h=>h
 | .tup l,v,h=>by
  simp only[RP]at h ⊢;obtain⟨a,us,e,q,r⟩:=h;exact⟨a,us,e,k.sqT q,RPs.kp k r⟩
 | .fls l,v,h=>by
  simp only[RP]at h ⊢;obtain⟨a,us,e,q,r⟩:=h;exact⟨a,us,e,k.fzL q,RPs.kp k r⟩
theorem RPs.kp{H H1:Hp}(k:Kp H H1):∀{l:List PV} {us:List V},RPs K H l us->RPs K H1 l us
 | [],_,h=>h
 | x::l,us,h=>by
  simp only[RPs]at h ⊢;obtain⟨u,r,e,a,b⟩:=h;exact⟨u,r,e,RP.kp k a,RPs.kp k b⟩
end
theorem RPs.nil:RPs K H [] []:=by simp[RPs]
theorem RPs.cons{H:Hp}{x:PV}{l:List PV}{u:V}{us:List V}(a:RP K H x u)(b:RPs K H l us):RPs K H (x::l) (u::us):=by
 simp only[RPs];exact⟨u,us,rfl,a,b⟩
theorem RPs.length{H:Hp}:∀{l:List PV} {us:List V},RPs K H l us->us.length=l.length
 | [],us,h=>by simp only[RPs]at h;subst h;rfl
 | x::l,us,h=>by
  simp only[RPs]at h;obtain⟨u,r,rfl,_,b⟩:=h;simp[RPs.length b]
theorem RPs.get{H:Hp}:∀{l:List PV} {us:List V} {i:Nat} {x:PV},RPs K H l us->l[i]?=some x->∃u,us[i]?=some u/\RP K H x u
 | [],_,_,_,_,e=>by simp at e
 | y::l,us,i,x,h,e=>by
  simp only[RPs]at h;obtain⟨u,r,rfl,a,b⟩:=h;cases i with
  | zero=>simp at e;subst e;exact⟨u,by simp,a⟩
  | succ i=>obtain⟨w,e1,e2⟩:=RPs.get (i:=i) (x:=x) b (by simpa using e);exact⟨w,by simpa using e1,e2⟩
theorem RPs.append{H:Hp}:∀{l m:List PV} {us ws:List V},RPs K H l us->RPs K H m ws->RPs K H (l++m) (us++ws)
 | [],m,us,ws,h,g=>by simp only[RPs]at h;subst h;simpa using g
 | x::l,m,us,ws,h,g=>by
  simp only[RPs]at h;obtain⟨u,r,rfl,a,b⟩:=h;exact RPs.cons K a (RPs.append b g)
theorem RPs.take{H:Hp}:∀{l:List PV} {us:List V} (n:Nat),RPs K H l us->RPs K H (l.take n) (us.take n)
 | [],us,n,h=>by simp only[RPs]at h;subst h;simp[RPs]
 | x::l,us,0,h=>by simp[RPs]
 | x::l,us,n+1,h=>by
  simp only[RPs]at h;obtain⟨u,r,rfl,a,b⟩:=h;exact RPs.cons K a (RPs.take n b)
theorem RPs.drop{H:Hp}:∀{l:List PV} {us:List V} (n:Nat),RPs K H l us->RPs K H (l.drop n) (us.drop n)
 | [],us,n,h=>by simp only[RPs]at h;subst h;simp[RPs]
 | x::l,us,0,h=>h
 | x::l,us,n+1,h=>by
  simp only[RPs]at h;obtain⟨u,r,rfl,a,b⟩:=h;exact RPs.drop n b
theorem RPs.set{H:Hp}{x:PV}{u:V}(a:RP K H x u):∀{l:List PV} {us:List V} (n:Nat),RPs K H l us->RPs K H (l.set n x) (us.set n u)
 | [],us,n,h=>by simp only[RPs]at h;subst h;simp[RPs]
 | y::l,us,0,h=>by
  simp only[RPs]at h;obtain⟨w,r,rfl,_,b⟩:=h;exact RPs.cons K a b
 | y::l,us,n+1,h=>by
  simp only[RPs]at h;obtain⟨w,r,rfl,c,b⟩:=h;exact RPs.cons K c (RPs.set a n b)
theorem RPs.ints{H:Hp}:∀(ns:List Int),RPs K H (ns.map PV.int) (ns.map V.int)
 | []=>by simp[RPs]
 | n::ns=>RPs.cons K (by simp[RP]) (RPs.ints ns)
theorem RPs.ints_eq{H:Hp}:∀{ns:List Int} {us:List V},RPs K H (ns.map PV.int) us->us=ns.map V.int
 | [],us,h=>by simpa[RPs]using h
 | n::ns,us,h=>by
  simp only[Kc,RPs]at h;obtain⟨u,r,rfl,a,b⟩:=h;have e:=RPs.ints_eq b;simp only[RP]at a;subst a;subst e;rfl
end
def HX(a C:Addr)(h:Heap):Prop:=∃o,h.get? a=some o/\o.cls=.ref C
inductive PO where
 | exc (C:Addr)
 | lst (l:List PV)
 | ins (C dx:Addr) (fs:List (Str×PV))
 | dK (kvs:List (Key×PV))
 | dT (kvs:List (List Key×PV))
 | dI (P:Program) (w:World) (kvs:List (List Int×PV)) (ep:Nat)
 | vw (d:Addr)
abbrev PHp:=Addr->Option PO
def put(H:PHp)(a:Addr)(o:PO):PHp:=fun b=>if b=a then some o else H b
theorem af{H:PHp}{a:Addr}{o:PO}:put H a o a=some o:=by unfold put;rw[Kw rfl]
theorem ag{H:PHp}{a b:Addr}{o:PO}(h:b≠a):put H a o b=H b:=by unfold put;rw[Kq h]
theorem aE{H:PHp}{a:Addr}{o u:PO}:put (put H a o) a u=put H a u:=by
 funext b;unfold put;split<;>rfl
theorem aj{H:PHp}{a b:Addr}{o:PO}(h:H a=some o)(h':H b=none):a≠b:=by
 intro e;subst e;rw[h]at h';cases h'
abbrev fj(K:LFr)(H:Hp){κ:Type}:List (κ×PV)->List (κ×V)->Prop:=Paired fun p q=>p.1=q.1/\RP K H p.2 q.2
def tI(t:List Int):PV:=.tup (t.map PV.int)
def OAt(K:LFr)(H:Hp)(a:Addr):PO->Prop
 | .exc C=>H a=some (.ext (HX a C))
 | .lst l=>∃us,H a=some (.lst us)/\RPs K H l us
 | .ins C dx fs=>∃gs,H a=some (.ins C dx gs)/\fj K H fs gs
 | .dK kvs=>∃ws,H a=some (.dK ws)/\fj K H kvs ws
 | .dT kvs=>∃ws,H a=some (.dT ws)/\fj K H kvs ws
 | .dI P w kvs ep=>∃as vs,H a=some (.ext (bD P w a (kvs.map (·.1)) as vs ep))/\RPs K H ((kvs.map (·.1)).map tI) (as.map V.ref)/\RPs K H (kvs.map (·.2)) vs
 | .vw d=>H a=some (.ext (iZ a d))
abbrev HR(K:LFr)(H':PHp)(H:Hp):Prop:=∀a o,H' a=some o->OAt K H a o
abbrev St':=List (Option PV)
abbrev Bs:=PHp×Hp
def Ev(H':PHp)(H:Hp)(H1':PHp)(H1:Hp):Prop:=∀a o,H a=some o->H' a=none->H1 a=some o/\H1' a=none
structure SR (K:LFr) (B:Bs) (σ':St') (H':PHp) (σ:L2.St) (H:Hp):Prop where
 len:σ'.length=σ.length
 loc:∀(i:Nat) (v':PV),σ'[i]?=some (some v')->∃v,σ[i]?=some (some v)/\RP K H v' v
 hp:HR K H' H
 ev:Ev B.1 B.2 H' H
theorem Ev.refl(H':PHp)(H:Hp):Ev H' H H' H:=fun _ _ h h'=>⟨h,h'⟩
theorem Ev.trans{H':PHp}{H:Hp}{H1':PHp}{H1:Hp}{H2':PHp}{H2:Hp}(a:Ev H' H H1' H1)(b:Ev H1' H1 H2' H2):Ev H' H H2' H2:=fun c o h h'=>by
 obtain⟨p,q⟩:=a c o h h';exact b c o p q
section
variable {K:LFr}
theorem fj.kp{κ:Type}{H H1:Hp}(k:Kp H H1){fs:List (κ×PV)}{gs:List (κ×V)}(h:fj K H fs gs):fj K H1 fs gs:=Paired.mapP h fun _ _ ⟨a,b⟩=>⟨a,RP.kp K k b⟩
theorem OAt.some{H:Hp}{a:Addr}:∀{o:PO},OAt K H a o->∃u,H a=Option.some u/\(∀us,u≠.tup us)/\(∀o us,u≠.frz o us)/\(∀x,u≠.own x)
 | .exc C,e=>⟨_,e,(fun _=>by nofun),(fun _ _=>by nofun),(fun _=>by nofun)⟩
 | .lst l,⟨us,e,_⟩=>⟨_,e,(fun _=>by nofun),(fun _ _=>by nofun),(fun _=>by nofun)⟩
 | .ins C dx fs,⟨us,e,_⟩=>⟨_,e,(fun _=>by nofun),(fun _ _=>by nofun),(fun _=>by nofun)⟩
 | .dK l,⟨us,e,_⟩=>⟨_,e,(fun _=>by nofun),(fun _ _=>by nofun),(fun _=>by nofun)⟩
 | .dT l,⟨us,e,_⟩=>⟨_,e,(fun _=>by nofun),(fun _ _=>by nofun),(fun _=>by nofun)⟩
 | .dI P w kvs ep,⟨_,_,e,_⟩=>⟨_,e,(fun _=>by nofun),(fun _ _=>by nofun),(fun _=>by nofun)⟩
 | .vw d,e=>⟨_,e,(fun _=>by nofun),(fun _ _=>by nofun),(fun _=>by nofun)⟩
theorem OAt.keep{H H1:Hp}{a:Addr}(k:Kp H H1)(e:H1 a=H a):∀{o:PO},OAt K H a o->OAt K H1 a o
 | .exc C,h=>e.trans h
 | .lst l,⟨us,h,r⟩=>⟨us,e.trans h,RPs.kp K k r⟩
 | .ins C dx fs,⟨us,h,r⟩=>⟨us,e.trans h,fj.kp k r⟩
 | .dK l,⟨us,h,r⟩=>⟨us,e.trans h,fj.kp k r⟩
 | .dT l,⟨us,h,r⟩=>⟨us,e.trans h,fj.kp k r⟩
 | .dI P w kvs ep,⟨as,vs,h,r1,r2⟩=>⟨as,vs,e.trans h,RPs.kp K k r1,RPs.kp K k r2⟩
 | .vw d,h=>e.trans h
theorem HR.tup{H':PHp}{H:Hp}(h:HR K H' H){a:Addr}{us:List V}(e:H a=some (.tup us)):H' a=none:=by
 cases q:H' a with
 | none=>rfl
 | some o=>obtain⟨u,e1,n,_⟩:=(h a o q).some;rw[e]at e1;exact absurd (Ks e1).symm (n us)
theorem HR.frz{H':PHp}{H:Hp}(h:HR K H' H){a:Addr}{o:Obj}{u:HO}(e:H a=some (.frz o u)):H' a=none:=by
 cases q:H' a with
 | none=>rfl
 | some o'=>obtain⟨u',e1,_,n,_⟩:=(h a o' q).some;rw[e]at e1;exact absurd (Ks e1).symm (n o u)
theorem HR.free{H':PHp}{H:Hp}(h:HR K H' H){a:Addr}(e:H a=none):H' a=none:=by
 cases q:H' a with
 | none=>rfl
 | some o=>obtain⟨u,e1,_⟩:=(h a o q).some;rw[e]at e1;cases e1
theorem Ev.kp{H':PHp}{H:Hp}{H1':PHp}{H1:Hp}(e:Ev H' H H1' H1)(h:HR K H' H):Kp H H1 :=
 ⟨fun a us q=>(e a _ q (h.tup q)).1,fun a o u q=>(e a _ q (h.frz q)).1⟩
theorem dC{H:Hp}{p:Addr}{o:HO}(e:H p=none):Kp H (upd H p o) :=
 ⟨fun a us q=>by rw[aC (aD q e)];exact q,fun a o u q=>by rw[aC (aD q e)];exact q⟩
theorem lD{H:Hp}{p:Addr}{o u:HO}(e:H p=some u)(n1:∀us,u≠.tup us)(n2:∀o us,u≠.frz o us):Kp H (upd H p o) :=
 ⟨fun a us q=>by rw[aC (zJ q e fun z=>n1 us z.symm)];exact q,fun a o' u' q=>by rw[aC (zJ q e fun z=>n2 o' u' z.symm)];exact q⟩
theorem SR.kp{B:Bs}{σ':St'}{H' H1':PHp}{σ:L2.St}{H H1:Hp}(s:SR K B σ' H' σ H)(e:Ev H' H H1' H1)(h:HR K H1' H1):SR K B σ' H1' σ H1 :=
 ⟨s.len,fun i v' q=>by obtain⟨v,a,b⟩:=s.loc i v' q;exact⟨v,a,RP.kp K (e.kp s.hp) b⟩,h,s.ev.trans e⟩
theorem HR.hid{H':PHp}{H:Hp}{p:Addr}{o:HO}(h:HR K H' H)(e:H p=none):HR K H' (upd H p o):=fun a u q=>by
 have na:a≠p:=by rintro rfl;rw[h.free e]at q;cases q
 exact(h a u q).keep (dC e) (aC na)
theorem Ev.hid{H':PHp}{H:Hp}{p:Addr}{o:HO}(e:H p=none):Ev H' H H' (upd H p o):=fun a u q n=>⟨by rw[aC (aD q e)];exact q,n⟩
theorem HR.new{H':PHp}{H:Hp}{p:Addr}{o:HO}{o':PO}(h:HR K H' H)(e:H p=none)(new:OAt K (upd H p o) p o'):HR K (put H' p o') (upd H p o):=fun a u q=>by
 by_cases hp:a=p
 ·subst hp;rw[af]at q;cases q;exact new
 ·rw[ag hp]at q;exact(h a u q).keep (dC e) (aC hp)
theorem Ev.new{H':PHp}{H:Hp}{p:Addr}{o:HO}{o':PO}(e:H p=none):Ev H' H (put H' p o') (upd H p o):=fun a u q n=>by
 have na:=aD q e;exact⟨by rw[aC na];exact q,by rw[ag na];exact n⟩
theorem HR.wr{H':PHp}{H:Hp}{p:Addr}{o:HO}{o' u':PO}(h:HR K H' H)(e:H' p=some u')(new:OAt K (upd H p o) p o'):HR K (put H' p o') (upd H p o):=fun a u q=>by
 obtain⟨v,e1,n1,n2,_⟩:=(h p u' e).some;by_cases hp:a=p
 ·subst hp;rw[af]at q;cases q;exact new
 ·rw[ag hp]at q;exact(h a u q).keep (lD e1 n1 n2) (aC hp)
theorem HR.kpw{H':PHp}{H:Hp}{p:Addr}{o:HO}{u':PO}(h:HR K H' H)(e:H' p=some u'):Kp H (upd H p o):=by
 obtain⟨v,e1,n1,n2,_⟩:=(h p u' e).some;exact lD e1 n1 n2
theorem Ev.wr{H':PHp}{H:Hp}{p:Addr}{o:HO}{o' u':PO}(e:H' p=some u'):Ev H' H (put H' p o') (upd H p o):=fun a u q n=>by
 have na:a≠p:=by rintro rfl;rw[e]at n;cases n
 exact⟨by rw[aC na];exact q,by rw[ag na];exact n⟩
def Sub(A B:PHp):Prop:=∀a o,A a=some o->B a=some o
theorem Sub.refl(A:PHp):Sub A A:=fun _ _ h=>h
theorem Sub.trans{A B C:PHp}(a:Sub A B)(b:Sub B C):Sub A C:=fun c o h=>b c o (a c o h)
theorem Sub.put{A B:PHp}{p:Addr}{o:PO}(a:Sub A B)(n:A p=none):Sub A (put B p o):=fun c u h=>by rw[ag (aj h n)];exact a c u h
theorem Sub.free{A B:PHp}(a:Sub A B){p:Addr}(n:B p=none):A p=none:=by
 cases q:A p with
 | none=>rfl
 | some o=>rw[a p o q]at n;cases n
theorem HR.sub{A B:PHp}{H:Hp}(h:HR K B H)(s:Sub A B):HR K A H:=fun a o e=>h a o (s a o e)
theorem Ev.sub{H':PHp}{H:Hp}{A B:PHp}{H1:Hp}(e:Ev H' H B H1)(s:Sub A B):Ev H' H A H1:=fun a o q n=>by
 obtain⟨x,y⟩:=e a o q n;exact⟨x,s.free y⟩
end
end
section
variable {B:Bs}
abbrev VK':=PV->PHp->Prop
abbrev TE':=St'->PHp->VK'->Prop
abbrev TT':=St'->PHp->(Bool->PHp->Prop)->Prop
abbrev TA':=St'->PHp->(List PV->PHp->Prop)->Prop
abbrev XK':=Value->Option Addr->PHp->Prop
structure dz where
 nx:St'->PHp->Prop
 rt:VK'
 bk:St'->PHp->Prop:=fun _ _=>False
 ct:St'->PHp->Prop:=fun _ _=>False
abbrev TS':=dz->St'->PHp->Prop
abbrev TG':=PV->St'->PHp->(St'->PHp->Prop)->Prop
abbrev jw:=List PV->St'->PHp->(St'->PHp->Prop)->Prop
structure It' where
 items:List PV
 ok:PHp->Prop
abbrev TI':=St'->PHp->(It'->PHp->Prop)->Prop
section
variable (K:LFr)(B:Bs)
def low(t:TE'):TE:=fun σ H Q=>∃σ' H' Q',SR K B σ' H' σ H/\t σ' H' Q'/\∀v' H1' v H1,Q' v' H1'->RP K H1 v' v->SR K B σ' H1' σ H1->Ev H' H H1' H1->Q v H1
def lH(t:TT'):TT:=fun σ H Q=>∃σ' H' Q',SR K B σ' H' σ H/\t σ' H' Q'/\∀b H1' H1,Q' b H1'->SR K B σ' H1' σ H1->Ev H' H H1' H1->Q b H1
def vp(t:TA'):TA:=fun σ H Q=>∃σ' H' Q',SR K B σ' H' σ H/\t σ' H' Q'/\∀vs' H1' vs H1,Q' vs' H1'->RPs K H1 vs' vs->SR K B σ' H1' σ H1->Ev H' H H1' H1->Q vs H1
structure DR (D':dz) (D:Ends) (H':PHp) (H:Hp):Prop where
 nx:∀σ1' H1' σ1 H1,D'.nx σ1' H1'->SR K B σ1' H1' σ1 H1->Ev H' H H1' H1->D.nx σ1 H1
 rt:∀v' H1' v H1,D'.rt v' H1'->RP K H1 v' v->HR K H1' H1->Ev H' H H1' H1->D.rt v H1
 bk:∀σ1' H1' σ1 H1,D'.bk σ1' H1'->SR K B σ1' H1' σ1 H1->Ev H' H H1' H1->D.bk σ1 H1
 ct:∀σ1' H1' σ1 H1,D'.ct σ1' H1'->SR K B σ1' H1' σ1 H1->Ev H' H H1' H1->D.ct σ1 H1
theorem DR.ev{D':dz}{D:Ends}{H':PHp}{H:Hp}{H1':PHp}{H1:Hp}(d:DR K B D' D H' H)(e:Ev H' H H1' H1):DR K B D' D H1' H1 :=
 ⟨fun a b c f p q r=>d.nx a b c f p q (e.trans r),fun a b c f p q r s=>d.rt a b c f p q r (e.trans s),fun a b c f p q r=>d.bk a b c f p q (e.trans r),fun a b c f p q r=>d.ct a b c f p q (e.trans r)⟩
def A2(t:TS'):TS:=fun D σ H=>∃σ' H' D',SR K B σ' H' σ H/\t D' σ' H'/\DR K B D' D H' H
def lowG(t:TG'):TG:=fun v σ H Q=>∃v' σ' H' Q',RP K H v' v/\SR K B σ' H' σ H/\t v' σ' H' Q'/\∀σ1' H1' σ1 H1,Q' σ1' H1'->SR K B σ1' H1' σ1 H1->Ev H' H H1' H1->Q σ1 H1
def Ej(t:jw):TGs:=fun vs σ H Q=>∃vs' σ' H' Q',RPs K H vs' vs/\SR K B σ' H' σ H/\t vs' σ' H' Q'/\∀σ1' H1' σ1 H1,Q' σ1' H1'->SR K B σ1' H1' σ1 H1->Ev H' H H1' H1->Q σ1 H1
structure Walks (H1:Hp) (J:It) (J':It'):Prop where
 go:∀H' H i,Kp H1 H->HR K H' H->J'.ok H'->i<J'.items.length->J.go i H
 yld:∀H' H i x H2,Kp H1 H->HR K H' H->J'.ok H'->J.yld i H x H2->H2=H/\∀x',J'.items[i]?=some x'->RP K H x' x
 stop:∀H' H i,Kp H1 H->HR K H' H->J'.ok H'->J'.items.length≤i->J.stop i H
def Jy(t:TI'):TI:=fun σ H R=>∃σ' H' R',SR K B σ' H' σ H/\t σ' H' R'/\∀J' H1' J H1,R' J' H1'->Walks K H1 J J'->SR K B σ' H1' σ H1->Ev H' H H1' H1->R J H1
end
section
variable {X:Cx}
theorem aQ{e:Expr}{t1 t2:TE}(h:PE X e t2)(i:∀σ H Q,t1 σ H Q->t2 σ H Q):PE X e t1:=fun pins s σ H Q I q=>h pins s σ H Q I (i σ H Q q)
theorem nA{e:Expr}{t1 t2:TT}(h:PT X e t2)(i:∀σ H Q,t1 σ H Q->t2 σ H Q):PT X e t1:=fun pins s σ H Q I q=>h pins s σ H Q I (i σ H Q q)
theorem tf{e:Expr}{t1 t2:TT}(h:PW X e t2)(i:∀σ H Q,t1 σ H Q->t2 σ H Q):PW X e t1:=fun w pins s σ H Q I q=>h w pins s σ H Q I (i σ H Q q)
theorem sL{e:List Expr}{t1 t2:TA}(h:PA X e t2)(i:∀σ H Q,t1 σ H Q->t2 σ H Q):PA X e t1:=fun p pins s σ H Q I q=>h p pins s σ H Q I (i σ H Q q)
theorem dG{e:Stmt}{t1 t2:TS}(h:PS X e t2)(i:∀D σ H,t1 D σ H->t2 D σ H):PS X e t1:=fun pins s σ H D I q=>h pins s σ H D I (i D σ H q)
theorem p8{e:List Stmt}{t1 t2:TS}(h:PSs X e t2)(i:∀D σ H,t1 D σ H->t2 D σ H):PSs X e t1:=fun pins s σ H D I q=>h pins s σ H D I (i D σ H q)
theorem kJ{e:Expr}{t1 t2:TG}(h:PG X e t2)(i:∀v σ H Q,t1 v σ H Q->t2 v σ H Q):PG X e t1:=fun pins s σ H v u Q I r q=>h pins s σ H v u Q I r (i v σ H Q q)
theorem pF{e:List Expr}{t1 t2:TGs}(h:PGs X e t2)(i:∀v σ H Q,t1 v σ H Q->t2 v σ H Q):PGs X e t1:=fun pins s σ H v u Q I r q=>h pins s σ H v u Q I r (i v σ H Q q)
theorem dO{tg e:Expr}{t1 t2:TI}(h:PI X tg e t2)(i:∀σ H Q,t1 σ H Q->t2 σ H Q):PI X tg e t1:=fun pins s σ H Q I q=>h pins s σ H Q I (i σ H Q q)
abbrev PE'(X:Cx)(B:Bs)(e:Expr)(t:TE'):Prop:=PE X e (low X.K B t)
abbrev PT'(X:Cx)(B:Bs)(e:Expr)(t:TT'):Prop:=PT X e (lH X.K B t)
abbrev PW'(X:Cx)(B:Bs)(e:Expr)(t:TT'):Prop:=PW X e (lH X.K B t)
abbrev PA'(X:Cx)(B:Bs)(e:List Expr)(t:TA'):Prop:=PA X e (vp X.K B t)
abbrev PS'(X:Cx)(B:Bs)(e:Stmt)(t:TS'):Prop:=PS X e (A2 X.K B t)
abbrev jd(X:Cx)(B:Bs)(e:List Stmt)(t:TS'):Prop:=PSs X e (A2 X.K B t)
abbrev PG'(X:Cx)(B:Bs)(e:Expr)(t:TG'):Prop:=PG X e (lowG X.K B t)
abbrev wm(X:Cx)(B:Bs)(e:List Expr)(t:jw):Prop:=PGs X e (Ej X.K B t)
abbrev PI'(X:Cx)(B:Bs)(tg e:Expr)(t:TI'):Prop:=PI X tg e (Jy X.K B t)
structure uN (K:LFr) (H1:Hp) (J:It) (J':It'):Prop where
 go:∀H' H i,Kp H1 H->HR K H' H->J'.ok H'->i<J'.items.length->J.go i H
 yld:∀H' H i x H2,Kp H1 H->HR K H' H->J'.ok H'->J.yld i H x H2->HR K H' H2/\Ev H' H H' H2/\∀x',J'.items[i]?=some x'->RP K H2 x' x
 stop:∀H' H,Kp H1 H->HR K H' H->J'.ok H'->J.stop J'.items.length H
def zm(K:LFr)(B:Bs)(t:TI'):TI:=fun σ H R=>∃σ' H' R',SR K B σ' H' σ H/\t σ' H' R'/\∀J' H1' J H1,R' J' H1'->uN K H1 J J'->SR K B σ' H1' σ H1->Ev H' H H1' H1->R J H1
abbrev PIH(X:Cx)(B:Bs)(tg e:Expr)(t:TI'):Prop:=PI X tg e (zm X.K B t)
theorem Walks.toH{K:LFr}{H1:Hp}{J:It}{J':It'}(w:Walks K H1 J J'):uN K H1 J J':=⟨w.go,fun H' H i x H2 k hr o y=>by
 obtain⟨e,r⟩:=w.yld H' H i x H2 k hr o y;subst e;exact⟨hr,Ev.refl _ _,r⟩,fun H' H k hr o=>w.stop H' H _ k hr o (JW _)⟩
theorem iY{X:Cx}{tg e:Expr}{t:TI'}(h:PI' X B tg e t):PIH X B tg e t:=dO h fun σ H R q=>by
 obtain⟨σ',H',R',s,h,k⟩:=q;exact⟨σ',H',R',s,h,fun J' H1' J H1 r w=>k J' H1' J H1 r w.toH⟩
def mZ(o:Option (Option PV))(k:PV->Prop):Prop:=match o with
 | some (some v)=>k v
 | _=>False
theorem mZ.ex{o:Option (Option PV)}{k:PV->Prop}(h:mZ o k):∃v,o=some (some v)/\k v:=by
 unfold mZ at h;split at h
 ·exact⟨_,rfl,h⟩
 ·exact h.elim
def u7(i:Nat):TE':=fun σ H Q=>mZ σ[i]? fun v=>Q v H
def uC(v:PV):TE':=fun _ H Q=>Q v H
theorem qv(i:Nat){x:Str}{pos:Pos}(hN:X.N[i]?=some x:=by rfl)(hv:Vis X.env.scope x:=by first | exact Or.inl rfl | exact Or.inr (Or.inl rfl) | exact Or.inr (Or.inr rfl))(hd:(x==("__debug__":Str))=false:=by decide)
  (hcd:(x==("__classdict__":Str))=false:=by decide):PE' X B (.Name x pos) (u7 i):=aQ (pv i hN hv hd hcd) fun σ H Q y_=>by
 obtain⟨σ',H',Q',s,h,k⟩:=y_;obtain⟨v',e,q⟩:=h.ex;obtain⟨v,a,b⟩:=s.loc i v' e;exact⟨v,a,k v' H' v H q b s (Ev.refl _ _)⟩
theorem vN{K:LFr}{v':PV}{v:V}(r:∀H,RP K H v' v){σ:L2.St}{H:Hp}{Q:VK}(h:low K B (uC v') σ H Q):tC v σ H Q:=by
 obtain⟨σ',H',Q',s,h,k⟩:=h;exact k v' H' v H h (r H) s (Ev.refl _ _)
theorem aq{i j pos}:PE' X B (.Constant (.int i) j pos) (uC (.int i)):=aQ AN fun _ _ _ h=>vN (fun _=>by simp[RP]) h
theorem eS{i j pos}:PE' X B (.Constant (.bool i) j pos) (uC (.bl i)):=aQ FT fun _ _ _ h=>vN (fun _=>by simp[RP]) h
theorem gD{j pos}:PE' X B (.Constant .none j pos) (uC .non):=aQ CW fun _ _ _ h=>vN (fun _=>by simp[RP]) h
theorem xc{x:Str}{v':PV}{v:V}{u:Value}{pos:Pos}(hg:Gl X x)(hm:X.mg x=some u)(r:RelV v u)(r':∀H,RP X.K H v' v)(hd:(x==("__debug__":Str))=false:=by decide):PE' X B (.Name x pos) (uC v') :=
 aQ (xD hg hm r hd) fun _ _ _ h=>vN r' h
abbrev R2':=PV->PV->PHp->VK'->Prop
def VR(K:LFr)(B:Bs)(r':R2')(r:R2):Prop:=∀(σ':St') (σ:L2.St) (H':PHp) (H:Hp) x' y' x y (Q':VK') (Q:VK),SR K B σ' H' σ H->RP K H x' x->RP K H y' y->r' x' y' H' Q' ->
 (∀v' H1' v H1,Q' v' H1'->RP K H1 v' v->SR K B σ' H1' σ H1->Ev H' H H1' H1->Q v H1)->r x y H Q
def uOp(r:R2')(ta tb:TE'):TE':=fun σ H Q=>ta σ H fun x H1=>tb σ H1 fun y H2=>r x y H2 Q
theorem kP{K:LFr}{r':R2'}{r:R2}{ta tb:TE'}(v:VR K B r' r){σ:L2.St}{H:Hp}{Q:VK}(h:low K B (uOp r' ta tb) σ H Q):tOp r (low K B ta) (low K B tb) σ H Q:=by
 obtain⟨σ',H',Q',s,h,k⟩:=h;refine⟨σ',H',_,s,h,fun x' H1' x H1 h1 rx s1 e1=>⟨σ',H1',_,s1,h1,fun y' H2' y H2 h2 ry s2 e2=>?_⟩⟩;exact v σ' σ H2' H2 x' y' x y Q' Q s2 (RP.kp K (e2.kp s1.hp) rx) ry h2 fun v' H3' v H3 q rv s3 e3=>k v' H3' v H3 q rv s3 (e1.trans (e2.trans e3))
variable {a b c:Expr}{ta tb tc:TE'}{pos:Pos}
theorem hE{op:Operator}{r':R2'}{r:R2}(ho:OpR X (binaryOp op) r)(v:VR X.K B r' r)(ha:PE' X B a ta)(hb:PE' X B b tb):PE' X B (.BinOp a op b pos) (uOp r' ta tb):=aQ (Fu ho ha hb) fun _ _ _ h=>kP v h
theorem bc{op:CmpOp}{r':R2'}{r:R2}(ho:OpR X (compareOp op) r)(v:VR X.K B r' r)(ha:PE' X B a ta)(hb:PE' X B b tb)(hm:behindInMarks op b=false):PE' X B (.Compare a [op] [b] pos) (uOp r' ta tb) :=
 aQ (yb ho ha hb hm) fun _ _ _ h=>kP v h
def cif(b:Bool)(A B:Prop):Prop:=match b with
 | true=>A
 | false=>B
theorem D5{A B:Prop}:cif true A B=A:=rfl
theorem Dz{A B:Prop}:cif false A B=B:=rfl
theorem c8{b:Bool}{A B:Prop}(h1:b=true->A)(h2:b=false->B):cif b A B:=by
 cases b
 ·exact h2 rfl
 ·exact h1 rfl
theorem a8{b:Bool}{A B:Prop}(h:b=true)(h1:A):cif b A B:=by subst h;exact h1
theorem aU{b:Bool}{A B:Prop}(h:b=false)(h1:B):cif b A B:=by subst h;exact h1
def d9(x:PV)(k:Bool->Prop):Prop:=match x with
 | .bl b=>k b
 | _=>False
theorem d9.ex{x:PV}{k:Bool->Prop}(h:d9 x k):∃v,x=.bl v/\k v:=by
 unfold d9 at h;split at h
 ·exact⟨_,rfl,h⟩
 ·exact h.elim
def cy(x:PV)(k:Int->Prop):Prop:=match x with
 | .int i=>k i
 | _=>False
theorem cy.ex{x:PV}{k:Int->Prop}(h:cy x k):∃v,x=.int v/\k v:=by
 unfold cy at h;split at h
 ·exact⟨_,rfl,h⟩
 ·exact h.elim
def jR(t:TE'):TT':=fun σ H Q=>t σ H fun x H1=>d9 x fun b=>Q b H1
theorem lg{K:LFr}{t:TE'}{σ:L2.St}{H:Hp}{Q:Bool->Hp->Prop}(h:lH K B (jR t) σ H Q):zC (low K B t) σ H Q:=by
 obtain⟨σ',H',Q',s,h,k⟩:=h;refine⟨σ',H',_,s,h,fun x' H1' x H1 h1 rx s1 e1=>?_⟩;obtain⟨b,rfl,q⟩:=h1.ex;simp only[RP]at rx;exact⟨b,rx,k b H1' H1 q s1 e1⟩
theorem bA{e:Expr}{t:TE'}(h:PE' X B e t)(he:∀whole,isTrue e X.env whole=(do let v←whole;standAt e.pos;holding [v] (truthy v)):=by intro _;rfl):PT' X B e (jR t):=nA (CH h he) fun _ _ _ h=>lg h
theorem vj{op:CmpOp}{r':R2'}{r:R2}(ho:OpR X (compareOp op) r)(v:VR X.K B r' r)(ha:PE' X B a ta)(hb:PE' X B b tb)(hm:behindInMarks op b=false):PT' X B (.Compare a [op] [b] pos) (jR (uOp r' ta tb)) :=
 nA (xh ho ha hb hm) fun _ _ _ h=>by
  obtain⟨σ',H',Q',s,h,k⟩:=lg h;exact kP v ⟨σ',H',Q',s,h,k⟩
def oC(r r':R2')(ta tb tc:TE'):TE':=fun σ H Q=>ta σ H fun x H1=>tb σ H1 fun y H2=>r x y H2 fun z H3=>d9 z fun k=>cif k (tc σ H3 fun w' H4=>r' y w' H4 Q) (Q (.bl false) H3)
theorem qX{K:LFr}{r1' r2':R2'}{r1 r2:R2}{ta tb tc:TE'}(v1:VR K B r1' r1)(v2:VR K B r2' r2){σ:L2.St}{H:Hp}{Q:VK}(h:low K B (oC r1' r2' ta tb tc) σ H Q):sx r1 r2 (low K B ta) (low K B tb) (low K B tc) σ H Q:=by
 obtain⟨σ',H',Q',s,h,k⟩:=h;refine⟨σ',H',_,s,h,fun x' H1' x H1 h1 rx s1 e1=>⟨σ',H1',_,s1,h1,fun y' H2' y H2 h2 ry s2 e2=>?_⟩⟩;refine v1 σ' σ H2' H2 x' y' x y _ _ s2 (RP.kp K (e2.kp s1.hp) rx) ry h2 fun z' H3' z H3 q rz s3 e3=>?_;obtain⟨b,rfl,q⟩:=q.ex;simp only[RP]at rz;refine⟨b,rz,?_⟩;cases b with
 | false =>
  have q':Q' (.bl false) H3':=q;exact ju (k _ H3' _ H3 q' (by simp[RP]) s3 (e1.trans (e2.trans e3)))
 | true =>
  have q':tc σ' H3' fun w' H4=>r2' y' w' H4 Q':=q;refine jy ⟨σ',H3',_,s3,q',fun w' H4' w H4 h4 rw4 s4 e4=>?_⟩;exact v2 σ' σ H4' H4 y' w' y w Q' Q s4 (RP.kp K (e4.kp s3.hp) (RP.kp K (e3.kp s2.hp) ry)) rw4 h4 fun v' H5' v H5 q5 rv s5 e5=>k v' H5' v H5 q5 rv s5 (e1.trans (e2.trans (e3.trans (e4.trans e5))))
theorem lG{op op':CmpOp}{r1' r2':R2'}{r1 r2:R2}(ho:OpR X (compareOp op) r1)(v1:VR X.K B r1' r1)(ho':OpR X (compareOp op') r2)(v2:VR X.K B r2' r2)(ha:PE' X B a ta)(hb:PE' X B b tb)(hc:PE' X B c tc)
  (hm:lastMarks [op,op'] [b,c]=false:=by with_unfolding_all rfl):PE' X B (.Compare a [op,op'] [b,c] pos) (oC r1' r2' ta tb tc):=aQ (tR ho ho' ha hb hc hm) fun _ _ _ h=>qX v1 v2 h
def uI(C:Int->Int->Prop)(g:Int->Int->PV):R2':=fun x y H Q=>cy x fun i=>cy y fun j=>C i j/\Q (g i j) H
def uI0(g:Int->Int->PV):R2':=fun x y H Q=>cy x fun i=>cy y fun j=>Q (g i j) H
theorem xK{K:LFr}{C:Int->Int->Prop}{g':Int->Int->PV}{g:Int->Int->V}(r:∀i j H,RP K H (g' i j) (g i j)):VR K B (uI C g') (rI C g):=by
 intro σ' σ H' H x' y' x y Q' Q s rx ry h k;obtain⟨i,rfl,h1⟩:=cy.ex h;obtain⟨j,rfl,hc,h⟩:=cy.ex h1;simp only[RP]at rx ry;exact⟨i,j,rx,ry,hc,k _ H' _ H h (r i j H) s (Ev.refl _ _)⟩
theorem gR{K:LFr}{g':Int->Int->PV}{g:Int->Int->V}(r:∀i j H,RP K H (g' i j) (g i j)):VR K B (uI0 g') (rI0 g):=by
 intro σ' σ H' H x' y' x y Q' Q s rx ry h k;obtain⟨i,rfl,h1⟩:=cy.ex h;obtain⟨j,rfl,h⟩:=cy.ex h1;simp only[RP]at rx ry;exact⟨i,j,rx,ry,k _ H' _ H h (r i j H) s (Ev.refl _ _)⟩
abbrev GY:R2':=uI0 fun i j=>.int (i+j)
abbrev ID:R2':=uI0 fun i j=>.int (i - j)
abbrev uLt:R2':=uI0 fun i j=>.bl (decide (i<j))
abbrev uLe:R2':=uI0 fun i j=>.bl (decide (i≤j))
abbrev uGt:R2':=uI0 fun i j=>.bl (decide (j<i))
abbrev uGe:R2':=uI0 fun i j=>.bl (decide (j≤i))
def Fit(i:Int):Prop:=i.natAbs.log2<9000
def mY(i j:Int):Prop:=CQ i j∨(Fit i/\Fit j)
def mI(i j:Int):Prop:=j≠0/\Fit j
theorem mY.ok{i j:Int}(h:mY i j):IntMulOk i j:=by
 rcases h with h |⟨h1,h2⟩
 ·exact h.ok
 ·unfold IntMulOk;have e:∀x:Int,Fit x->Builtin.Int.intBits x≤9000:=fun x hx=>by
   unfold Builtin.Int.intBits Fit at *;split<;>omega
  have e1:=e i h1;have e2:=e j h2;have e3:Builtin.Int.intTooBig (Builtin.Int.intBits i+Builtin.Int.intBits j)=false:=by
   unfold Builtin.Int.intTooBig;refine Ld ?_;show ¬(bitsLine:Int)<_;have hb:(18000:Nat)≤bitsLine:=by decide +kernel
   omega
  rw[e3];simp
abbrev Ip:R2':=uI mY fun i j=>.int (i*j)
abbrev Eu:R2':=uI mI fun i j=>.int (i.fdiv j)
theorem xZ{X:Cx}:OpR X (binaryOp .Mult) (rI mY fun i j=>.int (i*j)):=opI fun _ _ _ _ _ _ _ hc q=>mul_int q hc.ok
theorem uA{X:Cx}:OpR X (binaryOp .FloorDiv) (rI mI fun i j=>.int (i.fdiv j)):=opI fun _ _ _ _ _ _ _ hc q=>floordiv_int hc.1 q (.inl (PyProof.noPylong_of_log2 hc.2))
abbrev EJ:R2':=uI (fun _ j=>j≠0) fun i j=>.int (i.fmod j)
theorem bS(ha:PE' X B a ta)(hb:PE' X B b tb):PE' X B (.BinOp a .Add b pos) (uOp GY ta tb):=hE CO (gR fun _ _ _=>by simp[RP]) ha hb
theorem vH(ha:PE' X B a ta)(hb:PE' X B b tb):PE' X B (.BinOp a .Sub b pos) (uOp ID ta tb):=hE Bl (gR fun _ _ _=>by simp[RP]) ha hb
theorem aY(ha:PE' X B a ta)(hb:PE' X B b tb):PE' X B (.BinOp a .Mult b pos) (uOp Ip ta tb):=hE xZ (xK fun _ _ _=>by simp[RP]) ha hb
theorem bf(ha:PE' X B a ta)(hb:PE' X B b tb):PE' X B (.BinOp a .FloorDiv b pos) (uOp Eu ta tb):=hE uA (xK fun _ _ _=>by simp[RP]) ha hb
theorem bQ(ha:PE' X B a ta)(hb:PE' X B b tb):PE' X B (.BinOp a .Mod b pos) (uOp EJ ta tb):=hE xQ (xK fun _ _ _=>by simp[RP]) ha hb
theorem fy{K:LFr}:VR K B uLt (rI0 fun i j=>.bl (decide (i<j))):=gR fun _ _ _=>by simp[RP]
theorem jI{K:LFr}:VR K B uLe (rI0 fun i j=>.bl (decide (i≤j))):=gR fun _ _ _=>by simp[RP]
theorem iM{K:LFr}:VR K B uGt (rI0 fun i j=>.bl (decide (j<i))):=gR fun _ _ _=>by simp[RP]
theorem sM{K:LFr}:VR K B uGe (rI0 fun i j=>.bl (decide (j≤i))):=gR fun _ _ _=>by simp[RP]
end
end
section
variable {B:Bs}
section
variable {X:Cx}{a b c e o:Expr}{es rest:List Expr}{ta tb tc:TE'}{tA tB:TT'}{t:TA'}{pos:Pos}
def Dq(t u:TT'):TT':=fun σ H Q=>t σ H fun c H1=>cif c (u σ H1 Q) (Q false H1)
def uOr(t u:TT'):TT':=fun σ H Q=>t σ H fun c H1=>cif c (Q true H1) (u σ H1 Q)
def EI(t:TT'):TT':=fun σ H Q=>t σ H fun c H1=>Q (!c) H1
theorem xA(ha:PT' X B a tA):PW' X B (.BoolOp .And [a] pos) tA:=wo ha
theorem fc(ha:PT' X B a tA):PW' X B (.BoolOp .Or [a] pos) tA:=A7 ha
theorem AI(ha:PT' X B a tA)(hb:PW' X B (.BoolOp .And (b::rest) pos) tB):PW' X B (.BoolOp .And (a::b::rest) pos) (Dq tA tB):=tf (AW ha hb) fun σ H Q y_=>by
 obtain⟨σ',H',Q',s,h,k⟩:=y_;refine⟨σ',H',_,s,h,fun x H1' H1 h1 s1 e1=>?_⟩;cases x with
 | true=>exact jy ⟨σ',H1',_,s1,h1,fun y H2' H2 h2 s2 e2=>k y H2' H2 h2 s2 (e1.trans e2)⟩
 | false=>exact ju (k false H1' H1 h1 s1 e1)
theorem iW(ha:PT' X B a tA)(hb:PW' X B (.BoolOp .Or (b::rest) pos) tB):PW' X B (.BoolOp .Or (a::b::rest) pos) (uOr tA tB):=tf (DV ha hb) fun σ H Q y_=>by
 obtain⟨σ',H',Q',s,h,k⟩:=y_;refine⟨σ',H',_,s,h,fun x H1' H1 h1 s1 e1=>?_⟩;cases x with
 | false=>exact ju ⟨σ',H1',_,s1,h1,fun y H2' H2 h2 s2 e2=>k y H2' H2 h2 s2 (e1.trans e2)⟩
 | true=>exact jy (k true H1' H1 h1 s1 e1)
theorem dh(h:PW' X B e tA):PT' X B e tA:=PW.pt h
theorem dJ(ha:PT' X B a tA):PT' X B (.UnaryOp .Not a pos) (EI tA):=nA (BY ha) fun σ H Q ⟨σ',H',Q',s,h,k⟩=>⟨σ',H',_,s,h,fun x H1' H1 h1 s1 e1=>k _ H1' H1 h1 s1 e1⟩
def zf(ta tb:TE'):TE':=fun σ H Q=>ta σ H fun x H1=>d9 x fun c=>cif c (tb σ H1 Q) (Q (.bl false) H1)
def JJ(ta tb:TE'):TE':=fun σ H Q=>ta σ H fun x H1=>d9 x fun c=>cif c (Q (.bl true) H1) (tb σ H1 Q)
def y8(ta:TE'):TE':=fun σ H Q=>ta σ H fun x H1=>d9 x fun c=>Q (.bl (!c)) H1
theorem bP{op}(h:PE' X B a ta):PE' X B (.BoolOp op [a] pos) ta:=Ca h
theorem bz(ha:PE' X B a ta)(hb:PE' X B (.BoolOp .And (b::rest) pos) tb):PE' X B (.BoolOp .And (a::b::rest) pos) (zf ta tb):=aQ (CD ha hb) fun σ H Q y_=>by
 obtain⟨σ',H',Q',s,h,k⟩:=y_;refine⟨σ',H',_,s,h,fun x H1' v H1 h1 r1 s1 e1=>?_⟩;obtain⟨y,rfl,h1⟩:=h1.ex;simp only[RP]at r1;refine⟨y,r1,?_⟩;cases y with
 | true=>exact jy ⟨σ',H1',_,s1,h1,fun y H2' v2 H2 h2 r2 s2 e2=>k y H2' v2 H2 h2 r2 s2 (e1.trans e2)⟩
 | false=>exact ju (k _ H1' _ H1 h1 (by simp[RP]) s1 e1)
theorem nG(ha:PE' X B a ta):PE' X B (.UnaryOp .Not a pos) (y8 ta):=aQ (CZ ha) fun σ H Q y_=>by
 obtain⟨σ',H',Q',s,h,k⟩:=y_;refine⟨σ',H',_,s,h,fun x H1' v H1 h1 r1 s1 e1=>?_⟩;obtain⟨y,rfl,h1⟩:=h1.ex;simp only[RP]at r1;exact⟨y,r1,k _ H1' _ H1 h1 (by simp[RP]) s1 e1⟩
def uIf(t:TT')(ta tb:TE'):TE':=fun σ H Q=>t σ H fun c H1=>cif c (ta σ H1 Q) (tb σ H1 Q)
theorem sQ(hc:PT' X B c tA)(ha:PE' X B a ta)(hb:PE' X B b tb):PE' X B (.IfExp c a b pos) (uIf tA ta tb):=aQ (uY hc ha hb) fun σ H Q y_=>by
 obtain⟨σ',H',Q',s,h,k⟩:=y_;refine⟨σ',H',_,s,h,fun x H1' H1 h1 s1 e1=>?_⟩;cases x with
 | true=>exact jy ⟨σ',H1',_,s1,h1,fun y H2' v2 H2 h2 r2 s2 e2=>k y H2' v2 H2 h2 r2 s2 (e1.trans e2)⟩
 | false=>exact ju ⟨σ',H1',_,s1,h1,fun y H2' v2 H2 h2 r2 s2 e2=>k y H2' v2 H2 h2 r2 s2 (e1.trans e2)⟩
def uUn(r:PV->PHp->VK'->Prop)(ta:TE'):TE':=fun σ H Q=>ta σ H fun x H1=>r x H1 Q
theorem nW(ha:PE' X B a ta):PE' X B (.UnaryOp .USub a pos) (uUn (fun x H Q=>cy x fun i=>Q (.int (-i)) H) ta):=aQ (F5 Ct ha) fun σ H Q y_=>by
 obtain⟨σ',H',Q',s,h,k⟩:=y_;refine⟨σ',H',_,s,h,fun x H1' v H1 h1 r1 s1 e1=>?_⟩;obtain⟨i,rfl,h1⟩:=cy.ex h1;simp only[RP]at r1;exact⟨i,r1,k _ H1' _ H1 h1 (by simp[RP]) s1 e1⟩
def tY:TA':=fun _ H Q=>Q [] H
def l8(ta:TE')(tr:TA'):TA':=fun σ H Q=>ta σ H fun x H1=>tr σ H1 fun xs H2=>Q (x::xs) H2
theorem ab:PA' X B [] tY:=sL ku fun σ H Q ⟨σ',H',Q',s,h,k⟩=>k [] H' [] H h (RPs.nil _) s (Ev.refl _ _)
theorem aa(ha:PE' X B e ta)(hr:PA' X B es t)(hs:starEach (e::es) X.env=(false,eval e X.env)::starEach es X.env:=by rfl):PA' X B (e::es) (l8 ta t):=sL (iy ha hr hs) fun σ H Q y_=>by
 obtain⟨σ',H',Q',s,h,k⟩:=y_;refine⟨σ',H',_,s,h,fun x H1' v H1 h1 r1 s1 e1=>⟨σ',H1',_,s1,h1,fun xs H2' vs H2 h2 r2 s2 e2=>?_⟩⟩;exact k _ H2' _ H2 h2 (RPs.cons _ (RP.kp _ (e2.kp s1.hp) r1) r2) s2 (e1.trans e2)
def En(t:TA'):TE':=fun σ H Q=>t σ H fun xs H1=>xs.length≤sizeLine/\Q (.tup xs) H1
def A8(t:TA'):TE':=fun σ H Q=>t σ H fun xs H1=>xs.length≤sizeLine/\∀p,H1 p=none->Q (.ref p) (put H1 p (.lst xs))
theorem SR.hid{K:LFr}{σ':St'}{σ:L2.St}{H':PHp}{H:Hp}{p:Addr}{o:HO}(s:SR K B σ' H' σ H)(n:H p=none):SR K B σ' H' σ (upd H p o):=s.kp (Ev.hid n) (s.hp.hid n)
theorem SR.new{K:LFr}{σ':St'}{σ:L2.St}{H':PHp}{H:Hp}{p:Addr}{o:HO}{o':PO}(s:SR K B σ' H' σ H)(n:H p=none)(w:OAt K (upd H p o) p o'):SR K B σ' (put H' p o') σ (upd H p o):=s.kp (Ev.new n) (s.hp.new n w)
theorem SR.wr{K:LFr}{σ':St'}{σ:L2.St}{H':PHp}{H:Hp}{p:Addr}{o:HO}{o' u':PO}(s:SR K B σ' H' σ H)(n:H' p=some u')(w:OAt K (upd H p o) p o'):SR K B σ' (put H' p o') σ (upd H p o):=s.kp (Ev.wr n) (s.hp.wr n w)
theorem lI{K:LFr}{H:Hp}{p:Addr}{xs:List PV}{us:List V}(n:H p=none)(r:RPs K H xs us):RP K (upd H p (.tup us)) (.tup xs) (.ref p):=by
 simp only[RP];exact⟨p,us,rfl,SqT.of aT,RPs.kp K (dC n) r⟩
theorem nE{K:LFr}{H:Hp}{p:Addr}{xs:List PV}{us:List V}(n:H p=none)(r:RPs K H xs us):OAt K (upd H p (.lst us)) p (.lst xs):=⟨us,aT,RPs.kp K (dC n) r⟩
theorem wrL{K:LFr}{H':PHp}{H:Hp}{p:Addr}{u':PO}{xs:List PV}{us:List V}(h:HR K H' H)(n:H' p=some u')(r:RPs K H xs us):OAt K (upd H p (.lst us)) p (.lst xs):=⟨us,aT,RPs.kp K (h.kpw n) r⟩
theorem bM{x1}(h:PA' X B es t):PE' X B (.Tuple es x1 pos) (En t):=aQ (AR h) fun σ H Q y_=>by
 obtain⟨σ',H',Q',s,h,k⟩:=y_;refine⟨σ',H',_,s,h,fun xs H1' us H1 h1 r1 s1 e1=>⟨by rw[RPs.length _ r1];exact h1.1,fun p n=>?_⟩⟩;exact k _ H1' _ _ h1.2 (lI n r1) (s1.hid n) (e1.trans (Ev.hid n))
theorem bE(h:PA' X B es t):PE' X B (.List es pos) (A8 t):=aQ (Cr h) fun σ H Q y_=>by
 obtain⟨σ',H',Q',s,h,k⟩:=y_;refine⟨σ',H',_,s,h,fun xs H1' us H1 h1 r1 s1 e1=>⟨by rw[RPs.length _ r1];exact h1.1,fun p n=>?_⟩⟩;exact k _ _ _ _ (h1.2 p (s1.hp.free n)) (by simp[RP]) (s1.new n (nE n r1)) (e1.trans (Ev.new n))
def cT(x:PV)(H:PHp)(k:List PV->Prop):Prop:=match x with
 | .tup l=>k l
 | .fls l=>k l
 | .ref a=>∃l,H a=some (.lst l)/\k l
 | _=>False
theorem cT.ex{K:LFr}{σ':St'}{σ:L2.St}{x:PV}{v:V}{H':PHp}{H:Hp}{k:List PV->Prop}(h:cT x H' k)(s:SR K B σ' H' σ H)(r:RP K H x v):∃l us p,v=.ref p/\RPs K H l us/\(SqL K H p us∨SqT K H p us)/\k l:=by
 unfold cT at h;split at h
 ·simp only[RP]at r;obtain⟨a,us,e,q,r⟩:=r;exact⟨_,us,a,e,r,.inr q,h⟩
 ·simp only[RP]at r;obtain⟨a,us,e,q,r⟩:=r;exact⟨_,us,a,e,r,.inl q.sq,h⟩
 ·simp only[RP]at r;obtain⟨l,e,h⟩:=h;obtain⟨us,q,r2⟩:=s.hp _ _ e;exact⟨l,us,_,r,r2,.inl (SqL.of q),h⟩
 ·exact h.elim
theorem Bt{K:LFr}{H:Hp}{l:List PV}{us:List V}{i:Int}{x:PV}(r:RPs K H l us)(e:atI l i=some x):∃u,atI us i=some u/\RP K H x u:=by
 unfold atI at e ⊢;rw[RPs.length _ r];cases q:ixN l.length i with
 | none=>rw[q]at e;cases e
 | some j =>
  rw[q]at e;obtain⟨u,e1,e2⟩:=RPs.get _ r (show l[j]?=some x from e);exact⟨u,e1,e2⟩
def gj(o:Option PV)(k:PV->Prop):Prop:=match o with
 | some v=>k v
 | none=>False
theorem gj.ex{o:Option PV}{k:PV->Prop}(h:gj o k):∃v,o=some v/\k v:=by
 unfold gj at h;split at h
 ·exact⟨_,rfl,h⟩
 ·exact h.elim
def uIx:R2':=fun x y H Q=>cT x H fun l=>cy y fun i=>gj (atI l i) fun v=>Q v H
theorem xN{X:Cx}:IxR X (fun x y H Q=>B8 X.K x y H Q∨AU X.K x y H Q):=wW.or Ab
theorem Dw{K:LFr}:VR K B uIx (fun x y H Q=>B8 K x y H Q∨AU K x y H Q):=by
 intro σ' σ H' H x' y' x y Q' Q s rx ry h k;obtain⟨l,us,p,rfl,r,q,h1⟩:=cT.ex h s rx;obtain⟨i,rfl,h2⟩:=cy.ex h1;obtain⟨v,e,h3⟩:=gj.ex h2;simp only[RP]at ry;obtain⟨u,e1,e2⟩:=Bt r e;have:=k v H' u H h3 e2 s (Ev.refl _ _);rcases q with q | q
 ·exact .inl ⟨p,us,i,u,rfl,ry,q,e1,this⟩
 ·exact .inr ⟨p,us,i,u,rfl,ry,q,e1,this⟩
theorem DO(ha:PE' X B a ta)(hb:PE' X B b tb)(hs:kU b):PE' X B (.Subscript a b pos) (uOp uIx ta tb):=aQ (D9 xN ha hb hs) fun _ _ _ h=>kP Dw h
abbrev TO':=St'->PHp->(Option Int->PHp->Prop)->Prop
def GF(K:LFr)(B:Bs)(t:TO'):TO:=fun σ H Q=>∃σ' H' Q',SR K B σ' H' σ H/\t σ' H' Q'/\∀b H1' H1,Q' b H1'->SR K B σ' H1' σ H1->Ev H' H H1' H1->Q b H1
abbrev PO'(X:Cx)(B:Bs)(e:Option Expr)(t:TO'):Prop:=L2.PO X e (GF X.K B t)
theorem Bw{e:Option Expr}{t1 t2:TO}(h:L2.PO X e t2)(i:∀σ H Q,t1 σ H Q->t2 σ H Q):L2.PO X e t1:=fun pins s σ H Q I q=>h pins s σ H Q I (i σ H Q q)
def x9:TO':=fun _ H Q=>Q none H
def vJ(t:TE'):TO':=fun σ H Q=>t σ H fun x H1=>cy x fun i=>Q (some i) H1
theorem px(h:PE' X B e ta):PO' X B (some e) (vJ ta):=Bw (yo h) fun σ H Q y_=>by
 obtain⟨σ',H',Q',s,h,k⟩:=y_;refine⟨σ',H',_,s,h,fun x H1' v H1 h1 r1 s1 e1=>?_⟩;obtain⟨i,rfl,h1⟩:=cy.ex h1;simp only[RP]at r1;exact⟨i,r1,k _ H1' H1 h1 s1 e1⟩
def eY(xs:List PV)(lo hi:Option Int):List PV:=(xs.drop (HT.sIx xs.length 0 lo)).take (HT.sIx xs.length xs.length hi - HT.sIx xs.length 0 lo)
theorem Ck{K:LFr}{H:Hp}{l:List PV}{us:List V}{lo hi:Option Int}(r:RPs K H l us):RPs K H (eY l lo hi) (kH us lo hi):=by
 unfold eY kH;rw[RPs.length _ r];exact RPs.take _ _ (RPs.drop _ _ r)
def sliceOf(x:PV)(lo hi:Option Int)(H3:PHp)(Q:VK'):Prop:=match x with
 | .fls l=>∀p,H3 p=none->Q (.ref p) (put H3 p (.lst (eY l lo hi)))
 | .ref a=>∃l,H3 a=some (.lst l)/\∀p,H3 p=none->Q (.ref p) (put H3 p (.lst (eY l lo hi)))
 | .tup l=>¬(HT.sIx l.length 0 lo=0/\HT.sIx l.length l.length hi=l.length)/\Q (.tup (eY l lo hi)) H3
 | _=>False
def Dc(ta:TE')(tl th:TO'):TE':=fun σ H Q=>ta σ H fun x H1=>tl σ H1 fun lo H2=>th σ H2 fun hi H3=>sliceOf x lo hi H3 Q
def VC(K:LFr)(B:Bs)(r':List PV->PHp->VK'->Prop)(r:List V->Hp->VK->Prop):Prop:=∀(σ':St') (σ:L2.St) (H':PHp) (H:Hp) xs' xs (Q':VK') (Q:VK),SR K B σ' H' σ H->RPs K H xs' xs->r' xs' H' Q' ->
 (∀v' H1' v H1,Q' v' H1'->RP K H1 v' v->SR K B σ' H1' σ H1->Ev H' H H1' H1->Q v H1)->r xs H Q
def uCB(r:List PV->PHp->VK'->Prop)(t:TA'):TE':=fun σ H Q=>t σ H fun vs H1=>r vs H1 Q
theorem sG{K:LFr}{r':List PV->PHp->VK'->Prop}{r:List V->Hp->VK->Prop}{t:TA'}(v:VC K B r' r){σ:L2.St}{H:Hp}{Q:VK}(h:low K B (uCB r' t) σ H Q):tCB r (vp K B t) σ H Q:=by
 obtain⟨σ',H',Q',s,h,k⟩:=h;exact⟨σ',H',_,s,h,fun xs' H1' xs H1 h1 rx s1 e1=>v σ' σ H1' H1 xs' xs Q' Q s1 rx h1 fun v' H3' v H3 q rv s3 e3=>k v' H3' v H3 q rv s3 (e1.trans e3)⟩
variable {x:Str}{p:Pos}
theorem ar{id:String}{r':List PV->PHp->VK'->Prop}{r:List V->Hp->VK->Prop}(hc:cj X (.builtin id) r)(v:VC X.K B r' r)(hg:Gl X x)(hm:X.mg x=none)(hv:bootBuiltins x=some (.builtin id))(ha:PA' X B (e::es) t)
  (hn:x≠"__name__":=by decide) (hdb:(x==("__debug__":Str))=false:=by decide) (he:starEach (e::es) X.env=(false,eval e X.env)::starEach es X.env:=by rfl) (hpl:(backTo pos (starEach es X.env)).any (·.1)=false:=by rfl) :
  PE' X B (.Call (.Name x p) (e::es) [] pos) (uCB r' t):=aQ (l5 hc hg hm hv ha hn hdb he hpl) fun _ _ _ h=>sG v h
theorem aK{id:String}{r':List PV->PHp->VK'->Prop}{r:List V->Hp->VK->Prop}(hc:cj X (.type id) r)(v:VC X.K B r' r)(hg:Gl X x)(hm:X.mg x=none)(hv:bootBuiltins x=some (.type id))(ha:PA' X B (e::es) t)
  (hn:x≠"__name__":=by decide) (hdb:(x==("__debug__":Str))=false:=by decide) (he:starEach (e::es) X.env=(false,eval e X.env)::starEach es X.env:=by rfl) (hpl:(backTo pos (starEach es X.env)).any (·.1)=false:=by rfl) :
  PE' X B (.Call (.Name x p) (e::es) [] pos) (uCB r' t):=aQ (jT hc hg hm hv ha hn hdb he hpl) fun _ _ _ h=>sG v h
def cG(f:PV->PHp->VK'->Prop):List PV->PHp->VK'->Prop:=fun xs H Q=>match xs with
 | [x]=>f x H Q
 | _=>False
theorem cG.ex{K:LFr}{H:Hp}{f:PV->PHp->VK'->Prop}{xs':List PV}{xs:List V}{H':PHp}{Q':VK'}(h:cG f xs' H' Q')(r:RPs K H xs' xs):∃x' x,xs'=[x']/\xs=[x]/\RP K H x' x/\f x' H' Q':=by
 unfold cG at h;split at h
 ·simp only[RPs]at r;obtain⟨u,r,rfl,q,rfl⟩:=r;exact⟨_,u,rfl,rfl,q,h⟩
 ·exact h.elim
def Fe:List PV->PHp->VK'->Prop:=cG fun x H Q=>cT x H fun l=>Q (.int l.length) H
theorem bu{K:LFr}:VC K B Fe (fun xs H Q=>∃p ys,xs=[.ref p]/\(SqL K H p ys∨SqT K H p ys)/\Q (.int ys.length) H):=by
 intro σ' σ H' H xs' xs Q' Q s r h k;obtain⟨x',x,rfl,rfl,rx,h⟩:=cG.ex h r;obtain⟨l,us,p,rfl,r,q,h⟩:=cT.ex h s rx;exact⟨p,us,rfl,q,k _ H' _ H h (by simp[RP,RPs.length _ r]) s (Ev.refl _ _)⟩
def F6:List PV->PHp->VK'->Prop:=cG fun x H Q=>cy x fun i=>Q (.int (if i<0 then -i else i)) H
theorem oE{K:LFr}:VC K B F6 (fun xs H Q=>∃i,xs=[.int i]/\Q (.int (if i<0 then -i else i)) H):=by
 intro σ' σ H' H xs' xs Q' Q s r h k;obtain⟨x',x,rfl,rfl,rx,h⟩:=cG.ex h r;obtain⟨i,rfl,h⟩:=cy.ex h;simp only[RP]at rx;subst rx;exact⟨i,rfl,k _ H' _ H h (by simp[RP]) s (Ev.refl _ _)⟩
def b2n(b:Bool):Int:=if b then 1 else 0
def intOf(x:PV)(k:Int->Prop):Prop:=match x with
 | .int i=>k i
 | .bl b=>k (b2n b)
 | _=>False
def Ed:List PV->PHp->VK'->Prop:=cG fun x H Q=>intOf x fun i=>Q (.int i) H
theorem Cp{K:LFr}:VC K B Ed (fun xs H Q=>(∃i,xs=[.int i]/\Q (.int i) H)∨∃k,xs=[.bl k]/\Q (.int (if k then 1 else 0)) H):=by
 intro σ' σ H' H xs' xs Q' Q s r h k;obtain⟨x',x,rfl,rfl,rx,h⟩:=cG.ex h r;cases x' with
 | int i=>simp only[RP]at rx;subst rx;exact .inl ⟨i,rfl,k _ H' _ H h (by simp[RP]) s (Ev.refl _ _)⟩
 | bl i=>simp only[RP]at rx;subst rx;exact .inr ⟨i,rfl,k _ H' _ H h (by simp[RP,b2n]) s (Ev.refl _ _)⟩
 | _=>exact h.elim
def zk:List PV->PHp->VK'->Prop:=cG fun x H Q=>cT x H fun l=>∀p,H p=none->Q (.ref p) (put H p (.lst l))
theorem fO{K:LFr}:VC K B zk (fun xs H Q=>∃p ys,xs=[.ref p]/\(SqL K H p ys∨SqT K H p ys)/\∀l,H l=none->Q (.ref l) (upd H l (.lst ys))):=by
 intro σ' σ H' H xs' xs Q' Q s r h k;obtain⟨x',x,rfl,rfl,rx,h⟩:=cG.ex h r;obtain⟨l,us,p,rfl,r,q,h⟩:=cT.ex h s rx;exact⟨p,us,rfl,q,fun p n=>k _ _ _ _ (h p (s.hp.free n)) (by simp[RP]) (s.new n (nE n r)) (Ev.new n)⟩
def ug:List PV->PHp->VK'->Prop:=cG fun x H Q=>cT x H fun l=>Q (.tup l) H
theorem bb{K:LFr}:VC K B ug (fun xs H Q=>∃p ys,xs=[.ref p]/\((SqL K H p ys/\∀l,H l=none->Q (.ref l) (upd H l (.tup ys)))∨(SqT K H p ys/\Q (.ref p) H))):=by
 intro σ' σ H' H xs' xs Q' Q s r h k;obtain⟨x',x,rfl,rfl,rx,h⟩:=cG.ex h r;obtain⟨l,us,p,rfl,r,q,h⟩:=cT.ex h s rx;refine⟨p,us,rfl,?_⟩;rcases q with q | q
 ·exact .inl ⟨q,fun p n=>k _ _ _ _ h (lI n r) (s.hid n) (Ev.hid n)⟩
 ·exact .inr ⟨q,k _ _ _ _ h (by simp only[RP];exact⟨p,us,rfl,q,r⟩) s (Ev.refl _ _)⟩
end
end
section
variable {B:Bs}
section
variable {X:Cx}{a b c e o:Expr}{es:List Expr}{ta tb te:TE'}{tA tB:TT'}{st:Stmt}{sts:List Stmt}{t u:TS'}{pos:Pos}
def zS:TS':=fun D σ H=>D.nx σ H
def yy(t u:TS'):TS':=fun D σ H=>t { D with nx:=u D } σ H
theorem aF:jd X B [] zS:=p8 yB fun D σ H ⟨σ',H',D',s,h,d⟩=>d.nx _ _ _ _ h s (Ev.refl _ _)
theorem ae(h1:PS' X B st t)(h2:jd X B sts u):jd X B (st::sts) (yy t u):=p8 (uu h1 h2) fun D σ H ⟨σ',H',D',s,h,d⟩ =>
 ⟨σ',H',_,s,h,fun σ1' H1' σ1 H1 h1 s1 e1=>⟨σ1',H1',D',s1,h1,d.ev _ _ e1⟩,d.rt,d.bk,d.ct⟩
theorem ao(h1:PS' X B st t):jd X B [st] t:=wI h1
def BA:TS':=fun D σ H=>D.bk σ H
def EG:TS':=fun D σ H=>D.ct σ H
def zu(te:TE'):TS':=fun D σ H=>te σ H fun _ H1=>D.nx σ H1
theorem bT(he:PE' X B e te)(hs:swapsWith e none pos.line X.env=pure false:=by rfl):PS' X B (.Expr e pos) (zu te):=dG (yX he hs) fun D σ H ⟨σ',H',D',s,h,d⟩ =>
 ⟨σ',H',_,s,h,fun v' H1' v H1 h1 r1 s1 e1=>d.nx _ _ _ _ h1 s1 e1⟩
def F7(te:TE'):TS':=fun D σ H=>te σ H D.rt
theorem ax(he:PE' X B e te):PS' X B (.Return (some e) pos) (F7 te):=dG (Dd he) fun D σ H ⟨σ',H',D',s,h,d⟩ =>
 ⟨σ',H',_,s,h,fun v' H1' v H1 h1 r1 s1 e1=>d.rt _ _ _ _ h1 r1 s1.hp e1⟩
def DT:TS':=fun D _ H=>D.rt .non H
def EL(c:TT')(t u:TS'):TS':=fun D σ H=>c σ H fun b H1=>cif b (t D σ H1) (u D σ H1)
theorem aS{l1 l2:List Stmt}(hc:PT' X B c tA)(ha:jd X B l1 t)(hb:jd X B l2 u):PS' X B (.If c l1 l2 pos) (EL tA t u):=dG (EB hc ha hb) fun D σ H y_=>by
 obtain⟨σ',H',D',s,h,d⟩:=y_;refine⟨σ',H',_,s,h,fun x H1' H1 h1 s1 e1=>?_⟩;cases x with
 | true=>exact jy ⟨σ',H1',D',s1,h1,d.ev _ _ e1⟩
 | false=>exact ju ⟨σ',H1',D',s1,h1,d.ev _ _ e1⟩
def A5:TS':=fun _ _ _=>False
theorem bC:jd X B sts A5:=fun _ _ _ _ _ _ ⟨_,_,_,_,h,_⟩=>h.elim
def bZ(i:Nat):TG':=fun v σ H Q=>Q (σ.set i (some v)) H
theorem SR.set{K:LFr}{σ':St'}{H':PHp}{σ:L2.St}{H:Hp}{v':PV}{v:V}(s:SR K B σ' H' σ H)(r:RP K H v' v)(i:Nat):SR K B (σ'.set i (some v')) H' (σ.set i (some v)) H:=by
 refine⟨by simp[s.len],fun j w e=>?_,s.hp,s.ev⟩;by_cases hj:i=j
 ·subst hj;have hl:i<σ'.length:=by
   rcases Nat.lt_or_ge i σ'.length with h | h
   ·exact h
   ·rw[LF (by simpa using h)]at e;cases e
  rw[List.getElem?_set_self hl]at e;cases e;exact⟨v,List.getElem?_set_self (by rw[←s.len];exact hl),r⟩
 ·rw[List.getElem?_set_ne hj]at e ⊢;exact s.loc j w e
theorem vY{i:Nat}{x:Str}(hN:X.N.Nodup)(hi:X.N[i]?=some x)(hx:Loc X.env.scope x)(hf:X.fn x=true∨X.env.scope.names.lookup x=some .local:=by first | exact .inl rfl | exact .inr rfl | assumption):PG' X B (.Name x pos) (bZ i) :=
 kJ (xU hN hi hx hf) fun v σ H Q ⟨v',σ',H',Q',r,s,h,k⟩=>k _ _ _ _ h (s.set r i) (Ev.refl _ _)
def CF:jw:=fun vs σ H Q=>vs=[]/\Q σ H
def oX(t:TG')(u:jw):jw:=fun vs σ H Q=>match vs with
 | v::r=>t v σ H fun σ' H'=>u r σ' H' Q
 | []=>False
theorem bY:wm X B [] CF:=pF xm fun vs σ H Q y_=>by
 obtain⟨v',σ',H',Q',r,s,h,k⟩:=y_;obtain⟨rfl,h⟩:=h;simp only[RPs]at r;exact⟨r,k _ _ _ _ h s (Ev.refl _ _)⟩
theorem aJ{t:TG'}{u:jw}(h1:PG' X B e t)(h2:wm X B es u)(hs:(assignEach (e::es) X.env).map (·.2)=assign e X.env::(assignEach es X.env).map (·.2):=by rfl):wm X B (e::es) (oX t u) :=
 pF (tO h1 h2 hs) fun vs σ H Q y_=>by
 obtain⟨vs',σ',H',Q',r,s,h,k⟩:=y_;cases vs' with
 | nil=>exact h.elim
 | cons v' r' =>
  simp only[RPs]at r;obtain⟨v,w,rfl,rv,rw'⟩:=r;refine⟨v,w,rfl,v',σ',H',_,rv,s,h,fun σ1' H1' σ1 H1 h1 s1 e1=>⟨r',σ1',H1',Q',RPs.kp _ (e1.kp s.hp) rw',s1,h1,fun σ2' H2' σ2 H2 h2 s2 e2=>k _ _ _ _ h2 s2 (e1.trans e2)⟩⟩
def xF(n:Nat)(t:jw):TG':=fun v σ H Q=>match v with
 | .tup l=>l.length=n/\t l σ H Q
 | _=>False
theorem cC{k:Nat}{t:jw}{n:Nat}(hc:X.calm=true)(h:wm X B es t)(hn:(assignEach es X.env).length=n:=by rfl)(hst:(assignEach es X.env).findIdx? (·.1)=none:=by rfl):PG' X B (.Tuple es k pos) (xF n t) :=
 kJ (Am hc h hn hst) fun v σ H Q y_=>by
 obtain⟨v',σ',H',Q',r,s,h,k⟩:=y_;cases v' with
 | tup l =>
  obtain⟨hl,h⟩:=h;simp only[RP]at r;obtain⟨a,us,rfl,q,r⟩:=r;exact⟨a,us,rfl,q,by rw[RPs.length _ r];exact hl,l,σ',H',Q',r,s,h,k⟩
 | _=>exact h.elim
def mr(te:TE')(g:TG'):TS':=fun D σ H=>te σ H fun x H1=>g x σ H1 D.nx
theorem xO{K:LFr}{te:TE'}{g:TG'}{D:Ends}{σ:L2.St}{H:Hp}(h:A2 K B (mr te g) D σ H):wF (low K B te) (lowG K B g) D σ H:=by
 obtain⟨σ',H',D',s,h,d⟩:=h;exact⟨σ',H',_,s,h,fun x H1' v H1 h1 r1 s1 e1=>⟨x,σ',H1',_,r1,s1,h1,fun σ2' H2' σ2 H2 h2 s2 e2=>d.nx _ _ _ _ h2 s2 (e1.trans e2)⟩⟩
theorem cu{tg:Expr}{g:TG'}(he:PE' X B e te)(hg:PG' X B tg g)(hs:swapsWithSole [tg] e pos.line X.env=pure false:=by rfl)(hw:swappedStores [tg] e X.env=pure none:=by rfl)
  (h1:(assignEach [tg] X.env).map (·.2)=[assign tg X.env]:=by rfl):PS' X B (.Assign [tg] e pos) (mr te g):=dG (BC he hg hs hw h1) fun _ _ _ h=>xO h
theorem BO{i:Nat}{x:Str}{pos':Pos}(hN:X.N.Nodup)(hi:X.N[i]?=some x)(hx:Loc X.env.scope x)(he:PE' X B e te)(hs:swapsWith e (some (.Name x pos')) pos.line X.env=pure false:=by rfl)(hf:X.fn x=true∨X.env.scope.names.lookup x=some .local:=by first | exact .inl rfl | exact .inr rfl | assumption) :
  PS' X B (.Assign [.Name x pos'] e pos) (mr te (bZ i)):=dG (Az hN hi hx he hs hf) fun D σ H h=>by
 obtain⟨σ',H',D',s,h,d⟩:=h;exact⟨σ',H',_,s,h,fun x H1' v H1 h1 r1 s1 e1=>d.nx _ _ _ _ h1 (s1.set r1 i) e1⟩
def vD(c:TT')(tb:TS'):TS':=fun D σ H=>∃W:Nat->St'->PHp->Prop,(∃m,W m σ H)/\∀m σ H,W m σ H ->
 c σ H fun b H1=>cif b (∃N:St'->PHp->Prop,(∀σ' H',N σ' H'->∃m',m'<m/\W m' σ' H')/\tb { D with nx:=N,ct:=N,bk:=D.nx } σ H1) (D.nx σ H1)
theorem lO{body:List Stmt}(hp:PassesOwn (model X.prog X.w) X.A X.env X.xe)(hc:PT' X B c tA)(hb:jd X B body t):PS' X B (.While c body [] pos) (vD tA t):=dG (tu hp hc hb) fun D σ H y_=>by
 obtain⟨σ',H',D',s,⟨W,⟨m0,w0⟩,turn⟩,d⟩:=y_;refine⟨fun m σ1 H1=>∃σ1' H1',SR X.K B σ1' H1' σ1 H1/\Ev H' H H1' H1/\W m σ1' H1',⟨m0,σ',H',s,Ev.refl _ _,w0⟩,?_⟩;rintro m σ1 H1 ⟨σ1',H1',s1,e1,w1⟩;refine⟨σ1',H1',_,s1,turn m σ1' H1' w1,fun x H2' H2 h2 s2 e2=>?_⟩;cases x with
 | false=>exact ju (d.nx _ _ _ _ h2 s2 (e1.trans e2))
 | true =>
  obtain⟨N,hN,h2⟩:=(show ∃N:St'->PHp->Prop,_ from h2);refine jy ⟨fun σ3 H3=>∃σ3' H3',SR X.K B σ3' H3' σ3 H3/\Ev H' H H3' H3/\N σ3' H3',?_,σ1',H2',_,s2,h2,?_,?_,?_,?_⟩
  ·rintro σ3 H3 ⟨σ3',H3',s3,e3,n3⟩;obtain⟨m',hm,w'⟩:=hN _ _ n3;exact⟨m',hm,σ3',H3',s3,e3,w'⟩
  ·intro σ3' H3' σ3 H3 n3 s3 e3;exact⟨σ3',H3',s3,(e1.trans e2).trans e3,n3⟩
  ·intro v' H3' v H3 n3 r3 s3 e3;exact d.rt _ _ _ _ n3 r3 s3 ((e1.trans e2).trans e3)
  ·intro σ3' H3' σ3 H3 n3 s3 e3;exact d.nx _ _ _ _ n3 s3 ((e1.trans e2).trans e3)
  ·intro σ3' H3' σ3 H3 n3 s3 e3;exact⟨σ3',H3',s3,(e1.trans e2).trans e3,n3⟩
theorem jb{c:TT'}{tb:TS'}{D:dz}{σ:St'}{H:PHp}(Pv:Nat->St'->PHp->Prop)(m0:Nat)(h0:Pv m0 σ H)
  (hs:∀m σ H,Pv m σ H->c σ H fun b H1=>cif b (∃N:St'->PHp->Prop,(∀σ' H',N σ' H'->∃m',m'<m/\Pv m' σ' H')/\tb { D with nx:=N,ct:=N,bk:=D.nx } σ H1) (D.nx σ H1)):vD c tb D σ H:=⟨Pv,⟨m0,h0⟩,hs⟩
def eE(ok:PHp->Prop)(g:TG')(tb:TS')(D:dz):List PV->St'->PHp->Prop
 | [],σ,H=>ok H/\D.nx σ H
 | x::r,σ,H=>ok H/\g x σ H fun σ2 H2=>tb { D with nx:=eE ok g tb D r,ct:=eE ok g tb D r,bk:=D.nx } σ2 H2
def BH(wi:TI')(g:TG')(tb:TS'):TS':=fun D σ H=>wi σ H fun J H1=>eE J.ok g tb D J.items σ H1
theorem fZ{t:TS'}{iter tg:Expr}{body:List Stmt}{wi:TI'}{g:TG'}(hp:PassesOwn (model X.prog X.w) X.A X.env X.xe)(hc:X.calm=true)(hi:PIH X B tg iter wi)(hg:PG' X B tg g)(hb:jd X B body t)
  (hs:∀x,foldedSetIterable iter X.env x=pure x:=by intro _;rfl):PS' X B (.For tg iter body [] pos) (BH wi g t):=dG (AQ hp hc hi hg hb hs) fun D σ H y_=>by
 obtain⟨σ',H',D',s,h,d⟩:=y_;refine⟨σ',H',_,s,h,fun J' H1' J H1 h1 wk s1 e1=>?_⟩;refine⟨fun i m σ2 H2=>i≤J'.items.length/\m=J'.items.length - i/\∃σ2' H2',SR X.K B σ2' H2' σ2 H2/\Ev H1' H1 H2' H2/\eE J'.ok g t D' (J'.items.drop i) σ2' H2',⟨J'.items.length,Ll _,by simp,σ',H1',s1,Ev.refl _ _,h1⟩,?_⟩;rintro i m σ2 H2 ⟨hi,rfl,σ2',H2',s2,e2,h2⟩;have k2:=e2.kp s1.hp;by_cases hlt:i<J'.items.length
 ·obtain⟨x',hx⟩:∃x',J'.items[i]?=some x':=⟨_,JO hlt⟩;have hd:J'.items.drop i=x'::J'.items.drop (i+1):=by
   rw[LM hlt];rw[JO hlt]at hx;cases hx;rfl
  rw[hd]at h2;obtain⟨ok2,h2⟩:=(show J'.ok H2'/\_ from h2);refine .inr ⟨wk.go H2' H2 i k2 s2.hp ok2 hlt,fun σ3 H3=>∃σ3' H3',SR X.K B σ3' H3' σ3 H3/\Ev H1' H1 H3' H3/\eE J'.ok g t D' (J'.items.drop (i+1)) σ3' H3',?_,fun x H3 y=>?_⟩
  ·rintro σ3 H3 ⟨σ3',H3',s3,e3,h3⟩;exact⟨J'.items.length - (i+1),by omega,hlt,rfl,σ3',H3',s3,e3,h3⟩
  ·obtain⟨hr3,ev3,rx⟩:=wk.yld H2' H2 i x H3 k2 s2.hp ok2 y;have s2b:=s2.kp ev3 hr3;have e2b:=e2.trans ev3;refine⟨x',σ2',H2',_,rx x' hx,s2b,h2,fun σ3' H3' σ3 H3 h3 s3 e3=>⟨σ3',H3',_,s3,h3,?_,?_,?_,?_⟩⟩
   ·intro σ4' H4' σ4 H4 h4 s4 e4;exact⟨σ4',H4',s4,e2b.trans (e3.trans e4),h4⟩
   ·intro v' H4' v H4 h4 r4 s4 e4;exact d.rt _ _ _ _ h4 r4 s4 (e1.trans (e2b.trans (e3.trans e4)))
   ·intro σ4' H4' σ4 H4 h4 s4 e4;exact d.nx _ _ _ _ h4 s4 (e1.trans (e2b.trans (e3.trans e4)))
   ·intro σ4' H4' σ4 H4 h4 s4 e4;exact⟨σ4',H4',s4,e2b.trans (e3.trans e4),h4⟩
 ·have hi':i=J'.items.length:=by omega
  subst hi';rw[List.drop_length]at h2;obtain⟨ok2,h2⟩:=(show J'.ok H2'/\_ from h2);exact .inl ⟨wk.stop H2' H2 k2 s2.hp ok2,d.nx _ _ _ _ h2 s2 (e1.trans e2)⟩
theorem aZ{iter tg:Expr}{body:List Stmt}{wi:TI'}{g:TG'}(hp:PassesOwn (model X.prog X.w) X.A X.env X.xe)(hc:X.calm=true)(hi:PI' X B tg iter wi)(hg:PG' X B tg g)(hb:jd X B body t)
  (hs:∀x,foldedSetIterable iter X.env x=pure x:=by intro _;rfl):PS' X B (.For tg iter body [] pos) (BH wi g t):=fZ hp hc (iY hi) hg hb hs
def uH(x:PV)(H1:PHp)(R:It'->PHp->Prop):Prop:=match x with
 | .tup l=>R ⟨l,fun _=>True⟩ H1
 | .fls l=>R ⟨l,fun _=>True⟩ H1
 | .ref a=>∃l,H1 a=some (.lst l)/\R ⟨l,fun H=>H a=some (.lst l)⟩ H1
 | _=>False
def zi(ta:TE'):TI':=fun σ H R=>ta σ H fun x H1=>uH x H1 R
def JA(K:LFr)(tl:TE):TI:=fun σ H R=>tl σ H fun x H1=>∃a,x=.ref a/\((∃xs,SqL K H1 a xs)/\R (Itl K a) H1∨(∃xs,SqT K H1 a xs)/\R (Itt K a) H1)
theorem AS{tg l:Expr}{tl:TE}(hl:PE X l tl):PI X tg l (JA X.K tl):=by
 intro pins s σ H R I h;refine thn (hl pins s σ H _ I h) fun v s1 y_=>?_;obtain⟨x,H1,I1,r1,q1⟩:=y_;obtain⟨a,e,⟨⟨xs,hq⟩,q⟩ |⟨⟨xs,hq⟩,q⟩⟩:=q1
 ·subst e;cases r1;obtain⟨its,rv,p,hz⟩:=I1.list hq;refine wpAny_pyIter_list p.isList ?_;refine⟨s1.heap.objs.size,[s1.heap.objs.size],_,_,H1,rfl,I1.kept (t':=s1.toks) fun b o e=>JR _ e,rm a _,⟨_,JZ _ rfl,rfl,rfl⟩,fun b hb=>?_,q⟩;have e:b=s1.heap.objs.size:=by simpa using hb
  subst e;exact I1.fpOk (JW _) (I1.hok.fresh (JW _))
 ·subst e;cases r1;obtain⟨its,rv,p,hz⟩:=I1.tuple hq;refine wpAny_pyIter_tuple (show s1.heap.IsTuple a its.toArray from p) ?_;refine⟨s1.heap.objs.size,[s1.heap.objs.size],_,_,H1,rfl,I1.kept (t':=s1.toks) fun b o e=>JR _ e,nC a _,⟨_,JZ _ rfl,rfl,rfl⟩,fun b hb=>?_,q⟩;have e:b=s1.heap.objs.size:=by simpa using hb
  subst e;exact I1.fpOk (JW _) (I1.hok.fresh (JW _))
theorem iC{K:LFr}{H1:Hp}{J':It'}{a:Addr}(h:∀H' H,Kp H1 H->HR K H' H->J'.ok H'->∃us,SqL K H a us/\RPs K H J'.items us):Walks K H1 (Itl K a) J' where
 go:=fun H' H i k s o hi=>by
  obtain⟨us,q,r⟩:=h H' H k s o;obtain⟨u,e,_⟩:=RPs.get _ r (JO hi);exact⟨us,u,q,e⟩
 yld:=fun H' H i x H2 k s o y=>by
  obtain⟨us,q,r⟩:=h H' H k s o;refine⟨y.1,fun x' hx=>?_⟩;obtain⟨u,e,ru⟩:=RPs.get _ r hx;have:=y.2 us q;rw[e]at this;cases this;exact ru
 stop:=fun H' H i k s o hi=>by
  obtain⟨us,q,r⟩:=h H' H k s o;exact⟨us,q,by rw[RPs.length _ r];exact hi⟩
theorem rk{K:LFr}{H1:Hp}{J':It'}{a:Addr}(h:∀H' H,Kp H1 H->HR K H' H->J'.ok H'->∃us,SqT K H a us/\RPs K H J'.items us):Walks K H1 (Itt K a) J' where
 go:=fun H' H i k s o hi=>by
  obtain⟨us,q,r⟩:=h H' H k s o;obtain⟨u,e,_⟩:=RPs.get _ r (JO hi);exact⟨us,u,q,e⟩
 yld:=fun H' H i x H2 k s o y=>by
  obtain⟨us,q,r⟩:=h H' H k s o;refine⟨y.1,fun x' hx=>?_⟩;obtain⟨u,e,ru⟩:=RPs.get _ r hx;have:=y.2 us q;rw[e]at this;cases this;exact ru
 stop:=fun H' H i k s o hi=>by
  obtain⟨us,q,r⟩:=h H' H k s o;exact⟨us,q,by rw[RPs.length _ r];exact hi⟩
theorem aI{tg:Expr}(ha:PE' X B a ta):PI' X B tg a (zi ta):=dO (AS ha) fun σ H R y_=>by
 obtain⟨σ',H',R',s,h,k⟩:=y_;refine⟨σ',H',_,s,h,fun x' H1' x H1 h1 r1 s1 e1=>?_⟩;cases x' with
 | tup l =>
  simp only[RP]at r1;obtain⟨p,us,rfl,q,r⟩:=r1;exact⟨p,rfl,.inr ⟨⟨us,q⟩,k _ H1' _ H1 h1 (rk fun _ H2 k2 _ _=>⟨us,k2.sqT q,RPs.kp _ k2 r⟩) s1 e1⟩⟩
 | fls l =>
  simp only[RP]at r1;obtain⟨p,us,rfl,q,r⟩:=r1;exact⟨p,rfl,.inl ⟨⟨us,q.sq⟩,k _ H1' _ H1 h1 (iC fun _ H2 k2 _ _=>⟨us,(k2.fzL q).sq,RPs.kp _ k2 r⟩) s1 e1⟩⟩
 | ref p =>
  simp only[RP]at r1;obtain⟨l,q,h1⟩:=h1;obtain⟨us,q2,r⟩:=s1.hp _ _ q;refine⟨p,r1,.inl ⟨⟨us,SqL.of q2⟩,k _ H1' _ H1 h1 (iC fun H2' H2 k2 s2 o2=>?_) s1 e1⟩⟩;obtain⟨us2,q3,r3⟩:=s2 _ _ o2;exact⟨us2,SqL.of q3,r3⟩
 | _=>exact h1.elim
def bN(lo:Int)(n:Nat):List PV:=(List.range n).map fun k=>PV.int (lo+(k:Nat))
theorem qQ{K:LFr}{H1:Hp}{lo:Int}{n:Nat}:Walks K H1 (Itr lo n) ⟨bN lo n,fun _=>True⟩ where
 go:=fun H' H i k s o hi=>by
  have h:i<n:=by simpa[bN]using hi
  exact h
 yld:=fun H' H i x H2 k s o y=>by
  obtain⟨e,rfl⟩:=y;refine⟨e,fun x' hx=>?_⟩;simp only[bN,JV]at hx;cases q:(List.range n)[i]? with
  | none=>rw[q]at hx;cases hx
  | some j =>
   rw[q]at hx;obtain⟨h1,h2⟩:=JS.mp q;rw[List.getElem_range]at h2;subst h2;cases hx;simp[RP]
 stop:=fun H' H i k s o hi=>by
  have h:n≤i:=by simpa[bN]using hi
  exact h
def vX(vs:List PV)(H1:PHp)(R:It'->PHp->Prop):Prop:=match vs with
 | [.int j]=>(-(2 ^ 62)≤j/\j<2 ^ 62)/\R ⟨bN 0 j.toNat,fun _=>True⟩ H1
 | _=>False
def zA(t:TA'):TI':=fun σ H R=>t σ H fun vs H1=>vX vs H1 R
def Ao(vs:List PV)(H1:PHp)(R:It'->PHp->Prop):Prop:=match vs with
 | [.int i,.int j]=>(-(2 ^ 62)≤i/\i<2 ^ 62/\-(2 ^ 62)≤j/\j<2 ^ 62)/\R ⟨bN i (j - i).toNat,fun _=>True⟩ H1
 | _=>False
def Fd(t:TA'):TI':=fun σ H R=>t σ H fun vs H1=>Ao vs H1 R
theorem aR{tg:Expr}{t:TA'}{p:Pos}(hg:Gl X "range")(hm:X.mg "range"=none)(ha:PA' X B [a] t)(hs:starEach [a] X.env=[(false,eval a X.env)]:=by rfl):PI' X B tg (.Call (.Name "range" p) [a] [] pos) (zA t) :=
 dO (rC hg hm ha hs) fun σ H R y_=>by
 obtain⟨σ',H',R',s,h,k⟩:=y_;refine⟨σ',H',_,s,h,fun vs' H1' vs H1 h1 r1 s1 e1=>?_⟩;unfold vX at h1;split at h1
 ·rename_i j;simp only[RPs,RP]at r1;obtain⟨u,r,rfl,rfl,rfl⟩:=r1;exact⟨j,rfl,h1.1.1,h1.1.2,k _ H1' _ H1 h1.2 qQ s1 e1⟩
 ·exact h1.elim
end
end
section
variable {B:Bs}
abbrev Sp':=List PV->PHp->VK'->XK'->Prop
def gU(K:LFr)(sp:Sp'):Sp:=fun vs H Q E=>∃vs' H' Q' E',RPs K H vs' vs/\HR K H' H/\sp vs' H' Q' E'/\(∀v' H1' v H1,Q' v' H1'->RP K H1 v' v->HR K H1' H1->Ev H' H H1' H1->Q v H1) /\
 (∀c d H1' H1,E' c d H1'->HR K H1' H1->Ev H' H H1' H1->E c d H1)
abbrev aM(P:Program)(w:World)(K:LFr)(mg:Str->Option Value)(base:Heap)(CX:CXT)(k:Nat)(f:Addr)(fd:FuncData)(ps:List Str)(sp:Sp'):Prop:=eW P w K mg base CX k f fd ps (gU K sp)
def gE(N:List Str)(vs:List PV):St':=vs.map some++List.replicate (N.length - vs.length) none
theorem sJ{K:LFr}{N:List Str}{vs':List PV}{vs:List V}{H':PHp}{H:Hp}(r:RPs K H vs' vs)(h:HR K H' H):SR K (H',H) (gE N vs') H' (L2.start N vs) H:=by
 have hl:=RPs.length _ r;refine⟨by simp[gE,L2.start,hl],fun i v' e=>?_,h,Ev.refl _ _⟩;unfold gE at e;unfold L2.start;by_cases hi:i<vs'.length
 ·rw[Kz (by simpa using hi)]at e;rw[Kz (by simpa[hl]using hi)];rw[JV]at e ⊢;cases q:vs'[i]? with
  | none=>rw[q]at e;cases e
  | some w =>
   rw[q]at e;cases e;obtain⟨u,e1,e2⟩:=RPs.get _ r q;exact⟨u,by rw[e1];rfl,e2⟩
 ·rw[Kv (by simpa using hi)]at e;rw[LQ]at e;split at e<;>cases e
def ends(Q:VK'):dz where
 nx:=fun _ H=>∃H3,Sub H3 H/\Q .non H3
 rt:=fun v H=>∃H3,Sub H3 H/\Q v H3
section
variable {P:Program}{w:World}{K:LFr}{mg:Str->Option Value}{base:Heap}
theorem okU{x qual:Str}{st:Stmt}{f:Addr}{fd:FuncData}{N ps:List Str}{k:Nat}{sp:Sp'}(F:Fun K x qual st f fd)(S:ay N ps (av st))(len:∀vs H Q E,sp vs H Q E->vs.length=ps.length)
  (hbody:∀(cdv:Value) (A:Around) (outer:List Env) (s:Shared) (H:Hp) (E:XK) (B:Bs),b9 k (A.deeper (envOfC qual (av st) s.heap.objs.size f cdv)) ->
   ∃t,jd (nM CX0 P w K mg base N qual (av st) f cdv A outer s H E).nox B (eJ st) t/\∀vs' H' Q' E',sp vs' H' Q' E'->t (ends Q') (gE N vs') H'):aM P w K mg base CX0 (k+1) f fd ps sp:=by
 refine F.ok S (fun vs H Q E zz=>?_) (fun cdv A outer s H vs Q E hr h=>?_)
 ·obtain⟨vs',H',Q',E',r,hr,h,_⟩:=zz;rw[RPs.length _ r];exact len _ _ _ _ h
 ·obtain⟨vs',H',Q',E',r,hh,h,k1,k2⟩:=h;obtain⟨t,ht,hq⟩:=hbody cdv A outer s H E (H',H) hr;refine⟨_,ht,gE N vs',H',_,sJ r hh,hq vs' H' Q' E' h,?_,?_,?_,?_⟩
  ·rintro σ1' H1' σ1 H1 ⟨H3,sb,q⟩ s1 e1;exact k1 _ H3 _ H1 q (by simp[RP]) (s1.hp.sub sb) (e1.sub sb)
  ·rintro v' H1' v H1 ⟨H3,sb,q⟩ r1 s1 e1;exact k1 _ H3 _ H1 q r1 (s1.sub sb) (e1.sub sb)
  ·intro _ _ _ _ z;exact z.elim
  ·intro _ _ _ _ z;exact z.elim
end
section
variable {X:Cx}{CX:CXT}{k:Nat}{f C:Addr}{fd:FuncData}{ps:List Str}{sp:Sp'}{E:XK}{E':XK'}{x m:Str}{p pos apos:Pos}{e o:Expr}{es:List Expr}{ta:TE'}{t:TA'}
def uy(sp:Sp')(E':XK')(t:TA'):TE':=fun σ H Q=>t σ H fun vs H1=>sp vs H1 Q E'
abbrev X0:XK':=fun _ _ _=>False
theorem rR{K:LFr}{σ:L2.St}{H:Hp}{Q:VK}(h:low K B (uy sp X0 t) σ H Q):zP (gU K sp) [] E0 (vp K B t) σ H Q:=by
 obtain⟨σ',H',Q',s,h,k⟩:=h;refine⟨σ',H',_,s,h,fun vs' H1' vs H1 h1 r1 s1 e1=>?_⟩;show gU K sp (vs++[]) H1 Q E0;rw[K4];exact⟨vs',H1',Q',X0,r1,s1.hp,h1,fun v' H2' v H2 q r2 h2 e2=>k v' H2' v H2 q r2 (s1.kp e2 h2) (e1.trans e2),fun _ _ _ _ z=>z.elim⟩
theorem au(F:aM X.prog X.w X.K X.mg X.base CX0 k f fd ps sp)(hr:b9 k X.A)(hg:Gl X x)(hm:X.mg x=some (.ref f))(hk:PySem.W.keepIn X.K (.ref f)=true)(hb:Binds X.K fd ps [])
  (ha:PA' X B (e::es) t) (hdb:(x==("__debug__":Str))=false:=by decide) (he:starEach (e::es) X.env=(false,eval e X.env)::starEach es X.env:=by rfl) (hpl:(backTo pos (starEach es X.env)).any (·.1)=false:=by rfl) :
  PE' X B (.Call (.Name x p) (e::es) [] pos) (uy sp X0 t):=aQ (yS F hr hg hm hk hb .nil pH ha hdb he hpl) fun _ _ _ h=>rR h
theorem FY{K:LFr}{H:Hp}{a:Addr}{xs:List V}(o:rj H)(h:SqL K H a xs):FzL K H a xs:=by
 rcases h with(h | h) | h
 ·rcases o a with z |⟨ob,ys,z⟩
  ·rw[z]at h;cases h
  ·rw[z]at h;cases h
 ·exact .inl h
 ·exact .inr h
def spL:Sp':=fun vs H Q _=>match vs with
 | [.fls l]=>∃ns:List Int,l=ns.map PV.int/\ns.length≤63/\Q (.bl true) H
 | _=>False
theorem rg{K:LFr}{H:Hp}{a:Addr}{ns:List Int}(hl:ns.length≤63)(o:rj H)(h:SqL K H a (ns.map V.int)):gU K spL [.ref a] H (fun v _=>v=.bl true) fun _ _ _=>False:=by
 refine⟨[.fls (ns.map PV.int)],fun _=>none,fun v _=>v=.bl true,X0,?_,fun _ _ z=>(nomatch z),⟨ns,rfl,hl,rfl⟩,fun v' _ v _ q r _ _=>?_,fun _ _ _ _ z=>z.elim⟩
 ·refine RPs.cons _ ?_ (RPs.nil _);simp only[RP];exact⟨a,_,rfl,FY o h,RPs.ints _ _⟩
 ·subst q;simpa[RP]using r
end
end
section
variable {B:Bs}
mutual
def deq:PV->PV->Bool
 | .non,.non=>true
 | .bl a,.bl b=>a==b
 | .int a,.int b=>a==b
 | .bl a,.int b=>(if a then 1 else 0)==b
 | .int a,.bl b=>a==(if b then 1 else 0)
 | .str a,.str b=>a==b
 | .tup l,.tup m=>d8 l m
 | .fls l,.fls m=>d8 l m
 | _,_=>false
def d8:List PV->List PV->Bool
 | [],[]=>true
 | x::l,y::m=>deq x y&&d8 l m
 | _,_=>false
end
def flat:Nat->PV->Bool
 | _,.non=>true
 | _,.bl _=>true
 | _,.int _=>true
 | _,.str _=>true
 | n+1,.tup l=>l.all (flat n)
 | n+1,.fls l=>l.all (flat n)
 | _,_=>false
theorem cq:∀(l m:List PV),d8 l m=((List.range (min l.length m.length)).all (fun i=>deq (l.getD i .non) (m.getD i .non))&&l.length==m.length)
 | [],[]=>by simp[d8]
 | [],_::_=>by simp[d8]
 | _::_,[]=>by simp[d8]
 | x::l,y::m=>by
  simp only[d8,cq l m,Kt];rw[show min (l.length+1) (m.length+1)=min l.length m.length+1 by omega,List.range_succ_eq_map,List.all_cons,List.all_map];simp only[List.getD_cons_zero,Bool.and_assoc];congr 1;congr 1;simp
theorem gF{n:Nat}:∀(l:List PV),(∀x∈l,deq x x=true)->d8 l l=true
 | [],_=>rfl
 | x::l,h=>by
  have h1:=h x (by simp);have h2:=gF (n:=n) l fun y hy=>h y (by simp[hy]);simp only[d8,h1,h2,Bool.and_self]
theorem gr:∀{n:Nat} {x:PV},flat n x=true->deq x x=true
 | _,.non,_=>by simp[deq]
 | _,.bl _,_=>by simp[deq]
 | _,.int _,_=>by simp[deq]
 | _,.str _,_=>by simp[deq]
 | n+1,.tup l,h=>by
  simp only[flat,Ky]at h;simp only[deq];exact gF (n:=0) l fun x hx=>gr (h x hx)
 | n+1,.fls l,h=>by
  simp only[flat,Ky]at h;simp only[deq];exact gF (n:=0) l fun x hx=>gr (h x hx)
 | 0,.tup _,h=>by cases h
 | 0,.fls _,h=>by cases h
 | n,.ref _,h=>by cases n<;>cases h
 | n,.oth _,h=>by cases n<;>cases h
section
variable {X:Cx}{pins:List (Addr×Obj)}{σ:L2.St}{H:Hp}{s:Shared}
def RR(K:LFr)(H:Hp)(x:PV)(u:Value):Prop:=∃v,RP K H x v/\RelV v u
def RL(K:LFr)(H:Hp)(l:List PV)(us:List Value):Prop:=∃vs,RPs K H l vs/\Vals vs us
def RD(K:LFr)(H:Hp)(x:PV)(u:Value):Prop:=match x with
 | .fls l=>∃a vs,u=.ref a/\SqL K H a vs/\RPs K H l vs
 | x=>RR K H x u
theorem RL.get{K:LFr}{l:List PV}{us:List Value}(r:RL K H l us){i:Nat}{u:Value}(e:us[i]?=some u):∃x,l[i]?=some x/\RR K H x u:=by
 obtain⟨vs,r1,r2⟩:=r;have hl:=r2.length;have hl2:=RPs.length _ r1;have hi:i<l.length:=by
  have:=(JS.mp e).1;omega
 obtain⟨v,e1,e2⟩:=RPs.get _ r1 (JO hi);obtain⟨w,e3,e4⟩:=r2.get e1;rw[e]at e3;cases e3;exact⟨_,JO hi,v,e2,e4⟩
theorem RL.length{K:LFr}{l:List PV}{us:List Value}(r:RL K H l us):us.length=l.length:=by
 obtain⟨vs,r1,r2⟩:=r;rw[←r2.length,RPs.length _ r1]
theorem RR.rd{K:LFr}{x:PV}{u:Value}(r:RR K H x u):RD K H x u:=by
 cases x with
 | fls l =>
  obtain⟨v,r1,r2⟩:=r;simp only[RP]at r1;obtain⟨a,us,rfl,q,rr⟩:=r1;cases r2;exact⟨a,us,rfl,q.sq,rr⟩
 | _=>exact r
theorem bW(I:Inv X pins σ H s){l:List PV}{u:Value}(r:RD X.K H (.tup l) u):∃a its,u=.ref a/\RL X.K H l its/\s.heap.IsTuple a its.toArray:=by
 obtain⟨v,r1,r2⟩:=r;simp only[RP]at r1;obtain⟨a,us,rfl,q,rr⟩:=r1;cases r2;obtain⟨its,rv,p,_⟩:=I.tuple q;exact⟨a,its,rfl,⟨us,rr,rv⟩,p⟩
theorem bX(I:Inv X pins σ H s){l:List PV}{u:Value}(r:RD X.K H (.fls l) u):∃a its,u=.ref a/\RL X.K H l its/\s.heap.IsList a its.toArray:=by
 obtain⟨a,us,rfl,q,rr⟩:=r;obtain⟨its,rv,p,_⟩:=I.list q;exact⟨a,its,rfl,⟨us,rr,rv⟩,p.isList⟩
theorem kX{a:Addr}{x y:Array Value}(h1:s.heap.IsTuple a x)(h2:s.heap.IsTuple a y):x=y:=by
 obtain⟨o,e,c,n,d⟩:=h1;obtain⟨o',e',c',n',d'⟩:=h2;rw[e]at e';cases e';rw[d]at d';cases d';rfl
theorem nS{a:Addr}{x y:Array Value}(h1:s.heap.IsList a x)(h2:s.heap.IsList a y):x=y:=by
 obtain⟨o,e,c,n,d⟩:=h1;obtain⟨o',e',c',n',d'⟩:=h2;rw[e]at e';cases e';rw[d]at d';cases d';rfl
theorem lQ{a:Addr}{x y:Array Value}(h1:s.heap.IsTuple a x)(h2:s.heap.IsList a y):False:=by
 obtain⟨o,e,c,n,d⟩:=h1;obtain⟨o',e',c',n',d'⟩:=h2;rw[e]at e';cases e';rw[c]at c';exact absurd c' (by decide)
theorem RL.list_inj{K:LFr}{n:Nat}(ih:∀{x y:PV} {u:Value},flat n x=true->flat n y=true->RD K H x u->RD K H y u->x=y){l m:List PV}{us:List Value}(h1:l.all (flat n)=true)(h2:m.all (flat n)=true)
  (r1:RL K H l us) (r2:RL K H m us):l=m:=by
 rw[Ky]at h1 h2;refine List.ext_getElem? fun i=>?_;cases e:us[i]? with
 | none =>
  have:=LN.mp e;rw[LF (by rw[←r1.length];exact this),LF (by rw[←r2.length];exact this)]
 | some u =>
  obtain⟨x,ex,rx⟩:=r1.get e;obtain⟨y,ey,ry⟩:=r2.get e;rw[ex,ey,ih (h1 x (JX ex)) (h2 y (JX ey)) rx.rd ry.rd]
theorem kx(I:Inv X pins σ H s):∀(n:Nat) {x y:PV} {u:Value},flat n x=true->flat n y=true->RD X.K H x u->RD X.K H y u->x=y:=by
 have sc:∀{x:PV} {u:Value},RD X.K H x u->(∀l,x≠.fls l)->RR X.K H x u:=fun {x u} r h=>by
  cases x with
  | fls l=>exact absurd rfl (h l)
  | _=>exact r
 intro n
 induction n with
 | zero =>
  intro x y u hx hy rx ry;cases x<;>first |(cases hx;done) | skip
  all_goals cases y<;>first |(cases hy;done) | skip
  all_goals
   obtain⟨v,r1,r2⟩:=sc rx (by intro l z;cases z);obtain⟨v',r1',r2'⟩:=sc ry (by intro l z;cases z);simp only[RP]at r1 r1';subst r1;subst r1';have:=RelV.inj r2 r2'
   first | rfl |(cases this;done) |(cases this;rfl)
 | succ n ih =>
  intro x y u hx hy rx ry;cases x with
  | tup l =>
   obtain⟨a,its,rfl,rl,p⟩:=bW I rx;cases y with
   | tup m =>
    obtain⟨b,its',e,rl',p'⟩:=bW I ry;cases e;have:=kX p p';have e2:its=its':=by simpa using this
    subst e2;rw[RL.list_inj (n:=n) ih hx hy rl rl']
   | fls m =>
    obtain⟨b,its',e,rl',p'⟩:=bX I ry;cases e;exact(lQ p p').elim
   | ref a=>cases hy
   | oth a=>cases hy
   | _ =>
    obtain⟨v',r1',r2'⟩:=sc ry (by intro l z;cases z);simp only[RP]at r1';subst r1';simp[L2.RelV]at r2'
  | fls l =>
   obtain⟨a,its,rfl,rl,p⟩:=bX I rx;cases y with
   | tup m =>
    obtain⟨b,its',e,rl',p'⟩:=bW I ry;cases e;exact(lQ p' p).elim
   | fls m =>
    obtain⟨b,its',e,rl',p'⟩:=bX I ry;cases e;have:=nS p p';have e2:its=its':=by simpa using this
    subst e2;rw[RL.list_inj (n:=n) ih hx hy rl rl']
   | ref a=>cases hy
   | oth a=>cases hy
   | _ =>
    obtain⟨v',r1',r2'⟩:=sc ry (by intro l z;cases z);simp only[RP]at r1';subst r1';simp[L2.RelV]at r2'
  | ref a=>cases hx
  | oth a=>cases hx
  | _ =>
   cases y with
   | tup m =>
    obtain⟨b,its',e,rl',p'⟩:=bW I ry;subst e;obtain⟨v',r1',r2'⟩:=sc rx (by intro l z;cases z);simp only[RP]at r1';subst r1';simp[L2.RelV]at r2'
   | fls m =>
    obtain⟨b,its',e,rl',p'⟩:=bX I ry;subst e;obtain⟨v',r1',r2'⟩:=sc rx (by intro l z;cases z);simp only[RP]at r1';subst r1';simp[L2.RelV]at r2'
   | ref a=>cases hy
   | oth a=>cases hy
   | _ =>
    obtain⟨v,r1,r2⟩:=sc rx (by intro l z;cases z);obtain⟨v',r1',r2'⟩:=sc ry (by intro l z;cases z);simp only[RP]at r1 r1';subst r1;subst r1';have:=RelV.inj r2 r2'
    first | rfl |(cases this;done) |(cases this;rfl)
open SeqAt in
theorem ix(I:Inv X pins σ H s):∀(n:Nat) {A:Around} {x y:PV} {u w:Value},A.units+n<cLine->flat n x=true->flat n y=true->RD X.K H x u->RD X.K H y w->EqAt A s u w (deq x y)/\RcAt A s u w (deq x y):=by
 have sc:∀{x:PV} {u:Value},RD X.K H x u->(∀l,x≠.fls l)->RR X.K H x u:=fun {x u} r h=>by
  cases x with
  | fls l=>exact absurd rfl (h l)
  | _=>exact r
 have v_non:∀{u:Value},RD X.K H .non u->u=.none:=fun {u} r=>by
  obtain⟨v,r1,r2⟩:=sc r (by intro l z;cases z);simp only[RP]at r1;subst r1;exact r2
 have v_bl:∀{b:Bool} {u:Value},RD X.K H (.bl b) u->u=.bool b:=fun {b u} r=>by
  obtain⟨v,r1,r2⟩:=sc r (by intro l z;cases z);simp only[RP]at r1;subst r1;exact r2
 have v_int:∀{i:Int} {u:Value},RD X.K H (.int i) u->∃t,u=.int i t:=fun {b u} r=>by
  obtain⟨v,r1,r2⟩:=sc r (by intro l z;cases z);simp only[RP]at r1;subst r1;exact r2
 have v_str:∀{i:Str} {u:Value},RD X.K H (.str i) u->∃t,u=.str i t:=fun {b u} r=>by
  obtain⟨v,r1,r2⟩:=sc r (by intro l z;cases z);simp only[RP]at r1;subst r1;exact r2
 intro n
 induction n with
 | zero =>
  intro A x y u w hu hx hy rx ry;cases x with
  | non =>
   rw[v_non rx];cases y with
   | non=>rw[v_non ry];exact⟨EqAt.same _,RcAt.none_none⟩
   | bl b=>rw[v_bl ry];exact⟨EqAt.none_bool b,RcAt.none_bool b⟩
   | int b=>obtain⟨t,rfl⟩:=v_int ry;exact⟨EqAt.none_int b t,RcAt.none_int b t⟩
   | str b=>obtain⟨t,rfl⟩:=v_str ry;exact⟨EqAt.none_str b t,RcAt.none_str b t⟩
   | _=>cases hy
  | bl a =>
   rw[v_bl rx];cases y with
   | non=>rw[v_non ry];exact⟨EqAt.bool_none a,RcAt.bool_none a⟩
   | bl b=>rw[v_bl ry];exact⟨EqAt.bool_bool a b,RcAt.bool_bool a b⟩
   | int b=>obtain⟨t,rfl⟩:=v_int ry;exact⟨EqAt.bool_int a b t,RcAt.bool_int a b t⟩
   | str b=>obtain⟨t,rfl⟩:=v_str ry;exact⟨EqAt.bool_str a b t,RcAt.bool_str a b t⟩
   | _=>cases hy
  | int a =>
   obtain⟨t0,rfl⟩:=v_int rx;cases y with
   | non=>rw[v_non ry];exact⟨EqAt.int_none a t0,RcAt.int_none a t0⟩
   | bl b=>rw[v_bl ry];exact⟨EqAt.int_bool a t0 b,RcAt.int_bool a t0 b⟩
   | int b=>obtain⟨t,rfl⟩:=v_int ry;exact⟨EqAt.int_int a t0 b t,RcAt.int_int a t0 b t⟩
   | str b=>obtain⟨t,rfl⟩:=v_str ry;exact⟨EqAt.int_str a t0 b t,RcAt.int_str a t0 b t⟩
   | _=>cases hy
  | str a =>
   obtain⟨t0,rfl⟩:=v_str rx;cases y with
   | non=>rw[v_non ry];exact⟨EqAt.str_none a t0,RcAt.str_none a t0⟩
   | bl b=>rw[v_bl ry];exact⟨EqAt.str_bool a t0 b,RcAt.str_bool a t0 b⟩
   | int b=>obtain⟨t,rfl⟩:=v_int ry;exact⟨EqAt.str_int a t0 b t,RcAt.str_int a t0 b t⟩
   | str b=>obtain⟨t,rfl⟩:=v_str ry;exact⟨EqAt.str_str a t0 b t,RcAt.str_str a t0 b t⟩
   | _=>cases hy
  | _=>cases hx
 | succ n ih =>
  intro A x y u w hu hx hy rx ry;have hu0:A.units<cLine:=by omega
  have hu1:A.in1.units+n<cLine:=by show A.units+1+n<cLine;omega
  cases x with
  | tup l =>
   obtain⟨a,its,rfl,rl,p⟩:=bW I rx;cases y with
   | non=>rw[v_non ry];exact⟨EqAt.tuple_none p hu0,RcAt.tuple_none p hu0⟩
   | bl b=>rw[v_bl ry];exact⟨EqAt.tuple_bool b p hu0,RcAt.tuple_bool b p hu0⟩
   | int b=>obtain⟨t,rfl⟩:=v_int ry;exact⟨EqAt.tuple_int b t p hu0,RcAt.tuple_int b t p hu0⟩
   | str b=>obtain⟨t,rfl⟩:=v_str ry;exact⟨EqAt.tuple_str b t p hu0,RcAt.tuple_str b t p hu0⟩
   | tup m =>
    obtain⟨b,its',rfl,rl',p'⟩:=bW I ry;have key:RcAt A s (.ref a) (.ref b) (deq (.tup l) (.tup m)):=by
     have:=RcAt.tuples (e:=fun i=>deq (l.getD i .non) (m.getD i .non)) p p' hu0 fun j h1 h2=>by
      have h1':j<its.length:=by simpa using h1
      have h2':j<its'.length:=by simpa using h2
      obtain⟨x,ex,rx'⟩:=rl.get (JO h1');obtain⟨y,ey,ry'⟩:=rl'.get (JO h2');have q:=ih hu1 (Ky.mp hx x (JX ex)) (Ky.mp hy y (JX ey)) rx'.rd ry'.rd;have e1:l.getD j .non=x:=by rw[JQ,ex];rfl
      have e2:m.getD j .non=y:=by rw[JQ,ey];rfl
      rw[e1,e2];simpa using q.1
     have e:deq (.tup l) (.tup m)=((List.range (min its.toArray.size its'.toArray.size)).all (fun i=>deq (l.getD i .non) (m.getD i .non))&&its.toArray.size==its'.toArray.size):=by
      simp only[deq,cq,Kb,rl.length,rl'.length]
     rw[e];exact this
    refine⟨?_,key⟩;by_cases hab:a=b
    ·subst hab;have:=kx I (n+1) hx hy rx ry;rw[←this,gr hx];exact EqAt.same _
    ·exact EqAt.of_refs hab key
   | fls m =>
    obtain⟨b,its',rfl,rl',p'⟩:=bX I ry;exact⟨EqAt.tuple_list p p' hu0,RcAt.tuple_list p p' hu0⟩
   | _=>cases hy
  | fls l =>
   obtain⟨a,its,rfl,rl,p⟩:=bX I rx;cases y with
   | non=>rw[v_non ry];exact⟨EqAt.list_none p hu0,RcAt.list_none p hu0⟩
   | bl b=>rw[v_bl ry];exact⟨EqAt.list_bool b p hu0,RcAt.list_bool b p hu0⟩
   | int b=>obtain⟨t,rfl⟩:=v_int ry;exact⟨EqAt.list_int b t p hu0,RcAt.list_int b t p hu0⟩
   | str b=>obtain⟨t,rfl⟩:=v_str ry;exact⟨EqAt.list_str b t p hu0,RcAt.list_str b t p hu0⟩
   | tup m =>
    obtain⟨b,its',rfl,rl',p'⟩:=bW I ry;exact⟨EqAt.list_tuple p p' hu0,RcAt.list_tuple p p' hu0⟩
   | fls m =>
    obtain⟨b,its',rfl,rl',p'⟩:=bX I ry;have key:RcAt A s (.ref a) (.ref b) (deq (.fls l) (.fls m)):=by
     by_cases hs:its.length=its'.length
     ·have:=RcAt.lists (e:=fun i=>deq (l.getD i .non) (m.getD i .non)) p p' (by simpa using hs) hu0 fun j h1 h2=>by
       have h1':j<its.length:=by simpa using h1
       have h2':j<its'.length:=by simpa using h2
       obtain⟨x,ex,rx'⟩:=rl.get (JO h1');obtain⟨y,ey,ry'⟩:=rl'.get (JO h2');have q:=ih hu1 (Ky.mp hx x (JX ex)) (Ky.mp hy y (JX ey)) rx'.rd ry'.rd;have e1:l.getD j .non=x:=by rw[JQ,ex];rfl
       have e2:m.getD j .non=y:=by rw[JQ,ey];rfl
       rw[e1,e2];simpa using q.1
      have e:deq (.fls l) (.fls m)=(List.range its.toArray.size).all (fun i=>deq (l.getD i .non) (m.getD i .non)):=by
       have e0:l.length=m.length:=by rw[←rl.length,← rl'.length];exact hs
       simp[deq,cq,rl.length,e0]
      rw[e];exact this
     ·have e:deq (.fls l) (.fls m)=false:=by
       have e0:l.length≠m.length:=by rw[←rl.length,← rl'.length];exact hs
       simp[deq,cq,e0]
      rw[e];exact RcAt.lists_lengths p p' (by simpa using hs) hu0
    refine⟨?_,key⟩;by_cases hab:a=b
    ·subst hab;have:=kx I (n+1) hx hy rx ry;rw[←this,gr hx];exact EqAt.same _
    ·exact EqAt.of_refs hab key
   | _=>cases hy
  | ref a=>cases hx
  | oth a=>cases hx
  | non =>
   cases y with
   | tup m=>obtain⟨b,its',rfl,rl',p'⟩:=bW I ry;rw[v_non rx];exact⟨EqAt.none_tuple p' hu0,RcAt.none_tuple p' hu0⟩
   | fls m=>obtain⟨b,its',rfl,rl',p'⟩:=bX I ry;rw[v_non rx];exact⟨EqAt.none_list p' hu0,RcAt.none_list p' hu0⟩
   | ref a=>cases hy
   | oth a=>cases hy
   | _=>exact ih (by omega) (by cases n<;>rfl) (by cases n<;>rfl) rx ry
  | bl i =>
   cases y with
   | tup m=>obtain⟨b,its',rfl,rl',p'⟩:=bW I ry;rw[v_bl rx];exact⟨EqAt.bool_tuple i p' hu0,RcAt.bool_tuple i p' hu0⟩
   | fls m=>obtain⟨b,its',rfl,rl',p'⟩:=bX I ry;rw[v_bl rx];exact⟨EqAt.bool_list i p' hu0,RcAt.bool_list i p' hu0⟩
   | ref a=>cases hy
   | oth a=>cases hy
   | _=>exact ih (by omega) (by cases n<;>rfl) (by cases n<;>rfl) rx ry
  | int i =>
   cases y with
   | tup m=>obtain⟨b,its',rfl,rl',p'⟩:=bW I ry;obtain⟨t,rfl⟩:=v_int rx;exact⟨EqAt.int_tuple i t p' hu0,RcAt.int_tuple i t p' hu0⟩
   | fls m=>obtain⟨b,its',rfl,rl',p'⟩:=bX I ry;obtain⟨t,rfl⟩:=v_int rx;exact⟨EqAt.int_list i t p' hu0,RcAt.int_list i t p' hu0⟩
   | ref a=>cases hy
   | oth a=>cases hy
   | _=>exact ih (by omega) (by cases n<;>rfl) (by cases n<;>rfl) rx ry
  | str i =>
   cases y with
   | tup m=>obtain⟨b,its',rfl,rl',p'⟩:=bW I ry;obtain⟨t,rfl⟩:=v_str rx;exact⟨EqAt.str_tuple i t p' hu0,RcAt.str_tuple i t p' hu0⟩
   | fls m=>obtain⟨b,its',rfl,rl',p'⟩:=bX I ry;obtain⟨t,rfl⟩:=v_str rx;exact⟨EqAt.str_list i t p' hu0,RcAt.str_list i t p' hu0⟩
   | ref a=>cases hy
   | oth a=>cases hy
   | _=>exact ih (by omega) (by cases n<;>rfl) (by cases n<;>rfl) rx ry
end
end
section
variable {B:Bs}
section
variable {X:Cx}{pins:List (Addr×Obj)}{σ:L2.St}{H:Hp}{s:Shared}
open SeqAt in
theorem yG(I:Inv X pins σ H s):∀(n:Nat) {A:Around} {x y:PV} {u w:Value},A.units+n<cLine->flat n x=true->flat n y=true->RD X.K H x u->RD X.K H y w->RcNeAt A s u w (!deq x y):=by
 have sc:∀{x:PV} {u:Value},RD X.K H x u->(∀l,x≠.fls l)->RR X.K H x u:=fun {x u} r h=>by
  cases x with
  | fls l=>exact absurd rfl (h l)
  | _=>exact r
 have v_non:∀{u:Value},RD X.K H .non u->u=.none:=fun {u} r=>by
  obtain⟨v,r1,r2⟩:=sc r (by intro l z;cases z);simp only[RP]at r1;subst r1;exact r2
 have v_bl:∀{b:Bool} {u:Value},RD X.K H (.bl b) u->u=.bool b:=fun {b u} r=>by
  obtain⟨v,r1,r2⟩:=sc r (by intro l z;cases z);simp only[RP]at r1;subst r1;exact r2
 have v_int:∀{i:Int} {u:Value},RD X.K H (.int i) u->∃t,u=.int i t:=fun {b u} r=>by
  obtain⟨v,r1,r2⟩:=sc r (by intro l z;cases z);simp only[RP]at r1;subst r1;exact r2
 have v_str:∀{i:Str} {u:Value},RD X.K H (.str i) u->∃t,u=.str i t:=fun {b u} r=>by
  obtain⟨v,r1,r2⟩:=sc r (by intro l z;cases z);simp only[RP]at r1;subst r1;exact r2
 intro n
 induction n with
 | zero =>
  intro A x y u w hu hx hy rx ry;cases x with
  | non =>
   rw[v_non rx];cases y with
   | non=>rw[v_non ry];exact RcNeAt.none_none
   | bl b=>rw[v_bl ry];exact RcNeAt.none_bool b
   | int b=>obtain⟨t,rfl⟩:=v_int ry;exact RcNeAt.none_int b t
   | str b=>obtain⟨t,rfl⟩:=v_str ry;exact RcNeAt.none_str b t
   | _=>cases hy
  | bl a =>
   rw[v_bl rx];cases y with
   | non=>rw[v_non ry];exact RcNeAt.bool_none a
   | bl b=>rw[v_bl ry];exact RcNeAt.bool_bool a b
   | int b=>obtain⟨t,rfl⟩:=v_int ry;exact RcNeAt.bool_int a b t
   | str b=>obtain⟨t,rfl⟩:=v_str ry;exact RcNeAt.bool_str a b t
   | _=>cases hy
  | int a =>
   obtain⟨t0,rfl⟩:=v_int rx;cases y with
   | non=>rw[v_non ry];exact RcNeAt.int_none a t0
   | bl b=>rw[v_bl ry];exact RcNeAt.int_bool a t0 b
   | int b=>obtain⟨t,rfl⟩:=v_int ry;exact RcNeAt.int_int a t0 b t
   | str b=>obtain⟨t,rfl⟩:=v_str ry;exact RcNeAt.int_str a t0 b t
   | _=>cases hy
  | str a =>
   obtain⟨t0,rfl⟩:=v_str rx;cases y with
   | non=>rw[v_non ry];exact RcNeAt.str_none a t0
   | bl b=>rw[v_bl ry];exact RcNeAt.str_bool a t0 b
   | int b=>obtain⟨t,rfl⟩:=v_int ry;exact RcNeAt.str_int a t0 b t
   | str b=>obtain⟨t,rfl⟩:=v_str ry;exact RcNeAt.str_str a t0 b t
   | _=>cases hy
  | _=>cases hx
 | succ n ih =>
  intro A x y u w hu hx hy rx ry;have hu0:A.units<cLine:=by omega
  have hu1:A.in1.units+n<cLine:=by show A.units+1+n<cLine;omega
  cases x with
  | tup l =>
   obtain⟨a,its,rfl,rl,p⟩:=bW I rx;cases y with
   | non=>rw[v_non ry];exact RcNeAt.tuple_none p hu0
   | bl b=>rw[v_bl ry];exact RcNeAt.tuple_bool b p hu0
   | int b=>obtain⟨t,rfl⟩:=v_int ry;exact RcNeAt.tuple_int b t p hu0
   | str b=>obtain⟨t,rfl⟩:=v_str ry;exact RcNeAt.tuple_str b t p hu0
   | tup m =>
    obtain⟨b,its',rfl,rl',p'⟩:=bW I ry;have key:RcNeAt A s (.ref a) (.ref b) (!deq (.tup l) (.tup m)):=by
     have:=RcNeAt.tuples (e:=fun i=>deq (l.getD i .non) (m.getD i .non)) p p' hu0 fun j h1 h2=>by
      have h1':j<its.length:=by simpa using h1
      have h2':j<its'.length:=by simpa using h2
      obtain⟨x,ex,rx'⟩:=rl.get (JO h1');obtain⟨y,ey,ry'⟩:=rl'.get (JO h2');have q:=ix I n hu1 (Ky.mp hx x (JX ex)) (Ky.mp hy y (JX ey)) rx'.rd ry'.rd;have e1:l.getD j .non=x:=by rw[JQ,ex];rfl
      have e2:m.getD j .non=y:=by rw[JQ,ey];rfl
      rw[e1,e2];simpa using q.1
     have e:deq (.tup l) (.tup m)=((List.range (min its.toArray.size its'.toArray.size)).all (fun i=>deq (l.getD i .non) (m.getD i .non))&&its.toArray.size==its'.toArray.size):=by
      simp only[deq,cq,Kb,rl.length,rl'.length]
     rw[e];exact this
    exact key
   | fls m =>
    obtain⟨b,its',rfl,rl',p'⟩:=bX I ry;exact RcNeAt.tuple_list p p' hu0
   | _=>cases hy
  | fls l =>
   obtain⟨a,its,rfl,rl,p⟩:=bX I rx;cases y with
   | non=>rw[v_non ry];exact RcNeAt.list_none p hu0
   | bl b=>rw[v_bl ry];exact RcNeAt.list_bool b p hu0
   | int b=>obtain⟨t,rfl⟩:=v_int ry;exact RcNeAt.list_int b t p hu0
   | str b=>obtain⟨t,rfl⟩:=v_str ry;exact RcNeAt.list_str b t p hu0
   | tup m =>
    obtain⟨b,its',rfl,rl',p'⟩:=bW I ry;exact RcNeAt.list_tuple p p' hu0
   | fls m =>
    obtain⟨b,its',rfl,rl',p'⟩:=bX I ry;have key:RcNeAt A s (.ref a) (.ref b) (!deq (.fls l) (.fls m)):=by
     by_cases hs:its.length=its'.length
     ·have:=RcNeAt.lists (e:=fun i=>deq (l.getD i .non) (m.getD i .non)) p p' (by simpa using hs) hu0 fun j h1 h2=>by
       have h1':j<its.length:=by simpa using h1
       have h2':j<its'.length:=by simpa using h2
       obtain⟨x,ex,rx'⟩:=rl.get (JO h1');obtain⟨y,ey,ry'⟩:=rl'.get (JO h2');have q:=ix I n hu1 (Ky.mp hx x (JX ex)) (Ky.mp hy y (JX ey)) rx'.rd ry'.rd;have e1:l.getD j .non=x:=by rw[JQ,ex];rfl
       have e2:m.getD j .non=y:=by rw[JQ,ey];rfl
       rw[e1,e2];simpa using q.1
      have e:deq (.fls l) (.fls m)=(List.range its.toArray.size).all (fun i=>deq (l.getD i .non) (m.getD i .non)):=by
       have e0:l.length=m.length:=by rw[←rl.length,← rl'.length];exact hs
       simp[deq,cq,rl.length,e0]
      rw[e];exact this
     ·have e:deq (.fls l) (.fls m)=false:=by
       have e0:l.length≠m.length:=by rw[←rl.length,← rl'.length];exact hs
       simp[deq,cq,e0]
      rw[e];exact RcNeAt.lists_lengths p p' (by simpa using hs) hu0
    exact key
   | _=>cases hy
  | ref a=>cases hx
  | oth a=>cases hx
  | non =>
   cases y with
   | tup m=>obtain⟨b,its',rfl,rl',p'⟩:=bW I ry;rw[v_non rx];exact RcNeAt.none_tuple p' hu0
   | fls m=>obtain⟨b,its',rfl,rl',p'⟩:=bX I ry;rw[v_non rx];exact RcNeAt.none_list p' hu0
   | ref a=>cases hy
   | oth a=>cases hy
   | _=>exact ih (by omega) (by cases n<;>rfl) (by cases n<;>rfl) rx ry
  | bl i =>
   cases y with
   | tup m=>obtain⟨b,its',rfl,rl',p'⟩:=bW I ry;rw[v_bl rx];exact RcNeAt.bool_tuple i p' hu0
   | fls m=>obtain⟨b,its',rfl,rl',p'⟩:=bX I ry;rw[v_bl rx];exact RcNeAt.bool_list i p' hu0
   | ref a=>cases hy
   | oth a=>cases hy
   | _=>exact ih (by omega) (by cases n<;>rfl) (by cases n<;>rfl) rx ry
  | int i =>
   cases y with
   | tup m=>obtain⟨b,its',rfl,rl',p'⟩:=bW I ry;obtain⟨t,rfl⟩:=v_int rx;exact RcNeAt.int_tuple i t p' hu0
   | fls m=>obtain⟨b,its',rfl,rl',p'⟩:=bX I ry;obtain⟨t,rfl⟩:=v_int rx;exact RcNeAt.int_list i t p' hu0
   | ref a=>cases hy
   | oth a=>cases hy
   | _=>exact ih (by omega) (by cases n<;>rfl) (by cases n<;>rfl) rx ry
  | str i =>
   cases y with
   | tup m=>obtain⟨b,its',rfl,rl',p'⟩:=bW I ry;obtain⟨t,rfl⟩:=v_str rx;exact RcNeAt.str_tuple i t p' hu0
   | fls m=>obtain⟨b,its',rfl,rl',p'⟩:=bX I ry;obtain⟨t,rfl⟩:=v_str rx;exact RcNeAt.str_list i t p' hu0
   | ref a=>cases hy
   | oth a=>cases hy
   | _=>exact ih (by omega) (by cases n<;>rfl) (by cases n<;>rfl) rx ry
def RDv(K:LFr)(H:Hp)(d:PV)(x:V):Prop:=match d with
 | .fls l=>∃a vs,x=.ref a/\SqL K H a vs/\RPs K H l vs
 | d=>RP K H d x
theorem RDv.rd{K:LFr}{d:PV}{x:V}{u:Value}(h:RDv K H d x)(r:L2.RelV x u):RD K H d u:=by
 cases d with
 | fls l=>obtain⟨a,vs,rfl,q,rr⟩:=h;cases r;exact⟨a,vs,rfl,q,rr⟩
 | _=>exact⟨x,h,r⟩
def dc(x:PV)(H:PHp)(k:PV->Prop):Prop:=match x with
 | .ref a=>∃l,H a=some (.lst l)/\k (.fls l)
 | x=>k x
theorem dc.ex{K:LFr}{σ':St'}{x:PV}{v:V}{H':PHp}{k:PV->Prop}(h:dc x H' k)(s:SR K B σ' H' σ H)(r:RP K H x v):∃d,RDv K H d v/\k d:=by
 cases x with
 | ref a =>
  obtain⟨l,e,h⟩:=h;obtain⟨us,q,r2⟩:=s.hp _ _ e;simp only[RP]at r;exact⟨.fls l,⟨a,us,r,SqL.of q,r2⟩,h⟩
 | fls l =>
  simp only[RP]at r;obtain⟨a,us,e,q,r⟩:=r;exact⟨.fls l,⟨a,us,e,q.sq,r⟩,h⟩
 | non=>exact⟨.non,r,h⟩
 | bl b=>exact⟨.bl b,r,h⟩
 | int b=>exact⟨.int b,r,h⟩
 | str b=>exact⟨.str b,r,h⟩
 | tup b=>exact⟨.tup b,r,h⟩
 | oth b=>exact⟨.oth b,r,h⟩
def BB(K:LFr)(g:Bool->Bool):R2:=fun x y H Q=>∃d1 d2,flat 9 d1=true/\flat 9 d2=true/\RDv K H d1 x/\RDv K H d2 y/\Q (.bl (g (deq d1 d2))) H
theorem bG(hu:X.A.units+64<cLine):OpR X (compareOp .Eq) (BB X.K fun b=>b):=by
 intro pins s σ H x y v u Q I rx ry h;obtain⟨d1,d2,f1,f2,r1,r2,q⟩:=h;exact(ix I 9 (by omega) f1 f2 (r1.rd rx) (r2.rd ry)).2 _ _ _ _ ⟨.bl _,H,I,rfl,q⟩
theorem dZ(hu:X.A.units+64<cLine):OpR X (compareOp .NotEq) (BB X.K fun b=>!b):=by
 intro pins s σ H x y v u Q I rx ry h;obtain⟨d1,d2,f1,f2,r1,r2,q⟩:=h;exact yG I 9 (by omega) f1 f2 (r1.rd rx) (r2.rd ry) _ _ _ _ ⟨.bl _,H,I,rfl,q⟩
def Ew(g:Bool->Bool):R2':=fun x y H Q=>dc x H fun d1=>dc y H fun d2=>flat 9 d1=true/\flat 9 d2=true/\Q (.bl (g (deq d1 d2))) H
theorem bF{K:LFr}{g:Bool->Bool}:VR K B (Ew g) (BB K g):=by
 intro σ' σ H' H x' y' x y Q' Q s rx ry h k;obtain⟨d1,r1,h1⟩:=dc.ex h s rx;obtain⟨d2,r2,f1,f2,q⟩:=dc.ex h1 s ry;exact⟨d1,d2,f1,f2,r1,r2,k _ H' _ H q (by simp[RP]) s (Ev.refl _ _)⟩
def De(K:LFr)(g:Bool->Bool):R2:=fun x y H Q=>∃d p l us,flat 8 d=true/\RDv K H d x/\y=.ref p/\l.all (flat 8)=true/\RPs K H l us/\(SqL K H p us∨SqT K H p us)/\Q (.bl (g (l.any fun z=>deq z d))) H
open Classical in
theorem fY(I:Inv X pins σ H s){A:Around}{d:PV}{v:Value}{l:List PV}{its:List Value}(hu:A.units+20<cLine)(fd:flat 8 d=true)(rd:RD X.K H d v)(fl:l.all (flat 8)=true)(rl:RL X.K H l its) :
  ∃e:Value->Bool,(∀y,y∈its.toArray->SeqAt.EqAt A.in1 s y v (e y))/\its.toArray.any e=l.any fun z=>deq z d:=by
 refine⟨fun u=>decide (∃z,flat 8 z=true/\RD X.K H z u/\deq z d=true),fun y hy=>?_,?_⟩
 ·have hy':y∈its:=by simpa using hy
  obtain⟨i,hi⟩:=List.mem_iff_getElem?.mp hy';obtain⟨z,ez,rz⟩:=rl.get hi;have fz:=Ky.mp fl z (JX ez);have q:=(ix I 8 (A:=A.in1) (by show A.units+1+8<cLine;omega) fz fd rz.rd rd).1;have e:decide (∃z,flat 8 z=true/\RD X.K H z y/\deq z d=true)=deq z d:=by
   rw[Bool.eq_iff_iff,decide_eq_true_iff];constructor
   ·rintro⟨z',f',r',e'⟩;rw[kx I 8 fz f' rz.rd r'];exact e'
   ·intro e;exact⟨z,fz,rz.rd,e⟩
  show SeqAt.EqAt A.in1 s y v (decide _);rw[e];exact q
 ·rw[Bool.eq_iff_iff];simp only[List.any_toArray,List.any_eq_true,decide_eq_true_iff];constructor
  ·rintro⟨u,hu',z,fz,rz,ez⟩;obtain⟨i,hi⟩:=List.mem_iff_getElem?.mp hu';obtain⟨z2,ez2,rz2⟩:=rl.get hi;have fz2:=Ky.mp fl z2 (JX ez2);refine⟨z2,JX ez2,?_⟩;rw[kx I 8 fz2 fz rz2.rd rz];exact ez
  ·rintro⟨z,hz,ez⟩;obtain⟨i,hi⟩:=List.mem_iff_getElem?.mp hz;have hlt:i<its.length:=by
    have:=(JS.mp hi).1;rw[rl.length];exact this
   obtain⟨z2,ez2,rz2⟩:=rl.get (JO hlt);rw[hi]at ez2;cases ez2;exact⟨_,KC hlt,z,Ky.mp fl z hz,rz2.rd,ez⟩
theorem m5(hu:X.A.units+64<cLine):OpR X (compareOp .In) (De X.K fun b=>b):=by
 intro pins s σ H x y v u Q I rx ry h;obtain⟨d,p,l,us,fd,rd,rfl,fl,rl,hq,q⟩:=h;cases ry;rcases hq with hq | hq
 ·obtain⟨its,rv,pl,_⟩:=I.list hq;obtain⟨e,h1,h2⟩:=fY I (A:=X.A) (by omega) fd (rd.rd rx) fl ⟨us,rl,rv⟩;exact SeqAt.in_listAt e pl.isList h1 (by rw[h2];exact⟨.bl _,H,I,rfl,q⟩)
 ·obtain⟨its,rv,pl,_⟩:=I.tuple hq;obtain⟨e,h1,h2⟩:=fY I (A:=X.A) (by omega) fd (rd.rd rx) fl ⟨us,rl,rv⟩;exact SeqAt.in_tupleAt e pl h1 (by rw[h2];exact⟨.bl _,H,I,rfl,q⟩)
theorem qB(hu:X.A.units+64<cLine):OpR X (compareOp .NotIn) (De X.K fun b=>!b):=by
 intro pins s σ H x y v u Q I rx ry h;obtain⟨d,p,l,us,fd,rd,rfl,fl,rl,hq,q⟩:=h;cases ry;rcases hq with hq | hq
 ·obtain⟨its,rv,pl,_⟩:=I.list hq;obtain⟨e,h1,h2⟩:=fY I (A:=X.A) (by omega) fd (rd.rd rx) fl ⟨us,rl,rv⟩;exact SeqAt.notIn_listAt e pl.isList h1 (by rw[h2];exact⟨.bl _,H,I,rfl,q⟩)
 ·obtain⟨its,rv,pl,_⟩:=I.tuple hq;obtain⟨e,h1,h2⟩:=fY I (A:=X.A) (by omega) fd (rd.rd rx) fl ⟨us,rl,rv⟩;exact SeqAt.notIn_tupleAt e pl h1 (by rw[h2];exact⟨.bl _,H,I,rfl,q⟩)
def DA(g:Bool->Bool):R2':=fun x y H Q=>dc x H fun d=>cT y H fun l=>flat 8 d=true/\l.all (flat 8)=true/\Q (.bl (g (l.any fun z=>deq z d))) H
theorem qe{K:LFr}{g:Bool->Bool}:VR K B (DA g) (De K g):=by
 intro σ' σ H' H x' y' x y Q' Q s rx ry h k;obtain⟨d1,r1,h1⟩:=dc.ex h s rx;obtain⟨l,us,p,rfl,r2,hq,f1,f2,q⟩:=cT.ex h1 s ry;exact⟨d1,p,l,us,f1,r1,rfl,f2,r2,hq,k _ H' _ H q (by simp[RP]) s (Ev.refl _ _)⟩
def m6(g:Bool->Bool):R2':=fun x y H Q=>match y,x with
 | .non,.non=>Q (.bl (g true)) H
 | .non,.oth _=>False
 | .non,_=>Q (.bl (g false)) H
 | _,_=>False
theorem Aj{K:LFr}{g:Bool->Bool}{x y:PV}{v w:V}{H':PHp}{Q':VK'}(h:m6 g x y H' Q')(rx:RP K H x v)(ry:RP K H y w):w=.non/\Q' (.bl (g (decide (v=.non)))) H':=by
 cases y with
 | non =>
  simp only[RP]at ry;refine⟨ry,?_⟩;cases x with
  | non=>simp only[RP]at rx;subst rx;exact h
  | oth _=>exact h.elim
  | tup l =>
   simp only[RP]at rx;obtain⟨a,us,rfl,_⟩:=rx;exact h
  | fls l =>
   simp only[RP]at rx;obtain⟨a,us,rfl,_⟩:=rx;exact h
  | _=>simp only[RP]at rx;subst rx;exact h
 | _=>cases x<;>exact h.elim
theorem gy{K:LFr}:VR K B (m6 fun b=>b) (fun x y H Q=>y=.non/\Q (.bl (decide (x=.non))) H):=by
 intro σ' σ H' H x' y' x y Q' Q s rx ry h k;obtain⟨e,q⟩:=Aj h rx ry;exact⟨e,k _ H' _ H q (by simp[RP]) s (Ev.refl _ _)⟩
inductive BT where | non | bool | int | str | list | tuple
def BT.nm:BT->String | .non=>"NoneType" | .bool=>"bool" | .int=>"int" | .str=>"str" | .list=>"list" | .tuple=>"tuple"
def BT.sub:BT->BT->Bool
 | .non,.non=>true | .bool,.bool=>true | .int,.int=>true | .str,.str=>true | .list,.list=>true | .tuple,.tuple=>true
 | .bool,.int=>true
 | _,_=>false
theorem Ah(K:LFr)(t c:BT):PySem.W.kitOne K (.type t.nm) (.type c.nm)=some (t.sub c):=by
 cases t<;>cases c<;>kernel_rfl
def btV(K:LFr)(H:Hp)(t:BT)(x:V):Prop:=match t with
 | .non=>x=.non
 | .bool=>∃b,x=.bl b
 | .int=>∃b,x=.int b
 | .str=>∃b,x=.str b
 | .list=>∃a us,x=.ref a/\SqL K H a us
 | .tuple=>∃a us,x=.ref a/\SqT K H a us
theorem aG(c:BT):cj X (.builtin "isinstance") (fun xs H Q=>∃x t,xs=[x,.ty c.nm]/\btV X.K H t x/\Q (.bl (t.sub c)) H):=by
 intro pins s σ H xs us Q I r h;obtain⟨x,t,rfl,ht,q⟩:=h;obtain⟨u,w',rfl,rx,rc⟩:=vals2 r;have e1:w'=Value.type c.nm:=rc;subst e1;have k:=Ah X.K t c;have fin:∀tk,EP X pins σ Q (.bool (t.sub c)) { s with toks:=tk }:=fun tk=>⟨.bl _,H,I.tok _,rfl,q⟩;cases t with
 | non=>cases (show x=V.non from ht);exact eM I rx .non k fin
 | bool=>obtain⟨b,rfl⟩:=ht;exact eM I rx (.bl b) k fin
 | int=>obtain⟨b,rfl⟩:=ht;exact eM I rx (.int b) k fin
 | str=>obtain⟨b,rfl⟩:=ht;exact eM I rx (.str b) k fin
 | list =>
  obtain⟨a,us,rfl,hq⟩:=ht;cases rx;obtain⟨its,rv,pl,_⟩:=I.list hq;obtain⟨o,e,hc,_⟩:=pl.isList;exact K7 PySem.W.kitx_list I.kIn ⟨o,e,hc⟩ k (fun z=>nomatch z) fin
 | tuple =>
  obtain⟨a,us,rfl,hq⟩:=ht;cases rx;obtain⟨its,rv,pl,_⟩:=I.tuple hq;obtain⟨o,e,hc,_⟩:=pl;exact K7 PySem.W.kitx_tuple I.kIn ⟨o,e,hc⟩ k (fun z=>nomatch z) fin
def cU(x:PV)(H:PHp)(k:BT->Prop):Prop:=match x with
 | .non=>k .non
 | .bl _=>k .bool
 | .int _=>k .int
 | .str _=>k .str
 | .tup _=>k .tuple
 | .fls _=>k .list
 | .ref a=>∃l,H a=some (.lst l)/\k .list
 | _=>False
theorem cU.ex{K:LFr}{σ':St'}{x:PV}{v:V}{H':PHp}{k:BT->Prop}(h:cU x H' k)(s:SR K B σ' H' σ H)(r:RP K H x v):∃t,btV K H t v/\k t:=by
 cases x with
 | non=>simp only[RP]at r;exact⟨.non,r,h⟩
 | bl b=>simp only[RP]at r;exact⟨.bool,⟨b,r⟩,h⟩
 | int b=>simp only[RP]at r;exact⟨.int,⟨b,r⟩,h⟩
 | str b=>simp only[RP]at r;exact⟨.str,⟨b,r⟩,h⟩
 | tup l=>simp only[RP]at r;obtain⟨a,us,e,q,_⟩:=r;exact⟨.tuple,⟨a,us,e,q⟩,h⟩
 | fls l=>simp only[RP]at r;obtain⟨a,us,e,q,_⟩:=r;exact⟨.list,⟨a,us,e,q.sq⟩,h⟩
 | ref a =>
  simp only[RP]at r;obtain⟨l,e,h⟩:=h;obtain⟨us,q,_⟩:=s.hp _ _ e;exact⟨.list,⟨a,us,r,SqL.of q⟩,h⟩
 | oth _=>exact h.elim
def BS(c:BT):List PV->PHp->VK'->Prop:=fun xs H Q=>match xs with
 | [x,.oth (.ty n)]=>n=c.nm/\cU x H fun t=>Q (.bl (t.sub c)) H
 | _=>False
theorem aW{K:LFr}(c:BT):VC K B (BS c) (fun xs H Q=>∃x t,xs=[x,.ty c.nm]/\btV K H t x/\Q (.bl (t.sub c)) H):=by
 intro σ' σ H' H xs' xs Q' Q s r h k;unfold BS at h;split at h
 ·rename_i x n;obtain⟨rfl,h⟩:=h;simp only[RPs,RP]at r;obtain⟨u,r1,rfl,rx,w,r2,rfl,rfl,rfl⟩:=r;obtain⟨t,bt,h⟩:=cU.ex h s rx;exact⟨u,t,rfl,bt,k _ H' _ H h (by simp[RP]) s (Ev.refl _ _)⟩
 ·exact h.elim
theorem aV{x:Str}{n:String}{pos:Pos}(hg:Gl X x)(hm:X.mg x=none)(hv:bootBuiltins x=some (.type n))(hn:x≠"__name__":=by decide)(hd:(x==("__debug__":Str))=false:=by decide):PE' X B (.Name x pos) (uC (.oth (.ty n))) :=
 aQ (xI (v:=.ty n) hg hm hv rfl hn hd) fun _ _ _ h=>vN (fun _=>by simp[RP]) h
variable {e o:Expr}{es:List Expr}{to:TE'}{t:TA'}{name:Str}{apos cpos:Pos}
def isL(x:PV)(H1:PHp):Prop:=match x with
 | .ref a=>∃l,H1 a=some (.lst l)
 | _=>False
def uBM(r:PV->List PV->PHp->VK'->Prop)(to:TE')(t:TA'):TE':=fun σ H Q=>to σ H fun x H1=>isL x H1/\t σ H1 fun xs H2=>r x xs H2 Q
def GZ(r:PV->List PV->PHp->VK'->Prop)(to:TE'):TE':=fun σ H Q=>to σ H fun x H1=>r x [] H1 Q
def VM(K:LFr)(B:Bs)(r':PV->List PV->PHp->VK'->Prop)(r:V->List V->Hp->VK->Prop):Prop:=∀(σ':St') (σ:L2.St) (H':PHp) (H:Hp) x' xs' x xs (Q':VK') (Q:VK),SR K B σ' H' σ H->RP K H x' x->RPs K H xs' xs->r' x' xs' H' Q' ->
 (∀v' H1' v H1,Q' v' H1'->RP K H1 v' v->SR K B σ' H1' σ H1->Ev H' H H1' H1->Q v H1)->r x xs H Q
theorem A6{K:LFr}{r':PV->List PV->PHp->VK'->Prop}{r:V->List V->Hp->VK->Prop}(v:VM K B r' r){σ:L2.St}{H:Hp}{Q:VK}(h:low K B (uBM r' to t) σ H Q):tBM K "list" r (low K B to) (vp K B t) σ H Q:=by
 obtain⟨σ',H',Q',s,h,k⟩:=h;refine⟨σ',H',_,s,h,fun x' H1' x H1 h1 rx s1 e1=>?_⟩;obtain⟨ty,h1⟩:=h1;constructor
 ·cases x' with
  | ref a =>
   obtain⟨l,e⟩:=ty;obtain⟨us,q,_⟩:=s1.hp _ _ e;simp only[RP]at rx;subst rx;exact .inl ⟨rfl,us,SqL.of q⟩
  | _=>exact ty.elim
 ·refine⟨σ',H1',_,s1,h1,fun xs' H2' xs H2 h2 r2 s2 e2=>?_⟩;exact v σ' σ H2' H2 x' xs' x xs Q' Q s2 (RP.kp K (e2.kp s1.hp) rx) r2 h2 fun v' H3' v H3 q rv s3 e3=>k v' H3' v H3 q rv s3 (e1.trans (e2.trans e3))
theorem dS{id:String}{r':PV->List PV->PHp->VK'->Prop}{r:V->List V->Hp->VK->Prop}(slot:Slot "list" name id)(hty:typeOf (.builtin id)=pure (.type "method_descriptor"))(hm:MtR X id r)(v:VM X.K B r' r)(ho:PE' X B o to)(ha:PA' X B (e::es) t)
  (hbase:attributeBase o name X.env (eval o X.env)=eval o X.env:=by rfl)
  (hfew:((backTo cpos (starEach (e::es) X.env)).all (fun x=>!x.1)&&(backToKw cpos (keywordEach [] X.env)).all (fun x=>x.1.isSome)
   && decide ((e::es).length+([]:List Keyword).length+(if ([]:List Keyword).isEmpty then 0 else 1)<30))=true:=by rfl)
  (hline:(apos.endLine==cpos.line)=true:=by rfl) (hs:starEach (e::es) X.env=(false,eval e X.env)::starEach es X.env:=by rfl) (hplain:(backTo cpos (starEach es X.env)).any (·.1)=false:=by rfl) :
  PE' X B (.Call (.Attribute o name apos) (e::es) [] cpos) (uBM r' to t):=aQ (Du PySem.F.plainAttrs_list slot hty hm ho ha hbase hfew hline hs hplain) fun _ _ _ h=>A6 v h
def kO:PV->List PV->PHp->VK'->Prop:=fun x vs H Q=>match x,vs with
 | .ref a,[y]=>∃l,H a=some (.lst l)/\l.length<sizeLine/\Q .non (put H a (.lst (l++[y])))
 | _,_=>False
theorem bV{K:LFr}:VM K B kO pE:=by
 intro σ' σ H' H x' xs' x xs Q' Q s rx r h k;unfold kO at h;split at h
 ·rename_i a y;obtain⟨l,e,hl,h⟩:=h;obtain⟨us,q,r2⟩:=s.hp _ _ e;simp only[RP,RPs]at rx r;obtain⟨u,r1,rfl,ru,rfl⟩:=r;subst rx;exact⟨a,us,u,rfl,rfl,q,by rw[RPs.length _ r2];exact hl,k _ _ _ _ h (by simp[RP]) (s.wr e (wrL s.hp e (RPs.append _ r2 (RPs.cons _ ru (RPs.nil _))))) (Ev.wr e)⟩
 ·exact h.elim
def kE:PV->List PV->PHp->VK'->Prop:=fun x vs H Q=>match x,vs with
 | .ref a,[.ref b]=>∃l m,H a=some (.lst l)/\H b=some (.lst m)/\l.length+m.length≤sizeLine/\Q .non (put H a (.lst (l++m)))
 | _,_=>False
theorem jY{K:LFr}:VM K B kE pj:=by
 intro σ' σ H' H x' xs' x xs Q' Q s rx r h k;unfold kE at h;split at h
 ·rename_i a b;obtain⟨l,m,e,e2,hl,h⟩:=h;obtain⟨us,q,r2⟩:=s.hp _ _ e;obtain⟨ws,q2,r3⟩:=s.hp _ _ e2;simp only[RP,RPs]at rx r;obtain⟨u,r1,rfl,ru,rfl⟩:=r;subst rx;subst ru;exact⟨a,b,us,ws,rfl,rfl,q,q2,by rw[RPs.length _ r2,RPs.length _ r3];exact hl,k _ _ _ _ h (by simp[RP]) (s.wr e (wrL s.hp e (RPs.append _ r2 r3))) (Ev.wr e)⟩
 ·exact h.elim
def Jr:PV->List PV->PHp->VK'->Prop:=fun x vs H Q=>match x,vs with
 | .ref a,[]=>∃l y,H a=some (.lst l)/\l[l.length - 1]?=some y/\Q y (put H a (.lst l.dropLast))
 | _,_=>False
end
end
section
variable {B:Bs}
theorem qT(lo:Int)(n i:Nat)(h:i<n):(bN lo n).drop i=PV.int (lo+(i:Nat))::(bN lo n).drop (i+1):=by
 have hl:i<(bN lo n).length:=by simpa[bN]using h
 rw[LM hl];simp[bN]
theorem u9(lo:Int)(n:Nat):(bN lo n).drop n=[]:=by
 apply List.drop_of_length_le;simp[bN]
theorem dE{ok:PHp->Prop}{g:TG'}{tb:TS'}{D:dz}{lo:Int}{n:Nat}(Pv:Nat->St'->PHp->Prop)(hd:∀σ H,Pv n σ H->ok H/\D.nx σ H)
  (hs:∀(G:St'->PHp->Prop) i σ H,i<n->Pv i σ H->(∀σ' H',Pv (i+1) σ' H'->G σ' H')->ok H/\g (.int (lo+(i:Nat))) σ H fun σ2 H2=>tb { D with nx:=G,ct:=G,bk:=D.nx } σ2 H2)
  {σ:St'} {H:PHp} (h0:Pv 0 σ H):eE ok g tb D (bN lo n) σ H:=by
 have key:∀(k i:Nat) {σ:St'} {H:PHp},i+k=n->Pv i σ H->eE ok g tb D ((bN lo n).drop i) σ H:=by
  intro k
  induction k with
  | zero =>
   intro i σ H hk p;have:i=n:=hk;subst this;rw[u9];exact hd σ H p
  | succ k ih =>
   intro i σ H hk p;have hi:i<n:=hk▸Nat.lt_add_of_pos_right (Nat.succ_pos k);rw[qT lo n i hi];exact hs _ i σ H hi p fun σ' H' p'=>ih (i+1) ((Nat.succ_add_eq_add_succ i k).trans hk) p'
 exact key n 0 (Nat.zero_add n) h0
theorem Bg{ok:PHp->Prop}{g:TG'}{tb:TS'}{D:dz}{xs:List PV}(Pv:Nat->St'->PHp->Prop)(hd:∀σ H,Pv xs.length σ H->ok H/\D.nx σ H)
  (hs:∀(G:St'->PHp->Prop) i x σ H,xs[i]?=some x->Pv i σ H->(∀σ' H',Pv (i+1) σ' H'->G σ' H')->ok H/\g x σ H fun σ2 H2=>tb { D with nx:=G,ct:=G,bk:=D.nx } σ2 H2)
  {σ:St'} {H:PHp} (h0:Pv 0 σ H):eE ok g tb D xs σ H:=by
 have key:∀(k i:Nat) {σ:St'} {H:PHp},xs.length - i=k->i≤xs.length->Pv i σ H->eE ok g tb D (xs.drop i) σ H:=by
  intro k
  induction k with
  | zero =>
   intro i σ H hk hi p;have:i=xs.length:=by omega
   subst this;rw[List.drop_length];exact hd σ H p
  | succ k ih =>
   intro i σ H hk hi p;have hl:i<xs.length:=by omega
   rw[LM hl];exact hs _ i _ σ H (JO hl) p fun σ' H' p'=>ih (i+1) (by omega) (by omega) p'
 have:=key xs.length 0 (by omega) (by omega) h0;simpa using this
theorem bw{m:List Int}{z:Int}(h0:0≤z)(h1:z<m.length):atI (m.map PV.int) z=some (.int (m.getD z.toNat 0)):=by
 unfold atI ixN;rw[Kw h0,JN,Kw h1];show(m.map PV.int)[z.toNat]?=_;rw[JV,JQ];have:z.toNat<m.length:=by omega
 rw[JO this];rfl
theorem w_V{v:PV}{k:PV->Prop}:mZ (some (some v)) k=k v:=rfl
theorem w_B{b:Bool}{k:Bool->Prop}:d9 (.bl b) k=k b:=rfl
theorem w_I{b:Int}{k:Int->Prop}:cy (.int b) k=k b:=rfl
theorem w_O{b:PV}{k:PV->Prop}:gj (some b) k=k b:=rfl
theorem HC{l:List PV}{H:PHp}{k:List PV->Prop}:cT (.tup l) H k=k l:=rfl
theorem Jl{l:List PV}{H:PHp}{k:List PV->Prop}:cT (.fls l) H k=k l:=rfl
theorem IJ{a:Addr}{H:PHp}{k:List PV->Prop}:cT (.ref a) H k=∃l,H a=some (.lst l)/\k l:=rfl
theorem GS{a:Addr}{H:PHp}{k:PV->Prop}:dc (.ref a) H k=∃l,H a=some (.lst l)/\k (.fls l):=rfl
theorem HE{H:PHp}{k:PV->Prop}:dc .non H k=k .non:=rfl
theorem Gy{b:Bool}{H:PHp}{k:PV->Prop}:dc (.bl b) H k=k (.bl b):=rfl
theorem Jf{b:Int}{H:PHp}{k:PV->Prop}:dc (.int b) H k=k (.int b):=rfl
theorem IL{b:Str}{H:PHp}{k:PV->Prop}:dc (.str b) H k=k (.str b):=rfl
theorem Jn{b:List PV}{H:PHp}{k:PV->Prop}:dc (.tup b) H k=k (.tup b):=rfl
theorem Gx{b:List PV}{H:PHp}{k:PV->Prop}:dc (.fls b) H k=k (.fls b):=rfl
theorem GH{H:PHp}{k:BT->Prop}:cU .non H k=k .non:=rfl
theorem IP{b:Bool}{H:PHp}{k:BT->Prop}:cU (.bl b) H k=k .bool:=rfl
theorem HM{b:Int}{H:PHp}{k:BT->Prop}:cU (.int b) H k=k .int:=rfl
theorem GP{b:Str}{H:PHp}{k:BT->Prop}:cU (.str b) H k=k .str:=rfl
theorem IE{b:List PV}{H:PHp}{k:BT->Prop}:cU (.tup b) H k=k .tuple:=rfl
theorem Ie{b:List PV}{H:PHp}{k:BT->Prop}:cU (.fls b) H k=k .list:=rfl
theorem Jc{a:Addr}{H:PHp}{k:BT->Prop}:cU (.ref a) H k=∃l,H a=some (.lst l)/\k .list:=rfl
theorem HB{b:Int}{k:Int->Prop}:intOf (.int b) k=k b:=rfl
theorem Hb{b:Bool}{k:Int->Prop}:intOf (.bl b) k=k (b2n b):=rfl
theorem Hx{l:List PV}{lo hi:Option Int}{H:PHp}{Q:VK'}:sliceOf (.fls l) lo hi H Q=∀p,H p=none->Q (.ref p) (put H p (.lst (eY l lo hi))):=rfl
theorem IB{a:Addr}{lo hi:Option Int}{H:PHp}{Q:VK'}:sliceOf (.ref a) lo hi H Q=∃l,H a=some (.lst l)/\∀p,H p=none->Q (.ref p) (put H p (.lst (eY l lo hi))):=rfl
theorem GR{l:List PV}{lo hi:Option Int}{H:PHp}{Q:VK'}:sliceOf (.tup l) lo hi H Q=(¬(HT.sIx l.length 0 lo=0/\HT.sIx l.length l.length hi=l.length)/\Q (.tup (eY l lo hi)) H):=rfl
theorem Ij{l:List PV}{H:PHp}{R:It'->PHp->Prop}:uH (.tup l) H R=R ⟨l,fun _=>True⟩ H:=rfl
theorem G8{l:List PV}{H:PHp}{R:It'->PHp->Prop}:uH (.fls l) H R=R ⟨l,fun _=>True⟩ H:=rfl
theorem GD{a:Addr}{H:PHp}{R:It'->PHp->Prop}:uH (.ref a) H R=∃l,H a=some (.lst l)/\R ⟨l,fun H=>H a=some (.lst l)⟩ H:=rfl
theorem w_1{f:PV->PHp->VK'->Prop}{x:PV}{H:PHp}{Q:VK'}:cG f [x] H Q=f x H Q:=rfl
theorem FV{c:BT}{x:PV}{n:String}{H:PHp}{Q:VK'}:BS c [x,.oth (.ty n)] H Q=(n=c.nm/\cU x H fun t=>Q (.bl (t.sub c)) H):=rfl
theorem Jx{g:Bool->Bool}{H:PHp}{Q:VK'}:m6 g .non .non H Q=Q (.bl (g true)) H:=rfl
theorem Hn{g:Bool->Bool}{a:Addr}{H:PHp}{Q:VK'}:m6 g (.ref a) .non H Q=Q (.bl (g false)) H:=rfl
theorem Jw{g:Bool->Bool}{l:List PV}{H:PHp}{Q:VK'}:m6 g (.tup l) .non H Q=Q (.bl (g false)) H:=rfl
theorem JF{g:Bool->Bool}{l:Int}{H:PHp}{Q:VK'}:m6 g (.int l) .non H Q=Q (.bl (g false)) H:=rfl
theorem IV{g:Bool->Bool}{l:Bool}{H:PHp}{Q:VK'}:m6 g (.bl l) .non H Q=Q (.bl (g false)) H:=rfl
theorem JH{n:Nat}{t:jw}{l:List PV}{σ:St'}{H:PHp}{Q:St'->PHp->Prop}:xF n t (.tup l) σ H Q=(l.length=n/\t l σ H Q):=rfl
theorem HS{t:TG'}{u:jw}{v:PV}{r:List PV}{σ:St'}{H:PHp}{Q:St'->PHp->Prop}:oX t u (v::r) σ H Q=t v σ H fun σ' H'=>u r σ' H' Q:=rfl
theorem Hq{σ:St'}{H:PHp}{Q:St'->PHp->Prop}:CF [] σ H Q=(True/\Q σ H):=by simp[CF]
theorem Js{t:TA'}{σ:St'}{H:PHp}{R:It'->PHp->Prop}:zA t σ H R=t σ H fun vs H1=>vX vs H1 R:=rfl
theorem Er{j:Int}{H1:PHp}{R:It'->PHp->Prop}:vX [.int j] H1 R=((-(2 ^ 62)≤j/\j<2 ^ 62)/\R ⟨bN 0 j.toNat,fun _=>True⟩ H1):=rfl
theorem G7{t:TA'}{σ:St'}{H:PHp}{R:It'->PHp->Prop}:Fd t σ H R=t σ H fun vs H1=>Ao vs H1 R:=rfl
theorem Gh{i j:Int}{H1:PHp}{R:It'->PHp->Prop}:Ao [.int i,.int j] H1 R=((-(2 ^ 62)≤i/\i<2 ^ 62/\-(2 ^ 62)≤j/\j<2 ^ 62)/\R ⟨bN i (j - i).toNat,fun _=>True⟩ H1):=rfl
theorem Jj{a:Addr}{y:PV}{H:PHp}{Q:VK'}:kO (.ref a) [y] H Q=∃l,H a=some (.lst l)/\l.length<sizeLine/\Q .non (put H a (.lst (l++[y]))):=rfl
theorem Ic{a b:Addr}{H:PHp}{Q:VK'}:kE (.ref a) [.ref b] H Q=∃l m,H a=some (.lst l)/\H b=some (.lst m)/\l.length+m.length≤sizeLine/\Q .non (put H a (.lst (l++m))):=rfl
theorem HQ{a:Addr}{H:PHp}{Q:VK'}:Jr (.ref a) [] H Q=∃l y,H a=some (.lst l)/\l[l.length - 1]?=some y/\Q y (put H a (.lst l.dropLast)):=rfl
theorem HZ{r:PV->List PV->PHp->VK'->Prop}{to:TE'}{t:TA'}{σ:St'}{H:PHp}{Q:VK'}:uBM r to t σ H Q=to σ H fun x H1=>isL x H1/\t σ H1 fun xs H2=>r x xs H2 Q:=rfl
theorem Hi{a:Addr}{H:PHp}:isL (.ref a) H=∃l,H a=some (.lst l):=rfl
theorem aw{n:Nat}(h:n≤1000):n≤sizeLine:=Nat.le_of_lt (aO h)
end
section
theorem ak{t u:TS'}{D:dz}{σ:St'}{H:PHp}(h:∀R:TS',R=u->yy t R D σ H):yy t u D σ H:=h u rfl
end
section
variable {B:Bs}
section
variable {X:Cx}{pins:List (Addr×Obj)}{σ:L2.St}{H H':Hp}{s:Shared}{h':Heap}{a C T:Addr}{fl:Value}
variable {M:Model}{E:Value->Shared->Prop}{Q:Unit->Shared->Prop}
end
end
end U
namespace U
open L2 PySem.W
section
variable {prog:Program}{w:World}{A:Around}{E:Value->Shared->Prop}{h:Heap}{g:Array GenState}{d:Drawn}{t:Nat}{os:OsState}{a C:Addr}{o:Obj}{K:Frag}
end
end U
namespace U
open L2
section
variable {B:Bs}
section
variable {P:Program}{w:World}{K:LFr}{mg:Str->Option Value}{base:Heap}
end
section
variable {X:Cx}{k:Nat}{f C D:Addr}{fd:FuncData}{ps:List Str}{sp:Sp'}{E:XK}{E':XK'}{x m n:Str}{p np pos apos cpos:Pos}{e o:Expr}{es:List Expr}{ta:TE'}{t:TA'}
end
end
section
variable {B:Bs}
section
variable {X:Cx}{pins:List (Addr×Obj)}{σ:L2.St}{H:Hp}{s:Shared}{a C T:Addr}{fl:Value}
end
end
section
variable {B:Bs}
section
variable {X:Cx}{k:Nat}{f C D:Addr}{fd:FuncData}{ps:List Str}{sp:Sp'}{x m n:Str}{p np pos apos cpos:Pos}{e o:Expr}{es:List Expr}{ta:TE'}{t:TA'}
end
end
section
def pr(p:Str×Bool):PV:=.tup [.str p.1,.bl p.2]
def told(xs:List (Str×Bool)):List PV:=(xs.filter (·.2)).map fun p=>PV.str p.1
end
section
def pairs:List (Str×TE')->List Bool->List PV
 |(n,_)::r,b::bs=>.tup [.str n,.bl b]::pairs r bs
 | _,_=>[]
end
end U
namespace U
theorem len0{P:List Value->Prop}(h:P [])(us:List Value)(hl:us.length=0):P us:=by
 cases us with
 | nil=>exact h
 | cons a r=>exact absurd hl (Nat.succ_ne_zero _)
theorem Dt{P:List Value->Prop}(h:∀a,P [a])(us:List Value)(hl:us.length=1):P us:=by
 cases us with
 | nil=>exact absurd hl.symm (Nat.succ_ne_zero _)
 | cons a r=>exact len0 (P:=fun r=>P (a::r)) (h a) r (Nat.succ.inj hl)
theorem Ge{P:List Value->Prop}(h:∀a b,P [a,b])(us:List Value)(hl:us.length=2):P us:=by
 cases us with
 | nil=>exact absurd hl.symm (Nat.succ_ne_zero _)
 | cons a r=>exact Dt (P:=fun r=>P (a::r)) (h a) r (Nat.succ.inj hl)
theorem Ga{P:List Value->Prop}(h:∀a b c,P [a,b,c])(us:List Value)(hl:us.length=3):P us:=by
 cases us with
 | nil=>exact absurd hl.symm (Nat.succ_ne_zero _)
 | cons a r=>exact Ge (P:=fun r=>P (a::r)) (h a) r (Nat.succ.inj hl)
theorem FX{P:List Value->Prop}(h:∀a b c d,P [a,b,c,d])(us:List Value)(hl:us.length=4):P us:=by
 cases us with
 | nil=>exact absurd hl.symm (Nat.succ_ne_zero _)
 | cons a r=>exact Ga (P:=fun r=>P (a::r)) (h a) r (Nat.succ.inj hl)
end U
namespace U
open L2
variable {B:Bs}{X:Cx}
theorem oo:OpR X (compareOp .Eq) (rI0 fun i j=>.bl (i==j)):=qC fun _ _ _ _ _ _ _ q=>eq_int q
theorem zZ:OpR X (compareOp .NotEq) (rI0 fun i j=>.bl (!(i==j))):=qC fun _ _ _ _ _ _ _ q=>ne_int q
theorem m8{K:LFr}:VR K B (uI0 fun i j=>.bl (i==j)) (rI0 fun i j=>.bl (i==j)):=gR fun _ _ _=>by simp[RP]
theorem AK{K:LFr}:VR K B (uI0 fun i j=>.bl (!(i==j))) (rI0 fun i j=>.bl (!(i==j))):=gR fun _ _ _=>by simp[RP]
end U
namespace L2
section
def cL(X:Cx)(N2:List Str)(scope:Scope)(cl:List (Str×Addr))(s0:Shared)(H0:Hp)(fp:List Addr)(ps:List (Addr×Obj)):Cx :=
 { X with N:=N2,s₀:=s0,H₀:=H0,env:=compEnvC scope cl s0.heap.objs.size X.env,outer:=X.stack,stack:=X.stack,ex:=fp,fn:=fun x=>(cl.lookup x).isNone,pn:=ps,xe:=fun _ _=>False }
def h7(nt:Nat)(js:List Nat)(σ:St):St:=List.replicate nt none++js.map fun j=>(σ[j]?).join
theorem cc{env:Env}:∀{names:List (Str×NameKind)} {x:Str},names.lookup x=some .free ->
  (names.map fun(n,k)=>if (k==NameKind.free&&env.scope.kind==.function&&env.kindOf n==some .cell)then(n,NameKind.cell)else(n,k)).lookup x=some .cell ∨
  (names.map fun(n,k)=>if (k==NameKind.free&&env.scope.kind==.function&&env.kindOf n==some .cell)then(n,NameKind.cell)else(n,k)).lookup x=some .free
 | [],_,h=>by simp at h
 |(n,k)::r,x,h=>by
  have ih:=@cc env r x;show List.lookup x ((if (k==NameKind.free&&env.scope.kind==.function&&env.kindOf n==some .cell)=true then(n,NameKind.cell)else(n,k))::_)=_∨List.lookup x ((if (k==NameKind.free&&env.scope.kind==.function&&env.kindOf n==some .cell)=true then(n,NameKind.cell)else(n,k))::_)=_;cases hx:x==n with
  | true =>
   simp only[KN,hx]at h;cases h;by_cases hc:(NameKind.free==NameKind.free&&env.scope.kind==.function&&env.kindOf n==some .cell)=true
   ·rw[Kw hc];simp[KN,hx]
   ·rw[Kq hc];simp[KN,hx]
  | false =>
   simp only[KN,hx]at h;by_cases hc:(k==NameKind.free&&env.scope.kind==.function&&env.kindOf n==some .cell)=true
   ·rw[Kw hc];simp only[KN,hx];exact ih h
   ·rw[Kq hc];simp only[KN,hx];exact ih h
structure cw (X:Cx) (N2:List Str) (nt:Nat) (js:List Nat) (scope:Scope) (cl:List (Str × Addr)) (sc:Scope):Prop where
 clos:closureFor scope X.env=pure cl
 sub:∀x c,cl.lookup x=some c->X.env.cells.lookup x=some c
 xsc:X.env.scope=sc
 kind:scope.kind=.function
 nocell:∀y∈scope.names,y.2≠.cell
 loc:∀y∈scope.names,y.2=.local->scope.names.lookup y.1=some .local
 has:∀y∈scope.names,y.2=.free->y.1∈cl.map (·.1)
 frs:∀x∈N2.drop nt,scope.names.lookup x=some .free/\sc.names.lookup x=some .cell
 len:N2.length=nt+js.length
 pl:∀(k j:Nat),js[k]?=some j->X.N[j]?=N2[nt+k]?
theorem mem_lookup{α:Type}:∀{l:List (Str×α)} {x:Str},x∈l.map (·.1)->∃c,l.lookup x=some c
 | [],_,h=>by simp at h
 |(n,k)::r,x,h=>by
  cases hx:x==n with
  | true=>exact⟨k,by simp[KN,hx]⟩
  | false =>
   have h':x=n∨x∈r.map (·.1):=by simpa using h
   have hn:x≠n:=by intro e;subst e;simp at hx
   obtain⟨c,e⟩:=mem_lookup (h'.resolve_left hn);exact⟨c,by simp[KN,hx,e]⟩
theorem lookup_mem{α:Type}:∀{l:List (Str×α)} {x:Str} {c:α},l.lookup x=some c->(x,c)∈l
 | [],_,_,h=>by simp at h
 |(n,k)::r,x,c,h=>by
  cases hx:x==n with
  | true =>
   simp only[KN,hx]at h;have e:x=n:=by simpa using hx
   cases h;subst e;exact J6
  | false =>
   simp only[KN,hx]at h;exact J8 _ (lookup_mem h)
section
variable {X:Cx}{pins:List (Addr×Obj)}{σ:St}{H:Hp}{s:Shared}{N2:List Str}{nt:Nat}{js:List Nat}{scope sc:Scope}{cl:List (Str×Addr)}{fp:List Addr}
theorem cw.kindOf(O:cw X N2 nt js scope cl sc){x:Str}{C:Addr}(h:(compEnvC scope cl C X.env).kindOf x=some .cell∨(compEnvC scope cl C X.env).kindOf x=some .free):∃c,cl.lookup x=some c:=by
 have h':(relabel scope X.env).names.lookup x=some .cell∨(relabel scope X.env).names.lookup x=some .free:=h;have key:∀(k:NameKind),(relabel scope X.env).names.lookup x=some k->(k=.cell∨k=.free)->∃y∈scope.names,y.1=x/\(y.2=.cell∨y.2=.free):=fun k e hk=>by
  have m:=lookup_mem e;obtain⟨⟨n,k'⟩,hm,e'⟩:=JU.mp m;by_cases hc:(k'==NameKind.free&&X.env.scope.kind==.function&&X.env.kindOf n==some .cell)=true
  ·simp only[hc,if_true]at e';have e1:n=x:=congrArg Prod.fst e';refine⟨(n,k'),hm,e1,.inr ?_⟩;rw[K8,K8]at hc;exact LV.mp hc.1.1
  ·have e'':(n,k')=(x,k):=by
    dsimp only at e';rw[Kq hc]at e';exact e'
   cases e'';exact⟨(x,k),hm,rfl,hk⟩
 obtain⟨y,hy,rfl,hk⟩:=h'.elim (fun e=>key _ e (.inl rfl)) fun e=>key _ e (.inr rfl);rcases hk with hk | hk
 ·exact absurd hk (O.nocell y hy)
 ·exact mem_lookup (O.has y hy hk)
theorem rL(O:cw X N2 nt js scope cl sc)(I:Inv X pins σ H s)(hf:∀b∈fp,dm X pins H b)(hlt:∀b∈fp,b<s.heap.objs.size):(cL X N2 scope cl s H fp (X.pn++pins)).Ok where
 mod:=I.ok.mod
 kind:=O.kind
 glob:=I.ok.glob
 blt:=I.ok.blt
 above:=JW _
 inj:=fun x y c h1 h2=>I.ok.inj x y c (O.sub x c h1) (O.sub y c h2)
 has:=fun x h=>O.kindOf h
 cab:=fun x c h1 h2=>by
  have h1':(cl.lookup x).isNone=true:=h1;have h2':cl.lookup x=some c:=h2;rw[h2']at h1';cases h1'
 hd:=I.ok.hd
 frames:=I.ok.frames
 stk:=.inl rfl
 exf:=fun b hb=>⟨Ki (hlt b hb),fun x c e=>(hf b hb).2.2.2.2.1 x c (O.sub x c e)⟩
 bs:=I.bs
 bsz:=Lv I.ok.bsz I.sz
 noex:=fun b o e hb=>by
  obtain⟨_,_,_,h3,_⟩:=hf b hb;rcases h3 with h3 | h3
  ·exact I.ok.noex b o e h3
  ·exact absurd (Ko (J0 (I.ok.bs b o e).1) h3) (Ls _)
 exfs:=fun b hb hs=>by
  obtain⟨_,h1,h2,_⟩:=hf b hb;rcases J7.mp (I.stkSub b hs)with e | e
  ·exact h1 e
  ·exact h2 e
 funs:=I.stack
 frf:=I.stkFree
theorem oh(O:cw X N2 nt js scope cl sc)(I:Inv X pins σ H s)(hf:∀b∈fp,dm X pins H b)(hlt:∀b∈fp,b<s.heap.objs.size){h4:Heap}{t4:Nat}(hn:h4.Ns s.heap.objs.size fun _=>none)
  (hk:∀b o,s.heap.get? b=some o->h4.get? b=some o):Inv (cL X N2 scope cl s H fp (X.pn++pins)) [] (h7 nt js σ) H { s with heap:=h4,toks:=t4 }:=by
 refine⟨rL O I hf hlt,rfl,I.bare,Un.kept hk,⟨_,hn,fun i x v e1 e2 e3=>?_⟩,fun x c e=>?_,I.hok.fresh (JW _),fun x c e=>I.freeC x c (O.sub x c e),fun p hp=>?_,I.hok.kept hk,?_⟩
 ·unfold h7 at e2;by_cases hi:i<nt
  ·rw[Kz (by simpa using hi),LQ]at e2;split at e2<;>cases e2
  ·obtain⟨k,rfl⟩:∃k,i=nt+k:=⟨i - nt,by omega⟩;rw[Kv (by simp),Lm,Nat.add_sub_cancel_left,JV]at e2;cases ej:js[k]? with
   | none=>rw[ej]at e2;cases e2
   | some j =>
    rw[ej]at e2;have e2':(σ[j]?).join=some v:=Ks e2;have eσ:σ[j]?=some (some v):=by
     cases q:σ[j]? with
     | none=>rw[q]at e2';cases e2'
     | some o=>rw[q]at e2';exact congrArg some e2'
    have eN:X.N[j]?=some x:=(O.pl k j ej).trans e1;have hx:x∈N2.drop nt:=by
     have:(N2.drop nt)[k]?=some x:=by rw[List.getElem?_drop];exact e1
     exact JX this
    obtain⟨f1,f2⟩:=O.frs x hx;have vis:Vis X.env.scope x:=.inr (.inl (by rw[O.xsc];exact f2));obtain⟨m,hnX,hl⟩:=I.loc;obtain⟨u,r,l⟩:=hl j x v eN eσ vis;refine⟨u,r,.inr ⟨?_,?_⟩⟩
    ·exact cc f1
    ·rcases l with⟨k1,_⟩ |⟨_,c,ec,ic⟩
     ·have k2:sc.names.lookup x=some .local:=by rw[←O.xsc];exact k1
      rw[f2]at k2;cases k2
     ·obtain⟨c',ec'⟩:=mem_lookup (O.has (x,.free) (lookup_mem f1) rfl);have:=O.sub x c' ec';rw[ec]at this;cases this;obtain⟨o,ho,hd⟩:=ic;exact⟨c,ec',o,hk _ _ ho,hd⟩
 ·obtain⟨v,o,ho,hd⟩:=I.cell x c (O.sub x c e);exact⟨v,o,hk _ _ ho,hd⟩
 ·have hp':p∈X.pn++pins:=by
   have hp2:p∈(X.pn++pins)++[]:=hp
   rwa [K4]at hp2
  obtain⟨e,n,ne,nf,d⟩:=I.pin p hp';refine⟨hk _ _ e,n,Ki (J0 e),fun hb=>?_,d⟩;rcases J7.mp (I.stkSub p.1 hb)with z | z
  ·exact ne z
  ·exact nf z
 ·unfold h7;show _=N2.length;rw[J2,Lm,JN,O.len]
theorem vh{σ':St}(I:Inv X pins σ H s)(hf:∀b∈fp,dm X pins H b)(J:Inv (cL X N2 scope cl s H fp (X.pn++pins)) pl σ' H' s'):Inv X pins σ H' s' :=
 I.call' (ch:=fp) J.os J.base J.hok J.bare fun b hb=>by
  obtain⟨h0,h1,h2,h3,h4,h5⟩:=hf b hb;exact⟨h3,h1,h4,h5⟩
end
end
section
def PIf(Y:Cx)(ifs:List Expr)(t:TT):Prop :=
 ∀(pins:List (Addr×Obj)) (s:Shared) (σ:St) (H:Hp) (Q:Bool->Hp->Prop),Inv Y pins σ H s->t σ H Q ->
  wpAny (model Y.prog Y.w) Y.A (forIn ifs true fun c r=>if r=true then do let ok←isTrue c Y.env (eval c Y.env);pure (ForInStep.yield ok)else pure (ForInStep.yield r)) (TP Y pins σ Q) Y.xe s
def GX:TT:=fun _ H Q=>Q true H
theorem yk:PIf Y [] GX:=fun _ _ _ H _ I h=>wpAny_tests_nil ⟨H,I,h⟩
theorem wG(h:PT Y c t):PIf Y [c] t:=fun pins s σ H Q I hw=>wpAny_tests_one (h pins s σ H Q I hw)
def vQ(acc:Addr)(J:It)(g:TG)(tt:TT)(te:TE)(W:Nat->Nat->L2.St->Hp->Prop)(i m:Nat)(σ0:L2.St)(H:Hp):Prop :=
 J.go i H/\∀x H',J.yld i H x H'->g x σ0 H' fun σ3 H2=>tt σ3 H2 fun b H3 =>
  if b=true then te σ3 H3 fun y H4=>∃ys,H4 acc=some (.lst ys)/\ys.length<sizeLine/\∃m',m'<m/\W (i+1) m' σ3 (upd H4 acc (.lst (ys++[y])))
  else ∃m',m'<m/\W (i+1) m' σ3 H3
def qt(nt:Nat)(js:List Nat)(wi:TI)(g:TG)(tt:TT)(te:TE):TE:=fun σ H Q=>wi σ H fun J H1=>∀acc,H1 acc=none ->
 ∃W:Nat->Nat->L2.St->Hp->Prop,(∃m,W 0 m (h7 nt js σ) (upd H1 acc (.lst [])))/\∀i m σ0 H,W i m σ0 H->(J.stop i H/\Q (.ref acc) H)∨vQ acc J g tt te W i m σ0 H
structure mF (Y:Cx) (tg:Expr) (ifs:List Expr) (elt:Expr) (g:TG) (tt:TT) (te:TE):Prop where
 tgt:PG Y tg g
 tst:PIf Y ifs tt
 elt:PE Y elt te
theorem fu(I:Nat->Shared->Prop)
  (turn:∀n s,I n s->wpAny (model prog w) A (pyNext it) (fun r s₁=>match r with
   | none=>R (.ok .next) s₁
   | some v=>wpAny (model prog w) A (letOwnedTupleGo target it v) (fun _ s₀=>wpAny (model prog w) A (assign target env v) (fun _ s₂ =>
     wpAny (model prog w) A (forIn ifs true fun c r=>if r=true then do let ok←isTrue c env (eval c env);pure (ForInStep.yield ok)else pure (ForInStep.yield r)) (fun ok s₃ =>
      if ok=true then wpAny (model prog w) A (eval elt env) (fun x s₄ =>
       wpAny (model prog w) A (call (.builtin "list.append") [acc,x]) (fun _ s₅=>∃m,m<n/\I m s₅) (fun _ _=>False) s₄) (fun _ _=>False) s₃
      else ∃m,m<n/\I m s₃) (fun _ _=>False) s₂) (fun _ _=>False) s₀) (fun _ _=>False) s₁) (fun _ _=>False) s)
  (n:Nat) (h:I n s) :
  codeAny (model prog w) A (.compLoop (.ListComp elt [⟨target,iter,ifs,0⟩] scope pos) 0 it acc env) R s:=by
 refine codeAny_loop rfl I (fun n s hI=>?_) n h;show wpAny _ A ((compTurn (.ListComp elt [⟨target,iter,ifs,0⟩] scope pos) 0 it acc env).onRaise (fun x=>do noteFrame x env;theTreesLotGoes x)) _ _ s;refine wpAny_noted ?_;rw[compTurn_list];refine JP (wpAny_standAt (JP (LO (turn n s hI) (fun r s₁ h₁=>?_) fun _ _ h'=>h'.elim)));cases r with
 | none=>exact JT h₁
 | some v =>
  refine JP (LO h₁ (fun _ s₀ h₀=>?_) fun _ _ h'=>h'.elim);refine JP (LO h₀ (fun _ s₂ h₂=>JP (LO h₂ (fun ok s₃ h₃=>?_) fun _ _ h'=>h'.elim)) fun _ _ h'=>h'.elim);cases ok with
  | false=>exact JT ⟨rfl,h₃⟩
  | true =>
   exact JP (JP (LO h₃ (fun x s₄ h₄=>JP (LO h₄ (fun _ s₅ h₅=>JT (JT ⟨rfl,h₅⟩)) fun _ _ h'=>h'.elim)) fun _ _ h'=>h'.elim))
section
variable {X:Cx}{pins:List (Addr×Obj)}{σ:St}{H:Hp}{s:Shared}{N2:List Str}{nt:Nat}{js:List Nat}{scope sc:Scope}{cl:List (Str×Addr)}{fp:List Addr}{elt iter tg:Expr}{ifs:List Expr}{pos:Pos}
 {wi:TI} {g:TG} {tt:TT} {te:TE}
theorem mj(O:cw X N2 nt js scope cl sc)(hc:X.calm=true)(B:∀(s0:Shared) (H0:Hp) (fp:List Addr) (ps:List (Addr×Obj)),mF (cL X N2 scope cl s0 H0 fp ps) tg ifs elt g tt te)
  {it:Addr} {tn:Nat->Heap->Prop} {J:It} {E:Value->Shared->Prop} {Q:VK} {RR:Value->Addr->Result->Shared->Prop}
  (I:Inv X pins σ H s) (T:Turn X.prog X.w X.K tg J fp it tn) (st:tn 0 s.heap) (hf:∀b∈fp,dm X pins H b)
  (h:∀acc,H acc=none->∃W:Nat->Nat->L2.St->Hp->Prop,(∃m,W 0 m (h7 nt js σ) (upd H acc (.lst [])))/\∀i m σ0 H,W i m σ0 H->(J.stop i H/\Q (.ref acc) H)∨vQ acc J g tt te W i m σ0 H)
  (hRR:∀(acc C:Addr) (s':Shared) (H':Hp) (m:Str->Option Value),s'.heap.Ns C m->Inv X pins σ H' s'->H' C=none->C≠X.env.locals->X.s₀.heap.objs.size≤C->(∀x c,X.env.cells.lookup x=some c->c≠C)->(∀p∈X.pn++pins,p.1≠C)->Q (.ref acc) H'->RR (.ref acc) C (.ok .next) s') :
  wpAny (model X.prog X.w) X.A (newList []) (fun acc s₃=>wpAny (model X.prog X.w) X.A (newFunctionEnv scope X.env.globals cl [] X.env.qual none .none (some X.env)) (fun cenv s₄ =>
   codeAny (model X.prog X.w) X.A (.compStart (.ListComp elt [⟨tg,iter,ifs,0⟩] scope pos) 0 (.ref it) acc { cenv with scope:=relabel scope X.env }) (RR acc cenv.locals) s₄) E s₃) E s:=by
 have hlt:∀b∈fp,b<s.heap.objs.size:=fun b hb=>by
  obtain⟨o,e,_⟩:=T.obj _ _ st b hb;exact J0 e
 have hnA:H s.heap.objs.size=none:=I.hok.fresh (JW _);obtain⟨W,⟨m0,w0⟩,turn⟩:=h s.heap.objs.size hnA;refine KO (wpAny_newFunctionEnv O.nocell (by intro y hy;simp at hy) (fun h₁ hns₁ hsb₁=>?_) O.kind);dsimp only at hns₁ hsb₁ ⊢;have I3:Inv X pins σ (upd H s.heap.objs.size (.lst [])) { s with heap:=s.heap.push { cls:=.type "list",dict:=none,data:=.seq ([]:List Value).toArray } } :=
  I.laid (t':=s.toks) (fun b u e=>JR _ e) (JW _) ⟨by show 0≤sizeLine;exact Ll _,[],0,.nil,JZ _ rfl⟩
 generalize hs3:({ s with heap:=s.heap.push { cls:=.type "list",dict:=none,data:=.seq ([]:List Value).toArray } }:Shared)=s3 at I3;have e3:s3.heap=s.heap.push { cls:=.type "list",dict:=none,data:=.seq ([]:List Value).toArray }:=by rw[←hs3]
 rw[←e3]at hns₁ hsb₁ ⊢;have et:s3.toks=s.toks:=by rw[←hs3]
 have hf3:∀b∈fp,dm X pins (upd H s.heap.objs.size (.lst [])) b:=fun b hb=>by
  obtain⟨f0,f⟩:=hf b hb;exact⟨by rw[aC (Ki (hlt b hb))];exact f0,f⟩
 have hlt3:∀b∈fp,b<s3.heap.objs.size:=fun b hb=>by rw[e3,K9];exact LK (hlt b hb)
 have hk4:∀b o,s3.heap.get? b=some o->h₁.get? b=some o:=fun b o e=>hsb₁.extBut b o (Ki (J0 e)) (JR _ e);have hns':h₁.Ns s3.heap.objs.size fun _=>none:=hns₁;have I4:=oh (t4:=s3.toks+([]:List (Str×Value)).length) O I3 hf3 hlt3 hns' hk4;have st4:tn 0 h₁:=T.keep _ _ _ st fun b hb o e=>hk4 b o (by rw[e3];exact JR _ e);have B4:=B s3 (upd H s.heap.objs.size (.lst [])) fp (X.pn++pins);generalize hY:cL X N2 scope cl s3 (upd H s.heap.objs.size (.lst [])) fp (X.pn++pins)=Y at I4 B4;have yP:Y.prog=X.prog:=by rw[←hY];rfl
 have yw:Y.w=X.w:=by rw[←hY];rfl
 have yK:Y.K=X.K:=by rw[←hY];rfl
 have yA:Y.A=X.A:=by rw[←hY];rfl
 have yc:Y.calm=true:=by rw[←hY];exact hc
 have yx:Y.xe=fun _ _=>False:=by rw[←hY];rfl
 have ye:Y.env=compEnvC scope cl s3.heap.objs.size X.env:=by rw[←hY];rfl
 have fpY:∀{H':Hp},(∀b∈fp,H' b=none)->∀b∈fp,dm Y [] H' b:=fun hn b hb=>by
  obtain⟨f0,f1,f2,f3,f4,f5⟩:=hf3 b hb;rw[←hY];refine⟨hn b hb,Ki (hlt3 b hb),fun hs=>?_,.inl hb,fun x c e=>f4 x c (O.sub x c e),fun p hp=>?_⟩
  ·rcases J7.mp (I3.stkSub b hs)with e | e
   ·exact f1 e
   ·exact f2 e
  ·have hp2:p∈(X.pn++pins)++[]:=hp;rw[K4]at hp2;exact f5 p hp2
 have fin:∀{σ':St} {H':Hp} {s':Shared} {pl:List (Addr×Obj)},Inv Y pl σ' H' s'->Q (.ref s.heap.objs.size) H'->RR (.ref s.heap.objs.size) s3.heap.objs.size (.ok .next) s':=fun {σ' H' s' pl} I' q=>by
  have J':Inv X pins σ H' s':=vh I3 hf3 (hY▸I');obtain⟨m,hn,_⟩:=I'.loc;have hfr:=I'.free;rw[ye]at hn hfr;refine hRR _ _ s' H' m hn J' hfr (Lx I3.lt) I3.sz (fun x c e z=>?_) (fun p hp z=>?_) q
  ·obtain⟨v,q⟩:=I3.cell x c e;exact absurd (Ko q.lt (by rw[z];exact JW _)) (Ls _)
  ·exact absurd (Ko (J0 (I3.pin p hp).1) (by rw[z];exact JW _)) (Ls _)
 have loop:∀s4:Shared,s4={ s3 with heap:=h₁,toks:=s3.toks+([]:List (Str×Value)).length } ->
   codeAny (model X.prog X.w) X.A (.compLoop (.ListComp elt [⟨tg,iter,ifs,0⟩] scope pos) 0 (.ref it) (.ref s.heap.objs.size) (compEnvC scope cl s3.heap.objs.size X.env)) (RR (.ref s.heap.objs.size) s3.heap.objs.size) s4:=by
  rintro s4 rfl;refine fu (fun n s'=>∃i σ0 H',Inv Y [] σ0 H' s'/\tn i s'.heap/\(∀b∈fp,H' b=none)/\W i n σ0 H') ?_ m0
   ⟨0,_,_,I4,st4,fun b hb=>(hf3 b hb).1,w0⟩
  rintro n s5 ⟨i,σ5,H5,I5,st5,fr5,w5⟩;rcases turn i n σ5 H5 w5 with⟨stop,q⟩ |⟨go,step⟩
  ·have r:=T.done Y yP yw yK yc i [] s5 _ H5 (fun _ _=>False) I5 (fpY fr5) st5 stop;rw[yA]at r;refine thn r fun r s6 y_=>?_;obtain⟨hr,I6⟩:=y_;subst hr;exact fin I6 q
  ·have r:=T.item Y yP yw yK yc i [] s5 _ H5 (fun _ _=>False) I5 (fpY fr5) st5 go;rw[yA]at r;refine thn r fun r s6 y_=>?_;obtain⟨u,hr,h6⟩:=y_;subst hr;refine thn h6 fun _ s7 y_=>?_;obtain⟨x,H7,I7,r7,y7,st7,fr7⟩:=y_;have I7':=I7.pinned (fpY fr7) (T.obj _ _ st7);have r:=B4.tgt _ s7 _ H7 x u _ I7' r7 (step x H7 y7);rw[yP,yw,yA,yx,ye]at r;refine thn r fun _ s8 y_=>?_;obtain⟨σ8,H8,I8,q8⟩:=y_;have r:=B4.tst _ s8 σ8 H8 _ I8 q8;rw[yP,yw,yA,yx,ye]at r;refine thn r fun ok s9 y_=>?_;obtain⟨H9,I9,q9⟩:=y_;have back:∀{s':Shared} {H':Hp},Inv Y ([]++gA fp s7.heap) σ8 H' s'->(Inv Y [] σ8 H' s'/\tn (i+1) s'.heap/\∀b∈fp,H' b=none):=fun {s' H'} I'=>by
    refine⟨I'.unpinned,T.keep _ _ _ st7 fun b hb o e=>(I'.pin (b,o) (Kd _ (Kd _ (cM hb e)))).1,fun b hb=>?_⟩;obtain⟨o,e,d⟩:=T.obj _ _ st7 b hb;exact(I'.pin (b,o) (Kd _ (Kd _ (cM hb e)))).2.1
   cases ok with
   | false =>
    have q9':∃m',m'<n/\W (i+1) m' σ8 H9:=q9;obtain⟨m',hm,w9⟩:=q9';obtain⟨b1,b2,b3⟩:=back I9;show ∃m,m<n/\_;exact⟨m',hm,i+1,σ8,H9,b1,b2,b3,w9⟩
   | true =>
    have q9':te σ8 H9 fun y H4=>∃ys,H4 s.heap.objs.size=some (.lst ys)/\ys.length<sizeLine/\∃m',m'<n/\W (i+1) m' σ8 (upd H4 s.heap.objs.size (.lst (ys++[y]))):=q9;have r:=B4.elt _ s9 σ8 H9 _ I9 q9';rw[yP,yw,yA,yx,ye]at r;show wpAny _ _ (eval elt _) _ _ s9;refine thn r fun y s10 y_=>?_;obtain⟨yv,H10,I10,r10,q10⟩:=y_;obtain⟨ys,a1,a2,m',hm,w10⟩:=q10;have r:=bJ (X:=Y) _ s10 σ8 H10 (.ref s.heap.objs.size) [yv] (.ref s.heap.objs.size) [y] (fun _ H'=>H'=upd H10 s.heap.objs.size (.lst (ys++[yv]))) I10 rfl (.cons r10 .nil) ⟨_,ys,yv,rfl,rfl,a1,a2,rfl⟩;rw[yP,yw,yA,yx]at r;refine thn r fun _ s11 y_=>?_;obtain⟨_,H11,I11,_,e11⟩:=y_;subst e11;obtain⟨b1,b2,b3⟩:=back I11;exact⟨m',hm,i+1,σ8,_,b1,b2,b3,w10⟩
 have st4':tn 0 ({ s3 with heap:=h₁,toks:=s3.toks+([]:List (Str×Value)).length }:Shared).heap:=st4;have hs4:({ s with heap:=h₁,toks:=s.toks+([]:List (Str×Value)).length }:Shared)={ s3 with heap:=h₁,toks:=s3.toks+([]:List (Str×Value)).length }:=by rw[←hs3]
 exact codeAny_compStart_list (loop _ hs4) (T.self _ 0 _ _ _ st4 (loop _ hs4))
theorem uG(O:cw X N2 nt js scope cl sc)(hc:X.calm=true)(hi:PI X tg iter wi)(B:∀(s0:Shared) (H0:Hp) (fp:List Addr) (ps:List (Addr×Obj)),mF (cL X N2 scope cl s0 H0 fp ps) tg ifs elt g tt te)
  (hs:∀x,foldedSetIterable iter X.env x=pure x:=by intro _;rfl):PE X (.ListComp elt [⟨tg,iter,ifs,0⟩] scope pos) (qt nt js wi g tt te):=by
 intro pins s σ H Q I h;rw[eval_ListComp];refine wpAny_comprehension_free (use:=none) rfl hs O.clos O.kind O.loc (thn (hi pins s σ H _ I h) fun xv s1 h1=>thn h1 fun itv s2 h2=>?_);obtain⟨it,fp,tn,J,H2,e,I2,T,st2,f2,q⟩:=h2;subst e;refine mj (RR:=fun acc C=>compPost (model X.prog X.w) X.A X.xe none (EP X pins σ Q) acc C) O hc B I2 T st2 f2 q ?_;intro acc C s' H' m hn J' c1 c2 c3 c4 c5 q';refine⟨m,hn,fun h' hsb=>⟨.ref acc,H',?_,rfl,q'⟩⟩;exact J'.turned (t':=s'.toks) (fun b o hb e=>hsb.extBut b o hb e) c1 (Ne.symm c2 |> fun z=>fun y=>z y.symm) (.inr c3) c4 c5
theorem ve{i:Nat}{y:Str}{py spos:Pos}(hN:X.N.Nodup)(hy:X.N[i]?=some y)(hl:Loc X.env.scope y)(O:cw X N2 nt js scope cl sc)(hc:X.calm=true)(hi:PI X tg iter wi)
  (B:∀(s0:Shared) (H0:Hp) (fp:List Addr) (ps:List (Addr×Obj)),mF (cL X N2 scope cl s0 H0 fp ps) tg ifs elt g tt te)
  (hsw:swapsWith (.ListComp elt [⟨tg,iter,ifs,0⟩] scope pos) (some (.Name y py)) spos.line X.env=pure true:=by rfl)
  (hs:∀x,foldedSetIterable iter X.env x=pure x:=by intro _;rfl) (hfn:X.fn y=true∨X.env.scope.names.lookup y=some .local:=by first | exact .inl rfl | exact .inr rfl | assumption) :
  PS X (.Assign [.Name y py] (.ListComp elt [⟨tg,iter,ifs,0⟩] scope pos) spos) (wF (qt nt js wi g tt te) (pD i)):=by
 intro pins s σ H D I h;rw[exec_Assign_Name_used _ _ _ _ hsw];refine JP (wpAny_standAt (JP ?_));show wpAny _ X.A (do let _←comprehension (.ListComp elt [⟨tg,iter,ifs,0⟩] scope pos) scope X.env _ (newList []) false (eval iter X.env) (some (assign (.Name y py) X.env))) _ _ s;refine JP (LO (wpAny_comprehension_free (use:=some (assign (.Name y py) X.env)) (Q:=fun _ s'=>SP X pins D .next s') rfl hs O.clos O.kind O.loc
  (thn (hi pins s σ H _ I h) fun xv s1 h1=>thn h1 fun itv s2 h2=>?_)) (fun _ s' hq=>JT (JT hq)) fun _ _ e=>e)
 obtain⟨it,fp,tn,J,H2,e,I2,T,st2,f2,q⟩:=h2;subst e;refine mj (Q:=fun v H1=>pD i v σ H1 D.nx) (RR:=fun acc C=>compPost (model X.prog X.w) X.A X.xe (some (assign (.Name y py) X.env)) (fun _ s'=>SP X pins D .next s') acc C) O hc B I2 T st2 f2 q ?_;intro acc C s' H' m hn J' c1 c2 c3 c4 c5 q';show wpAny _ X.A (assign (.Name y py) X.env (.ref acc)) _ _ _;refine wpAny_assign_Name (jE (v:=.ref acc) J' hN hy hl rfl (fun s2 I2' ⟨a,sb,ha⟩=>?_) hfn);have hCa:C≠a:=by
  rcases ha with ha | ha
  ·rw[ha];exact c2
  ·exact fun z=>c4 y a ha z.symm
 refine⟨m,hn.sameBut sb hCa,fun h' hsb=>⟨_,H',?_,q'⟩⟩;exact I2'.turned (t':=s2.toks) (fun b o hb e=>hsb.extBut b o hb e) c1 c2 (.inr c3) c4 c5
end
end
end L2
namespace U
open L2
section
variable {B:Bs}{X:Cx}{pos:Pos}
def yp(nt:Nat)(js:List Nat)(σ:St'):St':=List.replicate nt none++js.map fun j=>(σ[j]?).join
theorem SR.sig{K:LFr}(s:SR K B σ' H' σ H)(nt:Nat)(js:List Nat):SR K B (yp nt js σ') H' (h7 nt js σ) H:=by
 refine⟨by simp[yp,h7],fun i v' e=>?_,s.hp,s.ev⟩;unfold yp at e;unfold h7;by_cases hi:i<nt
 ·rw[Kz (by simpa using hi),LQ]at e;split at e<;>cases e
 ·rw[Kv (by simp;omega),Lm,JV]at e ⊢;cases ej:js[i - nt]? with
  | none=>rw[ej]at e;cases e
  | some j =>
   rw[ej]at e;have e2:(σ'[j]?).join=some v':=Ks e;cases q:σ'[j]? with
   | none=>rw[q]at e2;cases e2
   | some o =>
    rw[q]at e2;have e3:σ'[j]?=some (some v'):=by rw[q];exact congrArg some e2
    obtain⟨v,a,b⟩:=s.loc j v' e3;exact⟨v,by show some ((σ[j]?).join)=_;rw[a];rfl,b⟩
def dD(ok:PHp->Prop)(g:TG')(tt:TT')(te:TE')(acc:Addr)(Q:VK'):List PV->St'->PHp->Prop
 | [],σ,H=>ok H/\Q (.ref acc) H
 | x::r,σ,H=>ok H/\g x σ H fun σ3 H2=>tt σ3 H2 fun b H3=>cif b (te σ3 H3 fun y H4=>∃l,H4 acc=some (.lst l)/\l.length<sizeLine/\dD ok g tt te acc Q r σ3 (put H4 acc (.lst (l++[y])))) (dD ok g tt te acc Q r σ3 H3)
def fJ(nt:Nat)(js:List Nat)(wi:TI')(g:TG')(tt:TT')(te:TE'):TE':=fun σ H Q=>wi σ H fun J H1=>∀acc,H1 acc=none->dD J.ok g tt te acc Q J.items (yp nt js σ) (put H1 acc (.lst []))
def Cn(Y:Cx)(B:Bs)(ifs:List Expr)(t:TT'):Prop:=PIf Y ifs (lH Y.K B t)
def CB:TT':=fun _ H Q=>Q true H
theorem aL:Cn Y B [] CB:=fun pins s σ H Q I ⟨σ',H',Q',sr,h,k⟩=>yk pins s σ H Q I (k true H' H h sr (Ev.refl _ _))
theorem gc(h:PT' Y B c t):Cn Y B [c] t:=wG h
theorem gP{K:LFr}(h:low K B (fJ nt js wi g tt te) σ H Q) :
  qt nt js (zm K B wi) (lowG K B g) (lH K B tt) (low K B te) σ H Q:=by
 obtain⟨σ',H',Q',s,h,k⟩:=h;refine⟨σ',H',_,s,h,fun J' H1' J H1 h1 wk s1 e1 acc ha=>?_⟩;have h1:=h1 acc (s1.hp.free ha);have sn:SR K B σ' (put H1' acc (.lst [])) σ (upd H1 acc (.lst [])):=s1.new ha ⟨[],aT,RPs.nil _⟩;have en:Ev H1' H1 (put H1' acc (.lst [])) (upd H1 acc (.lst [])):=Ev.new ha;refine⟨fun i m σ2 H2=>i≤J'.items.length/\m=J'.items.length - i/\∃σ2' H2',SR K B σ2' H2' σ2 H2/\SR K B σ' H2' σ H2/\Ev H1' H1 H2' H2/\dD J'.ok g tt te acc Q' (J'.items.drop i) σ2' H2',
  ⟨J'.items.length,Ll _,by simp,_,_,sn.sig nt js,sn,en,h1⟩,?_⟩
 rintro i m σ2 H2 ⟨hi,rfl,σ2',H2',s2,so,e2,h2⟩;have k2:=e2.kp s1.hp;by_cases hlt:i<J'.items.length
 ·obtain⟨x',hx⟩:∃x',J'.items[i]?=some x':=⟨_,JO hlt⟩;have hd:J'.items.drop i=x'::J'.items.drop (i+1):=by
   rw[LM hlt];rw[JO hlt]at hx;cases hx;rfl
  rw[hd]at h2;obtain⟨ok2,h2⟩:=(show J'.ok H2'/\_ from h2);refine .inr ⟨wk.go H2' H2 i k2 s2.hp ok2 hlt,fun x H3 y=>?_⟩;obtain⟨hr3,ev3,rx⟩:=wk.yld H2' H2 i x H3 k2 s2.hp ok2 y;have s2b:=s2.kp ev3 hr3;have sob:=so.kp ev3 hr3;have e2b:=e2.trans ev3;refine⟨x',σ2',H2',_,rx x' hx,s2b,h2,fun σ3' H3' σ3 H3 h3 s3 e3=>⟨σ3',H3',_,s3,h3,fun b H4' H4 h4 s4 e4=>?_⟩⟩;cases b with
  | false =>
   have e24:=e3.trans e4;exact ju ⟨J'.items.length - (i+1),by omega,hlt,rfl,σ3',H4',s4,sob.kp e24 s4.hp,e2b.trans e24,h4⟩
  | true =>
   refine jy ⟨σ3',H4',_,s4,h4,fun y' H5' y H5 h5 ry5 s5 e5=>?_⟩;obtain⟨l,a1,a2,h5⟩:=h5;have e25:=(e3.trans e4).trans e5;obtain⟨us,q1,q2⟩:=s5.hp _ _ a1;have wr:=wrL s5.hp a1 (RPs.append _ q2 (RPs.cons _ ry5 (RPs.nil _)));refine⟨us,q1,by rw[RPs.length _ q2];exact a2,J'.items.length - (i+1),by omega,hlt,rfl,σ3',_,s5.wr a1 wr,(sob.kp e25 s5.hp).wr a1 wr,(e2b.trans e25).trans (Ev.wr a1),h5⟩
 ·have hi':i=J'.items.length:=by omega
  subst hi';rw[List.drop_length]at h2;obtain⟨ok2,h2⟩:=(show J'.ok H2'/\_ from h2);exact .inl ⟨wk.stop H2' H2 k2 s2.hp ok2,k _ _ _ _ h2 (by simp[RP]) so (e1.trans e2)⟩
section
variable {N2:List Str}{nt:Nat}{js:List Nat}{scope sc:Scope}{cl:List (Str×Addr)}{elt iter tg:Expr}{ifs:List Expr}{wi:TI'}{g:TG'}{tt:TT'}{te:TE'}
structure fg (Y:Cx) (B:Bs) (tg:Expr) (ifs:List Expr) (elt:Expr) (g:TG') (tt:TT') (te:TE'):Prop where
 tgt:PG' Y B tg g
 tst:Cn Y B ifs tt
 elt:PE' Y B elt te
theorem fF(O:cw X N2 nt js scope cl sc)(hc:X.calm=true)(hi:PIH X B tg iter wi)(b:∀(s0:Shared) (H0:Hp) (fp:List Addr) (ps:List (Addr×Obj)),fg (cL X N2 scope cl s0 H0 fp ps) B tg ifs elt g tt te)
  (hs:∀x,foldedSetIterable iter X.env x=pure x:=by intro _;rfl):PE' X B (.ListComp elt [⟨tg,iter,ifs,0⟩] scope pos) (fJ nt js wi g tt te) :=
 aQ (uG (g:=lowG X.K B g) (tt:=lH X.K B tt) (te:=low X.K B te) O hc hi (fun s0 H0 fp ps=>⟨(b s0 H0 fp ps).tgt,(b s0 H0 fp ps).tst,(b s0 H0 fp ps).elt⟩) hs) fun _ _ _ h=>gP h
theorem xG(O:cw X N2 nt js scope cl sc)(hc:X.calm=true)(hi:PI' X B tg iter wi)(b:∀(s0:Shared) (H0:Hp) (fp:List Addr) (ps:List (Addr×Obj)),fg (cL X N2 scope cl s0 H0 fp ps) B tg ifs elt g tt te)
  (hs:∀x,foldedSetIterable iter X.env x=pure x:=by intro _;rfl):PE' X B (.ListComp elt [⟨tg,iter,ifs,0⟩] scope pos) (fJ nt js wi g tt te):=fF O hc (iY hi) b hs
theorem lj{i:Nat}{y:Str}{py spos:Pos}(hN:X.N.Nodup)(hy:X.N[i]?=some y)(hl:Loc X.env.scope y)(O:cw X N2 nt js scope cl sc)(hc:X.calm=true)(hi:PIH X B tg iter wi)
  (b:∀(s0:Shared) (H0:Hp) (fp:List Addr) (ps:List (Addr×Obj)),fg (cL X N2 scope cl s0 H0 fp ps) B tg ifs elt g tt te)
  (hsw:swapsWith (.ListComp elt [⟨tg,iter,ifs,0⟩] scope pos) (some (.Name y py)) spos.line X.env=pure true:=by rfl)
  (hs:∀x,foldedSetIterable iter X.env x=pure x:=by intro _;rfl) (hfn:X.fn y=true∨X.env.scope.names.lookup y=some .local:=by first | exact .inl rfl | exact .inr rfl | assumption) :
  PS' X B (.Assign [.Name y py] (.ListComp elt [⟨tg,iter,ifs,0⟩] scope pos) spos) (mr (fJ nt js wi g tt te) (bZ i)) :=
 dG (ve (g:=lowG X.K B g) (tt:=lH X.K B tt) (te:=low X.K B te) hN hy hl O hc hi (fun s0 H0 fp ps=>⟨(b s0 H0 fp ps).tgt,(b s0 H0 fp ps).tst,(b s0 H0 fp ps).elt⟩) hsw hs hfn) fun D σ H y_=>by
  obtain⟨σ',H',D',s,h,d⟩:=y_;refine gP ⟨σ',H',_,s,h,fun v' H1' v H1 q r s1 e1=>?_⟩;exact d.nx _ _ _ _ q (s1.set r i) e1
theorem wM{i:Nat}{y:Str}{py spos:Pos}(hN:X.N.Nodup)(hy:X.N[i]?=some y)(hl:Loc X.env.scope y)(O:cw X N2 nt js scope cl sc)(hc:X.calm=true)(hi:PI' X B tg iter wi)
  (b:∀(s0:Shared) (H0:Hp) (fp:List Addr) (ps:List (Addr×Obj)),fg (cL X N2 scope cl s0 H0 fp ps) B tg ifs elt g tt te)
  (hsw:swapsWith (.ListComp elt [⟨tg,iter,ifs,0⟩] scope pos) (some (.Name y py)) spos.line X.env=pure true:=by rfl)
  (hs:∀x,foldedSetIterable iter X.env x=pure x:=by intro _;rfl) (hfn:X.fn y=true∨X.env.scope.names.lookup y=some .local:=by first | exact .inl rfl | exact .inr rfl | assumption) :
  PS' X B (.Assign [.Name y py] (.ListComp elt [⟨tg,iter,ifs,0⟩] scope pos) spos) (mr (fJ nt js wi g tt te) (bZ i)):=lj hN hy hl O hc (iY hi) b hsw hs hfn
end
end
section
def oB(cs:List (Str×Addr)):List (Str×Addr)->Prop
 | []=>True
 | p::r=>cs.lookup p.1=some p.2/\oB cs r
theorem oB.mem{cs:List (Str×Addr)}:∀{l:List (Str×Addr)} {p:Str×Addr},oB cs l->p∈l->cs.lookup p.1=some p.2
 | q::r,p,h,m=>by
  rcases J7.mp m with rfl | m
  ·exact h.1
  ·exact oB.mem h.2 m
theorem cok(clos:closureFor scope X.env=pure cl)(sub:oB X.env.cells cl)(xsc:X.env.scope=sc)(kind:scope.kind=.function)
  (nocell:∀y∈scope.names,y.2≠.cell) (loc:∀y∈scope.names,y.2=.local->scope.names.lookup y.1=some .local) (names:cl.map (·.1)=((scope.names.filter (·.2==.free)).map (·.1)).reverse)
  (frs:∀x∈N2.drop nt,scope.names.lookup x=some .free/\sc.names.lookup x=some .cell) (len:N2.length=nt+js.length) (pl:js.map (fun j=>X.N[j]?)=(N2.drop nt).map some):cw X N2 nt js scope cl sc :=
 ⟨clos,fun x c e=>sub.mem (lookup_mem e),xsc,kind,nocell,loc,fun y m f=>by rw[names];exact List.mem_reverse.mpr (List.mem_map_of_mem (Le.mpr ⟨m,by rw[f];rfl⟩)),frs,len,fun k j e=>by
  have h:(js.map (fun j=>X.N[j]?))[k]?=((N2.drop nt).map some)[k]?:=by rw[pl]
  rw[JV,JV,e,List.getElem?_drop]at h;cases q:N2[nt+k]? with
  | none=>rw[q]at h;cases h
  | some x=>rw[q]at h;exact Ks h⟩
end
section
end
end U
namespace L2
variable {X:Cx}{a b c d:Expr}{pos:Pos}{ta tb tc td:TE}
def wD(r r' r'':R2)(ta tb tc td:TE):TE:=fun σ H Q=>ta σ H fun x H1=>tb σ H1 fun y H2=>r x y H2 fun z H3=>∃k,z=.bl k /\
 (if k=true then tc σ H3 fun w' H4=>r' y w' H4 fun z' H5=>∃k',z'=.bl k'/\(if k'=true then td σ H5 fun v' H6=>r'' w' v' H6 Q else Q (.bl false) H5)else Q (.bl false) H3)
theorem rA{op op' op'':CmpOp}{r r' r'':R2}(ho:OpR X (compareOp op) r)(ho':OpR X (compareOp op') r')(ho'':OpR X (compareOp op'') r'')(ha:PE X a ta)(hb:PE X b tb)(hc:PE X c tc)(hd:PE X d td)
  (hm:lastMarks [op,op',op''] [b,c,d]=false:=by with_unfolding_all rfl):PE X (.Compare a [op,op',op''] [b,c,d] pos) (wD r r' r'' ta tb tc td):=by
 intro pins s σ H Q I h;refine Compare_chain (thn (ha pins s σ H _ I h) fun v s1 ⟨x,H1,I1,r1,q1⟩=>chain_link (thn (hb pins s1 σ H1 _ I1 q1) fun u s2 ⟨y,H2,I2,r2,q2⟩ =>
  thn (ho pins s2 σ H2 x y v u _ I2 r1 r2 q2) fun d s3 ⟨z,H3,I3,r3,k,e,q3⟩=>?_)) hm
 subst e;cases r3;refine LB ?_;cases k with
 | false=>exact ite_ff ⟨.bl false,H3,I3,rfl,q3⟩
 | true =>
  refine ite_tt (chain_link (thn (hc pins s3 σ H3 _ I3 q3) fun w' s4 ⟨z',H4,I4,r4,q4⟩=>thn (ho' pins s4 σ H4 y z' u w' _ I4 r2 r4 q4) fun d' s5 y_=>?_));obtain⟨z5,H5,I5,r5,k5,e5,q5⟩:=y_;subst e5;cases r5;refine LB ?_;cases k5 with
  | false=>exact ite_ff ⟨.bl false,H5,I5,rfl,q5⟩
  | true=>exact ite_tt (chain_last (thn (hd pins s5 σ H5 _ I5 q5) fun w6 s6 y_=>by obtain⟨z6,H6,I6,r6,q6⟩:=y_;exact ho'' pins s6 σ H6 z' z6 w' w6 Q I6 r4 r6 q6))
end L2
namespace U
open L2
variable {B:Bs}{X:Cx}{a b c d e o value:Expr}{pos pos' apos p:Pos}{ta tb tc td tv:TE'}{f m x:Str}{C g:Addr}
def qi(r r' r'':R2')(ta tb tc td:TE'):TE':=fun σ H Q=>ta σ H fun x H1=>tb σ H1 fun y H2=>r x y H2 fun z H3=>d9 z fun k=>cif k (tc σ H3 fun w' H4=>r' y w' H4 fun z' H5=>d9 z' fun k'=>cif k' (td σ H5 fun v' H6=>r'' w' v' H6 Q) (Q (.bl false) H5)) (Q (.bl false) H3)
theorem rP{op op' op'':CmpOp}{r1' r2' r3':R2'}{r1 r2 r3:R2}(ho:OpR X (compareOp op) r1)(v1:VR X.K B r1' r1)(ho':OpR X (compareOp op') r2)(v2:VR X.K B r2' r2)(ho'':OpR X (compareOp op'') r3)(v3:VR X.K B r3' r3)
  (ha:PE' X B a ta) (hb:PE' X B b tb) (hc:PE' X B c tc) (hd:PE' X B d td)
  (hm:lastMarks [op,op',op''] [b,c,d]=false:=by with_unfolding_all rfl):PE' X B (.Compare a [op,op',op''] [b,c,d] pos) (qi r1' r2' r3' ta tb tc td):=aQ (rA ho ho' ho'' ha hb hc hd hm) fun σ H Q y_=>by
 obtain⟨σ',H',Q',s,h,k⟩:=y_;refine⟨σ',H',_,s,h,fun x' H1' x H1 h1 rx s1 e1=>⟨σ',H1',_,s1,h1,fun y' H2' y H2 h2 ry s2 e2=>?_⟩⟩;refine v1 σ' σ H2' H2 x' y' x y _ _ s2 (RP.kp X.K (e2.kp s1.hp) rx) ry h2 fun z' H3' z H3 q rz s3 e3=>?_;obtain⟨b,rfl,q⟩:=q.ex;simp only[RP]at rz;refine⟨b,rz,?_⟩;cases b with
 | false=>exact ju (k _ _ _ _ q (by simp[RP]) s3 ((e1.trans e2).trans e3))
 | true =>
  refine jy ⟨σ',H3',_,s3,q,fun w' H4' w H4 h4 rw4 s4 e4=>?_⟩;refine v2 σ' σ H4' H4 y' w' y w _ _ s4 (RP.kp X.K ((e3.trans e4).kp s2.hp) ry) rw4 h4 fun z5' H5' z5 H5 q5 rz5 s5 e5=>?_;obtain⟨b5,rfl,q5⟩:=q5.ex;simp only[RP]at rz5;refine⟨b5,rz5,?_⟩;cases b5 with
  | false=>exact ju (k _ _ _ _ q5 (by simp[RP]) s5 ((((e1.trans e2).trans e3).trans e4).trans e5))
  | true =>
   refine jy ⟨σ',H5',_,s5,q5,fun v' H6' v H6 h6 rv s6 e6=>?_⟩;exact v3 σ' σ H6' H6 w' v' w v _ _ s6 (RP.kp X.K ((e5.trans e6).kp s4.hp) rw4) rv h6 fun z7' H7' z7 H7 q7 rz7 s7 e7=>k _ _ _ _ q7 rz7 s7 ((((((e1.trans e2).trans e3).trans e4).trans e5).trans e6).trans e7)
def zh(C:Addr)(f:Str)(x:PV)(H:PHp)(Q:VK'):Prop:=match x with
 | .ref a=>∃dx fs v,H a=some (.ins C dx fs)/\fs.lookup f=some v/\Q v H
 | _=>False
def Fi(C:Addr)(f:Str)(ta:TE'):TE':=fun σ H Q=>ta σ H fun x H1=>zh C f x H1 Q
theorem lF{K:LFr}(h:fj K H fs gs)(e:fs.lookup f=some v):∃u,gs.lookup f=some u/\RP K H v u:=by
 induction h with
 | nil=>simp at e
 | @cons a b _ _ h t ih =>
  obtain⟨n,y⟩:=a;obtain⟨m,z⟩:=b;obtain⟨rfl,hr⟩:=h;dsimp only at hr;cases hx:f==n with
  | true =>
   simp only[KN,hx]at e ⊢;cases e;exact⟨z,rfl,hr⟩
  | false =>
   simp only[KN,hx]at e ⊢;exact ih e
theorem jX{K:LFr}(h:fj K H fs gs)(e:fs.lookup f=none):gs.lookup f=none:=by
 induction h with
 | nil=>rfl
 | @cons a b _ _ h t ih =>
  obtain⟨n,y⟩:=a;obtain⟨m,z⟩:=b;obtain⟨rfl,hr⟩:=h;cases hx:f==n with
  | true=>simp only[KN,hx]at e;cases e
  | false =>
   simp only[KN,hx]at e ⊢;exact ih e
theorem sY{K:LFr}{H:Hp}{gs:List (Str×V)}(h:fj K H fs gs):gs.length=fs.length:=by
 induction h with
 | nil=>rfl
 | cons _ _ ih=>simp[ih]
theorem br(ha:PE' X B e ta)(cl:Cls X.K C)(n:b8 X.K C f)(hb:attributeBase e f X.env (eval e X.env)=eval e X.env):PE' X B (.Attribute e f pos) (Fi C f ta):=aQ (Ci ha hb) fun σ H Q y_=>by
 obtain⟨σ',H',Q',s,h,k⟩:=y_;refine⟨σ',H',_,s,h,fun x' H1' x H1 h1 rx s1 e1=>?_⟩;cases x' with
 | ref a =>
  obtain⟨dx,fs,v,ea,l,q⟩:=h1;simp only[RP]at rx;subst rx;obtain⟨gs,eg,fr⟩:=s1.hp _ _ ea;obtain⟨u,lu,ru⟩:=lF fr l;exact⟨a,C,dx,gs,u,rfl,eg,cl,n,lu,k _ _ _ _ q ru s1 e1⟩
 | _=>exact h1.elim
def fV(f:Str)(v:PV):List (Str×PV)->List (Str×PV)
 | []=>[(f,v)]
 |(g,x)::r=>if g=f then(g,v)::r else(g,x)::fV f v r
theorem sU{K:LFr}(rv:RP K H v u){fs:List (Str×PV)}{gs:List (Str×V)}(h:fj K H fs gs):fj K H (fV f v fs) (dP f u gs):=by
 induction h with
 | nil=>exact .cons ⟨rfl,rv⟩ .nil
 | @cons a b _ _ h t ih =>
  obtain⟨n,y⟩:=a;obtain⟨m,z⟩:=b;obtain⟨rfl,hr⟩:=h;unfold fV dP;by_cases hn:n=f
  ·rw[Kw hn,Kw hn];exact .cons ⟨rfl,rv⟩ t
  ·rw[Kq hn,Kq hn];exact .cons ⟨rfl,hr⟩ ih
def zU(C:Addr)(f:Str)(x y:PV)(H:PHp)(Q:PHp->Prop):Prop:=match x with
 | .ref a=>∃dx fs,H a=some (.ins C dx fs)/\fs.length<1000/\Q (put H a (.ins C dx (fV f y fs)))
 | _=>False
def sy(C:Addr)(f:Str)(ta tv:TE'):TS':=fun D σ H=>tv σ H fun y H1=>ta σ H1 fun x H2=>zU C f x y H2 fun H3=>D.nx σ H3
theorem eF(ha:PE' X B o ta)(hv:PE' X B value tv)(cl:Cls X.K C)(n:b8 X.K C f)(hs:swapsWith value (some (.Attribute o f pos')) pos.line X.env=pure false):PS' X B (.Assign [.Attribute o f pos'] value pos) (sy C f ta tv):=dG (BZ ha hv hs) fun D σ H y_=>by
 obtain⟨σ',H',D',s,h,dd⟩:=y_;refine⟨σ',H',_,s,h,fun y' H1' y H1 h1 ry s1 e1=>⟨σ',H1',_,s1,h1,fun x' H2' x H2 h2 rx s2 e2=>?_⟩⟩;cases x' with
 | ref a =>
  obtain⟨dx,fs,ea,l,q⟩:=h2;simp only[RP]at rx;subst rx;obtain⟨gs,eg,fr⟩:=s2.hp _ _ ea;have ry2:=RP.kp X.K (e2.kp s1.hp) ry;have new:OAt X.K (upd H2 a (.ins C dx (dP f y gs))) a (.ins C dx (fV f y' fs)):=⟨_,aT,fj.kp (s2.hp.kpw ea) (sU ry2 fr)⟩;exact⟨a,C,dx,gs,rfl,eg,cl,n,by rw[sY fr];exact l,dd.nx _ _ _ _ q (s2.wr ea new) ((e1.trans e2).trans (Ev.wr ea))⟩
 | _=>exact h2.elim
def isIn(C:Addr)(m:Str)(x:PV)(H:PHp):Prop:=match x with
 | .ref a=>∃dx fs,H a=some (.ins C dx fs)/\fs.lookup m=none
 | _=>False
def mL(C:Addr)(m:Str)(sp:Sp')(E':XK')(ta:TE')(t:TA'):TE':=fun σ H Q=>ta σ H fun x H1=>isIn C m x H1/\t σ H1 fun vs H2=>sp (x::vs) H2 Q E'
section
variable {k:Nat}{fd:FuncData}{ps:List Str}{sp:Sp'}{es:List Expr}{t:TA'}
theorem rT{K:LFr}(h:low K B (mL C m sp X0 ta t) σ H Q):tU C m (gU K sp) [] E0 (low K B ta) (vp K B t) σ H Q:=by
 obtain⟨σ',H',Q',s,h,k⟩:=h;refine⟨σ',H',_,s,h,fun x' H1' x H1 h1 rx s1 e1=>?_⟩;obtain⟨hi,h1⟩:=h1;cases x' with
 | ref a =>
  obtain⟨dx,fs,ea,l⟩:=hi;simp only[RP]at rx;subst rx;obtain⟨gs,eg,fr⟩:=s1.hp _ _ ea;refine⟨a,dx,gs,rfl,eg,jX fr l,σ',H1',_,s1,h1,fun vs' H2' vs H2 h2 r2 s2 e2=>?_⟩;show gU K sp (V.ref a::(vs++[])) H2 Q E0;rw[K4];exact⟨.ref a::vs',H2',Q',X0,RPs.cons _ (by simp[RP]) r2,s2.hp,h2,fun v' H3' v H3 q r3 h3 e3=>k v' H3' v H3 q r3 (s2.kp e3 h3) ((e1.trans e2).trans e3),fun _ _ _ _ z=>z.elim⟩
 | _=>exact hi.elim
theorem gf{pl:Sem Bool}(he:PE' X B o ta)(cl:Cls X.K C)(hm:Meth X.K C m g)(F:aM X.prog X.w X.K X.mg X.base CX0 k g fd ps sp)(hr:b9 k X.A)(hb:Binds X.K fd ps [])(ha:PA' X B (e::es) t)
  (hst:starEach (e::es) X.env=(false,eval e X.env)::starEach es X.env:=by rfl) (hpl:(backTo pos (starEach es X.env)).any (·.1)=false:=by rfl)
  (ht:eval (.Call (.Attribute o m apos) (e::es) [] pos) X.env=(do
   let ov←eval o X.env
   standAt apos.atName
   let (f,first)←holding [ov] (getMethod ov m pl)
   callWith pos f first (backTo pos (starEach (e::es) X.env)) (backToKw pos (keywordEach [] X.env))):=by rfl) :
  PE' X B (.Call (.Attribute o m apos) (e::es) [] pos) (mL C m sp X0 ta t):=aQ (yt he cl hm F hr hb .nil pH ha hst hpl ht) fun _ _ _ h=>rT h
theorem iI{pl:Sem Bool}(he:PE' X B o ta)(cl:Cls X.K C)(hm:Meth X.K C m g)(F:aM X.prog X.w X.K X.mg X.base CX0 k g fd ps sp)(hr:b9 k X.A)(hb:Binds X.K fd ps [])
  (ht:eval (.Call (.Attribute o m apos) [] [] pos) X.env=(do
   let ov←eval o X.env
   standAt apos.atName
   let (f,first)←holding [ov] (getMethod ov m pl)
   callWith pos f first (backTo pos (starEach [] X.env)) (backToKw pos (keywordEach [] X.env))):=by rfl) :
  PE' X B (.Call (.Attribute o m apos) [] [] pos) (mL C m sp X0 ta tY):=aQ (uL he cl hm F hr hb .nil pH ht) fun σ H Q y_=>by
 obtain⟨σ',H',Q',s,h,k⟩:=y_;refine⟨σ',H',_,s,h,fun x' H1' x H1 h1 rx s1 e1=>?_⟩;obtain⟨hi,h1⟩:=h1;cases x' with
 | ref a =>
  obtain⟨dx,fs,ea,l⟩:=hi;simp only[RP]at rx;subst rx;obtain⟨gs,eg,fr⟩:=s1.hp _ _ ea;exact⟨a,dx,gs,rfl,eg,jX fr l,[.ref a],H1',Q',X0,RPs.cons _ (by simp[RP]) (RPs.nil _),s1.hp,h1,fun v' H3' v H3 q r3 h3 e3=>k v' H3' v H3 q r3 (s1.kp e3 h3) (e1.trans e3),fun _ _ _ _ z=>z.elim⟩
 | _=>exact hi.elim
def zO(C:Addr)(sp:Sp')(E':XK')(t:TA'):TE':=fun σ H Q=>t σ H fun vs H1=>∀x dx,H1 x=none->H1 dx=none->dx≠x->sp (.ref x::vs) (put H1 x (.ins C dx [])) (fun v H2=>v=.non/\Q (.ref x) H2) E'
theorem kB(M:Mk X.K C g)(F:aM X.prog X.w X.K X.mg X.base CX0 k g fd ps sp)(hr:b9 (k+1) X.A)(hg:Gl X x)(hm:X.mg x=some (.ref C))(hb:Binds X.K fd ps [])
  (ha:PA' X B (e::es) t) (hdb:(x==("__debug__":Str))=false:=by decide) (he:starEach (e::es) X.env=(false,eval e X.env)::starEach es X.env:=by rfl) (hpl:(backTo pos (starEach es X.env)).any (·.1)=false:=by rfl) :
  PE' X B (.Call (.Name x p) (e::es) [] pos) (zO C sp X0 t):=aQ (yn M F hr hg hm hb .nil pH ha hdb he hpl) fun σ H Q y_=>by
 obtain⟨σ',H',Q',s,h,k⟩:=y_;refine⟨σ',H',_,s,h,fun vs' H1' vs H1 h1 r1 s1 e1=>?_⟩;intro x dx nx nd ne;have h2:=h1 x dx (s1.hp.free nx) (s1.hp.free nd) ne;have nx2:upd H1 dx (.own x) x=none:=by rw[aC (Ne.symm ne)];exact nx
 have sd:=s1.hid (o:=.own x) nd;have new:OAt X.K (upd (upd H1 dx (.own x)) x (.ins C dx [])) x (.ins C dx []):=⟨[],aT,.nil⟩;have s2:=sd.new nx2 new;have e2:Ev H1' H1 (put H1' x (.ins C dx [])) (upd (upd H1 dx (.own x)) x (.ins C dx [])):=(Ev.hid nd).trans (Ev.new nx2);show gU X.K sp (.ref x::(vs++[])) _ _ E0;rw[K4];refine⟨.ref x::vs',_,_,X0,RPs.cons _ (by simp[RP]) (RPs.kp X.K (e2.kp s1.hp) r1),s2.hp,h2,fun v' H3' v H3 q r3 h3 e3=>?_,fun _ _ _ _ z=>z.elim⟩;obtain⟨rfl,q⟩:=q;simp only[RP]at r3;exact⟨r3,k _ _ _ _ q (by simp[RP]) (s2.kp e3 h3) ((e1.trans e2).trans e3)⟩
end
end U
namespace L2
variable {X:Cx}
def Fw(K:LFr):List V->Hp->VK->Prop:=fun xs H Q=>∃(p:Addr) (bs:List Bool),xs=[.ref p]/\SqL K H p (bs.map V.bl)/\Q (.bl (bs.all id)) H
theorem iU:∀{bs:List Bool} {us:List Value},Vals (bs.map V.bl) us->us=bs.map Value.bool
 | [],_,.nil=>rfl
 | b::bs,_,.cons r t=>by rw[iU t];cases r;rfl
theorem c9(hc:X.calm=true):cj X (.builtin "all") (Fw X.K):=by
 intro pins s σ H xs us Q I r h;obtain⟨a,bs,rfl,hq,q⟩:=h;obtain⟨u,rfl,ru⟩:=Vals.one r;cases ru;obtain⟨its,rv,p,hz⟩:=I.list hq;have e:=iU rv;subst e;have hl:s.heap.IsList a (bs.map Value.bool).toArray:=p.isList;have llt:a<s.heap.objs.size:=by obtain⟨o,e,_⟩:=hl;exact J0 e
 have hne:a≠s.heap.objs.size:=Ki llt;refine call_all_walk (wpAny_pyIter_list hl ?_);refine⟨s.heap.objs.size,[s.heap.objs.size,a],[s.heap.objs.size],(bs.map Value.bool).toArray.size,_,_,fun i=>bs.getD i false,rfl,Walks.list (by simpa using I.ok.hd hc) _ a hne _,⟨⟨_,JZ _ rfl,rfl,rfl⟩,hl.at fun o e=>JR _ e⟩,?_,?_⟩
 ·intro i v s' Q' E' hv hQ;have:v=Value.bool (bs.getD i false):=by
   have hv':(bs.map Value.bool)[i]?=some v:=by simpa using hv
   rw[JV]at hv';cases hb:bs[i]? with
   | none=>rw[hb]at hv';cases hv'
   | some b=>rw[hb]at hv';cases hv';rw[JQ,hb];rfl
  subst this;exact LB hQ
 ·intro h' tk kp;have e:(List.range (bs.map Value.bool).toArray.size).all (fun i=>bs.getD i false)=bs.all id:=by
   have hs:(bs.map Value.bool).toArray.size=bs.length:=by simp
   rw[hs];rw[Bool.eq_iff_iff,Ky,Ky];constructor
   ·intro h b hb;obtain⟨i,hi,e⟩:=LA hb;have:=h i (KI.mpr hi);rw[JQ,JO hi,e]at this;exact this
   ·intro h i hi;have hi:=KI.mp hi;rw[JQ,JO hi];exact h _ (KC hi)
  rw[e];refine⟨.bl (bs.all id),H,I.kept (t':=tk) fun b o e=>?_,rfl,q⟩;exact kp b o (by simpa using Ki (J0 e)) (JR _ e)
end L2
namespace U
open L2
variable {B:Bs}{X:Cx}
theorem jz{K:LFr}{H:Hp}:∀{bs:List Bool} {us:List V},RPs K H (bs.map PV.bl) us->us=bs.map V.bl
 | [],us,h=>by simpa[RPs]using h
 | b::bs,us,h=>by
  simp only[Kc,RPs,RP]at h;obtain⟨u,r,rfl,rfl,h2⟩:=h;rw[jz h2];rfl
theorem jt{K:LFr}{H:Hp}:∀{bs:List Int} {us:List V},RPs K H (bs.map PV.int) us->us=bs.map V.int
 | [],us,h=>by simpa[RPs]using h
 | b::bs,us,h=>by
  simp only[Kc,RPs,RP]at h;obtain⟨u,r,rfl,rfl,h2⟩:=h;rw[jt h2];rfl
def ET:List PV->PHp->VK'->Prop:=cG fun x H Q=>match x with
 | .ref a=>∃bs:List Bool,H a=some (.lst (bs.map PV.bl))/\Q (.bl (bs.all id)) H
 | _=>False
theorem fh{K:LFr}:VC K B ET (Fw K):=by
 intro σ' σ H' H xs' xs Q' Q s r h k;obtain⟨x',x,rfl,rfl,rx,h⟩:=cG.ex h r;cases x' with
 | ref a =>
  obtain⟨bs,ea,q⟩:=h;simp only[RP]at rx;subst rx;obtain⟨us,e,r2⟩:=s.hp _ _ ea;rw[jz r2]at e;exact⟨a,bs,rfl,.inl (.inl e),k _ _ _ _ q (by simp[RP]) s (Ev.refl _ _)⟩
 | _=>exact h.elim
end U
namespace SP
def hs:List Int:=[-1950498447580522560,7204814214171964562,-3550055125485641917,-4734289103435588629,-1440771752368011620,
 8409376899596376432,1773351652666409796,-6333845781340707986,3516302870623680066,1079245023883434373,
 -3119722376306286570,173794974761290439,-8422800446983873125,7586885779985432798,-1009709641759730766]
def prs:List (Int×Int):=[(0,1),(0,2),(1,2),(0,3),(1,3),(2,3),(0,4),(1,4),(2,4),(3,4),(0,5),(1,5),(2,5),(3,5),(4,5)]
def hp(p:Int×Int):Int:=reduceHash (Builtin.Tuple.tupleHashOf [p.1,p.2])
theorem E2:prs.map hp=hs:=by decide +kernel
theorem nF(h:p∈prs):hp p∈hs:=by rw[←E2];exact JU.mpr ⟨p,h,rfl⟩
theorem BR:∀p∈prs,∀q∈prs,hp p=hp q->p=q:=by decide +kernel
theorem vZ(h0:0≤u)(h1:u<v)(h2:v<6):(u,v)∈prs:=by
 have hv:v=1∨v=2∨v=3∨v=4∨v=5:=by omega
 have hu:u=0∨u=1∨u=2∨u=3∨u=4:=by omega
 rcases hv with rfl | rfl | rfl | rfl | rfl<;>rcases hu with rfl | rfl | rfl | rfl | rfl<;>first |(exfalso;omega) | decide
def rQ(mask:Nat)(p:SetTable.Probe):SetTable.Probe :=
 if p.more>0 then { p with j:=p.j+1,more:=p.more - 1 }else
 let (i,perturb):=SetTable.leap mask p.i p.perturb
 { p with j:=i,more:=SetTable.runEnd mask i - i,i,perturb }
theorem Bi(t:SetTable)(p:SetTable.Probe):t.advance p=rQ t.mask p:=rfl
theorem rY(mask:Nat)(p:SetTable.Probe):(rQ mask p).dummy=p.dummy:=by unfold rQ;split<;>rfl
def visit(mask:Nat):Nat->SetTable.Probe->List Nat
 | 0,_=>[]
 | f+1,p=>p.j::visit mask f (rQ mask p)
def startM(mask:Nat)(h:Int):SetTable.Probe :=
 let i:=SetTable.bits h % (mask+1)
 { j:=i,more:=SetTable.runEnd mask i - i,i,perturb:=SetTable.bits h,dummy:=none }
theorem vG(t:SetTable)(h:Int):t.probeStart h=startM t.mask h:=rfl
theorem BU:∀h∈hs,∀j∈List.range 8,j∈visit 7 220 (startM 7 h):=by decide +kernel
theorem ym:∀h∈hs,∀j∈List.range 32,j∈visit 31 460 (startM 31 h):=by decide +kernel
theorem vg:∀(n:Nat) (l:List Nat),(∀j,j<n->j∈l)->n≤l.length
 | 0,_,_=>Ll _
 | n+1,l,h=>by
  have hm:=h n (Nat.lt_succ_self n);have:=vg n (l.erase n) fun j hj=>(List.mem_erase_of_ne (by omega)).mpr (h j (by omega));rw[List.length_erase_of_mem hm]at this;have:0<l.length:=List.length_pos_of_mem hm;omega
theorem uV{l:List Nat}(h:l.length<n):∃j,j<n/\j∉l :=
 Classical.byContradiction fun c=>absurd (vg n l fun j hj=>Classical.byContradiction fun q=>c ⟨j,hj,q⟩) (by omega)
theorem slot_of{t:SetTable}(hd:t.dummies=#[])(j:Nat):t.slot j=.empty∨∃i,t.slot j=.live i/\i<t.place.size/\j∈t.place.toList:=by
 unfold SetTable.slot;dsimp only;split
 ·rename_i h;have h':=LV.mp h;obtain⟨hi,e⟩:=Array.getElem?_eq_some_iff.mp h';refine .inr ⟨_,rfl,hi,?_⟩;rw[←e];exact Array.getElem_mem_toList hi
 ·left;have:SetTable.has t.dummies j=false:=by
   rw[hd];rfl
  rw[this];rfl
theorem lK{t:SetTable}{hashAt:Nat->Int}{h:Int}(hd:t.dummies=#[])(hn:∀i,i<t.place.size->hashAt i≠h):∀(fuel:Nat) (p:SetTable.Probe),p.dummy=none ->
  (∃j∈visit t.mask fuel p,j∉t.place.toList)->∃j,SetTable.probe.go t hashAt h fuel p=some (.empty j none)
 | 0,_,_,⟨_,hj,_⟩=>by simp[visit]at hj
 | f+1,p,hp,⟨j,hj,hjn⟩=>by
  unfold SetTable.probe.go;rcases slot_of hd p.j with e |⟨i,e,hi,hm⟩
  ·rw[e];dsimp only;exact⟨p.j,by rw[hp]⟩
  ·rw[e];dsimp only;rw[Kq (by intro q;exact hn i hi (LV.mp q)),Bi];refine lK hd hn f (rQ t.mask p) (by rw[rY];exact hp) ⟨j,?_,hjn⟩;have hj':j=p.j∨j∈visit t.mask f (rQ t.mask p):=J7.mp hj;rcases hj' with rfl | hj'
   ·exact absurd hm hjn
   ·exact hj'
theorem sj{t:SetTable}(hh:h∈hs)(hd:t.dummies=#[])(hn:∀i,i<t.place.size->hashAt i≠h)(hm:t.mask=7∨t.mask=31)(hsz:t.place.size≤t.mask) :
  ∃j,t.probe hashAt h (t.probeStart h)=some (.empty j none):=by
 unfold SetTable.probe;refine lK hd hn _ _ rfl ?_;obtain⟨j,hj,hjn⟩:=uV (n:=t.mask+1) (l:=t.place.toList) (by simpa using Nat.lt_succ_of_le hsz);refine⟨j,?_,hjn⟩;rw[vG];rcases hm with e | e
 ·rw[e]at hj ⊢;exact BU h hh j (KI.mpr hj)
 ·rw[e]at hj ⊢;exact ym h hh j (KI.mpr hj)
theorem tS(t:SetTable)(j:Nat):(t.put j).1.place.size=t.place.size+1:=by
 unfold SetTable.put SetTable.insertAt;dsimp only;simp only[Array.size_append,Array.size_push,Array.size_extract];omega
theorem mX{t:SetTable}(hd:t.dummies=#[])(j:Nat):(t.put j).1.dummies=#[]:=by
 unfold SetTable.put;dsimp only;rw[hd];rfl
theorem u5(t:SetTable)(j:Nat):(t.put j).1.mask=t.mask/\(t.put j).1.plain=t.plain:=⟨rfl,rfl⟩
theorem insertAt_perm(xs:Array α)(p:Nat)(x:α):(SetTable.insertAt xs p x).toList.Perm (x::xs.toList):=by
 unfold SetTable.insertAt;rw[Array.toList_append,Array.toList_push,List.append_assoc];have e:xs.toList=(xs.extract 0 p).toList++(xs.extract p xs.size).toList:=by
  rw[Array.toList_extract,Array.toList_extract];unfold List.extract;rw[List.drop_zero,Nat.sub_zero];have e2:(List.drop p xs.toList).take (xs.size - p)=List.drop p xs.toList:=List.take_of_length_le (by rw[List.length_drop];simp);rw[e2,List.take_append_drop]
 rw[e];exact List.perm_middle
def runs(mask:Nat):Nat->Nat->Nat->List Nat
 | 0,_,_=>[]
 | f+1,i,pt=>((List.range (SetTable.runEnd mask i+1 - i)).map (i+·))++runs mask f (SetTable.leap mask i pt).1 (SetTable.leap mask i pt).2
theorem Df:∀h∈hs,∀j∈List.range 32,j∈runs 31 46 (SetTable.bits h % 32) (SetTable.bits h):=by decide +kernel
theorem jK{mask:Nat}{owner:Array (Option Nat)}:∀(f i pt:Nat),(∃j∈runs mask f i pt,(owner.getD j (some 0)).isNone=true)->∃j,SetTable.layClean.free mask owner f i pt=some j/\(owner.getD j (some 0)).isNone=true
 | 0,_,_,⟨_,hj,_⟩=>by simp[runs]at hj
 | f+1,i,pt,⟨j,hj,hn⟩=>by
  unfold SetTable.layClean.free;cases e:(List.range (SetTable.runEnd mask i+1 - i)).find? fun k=>(owner.getD (i+k) (some 0)).isNone with
  | some k =>
   dsimp only;exact⟨i+k,rfl,by have:=List.find?_some e;exact this⟩
  | none =>
   dsimp only;rcases K6.mp hj with hj | hj
   ·obtain⟨k,hk,rfl⟩:=JU.mp hj;have:=List.find?_eq_none.mp e k hk;exact absurd hn this
   ·exact jK f _ _ ⟨j,hj,hn⟩
theorem jr{α:Type}:∀(l:List (Option α)) (j:Nat) (k:α),l[j]?=some none->((l.set j (some k)).filterMap id).Perm (k::l.filterMap id)
 | [],_,_,h=>by simp at h
 | none::l,0,k,_=>by simp
 | some x::l,0,k,h=>by simp at h
 | none::l,j+1,k,h=>by
  have:=jr l j k (by simpa using h);simpa using this
 | some x::l,j+1,k,h=>by
  have:=jr l j k (by simpa using h);simp only[KH,List.filterMap_cons_some (f:=id) rfl];exact(this.cons x).trans (List.Perm.swap k x _)
theorem de{α:Type}:∀(l:List (Option α)),(l.filterMap id).length<l.length->∃j:Nat,l[j]?=some none
 | [],h=>by simp at h
 | none::l,_=>⟨0,rfl⟩
 | some x::l,h=>by
  have h':(l.filterMap id).length<l.length:=by simpa using h
  obtain⟨j,e⟩:=de l h';exact⟨j+1,by simpa using e⟩
def ij(mask:Nat)(acc:Option (Array (Option Nat)×Nat))(h:Int):Option (Array (Option Nat)×Nat):=do
 let (owner,k)←acc
 let j←SetTable.layClean.free mask owner (SetTable.turns mask) (SetTable.bits h % (mask+1)) (SetTable.bits h)
 pure (owner.setIfInBounds j (some k),k+1)
theorem lM:∀(l:List Int) (owner:Array (Option Nat)) (k:Nat),(∀h∈l,h∈hs)->owner.size=32->(owner.toList.filterMap id).Perm (List.range k)->k+l.length≤32 ->
  ∃ow',l.foldl (ij 31) (some (owner,k))=some (ow',k+l.length)/\ow'.size=32/\(ow'.toList.filterMap id).Perm (List.range (k+l.length))
 | [],owner,k,_,hs,hp,_=>⟨owner,rfl,hs,hp⟩
 | h::l,owner,k,hh,hsz,hp,hl=>by
  have hlen:(owner.toList.filterMap id).length=k:=by rw[hp.length_eq,Kh]
  obtain⟨j,hj⟩:=de owner.toList (by rw[hlen];simp only[Kt]at hl;rw[show owner.toList.length=32 by simpa using hsz];omega);have hjlt:j<32:=by
   have:=(JS.mp hj).1;simpa[hsz]using this
  have hnone:∀j,(owner.getD j (some 0)).isNone=true->owner.toList[j]?=some none:=fun j q=>by
   rw[Lb];unfold Array.getD at q;split at q
   ·rename_i hlt;rw[Kf hlt];cases e:owner[j]with
    | none=>rfl
    | some x =>
     have q':(owner[j]).isNone=true:=q;rw[e]at q';cases q'
   ·cases q
  obtain⟨j',ej,hn⟩:=jK (mask:=31) (owner:=owner) 46 (SetTable.bits h % 32) (SetTable.bits h) ⟨j,Df h (hh h J6) j (KI.mpr hjlt),by
   unfold Array.getD;rw[dif_pos (by rw[hsz];exact hjlt)];rw[Lb,Kf (by rw[hsz];exact hjlt)]at hj;have:=Ks hj;show(owner[j]).isNone=true;rw[this];rfl⟩
  have est:ij 31 (some (owner,k)) h=some (owner.setIfInBounds j' (some k),k+1):=by
   unfold ij;show(SetTable.layClean.free 31 owner (SetTable.turns 31) (SetTable.bits h % 32) (SetTable.bits h) >>= fun j=>pure (owner.setIfInBounds j (some k),k+1))=_;rw[show SetTable.turns 31=46 from rfl,ej];rfl
  have hp':((owner.setIfInBounds j' (some k)).toList.filterMap id).Perm (List.range (k+1)):=by
   rw[Array.toList_setIfInBounds];refine(jr _ _ _ (hnone j' hn)).trans ?_;rw[LL];exact(hp.cons k).trans (List.perm_append_singleton k _).symm
  obtain⟨ow',e1,e2,e3⟩:=lM l (owner.setIfInBounds j' (some k)) (k+1) (fun x hx=>hh x (J8 _ hx)) (by simpa using hsz) hp' (by simp only[Kt]at hl;omega);refine⟨ow',?_,e2,?_⟩
  ·rw[List.foldl_cons,est,e1];simp only[Kt];congr 2;omega
  ·rw[Kt,show k+(l.length+1)=k+1+l.length by omega];exact e3
theorem qU{t:SetTable}(hw:SetTable.sizeAbove wanted=32)(hh:∀h∈hashes.toList,h∈hs)(hl:hashes.size≤32) :
  ∃t' order,t.relaid hashes wanted=some (t',order)/\t'.mask=31/\t'.dummies=#[]/\t'.place.size=hashes.size/\order.toList.Perm (List.range hashes.size)/\t'.plain=t.plain:=by
 have e0:(Array.replicate 32 (none:Option Nat)).toList.filterMap id=[]:=by decide
 obtain⟨ow,e1,e2,e3⟩:=lM hashes.toList (Array.replicate 32 none) 0 hh (by simp) (by rw[e0];exact L8 _) (by simpa using hl);rw[Nat.zero_add]at e1 e3;have hlc:SetTable.layClean 31 hashes=some ow:=by
  unfold SetTable.layClean;rw[←Array.foldl_toList];show Option.map (·.1) (hashes.toList.foldl (ij 31) (some (Array.replicate 32 none,0)))=_;rw[e1];rfl
 have live2:((List.range 32).filterMap fun j=>(ow.getD j none).map ((j,·):Nat->Nat×Nat)).map (·.2)=ow.toList.filterMap id:=by
  have gen:∀(l:List (Option Nat)) (n:Nat),((l.zipIdx n).filterMap (fun q=>q.1.map ((q.2,·):Nat->Nat×Nat))).map (·.2)=l.filterMap id:=by
   intro l
   induction l with
   | nil=>intro n;rfl
   | cons a l ih =>
    intro n;rw[List.zipIdx_cons];cases a with
    | none=>simpa using ih (n+1)
    | some x=>simpa using ih (n+1)
  rw[←gen ow.toList 0];congr 1;have ez:ow.toList.zipIdx 0=(List.range 32).map fun j=>(ow.getD j none,j):=by
   apply List.ext_getElem?;intro j;rw[List.getElem?_zipIdx,JV];by_cases hj:j<32
   ·rw[List.getElem?_range hj,Lb,Kf (by rw[e2];exact hj)];simp[Array.getD,e2,hj]
   ·rw[LF (show ow.toList.length≤j by simpa[e2]using Nat.le_of_not_lt hj),LF (show(List.range 32).length≤j by simpa using Nat.le_of_not_lt hj)];rfl
  rw[ez,List.filterMap_map];rfl
 have hlen:(ow.toList.filterMap id).length=hashes.size:=by rw[e3.length_eq,Kh];simp
 refine⟨{ mask:=31,place:=(((List.range 32).filterMap fun j=>(ow.getD j none).map ((j,·):Nat->Nat×Nat)).map (·.1)).toArray,dummies:=#[],finger:=t.finger,led:=t.led,moves:=t.movedTo 31,plain:=t.plain },
  (((List.range 32).filterMap fun j=>(ow.getD j none).map ((j,·):Nat->Nat×Nat)).map (·.2)).toArray,by
  unfold SetTable.relaid SetTable.laid;rw[hw];show(SetTable.layClean 31 hashes >>= _)=_;rw[hlc];rfl,rfl,rfl,?_,?_,rfl⟩
 ·show(((List.range 32).filterMap fun j=>(ow.getD j none).map ((j,·):Nat->Nat×Nat)).map (·.1)).toArray.size=_;rw[Kb,JN,← hlen,← live2,JN]
 ·show((((List.range 32).filterMap fun j=>(ow.getD j none).map ((j,·):Nat->Nat×Nat)).map (·.2)).toArray).toList.Perm _;rw[live2];have:hashes.size=hashes.toList.length:=by simp
  rw[this];exact e3
theorem ng{α:Type}{es:Array α}{order:Array Nat}(h:order.toList.Perm (List.range es.size)):(order.filterMap (es[·]?)).toList.Perm es.toList:=by
 have e:(order.filterMap (es[·]?)).toList=order.toList.filterMap (es[·]?):=by simp
 rw[e];refine(h.filterMap _).trans ?_;have:(List.range es.size).filterMap (es[·]?)=es.toList:=by
  apply List.ext_getElem?;intro i;have gen:∀n,n≤es.size->(List.range n).filterMap (es[·]?)=es.toList.take n:=by
   intro n
   induction n with
   | zero=>intro _;simp
   | succ n ih =>
    intro hn;rw[LL,List.filterMap_append,ih (by omega),Kr];simp[Kf (show n<es.size by omega)]
  rw[gen es.size (JW _),List.take_of_length_le (by simp)]
 rw[this]
end SP
namespace SP
section
variable {prog:Program}{w:World}{A:Around}{E:Value->Shared->Prop}{s:Shared}
structure i8 (h:Heap) (S:Addr) (done:List (Int × Int)):Prop where
 is:∃es ep t,h.get? S=some { cls:=.type "set",dict:=none,data:=.set es ep t }/\t.dummies=#[]/\t.place.size=es.size/\es.size=done.length/\((t.mask=7/\es.size≤4)∨(t.mask=31/\es.size≤18)) /\
  ∀e∈es.toList,∃p∈done,e.1=hp p
theorem fits_of{t:SetTable}(hd:t.dummies=#[])(h1:t.place.size=n)(h2:n≤t.mask):t.fits n=true:=by
 unfold SetTable.fits SetTable.fill;rw[hd];simp[h1,h2]
theorem rO(u v:Int)(h:(u,v)∈prs):tupleKeyHash (intKind prog w) [u,v]=hp (u,v):=by
 have key:∀p∈prs,hashInt p.1=p.1/\hashInt p.2=p.2:=by decide +kernel
 obtain⟨h1,h2⟩:=key _ h;show reduceHash (Builtin.Tuple.tupleHashOf [hashInt u,hashInt v])=reduceHash (Builtin.Tuple.tupleHashOf [u,v]);have h1':hashInt u=u:=h1;have h2':hashInt v=v:=h2;rw[h1',h2']
theorem xS(h:ItemsAre (intKind prog w) ks vs):∀x∈vs,∃i t,x=.int i t:=by
 induction h with
 | nil=>intro x hx;simp at hx
 | cons h1 _ ih =>
  intro x hx;rcases J7.mp hx with rfl | hx
  ·obtain⟨t,rfl⟩:=Value.isInt_shape h1;exact⟨_,t,rfl⟩
  ·exact ih x hx
theorem gI(hk:IsTupleKey (intKind prog w) s.heap [u,v] a)(h:Q true s):wpAny (model prog w) A (hashByValue 8 (.ref a)) Q E s:=by
 have hT:=hk.typeIs;obtain⟨o,items,n,ho,hc,hd,hi⟩:=hk;unfold hashByValue;refine JP (wpAny_specialOf hT F.slot_tuple_hash.lookup ?_);show wpAny _ _ (seqItems? (.ref a) >>= _) _ _ s;refine JP (LP ho hd ?_);refine JP ?_;show wpAny _ _ (forIn items _ _) _ _ s;rw[←Array.forIn_toList];have hall:=xS hi;refine wpAny_forIn_list _ (fun rest r s'=>r.1=none/\s'=s/\∀v∈rest,∃i t,v=.int i t) _ ?_ ?_ _ _ ⟨rfl,rfl,hall⟩
 ·rintro v rest r s' ⟨hr,rfl,hall⟩;obtain⟨i,t,rfl⟩:=hall v J6;show wpAny _ _ (pure true >>= _) _ _ _;refine JP (JT ?_);simp only[Bool.not_true,Lh,LX];exact JT ⟨rfl,rfl,fun u hu'=>hall u (J8 _ hu')⟩
 ·rintro⟨r1,r2⟩ s' ⟨hr,rfl,_⟩;simp only at hr;subst hr;exact JT h
theorem ml(hu:A.units<cLine)(hk:IsTupleKey (intKind prog w) s.heap [u,v] a)(hP:i8 s.heap S done)(hin:(u,v)∈prs)(hd:∀p∈done,p∈prs)
  (hn:(u,v)∉done) (hlen:done.length<15)
  (h:∀h' tk,Heap.SameBut S s.heap h'->i8 h' S (done++[(u,v)])->Q true { s with heap:=h',toks:=tk }):wpAny (model prog w) A (setAdd S (.ref a)) Q E s:=by
 obtain⟨es,ep,t,ho,htd,hts,hes,hm,hh⟩:=hP.is;have hsa:S≠a:=by
  rintro rfl;obtain⟨o,items,n,ho',hc,_⟩:=hk;rw[ho]at ho';cases ho';exact absurd (show Value.type "set"=Value.type "tuple" from hc) (by decide)
 unfold setAdd;refine LG (JP (wpAny_pyHash_tuple hu hk ?_));rw[rO u v hin];generalize hs':({ s with toks:=s.toks+([u,v].length+1) }:Shared)=s1;have e1:s1.heap=s.heap:=by rw[←hs']
 have ho1:s1.heap.get? S=some { cls:=.type "set",dict:=none,data:=.set es ep t }:=by rw[e1];exact ho
 have hk1:IsTupleKey (intKind prog w) s1.heap [u,v] a:=by rw[e1];exact hk
 have hmk:es.size≤t.mask:=by omega
 have hf:t.fits es.size=true:=fits_of htd hts hmk;unfold setAddHashed;refine LG ?_;show wpAny _ _ (setAddHashedIn S (.ref a) (hp (u,v)) (99999+1)) _ _ _;unfold setAddHashedIn;refine JP (wpAny_setState_of ho1 rfl hf ?_);dsimp only;have hbs:byScan (.ref a) es=false:=rfl;rw[hbs];simp only[Lh,LX];obtain⟨j,hj⟩:=sj (t:=t) (hashAt:=fun i=>(es[i]?.map (·.1)).getD 0) (h:=hp (u,v)) (nF hin) htd (fun i hi q=>by
  rw[hts]at hi;rw[Kf hi]at q;have q':(es[i]).1=hp (u,v):=q;obtain⟨p,hpd,e⟩:=hh es[i] (Array.getElem_mem_toList hi);rw[e]at q';exact hn (BR p (hd p hpd) _ hin q'▸hpd)) (by omega) (by omega)
 unfold setSearch;show wpAny _ _ (setSearchFrom S (.ref a) (hp (u,v)) true (99999+1) none >>= _) _ _ _;unfold setSearchFrom;refine JP (JP (wpAny_setState_of ho1 rfl hf ?_));dsimp only;have hgw:t.gaveWay=false:=by
  unfold SetTable.gaveWay;rcases hm with hm | hm<;>rw[hm.1]<;>rfl
 rw[hgw,Kq (by decide)];generalize hX:t.probe _ (hp (u,v)) (none.getD (t.probeStart (hp (u,v))))=X0;have hX':X0=some (.empty j none):=by rw[←hX];exact hj
 subst hX';dsimp only;refine JT ?_;dsimp only;refine JP (wpAny_setState_of ho1 rfl hf ?_);dsimp only;have hps:=tS t j;have hpd:=mX htd j;obtain⟨hpm,hpp⟩:=u5 t j;have hip:=insertAt_perm es (t.put j).2 (hp (u,v),Value.ref a);have his:(SetTable.insertAt es (t.put j).2 (hp (u,v),Value.ref a)).size=es.size+1:=by
  have:=hip.length_eq;simpa using this
 have hash':∀e∈(SetTable.insertAt es (t.put j).2 (hp (u,v),Value.ref a)).toList,∃p∈done++[(u,v)],e.1=hp p:=fun e he=>by
  rcases J7.mp (hip.mem_iff.mp he)with rfl | he
  ·exact⟨(u,v),by simp,rfl⟩
  ·obtain⟨p,h1,h2⟩:=hh e he;exact⟨p,KD _ h1,h2⟩
 have last:wpAny (model prog w) A (do
   storeSet S (SetTable.insertAt es (t.put j).2 (hp (u,v),Value.ref a)) (t.put j).1
   if (!false&&(t.put j).1.tooFull)=true then do
    setRelay S (SetTable.grown (es.size+1))
    pure true
   else pure true) Q E s1:=by
  refine JP (wpAny_storeSet_of ho1 rfl ?_ (by rw[his,K3];omega));have hg:(s1.heap.update S (Obj.putSet (SetTable.insertAt es (t.put j).2 (hp (u,v),Value.ref a)) (t.put j).1)).get? S=some { cls:=.type "set",dict:=none,data:=.set (SetTable.insertAt es (t.put j).2 (hp (u,v),Value.ref a)) (ep+1) (t.put j).1 } :=
   La _ ho1 rfl
  have sb1:Heap.SameBut S s.heap (s1.heap.update S (Obj.putSet (SetTable.insertAt es (t.put j).2 (hp (u,v),Value.ref a)) (t.put j).1)):=by rw[e1];exact K0 ..
  have hs1:∀hh':Heap,({ s1 with heap:=hh' }:Shared)={ s with heap:=hh',toks:=s1.toks }:=fun hh'=>by rw[←hs']
  by_cases hfull:(t.put j).1.tooFull=true
  ·rw[hfull,Kw (by rfl)];have hfu:((t.put j).1.place.size+(t.put j).1.dummies.size)*5≥(t.put j).1.mask*3:=by
    have q:=hfull;unfold SetTable.tooFull SetTable.fill at q;exact LC q
   rw[hps,hpd,hpm,hts]at hfu;have hz:(#[]:Array Nat).size=0:=rfl;rw[hz]at hfu;have h5:t.mask=7/\es.size=4:=by omega
   have hw:SetTable.grown (es.size+1)=20:=by rw[h5.2];rfl
   rw[hw];have hf2:(t.put j).1.fits (SetTable.insertAt es (t.put j).2 (hp (u,v),Value.ref a)).size=true:=fits_of hpd (by rw[hps,his,hts]) (by rw[his,hpm];omega);obtain⟨t',order,r1,r2,r3,r4,r5,r6⟩:=qU (t:=(t.put j).1) (hashes:=(SetTable.insertAt es (t.put j).2 (hp (u,v),Value.ref a)).map (·.1)) (wanted:=20) rfl (fun h0 hm0=>by
    rw[Array.toList_map]at hm0;obtain⟨e,he,rfl⟩:=JU.mp hm0;obtain⟨p,hp1,hp2⟩:=hash' e he;rw[hp2];rcases K6.mp hp1 with q | q
    ·exact nF (hd p q)
    ·rw[Ka.mp q];exact nF hin) (by rw[Array.size_map,his];omega)
   rw[Array.size_map]at r4 r5;have op:=ng r5;have osz:(order.filterMap ((SetTable.insertAt es (t.put j).2 (hp (u,v),Value.ref a))[·]?)).size=(SetTable.insertAt es (t.put j).2 (hp (u,v),Value.ref a)).size:=by
    rw[←KZ,← KZ];exact op.length_eq
   unfold setRelay;refine JP (JP (wpAny_setState_of hg rfl hf2 ?_));dsimp only;rw[Kq (show ¬SetTable.sizeAbove 20>sizeLine by rw[K3];decide)];refine JP ?_;rw[r1];show wpAny _ _ (if (Array.size (order.filterMap ((SetTable.insertAt es (t.put j).2 (hp (u,v),Value.ref a))[·]?)) !=(SetTable.insertAt es (t.put j).2 (hp (u,v),Value.ref a)).size)=true then _ else _) _ _ _;rw[Kq (by rw[osz];simp)];refine JT ?_;dsimp only;refine wpAny_storeSet_of hg rfl ?_ (by rw[osz,his,K3];omega);refine JT ?_;have hg3:=La (Obj.putSet (order.filterMap ((SetTable.insertAt es (t.put j).2 (hp (u,v),Value.ref a))[·]?)) t') hg rfl;rw[hs1];refine h _ _ (sb1.trans (K0 ..)) ⟨_,_,_,hg3,r3,by rw[r4,osz],by rw[osz,his,hes];simp,.inr ⟨r2,by rw[osz,his];omega⟩,fun e he=>hash' e (op.mem_iff.mp he)⟩
  ·rw[Bool.not_eq_true]at hfull;rw[hfull,Kq (by decide)];refine JT ?_;rw[hs1];refine h _ _ sb1 ⟨_,_,_,hg,hpd,by rw[hps,his,hts],by rw[his,hes];simp,?_,hash'⟩;have hfu:¬((t.put j).1.place.size+(t.put j).1.dummies.size)*5≥(t.put j).1.mask*3:=by
    have q:=hfull;unfold SetTable.tooFull SetTable.fill at q;exact of_decide_eq_false q
   rw[hps,hpd,hpm,hts]at hfu;have hz:(#[]:Array Nat).size=0:=rfl;rw[hz]at hfu;rw[his,hpm];omega
 by_cases hpl:(t.put j).1.plain=true
 ·rw[Kw hpl];refine JP (gI hk1 ?_);exact last
 ·rw[Kq hpl];refine JP (JT ?_);exact last
def vU(h:Heap)(vs:List Value)(ps:List (Int×Int)):Prop:=∀(i:Nat) (v:Value),vs[i]?=some v->∃a p,v=.ref a/\ps[i]?=some p/\IsTupleKey (intKind prog w) h [p.1,p.2] a
theorem ur(x:IsTupleKey (intKind prog w) h [u,v] a)(ho:h.get? S=some { cls:=.type "set",dict:=none,data:=.set es ep t })
  (sb:∀b o,b≠S->h.get? b=some o->h'.get? b=some o):IsTupleKey (intKind prog w) h' [u,v] a:=by
 obtain⟨o,items,n,e,c,d,i⟩:=x;refine⟨o,items,n,sb a o ?_ e,c,d,i⟩;rintro rfl;rw[ho]at e;cases e;cases d
theorem rH(hu:A.units+1<cLine)(hh:A.in1.handled=none)(hlen:vs.length=ps.length)(hl15:ps.length≤15)(hnd:ps.Nodup)(hin:∀p∈ps,p∈prs)
  (hSI:S≠I) (hSl:S≠l) (hlI:l≠I):∀(k i:Nat) (s:Shared),ps.length - i=k->i≤ps.length->s.heap.IsListIter I l i->s.heap.IsList l vs.toArray->vU (prog:=prog) (w:=w) s.heap vs ps->i8 s.heap S (ps.take i) ->
   (∀h' tk,(∀b o,b≠S->b≠I->s.heap.get? b=some o->h'.get? b=some o)->i8 h' S ps->R (.ok (.ret .none)) { s with heap:=h',toks:=tk }) ->
   codeAny (model prog w) A (.builtin "set.update.loop" ⟨[.ref S,.ref I],[]⟩) R s:=by
 intro k
 induction k with
 | zero =>
  intro i s hk hi hit hl hT hP hR;have e:i=ps.length:=by omega
  subst e;rw[Ke]at hP;refine codeAny_builtin F.entry_set_update_loop ?_;rw[Around.under_plainId F.plain_set_update_loop _];show wpAny _ A.in1 (pyNext (.ref I) >>= _) _ _ s;refine JP (wpAny_pyNext_list_end hh hit hl (by simp[hlen]) fun h' eb=>?_);show wpAny _ A.in1 (ret Value.none) _ _ _;refine JT (hR h' s.toks (fun b o _ hb e=>eb b o hb e) ?_);obtain⟨es,ep,t,ho,r⟩:=hP.is;exact⟨es,ep,t,eb S _ hSI ho,r⟩
 | succ k ih =>
  intro i s hk hi hit hl hT hP hR;have hlt:i<ps.length:=by omega
  have hvi:vs[i]?=some vs[i]:=JO (by omega);obtain⟨a,p,ev,ep,key⟩:=hT i _ hvi;refine codeAny_builtin F.entry_set_update_loop ?_;rw[Around.under_plainId F.plain_set_update_loop _];show wpAny _ A.in1 (pyNext (.ref I) >>= _) _ _ s;refine JP (wpAny_pyNext_list_item hit hl (x:=.ref a) (by rw[←ev];simp) fun h1 hit1 sb1=>?_);have k1:∀b o,b≠I->s.heap.get? b=some o->h1.get? b=some o:=fun b o hb e=>sb1.extBut b o hb e;obtain⟨es,epo,t,ho,r⟩:=id hP.is;have hP1:i8 h1 S (ps.take i):=⟨es,epo,t,k1 S _ hSI ho,r⟩;have key1:IsTupleKey (intKind prog w) h1 [p.1,p.2] a:=by
   obtain⟨o,items,n,e,c,d,ii⟩:=key;refine⟨o,items,n,k1 a o ?_ e,c,d,ii⟩;rintro rfl;obtain⟨oi,hoi,hci,_⟩:=hit;rw[hoi]at e;cases e;rw[hci]at c;exact absurd c (by decide)
  show wpAny _ A.in1 (holding [Value.ref a] (setAdd S (.ref a)) >>= _) _ _ _;have hmem:p∈ps:=JX ep;have hnot:p∉ps.take i:=fun hm=>by
   obtain⟨j,hj,e⟩:=List.mem_iff_getElem.mp hm;rw[List.getElem_take]at e;rw[Kl]at hj;obtain⟨hi',e'⟩:=JS.mp ep;have:=(List.getElem_inj hnd (h₀:=by omega) (h₁:=hi')).mp (e.trans e'.symm);omega
  refine JP (LG (ml (u:=p.1) (v:=p.2) (A:=A.in1) (by show A.units+1<cLine;exact hu) key1 hP1 (hin p hmem) (fun q hq=>hin q (KJ hq)) hnot (by rw[Kl];omega) fun h2 tk sb2 hP2=>?_));have k2:∀b o,b≠S->h1.get? b=some o->h2.get? b=some o:=fun b o hb e=>sb2.extBut b o hb e;have et:ps.take i++[p]=ps.take (i+1):=by rw[Kr,ep];rfl
  refine JT ⟨plainId_quiet F.plain_set_update_loop _,ih (i+1) { s with heap:=h2,toks:=tk } (by omega) (by omega) (hit1.extBut (fun b o hb e=>k2 b o hb e) (Ne.symm hSI)) ?_ ?_ (by rw[←et];exact hP2) ?_⟩
  ·exact(hl.extBut (fun b o hb e=>k1 b o hb e) hlI).extBut (fun b o hb e=>k2 b o hb e) (Ne.symm hSl)
  ·intro j v hv;obtain⟨a',p',e1',e2',key'⟩:=hT j v hv;refine⟨a',p',e1',e2',ur ?_ (k1 S _ hSI ho) k2⟩;obtain⟨o,items,n,e,c,d,ii⟩:=key';refine⟨o,items,n,k1 a' o ?_ e,c,d,ii⟩;rintro rfl;obtain⟨oi,hoi,hci,_⟩:=hit;rw[hoi]at e;cases e;rw[hci]at c;exact absurd c (by decide)
  ·intro h3 tk3 kp hP3;exact hR h3 tk3 (fun b o hb hb' e=>kp b o hb hb' (k2 b o hb (k1 b o hb' e))) hP3
set_option maxHeartbeats 4000000 in
theorem iO(hu:A.units+8<cLine)(hh:A.handled=none)(hl:s.heap.IsList l vs.toArray)(hlen:vs.length=ps.length)(hl15:ps.length≤15)
  (hnd:ps.Nodup) (hin:∀p∈ps,p∈prs) (hT:vU (prog:=prog) (w:=w) s.heap vs ps)
  (h:∀h' tk,(∀b o,b<s.heap.objs.size->s.heap.get? b=some o->h'.get? b=some o)->i8 h' s.heap.objs.size ps->Q (.ref s.heap.objs.size) { s with heap:=h',toks:=tk }) :
  wpAny (model prog w) A (call (.type "set") [.ref l]) Q E s:=by
 obtain⟨c0,tl0,mro0⟩:=F.called_set.mro;have made0:=F.called_set.made;have sub0:=F.called_set.sub;have nt0:=F.called_set.notType;have cc0:=F.called_set.canCreate;have tc0:=F.typeCall_set_1 (.ref l);refine wpAny_call (codeAny_of_tree ?_);show wpAny _ _ (callAny (.type "set") _) _ _ _;refine JT ⟨Code.quiet_builtin _ (by decide +kernel),codeAny_builtin F.entry_type_call ?_⟩;rw[Around.under_plain (weight_type_call_type "set" [.ref l] []) rfl]
 repeat (any_goals (first | assumption | wp_step))
 refine codeAny_mono (code_set_new_1 (.ref l) (E:=E) (Q₁:=fun obj s1=>∃led:Bool,obj=.ref s.heap.objs.size /\
  s1={ s with heap:=s.heap.push { cls:=.type "set",dict:=none,data:=.set #[] 0 (.fresh 0 0 led) } }) fun led=>⟨led,rfl,rfl⟩) fun r s1 hr=>?_
 cases r with
 | error e=>exact hr
 | ok fl =>
  cases fl with
  | ret obj =>
   obtain⟨led,rfl,rfl⟩:=hr;generalize hH:s.heap.push { cls:=.type "set",dict:=none,data:=.set #[] 0 (.fresh 0 0 led) }=H1;have hS:H1.get? s.heap.objs.size=some { cls:=.type "set",dict:=none,data:=.set #[] 0 (.fresh 0 0 led) }:=by rw[←hH];exact JZ _ rfl
   have old:∀b o,s.heap.get? b=some o->H1.get? b=some o:=fun b o e=>by rw[←hH];exact JR _ e
   have hsz:H1.objs.size=s.heap.objs.size+1:=by rw[←hH,K9]
   have tyS:Shared.TypeIs { s with heap:=H1 } (.ref s.heap.objs.size) "set":=⟨_,hS,rfl⟩;have li0:=F.called_set.init.lookup;have bi0:=F.called_set.init.bind (.ref s.heap.objs.size)
   repeat (any_goals (first | assumption | wp_step))
   refine codeAny_mono (codeAny_call_builtin (R:=wants (fun r s2=>r=.none/\∃h' tk,s2={ s with heap:=h',toks:=tk }/\i8 h' s.heap.objs.size ps /\
    (∀b o,b<s.heap.objs.size->s.heap.get? b=some o->h'.get? b=some o)) E) F.called_set.init.plain F.entry_set_init (check_set_init_1 tyS ?_)) fun r2 s2 hr2=>?_
   ·obtain⟨ol,hol,hcl,nl,hdl⟩:=hl;obtain⟨oc,od,oda,osl⟩:=ol;simp only at hcl hdl;subst hcl;subst hdl;have hol1:H1.get? l=some { cls:=.type "list",dict:=od,data:=.seq vs.toArray nl,slots:=osl }:=old _ _ hol;have sls:=F.sub_list_set;have slf:=F.sub_list_frozenset;have nld:(Value.type "list"==Value.type "dict")=false:=by decide
    have hl1:H1.IsList l vs.toArray:=⟨_,hol1,rfl,nl,rfl⟩;have llt:l<s.heap.objs.size:=J0 hol;unfold Builtin.«set.__init__» noKeywords Builtin.Frozenset.updateFrom;generalize hPI:pyIter=PI
    wp_walk
    subst hPI;refine wpAny_pyIter_list hl1 ?_;refine JP (wpAny_runValue ?_);generalize hH2:H1.push { cls:=.type "list_iterator",data:=.fields #[.ref l,.int 0 0] }=H2;have old2:∀b o,H1.get? b=some o->H2.get? b=some o:=fun b o e=>by rw[←hH2];exact JR _ e
    refine rH (l:=l) (ps:=ps) (vs:=vs) (by show A.units+1+1+1<cLine;omega) (by simp[hh]) hlen hl15 hnd hin (by show s.heap.objs.size≠H1.objs.size;rw[hsz];exact Ki (Nat.lt_succ_self _)) (Lx llt) (by show l≠H1.objs.size;rw[hsz];exact Ki (LK llt)) ps.length 0 _ (by omega) (Ll _) ?_ ?_ ?_ ?_ ?_
    ·rw[←hH2];exact⟨_,JZ _ rfl,rfl,rfl⟩
    ·exact⟨_,old2 _ _ hol1,rfl,nl,rfl⟩
    ·intro i v hv;obtain⟨a,p,e1,e2,o,items,n,e,r⟩:=hT i v hv;exact⟨a,p,e1,e2,o,items,n,old2 _ _ (old _ _ e),r⟩
    ·exact⟨#[],0,.fresh 0 0 led,old2 _ _ hS,rfl,rfl,rfl,.inl ⟨rfl,by decide⟩,fun e he=>by simp at he⟩
    ·intro h' tk kp hP;show wpAny _ _ (pure ()) _ _ _;refine JT ?_;show wpAny _ _ (ret Value.none) _ _ _;refine JT ⟨rfl,h',tk,rfl,hP,fun b o hb e=>?_⟩;refine kp b o (Ki hb) ?_ (old2 _ _ (old _ _ e));show b≠H1.objs.size;rw[hsz];exact Ki (LK hb)
   ·cases r2 with
    | error e=>exact hr2
    | ok f2 =>
     cases f2 with
     | ret r =>
      obtain⟨rfl,h',tk,rfl,hP,hk⟩:=hr2
      repeat (any_goals (first | assumption | wp_step))
      exact h _ _ hk hP
     | _=>exact hr2.elim
  | _=>exact hr.elim
end
end SP
namespace L2
variable {X:Cx}
def yV(S:Addr)(n:Nat):Heap->Prop:=fun h=>∃es ep t,h.get? S=some { cls:=.type "set",dict:=none,data:=.set es ep t }/\es.size=n/\t.fits es.size=true
def Prs(K:LFr)(H:Hp)(us:List V)(ps:List (Int×Int)):Prop:=Paired (fun(u:V) (p:Int×Int)=>∃t,u=.ref t/\SqT K H t [.int p.1,.int p.2]) us ps
theorem kQ{K:LFr}{H:Hp}:∀{us:List V} {ps:List (Int×Int)} {i:Nat} {u:V},Prs K H us ps->us[i]?=some u->∃p t,ps[i]?=some p/\u=.ref t/\SqT K H t [.int p.1,.int p.2]
 | [],_,i,u,_,e=>by simp at e
 | _::_,_::_,0,u,.cons h _,e=>by
  obtain⟨t,h1,h2⟩:=h;simp at e;subst e;exact⟨_,t,by simp,h1,h2⟩
 | _::_,_::_,i+1,u,.cons _ t,e=>by
  obtain⟨p,a,e1,e2⟩:=kQ (i:=i) (u:=u) t (by simpa using e);exact⟨p,a,by simpa using e1,e2⟩
theorem ky{K:LFr}(h:Prs K H us ps):us.length=ps.length:=Paired.length h
theorem qR(hc:X.calm=true)(hu:X.A.units+64<cLine):cj X (.type "set") (fun xs H Q=>∃(a:Addr) (us:List V) (ps:List (Int×Int)),xs=[.ref a]/\SqL X.K H a us/\Prs X.K H us ps/\ps.Nodup/\(∀p∈ps,p∈SP.prs)/\ps.length≤15/\∀S,H S=none->Q (.ref S) (upd H S (.ext (yV S ps.length)))):=by
 intro pins s σ H xs us Q I r h;obtain⟨a,ws,ps,rfl,hq,hP,nd,hin,h15,q⟩:=h;obtain⟨u,rfl,ru⟩:=Vals.one r;cases ru;obtain⟨its,rv,p,hz⟩:=I.list hq;have hlen:its.length=ps.length:=rv.length.symm.trans (ky hP);refine SP.iO (by omega) (I.ok.hd hc) p.isList hlen h15 nd hin ?_ fun h' tk kp P=>?_
 ·intro i v hv;have hi:i<ws.length:=by rw[rv.length];exact(JS.mp hv).1
  obtain⟨pr,t,e1,e2,hs⟩:=kQ (i:=i) hP (JO hi);obtain⟨u,eu,ru⟩:=rv.get (JO hi);rw[hv]at eu;cases eu;rw[e2]at ru;cases ru;obtain⟨is,r2,⟨o,ho,hcl,n,hd⟩,_⟩:=I.tuple hs;obtain⟨x,y,rfl,rx,ry⟩:=vals2 r2;obtain⟨t1,rfl⟩:=rx;obtain⟨t2,rfl⟩:=ry;exact⟨t,pr,rfl,e1,o,_,n,ho,hcl,hd,.cons (by simp[intKind,Value.isInt]) (.cons (by simp[intKind,Value.isInt]) .nil)⟩
 ·have hn:H s.heap.objs.size=none:=I.hok.fresh (JW _);obtain⟨es,ep,t,ho,hd,hp,hl,hm,_⟩:=P.is;have hf:t.fits es.size=true:=SP.fits_of hd hp (by rcases hm with⟨e,k⟩ |⟨e,k⟩<;>omega);refine⟨.ref s.heap.objs.size,_,I.laid (t':=tk) (o:=.ext (yV s.heap.objs.size ps.length)) (fun b o e=>kp b o (J0 e) e) (JW _) ?_,rfl,q _ hn⟩;exact⟨⟨es,ep,t,ho,hl,hf⟩,⟨_,ho⟩,fun h1 h2 y_ k=>by obtain⟨es,ep,t,e,l,f⟩:=y_;exact ⟨es,ep,t,k _ e,l,f⟩⟩
theorem ra:cj X (.builtin "len") (fun xs H Q=>∃(S:Addr) (n:Nat),xs=[.ref S]/\H S=some (.ext (yV S n))/\n<1000/\Q (.int n) H):=by
 intro pins s σ H xs us Q I r h;obtain⟨S,n,rfl,hS,hn,q⟩:=h;obtain⟨u,rfl,ru⟩:=Vals.one r;cases ru;obtain⟨⟨es,ep,t,ho,hl,hf⟩,_,_⟩:=(show bg X.prog X.w H s.heap S (.ext (yV S n))from I.hok S _ hS);subst hl;exact call_len_set ho ⟨rfl,rfl,rfl⟩ rfl hf (by omega) ⟨.int es.size,H,I.tok _,⟨_,rfl⟩,q⟩
end L2
namespace U
open L2
section
variable {B:Bs}{X:Cx}{e:Expr}{ta:TE'}{p p2 pos pos2:Pos}
def prV(p:Int×Int):PV:=.tup [.int p.1,.int p.2]
theorem n6{K:LFr}{H:Hp}:∀{ps:List (Int×Int)} {us:List V},RPs K H (ps.map prV) us->Prs K H us ps
 | [],us,h=>by
  have:us=[]:=by simpa[RPs]using h
  subst this;exact .nil
 | q::ps,us,h=>by
  simp only[Kc,RPs,RP,prV]at h;obtain⟨u,r,rfl,⟨t,ws,rfl,hs,w1,r1,rfl,rfl,w2,r2,rfl,rfl,rfl⟩,h2⟩:=h;exact .cons ⟨t,rfl,hs⟩ (n6 h2)
def tJ(x:PV)(H:PHp)(Q:VK'):Prop:=match x with
 | .ref a=>∃ps:List (Int×Int),H a=some (.lst (ps.map prV))/\ps.Nodup/\(∀p∈ps,p∈SP.prs)/\ps.length≤15/\Q (.int ps.length) H
 | _=>False
def oH(ta:TE'):TE':=fun σ H Q=>ta σ H fun x H1=>tJ x H1 Q
theorem oz(hc:X.calm=true)(hu:X.A.units+64<cLine)(hgl:Gl X "len")(hml:X.mg "len"=none)(hgs:Gl X "set")(hms:X.mg "set"=none)(bs:bootBuiltins "set"=some (.type "set"))(ha:PE' X B e ta)
  (he:starEach [.Call (.Name "set" p2) [e] [] pos2] X.env=[(false,eval (.Call (.Name "set" p2) [e] [] pos2) X.env)]:=by rfl) (he2:starEach [e] X.env=[(false,eval e X.env)]:=by rfl) :
  PE' X B (.Call (.Name "len" p) [.Call (.Name "set" p2) [e] [] pos2] [] pos) (oH ta) :=
 aQ (l5 ra hgl hml Ku (iy (jT (qR hc hu) hgs hms bs (iy ha ku he2) (by decide) (by decide) he2 rfl) ku he) (by decide) (by decide) he rfl) fun σ H Q h=>by
  obtain⟨σ',H',Q',s,h,k⟩:=h;refine⟨σ',H',_,s,h,fun x' H1' x H1 h1 rx s1 e1=>?_⟩;cases x' with
  | ref a =>
   obtain⟨ps,ea,nd,hin,h15,q⟩:=h1;simp only[RP]at rx;subst rx;obtain⟨us,eg,r2⟩:=s1.hp _ _ ea;refine⟨a,us,ps,rfl,.inl (.inl eg),n6 r2,nd,hin,h15,fun S hS=>?_⟩;exact⟨S,ps.length,rfl,aT,by omega,k _ _ _ _ q (by simp[RP]) (s1.hid hS) (e1.trans (Ev.hid hS))⟩
  | _=>exact h1.elim
end
section
variable {B:Bs}{X:Cx}{a b:Expr}{ta tb:TE'}{pos:Pos}
end
end U
namespace ST
open PySem.W
def key(K:Nat->Int)(p:Array Nat)(i:Nat):Int:=K ((p[i]?).getD 0)
structure Ok (n:Nat) (p:Array Nat):Prop where
 perm:p.toList.Perm (List.range n)
def S(K:Nat->Int)(p:Array Nat)(m:Nat):Prop:=∀i j,i<j->j<m->key K p i<key K p j
theorem Ok.size(h:Ok n p):p.size=n:=by
 have:=h.perm.length_eq;simpa using this
theorem Ok.lt(h:Ok n p)(h0:0<n)(i:Nat):p.getD i 0<n:=by
 rw[Array.getD_eq_getD_getElem?];cases e:p[i]? with
 | none=>exact h0
 | some x =>
  have:x∈p.toList:=by
   obtain⟨hi,rfl⟩:=Array.getElem?_eq_some_iff.mp e;simp
  exact KI.mp (h.perm.mem_iff.mp this)
theorem Ok.of(h:Ok n p)(r:q.Perm p):Ok n q:=⟨(Array.perm_iff_toList_perm.mp r).trans h.perm⟩
section
variable {cmp:Nat->Nat->(Bool->Shared->Prop)->Shared->Prop}{s:Shared}{n:Nat}{K:Nat->Int}{p:Array Nat}
theorem Ok.ne(hK:∀i j,i<n->j<n->K i=K j->i=j)(h:Ok n p){i j:Nat}(hi:i<n)(hj:j<n)(hne:i≠j):key K p i≠key K p j:=by
 intro e;have hs:=h.size;have h0:0<n:=by omega
 unfold key at e;rw[Kf (by omega),Kf (by omega)]at e;simp only[Option.getD_some]at e;have nd:p.toList.Nodup:=(h.perm.nodup_iff).mpr List.nodup_range;have l1:p[i]<n:=by have:=h.lt h0 i;rwa [Array.getD_eq_getD_getElem?,Kf (by omega)]at this
 have l2:p[j]<n:=by have:=h.lt h0 j;rwa [Array.getD_eq_getD_getElem?,Kf (by omega)]at this
 have q:=hK _ _ l1 l2 e;have:i=j:=by
  exact(List.getElem_inj nd (h₀:=by simpa[hs]using hi) (h₁:=by simpa[hs]using hj)).mp (by simpa using q)
 exact hne this
theorem l7(K:Nat->Int)(p:Array Nat)(i:Nat):K (p.getD i 0)=key K p i:=by
 unfold key;rw[Array.getD_eq_getD_getElem?]
variable (hc:∀i j C,i<n->j<n->C (decide (K i<K j)) s->cmp i j C s)(hK:∀i j,i<n->j<n->K i=K j->i=j)
include hc
theorem i6(h0:0<n)(ok:Ok n p){i j:Nat}(h:G (decide (key K p i<key K p j)) s):cmp (p.getD i 0) (p.getD j 0) G s:=by
 refine hc _ _ _ (ok.lt h0 i) (ok.lt h0 j) ?_;rw[l7 K p i,l7 K p j];exact h
include hK
theorem gK(ok:Ok n p)(hi:i<n)(hj:j<n)(hne:i≠j)(h:¬key K p i<key K p j):key K p j<key K p i:=by
 have:=ok.ne hK hi hj hne;omega
theorem asc(ok:Ok n p):∀(f m:Nat) {G:Nat->Shared->Prop},1≤m->m+f≤n->S K p m ->
  (∀m',m≤m'->m'≤m+f->S K p m'->(m'<m+f->key K p m'<key K p (m' - 1))->G m' s)->(kas_asc p f m).kasWp cmp G s
 | 0,m,G,_,_,hS,h=>h m (JW _) (JW _) hS fun q=>absurd q (Ls _)
 | f+1,m,G,h1,hm,hS,h=>by
  refine i6 hc (by omega) ok (G:=fun c s'=>(if c=true then KasT.ret m else kas_asc p f (m+1)).kasWp cmp G s') ?_;by_cases q:key K p m<key K p (m - 1)
  ·rw[Lq q];show G m s;exact h m (JW _) (by omega) hS fun _=>q
  ·rw[Ld q];show(kas_asc p f (m+1)).kasWp cmp G s;have q':=gK hc hK ok (by omega) (by omega) (by omega) q;refine asc ok f (m+1) (by omega) (by omega) ?_ fun m' a b c d=>h m' (by omega) (by omega) c fun e=>d (by omega);intro i j hij hj;by_cases hjm:j<m
   ·exact hS i j hij hjm
   ·have:j=m:=by omega
    subst this;by_cases him:i=j - 1
    ·subst him;exact q'
    ·have:=hS i (j - 1) (by omega) (by omega);omega
theorem desc(ok:Ok n p):∀(f m:Nat) {G:Array Nat×Nat×Nat->Shared->Prop},1≤m->m+f≤n->(∀i j,i<j->j<m->key K p j<key K p i) ->
  (∀m',m≤m'->m'≤m+f->(∀i j,i<j->j<m'->key K p j<key K p i)->G (p,m',0) s)->(kas_desc f p m 0).kasWp cmp G s
 | 0,m,G,_,_,hS,h=>h m (JW _) (JW _) hS
 | f+1,m,G,h1,hm,hS,h=>by
  refine i6 hc (by omega) ok (G:=fun c s'=>(if c=true then(if 0>0 then kas_desc f (kas_rev p (m - (0+1)) m) (m+1) 0 else kas_desc f p (m+1) 0)
   else KasT.ask (p.getD (m - 1) 0) (p.getD m 0) fun d=>if d=true then KasT.ret (p,m,0)else kas_desc f p (m+1) (0+1)).kasWp cmp G s') ?_
  by_cases q:key K p m<key K p (m - 1)
  ·rw[Lq q,Kw rfl,Kq (by omega)];refine desc ok f (m+1) (by omega) (by omega) ?_ fun m' a b c=>h m' (by omega) (by omega) c;intro i j hij hj;by_cases hjm:j<m
   ·exact hS i j hij hjm
   ·have:j=m:=by omega
    subst this;by_cases him:i=j - 1
    ·subst him;exact q
    ·have:=hS i (j - 1) (by omega) (by omega);omega
  ·rw[Ld q];have q':=gK hc hK ok (by omega) (by omega) (by omega) q;refine i6 hc (by omega) ok (G:=fun d s'=>(if d=true then KasT.ret (p,m,0)else kas_desc f p (m+1) (0+1)).kasWp cmp G s') ?_;rw[Lq q',Kw rfl];exact h m (JW _) (by omega) hS
theorem oV(ok:Ok n p)(hm:m≤n)(i:Nat):key K (kas_rev p 0 m) i=if i<m then key K p (m - 1 - i)else key K p i:=by
 unfold key kas_rev;rw[getElem?_mirror_all (by rw[ok.size];exact hm)];by_cases h:i<m
 ·rw[Kw ⟨Ll _,h⟩,Kw h];congr 3;omega
 ·rw[Kq (by omega),Kq h]
theorem count(ok:Ok n p)(h1:1≤n)(h:∀m p',Ok n p'->1≤m->m≤n->S K p' m->G (m,p') s):(kas_count n p).kasWp cmp G s:=by
 unfold kas_count;rw[KasT.kasWp_bind];refine asc hc hK ok (n - 1) 1 (JW _) (by omega) (fun i j a b=>by omega) fun m' a b hS st=>?_;by_cases e:m'=n
 ·subst e;rw[Kw (by simp)];exact h _ _ ok (by omega) (JW _) hS
 ·rw[Kq (by simpa using e)];by_cases e1:m'>1
  ·rw[Kw e1];refine i6 hc (by omega) ok (G:=fun c s'=>(if c=true then KasT.ret (m',p)else kas_descPart m' n (kas_rev p 0 m')).kasWp cmp G s') ?_;rw[Lq (hS 0 (m' - 1) (by omega) (by omega)),Kw rfl];exact h _ _ ok (by omega) (by omega) hS
  ·rw[Kq e1];have:m'=1:=by omega
   subst this;unfold kas_descPart;rw[KasT.kasWp_bind];have st1:=st (by omega);refine desc hc hK ok (n - (1+1)) (1+1) (by omega) (by omega) (fun i j hij hj=>?_) fun m' a b hD=>?_
   ·have h1:j=1:=by omega
    have h2:i=0:=by omega
    subst h1;subst h2;exact st1
   ·rw[Kq (by simp)];unfold kas_tail3;rw[KasT.kasWp_bind];have ok2:Ok n (kas_rev p 0 m'):=ok.of (mirror_perm _ _ _ _);refine asc hc hK ok2 (n - m') m' (by omega) (by omega) (fun i j hij hj=>?_) fun m2 a2 b2 hS2 _=>?_
    ·rw[oV hc hK ok (by omega),oV hc hK ok (by omega),Kw (by omega),Kw hj];exact hD _ _ (by omega) (by omega)
    ·exact h m2 _ ok2 (by omega) (by omega) hS2
theorem place(ok:Ok n p){k:Nat}(hk:k<n)(hS:S K p k):∀(f l r:Nat) {G:Nat->Shared->Prop},l≤r->r≤k->r - l≤f->(∀i,i<l->key K p i<key K p k)->(∀i,r≤i->i<k->key K p k<key K p i) ->
  (∀l',l'≤k->(∀i,i<l'->key K p i<key K p k)->(∀i,l'≤i->i<k->key K p k<key K p i)->G l' s)->(kas_place p k f l r).kasWp cmp G s
 | 0,l,r,G,h1,h2,h3,ha,hb,h=>h l (by omega) ha fun i x y=>hb i (by omega) y
 | f+1,l,r,G,h1,h2,h3,ha,hb,h=>by
  unfold kas_place;by_cases e:l≥r
  ·rw[Kw e];exact h l (by omega) ha fun i x y=>hb i (by omega) y
  ·rw[Kq e];refine i6 hc (by omega) ok (G:=fun c s'=>(if c=true then kas_place p k f l ((l+r) / 2)else kas_place p k f ((l+r) / 2+1) r).kasWp cmp G s') ?_;have hmid:(l+r) / 2<k:=by omega
   generalize hm:(l+r) / 2=mid at *;by_cases q:key K p k<key K p mid
   ·rw[Lq q,Kw rfl];refine place ok hk hS f l mid (by omega) (by omega) (by omega) ha (fun i x y=>?_) h;by_cases z:i=mid
    ·subst z;exact q
    ·have:=hS mid i (by omega) y;omega
   ·rw[Ld q,Kq (by simp)];have q':=gK hc hK ok hk (by omega) (by omega) q;refine place ok hk hS f (mid+1) r (by omega) h2 (by omega) (fun i x=>?_) hb h;by_cases z:i=mid
    ·subst z;exact q'
    ·have:=hS i mid (by omega) hmid;omega
theorem qh(ok:Ok n p)(hk:k<n)(hl:l≤k)(i:Nat):key K (bubble p k (k - l)) i=if i=l then key K p k else if l<i/\i≤k then key K p (i - 1)else key K p i:=by
 unfold key;rw[getElem?_bubble (by rw[ok.size];exact hk) _ (Nat.sub_le _ _)];rw[show k - (k - l)=l by omega];split
 ·rfl
 ·split<;>rfl
theorem bin:∀(f k:Nat) (p:Array Nat) {G:Array Nat->Shared->Prop},Ok n p->1≤k->k+f=n->S K p k->(∀p',Ok n p'->S K p' n->G p' s)->(kas_bin f p k).kasWp cmp G s
 | 0, k, p, G, ok, h1, h2, hS, h => h p ok (by have : k = n := by omega
                                               subst this; exact hS)
 | f+1,k,p,G,ok,h1,h2,hS,h=>by
  unfold kas_bin;rw[KasT.kasWp_bind];refine place hc hK ok (by omega) hS k 0 k (by omega) (JW _) (by omega) (fun i x=>by omega) (fun i x y=>by omega) fun l hl ha hb=>?_;refine bin f (k+1) _ (ok.of (bubble_perm _ _ _)) (by omega) (by omega) (fun i j hij hj=>?_) h;rw[qh hc hK ok (by omega) hl,qh hc hK ok (by omega) hl];by_cases c1:i=l
  ·rw[Kw c1];rw[Kq (by omega),Kw (by omega)];exact hb _ (by omega) (by omega)
  ·rw[Kq c1];by_cases c2:j=l
   ·rw[Kw c2,Kq (by omega)];exact ha _ (by omega)
   ·rw[Kq c2];by_cases c3:l<i/\i≤k
    ·rw[Kw c3,Kw (by omega)];exact hS _ _ (by omega) (by omega)
    ·rw[Kq c3];by_cases c4:l<j/\j≤k
     ·rw[Kw c4];by_cases c5:i=j - 1
      ·omega
      ·exact hS _ _ (by omega) (by omega)
     ·rw[Kq c4];exact hS _ _ hij (by omega)
theorem sorts(h1:1≤n)(h:∀p,Ok n p->S K p n->G p s):(kas_sort n).kasWp cmp G s:=by
 unfold kas_sort;rw[KasT.kasWp_bind];refine count hc hK (p:=(List.range n).toArray) ⟨by simp⟩ h1 fun m p' ok a b hS=>?_;show(if m<n then kas_bin (n - max m 1) p' (max m 1)else KasT.ret p').kasWp cmp G s;by_cases e:m<n
 ·rw[Kw e,show max m 1=m by omega];exact bin hc hK (n - m) m p' ok a (by omega) hS h
 ·rw[Kq e];have:m=n:=by omega
  subst this;exact h p' ok hS
end
end ST
namespace ST
open PySem.W
def pk(p:Int×Int):Int:=6*p.1+p.2
def Tp(h:Heap)(v:Value)(p:Int×Int):Prop:=∃t o k u1 u2,v=.ref t/\h.get? t=some o/\o.cls=.type "tuple"/\o.data=.seq #[.int p.1 u1,.int p.2 u2] k
def Tps(h:Heap)(vs:List Value)(ps:List (Int×Int)):Prop:=vs.length=ps.length/\∀i v,vs[i]?=some v->Tp h v (ps.getD i (0,0))
theorem Tp.kp(x:Tp h v p)(k:∀b o,o.cls=.type "tuple"->h.get? b=some o->h'.get? b=some o):Tp h' v p:=by
 obtain⟨t,o,n,u1,u2,e,ho,hc,hd⟩:=x;exact⟨t,o,n,u1,u2,e,k _ _ hc ho,hc,hd⟩
section
variable {prog:Program}{w:World}{A:Around}{E:Value->Shared->Prop}{s:Shared}
theorem wz(hx:Tp s.heap x p)(hy:Tp s.heap y q)(bp:0≤p.2/\p.2<6)(bq:0≤q.2/\q.2<6)(h:C (decide (pk p<pk q)) s) :
  wpAny (model prog w) A (keyLt' (tuples' true) x y) C E s:=by
 obtain⟨t,o,n,u1,u2,rfl,ho,hc,hd⟩:=hx;obtain⟨t',o',n',w1,w2,rfl,ho',hc',hd'⟩:=hy;refine kat_lt ho hd ho' hd' ?_;show KatLex prog w A true (decide (2<2)) C [(.int p.1 u1,.int q.1 w1),(.int p.2 u2,.int q.2 w2)] 0 s;refine kat_cons (wpAny_eqBool_int ?_);refine kat_go (fun e1=>kat_yes (kat_cons (wpAny_eqBool_int ?_))) (fun e1=>kat_no ?_)
 ·have e1:p.1=q.1:=by simpa using e1
  refine kat_go (fun e2=>kat_yes (kat_nil ?_)) (fun e2=>kat_no ?_)
  ·have e2:p.2=q.2:=by simpa using e2
   have:decide (pk p<pk q)=decide (2<2):=by unfold pk;rw[e1,e2];simp
   rw[←this];exact h
  ·refine kat_one _ _ (PyProof.Rows.lt_int ?_);have:decide (pk p<pk q)=decide (p.2<q.2):=by
    rw[decide_eq_decide];unfold pk;omega
   show C (decide (p.2<q.2)) s;rw[←this];exact h
 ·have e1:¬p.1=q.1:=by simpa using e1
  refine oneLt_int ?_;have:decide (pk p<pk q)=decide (p.1<q.1):=by
   rw[decide_eq_decide];unfold pk;omega
  rw[←this];exact h
theorem p9{h:Heap}:∀{vs:List Value} {ps:List (Int×Int)},Tps h vs ps->∃fs,KatTups h vs fs/\fs.length=vs.length/\∀v∈fs,∃i t,v=.int i t
 | [],ps,_=>⟨[],KatTups.nil,rfl,by simp⟩
 | v::vs,[],x=>by have:=x.1;simp at this
 | v::vs,p::ps,x=>by
  obtain⟨fs,t,l,q⟩:=p9 (h:=h) (vs:=vs) (ps:=ps) ⟨by have:=x.1;simpa using this,fun i v e=>by simpa using x.2 (i+1) v (by simpa using e)⟩;obtain⟨t0,o,n,u1,u2,rfl,ho,hc,hd⟩:=x.2 0 v (by simp);refine⟨.int _ u1::fs,KatTups.cons ho hc hd rfl t,by simp[l],?_⟩;intro z hz;rcases J7.mp hz with rfl | hz
  ·exact⟨_,_,rfl⟩
  ·exact q z hz
theorem h8(ho:s.heap.get? a=some (seqObj "list" vs.toArray n))(hT:Tps s.heap vs ps)(nd:ps.Nodup)
  (hb:∀p∈ps,0≤p.2/\p.2<6) (h64:vs.length<64)
  (h:∀q:List Nat,q.Perm (List.range vs.length)->(q.map fun i=>ps.getD i (0,0)).Pairwise (fun x y=>pk x<pk y)->P (.done (.ret .none)) { s with heap:=sortedHeap s.heap a vs (q.map fun i=>vs.getD i Value.none).toArray }) :
  wpAny (model prog w) A (Builtin.«list.sort» ⟨[.ref a],[]⟩) P E s:=by
 rw[list_sort_plain];have hls:vs.length≤sizeLine:=by rw[K3];omega
 refine JP (listItems_at ho rfl (JP ?_));refine(listUpdate_at ho rfl ?_ (by rw[Kb];omega) (Ll _));obtain⟨ea0,oa0⟩:∃ea0,(s.heap.update a (Obj.mapSeq fun _=>#[])).get? a=some (seqObj "list" #[] ea0):=⟨_,get?_update_seq ho (fun _=>#[])⟩;refine JP (seqEpoch_at oa0 rfl ?_);refine JP (wpAny_newTuple ?_ (by show vs.length≤_;omega));refine JP (wpAny_newList ?_ (Ll _));refine LG ?_;have kq0:∀b o,b≠a->s.heap.get? b=some o->(((s.heap.update a (Obj.mapSeq fun _=>#[])).push (seqObj "tuple" vs.toArray 0)).push (seqObj "list" #[] 0)).get? b=some o:=fun b o hne q =>
  JR _ (JR _ (by rw[Heap.get?_update_ne _ _ _ _ hne];exact q))
 have og0:(((s.heap.update a (Obj.mapSeq fun _=>#[])).push (seqObj "tuple" vs.toArray 0)).push (seqObj "list" #[] 0)).get? a=some (seqObj "list" #[] ea0) :=
  JR _ (JR _ oa0)
 have hT6:Tps (((s.heap.update a (Obj.mapSeq fun _=>#[])).push (seqObj "tuple" vs.toArray 0)).push (seqObj "list" #[] 0)) vs ps:=⟨hT.1,fun i v e=>(hT.2 i v e).kp fun b o hcl q=>kq0 b o (fun z=>by
  subst z;rw[ho]at q;cases q;exact absurd hcl (by simp[seqObj])) q⟩
 show wpAny (model prog w) _ _ P _ { s with heap:=((s.heap.update a (Obj.mapSeq fun _=>#[])).push (seqObj "tuple" vs.toArray 0)).push (seqObj "list" #[] 0) };dsimp only;have zq0:vs.toArray.size=vs.length:=by simp
 by_cases hq2:vs.toArray.size<2
 ·rw[Kw hq2,Kw hq2];refine JP (JT ?_);rw[StateT.run_pure];refine JP (JT ?_);dsimp only;refine JP (seqEpoch_at og0 rfl ?_);refine JP (listUpdate_at og0 rfl ?_ (Ll _) (by rw[Array.size_map];show(pairsOf vs).size≤_;rw[pairsOf_size];omega));simp only[bne_self_eq_false,Lh,LX];have hq:=h (List.range vs.length) (L8 _) ?_
  ·have e:(arrOf (SortSt.mk' general' (vs.toArray.zip vs.toArray) #[] 7 none)).map (·.2)=((List.range vs.length).map fun i=>vs.getD i Value.none).toArray:=by
    show(vs.toArray.zip vs.toArray).map (·.2)=_
    match vs,hq2 with
    | [],_=>apply Array.toList_inj.mp;simp
    | [v],_=>apply Array.toList_inj.mp;simp[LL]
    | _::_::_,hq2=>exact absurd hq2 (by simp)
   refine JT ?_;rw[e];exact hq
  ·match vs,hq2 with
   | [],_=>exact List.Pairwise.nil
   | [v],_=>exact List.pairwise_singleton _ _
   | _::_::_,hq2=>exact absurd hq2 (by simp)
 ·rw[Kq hq2,Kq hq2];obtain⟨fs,hfs,hfl,hfi⟩:=p9 hT6;rw[zq0]at hq2;refine JP (kat_kind hfs (by omega) (T:=.type "int") (fun v hv=>?_) rfl ?_)
  ·obtain⟨i,t,rfl⟩:=hfi v hv;exact Looks.of_pure rfl
  ·show wpAny (model prog w) A _ P E _;have hinj:∀i j,i<vs.length->j<vs.length->pk (ps.getD i (0,0))=pk (ps.getD j (0,0))->i=j:=by
    intro i j hi hj e;have hi':i<ps.length:=by rw[←hT.1];exact hi
    have hj':j<ps.length:=by rw[←hT.1];exact hj
    have g1:ps.getD i (0,0)=ps[i]:=by rw[JQ,JO hi'];rfl
    have g2:ps.getD j (0,0)=ps[j]:=by rw[JQ,JO hj'];rfl
    rw[g1,g2]at e;have b1:=hb _ (KC hi');have b2:=hb _ (KC hj');unfold pk at e;have e2:ps[i]=ps[j]:=Prod.ext (by omega) (by omega);exact(List.getElem_inj nd).mp e2
   refine JP (LO (kat_run (ks:=vs) (vs:=vs) (κ:=tuples' true)
    (Q:=fun st' s'=>s'={ s with heap:=((s.heap.update a (Obj.mapSeq fun _=>#[])).push (seqObj "tuple" vs.toArray 0)).push (seqObj "list" #[] 0) }/\∃p:Array Nat,Ok vs.length p/\S (fun i=>pk (ps.getD i (0,0))) p vs.length/\arrOf st'=p.map (kas_item (vs.toArray.zip vs.toArray))/\failedOf st'=none)
    (G:=fun p s'=>s'={ s with heap:=((s.heap.update a (Obj.mapSeq fun _=>#[])).push (seqObj "tuple" vs.toArray 0)).push (seqObj "list" #[] 0) }/\Ok vs.length p/\S (fun i=>pk (ps.getD i (0,0))) p vs.length)
    rfl (by omega) h64 (fun p st' s' a1 a2 a3 a4=>⟨a4.1,p,a4.2.1,a4.2.2,a2,a3⟩) ?run) ?post fun _ _ e=>e)
   case run =>
    refine sorts (n:=vs.length) (K:=fun i=>pk (ps.getD i (0,0))) (fun i j C hi hj hC=>?_) hinj (by omega) fun p ok sS=>⟨rfl,ok,sS⟩;unfold kas_ask;have hi':i<ps.length:=by rw[←hT.1];exact hi
    have hj':j<ps.length:=by rw[←hT.1];exact hj
    refine wz (hT6.2 i _ ?_) (hT6.2 j _ ?_) (hb _ ?_) (hb _ ?_) hC
    ·rw[JQ,JO hi];rfl
    ·rw[JQ,JO hj];rfl
    ·rw[JQ,JO hi'];exact KC hi'
    ·rw[JQ,JO hj'];exact KC hj'
   case post =>
    rintro⟨⟨⟩,st'⟩ s' ⟨rfl,p,ok,sS,har,hf⟩;dsimp only;have hout:=kat_snds (ks:=vs) (vs:=vs) rfl har;have hpz:(List.toArray (p.toList.map fun i=>vs.getD i Value.none)).size=vs.length:=by rw[Kb,JN,KZ,ok.size]
    rw[hout];refine JP (seqEpoch_at og0 rfl ?_);refine JP (listUpdate_at og0 rfl ?_ (Ll _) (by omega));rw[hf];simp only[bne_self_eq_false,Lh,LX];refine JT (h p.toList ok.perm ?_);rw[List.pairwise_map,List.pairwise_iff_getElem];intro i j hi hj hij;have:=sS i j hij (by rw[←ok.size];simpa using hj);unfold key at this;have hi2:i<p.size:=by simpa using hi
    have hj2:j<p.size:=by simpa using hj
    rw[Kf hi2,Kf hj2]at this;simpa using this
theorem km(hl:s.heap.IsList l vs.toArray)(hT:Tps s.heap vs ps)(nd:ps.Nodup)(hb:∀p∈ps,0≤p.2/\p.2<6)(h64:vs.length<64)
  (h:∀q:List Nat,q.Perm (List.range vs.length)->(q.map fun i=>ps.getD i (0,0)).Pairwise (fun x y=>pk x<pk y)->Q (.ref (s.heap.objs.size+1)) { s with heap:=sortedAll s.heap vs (q.map fun i=>vs.getD i Value.none).toArray }) :
  wpAny (model prog w) A (call (.builtin "sorted") [.ref l]) Q E s:=by
 refine Calls.call_function_entry kind_sorted plain_sorted entry_sorted (args_sorted1 _) ?_;unfold Builtin.«sorted»;refine JP (m:=checkCount "sorted" 1 1 _) (JT (JP (collect_list hl (JP (wpAny_newList ?_ (by rw[K3];omega))) (by rw[K3];omega))));have zq0:((s.heap.push (seqObj "list" #[] 0)).update s.heap.objs.size (Obj.mapSeq (·++vs.toArray))).objs.size=s.heap.objs.size+1:=by
  rw[Heap.size_update,size_push']
 have oq0:(((s.heap.push (seqObj "list" #[] 0)).update s.heap.objs.size (Obj.mapSeq (·++vs.toArray))).push (seqObj "list" vs.toArray 0)).get? (s.heap.objs.size+1)=some (seqObj "list" vs.toArray 0):=by
  rw[←zq0];exact JZ _ rfl
 have kq0:∀b o,s.heap.get? b=some o->(((s.heap.push (seqObj "list" #[] 0)).update s.heap.objs.size (Obj.mapSeq (·++vs.toArray))).push (seqObj "list" vs.toArray 0)).get? b=some o:=fun b o q=>by
  have lq0:b<s.heap.objs.size:=J0 q;rw[Heap.get?_push_ne _ _ _ (by rw[zq0];exact Ki (LK lq0)),Heap.get?_update_ne _ _ _ _ (Ki lq0),Heap.get?_push_ne _ _ _ (Ki lq0)];exact q
 show wpAny (model prog w) _ _ _ _ { s with heap:=((s.heap.push (seqObj "list" #[] 0)).update s.heap.objs.size (Obj.mapSeq (·++vs.toArray))).push (seqObj "list" vs.toArray 0) };rw[zq0];refine JP (LG (KW slot_list_sort ⟨_,oq0,rfl⟩ entry_list_sort (h8 (ps:=ps) oq0 ⟨hT.1,fun i v e=>(hT.2 i v e).kp fun b o _ q=>kq0 b o q⟩ nd hb h64 fun q a1 a2=>⟨_,rfl,?_⟩) (args_list_sort _)));exact JT ⟨_,rfl,h q a1 a2⟩
end
end ST
namespace L2
variable {X:Cx}
def uR(K:LFr):List V->Hp->VK->Prop:=fun xs H Q=>∃(a:Addr) (us:List V) (ps:List (Int×Int)),xs=[.ref a]/\SqL K H a us/\Prs K H us ps/\ps.Nodup/\(∀p∈ps,0≤p.2/\p.2<6)/\ps.length<64 /\
 ∀(r:Addr) (q:List Nat),H r=none->q.Perm (List.range ps.length)->(q.map fun i=>ps.getD i (0,0)).Pairwise (fun x y=>ST.pk x<ST.pk y)->Q (.ref r) (upd H r (.lst (q.map fun i=>us.getD i .non)))
theorem jV{us:List V}{vs:List Value}(r:Vals us vs):∀(q:List Nat),(∀i∈q,i<us.length)->Vals (q.map fun i=>us.getD i .non) (q.map fun i=>vs.getD i Value.none)
 | [],_=>.nil
 | i::q,h=>by
  have hi:=h i J6;obtain⟨u,eu,ru⟩:=r.get (JO hi);refine .cons ?_ (jV r q fun j hj=>h j (J8 _ hj));dsimp only;rw[JQ,JO hi,JQ,eu];exact ru
theorem dH:cj X (.builtin "sorted") (uR X.K):=by
 intro pins s σ H xs us Q I r h;obtain⟨a,ws,ps,rfl,hq,hP,nd,hb,h64,q⟩:=h;obtain⟨u,rfl,ru⟩:=Vals.one r;cases ru;obtain⟨its,rv,p,hz⟩:=I.list hq;have hlen:its.length=ps.length:=rv.length.symm.trans (ky hP);refine ST.km (ps:=ps) p.isList ⟨hlen,fun i v hv=>?_⟩ nd hb (by omega) fun qs h1 h2=>?_
 ·have hi:i<ws.length:=by rw[rv.length];exact(JS.mp hv).1
  obtain⟨pr,t,e1,e2,hs⟩:=kQ (i:=i) hP (JO hi);obtain⟨u,eu,ru⟩:=rv.get (JO hi);rw[hv]at eu;cases eu;rw[e2]at ru;cases ru;obtain⟨is,r2,⟨o,ho,hcl,n,hd⟩,_⟩:=I.tuple hs;obtain⟨x,y,rfl,rx,ry⟩:=vals2 r2;obtain⟨t1,rfl⟩:=rx;obtain⟨t2,rfl⟩:=ry;refine⟨t,o,n,t1,t2,rfl,ho,hcl,?_⟩;rw[JQ,e1];exact hd
 ·have hn:H (s.heap.objs.size+1)=none:=I.hok.fresh (Nat.le_succ _);obtain⟨e,he⟩:=sortedAll_at s.heap its (qs.map fun i=>its.getD i Value.none).toArray;rw[hlen]at h1;have hin:∀i∈qs,i<ws.length:=fun i hi=>by
   have:=KI.mp (h1.mem_iff.mp hi);rw[ky hP];exact this
  have hv:=jV rv qs hin;have hz2:(qs.map fun i=>ws.getD i V.non).length≤sizeLine:=by rw[JN,h1.length_eq,Kh,K3];omega
  refine⟨.ref (s.heap.objs.size+1),_,I.laid (t':=s.toks) (o:=.lst (qs.map fun i=>ws.getD i V.non)) (fun b o e=>sortedAll_old e) (Nat.le_succ _) ?_,rfl,q _ qs hn h1 h2⟩;exact⟨hz2,_,e,hv,he⟩
end L2
namespace U
open L2
section
variable {B:Bs}{X:Cx}{a b:Expr}{ta tb:TE'}{pos:Pos}
def vK:List PV->PHp->VK'->Prop:=cG fun x H Q=>match x with
 | .ref a=>∃ps:List (Int×Int),H a=some (.lst (ps.map prV))/\ps.Nodup/\(∀p∈ps,0≤p.2/\p.2<6)/\ps.length<64/\∀(r:Addr) (qs:List (Int×Int)),H r=none->qs.Perm ps->qs.Pairwise (fun x y=>ST.pk x<ST.pk y)->Q (.ref r) (put H r (.lst (qs.map prV)))
 | _=>False
theorem lq{K:LFr}{H:Hp}{ps:List (Int×Int)}{us:List V}(r:RPs K H (ps.map prV) us):∀(q:List Nat),(∀i∈q,i<ps.length)->RPs K H ((q.map fun i=>ps.getD i (0,0)).map prV) (q.map fun i=>us.getD i V.non)
 | [],_=>RPs.nil _
 | i::q,h=>by
  have hi:=h i J6;obtain⟨u,eu,ru⟩:=RPs.get _ (i:=i) (x:=prV ps[i]) r (by rw[JV,JO hi];rfl);refine RPs.cons _ ?_ (lq r q fun j hj=>h j (J8 _ hj));dsimp only;rw[JQ,JO hi,JQ,eu];exact ru
theorem gJ{α:Type}(l:List α)(d:α){q:List Nat}(h:q.Perm (List.range l.length)):(q.map fun i=>l.getD i d).Perm l:=by
 refine(h.map _).trans ?_;have:(List.range l.length).map (fun i=>l.getD i d)=l:=by
  apply List.ext_getElem
  ·simp
  ·intro i h1 h2;simp[JQ,JO h2]
 rw[this]
theorem fK{K:LFr}:VC K B vK (uR K):=by
 intro σ' σ H' H xs' xs Q' Q s r h k;obtain⟨x',x,rfl,rfl,rx,h⟩:=cG.ex h r;cases x' with
 | ref a =>
  obtain⟨ps,ea,nd,hb,h64,q⟩:=h;simp only[RP]at rx;subst rx;obtain⟨us,e,r2⟩:=s.hp _ _ ea;refine⟨a,us,ps,rfl,.inl (.inl e),n6 r2,nd,hb,h64,fun r qs hr h1 h2=>?_⟩;have hin:∀i∈qs,i<ps.length:=fun i hi=>KI.mp (h1.mem_iff.mp hi);exact k _ _ _ _ (q r _ (s.hp.free hr) (gJ ps (0,0) h1) h2) (by simp[RP]) (s.new hr (nE hr (lq r2 qs hin))) (Ev.new hr)
 | _=>exact h.elim
def vy:PV->List PV->PHp->VK'->Prop:=fun x vs H Q=>match x,vs with
 | .ref a,[]=>∃l,H a=some (.lst l)/\Q .non (put H a (.lst l.reverse))
 | _,_=>False
def Ak:PV->List PV->PHp->VK'->Prop:=fun x vs H Q=>match x,vs with
 | .ref a,[]=>∃l,H a=some (.lst l)/\Q .non (put H a (.lst []))
 | _,_=>False
def yJ:PV->List PV->PHp->VK'->Prop:=fun x vs H Q=>match x,vs with
 | .ref a,[.int i,y]=>∃l,H a=some (.lst l)/\0≤i/\i.toNat≤l.length/\l.length<1000/\Q .non (put H a (.lst (l.take i.toNat++y::l.drop i.toNat)))
 | _,_=>False
theorem IW{a:Addr}:vy (.ref a) [] H Q=∃l,H a=some (.lst l)/\Q .non (put H a (.lst l.reverse)):=rfl
theorem Ik{a:Addr}:Ak (.ref a) [] H Q=∃l,H a=some (.lst l)/\Q .non (put H a (.lst [])):=rfl
theorem Ha{a:Addr}:yJ (.ref a) [.int i,y] H Q=∃l,H a=some (.lst l)/\0≤i/\i.toNat≤l.length/\l.length<1000/\Q .non (put H a (.lst (l.take i.toNat++y::l.drop i.toNat))):=rfl
end
section
theorem dq{B:Bs}{X:Cx}{x:Str}{v':PV}{v:V}{pos:Pos}(hg:Gl X x)(h:∃u,X.mg x=some u/\RelV v u)(r':∀H,RP X.K H v' v)(hd:(x==("__debug__":Str))=false:=by decide):PE' X B (.Name x pos) (uC v'):=by
 obtain⟨u,hm,r⟩:=h;exact xc hg hm r r' hd
theorem aA(f:PV->PV)(pz:PV->Bool)(Iv:St'->Prop)(hlen:xs.length≤1000)(hok:∀l,ok (put H1 acc (.lst l)))
  (hs:∀x∈xs,∀(l:List PV) (σ:St') (R:St'->PHp->Prop),Iv σ->l.length<sizeLine->(pz x=true->∀σ3,Iv σ3->R σ3 (put H1 acc (.lst (l++[f x]))))->(pz x=false->∀σ3,Iv σ3->R σ3 (put H1 acc (.lst l))) ->
   g x σ (put H1 acc (.lst l)) fun σ3 H2=>tt σ3 H2 fun b H3=>cif b (te σ3 H3 fun y H4=>∃l',H4 acc=some (.lst l')/\l'.length<sizeLine/\R σ3 (put H4 acc (.lst (l'++[y])))) (R σ3 H3))
  (hq:Q (.ref acc) (put H1 acc (.lst ((xs.filter pz).map f)))) {σ:St'} (h0:Iv σ):dD ok g tt te acc Q xs σ (put H1 acc (.lst [])):=by
 have key:∀(r d:List PV) (σ:St'),xs=d++r->Iv σ->dD ok g tt te acc Q r σ (put H1 acc (.lst ((d.filter pz).map f))):=by
  intro r
  induction r with
  | nil =>
   intro d σ e hv;have:d=xs:=by rw[e,K4]
   subst this;exact⟨hok _,hq⟩
  | cons x r ih =>
   intro d σ e hv;have hd:((d.filter pz).map f).length<sizeLine:=by
    have h1:d.length+(r.length+1)=xs.length:=by rw[e,J2,Kt]
    have h2:=List.length_filter_le pz d;have:=aO (n:=1000) (by decide);rw[JN];omega
   refine⟨hok _,hs x (by rw[e];simp) _ σ _ hv hd (fun hp σ3 h3=>?_) (fun hp σ3 h3=>?_)⟩
   ·have:=ih (d++[x]) σ3 (by rw[e];simp) h3;rw[List.filter_append,J9]at this;simpa[hp]using this
   ·have:=ih (d++[x]) σ3 (by rw[e];simp) h3;rw[List.filter_append,J9]at this;simpa[hp]using this
 exact key xs [] σ rfl h0
end
section
theorem Jm:zh C f (.ref a) H Q=∃dx fs v,H a=some (.ins C dx fs)/\fs.lookup f=some v/\Q v H:=rfl
theorem HH:zU C f (.ref a) y H Q=∃dx fs,H a=some (.ins C dx fs)/\fs.length<1000/\Q (put H a (.ins C dx (fV f y fs))):=rfl
theorem Gp:isIn C m (.ref a) H=∃dx fs,H a=some (.ins C dx fs)/\fs.lookup m=none:=rfl
theorem Hu:ET [.ref a] H Q=∃bs:List Bool,H a=some (.lst (bs.map PV.bl))/\Q (.bl (bs.all id)) H:=rfl
theorem Ia:tJ (.ref a) H Q=∃ps:List (Int×Int),H a=some (.lst (ps.map prV))/\ps.Nodup/\(∀p∈ps,p∈SP.prs)/\ps.length≤15/\Q (.int ps.length) H:=rfl
theorem JI:vK [.ref a] H Q=∃ps:List (Int×Int),H a=some (.lst (ps.map prV))/\ps.Nodup/\(∀p∈ps,0≤p.2/\p.2<6)/\ps.length<64/\∀(r:Addr) (qs:List (Int×Int)),H r=none->qs.Perm ps->qs.Pairwise (fun x y=>ST.pk x<ST.pk y)->Q (.ref r) (put H r (.lst (qs.map prV))):=rfl
end
end U
namespace SI
def tb(led:Bool)(L:List Nat):SetTable:={ mask:=if L.length≤4 then 7 else 31,place:=L.toArray,dummies:=#[],finger:=0,led:=led,moves:=if L.length≤4 then 0 else 1,plain:=true }
def pos(L:List Nat)(x:Nat):Nat:=(L.filter (·<x)).length
def ins(L:List Nat)(x:Nat):List Nat:=L.take (pos L x)++x::L.drop (pos L x)
def tp(led:Bool)(L:List Nat)(x:Nat):SetTable:={ tb led L with place:=(ins L x).toArray }
def ent(i:Nat)(tk:Tok):Int×Value:=((i:Int),.int (i:Int) tk)
section
variable {prog:Program}{w:World}{A:Around}{E:Value->Shared->Prop}{s:Shared}
end
end SI
namespace SI
theorem iE{α:Type}:∀(l:List α) (i:Nat) (h:i<l.length),(l[i]::l.eraseIdx i).Perm l
 | x::l,0,_=>L8 _
 | x::l,i+1,h=>by
  have ih:=iE l i (by simpa using h);have h':i<l.length:=by simpa using h
  show(l[i]::x::l.eraseIdx i).Perm (x::l);exact(List.Perm.swap _ _ _).trans (ih.cons x)
theorem gJ{α:Type}(next:Nat->Nat):∀(f k:Nat) (l:List α) (out:Array α),f=l.length->(pickOrder.go next f k l out).toList.Perm (out.toList++l)
 | 0,k,l,out,h=>by
  have:l=[]:=List.length_eq_zero_iff.mp h.symm;subst this;show out.toList.Perm _;rw[K4]
 | f+1,k,l,out,h=>by
  have hlt:next k % l.length<l.length:=Nat.mod_lt _ (by omega)
  unfold pickOrder.go;rw[JO hlt];dsimp only;refine(gJ next f (k+1) _ _ (by rw[List.length_eraseIdx_of_lt hlt];omega)).trans ?_;rw[Array.toList_push,List.append_assoc];refine List.Perm.append_left _ ?_;exact iE l _ hlt
def walk(w:World)(S:Addr)(es:Array (Int×Value))(ep:Nat):Array (Int×Value):=if w.params.followText "set-order"=true then pickOrder (w.params.setOrder S ep) es else es
section
variable {prog:Program}{w:World}{A:Around}{E:Value->Shared->Prop}{s:Shared}
end
end SI
namespace SI
section
variable {prog:Program}{w:World}{A:Around}{E:Value->Shared->Prop}{s:Shared}
end
end SI
namespace L2
variable {X:Cx}
end L2
namespace U
open L2
variable {B:Bs}{X:Cx}{e:Expr}{ta:TE'}{p p2 pos pos2:Pos}
end U
namespace L2
variable {X:Cx}{tg:Expr}
end L2
namespace U
open L2
section
variable {B:Bs}{X:Cx}{a b c:Expr}{pos:Pos}
end
section
variable {B:Bs}{X:Cx}{a b:Expr}{ta tb:TE'}{pos:Pos}
def sX:R2':=fun x y H Q=>match x,y with
 | .ref a,.ref b=>∃l m,H a=some (.lst l)/\H b=some (.lst m)/\l.length+m.length≤sizeLine/\∀p,H p=none->Q (.ref p) (put H p (.lst (l++m)))
 | _,_=>False
theorem JB{a b:Addr}:sX (.ref a) (.ref b) H Q=∃l m,H a=some (.lst l)/\H b=some (.lst m)/\l.length+m.length≤sizeLine/\∀p,H p=none->Q (.ref p) (put H p (.lst (l++m))):=rfl
theorem BK{K:LFr}:VR K B sX DL:=by
 intro σ' σ H' H x' y' x y Q' Q s rx ry h k;unfold sX at h;split at h
 ·rename_i a b;obtain⟨l,m,e1,e2,hl,h⟩:=h;simp only[RP]at rx ry;subst rx;subst ry;obtain⟨us,q1,r1⟩:=s.hp _ _ e1;obtain⟨ws,q2,r2⟩:=s.hp _ _ e2;refine⟨a,b,us,ws,rfl,rfl,q1,q2,by rw[RPs.length _ r1,RPs.length _ r2];exact hl,fun p hp=>?_⟩;exact k _ _ _ _ (h p (s.hp.free hp)) (by simp[RP]) (s.new hp (nE hp (RPs.append _ r1 r2))) (Ev.new hp)
 ·exact h.elim
theorem um(ha:PE' X B a ta)(hb:PE' X B b tb):PE' X B (.BinOp a .Add b pos) (uOp sX ta tb):=hE A9 BK ha hb
end
end U
namespace L2
variable {X:Cx}
theorem pre_take(ns:List Int):∀i,i≤ns.length->preSum (fun j=>ns.getD j 0) i=(ns.take i).sum
 | 0,_=>by simp[preSum]
 | i+1,h=>by
  have hi:i<ns.length:=by omega
  rw[preSum,pre_take ns i (by omega),List.take_succ,JO hi,List.sum_append];simp[JQ,JO hi]
theorem cx(hc:X.calm=true):cj X (.builtin "sum") (fun xs H Q=>∃(a:Addr) (ns:List Int),xs=[.ref a]/\SqL X.K H a (ns.map V.int)/\Q (.int ns.sum) H):=by
 intro pins s σ H xs us Q I r h;obtain⟨a,ns,rfl,hq,q⟩:=h;obtain⟨u,rfl,ru⟩:=Vals.one r;cases ru;obtain⟨its,rv,p,hz⟩:=I.list hq;have hl:s.heap.IsList a its.toArray:=p.isList;have llt:a<s.heap.objs.size:=by obtain⟨o,e,_⟩:=hl;exact J0 e
 have hne:a≠s.heap.objs.size:=Ki llt;have hlen:its.length=ns.length:=by have:=Paired.length rv;rw[JN]at this;exact this.symm
 refine call_sum_walkAnyS (wpAny_pyIter_list hl ?_);refine⟨s.heap.objs.size,[s.heap.objs.size,a],[s.heap.objs.size],_,its.toArray.size,_,_,fun i=>ns.getD i 0,rfl,(Walks.list (by simpa using I.ok.hd hc) _ a hne _).toS,⟨⟨_,JZ _ rfl,rfl,rfl⟩,hl.at fun o e=>JR _ e⟩,fun b hb=>?_,fun i v hv=>?_,fun s' t' hm=>?_⟩
 ·rw[K9];simp only[J7,KY,L7]at hb;rcases hb with e | e
  ·rw[e];exact Nat.lt_succ_self _
  ·rw[e];exact LK llt
 ·have hv':its[i]?=some v:=by simpa using hv
  have hi:i<ns.length:=by rw[←hlen];exact(JS.mp hv').1
  obtain⟨u,eu,ru⟩:=rv.get (JO (by rw[JN];exact hi));rw[hv']at eu;cases eu;rw[Li]at ru;obtain⟨tk,rfl⟩:=ru;refine⟨tk,?_⟩;show _=Value.int (ns.getD i 0) tk;rw[JQ,JO hi];rfl
 ·have e:preSum (fun i=>ns.getD i 0) its.toArray.size=ns.sum:=by
   rw[Kb,hlen,pre_take ns ns.length (JW _),Ke]
  rw[e,Moved.eq_with hm];refine⟨.int ns.sum,H,I.kept (t':=s'.toks) fun b o e=>?_,⟨_,rfl⟩,q⟩;exact hm.heap b o (by simpa using Ki (J0 e)) (JR _ e)
end L2
namespace U
open L2
variable {B:Bs}{X:Cx}{a b:Expr}{ta tb:TE'}{pos:Pos}
def CJ:List PV->PHp->VK'->Prop:=cG fun x H Q=>match x with
 | .ref a=>∃ns:List Int,H a=some (.lst (ns.map PV.int))/\Q (.int ns.sum) H
 | _=>False
theorem Hh{a:Addr}:CJ [.ref a] H Q=∃ns:List Int,H a=some (.lst (ns.map PV.int))/\Q (.int ns.sum) H:=rfl
theorem eH{K:LFr}:VC K B CJ (fun xs H Q=>∃(a:Addr) (ns:List Int),xs=[.ref a]/\SqL K H a (ns.map V.int)/\Q (.int ns.sum) H):=by
 intro σ' σ H' H xs' xs Q' Q s r h k;obtain⟨x',x,rfl,rfl,rx,h⟩:=cG.ex h r;cases x' with
 | ref a =>
  obtain⟨ns,ea,q⟩:=h;simp only[RP]at rx;subst rx;obtain⟨us,e,r2⟩:=s.hp _ _ ea;rw[jt r2]at e;exact⟨a,ns,rfl,.inl (.inl e),k _ _ _ _ q (by simp[RP]) s (Ev.refl _ _)⟩
 | _=>exact h.elim
def Av:List PV->PHp->VK'->Prop:=fun xs H Q=>match xs with
 | [.int i,.int j]=>Q (.int (if j<i then j else i)) H
 | _=>False
theorem Hv:Av [.int i,.int j] H Q=Q (.int (if j<i then j else i)) H:=rfl
theorem Cb{K:LFr}:VC K B Av (fun xs H Q=>∃i j,xs=[.int i,.int j]/\Q (.int (if j<i then j else i)) H):=by
 intro σ' σ H' H xs' xs Q' Q s r h k;unfold Av at h;split at h
 ·rename_i i j;simp only[RPs,RP]at r;obtain⟨_,_,rfl,rfl,_,_,rfl,rfl,rfl⟩:=r;exact⟨i,j,rfl,k _ _ _ _ h (by simp[RP]) s (Ev.refl _ _)⟩
 ·exact h.elim
end U
namespace EN
section
variable {prog:Program}{w:World}{A:Around}{E:Value->Shared->Prop}{s:Shared}
theorem m7(hi:s.heap.IsTupleIter it a j)(ht:s.heap.IsTuple a its)(hx:its[j]?=some x)
  (q:∀h1,h1.IsTupleIter it a (j+1)->Heap.SameBut it s.heap h1->Q x { s with heap:=h1 }):wpAny (model prog w) A (Builtin.SmallTypes.nextOf (.ref it)) Q E s:=by
 obtain⟨u,hu,k1,k2⟩:=id hi;obtain⟨v,hv,_,m,k3⟩:=ht;unfold Builtin.SmallTypes.nextOf;refine JP (KU (name:=Str.ofString "__next__") hi.typeIs F.slot_tuple_iterator_next (KW F.slot_tuple_iterator_next hi.typeIs F.entry_tuple_iterator_next ?_ (F.args_tuple_iterator_next_1 _)));show wpAny _ _ (field (Value.ref it) 0 >>= _) _ _ s;refine JP (Lp hu k2 (x:=.ref a) rfl ?_);show wpAny _ _ (if (Value.ref a==Value.none)=true then _ else _) _ _ s;rw[Kq (show ¬(Value.ref a==Value.none)=true from L1)];show wpAny _ _ (field (Value.ref it) 1 >>= _) _ _ s;refine JP (Lp hu k2 (x:=.int j 0) rfl ?_);show wpAny _ _ (seqItems? (Value.ref a) >>= _) _ _ s;refine JP (LP hv k3 ?_);simp only[Kk,hx];refine JP (wpAny_setField hu k2 (by simp) (JT ⟨x,rfl,JT (q _ ?_ (K0 ..))⟩));refine⟨_,La _ hu (Obj.isFreed_of_fields (L5 k2 _)),(Obj.cls_mapFields ..).trans k1,?_⟩;rw[L5 k2];simp[rawInt]
theorem zx(hA:A.handled=none)(hi:s.heap.IsTupleIter it a j)(ht:s.heap.IsTuple a its)(hx:its[j]?=none)
  (q:∀h1 e,Heap.ExtBut it s.heap h1->(∃o,h1.get? e=some o/\o.cls=.type "StopIteration")->E (.ref e) { s with heap:=h1 }):wpAny (model prog w) A (Builtin.SmallTypes.nextOf (.ref it)) Q E s:=by
 obtain⟨u,hu,k1,k2⟩:=id hi;obtain⟨v,hv,_,m,k3⟩:=ht;unfold Builtin.SmallTypes.nextOf;refine JP (KU (name:=Str.ofString "__next__") hi.typeIs F.slot_tuple_iterator_next (KW F.slot_tuple_iterator_next hi.typeIs F.entry_tuple_iterator_next ?_ (F.args_tuple_iterator_next_1 _)));show wpAny _ _ (field (Value.ref it) 0 >>= _) _ _ s;refine JP (Lp hu k2 (x:=.ref a) rfl ?_);show wpAny _ _ (if (Value.ref a==Value.none)=true then _ else _) _ _ s;rw[Kq (show ¬(Value.ref a==Value.none)=true from L1)];show wpAny _ _ (field (Value.ref it) 1 >>= _) _ _ s;refine JP (Lp hu k2 (x:=.int j 0) rfl ?_);show wpAny _ _ (seqItems? (Value.ref a) >>= _) _ _ s;refine JP (LP hv k3 ?_);simp only[Kk,hx];refine JP (wpAny_rule (JP (wpAny_setField hu k2 (by simp) ?_)));show wpAny _ _ (newExc (Value.type "StopIteration") [] >>= _) _ _ _;refine JP (?_);simp only[newTuple,newExc];refine JP (KO (?_) (by size_fits));refine JP (m:=firstArgMember _ _) (wpAny_of_eq (a:=Value.none) (by first | rfl |(simp only[firstArgMember];rfl)) (?_));refine KO (?_) (by size_fits);simp only[raiseNew,bind_assoc];refine JP (wpAny_handled (?_))
 first | rw[show A.in1.handled=none from hA] | rw[hA]
 refine JP (JT (wpAny_throw (?_)));exact q _ _ (((K0 ..).extBut.push _).push _) ⟨_,JZ _ rfl,rfl⟩
end
theorem qm(hA:A.handled=none)(it a:Addr)(ne:a≠it)(its:Array Value) :
  Draws prog w A it [it,a] its.size (fun i v=>its[i]?=some v) (fun i h=>h.IsTupleIter it a i/\h.IsTuple a its) where
 live:=fun _ _ st=>let ⟨o,ho,_⟩:=st.1;⟨o,ho⟩
 frame:=fun _ _ _ st hk=>⟨st.1.at fun o e=>hk it (by simp) o e,st.2.at fun o e=>hk a (by simp) o e⟩
 item:=fun i s Q E hi st q=>m7 st.1 st.2 (x:=its[i]) (by simp[hi]) fun h1 t1 b1=>q _ h1 s.toks (by simp[hi]) ⟨t1,st.2.extBut b1.extBut ne⟩ b1
 done:=fun s Q E st q=>zx hA st.1 st.2 (by simp) q
theorem yC(a:Addr)(its:Array Value) :
  Meets (Builtin.«enumerate.__new__» ⟨[.type "enumerate",.ref a],[]⟩) (fun _ R s=>s.heap.IsTuple a its /\
   R (.ok (.ret (.ref (s.heap.push { cls:=.type "tuple_iterator",data:=.fields #[.ref a,.int 0 0] }).objs.size)))
    { s with heap:=(s.heap.push { cls:=.type "tuple_iterator",data:=.fields #[.ref a,.int 0 0] }).push { cls:=.type "enumerate",data:=.fields #[.none,.bool false,.ref s.heap.objs.size,rawInt 0,.none,.none] } }) :=
 .of_wp fun prog w A R s h=>by
  obtain⟨hp,g,d,tk,os⟩:=s;obtain⟨ht,h⟩:=h;have hsub:=sub_enumerate;obtain⟨o,ho,hc,n,hd⟩:=id ht
  wp_walk using AutoSeq1.wpAny_loadPart' ho
  refine wpAny_stack_any fun st=>JT ?_;split
  ·rename_i c _ _ _ _ _;cases (c==Value.type "enumerate") <;>
    (wp_walk using AutoSeq1.wpAny_loadPart' ho,wpAny_pyIter_tuple ht
     exact ⟨_,rfl,h⟩)
  ·wp_walk using AutoSeq1.wpAny_loadPart' ho,wpAny_pyIter_tuple ht
   exact⟨_,rfl,h⟩
theorem CK{s:Shared}(ht:s.heap.IsTuple a its)
  (h:∀h1,IsEnum h1 (s.heap.objs.size+1) s.heap.objs.size 0 .none->h1.IsTupleIter s.heap.objs.size a 0->(∀b o,s.heap.get? b=some o->h1.get? b=some o)->Q (.ref (s.heap.objs.size+1)) { s with heap:=h1 }) :
  wpAny (model prog w) A (call (.type "enumerate") [.ref a]) Q E s:=by
 refine callType_new F.called_enumerate (by decide) (F.typeCall_enumerate_1 _) (F.newCall_enumerate_1 _) (fun obj=>F.args_object_init_2 obj _) F.entry_enumerate_new (yC a its) ⟨ht,?_⟩;have hz:(s.heap.push { cls:=.type "tuple_iterator",data:=.fields #[.ref a,.int 0 0] }).objs.size=s.heap.objs.size+1:=K9 ..;show _/\_;rw[hz];have he:IsEnum ((s.heap.push { cls:=.type "tuple_iterator",data:=.fields #[.ref a,.int 0 0] }).push { cls:=.type "enumerate",data:=.fields #[.none,.bool false,.ref s.heap.objs.size,rawInt 0,.none,.none] }) (s.heap.objs.size+1) s.heap.objs.size 0 .none:=by
  have q:=JZ (s.heap.push { cls:=.type "tuple_iterator",data:=.fields #[.ref a,.int 0 0] }) (o:={ cls:=.type "enumerate",data:=.fields #[.none,.bool false,.ref s.heap.objs.size,rawInt 0,.none,.none] }) rfl;rw[hz]at q;exact q
 exact⟨⟨_,he,rfl⟩,h _ he ⟨_,JR _ (JZ _ rfl),rfl,rfl⟩ fun b o x=>JR _ (JR _ x)⟩
end EN
namespace L2
def Ite(K:LFr)(a:Addr):It :=
 ⟨fun i H=>∃xs x,SqT K H a xs/\xs[i]?=some x,fun i H x H'=>∃T y,H T=none/\x=.ref T/\H'=upd H T (.tup [.int (i:Nat),y])/\∀xs,SqT K H a xs->xs[i]?=some y,fun i H=>∃xs,SqT K H a xs/\xs.length=i⟩
theorem dY{h:Heap}(ha:h.get? a=some o)(hb:h.get? b=some u)(ca:o.cls=.type n)(cb:u.cls=.type m)(ne:(Value.type n:Value)≠.type m):a≠b:=by
 rintro rfl;rw[ha]at hb;cases hb;exact ne (ca.symm.trans cb)
theorem wu{K:LFr}(a it e:Addr):Turn P w K (.Tuple elts k1 tpos) (Ite K a) [e,it] e (fun i h=>(∃old,IsEnum h e it (i:Nat) old)/\h.IsTupleIter it a i) where
 mem:=by simp
 obj:=fun i h st b hb=>by
  obtain⟨⟨old,he⟩,o,ho,hc,hd⟩:=st;rcases J7.mp hb with rfl | hb
  ·exact⟨_,he,fun v z=>by
    have z':Data.fields _=Data.cell v:=z;cases z'⟩
  ·rw[Ka.mp hb];exact⟨o,ho,fun v z=>by rw[hd]at z;cases z⟩
 keep:=fun i h h' st k=>by
  obtain⟨⟨old,he⟩,hi⟩:=st;exact⟨⟨old,k e (by simp) _ he⟩,hi.at fun o x=>k it (by simp) o x⟩
 item:=by
  intro X hP hw hK hc i pins s σ H E I hf st hg;subst hP hw hK;obtain⟨xs,x,hq,hx⟩:=hg;obtain⟨its,rv,p,hz⟩:=I.tuple hq;obtain⟨u,hu,ru⟩:=rv.get hx;obtain⟨⟨old,he⟩,hi⟩:=st;have p':s.heap.IsTuple a its.toArray:=p;obtain⟨oa,ha,ca,_⟩:=id p';obtain⟨oi,hoi,ci,_⟩:=id hi;have nai:a≠it:=dY ha hoi ca ci (by decide);have nei:e≠it:=dY he hoi rfl ci (by decide);have nea:e≠a:=dY he ha rfl ca (by decide);have hlt:i<its.toArray.size:=by
   have:=(JS.mp hu).1;simpa using this
  refine wpAny_pyNext_enum_itemD (EN.qm (A:=X.A.in1) (I.ok.hd hc) it a nai its.toArray) he ⟨hi,p'⟩ hlt nei (by simp[nei,nea]) fun y h1 tk hy ho hs1 hT hsz hk=>?_;have ey:y=u:=by
   have:its.toArray[i]?=some u:=by simpa using hu
   rw[this]at hy;exact(Ks hy).symm
  subst ey;refine⟨_,rfl,wpAny_letOwnedTupleGo_enum (s:={ s with heap:=h1,toks:=tk+1 }) ho fun h2 he2 sb=>?_⟩;have sb2:Heap.SameBut e h1 h2:=sb;have hlte:e<s.heap.objs.size:=J0 he;have hT2:h2.get? s.heap.objs.size=some { cls:=.type "tuple",data:=.seq #[.int i tk,y] }:=(sb2.2 _ (Lx hlte)).trans hT;have kk:∀b o,b≠e->b≠it->s.heap.get? b=some o->h2.get? b=some o:=fun b o n1 n2 q=>(sb2.2 b n1).trans (hk b o n1 n2 q);have hn:H s.heap.objs.size=none:=I.hok.fresh (JW _);have fe:=hf e (by simp);have fi:=hf it (by simp);have nit:∀b v,H b=some v->b≠e/\b≠it:=fun b v q=>⟨fun z=>(by rw[z,fe.1]at q;cases q),fun z=>(by rw[z,fi.1]at q;cases q)⟩;refine⟨.ref s.heap.objs.size,upd H s.heap.objs.size (.tup [.int (i:Nat),x]),?_,rfl,⟨_,x,hn,rfl,rfl,fun ys hy'=>by rw[I.tuple_inj hy' hq];exact hx⟩,⟨⟨y,by simpa using he2⟩,?_⟩,fun b hb=>?_⟩
  ·show Inv X pins σ _ { s with heap:=h2,toks:=tk+1 };refine I.step (h':=h2) (g':=s.gens) (d':=s.drawn) (t':=tk+1) (ch:=[e,it]) (fun b hb=>?_) (fun b o _ _ hc q _=>kk b o (fun z=>hc (by simp[z])) (fun z=>hc (by simp[z])) q) (fun b o _ _ hc q _=>⟨o.slots,kk b o (fun z=>hc (by simp[z])) (fun z=>hc (by simp[z])) q⟩)
    (fun b o _ q n=>by rw[aC (Ki (J0 q))];exact n) (fun b o hc q=>⟨o,kk b o (fun z=>hc (by simp[z])) (fun z=>hc (by simp[z])) q⟩) (fun b ys q=>by rw[aC (aD q hn)];exact q) (fun b o v q=>by rw[aC (aD q hn)];exact q)
    (fun b ps q=>⟨#[],by rw[aC (aD q hn),q];simp⟩) (fun m hm=>?_) (fun b v q=>?_) I.bare
   ·rcases J7.mp hb with rfl | hb
    ·exact⟨fe.2.2.2.1,fe.2.1,fe.2.2.2.2.1,fe.2.2.2.2.2⟩
    ·rw[Ka.mp hb];exact⟨fi.2.2.2.1,fi.2.1,fi.2.2.2.2.1,fi.2.2.2.2.2⟩
   ·obtain⟨o,es,ep,q,r⟩:=hm;exact⟨o,es,ep,kk _ o (Ne.symm fe.2.1) (Ne.symm fi.2.1) q,r⟩
   ·by_cases hb:b=s.heap.objs.size
    ·subst hb;rw[aT]at q;cases q;exact⟨by show 2≤sizeLine;rw[K3];omega,[.int i tk,y],.cons ⟨tk,rfl⟩ (.cons ru .nil),⟨_,hT2,rfl,_,rfl⟩⟩
    ·rw[aC hb]at q;refine(I.hok b v q).stay (fun c z hc q2=>?_) (fun c q2=>by rw[aC (aD q2 hn)];exact q2) fun c ys q2=>by rw[aC (aD q2 hn)];exact q2
     have nn:c≠e/\c≠it:=by
      rcases hc with z | z
      ·rw[z];exact nit b v q
      ·exact nit c _ z
     exact kk c z nn.1 nn.2 q2
  ·obtain⟨o,q,r⟩:=hs1.1;exact⟨o,(sb2.2 _ (Ne.symm nei)).trans q,r⟩
  ·have hb2:b<s.heap.objs.size:=by
    rcases J7.mp hb with rfl | hb
    ·exact hlte
    ·rw[Ka.mp hb];exact J0 hoi
   rw[aC (Ki hb2)];exact(hf b hb).1
 done:=by
  intro X hP hw hK hc i pins s σ H E I hf st hg;subst hP hw hK;obtain⟨xs,hq,rfl⟩:=hg;obtain⟨its,rv,p,hz⟩:=I.tuple hq;obtain⟨⟨old,he⟩,hi⟩:=st;have p':s.heap.IsTuple a its.toArray:=p;obtain⟨oa,ha,ca,_⟩:=id p';obtain⟨oi,hoi,ci,_⟩:=id hi;have nai:a≠it:=dY ha hoi ca ci (by decide);have hl:=rv.length;have es:xs.length=its.toArray.size:=by simp;omega
  obtain⟨f0,f1,f2,f3,f4,f5⟩:=hf it (by simp);refine wpAny_pyNext_enum_endD (EN.qm (A:=X.A.in1) (I.ok.hd hc) it a nai its.toArray) he ⟨by rw[←es];exact hi,p'⟩ fun h1 eb=>⟨rfl,I.turned (t':=s.toks) (fun b o hb q=>eb b o hb q) f0 f1 f3 f4 f5⟩
 self:=fun _ _ _ _ _ st h=>let ⟨⟨_,he⟩,_⟩:=st;wpAny_pyIter_enum he h
section
variable {X:Cx}
theorem pw:bootBuiltins "enumerate"=some (.type "enumerate"):=by decide +kernel
def iEn(K:LFr)(ta:TA):TI:=fun σ H R=>ta σ H fun vs H1=>∃a,vs=[.ref a]/\(∃xs,SqT K H1 a xs)/\R (Ite K a) H1
theorem Em{elts:List Expr}{k1}{tpos:Pos}{c:Expr}{ta:TA}{p pos:Pos}(hg:Gl X "enumerate")(hm:X.mg "enumerate"=none)(ha:PA X [c] ta)(hs:starEach [c] X.env=[(false,eval c X.env)]:=by rfl) :
  PI X (.Tuple elts k1 tpos) (.Call (.Name "enumerate" p) [c] [] pos) (iEn X.K ta):=by
 intro pins s σ H R I h;refine Call_ (di I hg hm pw (K2 (thn (ha pos pins s σ H _ I h) fun us s1 ⟨vs,H1,I1,r1,q1⟩=>?_) hs rfl));obtain⟨a,e,⟨xs,hq⟩,q⟩:=q1;subst e;cases r1 with
 | cons r rr =>
  cases rr;cases r;obtain⟨its,rv,p,hz⟩:=I1.tuple hq;refine EN.CK (show s1.heap.IsTuple a its.toArray from p) fun h1 he hi kk=>wpAny_pyIter_enum he ?_;refine⟨s1.heap.objs.size+1,[s1.heap.objs.size+1,s1.heap.objs.size],_,_,H1,rfl,I1.kept (t':=s1.toks) kk,wu a _ _,⟨⟨_,he⟩,hi⟩,fun b hb=>?_,q⟩;have hb2:s1.heap.objs.size≤b:=by
   rcases J7.mp hb with rfl | hb
   ·exact Nat.le_succ _
   ·rw[Ka.mp hb];exact JW _
  exact I1.fpOk hb2 (I1.hok.fresh hb2)
end
end L2
namespace U
open L2
variable {B:Bs}{X:Cx}{pos:Pos}
def dk(l:List PV):List PV:=l.mapIdx fun i x=>.tup [.int (i:Nat),x]
def en1(vs:List PV)(H1:PHp)(R:It'->PHp->Prop):Prop:=match vs with
 | [.tup l]=>R ⟨dk l,fun _=>True⟩ H1
 | _=>False
theorem Ii:en1 [.tup l] H R=R ⟨dk l,fun _=>True⟩ H:=rfl
def uEn(t:TA'):TI':=fun σ H R=>t σ H fun vs H1=>en1 vs H1 R
theorem ze{elts:List Expr}{k1}{tpos:Pos}{c:Expr}{t:TA'}{p:Pos}(hg:Gl X "enumerate")(hm:X.mg "enumerate"=none)(ha:PA' X B [c] t)(hs:starEach [c] X.env=[(false,eval c X.env)]:=by rfl) :
  PIH X B (.Tuple elts k1 tpos) (.Call (.Name "enumerate" p) [c] [] pos) (uEn t):=dO (Em hg hm ha hs) fun σ H R y_=>by
 obtain⟨σ',H',R',s,h,k⟩:=y_;refine⟨σ',H',_,s,h,fun vs' H1' vs H1 h1 r1 s1 e1=>?_⟩;unfold en1 at h1;split at h1
 ·rename_i l;simp only[RPs,RP]at r1;obtain⟨u,r,rfl,⟨a,us,rfl,q,rl⟩,rfl⟩:=r1;refine⟨a,rfl,⟨us,q⟩,k _ H1' _ H1 h1 ⟨fun H2' H2 i k2 hr _ hi=>?_,fun H2' H2 i x H3 k2 hr _ y=>?_,fun H2' H2 k2 hr _=>?_⟩ s1 e1⟩
  ·have hi':i<l.length:=by simpa[dk]using hi
   obtain⟨u,e,_⟩:=RPs.get _ rl (JO hi');exact⟨us,u,k2.sqT q,e⟩
  ·obtain⟨T,y1,hT,rfl,rfl,hy⟩:=y;refine⟨hr.hid hT,Ev.hid hT,fun x' hx=>?_⟩;obtain⟨z,hz,rfl⟩:∃z,l[i]?=some z/\x'=.tup [.int (i:Nat),z]:=by
    unfold dk at hx;rw[List.getElem?_mapIdx]at hx;cases e:l[i]? with
    | none=>rw[e]at hx;cases hx
    | some z=>rw[e]at hx;exact⟨z,rfl,(Ks hx).symm⟩
   obtain⟨u,e,ru⟩:=RPs.get _ (RPs.kp _ k2 rl) hz;have ey:=hy us (k2.sqT q);rw[e]at ey;cases ey;exact lI hT (RPs.cons _ (by simp[RP]) (RPs.cons _ ru (RPs.nil _)))
  ·refine⟨us,k2.sqT q,?_⟩;rw[RPs.length _ rl];simp[dk]
 ·exact h1.elim
end U
namespace L2
section
variable {X:Cx}{pins:List (Addr×Obj)}{σ:St}{H:Hp}{s:Shared}{h':Heap}
theorem Inv.turnedN{ch:List Addr}(I:Inv X pins σ H s)(k:∀b o,b∉ch->s.heap.get? b=some o->h'.get? b=some o)(hf:∀b∈ch,dm X pins H b):Inv X pins σ H { s with heap:=h',toks:=t' }:=by
 have nit:∀b u,H b=some u->b∉ch:=fun b u e z=>by rw[(hf b z).1]at e;cases e
 refine I.step (g':=s.gens) (d':=s.drawn) (ch:=ch) (fun b hb=>?_) (fun b o _ _ hc e _=>k b o hc e) (fun b o _ _ hc e _=>⟨o.slots,k b o hc e⟩) (fun _ _ _ _ n=>n)
  (fun b o hc e=>⟨o,k b o hc e⟩) (fun _ _ e=>e) (fun _ _ _ e=>e) (fun b ps e=>⟨#[],by rw[e];simp⟩) (fun m hm=>?_) (fun b u e=>?_) I.bare
 ·have f:=hf b hb;exact⟨f.2.2.2.1,f.2.1,f.2.2.2.2.1,f.2.2.2.2.2⟩
 ·obtain⟨o,es,ep,ho,r⟩:=hm;exact⟨o,es,ep,k _ o (fun z=>(hf _ z).2.1 rfl) ho,r⟩
 ·refine(I.hok b u e).stay (fun c z hc q2=>?_) (fun c q2=>q2) fun c ys q2=>q2;have nn:c∉ch:=by
   rcases hc with z | z
   ·rw[z];exact nit b u e
   ·exact nit c _ z
  exact k c z nn q2
end
def Itz(K:LFr)(a b:Addr):It :=
 ⟨fun i H=>∃xs ys x y,SqL K H a xs/\SqL K H b ys/\xs[i]?=some x/\ys[i]?=some y,fun i H x H'=>∃T u v,H T=none/\x=.ref T/\H'=upd H T (.tup [u,v])/\∀xs ys,SqL K H a xs->SqL K H b ys->xs[i]?=some u/\ys[i]?=some v,
  fun i H=>∃xs ys,SqL K H a xs/\SqL K H b ys/\(xs[i]?=none∨ys[i]?=none)⟩
theorem gO:∀{xs:List V} {its:List Value} {i:Nat},Vals xs its->xs[i]?=none->its[i]?=none:=fun {xs its i} r h=>by
 have hl:=r.length;rw[LN]at h ⊢;omega
theorem vI{K:LFr}(z TI TO i1 i2 a b:Addr)(D:ZipApart z TI TO i1 i2 a b):Turn P w K (.Tuple elts k1 tpos) (Itz K a b) [z,TI,TO,i1,i2] z
  (fun i h=>IsZip h z TI TO .none/\IsPair h TI (.ref i1) (.ref i2)/\(∃x y,IsPair h TO x y)/\h.IsListIter i1 a i/\h.IsListIter i2 b i) where
 mem:=by simp
 obj:=fun i h st c hc=>by
  obtain⟨hz,hI,⟨x,y,hO⟩,⟨o1,e1,c1,d1⟩,⟨o2,e2,c2,d2⟩⟩:=st;simp only[J7,KY,L7]at hc;rcases hc with rfl | rfl | rfl | rfl | rfl
  ·exact⟨_,hz,fun v q=>by cases (show Data.fields _=Data.cell v from q)⟩
  ·exact⟨_,hI,fun v q=>by cases (show Data.seq _ _=Data.cell v from q)⟩
  ·exact⟨_,hO,fun v q=>by cases (show Data.seq _ _=Data.cell v from q)⟩
  ·exact⟨_,e1,fun v q=>by rw[d1]at q;cases q⟩
  ·exact⟨_,e2,fun v q=>by rw[d2]at q;cases q⟩
 keep:=fun i h h' st k=>by
  obtain⟨hz,hI,⟨x,y,hO⟩,h1,h2⟩:=st;exact⟨k z (by simp) _ hz,k TI (by simp) _ hI,⟨x,y,k TO (by simp) _ hO⟩,h1.at fun o e=>k i1 (by simp) o e,h2.at fun o e=>k i2 (by simp) o e⟩
 item:=by
  intro X hP hw hK hc i pins s σ H E I hf st hg;subst hP hw hK;obtain⟨xs,ys,x,y,qx,qy,hx,hy⟩:=hg;obtain⟨its,rv,p,_⟩:=I.list qx;obtain⟨jts,rw',p',_⟩:=I.list qy;obtain⟨u,hu,ru⟩:=rv.get hx;obtain⟨v,hv,rv2⟩:=rw'.get hy;obtain⟨hz,hI,⟨x0,y0,hO⟩,h1,h2⟩:=st;refine wpAny_pyNext_zip_item D hz hI hO h1 h2 p.isList p'.isList (show its.toArray[i]?=some u by simpa using hu) (show jts.toArray[i]?=some v by simpa using hv) fun h' a1 a2 a3 a4 a5 a6 hk=>?_;refine⟨_,rfl,wpAny_letOwnedTupleGo_zip (s:={ s with heap:=h' }) a1 fun h2 hz2 sb=>?_⟩;have sb2:Heap.SameBut z h' h2:=sb;have hzlt:z<s.heap.objs.size:=J0 hz;have hT2:h2.get? s.heap.objs.size=some { cls:=.type "tuple",data:=.seq #[u,v] }:=(sb2.2 _ (Lx hzlt)).trans a5;have kk:∀c o,c∉[z,TO,i1,i2]->s.heap.get? c=some o->h2.get? c=some o:=fun c o n q=>by
   simp only[J7,KY,L7,not_or]at n;exact(sb2.2 c n.1).trans (hk c o n.1 n.2.1 n.2.2.1 n.2.2.2 q)
  have hn:H s.heap.objs.size=none:=I.hok.fresh (JW _);have hf4:∀c∈[z,TO,i1,i2],dm X pins H c:=fun c hc=>hf c (by simp only[J7,KY,L7]at hc ⊢;rcases hc with e | e | e | e<;>simp[e]);have nit:∀c v,H c=some v->c∉[z,TO,i1,i2]:=fun c v q zc=>by rw[(hf4 c zc).1]at q;cases q
  have ltT:∀{c o},s.heap.get? c=some o->c≠s.heap.objs.size:=fun e=>Ki (J0 e);have up:∀{c o},c≠z->h'.get? c=some o->h2.get? c=some o:=fun {c o} n e=>(sb2.2 c n).trans e;refine⟨.ref s.heap.objs.size,upd H s.heap.objs.size (.tup [x,y]),?_,rfl,⟨_,x,y,hn,rfl,rfl,fun zs ws q1 q2=>⟨by rw[I.list_inj q1 qx];exact hx,by rw[I.list_inj q2 qy];exact hy⟩⟩,?_,fun c hc=>?_⟩
  ·show Inv X pins σ _ { s with heap:=h2,toks:=s.toks };refine I.step (h':=h2) (g':=s.gens) (d':=s.drawn) (t':=s.toks) (ch:=[z,TO,i1,i2]) (fun c hc=>?_) (fun c o _ _ hc q _=>kk c o hc q) (fun c o _ _ hc q _=>⟨o.slots,kk c o hc q⟩)
    (fun c o _ q n=>by rw[aC (ltT q)];exact n) (fun c o hc q=>⟨o,kk c o hc q⟩) (fun c ys q=>by rw[aC (aD q hn)];exact q) (fun c o v q=>by rw[aC (aD q hn)];exact q)
    (fun c ps q=>⟨#[],by rw[aC (aD q hn),q];simp⟩) (fun m hm=>?_) (fun c v' q=>?_) I.bare
   ·have f:=hf4 c hc;exact⟨f.2.2.2.1,f.2.1,f.2.2.2.2.1,f.2.2.2.2.2⟩
   ·obtain⟨o,es,ep,q,r⟩:=hm;exact⟨o,es,ep,kk _ o (fun zc=>(hf4 _ zc).2.1 rfl) q,r⟩
   ·by_cases hb:c=s.heap.objs.size
    ·subst hb;rw[aT]at q;cases q;exact⟨by show 2≤sizeLine;rw[K3];omega,[u,v],.cons ru (.cons rv2 .nil),⟨_,hT2,rfl,_,rfl⟩⟩
    ·rw[aC hb]at q;refine(I.hok c v' q).stay (fun d zd hd q2=>?_) (fun d q2=>by rw[aC (aD q2 hn)];exact q2) fun d ys q2=>by rw[aC (aD q2 hn)];exact q2
     have nn:d∉[z,TO,i1,i2]:=by
      rcases hd with e | e
      ·rw[e];exact nit c v' q
      ·exact nit d _ e
     exact kk d zd nn q2
  ·refine⟨hz2,?_,⟨_,_,up D.TOz a2⟩,a3.at fun o e=>up D.i1z e,a4.at fun o e=>up D.i2z e⟩;exact up D.TIz (hk _ _ D.TIz D.TITO D.TIi1 D.TIi2 hI)
  ·have hc2:c<s.heap.objs.size:=by
    simp only[J7,KY,L7]at hc;rcases hc with rfl | rfl | rfl | rfl | rfl
    ·exact hzlt
    ·exact J0 hI
    ·exact J0 hO
    ·obtain⟨_,e,_⟩:=h1;exact J0 e
    ·obtain⟨_,e,_⟩:=h2;exact J0 e
   rw[aC (Ki hc2)];exact(hf c hc).1
 done:=by
  intro X hP hw hK hc i pins s σ H E I hf st hg;subst hP hw hK;obtain⟨xs,ys,qx,qy,hend⟩:=hg;obtain⟨its,rv,p,_⟩:=I.list qx;obtain⟨jts,rw',p',_⟩:=I.list qy;obtain⟨hz,hI,⟨x0,y0,hO⟩,h1,h2⟩:=st;have hend':its.toArray[i]?=none∨jts.toArray[i]?=none:=by
   rcases hend with e | e
   ·exact .inl (by simpa using gO rv e)
   ·exact .inr (by simpa using gO rw' e)
  refine wpAny_pyNext_zip_end (I.ok.hd hc) D hz hI hO h1 h2 p.isList p'.isList hend' fun h' hk=>⟨rfl,I.turnedN (t':=s.toks) (ch:=[z,TO,i1,i2]) (fun c o n q=>?_) fun c hc=>hf c ?_⟩
  ·simp only[J7,KY,L7,not_or]at n;exact hk c o n.1 n.2.1 n.2.2.1 n.2.2.2 q
  ·simp only[J7,KY,L7]at hc ⊢;rcases hc with e | e | e | e<;>simp[e]
 self:=fun _ _ _ _ _ st h=>wpAny_pyIter_zip st.1 h
section
variable {X:Cx}
def HV(K:LFr)(ta:TA):TI:=fun σ H R=>ta σ H fun vs H1=>∃a b,vs=[.ref a,.ref b]/\(∃xs,SqL K H1 a xs)/\(∃ys,SqL K H1 b ys)/\R (Itz K a b) H1
theorem Bk{elts:List Expr}{k1}{tpos:Pos}{c d:Expr}{ta:TA}{p pos:Pos}(hg:Gl X "zip")(hm:X.mg "zip"=none)(ha:PA X [c,d] ta)(hs:starEach [c,d] X.env=[(false,eval c X.env),(false,eval d X.env)]:=by rfl)(hs2:starEach [d] X.env=[(false,eval d X.env)]:=by rfl) :
  PI X (.Tuple elts k1 tpos) (.Call (.Name "zip" p) [c,d] [] pos) (HV X.K ta):=by
 intro pins s σ H R I h;refine Call_ (di I hg hm PyProof.Rows.boot_zip (K2 (thn (ha pos pins s σ H _ I h) fun us s1 ⟨vs,H1,I1,r1,q1⟩=>?_) (by rw[hs,hs2]) (by rw[hs2];rfl)));obtain⟨a,b,e,⟨xs,qx⟩,⟨ys,qy⟩,q⟩:=q1;subst e;cases r1 with
 | cons r rr =>
  cases rr with
  | cons r' rr =>
   cases rr;cases r;cases r';obtain⟨its,rv,p,_⟩:=I1.list qx;obtain⟨jts,rw',p',_⟩:=I1.list qy;obtain⟨_,ea,_⟩:=id p.isList;obtain⟨_,eb,_⟩:=id p'.isList;refine call_zip_2 p.isList p'.isList fun h1 hz hI hO l1 l2 hsz kk=>wpAny_pyIter_zip hz ?_;refine⟨_,_,_,_,H1,rfl,I1.kept (t':=s1.toks) kk,vI _ _ _ _ _ a b (PyProof.Rows.zipApart_new (J0 ea) (J0 eb)),⟨hz,hI,⟨_,_,hO⟩,l1,l2⟩,fun c hc=>?_,q⟩;have hb2:s1.heap.objs.size≤c:=by
    simp only[J7,KY,L7]at hc;rcases hc with rfl | rfl | rfl | rfl | rfl
    ·exact Nat.le_add_right _ _
    ·exact Nat.le_add_right _ _
    ·exact Nat.le_add_right _ _
    ·exact JW _
    ·exact Nat.le_add_right _ _
   exact I1.fpOk hb2 (I1.hok.fresh hb2)
end
end L2
namespace U
open L2
variable {B:Bs}{X:Cx}{pos:Pos}
def dU:List PV->List PV->List PV
 | x::xs,y::ys=>.tup [x,y]::dU xs ys
 | _,_=>[]
theorem iR:∀(l m:List PV),(dU l m).length=min l.length m.length
 | [],_=>by simp[dU]
 | _::_,[]=>by simp[dU]
 | x::l,y::m=>by simp[dU,iR l m]
theorem iD:∀{l m:List PV} {i:Nat} {z:PV},(dU l m)[i]?=some z->∃x y,l[i]?=some x/\m[i]?=some y/\z=.tup [x,y]
 | [],_,i,z,h=>by simp[dU]at h
 | _::_,[],i,z,h=>by simp[dU]at h
 | x::l,y::m,0,z,h=>⟨x,y,rfl,rfl,by simpa[dU]using h.symm⟩
 | x::l,y::m,i+1,z,h=>by
  have:=iD (l:=l) (m:=m) (i:=i) (z:=z) (by simpa[dU]using h);simpa using this
def zip2(vs:List PV)(H1:PHp)(R:It'->PHp->Prop):Prop:=match vs with
 | [.ref a,.ref b]=>∃l m,H1 a=some (.lst l)/\H1 b=some (.lst m)/\R ⟨dU l m,fun H=>H a=some (.lst l)/\H b=some (.lst m)⟩ H1
 | _=>False
theorem IX:zip2 [.ref a,.ref b] H R=∃l m,H a=some (.lst l)/\H b=some (.lst m)/\R ⟨dU l m,fun H=>H a=some (.lst l)/\H b=some (.lst m)⟩ H:=rfl
def Ea(t:TA'):TI':=fun σ H R=>t σ H fun vs H1=>zip2 vs H1 R
theorem nR{elts:List Expr}{k1}{tpos:Pos}{c d:Expr}{t:TA'}{p:Pos}(hg:Gl X "zip")(hm:X.mg "zip"=none)(ha:PA' X B [c,d] t)(hs:starEach [c,d] X.env=[(false,eval c X.env),(false,eval d X.env)]:=by rfl)(hs2:starEach [d] X.env=[(false,eval d X.env)]:=by rfl) :
  PIH X B (.Tuple elts k1 tpos) (.Call (.Name "zip" p) [c,d] [] pos) (Ea t):=dO (Bk hg hm ha hs hs2) fun σ H R y_=>by
 obtain⟨σ',H',R',s,h,k⟩:=y_;refine⟨σ',H',_,s,h,fun vs' H1' vs H1 h1 r1 s1 e1=>?_⟩;unfold zip2 at h1;split at h1
 ·rename_i a b;simp only[RPs,RP]at r1;obtain⟨u,r,rfl,rfl,u2,r2,rfl,rfl,rfl⟩:=r1;obtain⟨l,m,ha,hb,h1⟩:=h1;obtain⟨us,q1,_⟩:=s1.hp _ _ ha;obtain⟨ws,q2,_⟩:=s1.hp _ _ hb;have lk:∀H2' H2,HR X.K H2' H2->H2' a=some (.lst l)/\H2' b=some (.lst m)->∃us ws,SqL X.K H2 a us/\SqL X.K H2 b ws/\RPs X.K H2 l us/\RPs X.K H2 m ws:=fun H2' H2 hr o=>by
   obtain⟨us,a1,a2⟩:=hr _ _ o.1;obtain⟨ws,b1,b2⟩:=hr _ _ o.2;exact⟨us,ws,SqL.of a1,SqL.of b1,a2,b2⟩
  refine⟨a,b,rfl,⟨us,SqL.of q1⟩,⟨ws,SqL.of q2⟩,k _ H1' _ H1 h1 ⟨fun H2' H2 i k2 hr o hi=>?_,fun H2' H2 i x H3 k2 hr o y=>?_,fun H2' H2 k2 hr o=>?_⟩ s1 e1⟩
  ·obtain⟨us,ws,c1,c2,d1,d2⟩:=lk _ _ hr o;obtain⟨x,y,e1,e2,_⟩:=iD (JO hi);obtain⟨u,f1,_⟩:=RPs.get _ d1 e1;obtain⟨v,f2,_⟩:=RPs.get _ d2 e2;exact⟨us,ws,u,v,c1,c2,f1,f2⟩
  ·obtain⟨T,u,v,hT,rfl,rfl,hy⟩:=y;obtain⟨us,ws,c1,c2,d1,d2⟩:=lk _ _ hr o;refine⟨hr.hid hT,Ev.hid hT,fun x' hx=>?_⟩;obtain⟨x,y,e1,e2,rfl⟩:=iD hx;obtain⟨u',f1,g1⟩:=RPs.get _ d1 e1;obtain⟨v',f2,g2⟩:=RPs.get _ d2 e2;obtain⟨y1,y2⟩:=hy us ws c1 c2;rw[f1]at y1;cases y1;rw[f2]at y2;cases y2;exact lI hT (RPs.cons _ g1 (RPs.cons _ g2 (RPs.nil _)))
  ·obtain⟨us,ws,c1,c2,d1,d2⟩:=lk _ _ hr o;refine⟨us,ws,c1,c2,?_⟩;show us[(dU l m).length]?=none∨ws[(dU l m).length]?=none;rw[iR,LN,LN,RPs.length _ d1,RPs.length _ d2];omega
 ·exact h1.elim
end U
namespace EN
abbrev Is3(h:Heap)(T:Addr)(a b c:Value):Prop:=h.get? T=some { cls:=.type "tuple",data:=.seq #[a,b,c] }
section
variable {prog:Program}{w:World}{A:Around}{E:Value->Shared->Prop}{s:Shared}
theorem up3(hT:Is3 s.heap T a b c)
  (q:∀h1,h1.get? T=some { cls:=.type "tuple",data:=.seq ((#[a,b,c]:Array Value).setIfInBounds k x) }->Heap.SameBut T s.heap h1->Q () { s with heap:=h1 }) :
  wpAny (model prog w) A (updateSeq T (·.setIfInBounds k x)) Q E s:=by
 refine wpAny_updateSeq hT rfl (q _ ?_ (K0 ..));rw[La _ hT rfl];simp[Obj.mapSeq]
theorem apt{n i j:Nat}(h:i≠j):n+i≠n+j:=by omega
theorem yl{n a b c k:Nat}{Q:Value->Shared->Prop}(ha:a<n)(hb:b<n)(hc:c<n)
  (hz:IsZip s.heap (n+5) (n+3) (n+4) .none) (hI:Is3 s.heap (n+3) (.ref n) (.ref (n+1)) (.ref (n+2))) (hO:Is3 s.heap (n+4) p q r)
  (i1:s.heap.IsTupleIter n a k) (i2:s.heap.IsListIter (n+1) b k) (i3:s.heap.IsTupleIter (n+2) c k) (t1:s.heap.IsTuple a xs) (t2:s.heap.IsList b ys) (t3:s.heap.IsTuple c us)
  (e1:xs[k]?=some x) (e2:ys[k]?=some y) (e3:us[k]?=some u)
  (k0:∀h1,IsZip h1 (n+5) (n+3) (n+4) (rawInt s.heap.objs.size)->Is3 h1 (n+4) x y u->h1.IsTupleIter n a (k+1)->h1.IsListIter (n+1) b (k+1)->h1.IsTupleIter (n+2) c (k+1)->Is3 h1 s.heap.objs.size x y u ->
   (∀d o,d≠n->d≠n+1->d≠n+2->d≠n+4->d≠n+5->s.heap.get? d=some o->h1.get? d=some o)->Q (.ref s.heap.objs.size) { s with heap:=h1 }) :
  wpAny (model prog w) A (Builtin.«zip.__next__» ⟨[.ref (n+5)],[]⟩) (fun fin s1=>∃v,fin=.done (.ret v)/\Q v s1) E s:=by
 have a5:a≠n+5:=by omega
 have b5:b≠n+5:=by omega
 have b4:b≠n+4:=by omega
 have b0:b≠n:=by omega
 have c5:c≠n+5:=by omega
 have c4:c≠n+4:=by omega
 have c0:c≠n:=by omega
 have c1:c≠n+1:=by omega
 have n5:n≠n+5:=by omega
 have n4:n≠n+4:=by omega
 have n1:n≠n+1:=by omega
 have n2:n≠n+2:=by omega
 show wpAny _ _ (field (Value.ref (n+5)) 2 >>= _) _ _ _;refine JP (Lp hz rfl (x:=Value.bool false) rfl ?_);show wpAny _ _ (field (Value.ref (n+5)) 3 >>= _) _ _ _;refine JP (Lp hz rfl (x:=Value.ref (n+3)) rfl ?_);refine JP (LP hI rfl ?_);show wpAny _ _ (Builtin.SmallTypes.ownedTupleIsFree (Value.ref (n+5)) >>= _) _ _ _;refine JP ?_;unfold Builtin.SmallTypes.ownedTupleIsFree;refine JP (Lp hz rfl (x:=Value.none) rfl (JT ?_));simp only[if_true];refine JP (wpAny_rule ?_);refine JP (Lp hz rfl (x:=Value.ref (n+4)) rfl ?_);refine JP (wpAny_setField_rec hz (by simp) fun g1 z1 s1=>?_)
 replace z1:IsZip g1 (n+5) (n+3) (n+4) .ellipsis:=z1
 refine JP ?_;simp only[List.zipIdx_cons,List.zipIdx_nil,List.forIn_cons,List.forIn_nil];have B1:=s1.extBut;refine JP (JP (wpAny_onRaise ?_));show wpAny _ _ (Builtin.SmallTypes.nextOf (Value.ref n) >>= _) _ _ _;refine JP (m7 (i1.extBut B1 n5) (t1.extBut B1 a5) e1 fun g2 j1 s2=>JT ?_);have B2:=s2.extBut;have o2:Is3 g2 (n+4) p q r:=B2 _ _ (Ne.symm n4) (B1 _ _ (apt (by decide)) hO);refine JP (LP o2 rfl ?_);refine JP (up3 o2 fun g3 o3 s3=>?_)
 replace o3:Is3 g3 (n+4) x q r:=o3
 have B3:=s3.extBut;refine JP (wpAny_letGo (JT ?_));refine JP (JP (wpAny_onRaise ?_));show wpAny _ _ (Builtin.SmallTypes.nextOf (Value.ref (n+1)) >>= _) _ _ _;refine JP (wpAny_nextOf_list_item (((i2.extBut B1 (apt (by decide))).extBut B2 (Ne.symm n1)).extBut B3 (apt (by decide))) (((t2.extBut B1 b5).extBut B2 b0).extBut B3 b4) e2 fun g4 j2 s4=>JT ?_);have B4:=s4.extBut;have o4:Is3 g4 (n+4) x q r:=B4 _ _ (apt (by decide)) o3;refine JP (LP o4 rfl ?_);refine JP (up3 o4 fun g5 o5 s5=>?_)
 replace o5:Is3 g5 (n+4) x y r:=o5
 have B5:=s5.extBut;refine JP (wpAny_letGo (JT ?_));refine JP (JP (wpAny_onRaise ?_));show wpAny _ _ (Builtin.SmallTypes.nextOf (Value.ref (n+2)) >>= _) _ _ _;refine JP (m7 (((((i3.extBut B1 (apt (by decide))).extBut B2 (Ne.symm n2)).extBut B3 (apt (by decide))).extBut B4 (apt (by decide))).extBut B5 (apt (by decide))) (((((t3.extBut B1 c5).extBut B2 c0).extBut B3 c4).extBut B4 c1).extBut B5 c4) e3 fun g6 j3 s6=>JT ?_);have B6:=s6.extBut;have o6:Is3 g6 (n+4) x y r:=B6 _ _ (apt (by decide)) o5;refine JP (LP o6 rfl ?_);refine JP (up3 o6 fun g7 o7 s7=>?_)
 replace o7:Is3 g7 (n+4) x y u:=o7
 have B7:=s7.extBut;refine JP (wpAny_letGo (JT (JT ?_)));refine JP (LP o7 rfl ?_);refine JP (wpAny_newTuple ?_);have sz:g7.objs.size=s.heap.objs.size:=by rw[s7.1,s6.1,s5.1,s4.1,s3.1,s2.1,s1.1]
 have z7:IsZip g7 (n+5) (n+3) (n+4) .ellipsis:=B7 _ _ (apt (by decide)) (B6 _ _ (apt (by decide)) (B5 _ _ (apt (by decide)) (B4 _ _ (apt (by decide)) (B3 _ _ (apt (by decide)) (B2 _ _ (Ne.symm n5) z1)))));have k7:∀d o,d≠n->d≠n+1->d≠n+2->d≠n+4->d≠n+5->s.heap.get? d=some o->g7.get? d=some o:=fun d o d0 d1 d2 d4 d5 e =>
  B7 _ _ d4 (B6 _ _ d2 (B5 _ _ d4 (B4 _ _ d1 (B3 _ _ d4 (B2 _ _ d0 (B1 _ _ d5 e))))))
 have f1:g7.IsTupleIter n a (k+1):=((((j1.extBut B3 n4).extBut B4 n1).extBut B5 n4).extBut B6 n2).extBut B7 n4;have f2:g7.IsListIter (n+1) b (k+1):=((j2.extBut B5 (apt (by decide))).extBut B6 (apt (by decide))).extBut B7 (apt (by decide));have f3:g7.IsTupleIter (n+2) c (k+1):=j3.extBut B7 (apt (by decide));have lz:n+5<g7.objs.size:=J0 z7;show wpAny _ _ (Builtin.SmallTypes.ownedTupleHandOut (Value.ref (n+5)) (Value.ref g7.objs.size) >>= _) _ _ _;refine JP ?_;unfold Builtin.SmallTypes.ownedTupleHandOut;have z8:IsZip (g7.push { cls:=.type "tuple",data:=.seq #[x,y,u] }) (n+5) (n+3) (n+4) .ellipsis:=JR _ z7;refine JP (wpAny_setField_rec z8 (by simp) fun g8 z9 s8=>?_)
 replace z9:IsZip g8 (n+5) (n+3) (n+4) (rawInt g7.objs.size):=z9
 refine wpAny_setField_rec z9 (by simp) fun g9 z10 s9=>?_
 replace z10:IsZip g9 (n+5) (n+3) (n+4) (rawInt g7.objs.size):=z10
 have up:∀d o,d≠n+5->g7.get? d=some o->g9.get? d=some o:=fun d o ne e=>s9.extBut _ _ ne (s8.extBut _ _ ne (JR _ e));have T9:Is3 g9 g7.objs.size x y u:=s9.extBut _ _ (Lx lz) (s8.extBut _ _ (Lx lz) (JZ _ rfl));rw[sz]at z10 T9;refine JT ⟨_,rfl,?_⟩;show Q (.ref g7.objs.size) _;rw[sz];exact k0 g9 z10 (up _ _ (apt (by decide)) o7) (f1.at fun o e=>up _ o n5 e) (f2.at fun o e=>up _ o (apt (by decide)) e) (f3.at fun o e=>up _ o (apt (by decide)) e) T9 fun d o d0 d1 d2 d4 d5 e=>up d o d5 (k7 d o d0 d1 d2 d4 d5 e)
theorem Ag{n a b c k:Nat}(hA:A.handled=none)(ha:a<n)
  (hz:IsZip s.heap (n+5) (n+3) (n+4) .none) (hI:Is3 s.heap (n+3) (.ref n) (.ref (n+1)) (.ref (n+2)))
  (i1:s.heap.IsTupleIter n a k) (t1:s.heap.IsTuple a xs) (e1:xs[k]?=none)
  (q:∀h1 e,(∀d o,d≠n->d≠n+5->s.heap.get? d=some o->h1.get? d=some o)->(∃o,h1.get? e=some o/\o.cls=.type "StopIteration")->E (.ref e) { s with heap:=h1 }) :
  wpAny (model prog w) A (Builtin.«zip.__next__» ⟨[.ref (n+5)],[]⟩) Q E s:=by
 have a5:a≠n+5:=by omega
 have n5:n≠n+5:=by omega
 show wpAny _ _ (field (Value.ref (n+5)) 2 >>= _) _ _ _;refine JP (Lp hz rfl (x:=Value.bool false) rfl ?_);show wpAny _ _ (field (Value.ref (n+5)) 3 >>= _) _ _ _;refine JP (Lp hz rfl (x:=Value.ref (n+3)) rfl ?_);refine JP (LP hI rfl ?_);show wpAny _ _ (Builtin.SmallTypes.ownedTupleIsFree (Value.ref (n+5)) >>= _) _ _ _;refine JP ?_;unfold Builtin.SmallTypes.ownedTupleIsFree;refine JP (Lp hz rfl (x:=Value.none) rfl (JT ?_));simp only[if_true];refine JP (wpAny_rule ?_);refine JP (Lp hz rfl (x:=Value.ref (n+4)) rfl ?_);refine JP (wpAny_setField_rec hz (by simp) fun g1 z1 s1=>?_)
 replace z1:IsZip g1 (n+5) (n+3) (n+4) .ellipsis:=z1
 refine JP ?_;simp only[List.zipIdx_cons,List.zipIdx_nil,List.forIn_cons,List.forIn_nil];refine JP (JP (wpAny_onRaise ?_));show wpAny _ _ (Builtin.SmallTypes.nextOf (Value.ref n) >>= _) _ _ _;refine JP (zx hA (i1.extBut s1.extBut n5) (t1.extBut s1.extBut a5) e1 fun g2 e s2 he=>?_);obtain⟨oe,hoe,hce⟩:=he;have z2:IsZip g2 (n+5) (n+3) (n+4) .ellipsis:=s2 _ _ (Ne.symm n5) z1;have ne:e≠n+5:=fun x=>by subst x;rw[z2]at hoe;cases hoe;simp at hce
 refine wpAny_setField_rec z2 (by simp) fun g3 _ s3=>q g3 e (fun d o d0 d5 x=>s3.extBut _ _ d5 (s2 _ _ d0 (s1.extBut _ _ d5 x))) ⟨oe,s3.extBut _ _ ne hoe,hce⟩
theorem nx3{n a b c k:Nat}(ha:a<n)(hb:b<n)(hc:c<n)
  (hz:IsZip s.heap (n+5) (n+3) (n+4) .none) (hI:Is3 s.heap (n+3) (.ref n) (.ref (n+1)) (.ref (n+2))) (hO:Is3 s.heap (n+4) p q r)
  (i1:s.heap.IsTupleIter n a k) (i2:s.heap.IsListIter (n+1) b k) (i3:s.heap.IsTupleIter (n+2) c k) (t1:s.heap.IsTuple a xs) (t2:s.heap.IsList b ys) (t3:s.heap.IsTuple c us)
  (e1:xs[k]?=some x) (e2:ys[k]?=some y) (e3:us[k]?=some u)
  (k0:∀h1,IsZip h1 (n+5) (n+3) (n+4) (rawInt s.heap.objs.size)->Is3 h1 (n+4) x y u->h1.IsTupleIter n a (k+1)->h1.IsListIter (n+1) b (k+1)->h1.IsTupleIter (n+2) c (k+1)->Is3 h1 s.heap.objs.size x y u ->
   (∀d o,d≠n->d≠n+1->d≠n+2->d≠n+4->d≠n+5->s.heap.get? d=some o->h1.get? d=some o)->Q (some (.ref s.heap.objs.size)) { s with heap:=h1 }) :
  wpAny (model prog w) A (pyNext (.ref (n+5))) Q E s:=by
 have hT:s.TypeIs (.ref (n+5)) "zip":=⟨_,hz,rfl⟩;unfold pyNext;refine JP (wpAny_attempt (KU (name:=Str.ofString "__next__") hT F.slot_zip_next (KW F.slot_zip_next hT F.entry_zip_next ?_ (F.args_zip_next_1 _))));exact yl ha hb hc hz hI hO i1 i2 i3 t1 t2 t3 e1 e2 e3 fun h1 w1 w2 w3 w4 w5 w6 w7=>JT (k0 h1 w1 w2 w3 w4 w5 w6 w7)
theorem HY{n a k:Nat}(hA:A.handled=none)(ha:a<n)
  (hz:IsZip s.heap (n+5) (n+3) (n+4) .none) (hI:Is3 s.heap (n+3) (.ref n) (.ref (n+1)) (.ref (n+2)))
  (i1:s.heap.IsTupleIter n a k) (t1:s.heap.IsTuple a xs) (e1:xs[k]?=none)
  (q:∀h1,(∀d o,d≠n->d≠n+5->s.heap.get? d=some o->h1.get? d=some o)->Q none { s with heap:=h1 }):wpAny (model prog w) A (pyNext (.ref (n+5))) Q E s:=by
 have hT:s.TypeIs (.ref (n+5)) "zip":=⟨_,hz,rfl⟩;unfold pyNext;refine JP (wpAny_attempt (KU (name:=Str.ofString "__next__") hT F.slot_zip_next (KW F.slot_zip_next hT F.entry_zip_next ?_ (F.args_zip_next_1 _))));refine Ag (b:=a) (c:=a) hA ha hz hI i1 t1 e1 fun h1 e hk he=>?_;obtain⟨o,ho,hc⟩:=he;refine JP (wpAny_isInstance (T:="StopIteration") (b:=true) ⟨o,ho,hc⟩ isSubtype_stop (JT (q _ hk)))
end
abbrev zg2(h:Heap)(a b:Addr):Heap:=(h.push { cls:=.type "tuple_iterator",data:=.fields #[.ref a,.int 0 0] }).push { cls:=.type "list_iterator",data:=.fields #[.ref b,.int 0 0] }
abbrev zg3(h:Heap)(a b c:Addr):Heap:=(zg2 h a b).push { cls:=.type "tuple_iterator",data:=.fields #[.ref c,.int 0 0] }
abbrev zg4(h:Heap)(a b c:Addr):Heap:=(zg3 h a b c).push { cls:=.type "tuple",data:=.seq #[.ref h.objs.size,.ref (h.push { cls:=.type "tuple_iterator",data:=.fields #[.ref a,.int 0 0] }).objs.size,.ref (zg2 h a b).objs.size] }
abbrev zg5(h:Heap)(a b c:Addr):Heap:=(zg4 h a b c).push { cls:=.type "tuple",data:=.seq #[.none,.none,.none] }
abbrev zg6(h:Heap)(a b c:Addr):Heap:=(zg5 h a b c).push { cls:=.type "zip",data:=.fields #[.none,.bool false,.bool false,.ref (zg3 h a b c).objs.size,.ref (zg4 h a b c).objs.size] }
theorem uF(a b c:Addr)(xs ys us:Array Value) :
  Meets (Builtin.«zip.__new__» ⟨[.type "zip",.ref a,.ref b,.ref c],[]⟩) (fun _ R s=>s.heap.IsTuple a xs/\s.heap.IsList b ys/\s.heap.IsTuple c us/\R (.ok (.ret (.ref (zg5 s.heap a b c).objs.size))) { s with heap:=zg6 s.heap a b c }) :=
 .of_wp fun prog w A R s h=>by
  obtain⟨hp,g,d,tk,os⟩:=s;obtain⟨t1,t2,t3,h⟩:=h;have hsub:=sub_zip;have u1:Heap.IsTuple (Shared.heap ⟨hp,g,d,tk,os⟩) a xs:=t1;have u2:Heap.IsList (Shared.heap ⟨hp.push { cls:=.type "tuple_iterator",data:=.fields #[.ref a,.int 0 0] },g,d,tk,os⟩) b ys:=Heap.IsList.push t2 _;have u3:Heap.IsTuple (Shared.heap ⟨(hp.push { cls:=.type "tuple_iterator",data:=.fields #[.ref a,.int 0 0] }).push { cls:=.type "list_iterator",data:=.fields #[.ref b,.int 0 0] },g,d,tk,os⟩) c us:=Heap.IsTuple.push (Heap.IsTuple.push t3 _) _
  wp_walk using wpAny_pyIter_tuple u1,wpAny_pyIter_list u2,wpAny_pyIter_tuple u3
  exact⟨_,rfl,h⟩
theorem Iu(a b c:Value):checkTypeCall "zip" ⟨[a,b,c],[]⟩=pure ():=by kernel_rfl
theorem IM(a b c:Value):checkBuiltinCall "zip.__new__" ⟨[.type "zip",a,b,c],[]⟩=pure ():=by kernel_rfl
open F in
theorem HL(a b c d:Value):argsOk "object.__init__" ⟨[a,b,c,d],[]⟩:=by
 unfold argsOk;rw[signature?_of (id:="object.__init__") (n:=['_','_','t','i','n','i','_','_']) (o:=['t','c','e','j','b','o']) (by kernel_rfl) owner_object];kernel_rfl
theorem yT{s:Shared}(t1:s.heap.IsTuple a xs)(t2:s.heap.IsList b ys)(t3:s.heap.IsTuple c us)
  (h:∀h1,IsZip h1 (s.heap.objs.size+5) (s.heap.objs.size+3) (s.heap.objs.size+4) .none->Is3 h1 (s.heap.objs.size+3) (.ref s.heap.objs.size) (.ref (s.heap.objs.size+1)) (.ref (s.heap.objs.size+2)) ->
   Is3 h1 (s.heap.objs.size+4) .none .none .none->h1.IsTupleIter s.heap.objs.size a 0->h1.IsListIter (s.heap.objs.size+1) b 0->h1.IsTupleIter (s.heap.objs.size+2) c 0 ->
   (∀d o,s.heap.get? d=some o->h1.get? d=some o)->Q (.ref (s.heap.objs.size+5)) { s with heap:=h1 }) :
  wpAny (model prog w) A (call (.type "zip") [.ref a,.ref b,.ref c]) Q E s:=by
 refine callType_new F.called_zip (by decide) (Iu _ _ _) (IM _ _ _) (fun obj=>HL obj _ _ _) F.entry_zip_new (uF a b c xs ys us) ⟨t1,t2,t3,?_⟩;have z1:(s.heap.push { cls:=.type "tuple_iterator",data:=.fields #[.ref a,.int 0 0] }).objs.size=s.heap.objs.size+1:=K9 ..;have z2:(zg2 s.heap a b).objs.size=s.heap.objs.size+2:=by rw[K9,z1]
 have z3:(zg3 s.heap a b c).objs.size=s.heap.objs.size+3:=by rw[K9,z2]
 have z4:(zg4 s.heap a b c).objs.size=s.heap.objs.size+4:=by rw[K9,z3]
 have z5:(zg5 s.heap a b c).objs.size=s.heap.objs.size+5:=by rw[K9,z4]
 have g6:(zg6 s.heap a b c).get? (zg5 s.heap a b c).objs.size=some _:=JZ _ rfl;have g5:(zg6 s.heap a b c).get? (zg4 s.heap a b c).objs.size=some _:=JR _ (JZ _ rfl);have g4:(zg6 s.heap a b c).get? (zg3 s.heap a b c).objs.size=some _:=JR _ (JR _ (JZ _ rfl));have g3:(zg6 s.heap a b c).get? (zg2 s.heap a b).objs.size=some _:=JR _ (JR _ (JR _ (JZ _ rfl)));have g2:(zg6 s.heap a b c).get? (s.heap.push { cls:=.type "tuple_iterator",data:=.fields #[.ref a,.int 0 0] }).objs.size=some _:=JR _ (JR _ (JR _ (JR _ (JZ _ rfl))));have g1:(zg6 s.heap a b c).get? s.heap.objs.size=some _:=JR _ (JR _ (JR _ (JR _ (JR _ (JZ _ rfl)))));show _/\_;rw[z3,z4,z5]at g6;rw[z4]at g5;rw[z1,z2,z3]at g4;rw[z2]at g3;rw[z1]at g2;rw[z5];exact⟨⟨_,g6,rfl⟩,h _ g6 g4 g5 ⟨_,g1,rfl,rfl⟩ ⟨_,g2,rfl,rfl⟩ ⟨_,g3,rfl,rfl⟩ fun d o x=>JR _ (JR _ (JR _ (JR _ (JR _ (JR _ x)))))⟩
end EN
namespace L2
open EN
def Iz3(K:LFr)(a b c:Addr):It :=
 ⟨fun i H=>∃xs ys us x y u,SqT K H a xs/\SqL K H b ys/\SqT K H c us/\xs[i]?=some x/\ys[i]?=some y/\us[i]?=some u,
  fun i H v H'=>∃T x y u,H T=none/\v=.ref T/\H'=upd H T (.tup [x,y,u])/\∀xs ys us,SqT K H a xs->SqL K H b ys->SqT K H c us->xs[i]?=some x/\ys[i]?=some y/\us[i]?=some u,
  fun i H=>∃xs,SqT K H a xs/\xs[i]?=none⟩
theorem wZ{K:LFr}(n a b c:Nat)(ha:a<n)(hb:b<n)(hc3:c<n):Turn P w K (.Tuple elts k1 tpos) (Iz3 K a b c) [n,n+1,n+2,n+3,n+4,n+5] (n+5)
  (fun i h=>IsZip h (n+5) (n+3) (n+4) .none/\Is3 h (n+3) (.ref n) (.ref (n+1)) (.ref (n+2))/\(∃x y z,Is3 h (n+4) x y z)/\h.IsTupleIter n a i/\h.IsListIter (n+1) b i/\h.IsTupleIter (n+2) c i) where
 mem:=by simp
 obj:=fun i h st d hd=>by
  obtain⟨hz,hI,⟨x,y,z,hO⟩,⟨o1,e1,_,d1⟩,⟨o2,e2,_,d2⟩,⟨o3,e3,_,d3⟩⟩:=st;simp only[J7,KY,L7]at hd;rcases hd with rfl | rfl | rfl | rfl | rfl | rfl
  ·exact⟨_,e1,fun v q=>by rw[d1]at q;cases q⟩
  ·exact⟨_,e2,fun v q=>by rw[d2]at q;cases q⟩
  ·exact⟨_,e3,fun v q=>by rw[d3]at q;cases q⟩
  ·exact⟨_,hI,fun v q=>by cases (show Data.seq _ _=Data.cell v from q)⟩
  ·exact⟨_,hO,fun v q=>by cases (show Data.seq _ _=Data.cell v from q)⟩
  ·exact⟨_,hz,fun v q=>by cases (show Data.fields _=Data.cell v from q)⟩
 keep:=fun i h h' st k=>by
  obtain⟨hz,hI,⟨x,y,z,hO⟩,i1,i2,i3⟩:=st;exact⟨k (n+5) (by simp) _ hz,k (n+3) (by simp) _ hI,⟨x,y,z,k (n+4) (by simp) _ hO⟩,i1.at fun o e=>k n (by simp) o e,i2.at fun o e=>k (n+1) (by simp) o e,i3.at fun o e=>k (n+2) (by simp) o e⟩
 item:=by
  intro X hP hw hK hc i pins s σ H E I hf st hg;subst hP hw hK;obtain⟨xs,ys,us,x,y,u,qx,qy,qu,hx,hy,hu⟩:=hg;obtain⟨l1,r1,p1,_⟩:=I.tuple qx;obtain⟨l2,r2,p2,_⟩:=I.list qy;obtain⟨l3,r3,p3,_⟩:=I.tuple qu;obtain⟨x',hx',rx⟩:=r1.get hx;obtain⟨y',hy',ry⟩:=r2.get hy;obtain⟨u',hu',ru⟩:=r3.get hu;obtain⟨hz,hI,⟨x0,y0,z0,hO⟩,i1,i2,i3⟩:=st;refine nx3 ha hb hc3 hz hI hO i1 i2 i3 (show s.heap.IsTuple a l1.toArray from p1) p2.isList (show s.heap.IsTuple c l3.toArray from p3) (x:=x') (y:=y') (u:=u') (by simpa using hx') (by simpa using hy') (by simpa using hu') fun h' w1 w2 w3 w4 w5 w6 hk=>?_;refine⟨_,rfl,wpAny_letOwnedTupleGo_zip (s:={ s with heap:=h' }) w1 fun g gz sb=>?_⟩;have sb2:Heap.SameBut (n+5) h' g:=sb;have lz:n+5<s.heap.objs.size:=J0 hz;have T2:g.get? s.heap.objs.size=some { cls:=.type "tuple",data:=.seq #[x',y',u'] }:=(sb2.2 _ (Lx lz)).trans w6;have kk:∀d o,d∉[n,n+1,n+2,n+4,n+5]->s.heap.get? d=some o->g.get? d=some o:=fun d o m q=>by
   simp only[J7,KY,L7,not_or]at m;exact(sb2.2 d m.2.2.2.2).trans (hk d o m.1 m.2.1 m.2.2.1 m.2.2.2.1 m.2.2.2.2 q)
  have hn:H s.heap.objs.size=none:=I.hok.fresh (JW _);have sub5:∀d,d∈[n,n+1,n+2,n+4,n+5]->d∈[n,n+1,n+2,n+3,n+4,n+5]:=fun d hd=>by
   simp only[J7,KY,L7]at hd ⊢;rcases hd with e | e | e | e | e<;>simp[e]
  have hf5:∀d∈[n,n+1,n+2,n+4,n+5],dm X pins H d:=fun d hd=>hf d (sub5 d hd);have nit:∀d v,H d=some v->d∉[n,n+1,n+2,n+4,n+5]:=fun d v q m=>by rw[(hf5 d m).1]at q;cases q
  have up:∀{d o},d≠n+5->h'.get? d=some o->g.get? d=some o:=fun {d o} m e=>(sb2.2 d m).trans e;refine⟨.ref s.heap.objs.size,upd H s.heap.objs.size (.tup [x,y,u]),?_,rfl,⟨_,x,y,u,hn,rfl,rfl,fun as bs cs q1 q2 q3=>⟨by rw[I.tuple_inj q1 qx];exact hx,by rw[I.list_inj q2 qy];exact hy,by rw[I.tuple_inj q3 qu];exact hu⟩⟩,?_,fun d hd=>?_⟩
  ·show Inv X pins σ _ { s with heap:=g,toks:=s.toks };refine I.step (h':=g) (g':=s.gens) (d':=s.drawn) (t':=s.toks) (ch:=[n,n+1,n+2,n+4,n+5]) (fun d hd=>?_) (fun d o _ _ m q _=>kk d o m q) (fun d o _ _ m q _=>⟨o.slots,kk d o m q⟩)
    (fun d o _ q m=>by rw[aC (Ki (J0 q))];exact m) (fun d o m q=>⟨o,kk d o m q⟩) (fun d ys q=>by rw[aC (aD q hn)];exact q) (fun d o v q=>by rw[aC (aD q hn)];exact q)
    (fun d ps q=>⟨#[],by rw[aC (aD q hn),q];simp⟩) (fun m hm=>?_) (fun d v q=>?_) I.bare
   ·have f:=hf5 d hd;exact⟨f.2.2.2.1,f.2.1,f.2.2.2.2.1,f.2.2.2.2.2⟩
   ·obtain⟨o,es,ep,q,r⟩:=hm;exact⟨o,es,ep,kk _ o (fun m=>(hf5 _ m).2.1 rfl) q,r⟩
   ·by_cases hd:d=s.heap.objs.size
    ·subst hd;rw[aT]at q;cases q;exact⟨by show 3≤sizeLine;rw[K3];omega,[x',y',u'],.cons rx (.cons ry (.cons ru .nil)),⟨_,T2,rfl,_,rfl⟩⟩
    ·rw[aC hd]at q;refine(I.hok d v q).stay (fun e z he q2=>?_) (fun e q2=>by rw[aC (aD q2 hn)];exact q2) fun e ys q2=>by rw[aC (aD q2 hn)];exact q2
     have m:e∉[n,n+1,n+2,n+4,n+5]:=by
      rcases he with z | z
      ·rw[z];exact nit d v q
      ·exact nit e _ z
     exact kk e z m q2
  ·refine⟨gz,?_,⟨_,_,_,up (apt (by decide)) w2⟩,w3.at fun o e=>up (Ki (Nat.lt_add_of_pos_right (by decide))) e,w4.at fun o e=>up (apt (by decide)) e,w5.at fun o e=>up (apt (by decide)) e⟩;exact kk _ _ (by simp) hI
  ·have d2:d<s.heap.objs.size:=by
    have lz':d≤n+5:=by
     simp only[J7,KY,L7]at hd;rcases hd with e | e | e | e | e | e<;>rw[e]
     ·exact Nat.le_add_right n 5
     all_goals exact Nat.add_le_add_left (by decide) n
    exact L4 lz' lz
   rw[aC (Ki d2)];exact(hf d hd).1
 done:=by
  intro X hP hw hK hc i pins s σ H E I hf st hg;subst hP hw hK;obtain⟨xs,qx,hend⟩:=hg;obtain⟨l1,r1,p1,_⟩:=I.tuple qx;obtain⟨hz,hI,_,i1,_,_⟩:=st;refine HY (I.ok.hd hc) ha hz hI i1 (show s.heap.IsTuple a l1.toArray from p1) (by simpa using gO r1 hend) fun h' hk=>⟨rfl,I.turnedN (t':=s.toks) (ch:=[n,n+5]) (fun d o m q=>?_) fun d hd=>hf d ?_⟩
  ·simp only[J7,KY,L7,not_or]at m;exact hk d o m.1 m.2 q
  ·simp only[J7,KY,L7]at hd ⊢;rcases hd with e | e<;>simp[e]
 self:=fun _ _ _ _ _ st h=>wpAny_pyIter_zip st.1 h
section
variable {X:Cx}
def iZ3(K:LFr)(ta:TA):TI:=fun σ H R=>ta σ H fun vs H1=>∃a b c,vs=[.ref a,.ref b,.ref c]/\(∃xs,SqT K H1 a xs)/\(∃ys,SqL K H1 b ys)/\(∃us,SqT K H1 c us)/\R (Iz3 K a b c) H1
theorem Fx{elts:List Expr}{k1}{tpos:Pos}{c d e:Expr}{ta:TA}{p pos:Pos}(hg:Gl X "zip")(hm:X.mg "zip"=none)(ha:PA X [c,d,e] ta)
  (hs:starEach [c,d,e] X.env=[(false,eval c X.env),(false,eval d X.env),(false,eval e X.env)]:=by rfl) (hs2:starEach [d,e] X.env=[(false,eval d X.env),(false,eval e X.env)]:=by rfl) :
  PI X (.Tuple elts k1 tpos) (.Call (.Name "zip" p) [c,d,e] [] pos) (iZ3 X.K ta):=by
 intro pins s σ H R I h;refine Call_ (di I hg hm PyProof.Rows.boot_zip (K2 (thn (ha pos pins s σ H _ I h) fun us s1 ⟨vs,H1,I1,r1,q1⟩=>?_) (by rw[hs,hs2]) (by rw[hs2];rfl)));obtain⟨a,b,c,e,⟨xs,qx⟩,⟨ys,qy⟩,⟨us,qu⟩,q⟩:=q1;subst e;cases r1 with
 | cons r rr =>
  cases rr with
  | cons r' rr =>
   cases rr with
   | cons r'' rr =>
    cases rr;cases r;cases r';cases r'';obtain⟨l1,_,p1,_⟩:=I1.tuple qx;obtain⟨l2,_,p2,_⟩:=I1.list qy;obtain⟨l3,_,p3,_⟩:=I1.tuple qu;have p1':s1.heap.IsTuple a l1.toArray:=p1;have p3':s1.heap.IsTuple c l3.toArray:=p3;obtain⟨_,ea,_⟩:=id p1';obtain⟨_,eb,_⟩:=id p2.isList;obtain⟨_,ec,_⟩:=id p3';refine yT p1' p2.isList p3' fun h1 hz hI hO i1 i2 i3 kk=>wpAny_pyIter_zip hz ?_;refine⟨_,_,_,_,H1,rfl,I1.kept (t':=s1.toks) kk,wZ _ a b c (J0 ea) (J0 eb) (J0 ec),⟨hz,hI,⟨_,_,_,hO⟩,i1,i2,i3⟩,fun f hf=>?_,q⟩;have hb2:s1.heap.objs.size≤f:=by
     simp only[J7,KY,L7]at hf;rcases hf with e | e | e | e | e | e<;>rw[e]
     ·exact JW _
     all_goals exact Nat.le_add_right _ _
    exact I1.fpOk hb2 (I1.hok.fresh hb2)
end
end L2
namespace U
open L2
variable {B:Bs}{X:Cx}{pos:Pos}
def mi(l m r:List PV):List PV:=(List.range l.length).map fun i=>.tup [l.getD i .non,m.getD i .non,r.getD i .non]
def BD(vs:List PV)(H1:PHp)(R:It'->PHp->Prop):Prop:=match vs with
 | [.tup l,.ref b,.tup r]=>∃m,H1 b=some (.lst m)/\m.length=l.length/\r.length=l.length/\R ⟨mi l m r,fun H=>H b=some (.lst m)⟩ H1
 | _=>False
theorem Hr:BD [.tup l,.ref b,.tup r] H R=∃m,H b=some (.lst m)/\m.length=l.length/\r.length=l.length/\R ⟨mi l m r,fun H=>H b=some (.lst m)⟩ H:=rfl
def uZ3(t:TA'):TI':=fun σ H R=>t σ H fun vs H1=>BD vs H1 R
theorem getD_at{l:List PV}(h:i<l.length):l[i]?=some (l.getD i .non):=by
 rw[JQ,JO h];rfl
theorem ED{elts:List Expr}{k1}{tpos:Pos}{c d e:Expr}{t:TA'}{p:Pos}(hg:Gl X "zip")(hm:X.mg "zip"=none)(ha:PA' X B [c,d,e] t)
  (hs:starEach [c,d,e] X.env=[(false,eval c X.env),(false,eval d X.env),(false,eval e X.env)]:=by rfl) (hs2:starEach [d,e] X.env=[(false,eval d X.env),(false,eval e X.env)]:=by rfl) :
  PIH X B (.Tuple elts k1 tpos) (.Call (.Name "zip" p) [c,d,e] [] pos) (uZ3 t):=dO (Fx hg hm ha hs hs2) fun σ H R y_=>by
 obtain⟨σ',H',R',s,h,k⟩:=y_;refine⟨σ',H',_,s,h,fun vs' H1' vs H1 h1 r1 s1 e1=>?_⟩;unfold BD at h1;split at h1
 ·rename_i l b r;simp only[RPs,RP]at r1;obtain⟨v1,r1,rfl,⟨a,us,rfl,q1,rl⟩,v2,r2,rfl,rfl,v3,r3,rfl,⟨c,ws,rfl,q3,rr⟩,rfl⟩:=r1;obtain⟨m,hb,lm,lr,h1⟩:=h1;obtain⟨ms,q2,_⟩:=s1.hp _ _ hb;have zl:(mi l m r).length=l.length:=by unfold mi;rw[JN,Kh]
  have lk:∀H2' H2,HR X.K H2' H2->H2' b=some (.lst m)->∃ms,SqL X.K H2 b ms/\RPs X.K H2 m ms:=fun H2' H2 hr o=>by
   obtain⟨ms,a1,a2⟩:=hr _ _ o;exact⟨ms,SqL.of a1,a2⟩
  refine⟨a,b,c,rfl,⟨us,q1⟩,⟨ms,SqL.of q2⟩,⟨ws,q3⟩,k _ H1' _ H1 h1 ⟨fun H2' H2 i k2 hr o hi=>?_,fun H2' H2 i x H3 k2 hr o y=>?_,fun H2' H2 k2 hr o=>?_⟩ s1 e1⟩
  ·have hi:i<l.length:=by rw[←zl];exact hi
   obtain⟨ms,c2,d2⟩:=lk _ _ hr o;obtain⟨u,f1,_⟩:=RPs.get _ rl (getD_at hi);obtain⟨v,f2,_⟩:=RPs.get _ d2 (getD_at (l:=m) (i:=i) (by omega));obtain⟨z,f3,_⟩:=RPs.get _ rr (getD_at (l:=r) (i:=i) (by omega));exact⟨us,ms,ws,u,v,z,k2.sqT q1,c2,k2.sqT q3,f1,f2,f3⟩
  ·obtain⟨T,u,v,z,hT,rfl,rfl,hy⟩:=y;obtain⟨ms,c2,d2⟩:=lk _ _ hr o;refine⟨hr.hid hT,Ev.hid hT,fun x' hx=>?_⟩;have hi:i<l.length:=by rw[←zl];exact(JS.mp hx).1
   have ex:x'=.tup [l.getD i .non,m.getD i .non,r.getD i .non]:=by
    have hx:(mi l m r)[i]?=some x':=hx;unfold mi at hx;rw[JV,List.getElem?_range hi]at hx;exact(Ks hx).symm
   subst ex;obtain⟨u',f1,g1⟩:=RPs.get _ (RPs.kp _ k2 rl) (getD_at hi);obtain⟨v',f2,g2⟩:=RPs.get _ d2 (getD_at (l:=m) (i:=i) (by omega));obtain⟨z',f3,g3⟩:=RPs.get _ (RPs.kp _ k2 rr) (getD_at (l:=r) (i:=i) (by omega));obtain⟨y1,y2,y3⟩:=hy us ms ws (k2.sqT q1) c2 (k2.sqT q3);rw[f1]at y1;cases y1;rw[f2]at y2;cases y2;rw[f3]at y3;cases y3;exact lI hT (RPs.cons _ g1 (RPs.cons _ g2 (RPs.cons _ g3 (RPs.nil _))))
  ·refine⟨us,k2.sqT q1,?_⟩;show us[(mi l m r).length]?=none;rw[zl,LN,RPs.length _ rl];exact JW _
 ·exact h1.elim
end U
namespace SI
section
variable {prog:Program}{w:World}{A:Around}{E:Value->Shared->Prop}{s:Shared}{T:String}{r d:Addr}{n:Nat}{P:Nat->Value->Prop}{OK:Heap->Prop}
end
end SI
namespace L2
variable {X:Cx}
end L2
namespace U
open L2
section
variable {B:Bs}{X:Cx}{a b o i value:Expr}{ta tb td ty:TE'}{pos pos':Pos}
end
section
end
end U
namespace L2
variable {X:Cx}
end L2
namespace U
open L2
variable {B:Bs}{X:Cx}{a b e:Expr}{ta tb:TE'}{p p2 pos pos2:Pos}
def EW:R2':=uI FA fun i j=>.int (i*2 ^ j.toNat)
theorem BQ(ha:PE' X B a ta)(hb:PE' X B b tb):PE' X B (.BinOp a .LShift b pos) (uOp EW ta tb):=hE BE (xK fun _ _ _=>by simp[RP]) ha hb
end U
namespace NM
open Sem (wp)
variable {prog:Program}{w:World}{A:Around}{E:Value->Shared->Prop}{s:Shared}
def b2(b:Bool):Int:=if b then 1 else 0
end NM
namespace L2
variable {X:Cx}
end L2
namespace U
open L2
variable {B:Bs}{X:Cx}{pos:Pos}
def tX:TE':=fun _ H Q=>∀p,H p=none->Q (.ref p) (put H p (.dK []))
theorem sP:PE' X B (.Dict [] [] pos) tX:=aQ uz fun σ H Q y_ p hp=>by
 obtain⟨σ',H',Q',s,h,k⟩:=y_;have hp':=s.hp.free hp;refine k _ _ _ _ (h p hp') (by simp[RP]) (s.new hp ⟨[],aT,.nil⟩) (Ev.new hp)
end U
namespace L2
variable {X:Cx}
end L2
namespace U
open L2
variable {B:Bs}{X:Cx}{a b o e:Expr}{es:List Expr}{ta tb to:TE'}{t:TA'}{pos apos cpos:Pos}{name:Str}
def JM:R2':=fun x y H Q=>match x,y with
 | .str z,.int i=>z.length≤sizeLine/\∃c,atI z.cps.toList i=some c/\Q (.str ⟨#[c]⟩) H
 | _,_=>False
def JL:PV->List PV->PHp->VK'->Prop:=fun x vs H Q=>match x,vs with
 | .str z,[.ref a]=>∃ys:List Str,H a=some (.lst (ys.map PV.str))/\z.length≤16/\(ys.map (·.length)).sum+ys.length≤1048576/\Q (.str (Txt.join z ys)) H
 | _,_=>False
def AA(o i v:PV)(H:PHp)(Q:PHp->Prop):Prop:=match o,i with
 | .ref a,.int k=>∃l j,H a=some (.lst l)/\ixN l.length k=some j/\Q (put H a (.lst (l.set j v)))
 | _,_=>False
theorem G9{a:Addr}:AA (.ref a) (.int k) v H Q=∃l j,H a=some (.lst l)/\ixN l.length k=some j/\Q (put H a (.lst (l.set j v))):=rfl
def FI(to ti:TE'):TG':=fun v σ H Q=>to σ H fun o H1=>ti σ H1 fun i H2=>AA o i v H2 fun H3=>Q σ H3
theorem nZ{i:Expr}{ti:TE'}(ho:PE' X B o to)(hi:PE' X B i ti) (ha:∀v,assign (.Subscript o i pos) X.env v=(do
   let ov←holding [v] (eval o X.env)
   let iv←holding [v,ov] (eval i X.env)
   standAt pos
   holding [v,ov,iv] (setItem ov iv v)
   release [v,ov,iv] []):=by intro _;rfl):PG' X B (.Subscript o i pos) (FI to ti):=kJ (vW ho hi set_list ha) fun v σ H Q h=>by
 obtain⟨v',σ',H',Q',rv,s,h,k⟩:=h;refine⟨σ',H',_,s,h,fun o' H1' o H1 h1 ro s1 e1=>⟨σ',H1',_,s1,h1,fun i' H2' i H2 h2 ri s2 e2=>?_⟩⟩;unfold AA at h2;split at h2
 ·rename_i a n;obtain⟨l,j,ea,ej,q⟩:=h2;have ro2:=RP.kp X.K (e2.kp s1.hp) ro;have rv2:=RP.kp X.K ((e1.trans e2).kp s.hp) rv;simp only[RP]at ro2 ri;obtain⟨us,eg,r⟩:=s2.hp _ _ ea;have new:OAt X.K (upd H2 a (.lst (us.set j v))) a (.lst (l.set j v')):=⟨_,aT,RPs.kp X.K (s2.hp.kpw ea) (RPs.set X.K rv2 j r)⟩;exact⟨a,us,n,j,ro2,ri,eg,by rw[RPs.length _ r];exact ej,k _ _ _ _ q (s2.wr ea new) ((e1.trans e2).trans (Ev.wr ea))⟩
 ·exact h2.elim
end U
namespace TR
section
variable {prog:Program}{w:World}{A:Around}{E:Value->Shared->Prop}{s:Shared}
end
open AutoSeq1 (wpAny_loadPart')
section
variable {prog:Program}{w:World}{A:Around}{E:Value->Shared->Prop}{s:Shared}
end
end TR
namespace L2
variable {X:Cx}{a:Expr}{ta:TE}{p p2 pos pos2:Pos}
def kR(n:Nat):List V:=(List.range n).map fun k=>V.int ((k:Nat):Int)
theorem ui{n:Nat}(h:n<1000):Builtin.Range.rangeSize 0 (n:Int) 1=(n:Nat)/\Builtin.Range.small 0 (n:Int) 1=true:=by
 have e:Builtin.Range.rangeSize 0 (n:Int) 1=(n:Nat):=by
  unfold Builtin.Range.rangeSize;rw[Kw (by decide)];split<;>omega
 refine⟨e,?_⟩;unfold Builtin.Range.small;rw[e];have hn:((n:Nat):Int)≤1000:=by omega
 have h0:(0:Int)≤((n:Nat):Int):=by omega
 generalize ((n:Nat):Int)=m at *;simp only[Builtin.Range.rangeFitsLong,K8,Bool.or_eq_true,LR,LV];refine⟨⟨⟨⟨by omega,by omega⟩,by decide⟩,by omega⟩,?_⟩;refine .inr ?_;rw[Kw (by decide),K8,LR,LR];exact⟨by omega,by omega⟩
theorem uo(h:ItemsOf (fun i v=>∃t,v=Value.int (0+i*1) t) acc n):Vals (kR n) acc.toList:=by
 obtain⟨h1,h2⟩:=h;have key:∀(l:List Value) (k:Nat),(∀j v,l[j]?=some v->∃t,v=Value.int ((k+j:Nat):Int) t)->Vals ((List.range l.length).map fun j=>V.int ((k+j:Nat):Int)) l:=by
  intro l
  induction l with
  | nil=>intro k _;exact .nil
  | cons v l ih =>
   intro k hh;rw[Kt,List.range_succ_eq_map,Kc,JY];obtain⟨t,e⟩:=hh 0 v rfl;have:=ih (k+1) fun j v hj=>by
    have:=hh (j+1) v (by simpa using hj);rw[show k+1+j=k+(j+1) by omega];exact this
   refine .cons ⟨t,e⟩ ?_;have ee:((fun j=>V.int ((k+j:Nat):Int)) ∘ Nat.succ)=fun j=>V.int ((k+1+j:Nat):Int):=by
    funext j;show V.int ((k+(j+1):Nat):Int)=_;rw[show k+(j+1)=k+1+j by omega]
   rw[ee];exact this
 have:=key acc.toList 0 fun j v hj=>by
  obtain⟨t,e⟩:=h2 j v (by simpa using hj);exact⟨t,by rw[e];congr 1;omega⟩
 rw[KZ,h1]at this;unfold kR;simpa using this
end L2
namespace U
open L2
variable {B:Bs}{X:Cx}{a:Expr}{ta:TE'}{p p2 pos pos2:Pos}
theorem xy{K:LFr}:RPs K H (bN 0 n) (kR n):=by
 have e1:bN 0 n=((List.range n).map fun k=>((k:Nat):Int)).map PV.int:=by
  unfold bN;rw[JY];refine K1 fun k _=>?_;show PV.int (0+((k:Nat):Int))=PV.int ((k:Nat):Int);rw[Int.zero_add]
 have e2:kR n=((List.range n).map fun k=>((k:Nat):Int)).map V.int:=by unfold kR;rw[JY];rfl
 rw[e1,e2];exact RPs.ints K _
end U
namespace L2
variable {X:Cx}{a:Expr}{ta:TE}{p p2 pos pos2:Pos}
def Il(ta:TE):TE:=fun σ H Q=>ta σ H fun x H1=>∃n:Nat,[x]=[V.int (n:Nat)]/\n<1000/\∀q,H1 q=none->Q (.ref q) (upd H1 q (.lst (kR n)))
theorem Ax(hc:X.calm=true)(hg:Gl X "list")(hm:X.mg "list"=none)(hg2:Gl X "range")(hm2:X.mg "range"=none)(b1:bootBuiltins "list"=some (.type "list"))(ha:PE X a ta)
  (he:starEach [.Call (.Name "range" p2) [a] [] pos2] X.env=[(false,eval (.Call (.Name "range" p2) [a] [] pos2) X.env)]:=by rfl) (he2:starEach [a] X.env=[(false,eval a X.env)]:=by rfl) (hpl:(backTo pos (starEach [] X.env)).any (·.1)=false:=by rfl) (hpl2:(backTo pos2 (starEach [] X.env)).any (·.1)=false:=by rfl) :
  PE X (.Call (.Name "list" p) [.Call (.Name "range" p2) [a] [] pos2] [] pos) (Il ta):=by
 intro pins s σ H Q I h;refine L3 (di I hg hm b1 ?_ (by decide) (by decide));refine K2 ?_ he hpl;rw[he];show wpAny _ _ (spliced ((false,eval (.Call (.Name "range" p2) [a] [] pos2) X.env)::[])) _ _ s;refine Calls.spliced_cons ?_;refine L3 (di I hg2 hm2 boot_range ?_ (by decide) (by decide));refine K2 ?_ he2 hpl2;refine thn (iy ha ku he2 pos2 pins s σ H (fun xs H1=>∃n:Nat,xs=[.int (n:Nat)]/\n<1000/\∀q,H1 q=none->Q (.ref q) (upd H1 q (.lst (kR n)))) I h) fun us s1 y_=>?_;obtain⟨vs,H1,I1,r1,q1⟩:=y_;obtain⟨n,rfl,hn,q⟩:=q1;obtain⟨u,rfl,t,rfl⟩:=vals1 r1;obtain⟨e1,e2⟩:=ui hn;refine call_range_1 ?_;refine Calls.spliced_nil ?_;refine call_list_range (I.ok.hd hc) (IsRange.new ..) e2 e1 (by omega) fun h' tk acc c' kp hS hacc=>?_;have k2:∀b o,s1.heap.get? b=some o->h'.get? b=some o:=fun b o e=>kp b o (JR _ e);have hp:s1.heap.objs.size≤(s1.heap.push { cls:=.type "range",data:=.fields #[.int 0 s1.toks,.int (n:Nat) t,.int 1 (s1.toks+1)] }).objs.size:=by rw[K9];exact Nat.le_succ _
 refine⟨.ref _,_,I1.laid (t':=tk) (o:=.lst (kR n)) k2 hp ?_,rfl,q _ (I1.hok.fresh hp)⟩;refine⟨by unfold kR;rw[JN,Kh,K3];omega,acc.toList,c',uo hacc,?_⟩;have e:acc.toList.toArray=acc:=by simp
 rw[e];exact hS
end L2
namespace U
open L2
variable {B:Bs}{X:Cx}{a:Expr}{ta:TE'}{p p2 pos pos2:Pos}
def lsR(x:PV)(H:PHp)(Q:VK'):Prop:=match x with
 | .int i=>0≤i/\i<1000/\∀r,H r=none->Q (.ref r) (put H r (.lst (bN 0 i.toNat)))
 | _=>False
theorem GW:lsR (.int i) H Q=(0≤i/\i<1000/\∀r,H r=none->Q (.ref r) (put H r (.lst (bN 0 i.toNat)))):=rfl
def DU(ta:TE'):TE':=fun σ H Q=>ta σ H fun x H1=>lsR x H1 Q
theorem Bn(hc:X.calm=true)(hg:Gl X "list")(hm:X.mg "list"=none)(hg2:Gl X "range")(hm2:X.mg "range"=none)(b1:bootBuiltins "list"=some (.type "list"))(ha:PE' X B a ta)
  (he:starEach [.Call (.Name "range" p2) [a] [] pos2] X.env=[(false,eval (.Call (.Name "range" p2) [a] [] pos2) X.env)]:=by rfl) (he2:starEach [a] X.env=[(false,eval a X.env)]:=by rfl) (hpl:(backTo pos (starEach [] X.env)).any (·.1)=false:=by rfl) (hpl2:(backTo pos2 (starEach [] X.env)).any (·.1)=false:=by rfl) :
  PE' X B (.Call (.Name "list" p) [.Call (.Name "range" p2) [a] [] pos2] [] pos) (DU ta) :=
 aQ (Ax hc hg hm hg2 hm2 b1 ha he he2 hpl hpl2) fun σ H Q h=>by
  obtain⟨σ',H',Q',s,h,k⟩:=h;refine⟨σ',H',_,s,h,fun x' H1' x H1 h1 rx s1 e1=>?_⟩;cases x' with
  | int i =>
   obtain⟨h0,h3,q⟩:=h1;simp only[RP]at rx;refine⟨i.toNat,by rw[rx,Int.toNat_of_nonneg h0],by omega,fun r hr=>?_⟩;exact k _ _ _ _ (q r (s1.hp.free hr)) (by simp[RP]) (s1.new hr (nE hr xy)) (e1.trans (Ev.new hr))
  | _=>exact h1.elim
end U
namespace L2
variable {X:Cx}
theorem sZ{ws:List Value}(ht:IsTup s.heap t ([]:List Value).toArray)(hb:IsTup s.heap b ws.toArray)(h:Q (.ref b) s):wpAny (model prog w) A (binaryOp .Add (.ref t) (.ref b)) Q E s:=by
 obtain⟨⟨cls,dd,data,sl⟩,g,hc,n,g2⟩:=id ht;obtain⟨⟨cls2,dd2,data2,sl2⟩,k,hc2,n2,k2⟩:=id hb;simp only at hc g2 hc2 k2;subst hc g2 hc2 k2;exact concat_meets ⟨_,g,rfl⟩ ⟨_,k,rfl⟩ noFill_tuple_add seq_tuple_add PySem.F.slot_tuple_add PySem.F.entry_tuple_add (PySem.F.args_tuple_add_2 _ _) (tuple_addW0 t b _ ws.toArray n n2 dd dd2 sl sl2 rfl) ⟨g,k,h⟩
def zW(K:LFr):R2:=fun x y H Q=>∃a b xs ys,x=.ref a/\y=.ref b/\SqT K H a xs/\SqT K H b ys/\xs.length+ys.length≤sizeLine/\(xs=[]->Q (.ref b) H)/\(ys=[]->Q (.ref a) H)/\(ys≠[]->∀p,H p=none->Q (.ref p) (upd H p (.tup (xs++ys))))
theorem x8:OpR X (binaryOp .Add) (zW X.K):=by
 intro pins s σ H x y v u Q I rx ry h;obtain⟨a,b,xs,ys,rfl,rfl,ha,hb,hz,q0,q1,q2⟩:=h;by_cases e:xs=[]
 ·cases rx;cases ry;subst e;obtain⟨its,r1,p1,_⟩:=I.tuple ha;obtain⟨its2,r2,p2,_⟩:=I.tuple hb;cases r1;exact sZ p1 p2 ⟨.ref b,H,I,rfl,q0 rfl⟩
 ·exact x5 pins s σ H _ _ v u Q I rx ry ⟨a,b,xs,ys,rfl,rfl,ha,hb,e,hz,q1,q2⟩
end L2
namespace U
open L2
variable {B:Bs}{X:Cx}{a b:Expr}{ta tb:TE'}{pos:Pos}
def lW:R2':=fun x y H Q=>match x,y with
 | .tup l,.tup m=>l.length+m.length≤sizeLine/\Q (.tup (l++m)) H
 | _,_=>False
theorem GQ:lW (.tup l) (.tup m) H Q=(l.length+m.length≤sizeLine/\Q (.tup (l++m)) H):=rfl
theorem yD{K:LFr}:VR K B lW (zW K):=by
 intro σ' σ H' H x' y' x y Q' Q s rx ry h k;unfold lW at h;split at h
 ·rename_i l m;obtain⟨hl,q⟩:=h;have rx':=rx;have ry':=ry;simp only[RP]at rx ry;obtain⟨a,us,rfl,ha,r1⟩:=rx;obtain⟨b,ws,rfl,hb,r2⟩:=ry;have l1:=RPs.length _ r1;have l2:=RPs.length _ r2;refine⟨a,b,us,ws,rfl,rfl,ha,hb,by rw[l1,l2];exact hl,fun e=>?_,fun e=>?_,fun e p hp=>?_⟩
  ·have:l=[]:=List.length_eq_zero_iff.mp (by rw[←l1,e];rfl);rw[this,List.nil_append]at q;exact k _ _ _ _ q ry' s (Ev.refl _ _)
  ·have:m=[]:=List.length_eq_zero_iff.mp (by rw[←l2,e];rfl);rw[this,K4]at q;exact k _ _ _ _ q rx' s (Ev.refl _ _)
  ·exact k _ _ _ _ q (lI hp (RPs.append _ r1 r2)) (s.hid hp) (Ev.hid hp)
 ·exact h.elim
theorem qj(ha:PE' X B a ta)(hb:PE' X B b tb):PE' X B (.BinOp a .Add b pos) (uOp lW ta tb):=hE x8 yD ha hb
end U
namespace L2
section
variable {prog:Program}{w:World}{A:Around}{E:Value->Shared->Prop}{s:Shared}
theorem eQ{lo hi:Option Int}(tA:IsTup s.heap t items)(sA:s.heap.IsSliceOf sl vl vu .none)(pA:IsPart vl lo)(pB:IsPart vu hi)
  (hw:HT.sIx items.size 0 lo=0/\HT.sIx items.size items.size hi=items.size) (h:Q (.ref t) s):wpAny (model prog w) A (getItem (.ref t) (.ref sl)) Q E s:=by
 obtain⟨os,hos,hcs,hds⟩:=id sA;have tB:s.TypeIs (.ref sl) "slice":=⟨os,hos,hcs⟩;unfold getItem
 try with_reducible refine LG ?_
 first | refine JP (JT ?_) | skip
 refine JP (wpAny_sequenceKey tA.typeIs (by decide) ?_);refine JP (KU (name:=Str.ofString "__getitem__") tA.typeIs PyProof.Rows.slot_tuple_getitem
  (KW PyProof.Rows.slot_tuple_getitem tA.typeIs entry_tuple_getitem ?_ (args_tuple_getitem _ _)))
 show wpAny _ _ (Builtin.Tuple.tupleItemsOf (.ref t) >>= _) _ _ s;refine JP (tupleItemsOf_ tA ?_);refine JP (wpAny_typeOf tB ?_);rw[Kw (by decide)];refine JP (HT.dr sA pA pB ?_);have hyes:(((HT.sIx items.size 0 lo:Nat):Int)==0&&(1:Int)==1&&(HT.sIx items.size items.size hi - HT.sIx items.size 0 lo)==items.size)=true:=by
  rw[hw.1,hw.2];simp
 show wpAny _ _ (if (((HT.sIx items.size 0 lo:Nat):Int)==0&&(1:Int)==1&&(HT.sIx items.size items.size hi - HT.sIx items.size 0 lo)==items.size)=true then _ else _) _ _ s;rw[Kw hyes];unfold Builtin.Tuple.tupleIsExact;have hT:=tA.typeIs
 wp_walk
 exact⟨_,rfl,JT h⟩
end
variable {X:Cx}
def JC(K:LFr):V->Option Int->Option Int->Hp->VK->Prop:=fun x lo hi H Q=>∃a xs,x=.ref a/\SqT K H a xs /\
 ((HT.sIx xs.length 0 lo=0/\HT.sIx xs.length xs.length hi=xs.length)->Q (.ref a) H)/\(¬(HT.sIx xs.length 0 lo=0/\HT.sIx xs.length xs.length hi=xs.length)->∀p,H p=none->Q (.ref p) (upd H p (.tup (kH xs lo hi))))
theorem yR:SlR X (JC X.K):=by
 intro pins s σ H x v vl vu lo hi sl Q I rx hs pl pu h;obtain⟨a,xs,rfl,hx,q1,q2⟩:=h;by_cases hw:HT.sIx xs.length 0 lo=0/\HT.sIx xs.length xs.length hi=xs.length
 ·cases rx;obtain⟨its,r,ht,hz⟩:=I.tuple hx;have hlen:its.toArray.size=xs.length:=by rw[Kb];exact r.length.symm
  refine⟨"tuple",_,PyProof.Rows.slot_tuple_getitem.lookup,ht.typeIs,?_⟩;exact eQ ht hs pl pu (by rw[hlen];exact hw) ⟨.ref a,H,I,rfl,q1 hw⟩
 ·exact AZ pins s σ H _ v vl vu lo hi sl Q I rx hs pl pu ⟨a,xs,rfl,hx,hw,q2 hw⟩
end L2
namespace U
open L2
section
variable {B:Bs}{X:Cx}{e:Expr}{ta:TE'}{pos:Pos}
def tK(x:PV)(lo hi:Option Int)(H3:PHp)(Q:VK'):Prop:=match x with
 | .tup l=>Q (.tup (eY l lo hi)) H3
 | _=>False
theorem Hm{lo hi:Option Int}:tK (.tup l) lo hi H Q=Q (.tup (eY l lo hi)) H:=rfl
def oJ(ta:TE')(tl th:TO'):TE':=fun σ H Q=>ta σ H fun x H1=>tl σ H1 fun lo H2=>th σ H2 fun hi H3=>tK x lo hi H3 Q
theorem qI{lo hi:Option Expr}(he:PE' X B e ta)(hl:PO' X B lo tl)(hu:PO' X B hi th):PE' X B (.Subscript e (.Slice lo hi none p2) pos) (oJ ta tl th) :=
 aQ (vo yR he hl hu) fun σ H Q y_=>by
 obtain⟨σ',H',Q',s,h,k⟩:=y_;refine⟨σ',H',_,s,h,fun x H1' v H1 h1 r1 s1 e1=>⟨σ',H1',_,s1,h1,fun l H2' H2 h2 s2 e2=>⟨σ',H2',_,s2,h2,fun u H3' H3 h3 s3 e3=>?_⟩⟩⟩;have r3:=RP.kp _ (e3.kp s2.hp) (RP.kp _ (e2.kp s1.hp) r1);have e123:=e1.trans (e2.trans e3);cases x with
 | tup xs =>
  have r3':=r3;simp only[RP]at r3;obtain⟨a,us,e,q,r⟩:=r3;refine⟨a,us,e,q,fun hw=>?_,fun _ p n=>?_⟩
  ·have ex:eY xs l u=xs:=by
    unfold eY;rw[RPs.length _ r]at hw;rw[hw.1,hw.2,List.drop_zero,Nat.sub_zero,Ke]
   have h4:Q' (.tup (eY xs l u)) H3':=h3;rw[ex]at h4;rw[←e];exact k _ _ _ _ h4 r3' s3 e123
  ·exact k _ _ _ _ h3 (lI n (Ck r)) (s3.hid n) (e123.trans (Ev.hid n))
 | _=>exact h3.elim
end
section
variable {B:Bs}{X:Cx}{o i:Expr}{pos pos':Pos}{td ty:TE'}
theorem oS{K:LFr}(h:RP K H (tI t) v):∃b,v=.ref b/\qP K H t b:=by
 unfold tI at h;simp only[RP]at h;obtain⟨b,us,e,q,r⟩:=h;have:=RPs.ints_eq K r;subst this;exact⟨b,e,q⟩
theorem fD{K:LFr}{H:Hp}:∀{ks:List (List Int)} {as:List Addr},RPs K H (ks.map tI) (as.map V.ref)->i0 K H ks as
 | [],[],_=>.nil
 | [],a::as,h=>by simp[RPs]at h
 | k::ks,[],h=>by
  simp only[Kc,Lc,RPs]at h;obtain⟨u,r,e,_⟩:=h;cases e
 | k::ks,a::as,h=>by
  simp only[Kc,RPs]at h;obtain⟨u,r,e,h1,h2⟩:=h;cases e;obtain⟨a',e,n⟩:=oS h1;cases e;exact .cons n (fD h2)
def sH(P:Program)(w:World):TE':=fun _ H Q=>∀p,H p=none->Q (.ref p) (put H p (.dI P w [] 0))
theorem iK:PE' X B (.Dict [] [] pos) (sH X.prog X.w):=aQ vq fun σ H Q y_ p hp=>by
 obtain⟨σ',H',Q',s,h,k⟩:=y_;have hp':=s.hp.free hp;exact k _ _ _ _ (h p hp') (by simp[RP]) (s.new hp ⟨[],[],aT,RPs.nil _,RPs.nil _⟩) (Ev.new hp)
def Bd(P:Program)(w:World)(f:Bool->Bool):R2':=fun x y H Q=>match x,y with
 | .tup l,.ref d=>∃k:List Int,∃kvs ep,l=k.map PV.int/\H d=some (.dI P w kvs ep)/\Q (.bl (f (decide (k∈kvs.map (·.1))))) H
 | _,_=>False
theorem w_inI:Bd P w f (.tup l) (.ref d) H Q=(∃k:List Int,∃kvs ep,l=k.map PV.int/\H d=some (.dI P w kvs ep)/\Q (.bl (f (decide (k∈kvs.map (·.1))))) H):=rfl
theorem Co{K:LFr}:VR K B (Bd P w f) (FZ P w K f):=by
 intro σ' σ H' H x' y' x y Q' Q s rx ry h k;unfold Bd at h;split at h
 ·rename_i l d;obtain⟨t,kvs,ep,rfl,hd,q⟩:=h;obtain⟨a,rfl,ha⟩:=oS (t:=t) rx;simp only[RP]at ry;subst ry;obtain⟨as,vs,ha2,hr,_⟩:=s.hp _ _ hd;exact⟨a,d,t,_,as,vs,ep,rfl,ha,rfl,ha2,fD hr,k _ _ _ _ q (by simp[RP]) s (Ev.refl _ _)⟩
 ·exact h.elim
def lk(kvs:List (List Int×PV))(k:List Int):Option PV:=(kvs.find? fun p=>decide (p.1=k)).map (·.2)
theorem zy{K:LFr}{H:Hp}{k:List Int}{v:PV}:∀{kvs:List (List Int×PV)} {vs:List V},RPs K H (kvs.map (·.2)) vs->lk kvs k=some v->k∈kvs.map (·.1)/\∀u,dW ((kvs.map (·.1)).zip vs) k=some u->RP K H v u
 | [],_,_,e=>by cases e
 |(j,y)::kvs,vs,r,e=>by
  simp only[Kc,RPs]at r;obtain⟨u,us,rfl,r1,r2⟩:=r;by_cases q:j=k
  ·have e2:lk ((j,y)::kvs) k=some y:=by unfold lk;simp[Lu,q]
   rw[e2]at e;cases e;refine⟨by simp[q],fun w hw=>?_⟩;have e3:dW ((j,u)::(kvs.map (·.1)).zip us) k=some u:=gh q;have hw:dW ((j,u)::(kvs.map (·.1)).zip us) k=some w:=hw;rw[e3]at hw;cases hw;exact r1
  ·have e2:lk ((j,y)::kvs) k=lk kvs k:=by unfold lk;simp[Lu,q]
   rw[e2]at e;obtain⟨a,b⟩:=zy r2 e;refine⟨J8 _ a,fun w hw=>b w ?_⟩;have hw:dW ((j,u)::(kvs.map (·.1)).zip us) k=some w:=hw
   rwa [fS (show ¬(j,u).1=k from q)]at hw
def zD(P:Program)(w:World)(td ty:TE'):TE':=fun σ H Q=>td σ H fun x H1=>ty σ H1 fun y H2=>match x,y with
 | .ref d,.tup l=>∃k:List Int,∃kvs ep v,l=k.map PV.int/\H2 d=some (.dI P w kvs ep)/\lk kvs k=some v/\Q v H2
 | _,_=>False
theorem ir(hu:X.A.units+64<cLine)(ho:PE' X B o td)(hi:PE' X B i ty)(hs:A0 i):PE' X B (.Subscript o i pos) (zD X.prog X.w td ty):=aQ (xj hu ho hi hs) fun σ H Q y_=>by
 obtain⟨σ',H',Q',s,h,k⟩:=y_;refine⟨σ',H',_,s,h,fun x' H1' x H1 h1 rx s1 e1=>⟨σ',H1',_,s1,h1,fun y' H2' y H2 h2 ry s2 e2=>?_⟩⟩;split at h2
 ·rename_i d l;obtain⟨t,kvs,ep,v,rfl,hd,hv,q⟩:=h2;have rx2:=RP.kp X.K (e2.kp s1.hp) rx;simp only[RP]at rx2;subst rx2;obtain⟨a,rfl,ha⟩:=oS (t:=t) ry;obtain⟨as,vs,ha2,hr,hw⟩:=s2.hp _ _ hd;obtain⟨hm,hu⟩:=zy hw hv;exact⟨d,a,t,_,as,vs,ep,rfl,rfl,ha,ha2,fD hr,hm,fun u e=>k _ _ _ _ q (hu u e) s2 (e1.trans e2)⟩
 ·exact h2.elim
def gH(kvs:List (List Int×PV))(k:List Int)(v:PV):List (List Int×PV):=if k∈kvs.map (·.1)then kvs.map (fun p=>if p.1=k then(p.1,v)else p)else kvs++[(k,v)]
def Ai(P:Program)(w:World)(o i v:PV)(H:PHp)(Q:PHp->Prop):Prop:=match o,i with
 | .ref d,.tup l=>∃k:List Int,∃kvs ep,l=k.map PV.int/\H d=some (.dI P w kvs ep)/\kvs.length<1000/\∀ep',Q (put H d (.dI P w (gH kvs k v) ep'))
 | _,_=>False
theorem C1:Ai P w (.ref d) (.tup l) v H Q=(∃k:List Int,∃kvs ep,l=k.map PV.int/\H d=some (.dI P w kvs ep)/\kvs.length<1000/\∀ep',Q (put H d (.dI P w (gH kvs k v) ep'))):=rfl
def zo(P:Program)(w:World)(to ti:TE'):TG':=fun v σ H Q=>to σ H fun o H1=>ti σ H1 fun i H2=>Ai P w o i v H2 fun H3=>Q σ H3
theorem eR(h:k∈kvs.map (·.1)):(gH kvs k v).map (·.1)=kvs.map (·.1):=by
 unfold gH;rw[Kw h,JY];refine K1 fun p _=>?_;show(if p.1=k then(p.1,v)else p).1=p.1;split<;>rfl
theorem kf{K:LFr}{H:Hp}{k:List Int}{v:PV}{u:V}(r:RP K H v u):∀{kvs:List (List Int×PV)} {vs:List V},RPs K H (kvs.map (·.2)) vs->RPs K H ((kvs.map fun p=>if p.1=k then(p.1,v)else p).map (·.2)) (mq (kvs.map (·.1)) vs k u)
 | [],_,h=>by simp only[Lc,RPs]at h;subst h;exact RPs.nil _
 |(j,y)::kvs,vs,h=>by
  simp only[Kc,RPs]at h;obtain⟨x,us,rfl,h1,h2⟩:=h;refine RPs.cons _ ?_ (kf r h2);show RP K H (if j=k then(j,v)else(j,y)).2 (if j=k then u else x);split
  ·exact r
  ·exact h1
theorem il{to ti:TE'}(hu:X.A.units+64<cLine)(ho:PE' X B o to)(hi:PE' X B i ti) (ha:∀v,assign (.Subscript o i pos) X.env v=(do
   let ov←holding [v] (eval o X.env);let iv←holding [v,ov] (eval i X.env)
   standAt pos;holding [v,ov,iv] (setItem ov iv v);release [v,ov,iv] []):=by intro _;rfl):PG' X B (.Subscript o i pos) (zo X.prog X.w to ti):=kJ (vW ho hi (An hu) ha) fun v σ H Q h=>by
 obtain⟨v',σ',H',Q',rv,s,h,k⟩:=h;refine⟨σ',H',_,s,h,fun o' H1' o H1 h1 ro s1 e1=>⟨σ',H1',_,s1,h1,fun i' H2' i H2 h2 ri s2 e2=>?_⟩⟩;unfold Ai at h2;split at h2
 ·rename_i d l;obtain⟨t,kvs,ep,rfl,ed,hl,q⟩:=h2;have ro2:=RP.kp X.K (e2.kp s1.hp) ro;have rv2:=RP.kp X.K (e2.kp s1.hp) (RP.kp X.K (e1.kp s.hp) rv);simp only[RP]at ro2;subst ro2;obtain⟨a,rfl,hk⟩:=oS (t:=t) ri;obtain⟨as,vs,ha2,hr,hw⟩:=s2.hp _ _ ed;refine⟨d,_,as,vs,ep,t,a,rfl,rfl,ha2,fD hr,hk,by rw[JN];exact hl,fun ep'=>⟨fun hm=>?_,fun hm=>?_⟩⟩
  ·refine k _ _ _ _ (q ep') (s2.wr ed ⟨as,mq (kvs.map (·.1)) vs t v,?_,?_,?_⟩) (e1.trans (e2.trans (Ev.wr ed)))
   ·rw[eR hm];exact aT
   ·rw[eR hm];exact RPs.kp X.K (s2.hp.kpw ed) hr
   ·unfold gH;rw[Kw hm];exact RPs.kp X.K (s2.hp.kpw ed) (kf rv2 hw)
  ·have e:gH kvs t v'=kvs++[(t,v')]:=by unfold gH;rw[Kq hm]
   have q:=q ep';rw[e]at q;refine k _ _ _ _ q (s2.wr ed ⟨as++[a],vs++[v],?_,?_,?_⟩) (e1.trans (e2.trans (Ev.wr ed)))
   ·rw[J9];exact aT
   ·rw[J9,J9,J9];exact RPs.kp X.K (s2.hp.kpw ed) (RPs.append _ hr (RPs.cons _ ri (RPs.nil _)))
   ·rw[J9];exact RPs.kp X.K (s2.hp.kpw ed) (RPs.append _ hw (RPs.cons _ rv2 (RPs.nil _)))
 ·exact h2.elim
def vx(P:Program)(w:World):List PV->PHp->VK'->Prop:=cG fun x H Q=>match x with
 | .ref d=>∃kvs ep,H d=some (.dI P w kvs ep)/\kvs.length<1000/\∀r,H r=none->Q (.ref r) (put H r (.lst ((kvs.map (·.1)).map tI)))
 | _=>False
theorem yg:vx P w [.ref d] H Q=(∃kvs ep,H d=some (.dI P w kvs ep)/\kvs.length<1000/\∀r,H r=none->Q (.ref r) (put H r (.lst ((kvs.map (·.1)).map tI)))):=rfl
theorem lP{K:LFr}:VC K B (vx P w) (vF P w):=by
 intro σ' σ H' H xs' xs Q' Q s r h k;obtain⟨x',x,rfl,rfl,rx,h⟩:=cG.ex h r;cases x' with
 | ref d =>
  obtain⟨kvs,ep,ed,hl,q⟩:=h;simp only[RP]at rx;subst rx;obtain⟨as,vs,ha2,hr,hw⟩:=s.hp _ _ ed;exact⟨d,_,as,vs,ep,rfl,ha2,by rw[JN];exact hl,fun r hn=>k _ _ _ _ (q r (s.hp.free hn)) (by simp[RP]) (s.new hn (nE hn hr)) (Ev.new hn)⟩
 | _=>exact h.elim
def vL(P:Program)(w:World):List PV->PHp->VK'->Prop:=cG fun x H Q=>match x with
 | .ref v=>∃d kvs ep,H v=some (.vw d)/\H d=some (.dI P w kvs ep)/\kvs.length<1000/\∀r,H r=none->Q (.ref r) (put H r (.lst (kvs.map (·.2))))
 | _=>False
theorem x6:vL P w [.ref v] H Q=(∃d kvs ep,H v=some (.vw d)/\H d=some (.dI P w kvs ep)/\kvs.length<1000/\∀r,H r=none->Q (.ref r) (put H r (.lst (kvs.map (·.2))))):=rfl
theorem uk{K:LFr}:VC K B (vL P w) (uB P w):=by
 intro σ' σ H' H xs' xs Q' Q s r h k;obtain⟨x',x,rfl,rfl,rx,h⟩:=cG.ex h r;cases x' with
 | ref v =>
  obtain⟨d,kvs,ep,ev,ed,hl,q⟩:=h;simp only[RP]at rx;subst rx;have hv:=s.hp _ _ ev;obtain⟨as,vs,ha2,hr,hw⟩:=s.hp _ _ ed;exact⟨v,d,_,as,vs,ep,rfl,hv,ha2,by rw[JN];exact hl,fun r hn=>k _ _ _ _ (q r (s.hp.free hn)) (by simp[RP]) (s.new hn (nE hn hw)) (Ev.new hn)⟩
 | _=>exact h.elim
def vi(P:Program)(w:World):List PV->PHp->VK'->Prop:=cG fun x H Q=>match x with
 | .ref d=>∃kvs ep,H d=some (.dI P w kvs ep)/\0<kvs.length/\kvs.length<1000/\((kvs.map (·.1)).map (hI P w)).Nodup/\∀r ep',H r=none->Q (.ref r) (put H r (.dI P w kvs ep'))
 | _=>False
theorem xo:vi P w [.ref d] H Q=(∃kvs ep,H d=some (.dI P w kvs ep)/\0<kvs.length/\kvs.length<1000/\((kvs.map (·.1)).map (hI P w)).Nodup/\∀r ep',H r=none->Q (.ref r) (put H r (.dI P w kvs ep'))):=rfl
theorem uP{K:LFr}:VC K B (vi P w) (t8 P w K):=by
 intro σ' σ H' H xs' xs Q' Q s r h k;obtain⟨x',x,rfl,rfl,rx,h⟩:=cG.ex h r;cases x' with
 | ref d =>
  obtain⟨kvs,ep,ed,h0,hl,hn,q⟩:=h;simp only[RP]at rx;subst rx;obtain⟨as,vs,ha2,hr,hw⟩:=s.hp _ _ ed;exact⟨d,_,as,vs,ep,rfl,ha2,fD hr,by rw[JN];exact h0,by rw[JN];exact hl,hn,fun r ep' hn=>k _ _ _ _ (q r ep' (s.hp.free hn)) (by simp[RP]) (s.new hn ⟨as,vs,aT,RPs.kp K (dC hn) hr,RPs.kp K (dC hn) hw⟩) (Ev.new hn)⟩
 | _=>exact h.elim
def sE(P:Program)(w:World)(to:TE'):TE':=fun σ H Q=>to σ H fun x H1=>match x with
 | .ref d=>(∃kvs ep,H1 d=some (.dI P w kvs ep))/\∀p,H1 p=none->Q (.ref p) (put H1 p (.vw d))
 | _=>False
theorem lC{to:TE'}{apos cpos:Pos}(ho:PE' X B o to)(hbase:attributeBase o "values" X.env (eval o X.env)=eval o X.env:=by rfl)(hline:(apos.endLine==cpos.line)=true:=by rfl):PE' X B (.Call (.Attribute o "values" apos) [] [] cpos) (sE X.prog X.w to) :=
 aQ (tj PySem.F.slot_dict_values PySem.F.type_dict_values (fun pins s σ H d Q I h=>v5 I h) ho hbase hline) fun σ H Q y_=>by
 obtain⟨σ',H',Q',s,h,k⟩:=y_;refine⟨σ',H',_,s,h,fun x' H1' x H1 h1 rx s1 e1=>?_⟩;cases x' with
 | ref d =>
  simp only[RP]at rx;subst rx;obtain⟨⟨kvs,ep,ed⟩,q⟩:=h1;obtain⟨as,vs,ha2,hr,hw⟩:=s1.hp _ _ ed;exact⟨d,rfl,⟨_,as,vs,ep,ha2⟩,fun p hn=>k _ _ _ _ (q p (s1.hp.free hn)) (by simp[RP]) (s1.new hn aT) (e1.trans (Ev.new hn))⟩
 | _=>exact h1.elim
def zL(P:Program)(w:World)(to:TE'):TE':=fun σ H Q=>to σ H fun x H1=>match x with
 | .ref d=>∃kvs ep,H1 d=some (.dI P w kvs ep)/\kvs.length<1000/\∀ep',Q .non (put H1 d (.dI P w [] ep'))
 | _=>False
theorem pT{to:TE'}{apos cpos:Pos}(ho:PE' X B o to)(hbase:attributeBase o "clear" X.env (eval o X.env)=eval o X.env:=by rfl)(hline:(apos.endLine==cpos.line)=true:=by rfl):PE' X B (.Call (.Attribute o "clear" apos) [] [] cpos) (zL X.prog X.w to) :=
 aQ (tj PySem.F.slot_dict_clear PySem.F.type_dict_clear (fun pins s σ H d Q I h=>C7 I h) ho hbase hline) fun σ H Q y_=>by
 obtain⟨σ',H',Q',s,h,k⟩:=y_;refine⟨σ',H',_,s,h,fun x' H1' x H1 h1 rx s1 e1=>?_⟩;cases x' with
 | ref d =>
  simp only[RP]at rx;subst rx;obtain⟨kvs,ep,ed,hl,q⟩:=h1;obtain⟨as,vs,ha2,hr,hw⟩:=s1.hp _ _ ed;exact⟨d,rfl,_,as,vs,ep,ha2,by rw[JN];exact hl,fun ep'=>k _ _ _ _ (q ep') (by simp[RP]) (s1.wr ed ⟨[],[],aT,RPs.nil _,RPs.nil _⟩) (e1.trans (Ev.wr ed))⟩
 | _=>exact h1.elim
def FC(P:Program)(w:World)(ta:TE'):TI':=fun σ H R=>ta σ H fun x H1=>match x with
 | .ref d=>∃kvs ep,H1 d=some (.dI P w kvs ep)/\R ⟨(kvs.map (·.1)).map tI,fun H=>H d=some (.dI P w kvs ep)⟩ H1
 | _=>False
theorem E4(ha:PE' X B a ta):PIH X B tg a (FC X.prog X.w ta):=dO (Fv ha) fun σ H R y_=>by
 obtain⟨σ',H',R',s,h,k⟩:=y_;refine⟨σ',H',_,s,h,fun x' H1' x H1 h1 rx s1 e1=>?_⟩;cases x' with
 | ref d =>
  simp only[RP]at rx;subst rx;obtain⟨kvs,ep,ed,h1⟩:=h1;obtain⟨as,vs,ha2,hr,hw⟩:=s1.hp _ _ ed;refine⟨d,_,as,vs,ep,rfl,ha2,k _ H1' _ H1 h1 ⟨fun H2' H2 i k2 hr o hi=>?_,fun H2' H2 i x H3 k2 hr o y=>?_,fun H2' H2 k2 hr o=>?_⟩ s1 e1⟩
  ·obtain⟨as,vs,a1,_⟩:=hr _ _ o;exact⟨⟨_,as,vs,a1,rfl⟩,by simpa using hi⟩
  ·obtain⟨rfl,q⟩:=y;obtain⟨as,vs,a1,a2,_⟩:=hr _ _ o;obtain⟨b,hb,rfl⟩:=q _ _ _ a1;refine⟨hr,Ev.refl _ _,fun x' hx=>?_⟩;obtain⟨u,eu,ru⟩:=RPs.get _ a2 hx;rw[JV,hb]at eu;cases eu;exact ru
  ·obtain⟨as,vs,a1,_⟩:=hr _ _ o;exact⟨⟨_,as,vs,a1,rfl⟩,by simp⟩
 | _=>exact h1.elim
def Dm(P:Program)(w:World)(ta:TE'):TI':=fun σ H R=>ta σ H fun x H1=>match x with
 | .ref v=>∃d kvs ep,H1 v=some (.vw d)/\H1 d=some (.dI P w kvs ep)/\R ⟨kvs.map (·.2),fun H=>H d=some (.dI P w kvs ep)⟩ H1
 | _=>False
theorem DE(ha:PE' X B a ta):PIH X B tg a (Dm X.prog X.w ta):=dO (Eg ha) fun σ H R y_=>by
 obtain⟨σ',H',R',s,h,k⟩:=y_;refine⟨σ',H',_,s,h,fun x' H1' x H1 h1 rx s1 e1=>?_⟩;cases x' with
 | ref v =>
  simp only[RP]at rx;subst rx;obtain⟨d,kvs,ep,ev,ed,h1⟩:=h1;have hv:=s1.hp _ _ ev;obtain⟨as,vs,ha2,hr,hw⟩:=s1.hp _ _ ed;refine⟨v,d,_,as,vs,ep,rfl,hv,ha2,k _ H1' _ H1 h1 ⟨fun H2' H2 i k2 hr o hi=>?_,fun H2' H2 i x H3 k2 hr o y=>?_,fun H2' H2 k2 hr o=>?_⟩ s1 e1⟩
  ·obtain⟨as,vs,a1,_⟩:=hr _ _ o;exact⟨⟨_,as,vs,a1,rfl⟩,by simpa using hi⟩
  ·obtain⟨rfl,q⟩:=y;obtain⟨as,vs,a1,_,a3⟩:=hr _ _ o;have:=q _ _ _ a1;refine⟨hr,Ev.refl _ _,fun x' hx=>?_⟩;obtain⟨u,eu,ru⟩:=RPs.get _ a3 hx;rw[this]at eu;cases eu;exact ru
  ·obtain⟨as,vs,a1,_⟩:=hr _ _ o;exact⟨⟨_,as,vs,a1,rfl⟩,by simp⟩
 | _=>exact h1.elim
end
end U
namespace L2
def Fq(K:LFr)(a:Addr):It :=
 ⟨fun i H=>∃xs x,SqL K H a xs/\xs[i]?=some x,fun i H x H'=>∃T y,H T=none/\x=.ref T/\H'=upd H T (.tup [.int (i:Nat),y])/\∀xs,SqL K H a xs->xs[i]?=some y,fun i H=>∃xs,SqL K H a xs/\xs.length=i⟩
theorem uf{K:LFr}(a it e:Addr):Turn P w K (.Tuple elts k1 tpos) (Fq K a) [e,it] e (fun i h=>(∃old,IsEnum h e it (i:Nat) old)/\h.IsListIter it a i) where
 mem:=by simp
 obj:=fun i h st b hb=>by
  obtain⟨⟨old,he⟩,o,ho,hc,hd⟩:=st;rcases J7.mp hb with rfl | hb
  ·exact⟨_,he,fun v z=>by
    have z':Data.fields _=Data.cell v:=z;cases z'⟩
  ·rw[Ka.mp hb];exact⟨o,ho,fun v z=>by rw[hd]at z;cases z⟩
 keep:=fun i h h' st k=>by
  obtain⟨⟨old,he⟩,hi⟩:=st;exact⟨⟨old,k e (by simp) _ he⟩,hi.at fun o x=>k it (by simp) o x⟩
 item:=by
  intro X hP hw hK hc i pins s σ H E I hf st hg;subst hP hw hK;obtain⟨xs,x,hq,hx⟩:=hg;obtain⟨its,rv,p,hz⟩:=I.list hq;obtain⟨u,hu,ru⟩:=rv.get hx;obtain⟨⟨old,he⟩,hi⟩:=st;have p':s.heap.IsList a its.toArray:=p.isList;obtain⟨oa,ha,ca,_⟩:=id p';obtain⟨oi,hoi,ci,_⟩:=id hi;have nai:a≠it:=dY ha hoi ca ci (by decide);have nei:e≠it:=dY he hoi rfl ci (by decide);have nea:e≠a:=dY he ha rfl ca (by decide);refine wpAny_pyNext_enum_item (x:=u) he hi p' (by simpa using hu) nei fun h1 ho hs1 hT hsz hk=>?_;refine⟨_,rfl,wpAny_letOwnedTupleGo_enum (s:={ s with heap:=h1,toks:=s.toks+1 }) ho fun h2 he2 sb=>?_⟩;have sb2:Heap.SameBut e h1 h2:=sb;have hlte:e<s.heap.objs.size:=J0 he;have hT2:h2.get? s.heap.objs.size=some { cls:=.type "tuple",data:=.seq #[.int i s.toks,u] }:=(sb2.2 _ (Lx hlte)).trans hT;have kk:∀b o,b≠e->b≠it->s.heap.get? b=some o->h2.get? b=some o:=fun b o n1 n2 q=>(sb2.2 b n1).trans (hk b o n1 n2 q);have hn:H s.heap.objs.size=none:=I.hok.fresh (JW _);have fe:=hf e (by simp);have fi:=hf it (by simp);have nit:∀b v,H b=some v->b≠e/\b≠it:=fun b v q=>⟨fun z=>(by rw[z,fe.1]at q;cases q),fun z=>(by rw[z,fi.1]at q;cases q)⟩;refine⟨.ref s.heap.objs.size,upd H s.heap.objs.size (.tup [.int (i:Nat),x]),?_,rfl,⟨_,x,hn,rfl,rfl,fun ys hy'=>by rw[I.list_inj hy' hq];exact hx⟩,⟨⟨u,by simpa using he2⟩,?_⟩,fun b hb=>?_⟩
  ·show Inv X pins σ _ { s with heap:=h2,toks:=s.toks+1 };refine I.step (h':=h2) (g':=s.gens) (d':=s.drawn) (t':=s.toks+1) (ch:=[e,it]) (fun b hb=>?_) (fun b o _ _ hc q _=>kk b o (fun z=>hc (by simp[z])) (fun z=>hc (by simp[z])) q) (fun b o _ _ hc q _=>⟨o.slots,kk b o (fun z=>hc (by simp[z])) (fun z=>hc (by simp[z])) q⟩)
    (fun b o _ q n=>by rw[aC (Ki (J0 q))];exact n) (fun b o hc q=>⟨o,kk b o (fun z=>hc (by simp[z])) (fun z=>hc (by simp[z])) q⟩) (fun b ys q=>by rw[aC (aD q hn)];exact q) (fun b o v q=>by rw[aC (aD q hn)];exact q)
    (fun b ps q=>⟨#[],by rw[aC (aD q hn),q];simp⟩) (fun m hm=>?_) (fun b v q=>?_) I.bare
   ·rcases J7.mp hb with rfl | hb
    ·exact⟨fe.2.2.2.1,fe.2.1,fe.2.2.2.2.1,fe.2.2.2.2.2⟩
    ·rw[Ka.mp hb];exact⟨fi.2.2.2.1,fi.2.1,fi.2.2.2.2.1,fi.2.2.2.2.2⟩
   ·obtain⟨o,es,ep,q,r⟩:=hm;exact⟨o,es,ep,kk _ o (Ne.symm fe.2.1) (Ne.symm fi.2.1) q,r⟩
   ·by_cases hb:b=s.heap.objs.size
    ·subst hb;rw[aT]at q;cases q;exact⟨by show 2≤sizeLine;rw[K3];omega,[.int i s.toks,u],.cons ⟨s.toks,rfl⟩ (.cons ru .nil),⟨_,hT2,rfl,_,rfl⟩⟩
    ·rw[aC hb]at q;refine(I.hok b v q).stay (fun c z hc q2=>?_) (fun c q2=>by rw[aC (aD q2 hn)];exact q2) fun c ys q2=>by rw[aC (aD q2 hn)];exact q2
     have nn:c≠e/\c≠it:=by
      rcases hc with z | z
      ·rw[z];exact nit b v q
      ·exact nit c _ z
     exact kk c z nn.1 nn.2 q2
  ·obtain⟨o,q,r⟩:=hs1;exact⟨o,(sb2.2 _ (Ne.symm nei)).trans q,r⟩
  ·have hb2:b<s.heap.objs.size:=by
    rcases J7.mp hb with rfl | hb
    ·exact hlte
    ·rw[Ka.mp hb];exact J0 hoi
   rw[aC (Ki hb2)];exact(hf b hb).1
 done:=by
  intro X hP hw hK hc i pins s σ H E I hf st hg;subst hP hw hK;obtain⟨xs,hq,rfl⟩:=hg;obtain⟨its,rv,p,hz⟩:=I.list hq;obtain⟨⟨old,he⟩,hi⟩:=st;have p':s.heap.IsList a its.toArray:=p.isList;obtain⟨oa,ha,ca,_⟩:=id p';obtain⟨oi,hoi,ci,_⟩:=id hi;have nai:a≠it:=dY ha hoi ca ci (by decide);have hl:=rv.length;have es:xs.length=its.toArray.size:=by simp;omega
  obtain⟨f0,f1,f2,f3,f4,f5⟩:=hf it (by simp);refine wpAny_pyNext_enum_end (I.ok.hd hc) he hi p' (by simp;omega) fun h1 eb=>⟨rfl,I.turned (t':=s.toks) (fun b o hb q=>eb b o hb q) f0 f1 f3 f4 f5⟩
 self:=fun _ _ _ _ _ st h=>let ⟨⟨_,he⟩,_⟩:=st;wpAny_pyIter_enum he h
section
variable {X:Cx}
def Jk(K:LFr)(ta:TA):TI:=fun σ H R=>ta σ H fun vs H1=>∃a,vs=[.ref a]/\(∃xs,SqL K H1 a xs)/\R (Fq K a) H1
theorem zY{elts:List Expr}{k1}{tpos:Pos}{c:Expr}{ta:TA}{p pos:Pos}(hg:Gl X "enumerate")(hm:X.mg "enumerate"=none)(ha:PA X [c] ta)(hs:starEach [c] X.env=[(false,eval c X.env)]:=by rfl) :
  PI X (.Tuple elts k1 tpos) (.Call (.Name "enumerate" p) [c] [] pos) (Jk X.K ta):=by
 intro pins s σ H R I h;refine Call_ (di I hg hm pw (K2 (thn (ha pos pins s σ H _ I h) fun us s1 ⟨vs,H1,I1,r1,q1⟩=>?_) hs rfl));obtain⟨a,e,⟨xs,hq⟩,q⟩:=q1;subst e;cases r1 with
 | cons r rr =>
  cases rr;cases r;obtain⟨its,rv,p,hz⟩:=I1.list hq;refine call_enumerate_list p.isList fun h1 he hi hsz kk=>wpAny_pyIter_enum he ?_;refine⟨s1.heap.objs.size+1,[s1.heap.objs.size+1,s1.heap.objs.size],_,_,H1,rfl,I1.kept (t':=s1.toks) kk,uf a _ _,⟨⟨_,he⟩,hi⟩,fun b hb=>?_,q⟩;have hb2:s1.heap.objs.size≤b:=by
   rcases J7.mp hb with rfl | hb
   ·exact Nat.le_succ _
   ·rw[Ka.mp hb];exact JW _
  exact I1.fpOk hb2 (I1.hok.fresh hb2)
end
end L2
namespace U
open L2
variable {B:Bs}{X:Cx}{pos:Pos}
def CN(vs:List PV)(H1:PHp)(R:It'->PHp->Prop):Prop:=match vs with
 | [.ref a]=>∃l,H1 a=some (.lst l)/\R ⟨dk l,fun H=>H a=some (.lst l)⟩ H1
 | _=>False
def Fh(t:TA'):TI':=fun σ H R=>t σ H fun vs H1=>CN vs H1 R
theorem Dg{elts:List Expr}{k1}{tpos:Pos}{c:Expr}{t:TA'}{p:Pos}(hg:Gl X "enumerate")(hm:X.mg "enumerate"=none)(ha:PA' X B [c] t)(hs:starEach [c] X.env=[(false,eval c X.env)]:=by rfl) :
  PIH X B (.Tuple elts k1 tpos) (.Call (.Name "enumerate" p) [c] [] pos) (Fh t):=dO (zY hg hm ha hs) fun σ H R y_=>by
 obtain⟨σ',H',R',s,h,k⟩:=y_;refine⟨σ',H',_,s,h,fun vs' H1' vs H1 h1 r1 s1 e1=>?_⟩;unfold CN at h1;split at h1
 ·rename_i a;simp only[RPs,RP]at r1;obtain⟨u,r,rfl,rfl,rfl⟩:=r1;obtain⟨l,ha,h1⟩:=h1;obtain⟨us,q1,_⟩:=s1.hp _ _ ha;have lk:∀H2' H2,HR X.K H2' H2->H2' a=some (.lst l)->∃us,SqL X.K H2 a us/\RPs X.K H2 l us:=fun H2' H2 hr o=>by
   obtain⟨us,a1,a2⟩:=hr _ _ o;exact⟨us,SqL.of a1,a2⟩
  refine⟨a,rfl,⟨us,SqL.of q1⟩,k _ H1' _ H1 h1 ⟨fun H2' H2 i k2 hr o hi=>?_,fun H2' H2 i x H3 k2 hr o y=>?_,fun H2' H2 k2 hr o=>?_⟩ s1 e1⟩
  ·obtain⟨us,c1,d1⟩:=lk _ _ hr o;have hi':i<l.length:=by simpa[dk]using hi
   obtain⟨u,e,_⟩:=RPs.get _ d1 (JO hi');exact⟨us,u,c1,e⟩
  ·obtain⟨T,y1,hT,rfl,rfl,hy⟩:=y;obtain⟨us,c1,d1⟩:=lk _ _ hr o;refine⟨hr.hid hT,Ev.hid hT,fun x' hx=>?_⟩;obtain⟨z,hz,rfl⟩:∃z,l[i]?=some z/\x'=.tup [.int (i:Nat),z]:=by
    unfold dk at hx;rw[List.getElem?_mapIdx]at hx;cases e:l[i]? with
    | none=>rw[e]at hx;cases hx
    | some z=>rw[e]at hx;exact⟨z,rfl,(Ks hx).symm⟩
   obtain⟨u,e,ru⟩:=RPs.get _ d1 hz;have ey:=hy us c1;rw[e]at ey;cases ey;exact lI hT (RPs.cons _ (by simp[RP]) (RPs.cons _ ru (RPs.nil _)))
  ·obtain⟨us,c1,d1⟩:=lk _ _ hr o;refine⟨us,c1,?_⟩;rw[RPs.length _ d1];simp[dk]
 ·exact h1.elim
end U
namespace L2
variable {X:Cx}
def Dv:R2:=fun x y H Q=>∃n d,x=.int n/\y=.ref d/\H d=some (.dK [])/\Q (.bl false) H
theorem Dh(hu:X.A.units+64<cLine):OpR X (compareOp .In) Dv:=by
 intro pins s σ H x y v u Q I rx ry h;obtain⟨n,d,rfl,rfl,hd,q⟩:=h;cases ry;exact HP (by omega) I (xx.k (k:=Sum.inl n) hd) rx fun s' I'=>⟨.bl false,H,I',rfl,q⟩
theorem uM(K:LFr):PySem.W.kitOne K (.type "dict") (.type "dict")=some true:=by kernel_rfl
def Di(P:Program)(w:World):List V->Hp->VK->Prop:=fun xs H Q=>∃d ks as vs ep,xs=[.ref d,.ty "dict"]/\H d=some (.ext (bD P w d ks as vs ep))/\Q (.bl true) H
theorem vc:cj X (.builtin "isinstance") (Di X.prog X.w):=by
 intro pins s σ H xs us Q I r h;obtain⟨d,ks,as,vs,ep,rfl,hH,q⟩:=h;obtain⟨u,w',rfl,rx,rc⟩:=vals2 r;have e1:w'=Value.type "dict":=rc;subst e1;cases rx;obtain⟨lo,es,⟨o,g,c,_⟩,_⟩:=cS I hH;exact K7 PySem.W.kitx_dict I.kIn ⟨o,g,c.1⟩ (uM X.K) (fun z=>nomatch z) fun tk=>⟨.bl true,H,I.tok _,rfl,q⟩
def zR(K:LFr):List V->Hp->VK->Prop:=fun xs H Q=>∃(a:Addr) (ns:List Int),xs=[.ref a]/\SqL K H a (ns.map V.int)/\0<ns.length/\∀m,m∈ns->(∀n∈ns,m≤n)->Q (.int m) H
theorem qL:∀{its:List Value},Vals (ns.map V.int) its->∃ps:List (Int×Tok),its=(ps.map fun p=>Value.int p.1 p.2)/\ps.map (·.1)=ns:=by
 induction ns with
 | nil=>intro its h;cases h;exact⟨[],rfl,rfl⟩
 | cons n ns ih =>
  intro its h;cases h with
  | cons r rr =>
   obtain⟨t,rfl⟩:=r;obtain⟨ps,rfl,e⟩:=ih rr;exact⟨(n,t)::ps,rfl,by rw[Kc,e]⟩
theorem rF(hc:X.calm=true):cj X (.builtin "min") (zR X.K):=by
 intro pins s σ H xs us Q I r h;obtain⟨a,ns,rfl,hq,h0,q⟩:=h;obtain⟨u,rfl,ru⟩:=Vals.one r;cases ru;obtain⟨its,rv,p,hz⟩:=I.list hq;have hl:s.heap.IsList a its.toArray:=p.isList;obtain⟨ps,rfl,rfl⟩:=qL rv;have e:((ps.map fun p=>Value.int p.1 p.2).toArray:Array Value)=intItems ps.toArray:=by simp[intItems]
 rw[e]at hl;have h1:0<ps.toArray.size:=by simpa using h0
 refine min_intList (I.ok.hd hc) hl h1 fun v h' tk hv hk=>?_;obtain⟨t,rfl⟩:=intItems_at hv;obtain⟨b1,b2⟩:=argBest_lt (numAt ps.toArray) (ps.toArray.size - 1);refine⟨.int _,H,I.kept (t':=tk) hk,⟨t,rfl⟩,q _ ?_ fun n hn=>?_⟩
 ·rw[numAt_eq];exact getD_mem (by rw[JN]at h0 ⊢;rw[Kb]at b1;show _<ps.length;rw[Kb];omega)
 ·obtain⟨j,hj,rfl⟩:=mem_getD hn;rw[JN]at hj;have b3:=b2 j (by rw[Kb];omega)
  rwa [numAt_eq ps.toArray j]at b3
end L2
namespace U
open L2
variable {B:Bs}{X:Cx}{pos:Pos}
def uNo:TE':=fun _ _ _=>False
theorem Dj:PE' X B e uNo:=fun pins s σ H Q I q=>by
 obtain⟨_,_,_,_,h,_⟩:=q;exact h.elim
def DK(t1 t2:TI'):TI':=fun σ H R=>t1 σ H R∨t2 σ H R
theorem FE(h1:PIH X B tg e t1)(h2:PIH X B tg e t2):PIH X B tg e (DK t1 t2):=fun pins s σ H R I q=>by
 obtain⟨σ',H',R',sr,h,k⟩:=q;rcases h with h | h
 ·exact h1 pins s σ H R I ⟨σ',H',R',sr,h,k⟩
 ·exact h2 pins s σ H R I ⟨σ',H',R',sr,h,k⟩
def Cj:R2':=fun x y H Q=>match x,y with
 | .int _,.ref d=>H d=some (.dK [])/\Q (.bl false) H
 | _,_=>False
theorem FJ:Cj (.int n) (.ref d) H Q=(H d=some (.dK [])/\Q (.bl false) H):=rfl
theorem Cm{K:LFr}:VR K B Cj Dv:=by
 intro σ' σ H' H x' y' x y Q' Q s rx ry h k;unfold Cj at h;split at h
 ·rename_i n d;obtain⟨hd,q⟩:=h;simp only[RP]at rx ry;obtain⟨ws,hw,fr⟩:=s.hp _ _ hd;cases fr;exact⟨n,d,rx,ry,hw,k _ _ _ _ q (by simp[RP]) s (Ev.refl _ _)⟩
 ·exact h.elim
def Bz(P:Program)(w:World):List PV->PHp->VK'->Prop:=fun xs H Q=>match xs with
 | [.ref d,.oth (.ty n)]=>n="dict"/\(∃kvs ep,H d=some (.dI P w kvs ep))/\Q (.bl true) H
 | _=>False
theorem DS:Bz P w [.ref d,.oth (.ty n)] H Q=(n="dict"/\(∃kvs ep,H d=some (.dI P w kvs ep))/\Q (.bl true) H):=rfl
theorem C2{K:LFr}:VC K B (Bz P w) (Di P w):=by
 intro σ' σ H' H xs' xs Q' Q s r h k;unfold Bz at h;split at h
 ·rename_i d n;obtain⟨rfl,⟨kvs,ep,ed⟩,q⟩:=h;simp only[RPs,RP]at r;obtain⟨u,r1,rfl,rfl,w,r2,rfl,rfl,rfl⟩:=r;obtain⟨as,vs,ha2,hr,hw⟩:=s.hp _ _ ed;exact⟨d,_,as,vs,ep,rfl,ha2,k _ _ _ _ q (by simp[RP]) s (Ev.refl _ _)⟩
 ·exact h.elim
def za:List PV->PHp->VK'->Prop:=cG fun x H Q=>match x with
 | .ref a=>∃ns:List Int,H a=some (.lst (ns.map PV.int))/\0<ns.length/\∀m,m∈ns->(∀n∈ns,m≤n)->Q (.int m) H
 | _=>False
theorem AB:za [.ref a] H Q=∃ns:List Int,H a=some (.lst (ns.map PV.int))/\0<ns.length/\∀m,m∈ns->(∀n∈ns,m≤n)->Q (.int m) H:=rfl
theorem xX{K:LFr}:VC K B za (zR K):=by
 intro σ' σ H' H xs' xs Q' Q s r h k;obtain⟨x',x,rfl,rfl,rx,h⟩:=cG.ex h r;cases x' with
 | ref a =>
  obtain⟨ns,ea,h0,q⟩:=h;simp only[RP]at rx;subst rx;obtain⟨us,e,r2⟩:=s.hp _ _ ea;rw[jt r2]at e;exact⟨a,ns,rfl,.inl (.inl e),h0,fun m hm hn=>k _ _ _ _ (q m hm hn) (by simp[RP]) s (Ev.refl _ _)⟩
 | _=>exact h.elim
end U
namespace L2
def dR(X:Cx)(N2:List Str)(scope:Scope)(cl:List (Str×Addr))(y0:Str)(s0:Shared)(H0:Hp)(fp:List Addr)(ps:List (Addr×Obj)):Cx :=
 { X with N:=N2,s₀:=s0,H₀:=H0,env:=compEnvC scope ((y0,s0.heap.objs.size+1)::cl) s0.heap.objs.size X.env,outer:=X.stack,stack:=X.stack,ex:=fp,fn:=fun x=>(cl.lookup x).isNone,pn:=ps,xe:=fun _ _=>False }
structure df (X:Cx) (N2:List Str) (nt:Nat) (js:List Nat) (scope:Scope) (cl:List (Str × Addr)) (sc:Scope) (y0:Str):Prop where
 clos:closureFor scope X.env=pure cl
 sub:∀x c,cl.lookup x=some c->X.env.cells.lookup x=some c
 xsc:X.env.scope=sc
 kind:scope.kind=.function
 own:scope.names.lookup y0=some .cell
 one:∀y∈scope.names,y.2=.cell->y.1=y0
 cf:∀n,cellsFrom n scope.names cl=(y0,n)::cl
 pc:∀h:Heap,pushCells h scope.names=h.push { cls:=.type "cell",data:=.cell none }
 loc:∀y∈scope.names,y.2=.local->scope.names.lookup y.1=some .local
 has:∀y∈scope.names,y.2=.free->y.1∈cl.map (·.1)
 frs:∀x∈N2.drop nt,scope.names.lookup x=some .free/\sc.names.lookup x=some .cell
 len:N2.length=nt+js.length
 pl:∀(k j:Nat),js[k]?=some j->X.N[j]?=N2[nt+k]?
theorem dg{y0 x:Str}{a c:Addr}(h:((y0,a)::cl).lookup x=some c):(x=y0/\c=a)∨cl.lookup x=some c:=by
 rw[KN]at h;cases e:x==y0 with
 | true=>rw[e]at h;exact .inl ⟨LV.mp e,(Ks h).symm⟩
 | false=>rw[e]at h;exact .inr h
theorem sO{y0:Str}{a:Addr}:((y0,a)::cl).lookup y0=some a:=by
 rw[KN,LH]
theorem zb{y0 x:Str}{a c:Addr}(n:x≠y0)(h:cl.lookup x=some c):((y0,a)::cl).lookup x=some c:=by
 rw[KN,Lz.mpr n];exact h
theorem v7{y0 x:Str}{a c:Addr}(h:cl.lookup x=some c):∃c',((y0,a)::cl).lookup x=some c':=by
 by_cases n:x=y0
 ·subst n;exact⟨_,sO⟩
 ·exact⟨_,zb n h⟩
theorem tF{s:Shared}(hk:scope.kind=.function)
  (cf:∀n,cellsFrom n scope.names cl=(y0,n)::cl) (pc:∀h:Heap,pushCells h scope.names=h.push { cls:=.type "cell",data:=.cell none })
  (hQ:∀h':Heap,h'.Ns s.heap.objs.size (fun _=>none)->h'.IsCell (s.heap.objs.size+1) none->(∀b o,s.heap.get? b=some o->h'.get? b=some o) ->
   Q (newEnv scope s.heap.objs.size globals ((y0,s.heap.objs.size+1)::cl) qual none .none (some outer) builtinsNs) { s with heap:=h' }) :
  wpAny M A (newFunctionEnv scope globals cl [] qual none .none (some outer)) Q E s:=by
 simp only[newFunctionEnv,Option.isSome_some,if_true];refine JP (wpAny_alloc ?_);refine JP (wpAny_layCells _ (fun name kind cells=>by cases hkc:kind==NameKind.cell<;>simp[hkc]) _ _ _ _ ?_);rw[cf,pc];have ez:({ s with heap:=s.heap.push { cls:=.type "dict",data:=.dict #[] } }:Shared).heap.objs.size=s.heap.objs.size+1:=K9 ..;rw[ez];refine JP ?_;rw[List.forIn_nil];refine JT (JT (hQ _ ?_ ?_ ?_))
 ·exact(Heap.Ns.new s.heap (.type "dict")).keeps fun b o e=>JR _ e
 ·have:=JZ (h:=s.heap.push { cls:=.type "dict",data:=.dict #[] }) (o:={ cls:=.type "cell",data:=.cell none }) rfl;rw[K9]at this;exact⟨_,this,rfl⟩
 ·exact fun b o e=>JR _ (JR _ e)
section
variable {X:Cx}{pins:List (Addr×Obj)}{σ:St}{H:Hp}{s:Shared}{N2:List Str}{nt:Nat}{js:List Nat}{scope sc:Scope}{cl:List (Str×Addr)}{fp:List Addr}{y0:Str}
theorem df.kindOf(O:df X N2 nt js scope cl sc y0){x:Str}{C:Addr}(h:(compEnvC scope cl C X.env).kindOf x=some .cell∨(compEnvC scope cl C X.env).kindOf x=some .free):x=y0∨∃c,cl.lookup x=some c:=by
 have h':(relabel scope X.env).names.lookup x=some .cell∨(relabel scope X.env).names.lookup x=some .free:=h;have key:∀(k:NameKind),(relabel scope X.env).names.lookup x=some k->(k=.cell∨k=.free)->∃y∈scope.names,y.1=x/\(y.2=.cell∨y.2=.free):=fun k e hk=>by
  have m:=lookup_mem e;obtain⟨⟨n,k'⟩,hm,e'⟩:=JU.mp m;by_cases hc:(k'==NameKind.free&&X.env.scope.kind==.function&&X.env.kindOf n==some .cell)=true
  ·simp only[hc,if_true]at e';have e1:n=x:=congrArg Prod.fst e';refine⟨(n,k'),hm,e1,.inr ?_⟩;rw[K8,K8]at hc;exact LV.mp hc.1.1
  ·have e'':(n,k')=(x,k):=by
    dsimp only at e';rw[Kq hc]at e';exact e'
   cases e'';exact⟨(x,k),hm,rfl,hk⟩
 obtain⟨y,hy,rfl,hk⟩:=h'.elim (fun e=>key _ e (.inl rfl)) fun e=>key _ e (.inr rfl);rcases hk with hk | hk
 ·exact .inl (O.one y hy hk)
 ·exact .inr (mem_lookup (O.has y hy hk))
theorem nP(O:df X N2 nt js scope cl sc y0)(I:Inv X pins σ H s)(hf:∀b∈fp,dm X pins H b)(hlt:∀b∈fp,b<s.heap.objs.size):(dR X N2 scope cl y0 s H fp (X.pn++pins)).Ok where
 mod:=I.ok.mod
 kind:=O.kind
 glob:=I.ok.glob
 blt:=I.ok.blt
 above:=JW _
 inj:=fun x y c h1 h2=>by
  have no:∀{z:Str},cl.lookup z=some (s.heap.objs.size+1)->False:=fun e=>by
   obtain⟨v,q⟩:=I.cell _ _ (O.sub _ _ e);exact absurd (Nat.lt_trans (Nat.lt_succ_self _) q.lt) (Ls _)
  rcases dg h1 with⟨e1,f1⟩ | k1
  ·rcases dg h2 with⟨e2,_⟩ | k2
   ·exact e1.trans e2.symm
   ·exact(no (f1▸k2)).elim
  ·rcases dg h2 with⟨_,f2⟩ | k2
   ·exact(no (f2▸k1)).elim
   ·exact I.ok.inj x y c (O.sub x c k1) (O.sub y c k2)
 has:=fun x h=>by
  rcases O.kindOf (C:=s.heap.objs.size) h with rfl |⟨c,e⟩
  ·exact⟨_,sO⟩
  ·exact v7 e
 cab:=fun x c h1 h2=>by
  have h1':(cl.lookup x).isNone=true:=h1;rcases dg h2 with⟨rfl,rfl⟩ | h2
  ·exact Nat.le_succ _
  ·rw[h2]at h1';cases h1'
 hd:=I.ok.hd
 frames:=I.ok.frames
 stk:=.inl rfl
 exf:=fun b hb=>⟨Ki (hlt b hb),fun x c e=>by
  rcases dg e with⟨rfl,rfl⟩ | e
  ·exact Lx (LK (hlt b hb))
  ·exact(hf b hb).2.2.2.2.1 x c (O.sub x c e)⟩
 bs:=I.bs
 bsz:=Lv I.ok.bsz I.sz
 noex:=fun b o e hb=>by
  obtain⟨_,_,_,h3,_⟩:=hf b hb;rcases h3 with h3 | h3
  ·exact I.ok.noex b o e h3
  ·exact absurd (Ko (J0 (I.ok.bs b o e).1) h3) (Ls _)
 exfs:=fun b hb hs=>by
  obtain⟨_,h1,h2,_⟩:=hf b hb;rcases J7.mp (I.stkSub b hs)with e | e
  ·exact h1 e
  ·exact h2 e
 funs:=I.stack
 frf:=I.stkFree
theorem lA(O:df X N2 nt js scope cl sc y0)(I:Inv X pins σ H s)(hf:∀b∈fp,dm X pins H b)(hlt:∀b∈fp,b<s.heap.objs.size){h4:Heap}{t4:Nat}(hn:h4.Ns s.heap.objs.size fun _=>none)(hcl:h4.IsCell (s.heap.objs.size+1) none)
  (hk:∀b o,s.heap.get? b=some o->h4.get? b=some o):Inv (dR X N2 scope cl y0 s H fp (X.pn++pins)) [] (h7 nt js σ) H { s with heap:=h4,toks:=t4 }:=by
 refine⟨nP O I hf hlt,rfl,I.bare,Un.kept hk,⟨_,hn,fun i x v e1 e2 e3=>?_⟩,fun x c e=>?_,I.hok.fresh (JW _),fun x c e=>?_,fun p hp=>?_,I.hok.kept hk,?_⟩
 ·unfold h7 at e2;by_cases hi:i<nt
  ·rw[Kz (by simpa using hi),LQ]at e2;split at e2<;>cases e2
  ·obtain⟨k,rfl⟩:∃k,i=nt+k:=⟨i - nt,by omega⟩;rw[Kv (by simp),Lm,Nat.add_sub_cancel_left,JV]at e2;cases ej:js[k]? with
   | none=>rw[ej]at e2;cases e2
   | some j =>
    rw[ej]at e2;have e2':(σ[j]?).join=some v:=Ks e2;have eσ:σ[j]?=some (some v):=by
     cases q:σ[j]? with
     | none=>rw[q]at e2';cases e2'
     | some o=>rw[q]at e2';exact congrArg some e2'
    have eN:X.N[j]?=some x:=(O.pl k j ej).trans e1;have hx:x∈N2.drop nt:=by
     have:(N2.drop nt)[k]?=some x:=by rw[List.getElem?_drop];exact e1
     exact JX this
    obtain⟨f1,f2⟩:=O.frs x hx;have vis:Vis X.env.scope x:=.inr (.inl (by rw[O.xsc];exact f2));obtain⟨m,hnX,hl⟩:=I.loc;obtain⟨u,r,l⟩:=hl j x v eN eσ vis;refine⟨u,r,.inr ⟨?_,?_⟩⟩
    ·exact cc f1
    ·rcases l with⟨k1,_⟩ |⟨_,c,ec,ic⟩
     ·have k2:sc.names.lookup x=some .local:=by rw[←O.xsc];exact k1
      rw[f2]at k2;cases k2
     ·obtain⟨c',ec'⟩:=mem_lookup (O.has (x,.free) (lookup_mem f1) rfl);have:=O.sub x c' ec';rw[ec]at this;cases this;obtain⟨o,ho,hd⟩:=ic;refine⟨c,?_,o,hk _ _ ho,hd⟩;exact zb (fun e=>by rw[e,O.own]at f1;cases f1) ec'
 ·rcases dg e with⟨rfl,rfl⟩ | e
  ·exact⟨none,hcl⟩
  ·obtain⟨v,o,ho,hd⟩:=I.cell x c (O.sub x c e);exact⟨v,o,hk _ _ ho,hd⟩
 ·rcases dg e with⟨rfl,rfl⟩ | e
  ·exact I.hok.fresh (Nat.le_succ _)
  ·exact I.freeC x c (O.sub x c e)
 ·have hp':p∈X.pn++pins:=by
   have hp2:p∈(X.pn++pins)++[]:=hp
   rwa [K4]at hp2
  obtain⟨e,n,ne,nf,d⟩:=I.pin p hp';refine⟨hk _ _ e,n,Ki (J0 e),fun hb=>?_,d⟩;rcases J7.mp (I.stkSub p.1 hb)with z | z
  ·exact ne z
  ·exact nf z
 ·unfold h7;show _=N2.length;rw[J2,Lm,JN,O.len]
theorem rb{σ':St}(I:Inv X pins σ H s)(hf:∀b∈fp,dm X pins H b)(J:Inv (dR X N2 scope cl y0 s H fp (X.pn++pins)) pl σ' H' s'):Inv X pins σ H' s' :=
 I.call' (ch:=fp) J.os J.base J.hok J.bare fun b hb=>by
  obtain⟨h0,h1,h2,h3,h4,h5⟩:=hf b hb;exact⟨h3,h1,h4,h5⟩
end
section
variable {X:Cx}{pins:List (Addr×Obj)}{σ:St}{H:Hp}{s:Shared}{N2:List Str}{nt:Nat}{js:List Nat}{scope sc:Scope}{cl:List (Str×Addr)}{fp:List Addr}{elt iter tg:Expr}{ifs:List Expr}{pos:Pos}
 {wi:TI} {g:TG} {tt:TT} {te:TE} {y0:Str}
theorem qz(O:df X N2 nt js scope cl sc y0)(hc:X.calm=true)(B:∀(s0:Shared) (H0:Hp) (fp:List Addr) (ps:List (Addr×Obj)),mF (dR X N2 scope cl y0 s0 H0 fp ps) tg ifs elt g tt te)
  {it:Addr} {tn:Nat->Heap->Prop} {J:It} {E:Value->Shared->Prop} {Q:VK} {RR:Value->Addr->Result->Shared->Prop}
  (I:Inv X pins σ H s) (T:Turn X.prog X.w X.K tg J fp it tn) (st:tn 0 s.heap) (hf:∀b∈fp,dm X pins H b)
  (h:∀acc,H acc=none->∃W:Nat->Nat->L2.St->Hp->Prop,(∃m,W 0 m (h7 nt js σ) (upd H acc (.lst [])))/\∀i m σ0 H,W i m σ0 H->(J.stop i H/\Q (.ref acc) H)∨vQ acc J g tt te W i m σ0 H)
  (hRR:∀(acc C:Addr) (s':Shared) (H':Hp) (m:Str->Option Value),s'.heap.Ns C m->Inv X pins σ H' s'->H' C=none->C≠X.env.locals->X.s₀.heap.objs.size≤C->(∀x c,X.env.cells.lookup x=some c->c≠C)->(∀p∈X.pn++pins,p.1≠C)->Q (.ref acc) H'->RR (.ref acc) C (.ok .next) s') :
  wpAny (model X.prog X.w) X.A (newList []) (fun acc s₃=>wpAny (model X.prog X.w) X.A (newFunctionEnv scope X.env.globals cl [] X.env.qual none .none (some X.env)) (fun cenv s₄ =>
   codeAny (model X.prog X.w) X.A (.compStart (.ListComp elt [⟨tg,iter,ifs,0⟩] scope pos) 0 (.ref it) acc { cenv with scope:=relabel scope X.env }) (RR acc cenv.locals) s₄) E s₃) E s:=by
 have hlt:∀b∈fp,b<s.heap.objs.size:=fun b hb=>by
  obtain⟨o,e,_⟩:=T.obj _ _ st b hb;exact J0 e
 have hnA:H s.heap.objs.size=none:=I.hok.fresh (JW _);obtain⟨W,⟨m0,w0⟩,turn⟩:=h s.heap.objs.size hnA;refine KO (tF O.kind O.cf O.pc fun h₁ hns₁ hcl₁ hkp₁=>?_);dsimp only at hns₁ hcl₁ hkp₁ ⊢;have I3:Inv X pins σ (upd H s.heap.objs.size (.lst [])) { s with heap:=s.heap.push { cls:=.type "list",dict:=none,data:=.seq ([]:List Value).toArray } } :=
  I.laid (t':=s.toks) (fun b u e=>JR _ e) (JW _) ⟨by show 0≤sizeLine;exact Ll _,[],0,.nil,JZ _ rfl⟩
 generalize hs3:({ s with heap:=s.heap.push { cls:=.type "list",dict:=none,data:=.seq ([]:List Value).toArray } }:Shared)=s3 at I3;have e3:s3.heap=s.heap.push { cls:=.type "list",dict:=none,data:=.seq ([]:List Value).toArray }:=by rw[←hs3]
 rw[←e3]at hns₁ hcl₁ hkp₁ ⊢;have et:s3.toks=s.toks:=by rw[←hs3]
 have hf3:∀b∈fp,dm X pins (upd H s.heap.objs.size (.lst [])) b:=fun b hb=>by
  obtain⟨f0,f⟩:=hf b hb;exact⟨by rw[aC (Ki (hlt b hb))];exact f0,f⟩
 have hlt3:∀b∈fp,b<s3.heap.objs.size:=fun b hb=>by rw[e3,K9];exact LK (hlt b hb)
 have hk4:∀b o,s3.heap.get? b=some o->h₁.get? b=some o:=hkp₁;have I4:=lA (t4:=s3.toks) O I3 hf3 hlt3 hns₁ hcl₁ hk4;have st4:tn 0 h₁:=T.keep _ _ _ st fun b hb o e=>hk4 b o (by rw[e3];exact JR _ e);have B4:=B s3 (upd H s.heap.objs.size (.lst [])) fp (X.pn++pins);generalize hY:dR X N2 scope cl y0 s3 (upd H s.heap.objs.size (.lst [])) fp (X.pn++pins)=Y at I4 B4;have yP:Y.prog=X.prog:=by rw[←hY];rfl
 have yw:Y.w=X.w:=by rw[←hY];rfl
 have yK:Y.K=X.K:=by rw[←hY];rfl
 have yA:Y.A=X.A:=by rw[←hY];rfl
 have yc:Y.calm=true:=by rw[←hY];exact hc
 have yx:Y.xe=fun _ _=>False:=by rw[←hY];rfl
 have ye:Y.env=compEnvC scope ((y0,s3.heap.objs.size+1)::cl) s3.heap.objs.size X.env:=by rw[←hY];rfl
 have fpY:∀{H':Hp},(∀b∈fp,H' b=none)->∀b∈fp,dm Y [] H' b:=fun hn b hb=>by
  obtain⟨f0,f1,f2,f3,f4,f5⟩:=hf3 b hb;rw[←hY];refine⟨hn b hb,Ki (hlt3 b hb),fun hs=>?_,.inl hb,fun x c e=>?_,fun p hp=>?_⟩
  ·rcases J7.mp (I3.stkSub b hs)with e | e
   ·exact f1 e
   ·exact f2 e
  ·rcases dg e with⟨_,rfl⟩ | e
   ·exact Lx (LK (hlt3 b hb))
   ·exact f4 x c (O.sub x c e)
  ·have hp2:p∈(X.pn++pins)++[]:=hp;rw[K4]at hp2;exact f5 p hp2
 have fin:∀{σ':St} {H':Hp} {s':Shared} {pl:List (Addr×Obj)},Inv Y pl σ' H' s'->Q (.ref s.heap.objs.size) H'->RR (.ref s.heap.objs.size) s3.heap.objs.size (.ok .next) s':=fun {σ' H' s' pl} I' q=>by
  have J':Inv X pins σ H' s':=rb I3 hf3 (hY▸I');obtain⟨m,hn,_⟩:=I'.loc;have hfr:=I'.free;rw[ye]at hn hfr;refine hRR _ _ s' H' m hn J' hfr (Lx I3.lt) I3.sz (fun x c e z=>?_) (fun p hp z=>?_) q
  ·obtain⟨v,q⟩:=I3.cell x c e;exact absurd (Ko q.lt (by rw[z];exact JW _)) (Ls _)
  ·exact absurd (Ko (J0 (I3.pin p hp).1) (by rw[z];exact JW _)) (Ls _)
 have loop:∀s4:Shared,s4={ s3 with heap:=h₁ } ->
   codeAny (model X.prog X.w) X.A (.compLoop (.ListComp elt [⟨tg,iter,ifs,0⟩] scope pos) 0 (.ref it) (.ref s.heap.objs.size) (compEnvC scope ((y0,s3.heap.objs.size+1)::cl) s3.heap.objs.size X.env)) (RR (.ref s.heap.objs.size) s3.heap.objs.size) s4:=by
  rintro s4 rfl;refine fu (fun n s'=>∃i σ0 H',Inv Y [] σ0 H' s'/\tn i s'.heap/\(∀b∈fp,H' b=none)/\W i n σ0 H') ?_ m0
   ⟨0,_,_,I4,st4,fun b hb=>(hf3 b hb).1,w0⟩
  rintro n s5 ⟨i,σ5,H5,I5,st5,fr5,w5⟩;rcases turn i n σ5 H5 w5 with⟨stop,q⟩ |⟨go,step⟩
  ·have r:=T.done Y yP yw yK yc i [] s5 _ H5 (fun _ _=>False) I5 (fpY fr5) st5 stop;rw[yA]at r;refine thn r fun r s6 y_=>?_;obtain⟨hr,I6⟩:=y_;subst hr;exact fin I6 q
  ·have r:=T.item Y yP yw yK yc i [] s5 _ H5 (fun _ _=>False) I5 (fpY fr5) st5 go;rw[yA]at r;refine thn r fun r s6 y_=>?_;obtain⟨u,hr,h6⟩:=y_;subst hr;refine thn h6 fun _ s7 y_=>?_;obtain⟨x,H7,I7,r7,y7,st7,fr7⟩:=y_;have I7':=I7.pinned (fpY fr7) (T.obj _ _ st7);have r:=B4.tgt _ s7 _ H7 x u _ I7' r7 (step x H7 y7);rw[yP,yw,yA,yx,ye]at r;refine thn r fun _ s8 y_=>?_;obtain⟨σ8,H8,I8,q8⟩:=y_;have r:=B4.tst _ s8 σ8 H8 _ I8 q8;rw[yP,yw,yA,yx,ye]at r;refine thn r fun ok s9 y_=>?_;obtain⟨H9,I9,q9⟩:=y_;have back:∀{s':Shared} {H':Hp},Inv Y ([]++gA fp s7.heap) σ8 H' s'->(Inv Y [] σ8 H' s'/\tn (i+1) s'.heap/\∀b∈fp,H' b=none):=fun {s' H'} I'=>by
    refine⟨I'.unpinned,T.keep _ _ _ st7 fun b hb o e=>(I'.pin (b,o) (Kd _ (Kd _ (cM hb e)))).1,fun b hb=>?_⟩;obtain⟨o,e,d⟩:=T.obj _ _ st7 b hb;exact(I'.pin (b,o) (Kd _ (Kd _ (cM hb e)))).2.1
   cases ok with
   | false =>
    have q9':∃m',m'<n/\W (i+1) m' σ8 H9:=q9;obtain⟨m',hm,w9⟩:=q9';obtain⟨b1,b2,b3⟩:=back I9;show ∃m,m<n/\_;exact⟨m',hm,i+1,σ8,H9,b1,b2,b3,w9⟩
   | true =>
    have q9':te σ8 H9 fun y H4=>∃ys,H4 s.heap.objs.size=some (.lst ys)/\ys.length<sizeLine/\∃m',m'<n/\W (i+1) m' σ8 (upd H4 s.heap.objs.size (.lst (ys++[y]))):=q9;have r:=B4.elt _ s9 σ8 H9 _ I9 q9';rw[yP,yw,yA,yx,ye]at r;show wpAny _ _ (eval elt _) _ _ s9;refine thn r fun y s10 y_=>?_;obtain⟨yv,H10,I10,r10,q10⟩:=y_;obtain⟨ys,a1,a2,m',hm,w10⟩:=q10;have r:=bJ (X:=Y) _ s10 σ8 H10 (.ref s.heap.objs.size) [yv] (.ref s.heap.objs.size) [y] (fun _ H'=>H'=upd H10 s.heap.objs.size (.lst (ys++[yv]))) I10 rfl (.cons r10 .nil) ⟨_,ys,yv,rfl,rfl,a1,a2,rfl⟩;rw[yP,yw,yA,yx]at r;refine thn r fun _ s11 y_=>?_;obtain⟨_,H11,I11,_,e11⟩:=y_;subst e11;obtain⟨b1,b2,b3⟩:=back I11;exact⟨m',hm,i+1,σ8,_,b1,b2,b3,w10⟩
 have st4':tn 0 ({ s3 with heap:=h₁ }:Shared).heap:=st4;have hs4:({ s with heap:=h₁ }:Shared)={ s3 with heap:=h₁ }:=by rw[←hs3]
 exact codeAny_compStart_list (loop _ hs4) (T.self _ 0 _ _ _ st4 (loop _ hs4))
theorem uc(O:df X N2 nt js scope cl sc y0)(hc:X.calm=true)(hi:PI X tg iter wi)(B:∀(s0:Shared) (H0:Hp) (fp:List Addr) (ps:List (Addr×Obj)),mF (dR X N2 scope cl y0 s0 H0 fp ps) tg ifs elt g tt te)
  (hs:∀x,foldedSetIterable iter X.env x=pure x:=by intro _;rfl):PE X (.ListComp elt [⟨tg,iter,ifs,0⟩] scope pos) (qt nt js wi g tt te):=by
 intro pins s σ H Q I h;rw[eval_ListComp];refine wpAny_comprehension_free (use:=none) rfl hs O.clos O.kind O.loc (thn (hi pins s σ H _ I h) fun xv s1 h1=>thn h1 fun itv s2 h2=>?_);obtain⟨it,fp,tn,J,H2,e,I2,T,st2,f2,q⟩:=h2;subst e;refine qz (RR:=fun acc C=>compPost (model X.prog X.w) X.A X.xe none (EP X pins σ Q) acc C) O hc B I2 T st2 f2 q ?_;intro acc C s' H' m hn J' c1 c2 c3 c4 c5 q';refine⟨m,hn,fun h' hsb=>⟨.ref acc,H',?_,rfl,q'⟩⟩;exact J'.turned (t':=s'.toks) (fun b o hb e=>hsb.extBut b o hb e) c1 (Ne.symm c2 |> fun z=>fun y=>z y.symm) (.inr c3) c4 c5
end
end L2
namespace U
open L2
section
variable {B:Bs}{X:Cx}{pos:Pos}{N2:List Str}{nt:Nat}{js:List Nat}{scope sc:Scope}{cl:List (Str×Addr)}{elt iter tg:Expr}{ifs:List Expr}{wi:TI'}{g:TG'}{tt:TT'}{te:TE'}{y0:Str}
theorem lB(O:df X N2 nt js scope cl sc y0)(hc:X.calm=true)(hi:PIH X B tg iter wi)(b:∀(s0:Shared) (H0:Hp) (fp:List Addr) (ps:List (Addr×Obj)),fg (dR X N2 scope cl y0 s0 H0 fp ps) B tg ifs elt g tt te)
  (hs:∀x,foldedSetIterable iter X.env x=pure x:=by intro _;rfl):PE' X B (.ListComp elt [⟨tg,iter,ifs,0⟩] scope pos) (fJ nt js wi g tt te) :=
 aQ (uc (g:=lowG X.K B g) (tt:=lH X.K B tt) (te:=low X.K B te) O hc hi (fun s0 H0 fp ps=>⟨(b s0 H0 fp ps).tgt,(b s0 H0 fp ps).tst,(b s0 H0 fp ps).elt⟩) hs) fun _ _ _ h=>gP h
theorem D8(clos:closureFor scope X.env=pure cl)(sub:oB X.env.cells cl)(xsc:X.env.scope=sc)(kind:scope.kind=.function)
  (own:scope.names.lookup y0=some .cell) (one:∀y∈scope.names,y.2=.cell->y.1=y0) (cf:∀n,cellsFrom n scope.names cl=(y0,n)::cl) (pc:∀h:Heap,pushCells h scope.names=h.push { cls:=.type "cell",data:=.cell none })
  (loc:∀y∈scope.names,y.2=.local->scope.names.lookup y.1=some .local) (names:cl.map (·.1)=((scope.names.filter (·.2==.free)).map (·.1)).reverse)
  (frs:∀x∈N2.drop nt,scope.names.lookup x=some .free/\sc.names.lookup x=some .cell) (len:N2.length=nt+js.length) (pl:js.map (fun j=>X.N[j]?)=(N2.drop nt).map some):df X N2 nt js scope cl sc y0 :=
 ⟨clos,fun x c e=>sub.mem (lookup_mem e),xsc,kind,own,one,cf,pc,loc,fun y m f=>by rw[names];exact List.mem_reverse.mpr (List.mem_map_of_mem (Le.mpr ⟨m,by rw[f];rfl⟩)),frs,len,fun k j e=>by
  have h:(js.map (fun j=>X.N[j]?))[k]?=((N2.drop nt).map some)[k]?:=by rw[pl]
  rw[JV,JV,e,List.getElem?_drop]at h;cases q:N2[nt+k]? with
  | none=>rw[q]at h;cases h
  | some x=>rw[q]at h;exact Ks h⟩
end
section
variable {B:Bs}{X:Cx}{pos:Pos}{x:Str}{a b e:Expr}{ta tb te:TE'}
theorem gN(i:Nat)(hN:X.N.Nodup)(hi:X.N[i]?=some x:=by rfl)(hx:Loc X.env.scope x:=by first | exact Or.inl rfl | exact Or.inr rfl)(hf:X.fn x=true∨X.env.scope.names.lookup x=some .local:=by first | exact .inl rfl | exact .inr rfl | assumption):PG' X B (.Name x pos) (bZ i):=vY hN hi hx hf
theorem sN{pos':Pos}(i:Nat)(hN:X.N.Nodup)(he:PE' X B e te)(hi:X.N[i]?=some x:=by rfl)(hx:Loc X.env.scope x:=by first | exact Or.inl rfl | exact Or.inr rfl)(hs:swapsWith e (some (.Name x pos')) pos.line X.env=pure false:=by rfl)(hf:X.fn x=true∨X.env.scope.names.lookup x=some .local:=by first | exact .inl rfl | exact .inr rfl | assumption):PS' X B (.Assign [.Name x pos'] e pos) (mr te (bZ i)):=BO hN hi hx he hs hf
theorem iX(ha:PE' X B a ta)(hb:PE' X B b tb)(hs:kU b:=by exact fun _ _=>rfl):PE' X B (.Subscript a b pos) (uOp uIx ta tb):=DO ha hb hs
theorem cW{op:CmpOp}{r':R2'}{r:R2}(ho:OpR X (compareOp op) r)(v:VR X.K B r' r)(ha:PE' X B a ta)(hb:PE' X B b tb)(hm:behindInMarks op b=false:=by with_unfolding_all rfl):PT' X B (.Compare a [op] [b] pos) (jR (uOp r' ta tb)):=vj ho v ha hb hm
theorem cN{op:CmpOp}{r':R2'}{r:R2}(ho:OpR X (compareOp op) r)(v:VR X.K B r' r)(ha:PE' X B a ta)(hb:PE' X B b tb)(h1:op≠.In:=by decide)(h2:op≠.NotIn:=by decide):PT' X B (.Compare a [op] [b] pos) (jR (uOp r' ta tb)):=vj ho v ha hb (ba _ h1 h2)
section
variable {N2:List Str}{nt:Nat}{js:List Nat}{scope sc:Scope}{cl:List (Str×Addr)}{elt iter tg:Expr}{ifs:List Expr}{wi:TI'}{g:TG'}{tt:TT'}{y:Str}{py spos:Pos}
theorem cE(N2:List Str)(nt:Nat)(js:List Nat)(O:cw X N2 nt js scope cl sc)(hi:PI' X B tg iter wi)(b:∀(s0:Shared) (H0:Hp) (fp:List Addr) (ps:List (Addr×Obj)),fg (cL X N2 scope cl s0 H0 fp ps) B tg ifs elt g tt te)(hc:X.calm=true:=by rfl)(hs:∀x,foldedSetIterable iter X.env x=pure x:=by intro _;rfl) :
  PE' X B (.ListComp elt [⟨tg,iter,ifs,0⟩] scope pos) (fJ nt js wi g tt te):=xG O hc hi b hs
theorem sC(i:Nat)(hN:X.N.Nodup)(N2:List Str)(nt:Nat)(js:List Nat)(O:cw X N2 nt js scope cl sc)(hi:PI' X B tg iter wi)(b:∀(s0:Shared) (H0:Hp) (fp:List Addr) (ps:List (Addr×Obj)),fg (cL X N2 scope cl s0 H0 fp ps) B tg ifs elt g tt te)
  (hy:X.N[i]?=some y:=by rfl) (hl:Loc X.env.scope y:=by first | exact Or.inl rfl | exact Or.inr rfl) (hc:X.calm=true:=by rfl) (hsw:swapsWith (.ListComp elt [⟨tg,iter,ifs,0⟩] scope pos) (some (.Name y py)) spos.line X.env=pure true:=by rfl) (hs:∀x,foldedSetIterable iter X.env x=pure x:=by intro _;rfl)
  (hf:X.fn y=true∨X.env.scope.names.lookup y=some .local:=by first | exact .inl rfl | exact .inr rfl | assumption):PS' X B (.Assign [.Name y py] (.ListComp elt [⟨tg,iter,ifs,0⟩] scope pos) spos) (mr (fJ nt js wi g tt te) (bZ i)):=wM hN hy hl O hc hi b hsw hs hf
end
def ckB(ns sc:List (Str×NameKind))(N:List Str):Bool:=ns.all (fun y=>decide (y.2≠.cell)&&(decide (y.2≠.local)||decide (ns.lookup y.1=some .local)))&&N.all fun x=>decide (ns.lookup x=some .free)&&decide (sc.lookup x=some .cell)
theorem cA{X:Cx}{N2:List Str}{nt:Nat}{js:List Nat}{scope:Scope}{cl:List (Str×Addr)}(st:Stmt)(clos:closureFor scope X.env=pure cl:=by exact rfl)(sub:oB X.env.cells cl:=by repeat (first | exact trivial | refine⟨rfl,?_⟩))(xsc:X.env.scope=av st:=by rfl)(kind:scope.kind=.function:=by rfl)
  (ck:ckB scope.names (av st).names (N2.drop nt)=true:=by decide +kernel) (names:cl.map (·.1)=((scope.names.filter (·.2==.free)).map (·.1)).reverse:=by rfl)
  (len:N2.length=nt+js.length:=by rfl) (pl:js.map (fun j=>X.N[j]?)=(N2.drop nt).map some:=by rfl):cw X N2 nt js scope cl (av st):=by
 unfold ckB at ck;rw[K8,Ky,Ky]at ck;obtain⟨h1,h2⟩:=ck;refine cok clos sub xsc kind (fun y m=>?_) (fun y m e=>?_) names (fun x m=>?_) len pl
 ·have:=h1 y m;rw[K8]at this;exact LC this.1
 ·have:=h1 y m;rw[K8,Bool.or_eq_true]at this;exact this.2.elim (fun z=>absurd e (LC z)) LC
 ·have:=h2 x m;rw[K8]at this;exact⟨LC this.1,LC this.2⟩
theorem _root_.L2.b9.mo{j k:Nat}{A:Around}(r:b9 k A)(h:j≤k:=by decide):b9 j A:=r.mono h
end
end U
namespace HT2
def st(a:Nat):Nat:=((a*2147483648) % 18446744073709551616+a / 8589934592)*11400714785074694791 % 18446744073709551616
def ad(a h:Nat):Nat:=(a+h*14029467366897019727) % 18446744073709551616
inductive T where | lf | nd (l:T) (k:Nat) (r:T)
def ins(k:Nat):T->Option T
 | .lf=>some (.nd .lf k .lf)
 | .nd l j r=>bif Nat.blt k j then(match ins k l with | some l'=>some (.nd l' j r) | none=>none)else bif Nat.blt j k then(match ins k r with | some r'=>some (.nd l j r') | none=>none)else none
def kD:List Nat->T->Option T
 | [],t=>some t
 | k::l,t=>match ins k t with | some t'=>kD l t' | none=>none
def kW:List Nat->List Nat
 | []=>[]
 | a::l=>st (ad a 0)::st (ad a 1)::st (ad a 2)::st (ad a 3)::kW l
def lT:Nat->List Nat
 | 0=>[2870177450012600261]
 | n+1=>kW (lT n)
def last(n a:Nat):Bool:=Nat.beq ((a+(n ^^^ (2870177450012600261 ^^^ 3527539))) % 18446744073709551616) 18446744073709551615
def kG(n:Nat):List Nat->Bool
 | []=>true
 | a::l=>bif last n a then false else kG n l
def ok(n:Nat):Bool:=(kD (lT n) .lf).isSome&&kG n (lT n)
def mem(k:Nat):T->Prop
 | .lf=>False
 | .nd l j r=>k=j∨mem k l∨mem k r
def bst(lo hi:Nat):T->Prop
 | .lf=>True
 | .nd l j r=>(lo≤j/\j<hi)/\bst lo j l/\bst (j+1) hi r
theorem ie{k:Nat}:∀{t:T} {lo hi:Nat},bst lo hi t->mem k t->lo≤k/\k<hi
 | .nd l j r,lo,hi,h,m=>by
  obtain⟨⟨a,b⟩,c,d⟩:=h;rcases m with rfl | m | m
  ·exact⟨a,b⟩
  ·have:=ie c m;omega
  ·have:=ie d m;omega
theorem oq{k:Nat}:∀{t t':T} {lo hi:Nat},bst lo hi t->lo≤k->k<hi->ins k t=some t'->bst lo hi t'/\¬mem k t/\∀j,mem j t'↔j=k∨mem j t
 | .lf,t',lo,hi,h,a,b,e=>by
  cases e;exact⟨⟨⟨a,b⟩,trivial,trivial⟩,id,fun j=>by simp[mem]⟩
 | .nd l j r,t',lo,hi,h,a,b,e=>by
  obtain⟨⟨c,d⟩,hl,hr⟩:=h;unfold ins at e;cases q:Nat.blt k j with
  | true =>
   rw[q,cond_true]at e;have q:k<j:=by simpa[Nat.blt_eq]using q
   cases z:ins k l with
   | none=>rw[z]at e;cases e
   | some l' =>
    rw[z]at e;cases e;obtain⟨x,y,w⟩:=oq hl a q z;refine⟨⟨⟨c,d⟩,x,hr⟩,fun m=>?_,fun i=>?_⟩
    ·rcases m with m | m | m
     ·omega
     ·exact y m
     ·have:=ie hr m;omega
    ·simp only[mem,w];constructor
     ·rintro(h |(h | h) | h)
      ·exact .inr (.inl h)
      ·exact .inl h
      ·exact .inr (.inr (.inl h))
      ·exact .inr (.inr (.inr h))
     ·rintro(h | h | h | h)
      ·exact .inr (.inl (.inl h))
      ·exact .inl h
      ·exact .inr (.inl (.inr h))
      ·exact .inr (.inr h)
  | false =>
   rw[q,cond_false]at e;have q:¬k<j:=by intro z;rw[(Nat.blt_eq).mpr z]at q;cases q
   cases q2:Nat.blt j k with
   | false=>rw[q2,cond_false]at e;cases e
   | true =>
    rw[q2,cond_true]at e;have q2:j<k:=by simpa[Nat.blt_eq]using q2
    cases z:ins k r with
    | none=>rw[z]at e;cases e
    | some r' =>
     rw[z]at e;cases e;obtain⟨x,y,w⟩:=oq hr q2 b z;refine⟨⟨⟨c,d⟩,hl,x⟩,fun m=>?_,fun i=>?_⟩
     ·rcases m with m | m | m
      ·omega
      ·have:=ie hl m;omega
      ·exact y m
     ·simp only[mem,w];constructor
      ·rintro(h | h | h | h)
       ·exact .inr (.inl h)
       ·exact .inr (.inr (.inl h))
       ·exact .inl h
       ·exact .inr (.inr (.inr h))
      ·rintro(h | h | h | h)
       ·exact .inr (.inr (.inl h))
       ·exact .inl h
       ·exact .inr (.inl h)
       ·exact .inr (.inr (.inr h))
theorem jO{hi:Nat}:∀{l:List Nat} {t:T},bst 0 hi t->(∀k∈l,k<hi)->(kD l t).isSome=true->l.Nodup/\∀k∈l,¬mem k t
 | [],_,_,_,_=>⟨List.nodup_nil,fun k hk=>by cases hk⟩
 | k::l,t,h,hl,e=>by
  unfold kD at e;cases z:ins k t with
  | none=>rw[z]at e;cases e
  | some t' =>
   rw[z]at e;obtain⟨a,b,c⟩:=oq h (Ll _) (hl k J6) z;obtain⟨p,q⟩:=jO a (fun j hj=>hl j (J8 _ hj)) e;refine⟨LW.mpr ⟨fun m=>q k m ((c k).mpr (.inl rfl)),p⟩,fun j hj m=>?_⟩;rcases J7.mp hj with rfl | hj
   ·exact b m
   ·exact q j hj ((c j).mpr (.inr m))
def acc(t:List Nat):Nat:=t.foldl (fun a h=>st (ad a h)) 2870177450012600261
def dN:Nat->List (List Nat)
 | 0=>[[]]
 | n+1=>(dN n).flatMap fun t=>[t++[0],t++[1],t++[2],t++[3]]
theorem fw(t:List Nat)(x:Nat):acc (t++[x])=st (ad (acc t) x):=by unfold acc;rw[LS,List.foldl_cons,List.foldl_nil]
theorem jU:∀l:List (List Nat),kW (l.map acc)=(l.flatMap fun t=>[t++[0],t++[1],t++[2],t++[3]]).map acc
 | []=>rfl
 | t::l=>by
  rw[Kc,kW,jU l,LU,J9,Kc,Kc,Kc,Kc,Lc,fw,fw,fw,fw,List.cons_append,List.cons_append,List.cons_append,List.cons_append,List.nil_append]
theorem j9(n:Nat):dN (n+1)=(dN n).flatMap fun t=>[t++[0],t++[1],t++[2],t++[3]]:=by rw[dN]
theorem qw(n:Nat):lT (n+1)=kW (lT n):=by rw[lT]
theorem r8(n:Nat):lT n=(dN n).map acc:=by
 induction n with
 | zero=>rw[lT,dN,Kc,Lc];unfold acc;rw[List.foldl_nil]
 | succ n ih=>rw[qw,ih,jU,j9]
theorem mB:∀{t:List Nat},(∀x∈t,x<4)->t∈dN t.length:=by
 intro t;have:∀m:List Nat,(∀x∈m.reverse,x<4)->m.reverse∈dN m.reverse.length:=by
  intro m
  induction m with
  | nil=>intro _;simp[dN]
  | cons x m ih =>
   intro h;rw[List.reverse_cons]at h ⊢;have hx:=h x (by simp);have:=ih fun y hy=>h y (KD _ hy);rw[J2];show _∈dN (m.reverse.length+1);rw[j9];rw[List.mem_flatMap];refine⟨m.reverse,this,?_⟩;have:x=0∨x=1∨x=2∨x=3:=by omega
   rcases this with rfl | rfl | rfl | rfl<;>simp
 intro h;have:=this t.reverse (by rw[List.reverse_reverse];exact h)
 rwa [List.reverse_reverse]at this
theorem jB{α β:Type}{f:α->β}:∀{l:List α},(l.map f).Nodup->∀{x y:α},x∈l->y∈l->f x=f y->x=y
 | [],_,_,_,h,_,_=>by cases h
 | z::l,h,x,y,hx,hy,e=>by
  rw[Kc,LW]at h;rcases J7.mp hx with ex | hx<;>rcases J7.mp hy with ey | hy
  ·rw[ex,ey]
  ·rw[ex]at e;exact absurd (JU.mpr ⟨y,hy,e.symm⟩) h.1
  ·rw[ey]at e;exact absurd (JU.mpr ⟨x,hx,e⟩) h.1
  ·exact jB h.2 hx hy e
theorem o0:ok 0=true:=by decide +kernel
theorem o1:ok 1=true:=by decide +kernel
theorem o2:ok 2=true:=by decide +kernel
theorem o3:ok 3=true:=by decide +kernel
theorem o4:ok 4=true:=by decide +kernel
theorem o5:ok 5=true:=by decide +kernel
theorem o6:ok 6=true:=by decide +kernel
theorem oks(h:n≤6):ok n=true:=by
 have:n=0∨n=1∨n=2∨n=3∨n=4∨n=5∨n=6:=by omega
 rcases this with rfl | rfl | rfl | rfl | rfl | rfl | rfl
 ·exact o0
 ·exact o1
 ·exact o2
 ·exact o3
 ·exact o4
 ·exact o5
 ·exact o6
theorem FD(a:Nat):st a<18446744073709551616:=Nat.mod_lt _ (by decide)
theorem nK:∀(t:List Nat),acc t<18446744073709551616:=by
 have:∀(t:List Nat) (a:Nat),a<18446744073709551616->t.foldl (fun a h=>st (ad a h)) a<18446744073709551616:=by
  intro t
  induction t with
  | nil=>exact fun a h=>h
  | cons x t ih=>exact fun a _=>ih _ (FD _)
 exact fun t=>this t _ (by decide)
theorem j7{n:Nat}:∀{l:List Nat},kG n l=true->∀a∈l,last n a=false
 | [],_,_,h=>by cases h
 | b::l,h,a,ha=>by
  unfold kG at h;cases q:last n b with
  | true=>rw[q]at h;cases h
  | false =>
   rw[q,cond_false]at h;rcases J7.mp ha with rfl | ha
   ·exact q
   ·exact j7 h a ha
theorem pX(hl:t.length=u.length)(l6:t.length≤6)(ht:∀x∈t,x<4)(hu:∀x∈u,x<4):(acc t=acc u->t=u)/\last t.length (acc t)=false:=by
 have o:=oks l6;unfold ok at o;rw[K8]at o;rw[r8]at o;have mt:=mB ht;have mu:=mB hu;rw[←hl]at mu;have nd:=(jO (hi:=18446744073709551616) (t:=.lf) trivial (fun k hk=>by obtain⟨x,_,rfl⟩:=JU.mp hk;exact nK x) o.1).1;exact⟨fun e=>jB nd mt mu e,j7 o.2 _ (JU.mpr ⟨t,mt,rfl⟩)⟩
theorem lZ:∀(t:List Nat) (a:Nat),(∀x∈t,x<4)->(t.map fun x=>((x:Nat):Int)).foldl (fun acc h=>(((acc+(h % ((2 ^ 64:Nat):Int)).toNat*14029467366897019727) % 2 ^ 64*2 ^ 31) % 2 ^ 64+(acc+(h % ((2 ^ 64:Nat):Int)).toNat*14029467366897019727) % 2 ^ 64 / 2 ^ 33)*11400714785074694791 % 2 ^ 64) a=t.foldl (fun a h=>st (ad a h)) a
 | [],_,_=>by rw[Lc,List.foldl_nil,List.foldl_nil]
 | x::t,a,h=>by
  have hx:=h x J6;have e:(((x:Nat):Int) % ((2 ^ 64:Nat):Int)).toNat=x:=by
   rw[←Int.natCast_emod,Kk,Nat.mod_eq_of_lt (Nat.lt_trans hx (by decide))]
  rw[Kc,List.foldl_cons,List.foldl_cons,e];rw[lZ t _ fun y hy=>h y (J8 _ hy)];unfold st ad;simp only[Nat.reducePow]
theorem nQ{x:Nat}(h:x<4):hashInt (x:Int)=(x:Int):=by
 have:x=0∨x=1∨x=2∨x=3:=by omega
 rcases this with rfl | rfl | rfl | rfl<;>decide
def fn(n a:Nat):Nat:=(a+(n ^^^ (2870177450012600261 ^^^ 3527539))) % 2 ^ 64
def sg(a:Nat):Int:=if (a==2 ^ 64 - 1)=true then 1546275796 else if a<2 ^ 63 then(a:Int)else(a:Int) - ((2 ^ 64:Nat):Int)
theorem oK(h:∀x∈t,x<4):Builtin.Tuple.tupleHashOf ((t.map fun x=>((x:Nat):Int)).map hashInt)=sg (fn t.length (acc t)):=by
 have e:(t.map fun x=>((x:Nat):Int)).map hashInt=t.map fun x=>((x:Nat):Int):=by
  rw[JY];exact K1 fun x hx=>nQ (h x hx)
 rw[e];have f:=lZ t 2870177450012600261 h;unfold Builtin.Tuple.tupleHashOf sg fn acc;rw[←f,JN]
theorem CV{t u:List Nat}(hl:t.length=u.length)(l6:t.length≤6)(ht:∀x∈t,x<4)(hu:∀x∈u,x<4)(e:L2.hI P w (t.map fun x=>((x:Nat):Int))=L2.hI P w (u.map fun x=>((x:Nat):Int))):t=u:=by
 have e:reduceHash (Builtin.Tuple.tupleHashOf ((t.map fun x=>((x:Nat):Int)).map hashInt))=reduceHash (Builtin.Tuple.tupleHashOf ((u.map fun x=>((x:Nat):Int)).map hashInt)):=e;rw[oK ht,oK hu]at e;obtain⟨i1,n1⟩:=pX hl l6 ht hu;obtain⟨_,n2⟩:=pX hl.symm (by omega) hu ht;refine i1 ?_;rw[←hl]at e n2;have la:=nK t;have lb:=nK u;unfold last at n1 n2;unfold fn at e;generalize acc t=a at *;generalize acc u=b at *;generalize (t.length ^^^ (2870177450012600261 ^^^ 3527539))=c at *;have n1:(a+c) % 18446744073709551616≠18446744073709551615:=fun z=>by rw[z]at n1;cases n1
 have n2:(b+c) % 18446744073709551616≠18446744073709551615:=fun z=>by rw[z]at n2;cases n2
 have l1:(a+c) % 18446744073709551616<18446744073709551616:=Nat.mod_lt _ (by decide);have l2:(b+c) % 18446744073709551616<18446744073709551616:=Nat.mod_lt _ (by decide);have key:∀v:Nat,v<18446744073709551616->v≠18446744073709551615->reduceHash (sg v)=if v<9223372036854775808 then(v:Int)else(v:Int) - 18446744073709551616:=fun v hv hn=>by
  have e1:(v==2 ^ 64 - 1)=false:=by rw[Bool.eq_false_iff];intro z;rw[LV]at z;exact hn z
  have e2:sg v=if v<9223372036854775808 then(v:Int)else(v:Int) - 18446744073709551616:=by
   unfold sg;rw[Kq (by rw[e1];decide)];rfl
  rw[e2];unfold reduceHash;split
  ·rw[Kw (by simp;omega),Kq (by first |(simp;done) |(simp;omega))]
  ·rw[Kw (by simp;omega),Kq (by first |(simp;done) |(simp;omega))]
 have e:reduceHash (sg ((a+c) % 18446744073709551616))=reduceHash (sg ((b+c) % 18446744073709551616)):=e;rw[key _ l1 n1,key _ l2 n2]at e;have e3:(a+c) % 18446744073709551616=(b+c) % 18446744073709551616:=by
  generalize (a+c) % 18446744073709551616=p at *;generalize (b+c) % 18446744073709551616=q at *;split at e<;>split at e<;>omega
 omega
end HT2
namespace DM
abbrev P2:=Int×Int
def pk(p:P2):Int:=6*p.1+p.2
structure Good (c:Int) (l:List P2):Prop where
 nd:l.Nodup
 lo:∀p∈l,0≤p.1/\p.1<p.2/\p.2<c
theorem gM{α:Type}(k:α->Int):∀{a b:List α},a.Pairwise (fun x y=>k x<k y)->b.Pairwise (fun x y=>k x<k y)->(∀x,x∈a↔x∈b)->a=b
 | [],[],_,_,_=>rfl
 | [],y::b,_,_,h=>by have:=(h y).mpr J6;simp at this
 | x::a,[],_,_,h=>by have:=(h x).mp J6;simp at this
 | x::a,y::b,ha,hb,h=>by
  obtain⟨h1,h2⟩:=List.pairwise_cons.mp ha;obtain⟨g1,g2⟩:=List.pairwise_cons.mp hb;have e:x=y:=by
   rcases J7.mp ((h x).mp J6)with e | m
   ·exact e
   ·rcases J7.mp ((h y).mpr J6)with e | m'
    ·exact e.symm
    ·have a1:=g1 x m;have a2:=h1 y m';omega
  subst e;congr 1;refine gM k h2 g2 fun z=>⟨fun m=>?_,fun m=>?_⟩
  ·rcases J7.mp ((h z).mp (J8 _ m))with e | m'
   ·subst e;have:=h1 z m;omega
   ·exact m'
  ·rcases J7.mp ((h z).mpr (J8 _ m))with e | m'
   ·subst e;have:=g1 z m;omega
   ·exact m'
theorem ik{a b l:List P2}(ha:a.Perm l)(sa:a.Pairwise (fun x y=>pk x<pk y))(hb:b.Perm l)(sb:b.Pairwise (fun x y=>pk x<pk y)):a=b :=
 gM pk sa sb fun x=>ha.mem_iff.trans hb.mem_iff.symm
theorem Good.perm(g:Good c l)(h:m.Perm l):Good c m:=⟨h.nodup_iff.mpr g.nd,fun p hp=>g.lo p (h.mem_iff.mp hp)⟩
theorem Good.prs(g:Good c l)(hc:c≤6):∀p∈l,p∈SP.prs:=fun p hp=>by
 have:=g.lo p hp;exact SP.vZ (u:=p.1) (v:=p.2) this.1 this.2.1 (by omega)
theorem iT{α:Type}[BEq α][LawfulBEq α]{l m:List α}(nd:l.Nodup)(h:∀x∈l,x∈m):l.length≤m.length:=by
 induction l generalizing m with
 | nil=>simp
 | cons x l ih =>
  obtain⟨h1,h2⟩:=LW.mp nd;have hx:=h x J6;have:=ih (m:=m.erase x) h2 fun y hy=>(List.mem_erase_of_ne (by rintro rfl;exact h1 hy)).mpr (h y (J8 _ hy));have e:=List.length_erase_of_mem hx;have:0<m.length:=List.length_pos_of_mem hx;simp only[Kt];omega
theorem Good.len(g:Good c l)(hc:c≤6):l.length≤15:=iT g.nd (g.prs hc)
theorem nU(hc:c≤6){l:List P2}(g:Good c l)(s:l.Pairwise (fun x y=>pk x<pk y))(hn:n<c) :
  (l.filter (fun p=>decide (p.2=n))).map (·.1)=((List.range n.toNat).map fun k=>((k:Nat):Int)).filter (fun u=>decide ((u,n)∈l)):=by
 refine gM id ?_ ?_ fun x=>?_
 ·rw[List.pairwise_map];refine List.Pairwise.imp_of_mem (fun {a b} ha hb h=>?_) (s.filter _);have h1:=Le.mp ha;have h2:=Le.mp hb;have e1:a.2=n:=by simpa using h1.2
  have e2:b.2=n:=by simpa using h2.2
  unfold pk at h;show a.1<b.1;omega
 ·refine List.Pairwise.filter _ ?_;rw[List.pairwise_map];refine List.Pairwise.imp (fun h=>?_) List.pairwise_lt_range;simp only[id];omega
 ·simp only[JU,Le,LR,KI];constructor
  ·rintro⟨p,⟨hp,e⟩,rfl⟩;have:=g.lo p hp;refine⟨⟨p.1.toNat,by omega,by omega⟩,?_⟩;rw[←e];exact hp
  ·rintro⟨⟨k,hk,rfl⟩,hm⟩;exact⟨_,⟨hm,rfl⟩,rfl⟩
def tri:Nat->Nat
 | 0=>0
 | n+1=>tri n+n
theorem CU:∀v,v<6->tri v+v≤15:=by decide
end DM
namespace My
def gd(a b:Int):Int:=(Int.gcd a b:Nat)
theorem oO(a:Int):gd a 0=if a<0 then -a else a:=by
 unfold gd;rw[Int.gcd_zero_right];split<;>omega
theorem CG(a b:Int):gd (if a<0 then -a else a) (if b<0 then -b else b)=gd a b:=by
 unfold gd;have h:∀x:Int,(if x<0 then -x else x)=(x.natAbs:Int):=fun x=>by split<;>omega
 rw[h,h];simp[Int.gcd]
theorem ql(a b:Int):gd b (Int.fmod a b)=gd a b:=by
 unfold gd;congr 1;apply Nat.dvd_antisymm
 ·apply Int.dvd_gcd
  ·have h1:=Int.gcd_dvd_left b (a.fmod b);have h2:=Int.gcd_dvd_right b (a.fmod b);have e:a=b*a.fdiv b+a.fmod b:=by rw[Int.fmod_def];omega
   have h3:((b.gcd (a.fmod b):Nat):Int) ∣ b*a.fdiv b+a.fmod b:=Int.dvd_add (Int.dvd_mul_of_dvd_left h1) h2;rw[←e]at h3;exact h3
  ·exact Int.gcd_dvd_left b (a.fmod b)
 ·apply Int.dvd_gcd
  ·exact Int.gcd_dvd_right a b
  ·have h1:=Int.gcd_dvd_left a b;have h2:=Int.gcd_dvd_right a b;rw[Int.fmod_def];exact Int.dvd_sub h1 (Int.dvd_mul_of_dvd_left h2)
theorem cV(a b:Int)(h:b≠0):0<gd a b:=by
 unfold gd;have:0<a.gcd b:=Int.gcd_pos_iff.mpr (Or.inr h);omega
theorem du(a b:Int):gd a b ∣ a:=Int.gcd_dvd_left a b
theorem gg(a b:Int):gd a b ∣ b:=Int.gcd_dvd_right a b
theorem zH(a b:Int)(h:b≠0):gd a b≤if b<0 then -b else b:=by
 have d:=gg a b;have:gd a b ∣ (if b<0 then -b else b):=by
  split
  ·exact Int.dvd_neg.mpr d
  ·exact d
 exact Lj (by split<;>omega) this
theorem uU(a b:Int)(h:b≠0){x y:Int}(ex:a=gd a b*x)(ey:b=gd a b*y):gd x y=1:=by
 have hp:=cV a b h;have hd:gd a b*gd x y ∣ gd a b:=by
  have h1:gd a b*gd x y ∣ a:=by
   conv=>rhs;rw[ex]
   exact Int.mul_dvd_mul_left _ (du x y)
  have h2:gd a b*gd x y ∣ b:=by
   conv=>rhs;rw[ey]
   exact Int.mul_dvd_mul_left _ (gg x y)
  have h3:=Int.dvd_coe_gcd h1 h2;exact h3
 obtain⟨k,hk⟩:=hd;have e1:gd a b*(gd x y*k)=gd a b*1:=by rw[←KA,← hk,Lk]
 have e2:gd x y*k=1:=Int.eq_of_mul_eq_mul_left (by omega) e1;have hn:0≤gd x y:=Int.natCast_nonneg _;have:gd x y ∣ 1:=⟨k,e2.symm⟩;exact Int.eq_one_of_dvd_one hn this
theorem Bc(h:gd a b=gd c d)(p:0≤b)(z:b≠0):0≤b/\0≤Int.fmod a b/\gd b (Int.fmod a b)=gd c d :=
 ⟨p,Int.fmod_nonneg_of_pos a (by omega),(ql a b).trans h⟩
theorem kC(a b:Int):0<b->0<gd a b/\gd a b≤b:=fun h=>by
 have:=zH a b (by omega);rw[Kq (by omega)]at this;exact⟨cV a b (by omega),this⟩
theorem AL(a b:Int):gd (-a) (-b)=gd a b:=by
 unfold gd;simp[Int.gcd]
structure Low (a b x y:Int):Prop where
 ex:∃g,a=g*x/\b=g*y
 one:gd x y=1
theorem C3(hb:b≠0)(hg:g=gd a b∨g=-gd a b)(ex:a=g*x)(ey:b=g*y):Low a b x y:=by
 refine⟨⟨g,ex,ey⟩,?_⟩;rcases hg with rfl | rfl
 ·exact uU a b hb ex ey
 ·have h:=uU (-a) (-b) (by omega) (x:=x) (y:=y);rw[AL]at h;refine h ?_ ?_
  ·conv=>lhs;rw[ex]
   rw[Int.neg_mul,Int.neg_neg]
  ·conv=>lhs;rw[ey]
   rw[Int.neg_mul,Int.neg_neg]
theorem Low.cross(h:Low a b x y):x*b=a*y:=by
 obtain⟨g,e1,e2⟩:=h.ex;rw[e1,e2,← KA,KP x g]
theorem dM(hg:g≠0)(d:g ∣ a):a=g*Int.fdiv a g:=by
 rw[Int.fdiv_eq_ediv_of_dvd d];exact(Int.mul_ediv_cancel' d).symm
theorem div_pos(hb:b≠0)(hg:g≠0)(d:g ∣ b)(s:(0<b/\0<g)∨(b<0/\g<0)):0<Int.fdiv b g:=by
 have e:=dM hg d;generalize Int.fdiv b g=q at e;rcases (show q≤0∨0<q by omega)with h | h
 ·rcases s with⟨s1,s2⟩ |⟨s1,s2⟩
  ·have:=Int.mul_nonpos_of_nonneg_of_nonpos (Lo s2) h;omega
  ·have:=Int.mul_nonneg_of_nonpos_of_nonpos (Lo s2) h;omega
 ·exact h
theorem yL(hb:b≠0)(hg:(0<b/\g=gd a b)∨(b<0/\g=-gd a b)):Low a b (Int.fdiv a g) (Int.fdiv b g)/\0<Int.fdiv b g:=by
 have hp:=cV a b hb;have hgn:g≠0:=by omega
 have d1:g ∣ a:=by
  rcases hg with⟨_,rfl⟩ |⟨_,rfl⟩
  ·exact du a b
  ·exact Int.neg_dvd.mpr (du a b)
 have d2:g ∣ b:=by
  rcases hg with⟨_,rfl⟩ |⟨_,rfl⟩
  ·exact gg a b
  ·exact Int.neg_dvd.mpr (gg a b)
 refine⟨C3 hb (by omega) (dM hgn d1) (dM hgn d2),div_pos hb hgn d2 (by omega)⟩
end My
namespace My
open U
theorem mJ(a b:Int)(h:b≠0):(a.fmod b).natAbs<b.natAbs:=by
 rcases (show 0<b∨b<0 by omega)with hb | hb
 ·have h1:=Int.fmod_nonneg_of_pos a hb;have h2:=Int.fmod_lt_of_pos a hb;omega
 ·have e:a.fmod b=-((-a).fmod (-b)):=by rw[Int.neg_fmod_neg];omega
  have h1:=Int.fmod_nonneg_of_pos (-a) (show 0 < -b by omega);have h2:=Int.fmod_lt_of_pos (-a) (show 0 < -b by omega);omega
def BN(n:Nat)(i:Int):Prop:=i.natAbs<2 ^ n
theorem BN.fit(h:BN n i)(hn:n≤9000):Fit i:=by
 unfold Fit;unfold BN at h;rcases Nat.eq_zero_or_pos i.natAbs with h0 | hp
 ·rw[h0,Nat.log2_zero];omega
 ·have:=(Nat.log2_lt (Lx hp)).mpr h;omega
theorem BN.mul(h:BN n i)(g:BN m j):BN (n+m) (i*j):=by
 unfold BN at *;rw[Int.natAbs_mul,Nat.pow_add];exact Nat.mul_lt_mul'' h g
theorem BN.mono(h:BN n i)(k:n≤m):BN m i:=Ko h (Lg (by decide) k)
theorem BN.of_le(h:BN n i)(g:j.natAbs≤i.natAbs):BN n j:=L4 g h
def num(c:Int):Int:=if c.fmod 4=0 then(c.fdiv 4*982451653).fmod (2*10 ^ 60 - 1) - 10 ^ 60+1 else if c.fmod 4=1 then(c.fdiv 4).fmod 2001 - 1000 else(c.fdiv 4).fmod 25 - 12
def jg(a b:Int):Int×Int:=(a.fdiv (gd a (if b=0 then 1 else b)),(if b=0 then 1 else b).fdiv (gd a (if b=0 then 1 else b)))
def gL(a b:Int):Int×Int:=if b<0 then jg (-a) (-b)else jg a b
end My
namespace My
abbrev P2:=Int×Int
theorem iT:∀(m:Nat) (f:List Int),f.Nodup->(∀x∈f,0≤x/\x<(m:Int))->f.length≤m
 | 0,f,_,h=>by
  cases f with
  | nil=>exact JW _
  | cons x f=>have:=h x J6;omega
 | m+1,f,hn,h=>by
  have q:=iT m (f.erase (m:Int)) (hn.erase _) (fun x hx=>by
   have hx':=List.mem_of_mem_erase hx;have:=h x hx';have ne:x≠(m:Int):=(List.Nodup.mem_erase_iff hn).mp hx |>.1
   omega)
  by_cases hm:(m:Int)∈f
  ·rw[List.length_erase_of_mem hm]at q;omega
  ·rw[List.erase_of_not_mem hm]at q;omega
end My
namespace Lw
open L2 U
theorem boot_all:bootBuiltins "all"=some (.builtin "all"):=by decide +kernel
theorem boot_sorted:bootBuiltins "sorted"=some (.builtin "sorted"):=by decide +kernel
theorem boot_set:bootBuiltins "set"=some (.type "set"):=by decide +kernel
theorem boot_min:bootBuiltins "min"=some (.builtin "min"):=by decide +kernel
theorem boot_dict:bootBuiltins "dict"=some (.type "dict"):=by decide +kernel
theorem Bj{x y:PV}:atI [x,y] 0=some x:=rfl
theorem Cv{x y:PV}:atI [x,y] 1=some y:=rfl
theorem boot_bool:bootBuiltins "bool"=some (.type "bool"):=by decide +kernel
def top(i:Nat):Stmt:=PySem.Challenge.pw_doingbook_k23_what_is_seen.main.body.getD i (.Pass ⟨0,0,0,0⟩)
abbrev xJ:Stmt:=top 2
local macro_rules | `(tactic| walk_at "q") => `(tactic| exact ⟨rfl, rfl, rfl, by decide +kernel, rfl, by decide +kernel, by decide +kernel⟩)
theorem gW:ay ["sizes","fixed","told","place","size","choices","longer","way"] ["sizes","fixed"] (av xJ):=by walk_at "q"
abbrev Ae:Stmt:=top 3
theorem Fc:ay ["sizes"] ["sizes"] (av Ae):=by walk_at "q"
abbrev Bo:Stmt:=top 4
theorem lR:ay ["way","sizes","place","value","size"] ["way","sizes"] (av Bo):=by walk_at "q"
abbrev Cs:Stmt:=top 5
theorem oP:ay ["numbers","told","number"] ["numbers"] (av Cs):=by walk_at "q"
abbrev Cf:Stmt:=top 18
theorem F3:ay ["count","pair"] ["count","pair"] (av Cf):=by walk_at "q"
abbrev wC:Stmt:=top 19
theorem F2:ay ["count","pairs"] ["count","pairs"] (av wC):=by walk_at "q"
abbrev uv:Stmt:=inClass (top 21) 0
theorem si:ay ["self","count","ties","bows","own_ties","own_bows"] ["self","count","ties","bows"] (av uv):=by walk_at "q"
abbrev AF:Stmt:=inClass (top 21) 2
theorem DH:ay ["self","name"] ["self","name"] (av AF):=by walk_at "q"
abbrev yu:Stmt:=inClass (top 21) 4
theorem FG:ay ["self","name"] ["self","name"] (av yu):=by walk_at "q"
abbrev Bb:Stmt:=top 23
theorem qg:ay ["a","b","rest"] ["a","b"] (av Bb):=by walk_at "q"
abbrev BF:Stmt:=top 24
theorem tM:ay ["top","bottom","divisor"] ["top","bottom"] (av BF):=by walk_at "q"
abbrev As:Stmt:=top 25
theorem EV:ay ["a","b"] ["a","b"] (av As):=by walk_at "q"
abbrev Cq:Stmt:=top 26
theorem oZ:ay ["parts","bottom","part"] ["parts"] (av Cq):=by walk_at "q"
abbrev xw:Stmt:=top 27
theorem EF:ay ["parts","bottom"] ["parts","bottom"] (av xw):=by walk_at "q"
abbrev C0:Stmt:=top 28
theorem zF:ay ["parts","bottom"] ["parts"] (av C0):=by walk_at "q"
abbrev B9:Stmt:=top 34
theorem DN:ay ["part"] ["part"] (av B9):=by walk_at "q"
abbrev wy:Stmt:=top 35
theorem Dl:ay ["parts"] ["parts"] (av wy):=by walk_at "q"
abbrev xY:Stmt:=top 36
theorem Fj:ay ["parts"] ["parts"] (av xY):=by walk_at "q"
abbrev yi:Stmt:=top 37
theorem EO:ay ["drawing","sizes"] ["drawing","sizes"] (av yi):=by walk_at "q"
abbrev yh:Stmt:=top 38
theorem Gg:ay ["drawing","hidden"] ["drawing","hidden"] (av yh):=by walk_at "q"
abbrev yz:Stmt:=top 39
theorem FL:ay ["drawing","name"] ["drawing","name"] (av yz):=by walk_at "q"
abbrev xH:Stmt:=top 40
theorem Dx:ay ["drawing","hidden","name"] ["drawing","hidden","name"] (av xH):=by walk_at "q"
abbrev xC:Stmt:=top 41
theorem D0:ay ["drawing","sizes","hidden","name"] ["drawing","sizes","hidden","name"] (av xC):=by walk_at "q"
abbrev wO:Stmt:=top 42
theorem EA:ay ["table","rows","size"] ["table","rows","size"] (av wO):=by walk_at "q"
abbrev sR:Stmt:=top 43
theorem zQ:ay ["drawing","sizes","hidden","tables","rows"] ["drawing","sizes","hidden","tables"] (av sR):=by walk_at "q"
abbrev yd:Stmt:=top 44
theorem j5:ay ["rows","told","shares","longer","weight"] ["rows"] (av yd):=by walk_at "q"
abbrev uS:Stmt:=top 45
theorem pM:ay ["world","name","places","sizes","ways"] ["world","name"] (av uS):=by walk_at "q"
abbrev rZ:Stmt:=top 46
theorem mx:ay ["world","name","values","sources","row_count","ahead","rows"] ["world","name","values"] (av rZ):=by walk_at "q"
abbrev qF:Stmt:=top 47
theorem cQ:ay ["world","setnames","shares","hidden_bottom","hidden_tops","names","places","told","values","tops","bottom","name","picks","entries","own_bottom","own_tops"] ["world","setnames"] (av qF):=by walk_at "q"
abbrev rS:Stmt:=inClass (top 48) 0
theorem mS:ay ["self","drawing","sizes","hidden","tables","own_drawing","own_sizes","own_hidden","own_tables"] ["self","drawing","sizes","hidden","tables"] (av rS):=by walk_at "q"
abbrev AG:Stmt:=inClass (top 48) 1
theorem FQ:ay ["self","setnames"] ["self","setnames"] (av AG):=by walk_at "q"
abbrev AD:Stmt:=inClass (top 48) 2
theorem Dy:ay ["self"] ["self"] (av AD):=by walk_at "q"
abbrev wJ:Stmt:=inClass (top 48) 7
theorem Fm:ay ["self"] ["self"] (av wJ):=by walk_at "q"
abbrev A4:Stmt:=top 50
theorem Fb:ay ["_law_script","_law_k"] ["_law_script","_law_k"] (av A4):=by walk_at "q"
abbrev Bq:Stmt:=top 51
theorem gS:ay ["_law_cell","_law_many","_law_found","_law_number","_law_k"] ["_law_cell","_law_many"] (av Bq):=by walk_at "q"
abbrev Ac:Stmt:=top 52
theorem pQ:ay ["_law_one","_law_other","_law_rest"] ["_law_one","_law_other"] (av Ac):=by walk_at "q"
abbrev AE:Stmt:=top 53
theorem jM:ay ["_law_top","_law_bottom","_law_share"] ["_law_top","_law_bottom"] (av AE):=by walk_at "q"
abbrev C4:Stmt:=top 54
theorem dX:ay ["_law_script","_law_at","_law_first","_law_count","_law_kind","_law_xs","_law_ties","_law_bows","_law_k","_law_v","_law_u"] ["_law_script","_law_at"] (av C4):=by walk_at "q"
abbrev C9:Stmt:=top 55
theorem qc:ay ["_law_digit","_law_size","_law_full","_law_found","_law_k"] ["_law_digit","_law_size","_law_full"] (av C9):=by walk_at "q"
abbrev wq:Stmt:=top 56
theorem zT:ay ["_law_cell","_law_many","_law_size","_law_full","_law_xs"] ["_law_cell","_law_many","_law_size","_law_full"] (av wq):=by walk_at "q"
abbrev tV:Stmt:=top 57
theorem zj:ay ["_law_shape","_law_name","_law_bows"] ["_law_shape","_law_name"] (av tV):=by walk_at "q"
abbrev xf:Stmt:=top 58
theorem bU:ay ["_law_script","_law_at","_law_shape","_law_most","_law_count","_law_ties","_law_bows","_law_xs","_law_full","_law_sizes","_law_ways_here","_law_name","_law_size","_law_hidden","_law_k","_law_width","_law_tables","_law_sources","_law_under","_law_many","_law_other"] ["_law_script","_law_at","_law_shape","_law_most"] (av xf):=by walk_at "q"
abbrev xr:Stmt:=top 59
theorem DZ:ay ["_law_weights_here"] ["_law_weights_here"] (av xr):=by walk_at "q"
abbrev sW:Stmt:=top 60
theorem mw:ay ["_law_world_here","_law_sizes","_law_hidden","_law_tables","_law_rows_here"] ["_law_world_here"] (av sW):=by walk_at "q"
abbrev t5:Stmt:=top 61
theorem jj:ay ["_law_told","_law_bits","_law_sizes","_law_hidden","_law_tables","_law_rows_here","_law_table"] ["_law_told","_law_bits"] (av t5):=by walk_at "q"
abbrev AX:Stmt:=top 62
theorem ph:ay ["_law_script","_law_count","_law_ties","_law_bows"] ["_law_script"] (av AX):=by walk_at "q"
abbrev BX:Stmt:=top 63
theorem zw:ay ["_law_shape","_law_told","_law_bits","_law_rows_here"] ["_law_shape","_law_told","_law_bits"] (av BX):=by walk_at "q"
abbrev Bp:Stmt:=top 64
theorem oM:ay ["_law_found","_law_due","_law_k"] ["_law_found","_law_due"] (av Bp):=by walk_at "q"
abbrev yF:Stmt:=top 65
theorem iL:ay ["_law_sizes","_law_found","_law_size","_law_more","_law_row"] ["_law_sizes"] (av yF):=by walk_at "q"
abbrev yI:Stmt:=top 66
theorem pf:ay ["_law_rows_here","_law_by","_law_row"] ["_law_rows_here"] (av yI):=by walk_at "q"
abbrev vd:Stmt:=top 67
theorem bO:ay ["_law_shape","_law_world_here","_law_sizes","_law_hidden","_law_tables","_law_bottom","_law_shares_here","_law_row","_law_rows_here","_law_table","_law_told","_law_by","_law_heads_here","_law_found","_law_values","_law_under","_law_weight","_law_k","_law_name","_law_at","_law_other"] ["_law_shape","_law_world_here"] (av vd):=by walk_at "q"
abbrev AO:Stmt:=top 68
theorem tE:ay ["_law_made_here","_law_entries_here","_law_bottom","_law_found","_law_values"] ["_law_made_here","_law_entries_here","_law_bottom"] (av AO):=by walk_at "q"
abbrev By:Stmt:=top 69
theorem i4:ay ["_law_script","_law_shape","_law_world_here","_law_entries_here","_law_bottom","_law_made_here","_law_other"] ["_law_script"] (av By):=by walk_at "q"
set_option genInjectivity false
structure Ad where
 a_zB:Addr
 d_zB:FuncData
 a_zR:Addr
 d_zR:FuncData
 a_zO:Addr
 d_zO:FuncData
 a_zW:Addr
 d_zW:FuncData
 a_zV:Addr
 d_zV:FuncData
 a_zH:Addr
 d_zH:FuncData
 a_zi:Addr
 d_zi:FuncData
 a_za:Addr
 d_za:FuncData
 a_zd:Addr
 d_zd:FuncData
 a_zb:Addr
 d_zb:FuncData
 a_zT:Addr
 d_zT:FuncData
 a_yb:Addr
 d_yb:FuncData
 a_zh:Addr
 d_zh:FuncData
 a_zA:Addr
 d_zA:FuncData
 a_zY:Addr
 d_zY:FuncData
 a_zS:Addr
 d_zS:FuncData
 a_zt:Addr
 d_zt:FuncData
 a_zX:Addr
 d_zX:FuncData
 a_zD:Addr
 d_zD:FuncData
 a_zr:Addr
 d_zr:FuncData
 a_zu:Addr
 d_zu:FuncData
 a_zj:Addr
 d_zj:FuncData
 a_zz:Addr
 d_zz:FuncData
 a_zN:Addr
 d_zN:FuncData
 a_zy:Addr
 d_zy:FuncData
 a_zU:Addr
 d_zU:FuncData
 a_zp:Addr
 d_zp:FuncData
 a_zf:Addr
 d_zf:FuncData
 a_zc:Addr
 d_zc:FuncData
 a_zx:Addr
 d_zx:FuncData
 a_zg:Addr
 d_zg:FuncData
 a_zo:Addr
 d_zo:FuncData
 a_zv:Addr
 d_zv:FuncData
 a_zn:Addr
 d_zn:FuncData
 a_zI:Addr
 d_zI:FuncData
 a_zk:Addr
 d_zk:FuncData
 a_zs:Addr
 d_zs:FuncData
 a_zE:Addr
 d_zE:FuncData
 a_zl:Addr
 d_zl:FuncData
 a_zP:Addr
 d_zP:FuncData
 a_zG:Addr
 d_zG:FuncData
 a_zF:Addr
 d_zF:FuncData
 a_zq:Addr
 d_zq:FuncData
 a_ze:Addr
 d_ze:FuncData
 a_zw:Addr
 d_zw:FuncData
 a_zJ:Addr
 d_zJ:FuncData
 a_zQ:Addr
 d_zQ:FuncData
 a_zK:Addr
 d_zK:FuncData
 a_zL:Addr
 d_zL:FuncData
 a_zM:Addr
 d_zM:FuncData
 a_zm:Addr
 d_zm:FuncData
 a_zC:Addr
 d_zC:FuncData
 a_yg:Addr
 d_yg:FuncData
 a_A:Addr
 a_B:Addr
abbrev kX1(K:LFr)(a b:Addr):=PySem.W.kitOne K (.ref a) (.ref b)=some false
abbrev nX1(K:LFr)(x:Str)(a:Addr):=PySem.W.nsIn K mainGlobals x=some (some (.ref a))
abbrev nX2(K:LFr)(x:Str):=PySem.W.nsIn K mainGlobals x=some none
abbrev fX1(K:LFr)(c:Addr)(x:Str)(a:Addr):=PySem.W.findIn K (.ref c) x=some (some (.ref a))
structure Tx (K:LFr) (mg:Str→Option Value) (t:Ad):Prop where
 F_zB:Fun K "ways_with" "ways_with" xJ t.a_zB t.d_zB
 B_zB:Binds K t.d_zB ["sizes","fixed"] []
 g_zB:mg "ways_with"=some (.ref t.a_zB)
 F_zR:Fun K "all_ways" "all_ways" Ae t.a_zR t.d_zR
 B_zR:Binds K t.d_zR ["sizes"] []
 g_zR:mg "all_ways"=some (.ref t.a_zR)
 F_zO:Fun K "place_of" "place_of" Bo t.a_zO t.d_zO
 B_zO:Binds K t.d_zO ["way","sizes"] []
 g_zO:mg "place_of"=some (.ref t.a_zO)
 F_zW:Fun K "product" "product" Cs t.a_zW t.d_zW
 B_zW:Binds K t.d_zW ["numbers"] []
 g_zW:mg "product"=some (.ref t.a_zW)
 F_zV:Fun K "is_pair" "is_pair" Cf t.a_zV t.d_zV
 B_zV:Binds K t.d_zV ["count","pair"] []
 g_zV:mg "is_pair"=some (.ref t.a_zV)
 F_zH:Fun K "are_pairs" "are_pairs" wC t.a_zH t.d_zH
 B_zH:Binds K t.d_zH ["count","pairs"] []
 g_zH:mg "are_pairs"=some (.ref t.a_zH)
 F_zi:Fun K "__init__" "Drawing.__init__" uv t.a_zi t.d_zi
 B_zi:Binds K t.d_zi ["self","count","ties","bows"] []
 F_za:Fun K "need_name" "Drawing.need_name" AF t.a_za t.d_za
 B_za:Binds K t.d_za ["self","name"] []
 m_za:Meth K t.a_A "need_name" t.a_za
 F_zd:Fun K "sources" "Drawing.sources" yu t.a_zd t.d_zd
 B_zd:Binds K t.d_zd ["self","name"] []
 m_zd:Meth K t.a_A "sources" t.a_zd
 F_zb:Fun K "greatest_divisor" "greatest_divisor" Bb t.a_zb t.d_zb
 B_zb:Binds K t.d_zb ["a","b"] []
 g_zb:mg "greatest_divisor"=some (.ref t.a_zb)
 F_zT:Fun K "fraction" "fraction" BF t.a_zT t.d_zT
 B_zT:Binds K t.d_zT ["top","bottom"] []
 g_zT:mg "fraction"=some (.ref t.a_zT)
 F_yb:Fun K "times" "times" As t.a_yb t.d_yb
 B_yb:Binds K t.d_yb ["a","b"] []
 g_yb:mg "times"=some (.ref t.a_yb)
 F_zh:Fun K "common_bottom" "common_bottom" Cq t.a_zh t.d_zh
 B_zh:Binds K t.d_zh ["parts"] []
 g_zh:mg "common_bottom"=some (.ref t.a_zh)
 F_zA:Fun K "tops_over" "tops_over" xw t.a_zA t.d_zA
 B_zA:Binds K t.d_zA ["parts","bottom"] []
 g_zA:mg "tops_over"=some (.ref t.a_zA)
 F_zY:Fun K "total" "total" C0 t.a_zY t.d_zY
 B_zY:Binds K t.d_zY ["parts"] []
 g_zY:mg "total"=some (.ref t.a_zY)
 F_zS:Fun K "is_share" "is_share" B9 t.a_zS t.d_zS
 B_zS:Binds K t.d_zS ["part"] []
 g_zS:mg "is_share"=some (.ref t.a_zS)
 F_zt:Fun K "are_shares" "are_shares" wy t.a_zt t.d_zt
 B_zt:Binds K t.d_zt ["parts"] []
 g_zt:mg "are_shares"=some (.ref t.a_zt)
 F_zX:Fun K "copied" "copied" xY t.a_zX t.d_zX
 B_zX:Binds K t.d_zX ["parts"] []
 g_zX:mg "copied"=some (.ref t.a_zX)
 F_zD:Fun K "are_sizes" "are_sizes" yi t.a_zD t.d_zD
 B_zD:Binds K t.d_zD ["drawing","sizes"] []
 g_zD:mg "are_sizes"=some (.ref t.a_zD)
 F_zr:Fun K "are_hidden" "are_hidden" yh t.a_zr t.d_zr
 B_zr:Binds K t.d_zr ["drawing","hidden"] []
 g_zr:mg "are_hidden"=some (.ref t.a_zr)
 F_zu:Fun K "bow_places" "bow_places" yz t.a_zu t.d_zu
 B_zu:Binds K t.d_zu ["drawing","name"] []
 g_zu:mg "bow_places"=some (.ref t.a_zu)
 F_zj:Fun K "hidden_sizes" "hidden_sizes" xH t.a_zj t.d_zj
 B_zj:Binds K t.d_zj ["drawing","hidden","name"] []
 g_zj:mg "hidden_sizes"=some (.ref t.a_zj)
 F_zz:Fun K "head_sizes" "head_sizes" xC t.a_zz t.d_zz
 B_zz:Binds K t.d_zz ["drawing","sizes","hidden","name"] []
 g_zz:mg "head_sizes"=some (.ref t.a_zz)
 F_zN:Fun K "is_table" "is_table" wO t.a_zN t.d_zN
 B_zN:Binds K t.d_zN ["table","rows","size"] []
 g_zN:mg "is_table"=some (.ref t.a_zN)
 F_zy:Fun K "are_tables" "are_tables" sR t.a_zy t.d_zy
 B_zy:Binds K t.d_zy ["drawing","sizes","hidden","tables"] []
 g_zy:mg "are_tables"=some (.ref t.a_zy)
 F_zU:Fun K "crossed" "crossed" yd t.a_zU t.d_zU
 B_zU:Binds K t.d_zU ["rows"] []
 g_zU:mg "crossed"=some (.ref t.a_zU)
 F_zp:Fun K "row_places" "row_places" uS t.a_zp t.d_zp
 B_zp:Binds K t.d_zp ["world","name"] []
 g_zp:mg "row_places"=some (.ref t.a_zp)
 F_zf:Fun K "picked_entries" "picked_entries" rZ t.a_zf t.d_zf
 B_zf:Binds K t.d_zf ["world","name","values"] []
 g_zf:mg "picked_entries"=some (.ref t.a_zf)
 F_zc:Fun K "weights_without" "weights_without" qF t.a_zc t.d_zc
 B_zc:Binds K t.d_zc ["world","setnames"] []
 g_zc:mg "weights_without"=some (.ref t.a_zc)
 F_zx:Fun K "__init__" "World.__init__" rS t.a_zx t.d_zx
 B_zx:Binds K t.d_zx ["self","drawing","sizes","hidden","tables"] []
 F_zg:Fun K "weights" "World.weights" AG t.a_zg t.d_zg
 B_zg:Binds K t.d_zg ["self","setnames"] []
 m_zg:Meth K t.a_B "weights" t.a_zg
 F_zo:Fun K "seen" "World.seen" AD t.a_zo t.d_zo
 B_zo:Binds K t.d_zo ["self"] []
 m_zo:Meth K t.a_B "seen" t.a_zo
 F_zv:Fun K "full" "World.full" wJ t.a_zv t.d_zv
 B_zv:Binds K t.d_zv ["self"] []
 m_zv:Meth K t.a_B "full" t.a_zv
 F_zn:Fun K "_law_cell_at" "_law_cell_at" A4 t.a_zn t.d_zn
 B_zn:Binds K t.d_zn ["_law_script","_law_k"] []
 g_zn:mg "_law_cell_at"=some (.ref t.a_zn)
 F_zI:Fun K "_law_mixed" "_law_mixed" Bq t.a_zI t.d_zI
 B_zI:Binds K t.d_zI ["_law_cell","_law_many"] []
 g_zI:mg "_law_mixed"=some (.ref t.a_zI)
 F_zk:Fun K "_law_divisor" "_law_divisor" Ac t.a_zk t.d_zk
 B_zk:Binds K t.d_zk ["_law_one","_law_other"] []
 g_zk:mg "_law_divisor"=some (.ref t.a_zk)
 F_zs:Fun K "_law_lowest" "_law_lowest" AE t.a_zs t.d_zs
 B_zs:Binds K t.d_zs ["_law_top","_law_bottom"] []
 g_zs:mg "_law_lowest"=some (.ref t.a_zs)
 F_zE:Fun K "_law_pairs" "_law_pairs" C4 t.a_zE t.d_zE
 B_zE:Binds K t.d_zE ["_law_script","_law_at"] []
 g_zE:mg "_law_pairs"=some (.ref t.a_zE)
 F_zl:Fun K "_law_weights" "_law_weights" C9 t.a_zl t.d_zl
 B_zl:Binds K t.d_zl ["_law_digit","_law_size","_law_full"] []
 g_zl:mg "_law_weights"=some (.ref t.a_zl)
 F_zP:Fun K "_law_rows" "_law_rows" wq t.a_zP t.d_zP
 B_zP:Binds K t.d_zP ["_law_cell","_law_many","_law_size","_law_full"] []
 g_zP:mg "_law_rows"=some (.ref t.a_zP)
 F_zG:Fun K "_law_heads" "_law_heads" tV t.a_zG t.d_zG
 B_zG:Binds K t.d_zG ["_law_shape","_law_name"] []
 g_zG:mg "_law_heads"=some (.ref t.a_zG)
 F_zF:Fun K "_law_world" "_law_world" xf t.a_zF t.d_zF
 B_zF:Binds K t.d_zF ["_law_script","_law_at","_law_shape","_law_most"] []
 g_zF:mg "_law_world"=some (.ref t.a_zF)
 F_zq:Fun K "_law_shares" "_law_shares" xr t.a_zq t.d_zq
 B_zq:Binds K t.d_zq ["_law_weights_here"] []
 g_zq:mg "_law_shares"=some (.ref t.a_zq)
 F_ze:Fun K "_law_told_world" "_law_told_world" sW t.a_ze t.d_ze
 B_ze:Binds K t.d_ze ["_law_world_here"] []
 g_ze:mg "_law_told_world"=some (.ref t.a_ze)
 F_zw:Fun K "_law_handed" "_law_handed" t5 t.a_zw t.d_zw
 B_zw:Binds K t.d_zw ["_law_told","_law_bits"] []
 g_zw:mg "_law_handed"=some (.ref t.a_zw)
 F_zJ:Fun K "_law_drawn" "_law_drawn" AX t.a_zJ t.d_zJ
 B_zJ:Binds K t.d_zJ ["_law_script"] []
 g_zJ:mg "_law_drawn"=some (.ref t.a_zJ)
 F_zQ:Fun K "_law_made" "_law_made" BX t.a_zQ t.d_zQ
 B_zQ:Binds K t.d_zQ ["_law_shape","_law_told","_law_bits"] []
 g_zQ:mg "_law_made"=some (.ref t.a_zQ)
 F_zK:Fun K "_law_same" "_law_same" Bp t.a_zK t.d_zK
 B_zK:Binds K t.d_zK ["_law_found","_law_due"] []
 g_zK:mg "_law_same"=some (.ref t.a_zK)
 F_zL:Fun K "_law_ways" "_law_ways" yF t.a_zL t.d_zL
 B_zL:Binds K t.d_zL ["_law_sizes"] []
 g_zL:mg "_law_ways"=some (.ref t.a_zL)
 F_zM:Fun K "_law_even" "_law_even" yI t.a_zM t.d_zM
 B_zM:Binds K t.d_zM ["_law_rows_here"] []
 g_zM:mg "_law_even"=some (.ref t.a_zM)
 F_zm:Fun K "_law_entries" "_law_entries" vd t.a_zm t.d_zm
 B_zm:Binds K t.d_zm ["_law_shape","_law_world_here"] []
 g_zm:mg "_law_entries"=some (.ref t.a_zm)
 F_zC:Fun K "_law_right" "_law_right" AO t.a_zC t.d_zC
 B_zC:Binds K t.d_zC ["_law_made_here","_law_entries_here","_law_bottom"] []
 g_zC:mg "_law_right"=some (.ref t.a_zC)
 F_yg:Fun K "law" "law" By t.a_yg t.d_yg
 B_yg:Binds K t.d_yg ["_law_script"] []
 g_yg:mg "law"=some (.ref t.a_yg)
 g_A:mg "Drawing"=some (.ref t.a_A)
 cl_A:Cls K t.a_A
 mk_A:Mk K t.a_A t.a_zi
 g_B:mg "World"=some (.ref t.a_B)
 cl_B:Cls K t.a_B
 mk_B:Mk K t.a_B t.a_zx
 b_abs:mg "abs"=none
 b_all:mg "all"=none
 b_bool:mg "bool"=none
 b_dict:mg "dict"=none
 b_enumerate:mg "enumerate"=none
 b_int:mg "int"=none
 b_isinstance:mg "isinstance"=none
 b_len:mg "len"=none
 b_list:mg "list"=none
 b_min:mg "min"=none
 b_range:mg "range"=none
 b_set:mg "set"=none
 b_sorted:mg "sorted"=none
 b_str:mg "str"=none
 b_sum:mg "sum"=none
 b_tuple:mg "tuple"=none
 b_zip:mg "zip"=none
 c_LEAST_SIZE:∃u,mg "LEAST_SIZE"=some u/\RelV (.int 2) u
 c_MOST_BOWS:∃u,mg "MOST_BOWS"=some u/\RelV (.int 6) u
 c_MOST_HIDDEN:∃u,mg "MOST_HIDDEN"=some u/\RelV (.int 4) u
 c_MOST_NAMES:∃u,mg "MOST_NAMES"=some u/\RelV (.int 6) u
 c_MOST_SIZE:∃u,mg "MOST_SIZE"=some u/\RelV (.int 4) u
 c_MOST_WEIGHTS:∃u,mg "MOST_WEIGHTS"=some u/\RelV (.int 200000) u
 nfA_bows:b8 K t.a_A "bows"
 nfA_count:b8 K t.a_A "count"
 nfA_ties:b8 K t.a_A "ties"
 nf_World_drawing:b8 K t.a_B "drawing"
 nf_World_hidden:b8 K t.a_B "hidden"
 nf_World_sizes:b8 K t.a_B "sizes"
 nf_World_tables:b8 K t.a_B "tables"
 nf_World_weighed:b8 K t.a_B "weighed"
section
variable {P:Program}{w:World}{K:LFr}{mg:Str->Option Value}{base:Heap}{t:Ad}
open DM (P2 Good)
def DF(c:Int)(ts bs:List P2):List (Str×PV):=[("count",.int c),("ties",.tup (ts.map prV)),("bows",.tup (bs.map prV))]
def Srt(l:List P2):Prop:=l.Pairwise (fun x y=>ST.pk x<ST.pk y)
def Row(H:PHp)(y:PV)(p:P2):Prop:=y=prV p∨∃r,y=.ref r/\H r=some (.lst [.int p.1,.int p.2])
abbrev Rows(H:PHp):List PV->List P2->Prop:=Paired (Row H)
inductive Kn | R | I | T | F | V | B
def Sg:List Kn->Type
 | []=>Prop
 | .R::ks=>Addr->Sg ks
 | .I::ks=>Int->Sg ks
 | .T::ks=>List PV->Sg ks
 | .F::ks=>List PV->Sg ks
 | .V::ks=>PV->Sg ks
 | .B::ks=>Bool->Sg ks
def ap:(ks:List Kn)->Sg ks->List PV->Prop
 | [],p,[]=>p
 | .R::ks,f,.ref x::r=>ap ks (f x) r
 | .I::ks,f,.int x::r=>ap ks (f x) r
 | .T::ks,f,.tup x::r=>ap ks (f x) r
 | .F::ks,f,.fls x::r=>ap ks (f x) r
 | .V::ks,f,x::r=>ap ks (f x) r
 | .B::ks,f,.bl x::r=>ap ks (f x) r
 | _,_,_=>False
def Ei:(ks:List Kn)->Sg ks->List PV->Prop
 | [],p,vs=>vs=[]/\p
 | .R::ks,f,vs=>∃x r,vs=.ref x::r/\Ei ks (f x) r
 | .I::ks,f,vs=>∃x r,vs=.int x::r/\Ei ks (f x) r
 | .T::ks,f,vs=>∃x r,vs=.tup x::r/\Ei ks (f x) r
 | .F::ks,f,vs=>∃x r,vs=.fls x::r/\Ei ks (f x) r
 | .V::ks,f,vs=>∃x r,vs=x::r/\Ei ks (f x) r
 | .B::ks,f,vs=>∃x r,vs=.bl x::r/\Ei ks (f x) r
theorem bh(h:ap ks f vs):Ei ks f vs:=by
 induction ks generalizing vs with
 | nil =>
  cases vs with
  | nil=>exact⟨rfl,h⟩
  | cons v r=>exact h.elim
 | cons k ks ih =>
  cases vs with
  | nil=>cases k<;>exact h.elim
  | cons v r =>
   cases k<;>first | exact⟨_,_,rfl,ih h⟩ |(cases v<;>first | exact⟨_,_,rfl,ih h⟩ | exact h.elim)
theorem bo(h:ap ks f vs):vs.length=ks.length:=by
 induction ks generalizing vs with
 | nil =>
  cases vs with
  | nil=>rfl
  | cons v r=>exact h.elim
 | cons k ks ih =>
  cases vs with
  | nil=>cases k<;>exact h.elim
  | cons v r =>
   cases k<;>first | exact congrArg (·+1) (ih h) |(cases v<;>first | exact congrArg (·+1) (ih h) | exact h.elim)
theorem Hg{p:Prop}:ap [] p []=p:=rfl
theorem Jp:ap (.R::ks) f (.ref x::r)=ap ks (f x) r:=rfl
theorem GN:ap (.I::ks) f (.int x::r)=ap ks (f x) r:=rfl
theorem G1:ap (.T::ks) f (.tup x::r)=ap ks (f x) r:=rfl
theorem Ju:ap (.F::ks) f (.fls x::r)=ap ks (f x) r:=rfl
theorem G6:ap (.V::ks) f (x::r)=ap ks (f x) r:=rfl
theorem Jq:ap (.B::ks) f (.bl x::r)=ap ks (f x) r:=rfl
def jC:Sp':=fun vs H Q _=>ap [.I,.V] (fun c w=>∃u v,w=PV.tup [.int u,.int v]/\((0≤u/\u<v/\v<c)/\Q (.bl true) H)) vs
theorem uK:jC [.int c,.tup [.int u,.int v]] H Q E=((0≤u/\u<v/\v<c)/\Q (.bl true) H):=by
 refine propext ⟨fun h=>?_,fun h=>?_⟩
 ·obtain⟨_,_,e0,h⟩:=h;cases e0;exact h
 ·exact⟨_,_,rfl,h⟩
def gT:Sp':=fun vs H Q _=>ap [.I,.R] (fun c a=>∃ps,H a=some (.lst (ps.map prV))/\Good c ps/\c≤6/\Q (.bl true) H) vs
theorem nD:gT [.int c,.ref a] H Q E=∃ps,H a=some (.lst (ps.map prV))/\Good c ps/\c≤6/\Q (.bl true) H:=rfl
def Seq(H:PHp)(v:PV)(xs:List PV):Prop:=v=.tup xs∨∃a,v=.ref a/\H a=some (.lst xs)
theorem Seq.up(h:Seq H v xs)(s:U.Sub H H1):Seq H1 v xs:=h.elim .inl fun⟨a,e,q⟩=>.inr ⟨a,e,s _ _ q⟩
theorem iG(q:Seq H v ys)(k:∀ok:PHp->Prop,(∀H1,U.Sub H H1->ok H1)->R ⟨ys,ok⟩ H):uH v H R:=by
 rcases q with rfl |⟨a,rfl,e⟩
 ·exact k _ fun _ _=>trivial
 ·exact⟨ys,e,k _ fun H1 s=>s _ _ e⟩
def oR(t:Ad):Sp':=fun vs H Q _=>ap [.R,.I,.V,.V] (fun x c va vb=>∃dx ys zs ps qs,H x=some (.ins t.a_A dx [])/\Seq H va ys/\Seq H vb zs/\Rows H ys ps/\Rows H zs qs/\Good c ps/\Good c qs/\(1≤c/\c≤6/\qs.length≤6) /\
  ∀ts bs,ts.Perm ps->Srt ts->bs.Perm qs->Srt bs->Q .non (put H x (.ins t.a_A dx (DF c ts bs)))) vs
theorem zX:oR t [.ref x,.int c,va,vb] H Q E=∃dx ys zs ps qs,H x=some (.ins t.a_A dx [])/\Seq H va ys/\Seq H vb zs/\Rows H ys ps/\Rows H zs qs/\Good c ps/\Good c qs/\(1≤c/\c≤6/\qs.length≤6) /\
  ∀ts bs,ts.Perm ps->Srt ts->bs.Perm qs->Srt bs->Q .non (put H x (.ins t.a_A dx (DF c ts bs))):=rfl
def gY(t:Ad):Sp':=fun vs H Q _=>ap [.R,.I] (fun x n=>∃dx c ts bs,H x=some (.ins t.a_A dx (DF c ts bs))/\(0≤n/\n<c)/\Q .non H) vs
theorem nO:gY t [.ref x,.int n] H Q E=∃dx c ts bs,H x=some (.ins t.a_A dx (DF c ts bs))/\(0≤n/\n<c)/\Q .non H:=rfl
def je(t:Ad):Sp':=fun vs H Q _=>ap [.R,.I] (fun x n=>∃dx c ts bs,H x=some (.ins t.a_A dx (DF c ts bs))/\(0≤n/\n<c)/\ts.length≤15/\Q (.tup (((ts.filter (fun p=>decide (p.2=n))).map (·.1)).map PV.int)) H) vs
theorem qM:je t [.ref x,.int n] H Q E=∃dx c ts bs,H x=some (.ins t.a_A dx (DF c ts bs))/\(0≤n/\n<c)/\ts.length≤15/\Q (.tup (((ts.filter (fun p=>decide (p.2=n))).map (·.1)).map PV.int)) H:=rfl
def pJ:Sp':=fun vs H Q _=>ap [.F,.I] (fun l k=>(0≤k/\k<100)/\∃ns:List Int,l=ns.map PV.int/\Q (.int (ns.getD k.toNat 0)) H) vs
theorem CM:pJ [.fls l,.int k] H Q E=((0≤k/\k<100)/\∃ns:List Int,l=ns.map PV.int/\Q (.int (ns.getD k.toNat 0)) H):=rfl
def mR:Sp':=fun vs H Q _=>ap [.I,.I] (fun c m=>(0≤m/\m≤64)/\∀p (xs:List Int),H p=none->xs.length=m.toNat->Q (.ref p) (put H p (.lst (xs.map PV.int)))) vs
theorem xR:mR [.int c,.int m] H Q E=((0≤m/\m≤64)/\∀p (xs:List Int),H p=none->xs.length=m.toNat->Q (.ref p) (put H p (.lst (xs.map PV.int)))):=rfl
def lU:Sp':=fun vs H Q _=>ap [.F,.I] (fun l k=>(0≤k/\k<60)/\∃ns:List Int,l=ns.map PV.int/\∀c ts bs p q,(1≤c/\c≤6)->Good c ts->Good c bs->bs.length≤6->H p=none->H q=none->p≠q->Q (.tup [.int c,.ref p,.ref q]) (put (put H p (.lst (ts.map prV))) q (.lst (bs.map prV)))) vs
theorem yQ:lU [.fls l,.int k] H Q E=((0≤k/\k<60)/\∃ns:List Int,l=ns.map PV.int/\∀c ts bs p q,(1≤c/\c≤6)->Good c ts->Good c bs->bs.length≤6->H p=none->H q=none->p≠q->Q (.tup [.int c,.ref p,.ref q]) (put (put H p (.lst (ts.map prV))) q (.lst (bs.map prV)))):=rfl
theorem cY{l:List PV}(h:i<l.length):atI l ((i:Nat):Int)=some l[i]:=by
 unfold atI ixN;rw[Kw (by omega),Kw (by omega)];show l[((i:Nat):Int).toNat]?=_;rw[Kk,JO h]
theorem cK{α β:Type}{R:α->β->Prop}:∀{l:List α} {m:List β} {i:Nat},Paired R l m->(hi:i<l.length)->(hj:i<m.length)->R l[i] m[i]
 | _::_,_::_,0,.cons h _,_,_=>h
 | _::_,_::_,i+1,.cons _ t,hi,hj=>cK t (by simpa using hi) (by simpa using hj)
theorem ff{R:α->β->Prop}{x:α}{l:List α}{m:List β}(h:Paired R l m)(hx:x∈l):∃y∈m,R x y:=by
 induction h with
 | nil=>cases hx
 | cons h t ih =>
  rcases J7.mp hx with rfl | hx
  ·exact⟨_,J6,h⟩
  ·obtain⟨y,hy,r⟩:=ih hx;exact⟨y,J8 _ hy,r⟩
theorem fm{a b:Int}(h:0<b):0≤a.fmod b/\a.fmod b<b:=by
 rw[Int.fmod_eq_emod_of_nonneg _ (by omega)];exact⟨Int.emod_nonneg _ (by omega),Int.emod_lt_of_pos _ h⟩
theorem pG(s:U.Sub A B)(h:B x=some o):U.Sub (put A x o) B:=fun a u e=>by
 by_cases q:a=x
 ·subst q;rw[af]at e;cases e;exact h
 ·rw[ag q]at e;exact s a u e
theorem tx(s:∀a u,a≠x->A a=some u->B a=some u)(h:B x=some o):U.Sub (put A x o) B:=fun a u e=>by
 by_cases q:a=x
 ·subst q;rw[af]at e;cases e;exact h
 ·rw[ag q]at e;exact s a u q e
theorem ja{f:Str}{v:PV}:∀{fs:List (Str×PV)},(fV f v fs).length≤fs.length+1
 | []=>by simp[fV]
 |(g,y)::r=>by
  unfold fV;split
  ·simp
  ·have:=ja (f:=f) (v:=v) (fs:=r);simp only[Kt];omega
theorem ib(h:j≠0)(f:j.natAbs<2 ^ 64):mI i j:=⟨h,(show My.BN 64 j from f).fit (by decide)⟩
theorem fA(f:i.natAbs<2 ^ 64):Fit i:=(show My.BN 64 i from f).fit (by decide)
def ko(H:PHp)(y:PV):PV:=match y with
 | .ref r=>(match H r with | some (.lst l)=>.tup l | _=>.non)
 | y=>y
theorem gk(h:H r=some (.lst l)):ko H (.ref r)=.tup l:=by
 unfold ko;dsimp only;rw[h]
theorem mC(h:Rows H ys ps):ys.map (ko H)=ps.map prV:=by
 induction h with
 | nil=>rfl
 | cons h t ih =>
  rw[Kc,Kc,ih];congr 1;rcases h with rfl |⟨r,rfl,hr⟩
  ·rfl
  ·exact gk hr
theorem Rows.up(h:Rows H ys ps)(s:U.Sub H H1):Rows H1 ys ps:=Paired.mapP h fun y p r=>r.elim .inl fun⟨q,e,hq⟩=>.inr ⟨q,e,s _ _ hq⟩
theorem d7{H:PHp}:∀{ps:List P2},Rows H (ps.map prV) ps
 | []=>.nil
 | _::_=>.cons (.inl rfl) d7
def at1(n:Int)(y:PV):Bool:=match y with | .tup [.int _,.int v]=>decide (v=n) | _=>false
def g0(y:PV):PV:=match y with | .tup [u,_]=>u | _=>.non
def g1(y:PV):PV:=match y with | .tup [_,v]=>v | _=>.non
theorem src_list{n:Int}:∀{ts:List P2},((ts.map prV).filter (at1 n)).map g0=((ts.filter (fun p=>decide (p.2=n))).map (·.1)).map PV.int
 | []=>rfl
 | p::ts=>by
  have e:at1 n (prV p)=decide (p.2=n):=rfl;rw[Kc,List.filter_cons,List.filter_cons,e];by_cases q:decide (p.2=n)=true
  ·rw[Kw q,Kw q,Kc,Kc,Kc,src_list];rfl
  ·rw[Kq q,Kq q,src_list]
structure GJ (v j:Int) (l:List P2):Prop where
 nd:l.Nodup
 lo:∀p∈l,0≤p.1/\p.1<p.2/\(p.2<v∨(p.2=v/\p.1<j))
theorem GJ.app(h:GJ v j l)(h0:0≤j)(hj:j<v):GJ v (j+1) (l++[(j,v)]):=by
 refine⟨List.nodup_append.mpr ⟨h.nd,by simp,?_⟩,fun p hp=>?_⟩
 ·intro a ha b hb e;rw[Ka]at hb;subst hb;subst e;have:=h.lo _ ha;simp only at this;omega
 ·rcases K6.mp hp with hp | hp
  ·have:=h.lo p hp;omega
  ·rw[Ka]at hp;subst hp;exact⟨h0,hj,.inr ⟨rfl,Int.lt_succ j⟩⟩
theorem GJ.up(h:GJ v j l):GJ v (j+1) l:=⟨h.nd,fun p hp=>by have:=h.lo p hp;omega⟩
theorem GJ.of(h:Good v l):GJ v 0 l:=⟨h.nd,fun p hp=>by have:=h.lo p hp;omega⟩
theorem GJ.good(h:GJ v v l):Good (v+1) l:=⟨h.nd,fun p hp=>by have:=h.lo p hp;omega⟩
theorem Iy(h0:0≤d)(h:d<4):∃e,atI [PV.int 2,PV.int 3,PV.int 2,PV.int 4] d=some (.int e)/\e≠0:=by
 have:d=0∨d=1∨d=2∨d=3:=by omega
 rcases this with rfl | rfl | rfl | rfl
 ·exact⟨2,rfl,by decide⟩
 ·exact⟨3,rfl,by decide⟩
 ·exact⟨2,rfl,by decide⟩
 ·exact⟨4,rfl,by decide⟩
theorem G2(h0:0≤d)(h:d<4):∃e,atI [PV.int 2,PV.int 3,PV.int 5,PV.int 2] d=some (.int e)/\e≠0:=by
 have:d=0∨d=1∨d=2∨d=3:=by omega
 rcases this with rfl | rfl | rfl | rfl
 ·exact⟨2,rfl,by decide⟩
 ·exact⟨3,rfl,by decide⟩
 ·exact⟨5,rfl,by decide⟩
 ·exact⟨2,rfl,by decide⟩
def kz(H:PHp):Nat->PV->PV->Prop
 | _,.int a,.int b=>a=b
 | n+1,.tup l,.tup m=>l.length≤1000/\Paired (kz H n) l m
 | n+1,.ref a,.ref b=>∃l m,H a=some (.lst l)/\H b=some (.lst m)/\l.length≤1000/\Paired (kz H n) l m
 | _,_,_=>False
def eO(n:Nat):Sp':=fun vs H Q _=>ap [.V,.V] (fun x y=>kz H n x y/\Q (.bl true) H) vs
theorem BL:eO n [x,y] H Q E=(kz H n x y/\Q (.bl true) H):=rfl
def iQ:Sp':=fun vs H Q _=>ap [.I,.I] (fun a b=>Q (.int (My.gd a b)) H) vs
theorem rB:iQ [.int a,.int b] H Q E=Q (.int (My.gd a b)) H:=rfl
def xt(p:Int×Int):PV:=.tup [.int p.1,.int p.2]
def pL:Sp':=fun vs H Q _=>ap [.I,.I] (fun a b=>(0≤b/\My.BN 300 b)/\Q (xt (My.jg a b)) H) vs
def kc:Sp':=fun vs H Q _=>ap [.I,.I] (fun a b=>My.BN 300 b/\Q (xt (My.gL a b)) H) vs
theorem C5:pL [.int a,.int b] H Q E=((0≤b/\My.BN 300 b)/\Q (.tup [.int (My.jg a b).1,.int (My.jg a b).2]) H):=rfl
theorem vz:kc [.int a,.int b] H Q E=(My.BN 300 b/\Q (.tup [.int (My.gL a b).1,.int (My.gL a b).2]) H):=rfl
theorem eC(hb:My.BN 300 b)(h:b≠0):Fit (My.gd a b):=by
 refine(hb.of_le ?_).fit (by decide);have h1:=My.zH a b h;have h2:=My.cV a b h;split at h1<;>omega
theorem kn:My.BN 300 1:=by unfold My.BN;exact Nat.one_lt_two_pow (by decide)
theorem Hc{P:List Value->Prop}(h:∀a b c d e,P [a,b,c,d,e])(us:List Value)(hl:us.length=5):P us:=by
 cases us with
 | nil=>exact absurd hl.symm (Nat.succ_ne_zero _)
 | cons a r=>exact FX (P:=fun r=>P (a::r)) (h a) r (Nat.succ.inj hl)
theorem a9(Pv:Nat->St'->PHp->Prop)(hd:∀σ H,Pv xs.length σ H->ok H/\D.nx σ H)
  (hs:∀(D':dz) i x σ H,xs[i]?=some x->Pv i σ H->(∀σ' H',Pv (i+1) σ' H'->D'.nx σ' H')->ok H/\g x σ H fun σ2 H2=>tb D' σ2 H2)
  {σ:St'} {H:PHp} (h0:Pv 0 σ H):eE ok g tb D xs σ H:=Bg Pv hd (fun G i x σ H hx p k=>hs _ i x σ H hx p k) h0
theorem dw{lo:Int}(Pv:Nat->St'->PHp->Prop)(hd:∀σ H,Pv n σ H->ok H/\D.nx σ H)
  (hs:∀(D':dz) i σ H,i<n->Pv i σ H->(∀σ' H',Pv (i+1) σ' H'->D'.nx σ' H')->ok H/\g (.int (lo+(i:Nat))) σ H fun σ2 H2=>tb D' σ2 H2)
  {σ:St'} {H:PHp} (h0:Pv 0 σ H):eE ok g tb D (bN lo n) σ H:=dE Pv hd (fun G i σ H hi p k=>hs _ i σ H hi p k) h0
def shr(s w:Int):P2:=My.jg w s
theorem b7{s w:Int}(hs:0<s)(hw:0≤w):0≤(shr s w).1/\1≤(shr s w).2/\(shr s w).1*s=w*(shr s w).2/\(shr s w).2 ∣ s/\My.gd (shr s w).1 (shr s w).2=1/\(shr s w).1≤w:=by
 have hn:¬s=0:=by omega
 obtain⟨lo,po⟩:=My.yL (a:=w) (b:=s) (g:=My.gd w s) hn (.inl ⟨hs,rfl⟩);have g1:=My.cV w s hn;have e:shr s w=(w.fdiv (My.gd w s),s.fdiv (My.gd w s)):=by
  unfold shr My.jg;rw[Kq hn]
 rw[e];have x0:0≤w.fdiv (My.gd w s):=Int.fdiv_nonneg hw (by omega);have ew:=My.dM (a:=w) (g:=My.gd w s) (by omega) (My.du w s);obtain⟨k,_,e2⟩:=lo.ex;refine⟨x0,by show 1≤s.fdiv _;omega,lo.cross,⟨k,by rw[KP];exact e2⟩,lo.one,?_⟩;have:=Ly (show 1≤My.gd w s by omega) x0;show w.fdiv (My.gd w s)≤w;omega
theorem uq{B b s:Int}(hB:0<B)(hb:0<b)(h1:B ∣ s)(h2:b ∣ s):0<B.fdiv (My.gd B b)*b/\B ∣ B.fdiv (My.gd B b)*b/\b ∣ B.fdiv (My.gd B b)*b/\B.fdiv (My.gd B b)*b ∣ s:=by
 have g1:=My.cV B b (by omega);have e:=My.dM (a:=B) (g:=My.gd B b) (by omega) (My.du B b);have x0:0≤B.fdiv (My.gd B b):=Int.fdiv_nonneg (by omega) (by omega);have x1:0<B.fdiv (My.gd B b):=by
  rcases Int.lt_or_eq_of_le x0 with h | h
  ·exact h
  ·rw[←h,Int.mul_zero]at e;omega
 have hl:((Int.lcm B b:Nat):Int)=B.fdiv (My.gd B b)*b:=by
  have q:Int.gcd B b*Int.lcm B b=B.natAbs*b.natAbs:=Int.gcd_mul_lcm B b;have q2:My.gd B b*((Int.lcm B b:Nat):Int)=B*b:=by
   unfold My.gd;rw[←Int.natCast_mul,q,Int.natCast_mul,Int.natAbs_of_nonneg (Lo hB),Int.natAbs_of_nonneg (Lo hb)]
  refine Int.eq_of_mul_eq_mul_left (show My.gd B b≠0 by omega) ?_;rw[q2,← KA,← e]
 refine⟨L9 x1 hb,?_,⟨B.fdiv (My.gd B b),by rw[KP]⟩,?_⟩
 ·rw[←hl];exact Int.dvd_lcm_left _ _
 ·rw[←hl];exact Int.coe_lcm_dvd h1 h2
def Sh(ws:List Int)(s:Int):Prop:=s=ws.sum/\0<s/\(∀w∈ws,0≤w)/\s≤28/\ws.length≤100
def tpO(B:Int)(p:P2):Int:=p.1*B.fdiv p.2
theorem j4(h0:0≤a)(h:a≤b)(hb:My.BN n b):My.BN n a:=L4 (by omega) hb
theorem nu(h0:0<a)(hb:0<b)(h:a ∣ b)(q:My.BN n b):My.BN n a:=j4 (by omega) (Lj hb h) q
theorem dj(h:My.BN 300 i):Fit i:=h.fit (by decide)
theorem wY(h0:0<j)(h:My.BN 300 j):mI i j:=⟨by omega,dj h⟩
theorem bnM(h0:0≤i)(h1:i≤1000000):My.BN 300 i:=by
 have : i.natAbs < 2 ^ 20 := by have : (1000000 : Nat) < 2 ^ 20 := by decide
                                omega
 exact Ko this (Lg (by decide) (by decide))
def oW:Sp':=fun vs H Q _=>ap [.I,.I] (fun a b=>(0≤a/\0≤b)/\Q (.int (My.gd a b)) H) vs
theorem CA:oW [.int a,.int b] H Q E=((0≤a/\0≤b)/\Q (.int (My.gd a b)) H):=rfl
def hJ:Sp':=fun vs H Q _=>ap [.I,.I] (fun a b=>(0≤a/\0<b/\My.BN 300 b)/\Q (.tup [.int (a.fdiv (My.gd a b)),.int (b.fdiv (My.gd a b))]) H) vs
theorem nX:hJ [.int a,.int b] H Q E=((0≤a/\0<b/\My.BN 300 b)/\Q (.tup [.int (a.fdiv (My.gd a b)),.int (b.fdiv (My.gd a b))]) H):=rfl
def qb:Sp':=fun vs H Q _=>ap [.V] (fun v=>∃(ps:List P2) (S:Int),Seq H v (ps.map prV)/\(0<S/\My.BN 300 S)/\(∀p∈ps,1≤p.2/\p.2 ∣ S)/\∀B,0<B->B ∣ S->(∀p∈ps,p.2 ∣ B)->Q (.int B) H) vs
theorem AV:qb [v] H Q E=∃(ps:List P2) (S:Int),Seq H v (ps.map prV)/\(0<S/\My.BN 300 S)/\(∀p∈ps,1≤p.2/\p.2 ∣ S)/\∀B,0<B->B ∣ S->(∀p∈ps,p.2 ∣ B)->Q (.int B) H:=rfl
def wa(s B w:Int):Int:=(shr s w).1*(B.fdiv (shr s w).2)
def pR:Sp':=fun vs H Q _=>ap [.V,.I] (fun v B=>∃ps:List P2,Seq H v (ps.map prV)/\ps.length≤1000/\(0<B/\My.BN 300 B)/\(∀p∈ps,1≤p.2/\p.2 ∣ B/\My.BN 300 p.1)/\∀p,H p=none->Q (.ref p) (put H p (.lst ((ps.map (tpO B)).map PV.int)))) vs
theorem Aq:pR [v,.int B] H Q E=∃ps:List P2,Seq H v (ps.map prV)/\ps.length≤1000/\(0<B/\My.BN 300 B)/\(∀p∈ps,1≤p.2/\p.2 ∣ B/\My.BN 300 p.1)/\∀p,H p=none->Q (.ref p) (put H p (.lst ((ps.map (tpO B)).map PV.int))):=rfl
def mD:Sp':=fun vs H Q _=>ap [.T] (fun l=>∃ws s,Sh ws s/\l=ws.map (fun w=>prV (shr s w))/\Q (.tup [.int 1,.int 1]) H) vs
theorem yq:mD [.tup l] H Q E=∃ws s,Sh ws s/\l=ws.map (fun w=>prV (shr s w))/\Q (.tup [.int 1,.int 1]) H:=rfl
def i5:Sp':=fun vs H Q _=>ap [.V] (fun u=>∃a b,u=PV.tup [.int a,.int b]/\((0≤a/\1≤b/\b<1000000/\My.gd a b=1)/\Q (.bl true) H)) vs
theorem rh:i5 [.tup [.int a,.int b]] H Q E=((0≤a/\1≤b/\b<1000000/\My.gd a b=1)/\Q (.bl true) H):=by
 refine propext ⟨fun h=>?_,fun h=>?_⟩
 ·obtain⟨_,_,e0,h⟩:=h;cases e0;exact h
 ·exact⟨_,_,rfl,h⟩
def jJ:Sp':=fun vs H Q _=>ap [.T] (fun l=>∃ws s,Sh ws s/\l=ws.map (fun w=>prV (shr s w))/\Q (.bl true) H) vs
theorem u6:jJ [.tup l] H Q E=∃ws s,Sh ws s/\l=ws.map (fun w=>prV (shr s w))/\Q (.bl true) H:=rfl
theorem iA{s B w:Int}(hs:0<s)(hw:0≤w)(hd:(shr s w).2 ∣ B):wa s B w*s=w*B:=by
 obtain⟨p1,p2,p3,_⟩:=b7 hs hw;have e:=My.dM (a:=B) (g:=(shr s w).2) (by omega) hd;unfold wa;rw[Int.mul_right_comm,p3,KA,← e]
theorem pY{s B:Int}(hs:0<s):∀{ws:List Int},(∀w∈ws,0≤w)->(∀w∈ws,(shr s w).2 ∣ B)->(ws.map (wa s B)).sum*s=ws.sum*B
 | [],_,_=>by simp
 | w::ws,h0,hd=>by
  rw[Kc,LI,LI,LY,LY,iA hs (h0 w J6) (hd w J6),pY hs (fun x hx=>h0 x (J8 _ hx)) fun x hx=>hd x (J8 _ hx)]
theorem xT(h:Sh ws s)(hd:∀w∈ws,(shr s w).2 ∣ B):(ws.map (wa s B)).sum=B:=by
 obtain⟨e,hs,h0,_⟩:=h;have q:=pY hs h0 hd;rw[←e,KP s B]at q;exact Int.eq_of_mul_eq_mul_right (by omega) q
def fT(B:Int)(y:PV):PV:=match y with | .tup [.int a,.int b]=>.int (a*B.fdiv b) | _=>.non
theorem Sh.le{s w:Int}(h:Sh ws s)(hw:w∈ws):0≤(shr s w).1/\(shr s w).1≤1000/\1≤(shr s w).2/\(shr s w).2≤1000:=by
 obtain⟨e,hs,h0,s1,_⟩:=h;obtain⟨p1,p2,p3,p4,_,p6⟩:=b7 hs (h0 w hw);have q:=Lj hs p4;have sm:∀{l:List Int},(∀x∈l,0≤x)->w∈l->w≤l.sum:=by
  intro l
  induction l with
  | nil=>intro _ z;cases z
  | cons x l ih =>
   intro hx z;have x0:=hx x J6;have l0:0≤l.sum:=by
    have:∀{l:List Int},(∀x∈l,0≤x)->0≤l.sum:=by
     intro l
     induction l with
     | nil=>intro _;simp
     | cons y l ih=>intro h;rw[LI];have:=h y J6;have:=ih fun z hz=>h z (J8 _ hz);omega
    exact this fun z hz=>hx z (J8 _ hz)
   rw[LI];rcases J7.mp z with rfl | z
   ·omega
   ·have:=ih (fun z hz=>hx z (J8 _ hz)) z;omega
 have:=sm h0 hw;omega
theorem ft{a b:Int}(h0:0≤a)(h1:0<b):0≤a.fdiv b/\a.fdiv b≤a:=by
 refine⟨Int.fdiv_nonneg h0 (by omega),?_⟩;rw[Int.fdiv_eq_ediv_of_nonneg _ (by omega)];exact Int.ediv_le_self _ h0
theorem cX(h0:0≤i)(h1:i≤1000000):Fit i:=fA (by have:=(by decide:(1000000:Nat)<2^64);omega)
theorem E1(h0:0<j)(h1:j≤1000000):mI i j:=⟨by omega,cX (by omega) h1⟩
theorem ux{a b:Int}(h:0<b)(e:a.fmod b=0):b ∣ a:=by
 rw[Int.fmod_eq_emod_of_nonneg _ (by omega)]at e;exact Int.dvd_of_emod_eq_zero e
def jL:Sp':=fun vs H Q _=>ap [.V] (fun v=>∃ps:List P2,Seq H v (ps.map prV)/\ps.length≤500/\Q (.tup (ps.map prV)) H) vs
theorem uT:jL [v] H Q E=∃ps:List P2,Seq H v (ps.map prV)/\ps.length≤500/\Q (.tup (ps.map prV)) H:=rfl
def prod(l:List Int):Int:=l.foldl (·*·) 1
def jq:Sp':=fun vs H Q _=>ap [.V] (fun v=>∃ns:List Int,Seq H v (ns.map PV.int)/\ns.length≤500/\(∀k,(prod (ns.take k)).natAbs≤1000000)/\(∀n∈ns,n.natAbs≤1000000)/\Q (.int (prod ns)) H) vs
theorem rX:jq [v] H Q E=∃ns:List Int,Seq H v (ns.map PV.int)/\ns.length≤500/\(∀k,(prod (ns.take k)).natAbs≤1000000)/\(∀n∈ns,n.natAbs≤1000000)/\Q (.int (prod ns)) H:=rfl
theorem aX:prod (l++[n])=prod l*n:=by unfold prod;rw[LS];rfl
theorem rV(h:i.natAbs≤1000000):Fit i:=fA (L4 h (by decide))
def shT(ws:List Int):PV:=.tup (ws.map fun w=>prV (shr ws.sum w))
def Shr(ws:List Int):Prop:=Sh ws ws.sum
def m4(t:Ad):Sp':=fun vs H Q _=>ap [.R,.T] (fun x l=>∃dx c ts bs,∃ns:List Int,H x=some (.ins t.a_A dx (DF c ts bs))/\l=ns.map PV.int/\(ns.length:Int)=c/\ns.length≤6/\(∀n∈ns,2≤n/\n≤4)/\Q (.bl true) H) vs
theorem xB:m4 t [.ref x,.tup l] H Q E=∃dx c ts bs,∃ns:List Int,H x=some (.ins t.a_A dx (DF c ts bs))/\l=ns.map PV.int/\(ns.length:Int)=c/\ns.length≤6/\(∀n∈ns,2≤n/\n≤4)/\Q (.bl true) H:=rfl
def jW(t:Ad):Sp':=fun vs H Q _=>ap [.R,.T] (fun x l=>∃dx c ts bs,∃Hd:List (List Int),H x=some (.ins t.a_A dx (DF c ts bs))/\l=Hd.map shT/\Hd.length=bs.length/\Hd.length≤6/\(∀ws∈Hd,Shr ws/\1≤ws.length/\ws.length≤4)/\Q (.bl true) H) vs
theorem tQ:jW t [.ref x,.tup l] H Q E=∃dx c ts bs,∃Hd:List (List Int),H x=some (.ins t.a_A dx (DF c ts bs))/\l=Hd.map shT/\Hd.length=bs.length/\Hd.length≤6/\(∀ws∈Hd,Shr ws/\1≤ws.length/\ws.length≤4)/\Q (.bl true) H:=rfl
theorem o9{α:Type}{l:List α}:((l.map fun _=>true).all id)=true:=by simp
def jc(n:Int)(p:P2):Bool:=decide (p.1=n)||decide (p.2=n)
def bpl(bs:List P2)(n:Int):List Nat:=(List.range bs.length).filter fun k=>match bs[k]? with | some p=>jc n p | none=>false
def jQ(t:Ad):Sp':=fun vs H Q _=>ap [.R,.I] (fun x n=>∃dx c ts bs,H x=some (.ins t.a_A dx (DF c ts bs))/\bs.length≤6/\∀p,H p=none->Q (.ref p) (put H p (.lst ((bpl bs n).map fun k=>PV.int (k:Nat))))) vs
theorem uh:jQ t [.ref x,.int n] H Q E=∃dx c ts bs,H x=some (.ins t.a_A dx (DF c ts bs))/\bs.length≤6/\∀p,H p=none->Q (.ref p) (put H p (.lst ((bpl bs n).map fun k=>PV.int (k:Nat)))):=rfl
theorem tL:dk (l++[x])=dk l++[.tup [.int (l.length:Nat),x]]:=by
 unfold dk;rw[List.mapIdx_concat]
theorem snoc_ind{α:Type}{P:List α->Prop}(h0:P [])(h1:∀l x,P l->P (l++[x]))(l:List α):P l:=by
 have key:∀r:List α,P r.reverse:=fun r=>by
  induction r with
  | nil=>exact h0
  | cons x r ih=>rw[List.reverse_cons];exact h1 _ _ ih
 have:=key l.reverse
 rwa [List.reverse_reverse]at this
def fB(y:PV):PV:=match y with | .tup [.int k,_]=>.int k | _=>.non
def pB(n:Int)(y:PV):Bool:=match y with | .tup [_,.tup [.int u,.int v]]=>jc n (u,v) | _=>false
theorem vP:bpl (bs++[p]) n=bpl bs n++(if jc n p then [bs.length]else []):=by
 unfold bpl;rw[J2,LD,LL,List.filter_append];congr 1
 ·refine List.filter_congr fun k hk=>?_;rw[Kz (KI.mp hk)]
 ·rw[List.filter_cons,List.filter_nil,Kv (JW _),Mb];rfl
theorem wH:((dk (bs.map prV)).filter (pB n)).map fB=(bpl bs n).map fun k=>PV.int (k:Nat):=by
 refine snoc_ind (P:=fun bs=>((dk (bs.map prV)).filter (pB n)).map fB=(bpl bs n).map fun k=>PV.int (k:Nat)) rfl (fun l p ih=>?_) bs;rw[J9,Kc,Lc,tL,List.filter_append,J9,ih,vP,J9,JN];congr 1;rw[List.filter_cons,List.filter_nil];have e:pB n (.tup [.int (l.length:Nat),prV p])=jc n p:=rfl;rw[e];split
 ·rfl
 ·rfl
theorem AJ{bs:List P2}(h:y∈dk (bs.map prV)):∃(k:Nat) (p:P2),y=.tup [.int (k:Nat),prV p]:=by
 unfold dk at h;rw[List.mem_mapIdx]at h;obtain⟨i,hi,rfl⟩:=h;rw[Li];exact⟨i,_,rfl⟩
theorem pO:([PV.int p.1,PV.int p.2].any fun z=>deq z (.int n))=jc n p:=by
 unfold jc;simp[deq,List.any];rfl
def hsz(Hd:List (List Int))(bs:List P2)(n:Int):List Int:=(bpl bs n).map fun k=>((Hd.getD k []).length:Int)
def ssz(ns:List Int)(ts:List P2)(n:Int):List Int:=((ts.filter fun p=>decide (p.2=n)).map (·.1)).map fun u=>ns.getD u.toNat 0
theorem eG(h:k∈bpl bs n):k<bs.length:=KI.mp (Le.mp h).1
theorem eI:(bpl bs n).length≤bs.length:=by
 unfold bpl;have:=List.length_filter_le (fun k=>match bs[k]? with | some p=>jc n p | none=>false) (List.range bs.length)
 rwa [Kh]at this
def vv(t:Ad):Sp':=fun vs H Q _=>ap [.R,.T,.I] (fun x l n=>∃dx c ts bs,∃Hd:List (List Int),H x=some (.ins t.a_A dx (DF c ts bs))/\l=Hd.map shT/\Hd.length=bs.length/\bs.length≤6/\∀p H1,Sub H H1->H p=none->H1 p=some (.lst ((hsz Hd bs n).map PV.int))->Q (.ref p) H1) vs
theorem E5:vv t [.ref x,.tup l,.int n] H Q E=∃dx c ts bs,∃Hd:List (List Int),H x=some (.ins t.a_A dx (DF c ts bs))/\l=Hd.map shT/\Hd.length=bs.length/\bs.length≤6/\∀p H1,Sub H H1->H p=none->H1 p=some (.lst ((hsz Hd bs n).map PV.int))->Q (.ref p) H1:=rfl
def fH(Hd:List (List Int))(y:PV):PV:=match y with | .int k=>.int ((Hd.getD k.toNat []).length:Nat) | _=>.non
theorem BW{Hd:List (List Int)}(h:k<Hd.length):atI (Hd.map shT) (k:Nat)=some (shT (Hd.getD k [])):=by
 rw[cY (by rw[JN];exact h),Li,JQ,JO h];rfl
def lV(t:Ad):Sp':=fun vs H Q _=>ap [.R,.T,.T,.I] (fun x k l n=>∃dx c ts bs,∃(ns:List Int) (Hd:List (List Int)),H x=some (.ins t.a_A dx (DF c ts bs))/\k=ns.map PV.int/\(ns.length:Int)=c/\Good c ts/\c≤6/\l=Hd.map shT/\Hd.length=bs.length/\bs.length≤6/\(0≤n/\n<c)/\∀p H1,Sub H H1->H p=none->H1 p=some (.lst ((ssz ns ts n++hsz Hd bs n).map PV.int))->Q (.ref p) H1) vs
theorem xq:lV t [.ref x,.tup k,.tup l,.int n] H Q E=∃dx c ts bs,∃(ns:List Int) (Hd:List (List Int)),H x=some (.ins t.a_A dx (DF c ts bs))/\k=ns.map PV.int/\(ns.length:Int)=c/\Good c ts/\c≤6/\l=Hd.map shT/\Hd.length=bs.length/\bs.length≤6/\(0≤n/\n<c)/\∀p H1,Sub H H1->H p=none->H1 p=some (.lst ((ssz ns ts n++hsz Hd bs n).map PV.int))->Q (.ref p) H1:=rfl
def fN(ns:List Int)(y:PV):PV:=match y with | .int k=>.int (ns.getD k.toNat 0) | _=>.non
theorem ip(h:n≤100000):n≤sizeLine:=by rw[K3];omega
def mN:Sp':=fun vs H Q _=>ap [.T,.I,.I] (fun l r z=>∃Rw:List (List Int),l=Rw.map shT/\(Rw.length:Int)=r/\Rw.length≤1000/\(∀ws∈Rw,Shr ws/\(ws.length:Int)=z)/\Q (.bl true) H) vs
theorem wt:mN [.tup l,.int r,.int z] H Q E=∃Rw:List (List Int),l=Rw.map shT/\(Rw.length:Int)=r/\Rw.length≤1000/\(∀ws∈Rw,Shr ws/\(ws.length:Int)=z)/\Q (.bl true) H:=rfl
def tH:Sp':=fun vs H Q _=>ap [.I,.I,.B] (fun d z f=>(1≤z/\z≤4)/\∀p (ws:List Int),H p=none->(ws.length:Int)=z->Shr ws->Q (.ref p) (put H p (.lst (ws.map PV.int)))) vs
theorem FH:tH [.int d,.int z,.bl f] H Q E=((1≤z/\z≤4)/\∀p (ws:List Int),H p=none->(ws.length:Int)=z->Shr ws->Q (.ref p) (put H p (.lst (ws.map PV.int)))):=rfl
theorem nH{b:Int}:∀{ws:List Int},(∀w∈ws,0≤w/\w≤b)->0≤ws.sum/\ws.sum≤b*ws.length
 | [],_=>by simp
 | w::ws,h=>by
  obtain⟨h1,h2⟩:=h w J6;obtain⟨i1,i2⟩:=nH (ws:=ws) fun x hx=>h x (J8 _ hx);rw[LI,Kt];have:b*((ws.length+1:Nat):Int)=b*ws.length+b:=by rw[Int.natCast_add,Int.mul_add];simp
  omega
theorem vV(h:∀w∈ws,0≤w/\w≤7)(hl:ws.length≤4)(hs:ws.sum≠0):Shr ws:=by
 obtain⟨a,b⟩:=nH h;exact⟨rfl,by omega,fun w hw=>(h w hw).1,by omega,by omega⟩
def i9:Sp':=fun vs H Q _=>ap [.R] (fun a=>∃ws:List Int,H a=some (.lst (ws.map PV.int))/\Shr ws/\Q (shT ws) H) vs
theorem qY:i9 [.ref a] H Q E=∃ws:List Int,H a=some (.lst (ws.map PV.int))/\Shr ws/\Q (shT ws) H:=rfl
def fW(s:Int)(y:PV):PV:=match y with | .int w=>prV (shr s w) | _=>.non
theorem bnS(h0:0≤i)(h1:i≤1000):My.BN 300 i:=by
 have : i.natAbs < 2 ^ 10 := by have : (1000 : Nat) < 2 ^ 10 := by decide
                                omega
 exact Ko this (Lg (by decide) (by decide))
theorem ji{s w:Int}(h:0<s):My.gL w s=shr s w:=by unfold My.gL;rw[Kq (by omega)];rfl
structure Shp (c:Int) (ts bs:List P2):Prop where
 hc:1≤c/\c≤6
 gt:Good c ts
 gb:Good c bs
 l6:bs.length≤6
 st:Srt ts
 sb:Srt bs
def lY:Sp':=fun vs H Q _=>ap [.F] (fun l=>∃ns:List Int,l=ns.map PV.int/\∀c ts bs,Shp c ts bs->Q (.tup [.int c,.tup (ts.map prV),.tup (bs.map prV)]) H) vs
theorem wx:lY [.fls l] H Q E=∃ns:List Int,l=ns.map PV.int/\∀c ts bs,Shp c ts bs->Q (.tup [.int c,.tup (ts.map prV),.tup (bs.map prV)]) H:=rfl
def cF(ts:List P2)(n:Int):List Int:=((List.range n.toNat).map fun k:Nat=>(k:Int)).filter fun u=>decide ((u,n)∈ts)
def j8:Sp':=fun vs H Q _=>ap [.V,.I] (fun u n=>∃c k l,u=PV.tup [.int c,.tup k,.tup l]/\(∃ts bs,k=ts.map prV/\l=bs.map prV/\(0≤n/\n≤6)/\bs.length≤6/\∀p q,H q=none->H p=none->p≠q->Q (.tup [.ref p,.ref q]) (put (put H q (.lst ((bpl bs n).map fun k=>PV.int (k:Nat)))) p (.lst ((cF ts n).map PV.int))))) vs
theorem sT:j8 [.tup [.int c,.tup k,.tup l],.int n] H Q E=∃ts bs,k=ts.map prV/\l=bs.map prV/\(0≤n/\n≤6)/\bs.length≤6/\∀p q,H q=none->H p=none->p≠q->Q (.tup [.ref p,.ref q]) (put (put H q (.lst ((bpl bs n).map fun k=>PV.int (k:Nat)))) p (.lst ((cF ts n).map PV.int))):=by
 refine propext ⟨fun h=>?_,fun h=>?_⟩
 ·obtain⟨_,_,_,e0,h⟩:=h;cases e0;exact h
 ·exact⟨_,_,_,rfl,h⟩
def idP(y:PV):PV:=y
def pK(bs:List P2)(n:Int)(y:PV):Bool:=match y with | .int k=>(match bs[k.toNat]? with | some p=>jc n p | none=>false) | _=>false
def pU(ts:List P2)(n:Int)(y:PV):Bool:=match y with | .int u=>decide ((u,n)∈ts) | _=>false
theorem C8{x y z:PV}:atI [x,y,z] 1=some y:=rfl
theorem BG{x y z:PV}:atI [x,y,z] 2=some z:=rfl
theorem c7:bN 0 n=(List.range n).map fun k=>PV.int (k:Nat):=by
 unfold bN;refine K1 fun k _=>?_;rw[Int.zero_add]
theorem yM:((bN 0 bs.length).filter (pK bs n)).map idP=(bpl bs n).map fun k=>PV.int (k:Nat):=by
 rw[c7,List.filter_map,JY];unfold bpl;rfl
theorem tT:((bN 0 n.toNat).filter (pU ts n)).map idP=(cF ts n).map PV.int:=by
 rw[c7,List.filter_map,JY];unfold cF;rw[List.filter_map,JY];rfl
theorem yf{bs:List P2}{p:P2}(h:bs[k]?=some p):atI (bs.map prV) (k:Nat)=some (prV p):=by
 have hl:=(JS.mp h).1;rw[cY (by rw[JN];exact hl),Li,(JS.mp h).2]
theorem sD{ts:List P2}:((ts.map prV).any fun z=>deq z (.tup [.int u,.int n]))=decide ((u,n)∈ts):=by
 rw[Bool.eq_iff_iff,List.any_eq_true,LR];constructor
 ·rintro⟨z,hz,e⟩;obtain⟨p,hp,rfl⟩:=JU.mp hz;have:p=(u,n):=by
   unfold prV at e;simp[deq,d8]at e;exact Prod.ext e.1 e.2
  rw[←this];exact hp
 ·intro h;exact⟨_,JU.mpr ⟨_,h,rfl⟩,by unfold prV;simp[deq,d8]⟩
theorem uX{ts:List P2}:(ts.map prV).all (flat 8)=true:=by
 rw[Ky];intro y hy;obtain⟨p,_,rfl⟩:=JU.mp hy;rfl
theorem cg(I:Nat->St'->PHp->Prop)
  (hs:∀(i:Nat) (x:PV) (σ:St') (H:PHp) (R:St'->PHp->Prop),xs[i]?=some x->I i σ H->(∀σ' H',I (i+1) σ' H'->R σ' H') ->
   ok H/\g x σ H fun σ3 H2=>tt σ3 H2 fun b H3=>cif b (te σ3 H3 fun y H4=>∃l',H4 acc=some (.lst l')/\l'.length<sizeLine/\R σ3 (put H4 acc (.lst (l'++[y])))) (R σ3 H3))
  (hq:∀σ H,I xs.length σ H->ok H/\Q (.ref acc) H) {σ:St'} {H:PHp} (h0:I 0 σ H):dD ok g tt te acc Q xs σ H:=by
 have key:∀(r d:List PV) (σ:St') (H:PHp),xs=d++r->I d.length σ H->dD ok g tt te acc Q r σ H:=by
  intro r
  induction r with
  | nil =>
   intro d σ H e hv;rw[K4]at e;subst e;exact hq σ H hv
  | cons x r ih =>
   intro d σ H e hv;refine hs d.length x σ H _ (by rw[e];simp) hv fun σ' H' h'=>?_;exact ih (d++[x]) σ' H' (by rw[e];simp) (by rw[J2];exact h')
 exact key xs [] σ H rfl h0
def RowW(H0 H1:PHp)(p:Addr)(y:PV)(ws:List Int):Prop:=∃r,y=.ref r/\H1 r=some (.lst (ws.map PV.int))/\r≠p/\H0 r=none
def my:Sp':=fun vs H Q _=>ap [.I,.I,.I,.B] (fun cell m z f=>(1≤m/\m≤400)/\(1≤z/\z≤4)/\∀p H1 ys Rw,Sub H H1->H p=none->H1 p=some (.lst ys)->Paired (RowW H H1 p) ys Rw->(Rw.length:Int)=m->(∀ws∈Rw,Shr ws/\(ws.length:Int)=z)->Q (.ref p) H1) vs
theorem xk:my [.int cell,.int m,.int z,.bl f] H Q E=((1≤m/\m≤400)/\(1≤z/\z≤4)/\∀p H1 ys Rw,Sub H H1->H p=none->H1 p=some (.lst ys)->Paired (RowW H H1 p) ys Rw->(Rw.length:Int)=m->(∀ws∈Rw,Shr ws/\(ws.length:Int)=z)->Q (.ref p) H1):=rfl
theorem dF{R:α->β->Prop}{x:α}{y:β}(h:R x y):∀{l:List α} {m:List β},Paired R l m->Paired R (l++[x]) (m++[y]):=by
 intro l m p
 induction p with
 | nil=>exact .cons h .nil
 | cons a _ ih=>exact .cons a ih
theorem bH{R:α->β->Prop}{l:List α}{m:List β}(p:Paired R l m):l.length=m.length:=by
 induction p with
 | nil=>rfl
 | cons _ _ ih=>rw[Kt,Kt,ih]
theorem bI{R S:α->β->Prop}(h:∀x y,R x y->S x y){l:List α}{m:List β}(p:Paired R l m):Paired S l m:=by
 induction p with
 | nil=>exact .nil
 | cons a _ ih=>exact .cons (h _ _ a) ih
def cJ(H:PHp)(y:PV)(ws:List Int):Prop:=∃r,y=.ref r/\H r=some (.lst (ws.map PV.int))
def jx(H:PHp)(z:PV)(Rw:List (List Int)):Prop:=∃r ys,z=.ref r/\H r=some (.lst ys)/\Paired (cJ H) ys Rw
def tbT(Rw:List (List Int)):PV:=.tup (Rw.map shT)
def qr:Sp':=fun vs H Q _=>ap [.V] (fun u=>∃a b d,u=PV.tup [.ref a,.ref b,.ref d]/\(∃(ns:List Int) (Hd:List (List Int)) (Tb:List (List (List Int))) (ys zs:List PV),H a=some (.lst (ns.map PV.int))/\H b=some (.lst ys)/\H d=some (.lst zs)/\Paired (cJ H) ys Hd/\Paired (jx H) zs Tb/\((∀ws∈Hd,Shr ws)/\Hd.length≤6)/\((∀Rw∈Tb,Rw.length≤400/\∀ws∈Rw,Shr ws)/\Tb.length≤6)/\Q (.tup [.tup (ns.map PV.int),.tup (Hd.map shT),.tup (Tb.map tbT)]) H)) vs
theorem Ba:qr [.tup [.ref a,.ref b,.ref d]] H Q E=∃(ns:List Int) (Hd:List (List Int)) (Tb:List (List (List Int))) (ys zs:List PV),H a=some (.lst (ns.map PV.int))/\H b=some (.lst ys)/\H d=some (.lst zs)/\Paired (cJ H) ys Hd/\Paired (jx H) zs Tb/\((∀ws∈Hd,Shr ws)/\Hd.length≤6)/\((∀Rw∈Tb,Rw.length≤400/\∀ws∈Rw,Shr ws)/\Tb.length≤6)/\Q (.tup [.tup (ns.map PV.int),.tup (Hd.map shT),.tup (Tb.map tbT)]) H:=by
 refine propext ⟨fun h=>?_,fun h=>?_⟩
 ·obtain⟨_,_,_,e0,h⟩:=h;cases e0;exact h
 ·exact⟨_,_,_,rfl,h⟩
def unI(y:PV):Int:=match y with | .int i=>i | _=>0
theorem Aw{l:List Int}:(l.map PV.int).map unI=l:=by
 rw[JY];exact List.map_id'' (fun _=>rfl) l
def fR(H:PHp)(y:PV):PV:=match y with
 | .ref r=>(match H r with | some (.lst l)=>shT (l.map unI) | _=>.non)
 | _=>.non
theorem nq(h:cJ H y ws):fR H y=shT ws:=by
 obtain⟨r,rfl,e⟩:=h;show(match H r with | some (.lst l)=>shT (l.map unI) | _=>.non)=_;rw[e];show shT ((ws.map PV.int).map unI)=_;rw[Aw]
theorem oQ(p:Paired (cJ H) ys Rw):((ys.filter fun _=>true).map (fR H))=Rw.map shT:=by
 rw[Kg.mpr (fun _ _=>rfl)]
 induction p with
 | nil=>rfl
 | cons a _ ih=>rw[Kc,Kc,ih,nq a]
theorem bK{a b:Int}(h0:0≤a)(h1:1≤b):a≤a*b:=by
 have:=Int.mul_le_mul_of_nonneg_left h1 h0
 rwa [Lk]at this
theorem cR:prod (a++b)=prod a*prod b:=by
 refine snoc_ind (P:=fun b=>prod (a++b)=prod a*prod b) (by rw[K4];exact(Lk _).symm) (fun l n ih=>?_) b;rw[←List.append_assoc,aX,aX,ih,KA]
theorem aP:∀{l:List Int},(∀n∈l,1≤n)->1≤prod l:=fun {l}=>by
 refine snoc_ind (P:=fun l=>(∀n∈l,1≤n)->1≤prod l) (fun _=>Ma _) (fun l n ih h=>?_) l;rw[aX];have a:=ih fun x hx=>h x (KD _ hx);have b:=h n (Kd _ J6);exact KQ a (bK (by omega) b)
theorem cz(h:∀n∈l,1≤n)(k:Nat):prod (l.take k)≤prod l/\1≤prod (l.take k):=by
 have a:=aP (l:=l.take k) fun x hx=>h x (KJ hx);have b:=aP (l:=l.drop k) fun x hx=>h x (List.mem_of_mem_drop hx);have e:prod l=prod (l.take k)*prod (l.drop k):=by rw[←cR,List.take_append_drop]
 exact⟨by rw[e];exact bK (by omega) b,a⟩
theorem bR{a b c d:Int}(ha:0≤a)(hc:0≤c)(h1:a≤b)(h2:c≤d):a*c≤b*d:=Int.mul_le_mul h1 h2 hc (by omega)
theorem md{α:Type}{p:α->Bool}{f:α->Int}:∀{L:List α},(∀x∈L,1≤f x)->prod ((L.filter p).map f)≤prod (L.map f):=fun {L}=>by
 refine snoc_ind (P:=fun L=>(∀x∈L,1≤f x)->prod ((L.filter p).map f)≤prod (L.map f)) (fun _=>Ma _) (fun l n ih h=>?_) L;have a:=ih fun x hx=>h x (KD _ hx);have b:=h n (Kd _ J6);have c:=aP (l:=(l.filter p).map f) fun y hy=>by
  obtain⟨x,hx,rfl⟩:=JU.mp hy;exact h x (KD _ (Le.mp hx).1)
 rw[List.filter_append,J9,J9,cR,cR];refine bR (by omega) ?_ a ?_
 ·rw[List.filter_cons,List.filter_nil];split
  ·show 0≤prod [f n];unfold prod;simp;omega
  ·show(0:Int)≤1;decide
 ·rw[List.filter_cons,List.filter_nil];split
  ·exact Ma _
  ·show 1≤prod [f n];unfold prod;simp;omega
def hdz(ns:List Int)(Hd:List (List Int))(ts bs:List P2)(n:Int):List Int:=ssz ns ts n++hsz Hd bs n
structure Wld (c:Int) (ts bs:List P2) (ns:List Int) (Hd:List (List Int)) (Tb:List (List (List Int))):Prop where
 ln:(ns.length:Int)=c
 n4:∀n∈ns,2≤n/\n≤4
 lh:Hd.length=bs.length
 h4:∀ws∈Hd,Shr ws/\1≤ws.length/\ws.length≤4
 lt:Tb.length=ns.length
 most:prod ns*prod (Hd.map fun ws=>(ws.length:Int))≤300
 tb:∀(k:Nat) Rw,Tb[k]?=some Rw->(Rw.length:Int)=prod (hdz ns Hd ts bs (k:Nat))/\Rw.length≤400/\∀ws∈Rw,Shr ws/\(ws.length:Int)=ns.getD k 0
theorem kL(ln:(ns.length:Int)=c)(n4:∀n∈ns,2≤n/\n≤4)(lh:Hd.length=bs.length)(h4:∀ws∈Hd,Shr ws/\1≤ws.length/\ws.length≤4)(g:Good c ts)(n:Int):∀x∈hdz ns Hd ts bs n,1≤x/\x≤4:=fun x hx=>by
 unfold hdz ssz hsz at hx;rcases K6.mp hx with hx | hx
 ·obtain⟨u,hu,rfl⟩:=JU.mp hx;obtain⟨p,hp,rfl⟩:=JU.mp hu;have b:=g.lo p (Le.mp hp).1;have hk:p.1.toNat<ns.length:=by omega
  rw[JQ,JO hk];have:=n4 _ (KC hk);exact⟨by show 1≤ns[p.1.toNat];omega,this.2⟩
 ·obtain⟨k,hk,rfl⟩:=JU.mp hx;have hk2:k<Hd.length:=by rw[lh];exact eG hk
  rw[JQ,JO hk2];have:=h4 _ (KC hk2);exact⟨by show(1:Int)≤((Hd[k]).length:Nat);omega,by show((Hd[k].length:Nat):Int)≤4;omega⟩
theorem Wld.pos(h:Wld c ts bs ns Hd Tb)(g:Good c ts)(n:Int):∀x∈hdz ns Hd ts bs n,1≤x/\x≤4:=kL h.ln h.n4 h.lh h.h4 g n
theorem yN:(hdz ns Hd ts bs n).length≤ts.length+bs.length:=by
 unfold hdz ssz hsz;rw[J2,JN,JN,JN];have a:(ts.filter fun p=>decide (p.2=n)).length≤ts.length:=List.length_filter_le _ _;have b:=eI (bs:=bs) (n:=n);omega
def jH(t:Ad):Sp':=fun vs H Q _=>ap [.R,.T,.T,.T] (fun x k l m=>∃dx c ts bs ns Hd Tb,H x=some (.ins t.a_A dx (DF c ts bs))/\k=ns.map PV.int/\l=Hd.map shT/\m=Tb.map tbT/\Shp c ts bs/\Wld c ts bs ns Hd Tb/\Q (.bl true) H) vs
theorem uw:jH t [.ref x,.tup k,.tup l,.tup m] H Q E=∃dx c ts bs ns Hd Tb,H x=some (.ins t.a_A dx (DF c ts bs))/\k=ns.map PV.int/\l=Hd.map shT/\m=Tb.map tbT/\Shp c ts bs/\Wld c ts bs ns Hd Tb/\Q (.bl true) H:=rfl
def dQ(H:PHp)(y:PV)(ws:List Int):Prop:=Seq H y (ws.map fun w=>prV (shr ws.sum w))
def AM(H:PHp)(z:PV)(Rw:List (List Int)):Prop:=∃ys,Seq H z ys/\Paired (dQ H) ys Rw
def WF(y w:Addr)(ns:List Int)(Hd:List (List Int))(Tb:List (List (List Int))):List (Str×PV):=[("drawing",.ref y),("sizes",.tup (ns.map PV.int)),("hidden",.tup (Hd.map shT)),("tables",.tup (Tb.map tbT)),("weighed",.ref w)]
def mT(t:Ad)(P:Program)(w:World):Sp':=fun vs H Q _=>ap [.R,.R,.R,.R,.R] (fun x d0 a b d=>∃dx d1 c ts bs ns Hd Tb ys zs,H x=some (.ins t.a_B dx [])/\H d0=some (.ins t.a_A d1 (DF c ts bs))/\H a=some (.lst (ns.map PV.int))/\H b=some (.lst ys)/\H d=some (.lst zs)/\Paired (dQ H) ys Hd/\Paired (AM H) zs Tb/\Shp c ts bs/\Wld c ts bs ns Hd Tb /\
  ∀y dy wd H1,(∀a u,a≠x->H a=some u->H1 a=some u)->H1 x=some (.ins t.a_B dx (WF y wd ns Hd Tb))->H1 y=some (.ins t.a_A dy (DF c ts bs))->H y=none->H1 wd=some (.dI P w [] 0)->H wd=none->Q .non H1) vs
theorem xb:mT t P w [.ref x,.ref d0,.ref a,.ref b,.ref d] H Q E=∃dx d1 c ts bs ns Hd Tb ys zs,H x=some (.ins t.a_B dx [])/\H d0=some (.ins t.a_A d1 (DF c ts bs))/\H a=some (.lst (ns.map PV.int))/\H b=some (.lst ys)/\H d=some (.lst zs)/\Paired (dQ H) ys Hd/\Paired (AM H) zs Tb/\Shp c ts bs/\Wld c ts bs ns Hd Tb /\
  ∀y dy wd H1,(∀a u,a≠x->H a=some u->H1 a=some u)->H1 x=some (.ins t.a_B dx (WF y wd ns Hd Tb))->H1 y=some (.ins t.a_A dy (DF c ts bs))->H y=none->H1 wd=some (.dI P w [] 0)->H wd=none->Q .non H1:=rfl
theorem tm:shT ws=.tup ((ws.map (shr ws.sum)).map prV):=by unfold shT;rw[JY];rfl
theorem dQ.cp(h:dQ H y ws):Seq H y ((ws.map (shr ws.sum)).map prV):=by rw[JY];exact h
theorem dQ.tp(h:dQ H y ws):ko H y=shT ws:=by
 rcases h with rfl |⟨r,rfl,e⟩
 ·rfl
 ·exact gk e
theorem dQ.up(s:U.Sub H H1){ys:List PV}{Hd:List (List Int)}(h:Paired (dQ H) ys Hd):Paired (dQ H1) ys Hd:=bI (fun _ _ r=>Seq.up r s) h
theorem uW(h:Paired (dQ H) ys Hd):((ys.filter fun _=>true).map (ko H))=Hd.map shT:=by
 rw[Kg.mpr (fun _ _=>rfl)]
 induction h with
 | nil=>rfl
 | cons a _ ih=>rw[Kc,Kc,ih,dQ.tp a]
def fL(y:PV):PV:=match y with | .tup l=>.int (l.length:Nat) | _=>.non
theorem tZ{Hd:List (List Int)}:(((Hd.map shT).filter fun _=>true).map fL)=(Hd.map fun ws=>((ws.length:Nat):Int)).map PV.int:=by
 rw[Kg.mpr (fun _ _=>rfl),JY,JY];refine K1 fun ws _=>?_;show PV.int _=PV.int _;rw[JN]
theorem mO:prod (n::l)=n*prod l:=by
 have:=cR (a:=[n]) (b:=l);rw[List.singleton_append]at this;rw[this];show(1*n)*prod l=_;rw[Int.one_mul]
theorem mE(h:l[i]?=some v):prod (l.set i s)*v=prod l*s:=by
 obtain⟨hi,rfl⟩:=JS.mp h;have e:prod l=prod (l.take i)*(l[i]*prod (l.drop (i+1))):=by
  rw[←mO,← cR,← LM hi,List.take_append_drop]
 rw[List.set_eq_take_append_cons_drop,Kw hi,cR,mO,e];simp only[KA,KP,Lf]
theorem mW{α:Type}{l:List α}{d:α}(h:n≤l.length):(List.range n).map (fun k=>l.getD k d)=l.take n:=by
 refine List.ext_getElem (by rw[JN,Kh,Kl];omega) fun i h1 h2=>?_;rw[Li,List.getElem_range,List.getElem_take,JQ,JO (by rw[Kl]at h2;omega)];rfl
theorem CY(hs:Shp c ts bs)(hn:n<c):hdz ns Hd ts bs n=((cF ts n).map fun u=>ns.getD u.toNat 0)++hsz Hd bs n:=by
 unfold hdz ssz cF;rw[DM.nU hs.hc.2 hs.gt hs.st hn]
theorem BI(hs:Shp c ts bs)(hn:0≤n/\n<c)(ln:(ns.length:Int)=c)(n4:∀n∈ns,2≤n/\n≤4)(lh:Hd.length=bs.length)(h4:∀ws∈Hd,Shr ws/\1≤ws.length/\ws.length≤4):1≤prod (hdz ns Hd ts bs n)/\prod (hdz ns Hd ts bs n)≤prod ns*prod (Hd.map fun ws=>(ws.length:Int)):=by
 have pos:=kL ln n4 lh h4 hs.gt n;refine⟨aP fun x hx=>(pos x hx).1,?_⟩;have p1:=aP (l:=ssz ns ts n) fun x hx=>(pos x (KD _ hx)).1;have p2:=aP (l:=hsz Hd bs n) fun x hx=>(pos x (Kd _ hx)).1;unfold hdz;rw[cR];have n1:∀k:Nat,k<ns.length->1≤ns.getD k 0:=fun k hk=>by
  rw[JQ,JO hk];have:=n4 _ (KC hk);show 1≤ns[k];omega
 refine bR (by omega) (by omega) ?_ ?_
 ·unfold ssz;rw[DM.nU hs.hc.2 hs.gt hs.st hn.2];refine KQ (md fun x hx=>?_) ?_
  ·obtain⟨k,hk,rfl⟩:=JU.mp hx;have:=KI.mp hk;exact n1 _ (by rw[Kk];omega)
  ·rw[JY];have e:(List.range n.toNat).map ((fun u:Int=>ns.getD u.toNat 0) ∘ fun k:Nat=>(k:Int))=ns.take n.toNat:=by
    rw[←mW (d:=0) (show n.toNat≤ns.length by omega)];rfl
   rw[e];exact(cz (fun x hx=>by have:=n4 x hx;omega) _).1
 ·unfold hsz bpl;refine KQ (md fun k hk=>?_) ?_
  ·have hk2:k<Hd.length:=by rw[lh];exact KI.mp hk
   rw[JQ,JO hk2];have:=h4 _ (KC hk2);show(1:Int)≤((Hd[k]).length:Nat);omega
  ·have e:(List.range bs.length).map (fun k=>((Hd.getD k []).length:Int))=Hd.map fun ws=>(ws.length:Int):=by
    have:=congrArg (List.map fun ws:List Int=>(ws.length:Int)) (mW (l:=Hd) (d:=[]) (n:=bs.length) (by omega));rw[JY,← lh,Ke]at this;rw[←lh];exact this
   rw[e];exact Ma _
def Kx(p:Addr)(H H1:PHp):Prop:=∀a u,a≠p->H a=some u->H1 a=some u
def fx(p:Addr)(H:PHp)(y:PV)(ws:List Int):Prop:=∃r,y=.ref r/\r≠p/\H r=some (.lst (ws.map PV.int))
def qD(p:Addr)(H:PHp)(z:PV)(Rw:List (List Int)):Prop:=∃r ys,z=.ref r/\r≠p/\H r=some (.lst ys)/\Paired (fx p H) ys Rw
theorem fx.up(k:Kx p H H1){ys:List PV}{Hd:List (List Int)}(h:Paired (fx p H) ys Hd):Paired (fx p H1) ys Hd:=bI (fun _ _ y_=>by obtain⟨r,e,n,q⟩:=y_;exact ⟨r,e,n,k _ _ n q⟩) h
theorem qD.up(k:Kx p H H1){ys:List PV}{Tb:List (List (List Int))}(h:Paired (qD p H) ys Tb):Paired (qD p H1) ys Tb:=bI (fun _ _ y_=>by obtain⟨r,ys,e,n,q,w⟩:=y_;exact ⟨r,ys,e,n,k _ _ n q,fx.up k w⟩) h
def mm:Sp':=fun vs H Q _=>ap [.F,.I,.V,.I] (fun l k u m=>∃c tv bv,u=PV.tup [.int c,.tup tv,.tup bv]/\(∃(is:List Int) (ts bs:List P2),l=is.map PV.int/\tv=ts.map prV/\bv=bs.map prV/\(0≤k/\k≤20)/\(0≤m/\m≤300)/\Shp c ts bs /\
  ∀a b d ns Hd Tb ys zs H1,Sub H H1->H1 a=some (.lst (ns.map PV.int))->H1 b=some (.lst ys)->H1 d=some (.lst zs)->Paired (cJ H1) ys Hd->Paired (jx H1) zs Tb->Wld c ts bs ns Hd Tb->Q (.tup [.ref a,.ref b,.ref d]) H1)) vs
theorem w8:mm [.fls l,.int k,.tup [.int c,.tup tv,.tup bv],.int m] H Q E=∃(is:List Int) (ts bs:List P2),l=is.map PV.int/\tv=ts.map prV/\bv=bs.map prV/\(0≤k/\k≤20)/\(0≤m/\m≤300)/\Shp c ts bs /\
  ∀a b d ns Hd Tb ys zs H1,Sub H H1->H1 a=some (.lst (ns.map PV.int))->H1 b=some (.lst ys)->H1 d=some (.lst zs)->Paired (cJ H1) ys Hd->Paired (jx H1) zs Tb->Wld c ts bs ns Hd Tb->Q (.tup [.ref a,.ref b,.ref d]) H1:=by
 refine propext ⟨fun h=>?_,fun h=>?_⟩
 ·obtain⟨_,_,_,e0,h⟩:=h;cases e0;exact h
 ·exact⟨_,_,_,rfl,h⟩
theorem I0(h0:0≤d)(h:d<4):∃e,atI [PV.int 2,PV.int 2,PV.int 3,PV.int 4] d=some (.int e)/\2≤e/\e≤4:=by
 rcases (show d=0∨d=1∨d=2∨d=3 by omega)with rfl | rfl | rfl | rfl
 ·exact⟨2,rfl,by decide⟩
 ·exact⟨2,rfl,by decide⟩
 ·exact⟨3,rfl,by decide⟩
 ·exact⟨4,rfl,by decide⟩
theorem HU(h0:0≤d)(h:d<5):∃e,atI [PV.int 1,PV.int 2,PV.int 2,PV.int 3,PV.int 4] d=some (.int e)/\1≤e/\e≤4:=by
 rcases (show d=0∨d=1∨d=2∨d=3∨d=4 by omega)with rfl | rfl | rfl | rfl | rfl
 ·exact⟨1,rfl,by decide⟩
 ·exact⟨2,rfl,by decide⟩
 ·exact⟨2,rfl,by decide⟩
 ·exact⟨3,rfl,by decide⟩
 ·exact⟨4,rfl,by decide⟩
structure Sz (c:Int) (i:Nat) (ns:List Int):Prop where
 ln:ns.length=c.toNat
 n4:∀n∈ns,2≤n/\n≤4
 tw:∀j,i≤j->j<ns.length->ns[j]?=some 2
 le:prod ns≤150
theorem Sz.zero(h:1≤c/\c≤6):Sz c 0 (List.replicate c.toNat 2)/\prod (List.replicate c.toNat 2)=1*2 ^ c.toNat:=by
 refine⟨⟨Lm,fun n hn=>by rw[(List.mem_replicate.mp hn).2];decide,fun j _ hj=>by rw[Lm]at hj;exact List.getElem?_replicate_of_lt hj,?_⟩,?_⟩
 ·rcases (show c=1∨c=2∨c=3∨c=4∨c=5∨c=6 by omega)with rfl | rfl | rfl | rfl | rfl | rfl<;>decide
 ·rcases (show c=1∨c=2∨c=3∨c=4∨c=5∨c=6 by omega)with rfl | rfl | rfl | rfl | rfl | rfl<;>decide
theorem Sz.up(h:Sz c i ns):Sz c (i+1) ns:=⟨h.ln,h.n4,fun j hj hl=>h.tw j (by omega) hl,h.le⟩
theorem Sz.half(h:Sz c i ns)(hi:i<ns.length)(s:Int):(prod ns).fdiv 2*s=prod (ns.set i s):=by
 have q:=mE (s:=s) (h.tw i (JW _) hi);have o:=mE (s:=1) (h.tw i (JW _) hi);rw[Lk]at o;rw[←o,Int.mul_fdiv_cancel _ (by decide)];rw[←o]at q;have:prod (ns.set i s)*2=(prod (ns.set i 1)*s)*2:=by rw[q];simp only[KA,KP,Lf]
 omega
theorem Sz.set(h:Sz c i ns){s:Int}(hs:2≤s/\s≤4)(hl:prod (ns.set i s)≤150):Sz c (i+1) (ns.set i s):=by
 refine⟨by rw[List.length_set];exact h.ln,fun n hn=>?_,fun j hj hl=>?_,hl⟩
 ·rcases List.mem_or_eq_of_mem_set hn with hn | rfl
  ·exact h.n4 n hn
  ·exact hs
 ·rw[List.length_set]at hl;rw[List.getElem?_set_ne (by omega)];exact h.tw j (by omega) hl
theorem ka{Z:List Int}(h:Z[m]?=some v):prod (Z.take (m+1))=prod (Z.take m)*v:=by
 rw[Kr,h];exact aX
theorem kq:prod ((Hd++[ws]).map fun ws:List Int=>(ws.length:Int))=prod (Hd.map fun ws:List Int=>(ws.length:Int))*(ws.length:Int):=by
 rw[J9];exact aX
theorem eA{α:Type}{l:List α}{x y:α}(h:(l++[x])[k]?=some y):l[k]?=some y∨(k=l.length/\y=x):=by
 rcases Nat.lt_trichotomy k l.length with q | q | q
 ·rw[Kz q]at h;exact .inl h
 ·rw[Kv (by omega),q,Mb]at h;exact .inr ⟨q,(Ks h).symm⟩
 ·rw[LF (by rw[J2];simp;omega)]at h;cases h
theorem iw(h:u∈cF ts n):0≤u/\u<n:=by
 obtain⟨k,hk,rfl⟩:=JU.mp (Le.mp h).1;have:=KI.mp hk;omega
def shs(ws:List Int):List PV:=ws.map fun w=>prV (shr ws.sum w)
def fb(b:Int):Bool:=decide (b.fmod 2=1)
def gb(b:Int):Bool:=decide ((b.fdiv 2).fmod 2=1)
def bj(b:Int):Nat->Int
 | 0=>b
 | n+1=>(bj b n).fdiv 4
def eT(f:Bool)(N:Addr->Prop)(H:PHp)(y:PV)(ws:List Int):Prop:=(f=true/\y=shT ws)∨(f=false/\∃r,y=.ref r/\¬N r/\H r=some (.lst (shs ws)))
def lE(f g:Bool)(N:Addr->Prop)(d:Addr)(H:PHp)(z:PV)(Rw:List (List Int)):Prop:=∃ys,Paired (eT f N H) ys Rw/\((g=true/\z=.tup ys)∨(g=false/\∃t,z=.ref t/\t≠d/\N t/\H t=some (.lst ys)))
theorem eT.imp(k:∀r u,¬N r->H r=some u->¬N' r/\H' r=some u){ys:List PV}{Rw:List (List Int)}(h:Paired (eT f N H) ys Rw):Paired (eT f N' H') ys Rw :=
 bI (fun _ _ q=>q.elim .inl fun y_=>by obtain⟨e,r,e1,n,e2⟩:=y_;exact .inr ⟨e,r,e1,(k r _ n e2).1,(k r _ n e2).2⟩) h
theorem lE.imp(k:∀r u,¬N r->H r=some u->¬N' r/\H' r=some u)(m:∀r u,r≠d->N r->H r=some u->N' r/\H' r=some u){z:PV}{Rw:List (List Int)}(h:lE f g N d H z Rw):lE f g N' d H' z Rw:=by
 obtain⟨ys,p,q⟩:=h;refine⟨ys,eT.imp k p,q.elim .inl fun y_=>by obtain⟨e,t,e1,n,nt,e2⟩:=y_;exact .inr ⟨e,t,e1,n,(m t _ n nt e2).1,(m t _ n nt e2).2⟩⟩
structure Hnd (bits:Int) (N:Addr→Prop) (d:Addr) (H:PHp) (zs:List PV) (Tb:List (List (List Int))):Prop where
 nd:N d
 ls:∀x,N x->H x≠none
 tb:∀i z Rw,zs[i]?=some z->Tb[i]?=some Rw->lE (fb (bj bits i)) (gb (bj bits i)) N d H z Rw
def jD:Sp':=fun vs H Q _=>ap [.V,.I] (fun u bits=>∃a b c,u=PV.tup [.tup a,.tup b,.tup c]/\(∃(ns:List Int) (Hd:List (List Int)) (Tb:List (List (List Int))),a=ns.map PV.int/\b=Hd.map shT/\c=Tb.map tbT/\(Hd.length≤6/\Tb.length≤6/\∀Rw∈Tb,Rw.length≤400) /\
  ∀r0 a b d N ys zs H1,Sub H H1->H1 r0=some (.lst [.ref a,.ref b,.ref d])->(a≠r0/\b≠r0/\d≠r0)->(H a=none/\H b=none/\H d=none)->(∀x,¬N x->H x=none)->N r0->H1 a=some (.lst (ns.map PV.int))->H1 b=some (.lst ys)->H1 d=some (.lst zs)->Paired (eT (fb (bj bits Tb.length)) (fun _=>False) H1) ys Hd->zs.length=Tb.length->(∀t,PV.ref t∈zs->t≠r0/\H t=none)->Hnd bits N d H1 zs Tb->Q (.ref r0) H1)) vs
theorem vO:jD [.tup [.tup a,.tup b,.tup c],.int bits] H Q E=(∃(ns:List Int) (Hd:List (List Int)) (Tb:List (List (List Int))),a=ns.map PV.int/\b=Hd.map shT/\c=Tb.map tbT/\(Hd.length≤6/\Tb.length≤6/\∀Rw∈Tb,Rw.length≤400) /\
  ∀r0 a b d N ys zs H1,Sub H H1->H1 r0=some (.lst [.ref a,.ref b,.ref d])->(a≠r0/\b≠r0/\d≠r0)->(H a=none/\H b=none/\H d=none)->(∀x,¬N x->H x=none)->N r0->H1 a=some (.lst (ns.map PV.int))->H1 b=some (.lst ys)->H1 d=some (.lst zs)->Paired (eT (fb (bj bits Tb.length)) (fun _=>False) H1) ys Hd->zs.length=Tb.length->(∀t,PV.ref t∈zs->t≠r0/\H t=none)->Hnd bits N d H1 zs Tb->Q (.ref r0) H1):=by
 refine propext ⟨fun h=>?_,fun h=>?_⟩
 ·obtain⟨_,_,_,e0,h⟩:=h;cases e0;exact h
 ·exact⟨_,_,_,rfl,h⟩
theorem pV{x:PV}:ixN (l++[x]).length (-1)=some l.length:=by
 unfold ixN;rw[Kq (by decide),Kw (by rw[J2];simp;omega)];congr 1;rw[J2];simp;omega
theorem yW{x:PV}:atI (l++[x]) (-1)=some x:=by
 unfold atI;rw[pV];show(l++[x])[l.length]?=some x;rw[Kv (JW _),Mb];rfl
theorem uQ{x y:PV}:(l++[x]).set l.length y=l++[y]:=by
 rw[List.set_append_right _ _ (JW _),Mb];rfl
def Wr(t:Ad)(H:PHp)(x:Addr)(c:Int)(ts bs:List P2)(ns:List Int)(Hd:List (List Int))(Tb:List (List (List Int))):Prop:=∃dx y dy w,H x=some (.ins t.a_B dx (WF y w ns Hd Tb))/\H y=some (.ins t.a_A dy (DF c ts bs))
theorem zN{α β:Type}{R:α->β->Prop}:∀{l:List α} {m:List β},l.length=m.length->(∀(i:Nat) x y,l[i]?=some x->m[i]?=some y->R x y)->Paired R l m
 | [],[],_,_=>.nil
 | [],_::_,h,_=>by cases h
 | _::_,[],h,_=>by cases h
 | x::l,y::m,h,k=>.cons (k 0 x y rfl rfl) (zN (by simpa using h) fun i a b ha hb=>k (i+1) a b ha hb)
theorem same_int:kz H n (.int i) (.int i):=by cases n<;>exact rfl
theorem pZ(h:Paired (eT f N H) ys Rw):Paired (dQ H) ys Rw:=bI (fun _ _ q=>q.elim (fun q=>.inl q.2) fun y_=>by obtain⟨_,r,e,_,q⟩:=y_;exact .inr ⟨r,e,q⟩) h
theorem yY(h:lE f g N d H z Rw):AM H z Rw:=by
 obtain⟨ys,p,q⟩:=h;exact⟨ys,q.elim (fun q=>.inl q.2) fun y_=>by obtain⟨_,r,e,_,_,q⟩:=y_;exact .inr ⟨r,e,q⟩,pZ p⟩
theorem Hnd.up(h:Hnd bits N d H zs Tb)(s:U.Sub H H1):Hnd bits N d H1 zs Tb:=by
 refine⟨h.nd,fun x nx e=>h.ls x nx (s.free e),fun i z Rw e1 e2=>lE.imp (fun r u n e=>⟨n,s _ _ e⟩) (fun r u _ n e=>⟨n,s _ _ e⟩) (h.tb i z Rw e1 e2)⟩
structure Mt (H H1:PHp):Prop where
 ls:∀x l,H x=some (.lst l)->∃m,H1 x=some (.lst m)
 el:∀x u,H x=some u->(∀l,u≠.lst l)->H1 x=some u
theorem Mt.refl(H:PHp):Mt H H:=⟨fun _ l e=>⟨l,e⟩,fun _ _ e _=>e⟩
theorem Mt.trans(h:Mt A B)(k:Mt B C):Mt A C:=⟨fun x l e=>let ⟨m,q⟩:=h.ls x l e;k.ls x m q,fun x u e n=>k.el x u (h.el x u e n) n⟩
theorem Mt.set(h:Mt A B)(e:B p=some (.lst l)):Mt A (put B p (.lst m)):=by
 refine⟨fun x k q=>?_,fun x u q n=>?_⟩
 ·by_cases xp:x=p
  ·rw[xp];exact⟨m,af⟩
  ·rw[ag xp];exact h.ls x k q
 ·have b:=h.el x u q n;have xp:x≠p:=fun z=>by rw[z,e]at b;exact n l (Ks b).symm
  rw[ag xp];exact b
def Ty(N:Addr->Prop)(d r0:Addr)(H0 H:PHp)(zs:List PV):Prop:=∀z∈zs,∃ys,(z=.tup ys∨∃t,z=.ref t/\N t/\t≠d/\(t≠r0/\H0 t=none)/\H t=some (.lst ys))/\∀y∈ys,(∃l,y=.tup l)∨∃r l,y=.ref r/\¬N r/\H r=some (.lst l)
theorem Ty.of(h:Hnd bits N d H zs Tb)(hl:zs.length=Tb.length)(n0:∀t,PV.ref t∈zs->t≠r0/\H0 t=none):Ty N d r0 H0 H zs:=fun z hz=>by
 obtain⟨i,hi,rfl⟩:=LA hz;obtain⟨ys,p,q⟩:=h.tb i _ (Tb[i]'(by omega)) (JO hi) (JO (by omega));refine⟨ys,q.imp (fun q=>q.2) fun y_=>by obtain⟨_,t,e,n1,n,e2⟩:=y_;exact ⟨t,e,n,n1,n0 t (by rw[←e];exact hz),e2⟩,fun y hy=>?_⟩;obtain⟨ws,_,row⟩:=ff p hy;exact Or.imp (fun q=>⟨_,q.2⟩) (fun y_=>by obtain⟨_,r,e,n,e2⟩:=y_;exact ⟨r,_,e,n,e2⟩) row
theorem Cy{x y z:PV}:atI [x,y,z] 0=some x:=rfl
theorem oU{H H8:PHp}(k:∀a v,a≠x->H a=some v->H8 a=some v)(hx:H8 x=some u)(hq:H8 q=none):H q=none:=by
 cases e:H q with
 | none=>rfl
 | some v =>
  by_cases n:q=x
  ·subst n;rw[hx]at hq;cases hq
  ·rw[k q v n e]at hq;cases hq
def cI(told:List (List Int))(n:Int):List (List Int):=told.flatMap fun u=>(List.range n.toNat).map fun k:Nat=>u++[(k:Int)]
def wys(ns:List Int):List (List Int):=ns.foldl cI [[]]
def lX:Sp':=fun vs H Q _=>ap [.V,.R] (fun v d=>∃ns:List Int,Seq H v (ns.map PV.int)/\H d=some (.dK [])/\ns.length≤6/\(∀n∈ns,1≤n/\n≤4)/\prod ns≤300/\∀p H1,Sub H H1->H p=none->H1 p=some (.lst ((wys ns).map tI))->Q (.ref p) H1) vs
theorem wA:lX [v,.ref d] H Q E=∃ns:List Int,Seq H v (ns.map PV.int)/\H d=some (.dK [])/\ns.length≤6/\(∀n∈ns,1≤n/\n≤4)/\prod ns≤300/\∀p H1,Sub H H1->H p=none->H1 p=some (.lst ((wys ns).map tI))->Q (.ref p) H1:=rfl
def o8:Sp':=fun vs H Q _=>ap [.V] (fun v=>∃ns:List Int,Seq H v (ns.map PV.int)/\ns.length≤6/\(∀n∈ns,1≤n/\n≤4)/\prod ns≤300/\∀p H1,Sub H H1->H p=none->H1 p=some (.lst ((wys ns).map tI))->Q (.ref p) H1) vs
theorem BV:o8 [v] H Q E=∃ns:List Int,Seq H v (ns.map PV.int)/\ns.length≤6/\(∀n∈ns,1≤n/\n≤4)/\prod ns≤300/\∀p H1,Sub H H1->H p=none->H1 p=some (.lst ((wys ns).map tI))->Q (.ref p) H1:=rfl
def mQ:Sp':=fun vs H Q _=>ap [.R] (fun a=>∃ns:List Int,H a=some (.lst (ns.map PV.int))/\ns.length≤6/\(∀n∈ns,1≤n/\n≤4)/\prod ns≤300/\∀p H1,Sub H H1->H p=none->H1 p=some (.lst ((wys ns).map tI))->Q (.ref p) H1) vs
theorem wX:mQ [.ref a] H Q E=∃ns:List Int,H a=some (.lst (ns.map PV.int))/\ns.length≤6/\(∀n∈ns,1≤n/\n≤4)/\prod ns≤300/\∀p H1,Sub H H1->H p=none->H1 p=some (.lst ((wys ns).map tI))->Q (.ref p) H1:=rfl
theorem qV{told:List (List Int)}(h:1≤n):((cI told n).length:Int)=told.length*n:=by
 unfold cI
 induction told with
 | nil=>simp
 | cons u r ih=>rw[LU,J2,JN,Kh,Kt,Int.natCast_add,ih,Int.natCast_add,LY];simp;omega
theorem mP{told:List (List Int)}(h:1≤n/\n≤4):(cI told n).length≤told.length*4:=by
 unfold cI
 induction told with
 | nil=>simp
 | cons u r ih=>rw[LU,J2,JN,Kh,Kt];omega
theorem dt:wys (ns++[n])=cI (wys ns) n:=by unfold wys;rw[LS];rfl
theorem fv:(∀n∈ns,1≤n/\n≤4)->((wys ns).length:Int)=prod ns:=by
 refine snoc_ind (P:=fun ns=>(∀n∈ns,1≤n/\n≤4)->((wys ns).length:Int)=prod ns) (fun _=>rfl) (fun l n ih h=>?_) ns;have a:=ih fun x hx=>h x (KD _ hx);rw[dt,qV (h n (Kd _ J6)).1,a,aX]
theorem cm:∀{u:List Int},u∈wys ns->u.length=ns.length/\∀(k:Nat) x,u[k]?=some x->0≤x/\∀n,ns[k]?=some n->x<n:=by
 refine snoc_ind (P:=fun ns=>∀{u:List Int},u∈wys ns->u.length=ns.length/\∀(k:Nat) x,u[k]?=some x->0≤x/\∀n,ns[k]?=some n->x<n) (fun {u} h=>?_) (fun l n ih {u} h=>?_) ns
 ·have:u=[]:=by simpa[wys]using h
  subst this;exact⟨rfl,fun k x e=>by cases k<;>cases e⟩
 ·rw[dt]at h;unfold cI at h;obtain⟨v,hv,hu⟩:=List.mem_flatMap.mp h;obtain⟨k,hk,rfl⟩:=JU.mp hu;obtain⟨e,q⟩:=ih hv;refine⟨by rw[J2,J2,e];rfl,fun j x hx=>?_⟩;have hk2:=KI.mp hk;rcases eA hx with hx |⟨rfl,rfl⟩
  ·obtain⟨a,b⟩:=q j x hx;have hj:=(JS.mp hx).1;refine⟨a,fun m hm=>b m ?_⟩
   rwa [Kz (by omega)]at hm
  ·refine⟨by omega,fun m hm=>?_⟩;rw[e,Kv (JW _),Mb]at hm;cases hm;omega
theorem nh(h:∀n∈ns,1≤n/\n≤4)(h3:prod ns≤300)(i:Nat):(wys (ns.take i)).length≤300:=by
 have a:=fv (ns:=ns.take i) fun x hx=>h x (KJ hx);have b:=cz (l:=ns) (fun n hn=>(h n hn).1) i;omega
def plc(l:List P2):Int:=l.foldl (fun p q=>p*q.2+q.1) 0
def iF:Sp':=fun vs H Q _=>ap [.R,.R] (fun a b=>∃l:List P2,H a=some (.lst ((l.map (·.1)).map PV.int))/\H b=some (.lst ((l.map (·.2)).map PV.int))/\(∀k,(plc (l.take k)).natAbs≤1000000)/\(∀q∈l,q.2.natAbs≤1000000)/\Q (.int (plc l)) H) vs
theorem qA:iF [.ref a,.ref b] H Q E=∃l:List P2,H a=some (.lst ((l.map (·.1)).map PV.int))/\H b=some (.lst ((l.map (·.2)).map PV.int))/\(∀k,(plc (l.take k)).natAbs≤1000000)/\(∀q∈l,q.2.natAbs≤1000000)/\Q (.int (plc l)) H:=rfl
theorem pP(g:My.gd x y=1)(h:y ∣ x*z):y ∣ z:=by
 have c:Nat.Coprime y.natAbs x.natAbs:=by
  have:Nat.gcd x.natAbs y.natAbs=1:=Int.ofNat.inj g;rw[Nat.Coprime,Nat.gcd_comm];exact this
 have h2:y.natAbs ∣ z.natAbs*x.natAbs:=by
  have:=Int.natAbs_dvd_natAbs.mpr h
  rwa [Int.natAbs_mul,Nat.mul_comm]at this
 exact Int.natAbs_dvd_natAbs.mp (c.dvd_of_dvd_mul_right h2)
theorem qa(ha:0≤a)(hc:0≤c)(hb:0<b)(hd:0<d)(e:a*d=c*b):shr b a=shr d c:=by
 obtain⟨x0,y0,e1,_,g1,_⟩:=b7 hb ha;obtain⟨x1,y1,e2,_,g2,_⟩:=b7 hd hc;generalize shr b a=p at *;generalize shr d c=q at *;have m:p.1*q.2=q.1*p.2:=by
  refine Int.eq_of_mul_eq_mul_right (show b*d≠0 from Int.ne_of_gt (L9 hb hd)) ?_
  calc p.1*q.2*(b*d)=(p.1*b)*(q.2*d):=by simp only[KP,KA,Lf]
   _=(a*d)*(p.2*q.2):=by rw[e1];simp only[KP,KA,Lf]
   _=(c*q.2)*(b*p.2):=by rw[e];simp only[KP,KA,Lf]
   _=q.1*p.2*(b*d):=by rw[←e2];simp only[KP,KA,Lf]
 have d1:p.2 ∣ q.2:=pP g1 ⟨q.1,by rw[m,KP]⟩;have d2:q.2 ∣ p.2:=pP g2 ⟨p.1,by rw[←m,KP]⟩;have ey:p.2=q.2:=Int.le_antisymm (Lj (by omega) d1) (Lj (by omega) d2);rw[ey]at m;exact Prod.ext (Int.eq_of_mul_eq_mul_right (by omega) m) ey
def lL:Sp':=fun vs H Q _=>ap [.V,.V] (fun u v=>∃a b c d,u=PV.tup [.int a,.int b]/\v=PV.tup [.int c,.int d]/\(((0≤a/\My.BN 150 a)/\(0<b/\My.BN 150 b)/\(0≤c/\My.BN 150 c)/\(0<d/\My.BN 150 d))/\Q (prV (shr (b*d) (a*c))) H)) vs
theorem wj:lL [.tup [.int a,.int b],.tup [.int c,.int d]] H Q E=(((0≤a/\My.BN 150 a)/\(0<b/\My.BN 150 b)/\(0≤c/\My.BN 150 c)/\(0<d/\My.BN 150 d))/\Q (prV (shr (b*d) (a*c))) H):=by
 refine propext ⟨fun h=>?_,fun h=>?_⟩
 ·obtain⟨_,_,_,_,e0,e1,h⟩:=h;cases e0;cases e1;exact h
 ·exact⟨_,_,_,_,rfl,rfl,h⟩
theorem oN{l:List P2}:dU ((l.map (·.1)).map PV.int) ((l.map (·.2)).map PV.int)=l.map prV:=by
 induction l with
 | nil=>rfl
 | cons a r ih=>exact congrArg (List.cons (prV a)) ih
theorem dn:plc (l++[q])=plc l*q.2+q.1:=by unfold plc;rw[LS];rfl
theorem xu(sq:Seq H v xs)(k:∀ok:PHp->Prop,(∀H1,U.Sub H H1->ok H1)->R ⟨dk xs,ok⟩ H):en1 [v] H R∨CN [v] H R:=by
 rcases sq with rfl |⟨a,rfl,e⟩
 ·exact .inl (k _ fun _ _=>trivial)
 ·exact .inr ⟨_,e,k _ fun H1 s=>s _ _ e⟩
theorem yU{i:Nat}{y:PV}(h:(dk xs)[i]?=some y):∃x,xs[i]?=some x/\y=.tup [.int (i:Nat),x]:=by
 unfold dk at h;rw[List.getElem?_mapIdx]at h;cases e:xs[i]? with
 | none=>rw[e]at h;cases h
 | some x=>rw[e]at h;exact⟨x,rfl,(Ks h).symm⟩
def fC(u:List Int)(y:PV):PV:=match y with | .int k=>tI (u++[k]) | _=>.non
theorem zg:fC u (.int k)=.tup (u.map PV.int++[.int k]):=by
 show PV.tup ((u++[k]).map PV.int)=_;rw[J9];rfl
theorem tP:(((bN 0 n).filter fun _=>true).map (fC u))=((List.range n).map fun k:Nat=>u++[(k:Int)]).map tI:=by
 rw[Kg.mpr (fun _ _=>rfl),c7,JY,JY];rfl
theorem jh:cI (l++[u]) n=cI l n++(List.range n.toNat).map fun k:Nat=>u++[(k:Int)]:=by
 unfold cI;rw[List.flatMap_append];simp
theorem eV{w:Int}{l:List Int}(h:∀x∈l,0≤x)(hw:w∈l):w≤l.sum:=by
 induction l with
 | nil=>cases hw
 | cons x l ih =>
  have x0:=h x J6;have l0:∀{l:List Int},(∀x∈l,0≤x)->0≤l.sum:=by
   intro l
   induction l with
   | nil=>intro _;simp
   | cons y l ih=>intro h;rw[LI];have:=h y J6;have:=ih fun z hz=>h z (J8 _ hz);omega
  have l1:=l0 fun z hz=>h z (J8 _ hz);rw[LI];rcases J7.mp hw with rfl | z
  ·omega
  ·have:=ih (fun z hz=>h z (J8 _ hz)) z;omega
def dA(told:List Int)(ws:List Int):List Int:=told.flatMap fun x=>ws.map fun y=>x*y
def hws(Hd:List (List Int)):List Int:=Hd.foldl dA [1]
def hB(Hd:List (List Int)):Int:=prod (Hd.map List.sum)
def crs(Hd:List (List Int)):List P2:=(hws Hd).map (shr (hB Hd))
def iV:Sp':=fun vs H Q _=>ap [.T] (fun l=>∃Hd:List (List Int),l=Hd.map shT/\Hd.length≤6/\(∀ws∈Hd,Shr ws/\1≤ws.length/\ws.length≤4)/\prod (Hd.map fun ws=>(ws.length:Int))≤300/\∀p H1,Sub H H1->H p=none->H1 p=some (.lst ((crs Hd).map prV))->Q (.ref p) H1) vs
theorem rK:iV [.tup l] H Q E=∃Hd:List (List Int),l=Hd.map shT/\Hd.length≤6/\(∀ws∈Hd,Shr ws/\1≤ws.length/\ws.length≤4)/\prod (Hd.map fun ws=>(ws.length:Int))≤300/\∀p H1,Sub H H1->H p=none->H1 p=some (.lst ((crs Hd).map prV))->Q (.ref p) H1:=rfl
theorem jo:hws (Hd++[ws])=dA (hws Hd) ws:=by unfold hws;rw[LS];rfl
theorem iz:hB (Hd++[ws])=hB Hd*ws.sum:=by unfold hB;rw[J9];exact aX
theorem y9(h:∀ws∈Hd,Shr ws/\1≤ws.length/\ws.length≤4):1≤hB Hd/\hB Hd≤28 ^ Hd.length:=by
 refine snoc_ind (P:=fun Hd=>(∀ws∈Hd,Shr ws/\1≤ws.length/\ws.length≤4)->1≤hB Hd/\hB Hd≤28 ^ Hd.length) (fun _=>⟨by decide,by decide⟩) (fun l ws ih h=>?_) Hd h;obtain⟨a,b⟩:=ih fun x hx=>h x (KD _ hx);have c:=(h ws (Kd _ J6)).1;have c1:=c.2.1;have c2:=c.2.2.2.1;rw[iz,J2,LD,Int.pow_succ];exact⟨KQ a (bK (by omega) c1),bR (by omega) (by omega) b c2⟩
theorem jl(h:∀ws∈Hd,Shr ws/\1≤ws.length/\ws.length≤4):((hws Hd).length:Int)=prod (Hd.map fun ws=>(ws.length:Int))/\∀x∈hws Hd,0≤x/\x≤hB Hd:=by
 refine snoc_ind (P:=fun Hd=>(∀ws∈Hd,Shr ws/\1≤ws.length/\ws.length≤4)->((hws Hd).length:Int)=prod (Hd.map fun ws=>(ws.length:Int))/\∀x∈hws Hd,0≤x/\x≤hB Hd) (fun _=>⟨rfl,fun x hx=>?_⟩) (fun l ws ih h=>?_) Hd h
 ·have:x=1:=by simpa[hws]using hx
  subst this;exact⟨by decide,by decide⟩
 ·obtain⟨a,b⟩:=ih fun x hx=>h x (KD _ hx);obtain⟨c,c1,c2⟩:=h ws (Kd _ J6);rw[jo,iz];refine⟨?_,fun x hx=>?_⟩
  ·rw[kq,← a];unfold dA;clear a b ih
   induction hws l with
   | nil=>simp
   | cons x r i2=>rw[LU,J2,JN,Kt,Int.natCast_add,i2,Int.natCast_add,LY];simp;omega
  ·unfold dA at hx;obtain⟨y,hy,hx⟩:=List.mem_flatMap.mp hx;obtain⟨z,hz,rfl⟩:=JU.mp hx;obtain⟨y0,y1⟩:=b y hy;have z0:=c.2.2.1 z hz;have z1:=eV (l:=ws) c.2.2.1 hz;exact⟨Lr y0 z0,bR y0 z0 y1 z1⟩
theorem xE:crs []=[(1,1)]:=by decide +kernel
def fX(p:P2)(y:PV):PV:=match y with | .tup [.int a,.int b]=>prV (shr (p.2*b) (p.1*a)) | _=>.non
theorem yr(hB:0<B)(hS:0<S)(hx:0≤x)(hy:0≤y):shr ((shr B x).2*(shr S y).2) ((shr B x).1*(shr S y).1)=shr (B*S) (x*y):=by
 obtain⟨a0,b0,e1,_⟩:=b7 hB hx;obtain⟨a1,b1,e2,_⟩:=b7 hS hy;refine qa (Lr a0 a1) (Lr hx hy) (L9 (by omega) (by omega)) (L9 hB hS) ?_
 calc (shr B x).1*(shr S y).1*(B*S)=((shr B x).1*B)*((shr S y).1*S):=by simp only[KP,KA,Lf]
  _=x*y*((shr B x).2*(shr S y).2):=by rw[e1,e2];simp only[KP,KA,Lf]
theorem Br(hB:0<B)(hx:0≤x)(h:Shr ws):(((ws.map fun w=>prV (shr ws.sum w)).filter fun _=>true).map (fX (shr B x)))=((ws.map fun y=>x*y).map (shr (B*ws.sum))).map prV:=by
 rw[Kg.mpr (fun _ _=>rfl),JY,JY,JY];refine K1 fun y hy=>?_;show prV (shr ((shr B x).2*(shr ws.sum y).2) ((shr B x).1*(shr ws.sum y).1))=prV (shr (B*ws.sum) (x*y));rw[yr hB h.2.1 hx (h.2.2.1 y hy)]
theorem nY:dA (l++[x]) ws=dA l ws++ws.map fun y=>x*y:=by
 unfold dA;rw[List.flatMap_append];simp
theorem tD(h:ws.length≤4):(dA l ws).length≤l.length*4:=by
 unfold dA
 induction l with
 | nil=>simp
 | cons u r ih=>rw[LU,J2,JN,Kt];omega
theorem hlen{Hd:List (List Int)}(h:∀ws∈Hd,Shr ws/\1≤ws.length/\ws.length≤4)(h3:prod (Hd.map fun ws=>(ws.length:Int))≤300)(i:Nat):(hws (Hd.take i)).length≤300:=by
 have a:=(jl (Hd:=Hd.take i) fun x hx=>h x (KJ hx)).1;have b:=cz (l:=Hd.map fun ws=>((ws.length:Nat):Int)) (fun n hn=>by obtain⟨ws,hws,rfl⟩:=JU.mp hn;have:=h ws hws;omega) i;rw[←List.map_take]at b;omega
theorem gu(h0:0≤i)(h1:i≤28 ^ 6):My.BN 150 i:=by
 have : i.natAbs < 2 ^ 30 := by have : (28 : Nat) ^ 6 < 2 ^ 30 := by decide
                                omega
 exact Ko this (Lg (by decide) (by decide))
theorem j6{Hd:List (List Int)}(h:∀ws∈Hd,Shr ws/\1≤ws.length/\ws.length≤4)(h6:Hd.length≤6)(i:Nat):1≤hB (Hd.take i)/\hB (Hd.take i)≤28 ^ 6:=by
 obtain⟨a,b⟩:=y9 (Hd:=Hd.take i) fun x hx=>h x (KJ hx);have c:(28:Int) ^ (Hd.take i).length≤28 ^ 6:=by
  have:(28:Nat) ^ (Hd.take i).length≤28 ^ 6:=Lg (by decide) (by rw[Kl];omega)
  exact_mod_cast this
 exact⟨a,KQ b c⟩
def aN(Hd:List (List Int)):List Int:=Hd.map fun ws=>(ws.length:Int)
def prs(u:List Int)(Hd:List (List Int))(bs:List P2)(n:Int):List P2:=(bpl bs n).map fun k=>(u.getD k 0,((Hd.getD k []).length:Int))
def rpl(Hd:List (List Int))(bs:List P2)(n:Int):List Int:=(wys (aN Hd)).map fun u=>plc (prs u Hd bs n)
def mV(t:Ad):Sp':=fun vs H Q _=>ap [.R,.I] (fun x n=>∃c ts bs ns Hd Tb,Wr t H x c ts bs ns Hd Tb/\Shp c ts bs/\Wld c ts bs ns Hd Tb/\(0≤n/\n<c)/\∀p H1,Sub H H1->H p=none->H1 p=some (.lst ((rpl Hd bs n).map PV.int))->Q (.ref p) H1) vs
theorem xW:mV t [.ref x,.int n] H Q E=∃c ts bs ns Hd Tb,Wr t H x c ts bs ns Hd Tb/\Shp c ts bs/\Wld c ts bs ns Hd Tb/\(0≤n/\n<c)/\∀p H1,Sub H H1->H p=none->H1 p=some (.lst ((rpl Hd bs n).map PV.int))->Q (.ref p) H1:=rfl
theorem fo:(∀q∈l,0≤q.1/\q.1<q.2)->0≤plc l/\plc l<prod (l.map (·.2)):=by
 refine snoc_ind (P:=fun l=>(∀q∈l,0≤q.1/\q.1<q.2)->0≤plc l/\plc l<prod (l.map (·.2))) (fun _=>⟨by decide,by decide⟩) (fun l q ih h=>?_) l;obtain⟨a,b⟩:=ih fun x hx=>h x (KD _ hx);obtain⟨c,d⟩:=h q (Kd _ J6);rw[dn,J9,Kc,Lc,aX];have e:(plc l+1)*q.2≤prod (l.map (·.2))*q.2:=Ly (by omega) (by omega);rw[LY]at e;have f:=Lr a (show 0≤q.2 by omega);omega
theorem eD(h:∀n∈l,1≤n/\n≤4):1≤prod l/\prod l≤4 ^ l.length:=by
 refine snoc_ind (P:=fun l=>(∀n∈l,1≤n/\n≤4)->1≤prod l/\prod l≤4 ^ l.length) (fun _=>⟨by decide,by decide⟩) (fun l n ih h=>?_) l h;obtain⟨a,b⟩:=ih fun x hx=>h x (KD _ hx);obtain⟨c1,c2⟩:=h n (Kd _ J6);rw[aX,J2,LD,Int.pow_succ];exact⟨KQ a (bK (by omega) c1),bR (by omega) (by omega) b c2⟩
theorem Gj(h:k≤6):(4:Int) ^ k≤4096:=by
 have:(4:Nat) ^ k≤4 ^ 6:=Lg (by decide) h;have e:(4:Int) ^ k≤4 ^ 6:=by exact_mod_cast this
 exact KQ e (by decide)
theorem uZ{l:List P2}(h:∀q∈l,0≤q.1/\q.1<q.2)(h4:∀q∈l,q.2≤4)(h6:l.length≤6)(k:Nat):(plc (l.take k)).natAbs≤1000000:=by
 have a:=fo (l:=l.take k) fun q hq=>h q (KJ hq);have b:=(eD (l:=(l.take k).map (·.2)) fun n hn=>by
  obtain⟨q,hq,rfl⟩:=JU.mp hn;have:=h q (KJ hq);have:=h4 q (KJ hq);omega).2
 have c:=Gj (k:=((l.take k).map (·.2)).length) (by rw[JN,Kl];omega);omega
theorem eB(h:k<Hd.length):(aN Hd)[k]?=some ((Hd.getD k []).length:Int):=by
 unfold aN;rw[JV,JQ,JO h];rfl
theorem kj(hu:u∈wys (aN Hd))(lh:Hd.length=bs.length):∀q∈prs u Hd bs n,0≤q.1/\q.1<q.2:=fun q hq=>by
 obtain⟨k,hk,rfl⟩:=JU.mp hq;have kl:=eG hk;obtain⟨e,m⟩:=cm hu;unfold aN at e;rw[JN]at e;obtain⟨a,b⟩:=m k (u[k]'(by omega)) (JO (by omega));have c:=b _ (eB (by omega));dsimp only;rw[JQ,JO (by omega)];exact⟨a,c⟩
def fI(u:List Int)(y:PV):PV:=match y with | .int k=>.int (u.getD k.toNat 0) | _=>.non
def sr(ts:List P2)(n:Int):List Int:=(ts.filter fun p=>decide (p.2=n)).map (·.1)
def sps(v ns:List Int)(ts:List P2)(n:Int):List P2:=(sr ts n).map fun u=>(v.getD u.toNat 0,ns.getD u.toNat 0)
def pke(v ns:List Int)(Hd:List (List Int))(Tb:List (List (List Int)))(ts bs:List P2)(n:Int):List P2 :=
 (((Tb.getD n.toNat []).drop (plc (sps v ns ts n)*prod (hsz Hd bs n)).toNat).take (prod (hsz Hd bs n)).toNat).map fun ws=>shr ws.sum (ws.getD (v.getD n.toNat 0).toNat 0)
def ke(t:Ad):Sp':=fun vs H Q _=>ap [.R,.I,.T] (fun x n l=>∃c ts bs ns Hd Tb,∃v:List Int,Wr t H x c ts bs ns Hd Tb/\Shp c ts bs/\Wld c ts bs ns Hd Tb/\(0≤n/\n<c)/\l=v.map PV.int/\v∈wys ns/\∀p H1,Sub H H1->H p=none->H1 p=some (.lst ((pke v ns Hd Tb ts bs n).map prV))->Q (.ref p) H1) vs
theorem uO:ke t [.ref x,.int n,.tup l] H Q E=∃c ts bs ns Hd Tb,∃v:List Int,Wr t H x c ts bs ns Hd Tb/\Shp c ts bs/\Wld c ts bs ns Hd Tb/\(0≤n/\n<c)/\l=v.map PV.int/\v∈wys ns/\∀p H1,Sub H H1->H p=none->H1 p=some (.lst ((pke v ns Hd Tb ts bs n).map prV))->Q (.ref p) H1:=rfl
theorem qd(hs:Shp c ts bs)(hn:n<c):sr ts n=cF ts n:=by
 unfold sr cF;exact DM.nU hs.hc.2 hs.gt hs.st hn
theorem kA(hs:Shp c ts bs)(hw:Wld c ts bs ns Hd Tb)(hn:0≤n/\n<c)(hv:v∈wys ns):(∀q∈sps v ns ts n,0≤q.1/\q.1<q.2)/\(∀q∈sps v ns ts n,q.2≤4)/\(sps v ns ts n).length≤6:=by
 have c6:=hs.hc;have ln:=hw.ln;obtain⟨lv,mv⟩:=cm hv;have key:∀q∈sps v ns ts n,(0≤q.1/\q.1<q.2)/\q.2≤4:=fun q hq=>by
  obtain⟨u,hu,rfl⟩:=JU.mp hq;rw[qd hs hn.2]at hu;have b:=iw hu;have h1:u.toNat<v.length:=by omega
  have h2:u.toNat<ns.length:=by omega
  obtain⟨a,d⟩:=mv u.toNat _ (JO h1);have e:=d _ (JO h2);have f:=hw.n4 _ (KC h2);dsimp only;rw[JQ,JO h1,JQ,JO h2];exact⟨⟨a,e⟩,f.2⟩
 refine⟨fun q hq=>(key q hq).1,fun q hq=>(key q hq).2,?_⟩;unfold sps;rw[JN,qd hs hn.2];unfold cF;refine Lv (List.length_filter_le _ _) ?_;rw[JN,Kh];omega
theorem cP(hw:Wld c ts bs ns Hd Tb)(hn:0≤n/\n<c):Tb[n.toNat]?=some (Tb.getD n.toNat [])/\((Tb.getD n.toNat []).length:Int)=prod ((sps v ns ts n).map (·.2))*prod (hsz Hd bs n)/\(Tb.getD n.toNat []).length≤400/\∀ws∈Tb.getD n.toNat [],Shr ws/\(ws.length:Int)=ns.getD n.toNat 0:=by
 have ln:=hw.ln;have lt:=hw.lt;have hg:Tb[n.toNat]?=some (Tb.getD n.toNat []):=by
  rw[JQ,JO (by omega)];rfl
 obtain⟨a,b,d⟩:=hw.tb _ _ hg;rw[Int.toNat_of_nonneg hn.1]at a;have e:hdz ns Hd ts bs n=(sps v ns ts n).map (·.2)++hsz Hd bs n:=by
  unfold hdz ssz sps sr;simp only[JY];rfl
 rw[e,cR]at a;exact⟨hg,a,b,d⟩
theorem og{a k m:Int}(ha:0≤a/\a<k)(hm:1≤m):0≤a*m/\a*m+m≤k*m:=by
 have f:=Lr ha.1 (show 0≤m by omega);have e:(a+1)*m≤k*m:=Ly (by omega) (by omega);rw[LY,Int.one_mul]at e;exact⟨f,e⟩
theorem wR(xs:List PV){a b:Int}(h0:0≤a)(h1:a≤b)(h2:b≤xs.length):eY xs (some a) (some b)=(xs.drop a.toNat).take (b - a).toNat:=by
 unfold eY;have ea:HT.sIx xs.length 0 (some a)=a.toNat:=by
  show(if a<0 then(a+(xs.length:Int)).toNat else min a.toNat xs.length)=_;rw[Kq (by omega)];omega
 have eb:HT.sIx xs.length xs.length (some b)=b.toNat:=by
  show(if b<0 then(b+(xs.length:Int)).toNat else min b.toNat xs.length)=_;rw[Kq (by omega)];omega
 rw[ea,eb];congr 1;omega
theorem zG{ws:List Int}{k:Int}(h0:0≤k)(h1:k<ws.length):atI (ws.map fun w=>prV (shr ws.sum w)) k=some (prV (shr ws.sum (ws.getD k.toNat 0))):=by
 obtain⟨j,rfl⟩:∃j:Nat,k=(j:Int):=⟨k.toNat,by omega⟩;have hj:j<ws.length:=by omega
 rw[cY (by rw[JN];exact hj),Li,Kk,JQ,JO hj];rfl
theorem D7{Tb:List (List (List Int))}(h0:0≤n)(h:Tb[n.toNat]?=some Rw):atI (Tb.map tbT) n=some (tbT Rw):=by
 obtain⟨j,rfl⟩:∃j:Nat,n=(j:Int):=⟨n.toNat,by omega⟩;rw[Kk]at h;obtain⟨hj,e⟩:=JS.mp h;rw[cY (by rw[JN];exact hj),Li,e]
def fE(k:Int)(y:PV):PV:=match y with | .tup l=>(match atI l k with | some z=>z | none=>.non) | _=>.non
theorem zV(h0:0≤k)(h1:k<ws.length):fE k (shT ws)=prV (shr ws.sum (ws.getD k.toNat 0)):=by
 show(match atI (ws.map fun w=>prV (shr ws.sum w)) k with | some z=>z | none=>.non)=_;rw[zG h0 h1]
def byL(Rw:List (List Int)):Int:=Rw.foldl (fun b ws=>(b*ws.sum).fdiv (My.gd b ws.sum)) 1
def ent(Rw:List (List Int))(a k:Int):Int:=(Rw.getD a.toNat []).getD k.toNat 0*(byL Rw).fdiv (Rw.getD a.toNat []).sum
def atN(v u ns:List Int)(Hd:List (List Int))(ts bs:List P2)(n:Int):Int:=plc (sps v ns ts n++prs u Hd bs n)
def hwt(Hd:List (List Int))(u:List Int):Int:=prod ((List.range Hd.length).map fun k=>(Hd.getD k []).getD (u.getD k 0).toNat 0)
def lwt(v u ns:List Int)(Hd:List (List Int))(Tb:List (List (List Int)))(ts bs:List P2)(i:Nat):Int:=hwt Hd u*prod ((List.range i).map fun n:Nat=>ent (Tb.getD n []) (atN v u ns Hd ts bs (n:Int)) (v.getD n 0))
def LBn(Hd:List (List Int))(Tb:List (List (List Int)))(i:Nat):Int:=hB Hd*prod ((List.range i).map fun n=>byL (Tb.getD n []))
def num(v ns:List Int)(Hd:List (List Int))(Tb:List (List (List Int)))(ts bs:List P2):Int:=((wys (aN Hd)).map fun u=>lwt v u ns Hd Tb ts bs ns.length).sum
def bx(ns:List Int)(Hd:List (List Int))(Tb:List (List (List Int)))(ts bs:List P2):List (List Int×PV):=(wys ns).map fun v=>(v,prV (shr (LBn Hd Tb ns.length) (num v ns Hd Tb ts bs)))
def iS(t:Ad)(P:Program)(w:World):Sp':=fun vs H Q _=>ap [.R,.T] (fun x l=>∃c ts bs ns Hd Tb,l=[]/\Wr t H x c ts bs ns Hd Tb/\Shp c ts bs/\Wld c ts bs ns Hd Tb/\∀r H1 ep,Sub H H1->H r=none->H1 r=some (.dI P w (bx ns Hd Tb ts bs) ep)->Q (.ref r) H1) vs
theorem qN:iS t P w [.ref x,.tup l] H Q E=∃c ts bs ns Hd Tb,l=[]/\Wr t H x c ts bs ns Hd Tb/\Shp c ts bs/\Wld c ts bs ns Hd Tb/\∀r H1 ep,Sub H H1->H r=none->H1 r=some (.dI P w (bx ns Hd Tb ts bs) ep)->Q (.ref r) H1:=rfl
theorem rq{b s:Int}(hb:0<b)(hs:0<s):(b*s).fdiv (My.gd b s)=b.fdiv (My.gd b s)*s:=by
 have g:=My.cV b s (by omega);have e:=My.dM (a:=b) (g:=My.gd b s) (by omega) (My.du b s);have e2:b*s=My.gd b s*(b.fdiv (My.gd b s)*s):=by rw[←KA,← e]
 rw[e2,Int.mul_fdiv_cancel_left _ (by omega)]
theorem gx(hL:0<L){Rw:List (List Int)}(h:∀ws∈Rw,0<ws.sum/\ws.sum ∣ L):0<byL Rw/\byL Rw ∣ L/\∀ws∈Rw,ws.sum ∣ byL Rw:=by
 refine snoc_ind (P:=fun Rw=>(∀ws∈Rw,0<ws.sum/\ws.sum ∣ L)->0<byL Rw/\byL Rw ∣ L/\∀ws∈Rw,ws.sum ∣ byL Rw) (fun _=>⟨by decide,Int.one_dvd _,fun ws hw=>by cases hw⟩) (fun l ws ih h=>?_) Rw h;obtain⟨a,b,c⟩:=ih fun x hx=>h x (KD _ hx);obtain⟨s0,s1⟩:=h ws (Kd _ J6);have e:byL (l++[ws])=(byL l).fdiv (My.gd (byL l) ws.sum)*ws.sum:=by
  unfold byL at a ⊢;rw[LS];exact rq a s0
 obtain⟨p1,p2,p3,p4⟩:=uq a s0 b s1;rw[e];refine⟨p1,p4,fun x hx=>?_⟩;rcases K6.mp hx with hx | hx
 ·exact Int.dvd_trans (c x hx) p2
 ·rw[Ka.mp hx];exact p3
def L28:Int:=80313433200
theorem eK(h0:0<s)(h1:s≤28):s ∣ L28:=by
 have key:∀k:Fin 29,0<k.val->((k.val:Nat):Int) ∣ L28:=by decide +kernel
 have:=key ⟨s.toNat,by omega⟩ (by show 0<s.toNat;omega);have e:((s.toNat:Nat):Int)=s:=by omega
 rwa [e]at this
theorem pI:plc (a++b)=plc a*prod (b.map (·.2))+plc b:=by
 refine snoc_ind (P:=fun b=>plc (a++b)=plc a*prod (b.map (·.2))+plc b) (by rw[K4];show plc a=plc a*1+0;omega) (fun l q ih=>?_) b;rw[←List.append_assoc,dn,dn,ih,J9,Kc,Lc,aX,LY,KA];omega
theorem gw:(wys ns).Nodup:=by
 refine snoc_ind (P:=fun ns=>(wys ns).Nodup) (by unfold wys;simp) (fun l n ih=>?_) ns;rw[dt];unfold cI;rw[List.Nodup,List.pairwise_flatMap];refine⟨fun u _=>?_,ih.imp fun {a b} hab x hx y hy=>?_⟩
 ·rw[List.pairwise_map];refine List.nodup_range.imp fun {a b} hab e=>hab ?_;exact Int.ofNat.inj (List.cons.inj (List.append_cancel_left e)).1
 ·obtain⟨i,_,rfl⟩:=JU.mp hx;obtain⟨j,_,rfl⟩:=JU.mp hy;intro e;exact hab (List.append_inj' e rfl).1
theorem nB{α β:Type}{f g:α->List β}{l:List α}(h:∀x∈l,f x=g x):l.flatMap f=l.flatMap g:=by
 induction l with
 | nil=>rfl
 | cons a r ih=>rw[LU,LU,h a J6,ih fun x hx=>h x (J8 _ hx)]
theorem oj:hws Hd=(wys (aN Hd)).map (hwt Hd):=by
 refine snoc_ind (P:=fun Hd=>hws Hd=(wys (aN Hd)).map (hwt Hd)) rfl (fun l ws ih=>?_) Hd;have el:aN (l++[ws])=aN l++[(ws.length:Int)]:=by unfold aN;rw[J9];rfl
 rw[jo,el,dt,ih];unfold dA cI;rw[List.flatMap_map,List.map_flatMap];refine nB fun u hu=>?_;have lu:=(cm hu).1;unfold aN at lu;rw[JN]at lu;rw[JY,Kk];refine List.ext_getElem (by simp) fun j h1 h2=>?_;rw[Li,Li,List.getElem_range];have hj:j<ws.length:=by simpa using h1
 show hwt l u*ws[j]=hwt (l++[ws]) (u++[(j:Int)]);unfold hwt;rw[J2,LD,LL,J9,Kc,Lc,aX];have c1:((List.range l.length).map fun k=>((l++[ws]).getD k []).getD ((u++[(j:Int)]).getD k 0).toNat 0)=(List.range l.length).map fun k=>(l.getD k []).getD (u.getD k 0).toNat 0:=by
  refine K1 fun k hk=>?_;have hk:=KI.mp hk;simp only[JQ];rw[Kz (by omega),Kz (by omega)]
 have c2:((l++[ws]).getD l.length []).getD ((u++[(j:Int)]).getD l.length 0).toNat 0=ws[j]:=by
  simp only[JQ];rw[Kv (JW _),Mb,Kv (by omega),lu,Mb];simp[hj]
 rw[c1,c2]
theorem jm:lwt v u ns Hd Tb ts bs (i+1)=lwt v u ns Hd Tb ts bs i*ent (Tb.getD i []) (atN v u ns Hd ts bs (i:Int)) (v.getD i 0):=by
 unfold lwt;rw[LL,J9,Kc,Lc,aX,KA]
theorem d6:LBn Hd Tb (i+1)=LBn Hd Tb i*byL (Tb.getD i []):=by
 unfold LBn;rw[LL,J9,Kc,Lc,aX,KA]
theorem yE{s w ob by_:Int}(hs:0<s)(hw:0≤w)(hb:s ∣ by_)(ho:(shr s w).2 ∣ ob):tpO ob (shr s w)*by_=w*by_.fdiv s*ob:=by
 have a:tpO ob (shr s w)*s=w*ob:=iA hs hw ho;have e:=My.dM (a:=by_) (g:=s) (by omega) hb
 calc tpO ob (shr s w)*by_=tpO ob (shr s w)*(s*by_.fdiv s):=by rw[←e]
  _=(tpO ob (shr s w)*s)*by_.fdiv s:=by rw[KA]
  _=w*by_.fdiv s*ob:=by rw[a];simp only[KP,KA,Lf]
theorem vf{s w ob:Int}(hs:0<s)(hw:0≤w)(h1:w≤s)(h0:0<ob)(ho:(shr s w).2 ∣ ob):0≤tpO ob (shr s w)/\tpO ob (shr s w)≤ob:=by
 have a:tpO ob (shr s w)*s=w*ob:=iA hs hw ho;have p:0≤tpO ob (shr s w):=by
  obtain⟨x0,y0,_⟩:=b7 hs hw;exact Lr x0 (Int.fdiv_nonneg (by omega) (by omega))
 refine⟨p,?_⟩;have b:w*ob≤s*ob:=Ly h1 (by omega);rw[←a,KP s ob]at b;exact Int.le_of_mul_le_mul_right b hs
structure Tps (v ns:List Int) (Hd:List (List Int)) (Tb:List (List (List Int))) (ts bs:List P2) (i:Nat) (g:List Int→Int) (B:Int):Prop where
 pos:0<B
 le:B≤28 ^ 6*L28 ^ i
 rel:∀u∈wys (aN Hd),g u*LBn Hd Tb i=lwt v u ns Hd Tb ts bs i*B/\0≤g u/\g u≤B
theorem Tps.zero(hw:Wld c ts bs ns Hd Tb)(h6:Hd.length≤6){hb:Int}(b0:0<hb)(b1:hb ∣ hB Hd)(b2:∀p∈crs Hd,p.2 ∣ hb):Tps v ns Hd Tb ts bs 0 (fun u=>tpO hb (shr (hB Hd) (hwt Hd u))) hb:=by
 have k:=j6 hw.h4 h6 Hd.length;rw[Ke]at k;refine⟨b0,?_,fun u hu=>?_⟩
 ·have:=Lj (by omega) b1;rw[Int.pow_zero,Lk];omega
 ·have hx:hwt Hd u∈hws Hd:=by rw[oj];exact JU.mpr ⟨u,hu,rfl⟩
  obtain⟨x0,x1⟩:=(jl hw.h4).2 _ hx;have d:=b2 _ (JU.mpr ⟨_,hx,rfl⟩);obtain⟨t0,t1⟩:=vf (s:=hB Hd) (w:=hwt Hd u) (by omega) x0 x1 b0 d;refine⟨?_,t0,t1⟩;have e:LBn Hd Tb 0=hB Hd:=by unfold LBn;exact Lk _
  have e2:lwt v u ns Hd Tb ts bs 0=hwt Hd u:=by unfold lwt;exact Lk _
  rw[e,e2];exact iA (by omega) x0 d
theorem iB:(prs u Hd bs n).map (·.2)=hsz Hd bs n:=by
 unfold prs hsz;rw[JY];rfl
theorem kY(hw:Wld c ts bs ns Hd Tb)(hn:0≤n/\n<c)(hv:v∈wys ns):0≤v.getD n.toNat 0/\v.getD n.toNat 0<ns.getD n.toNat 0:=by
 have ln:=hw.ln;obtain⟨lv,mv⟩:=cm hv;have h1:n.toNat<v.length:=by omega
 have h2:n.toNat<ns.length:=by omega
 obtain⟨a,d⟩:=mv n.toNat _ (JO h1);have e:=d _ (JO h2);rw[JQ,JO h1,JQ,JO h2];exact⟨a,e⟩
theorem getD_in{ws:List Int}{k:Int}(h0:0≤k)(h1:k<ws.length):ws.getD k.toNat 0∈ws:=by
 rw[JQ,JO (by omega)];exact KC _
section
variable {c n:Int}{ts bs:List P2}{ns v:List Int}{Hd:List (List Int)}{Tb:List (List (List Int))}(hs:Shp c ts bs)(hw:Wld c ts bs ns Hd Tb)(hn:0≤n/\n<c)(hv:v∈wys ns)
include hs hw hn hv
theorem we:(pke v ns Hd Tb ts bs n).length≤400/\∀p∈pke v ns Hd Tb ts bs n,1≤p.2/\p.2 ∣ L28/\My.BN 300 p.1:=by
 obtain⟨tg,tl,t4,tr⟩:=cP (v:=v) hw hn;have vk:=kY hw hn hv;refine⟨?_,fun p hp=>?_⟩
 ·unfold pke;rw[JN,Kl,List.length_drop];omega
 ·unfold pke at hp;obtain⟨ws,hws,rfl⟩:=JU.mp hp;obtain⟨sh,lw⟩:=tr ws (List.mem_of_mem_drop (KJ hws));have hm:=getD_in vk.1 (ws:=ws) (by omega);obtain⟨q1,q2,q3,q4⟩:=Sh.le sh hm;obtain⟨_,_,_,d,_⟩:=b7 sh.2.1 (sh.2.2.1 _ hm);exact⟨q3,Int.dvd_trans d (eK sh.2.1 sh.2.2.2.1),bnS q1 q2⟩
theorem fP(hu:u∈wys (aN Hd)):∃ws,(Tb.getD n.toNat []).getD (atN v u ns Hd ts bs n).toNat []=ws/\ws∈Tb.getD n.toNat []/\(0≤plc (prs u Hd bs n)/\(plc (prs u Hd bs n)).toNat<(pke v ns Hd Tb ts bs n).length)/\(pke v ns Hd Tb ts bs n)[(plc (prs u Hd bs n)).toNat]?=some (shr ws.sum (ws.getD (v.getD n.toNat 0).toNat 0)):=by
 obtain⟨tg,tl,t4,tr⟩:=cP (v:=v) hw hn;obtain⟨sk,s4,ls⟩:=kA hs hw hn hv;have al:=fo sk;have pl:=fo (kj (n:=n) hu hw.lh);have hz:∀x∈hsz Hd bs n,1≤x/\x≤4:=fun x hx=>hw.pos hs.gt n x (Kd _ hx);have rp:=(eD hz).1;have ea:atN v u ns Hd ts bs n=plc (sps v ns ts n)*prod (hsz Hd bs n)+plc (prs u Hd bs n):=by unfold atN;rw[pI,iB]
 rw[iB]at pl;obtain⟨m1,m2⟩:=og (k:=prod ((sps v ns ts n).map (·.2))) al rp;rw[←tl]at m2;unfold pke;rw[ea];generalize plc (sps v ns ts n)*prod (hsz Hd bs n)=a at *;generalize plc (prs u Hd bs n)=k at *;generalize prod (hsz Hd bs n)=rc at *;generalize Tb.getD n.toNat []=Rw at *;have hk:(a+k).toNat<Rw.length:=by omega
 refine⟨Rw[(a+k).toNat],?_,KC hk,⟨pl.1,?_⟩,?_⟩
 ·rw[JQ,JO hk];rfl
 ·rw[JN,Kl,List.length_drop];omega
 ·rw[JV,List.getElem?_take_of_lt (by omega),List.getElem?_drop,show a.toNat+k.toNat=(a+k).toNat by omega,JO hk];rfl
end
def oT(v ns:List Int)(Hd:List (List Int))(Tb:List (List (List Int)))(ts bs:List P2)(n:Int)(ob:Int)(u:List Int):Int:=((pke v ns Hd Tb ts bs n).map (tpO ob)).getD (plc (prs u Hd bs n)).toNat 0
theorem Tps.next(T:Tps v ns Hd Tb ts bs i g B)(hs:Shp c ts bs)(hw:Wld c ts bs ns Hd Tb)(hi:(i:Int)<c)(hv:v∈wys ns)
  (b0:0<ob) (b1:ob ∣ L28) (b2:∀p∈pke v ns Hd Tb ts bs (i:Int),p.2 ∣ ob):Tps v ns Hd Tb ts bs (i+1) (fun u=>g u*oT v ns Hd Tb ts bs (i:Int) ob u) (B*ob):=by
 have hn:0≤((i:Nat):Int)/\((i:Nat):Int)<c:=⟨by omega,hi⟩;have en:((i:Nat):Int).toNat=i:=Kk i;obtain⟨tg,tl,t4,tr⟩:=cP (v:=v) hw hn;have vk:=kY hw hn hv;have L0:0<L28:=by decide
 have bl:=Lj L0 b1;refine⟨L9 T.pos b0,?_,fun u hu=>?_⟩
 ·have pe:L28 ^ (i+1)=L28 ^ i*L28:=Int.pow_succ ..;rw[pe,← KA];exact bR (Lo T.pos) (Lo b0) T.le bl
 ·obtain⟨r1,r2,r3⟩:=T.rel u hu;obtain⟨ws,e1,e2,e3,e4⟩:=fP hs hw hn hv hu;obtain⟨sh,lw⟩:=tr ws e2;have hm:=getD_in vk.1 (ws:=ws) (by omega);have w0:=sh.2.2.1 _ hm;have w1:=eV sh.2.2.1 hm;have eo:oT v ns Hd Tb ts bs (i:Int) ob u=tpO ob (shr ws.sum (ws.getD (v.getD ((i:Nat):Int).toNat 0).toNat 0)):=by
   unfold oT;rw[JQ,JV,e4];rfl
  have dv:=b2 _ (JX e4);obtain⟨t0,t1⟩:=vf sh.2.1 w0 w1 b0 dv;have by_:=gx L0 (Rw:=Tb.getD ((i:Nat):Int).toNat []) fun ws hws=>⟨(tr ws hws).1.2.1,eK (tr ws hws).1.2.1 (tr ws hws).1.2.2.2.1⟩;have eq:=yE (ob:=ob) sh.2.1 w0 (by_.2.2 ws e2) dv;rw[eo];refine⟨?_,Lr r2 t0,bR r2 t0 r3 t1⟩;rw[d6,jm];rw[en]at eq e1 ⊢;have ee:ent (Tb.getD i []) (atN v u ns Hd ts bs (i:Int)) (v.getD i 0)=ws.getD (v.getD i 0).toNat 0*(byL (Tb.getD i [])).fdiv ws.sum:=by
   unfold ent;rw[e1]
  rw[ee];generalize tpO ob (shr ws.sum (ws.getD (v.getD i 0).toNat 0))=tp at *;generalize ws.getD (v.getD i 0).toNat 0*(byL (Tb.getD i [])).fdiv ws.sum=en' at *
  calc g u*tp*(LBn Hd Tb i*byL (Tb.getD i []))=(g u*LBn Hd Tb i)*(tp*byL (Tb.getD i [])):=by simp only[KP,KA,Lf]
   _=lwt v u ns Hd Tb ts bs i*en'*(B*ob):=by rw[r1,eq];simp only[KP,KA,Lf]
theorem wL{l:List (List Int)}{A B:Int}(k:∀u∈l,g u*A=h u*B):(l.map g).sum*A=(l.map h).sum*B:=by
 induction l with
 | nil=>simp
 | cons a r ih=>rw[Kc,Kc,LI,LI,LY,LY,k a J6,ih fun u hu=>k u (J8 _ hu)]
theorem vR{l:List (List Int)}{B:Int}(k:∀u∈l,0≤g u/\g u≤B):0≤(l.map g).sum/\(l.map g).sum≤l.length*B:=by
 induction l with
 | nil=>simp
 | cons a r ih =>
  obtain⟨a1,a2⟩:=k a J6;obtain⟨i1,i2⟩:=ih fun u hu=>k u (J8 _ hu);rw[Kc,LI,Kt,Int.natCast_add,LY];have:((1:Nat):Int)*B=B:=by simp
  omega
theorem xi:(((bN 0 n).filter fun _=>true).map idP)=bN 0 n:=by
 rw[Kg.mpr (fun _ _=>rfl)];exact List.map_id'' (fun _=>rfl) _
theorem zE(h0:0≤i)(h1:i≤28 ^ 6*L28 ^ 6):My.BN 260 i:=by
 have k:(28 ^ 6*L28 ^ 6:Int)<2 ^ 260:=by decide +kernel
 unfold My.BN;have:(i.natAbs:Int)<2 ^ 260:=by omega
 exact_mod_cast this
theorem zM(h:k≤6):L28 ^ k≤L28 ^ 6:=by
 rcases (show k=0∨k=1∨k=2∨k=3∨k=4∨k=5∨k=6 by omega)with rfl | rfl | rfl | rfl | rfl | rfl | rfl<;>decide +kernel
theorem Tps.bn(T:Tps v ns Hd Tb ts bs i g B)(hi:i≤6){x:Int}(h0:0≤x)(h1:x≤B):My.BN 260 x:=by
 have z:(0:Int)≤L28:=by decide
 have a:=bR (a:=(28:Int) ^ 6) (b:=28 ^ 6) (c:=L28 ^ i) (d:=L28 ^ 6) (by decide) (Int.pow_nonneg z) (Ma _) (zM hi);exact zE h0 (KQ h1 (KQ T.le a))
theorem xP:∀{i:Nat} {y:PV},(dU l m)[i]?=some y->∃a b,l[i]?=some a/\m[i]?=some b/\y=.tup [a,b]:=by
 induction l generalizing m with
 | nil=>intro i y h;cases m<;>cases i<;>cases h
 | cons a l ih =>
  intro i y h;cases m with
  | nil=>cases i<;>cases h
  | cons b m =>
   cases i with
   | zero=>cases h;exact⟨a,b,rfl,rfl,rfl⟩
   | succ i=>exact ih h
theorem FN(hs:Shp c ts bs)(hw:Wld c ts bs ns Hd Tb)(hn:0≤n/\n<c)(hv:v∈wys ns){ob:Int}(b0:0<ob)(b2:∀p∈pke v ns Hd Tb ts bs n,p.2 ∣ ob){u:List Int}(hu:u∈wys (aN Hd)):0≤oT v ns Hd Tb ts bs n ob u/\oT v ns Hd Tb ts bs n ob u≤ob:=by
 obtain⟨tg,tl,t4,tr⟩:=cP (v:=v) hw hn;have vk:=kY hw hn hv;obtain⟨ws,e1,e2,e3,e4⟩:=fP hs hw hn hv hu;obtain⟨sh,lw⟩:=tr ws e2;have hm:=getD_in vk.1 (ws:=ws) (by omega);have eo:oT v ns Hd Tb ts bs n ob u=tpO ob (shr ws.sum (ws.getD (v.getD n.toNat 0).toNat 0)):=by
  unfold oT;rw[JQ,JV,e4];rfl
 rw[eo];exact vf sh.2.1 (sh.2.2.1 _ hm) (eV sh.2.2.1 hm) b0 (b2 _ (JX e4))
theorem iu(hw:Wld c ts bs ns Hd Tb):∀{i:Nat},i≤ns.length->0<LBn Hd Tb i:=fun {i}=>by
 induction i with
 | zero =>
  intro _;have e:LBn Hd Tb 0=hB Hd:=by unfold LBn;exact Lk _
  rw[e];have:=(y9 hw.h4).1;omega
 | succ i ih =>
  intro hi;rw[d6];have ln:=hw.ln;have t:=(cP (v:=[]) (n:=(i:Int)) hw ⟨by omega,by omega⟩).2.2.2;rw[Kk]at t;exact L9 (ih (by omega)) (gx (L:=L28) (by decide) fun ws hws=>⟨(t ws hws).1.2.1,eK (t ws hws).1.2.1 (t ws hws).1.2.2.2.1⟩).1
theorem Tps.fin(T:Tps v ns Hd Tb ts bs ns.length g B)(hw:Wld c ts bs ns Hd Tb):0≤((wys (aN Hd)).map g).sum/\0≤num v ns Hd Tb ts bs/\shr B ((wys (aN Hd)).map g).sum=shr (LBn Hd Tb ns.length) (num v ns Hd Tb ts bs):=by
 have L0:=iu hw (JW ns.length);have a:=(vR fun u hu=>(T.rel u hu).2).1;have e:=wL fun u hu=>(T.rel u hu).1;have n0:0≤num v ns Hd Tb ts bs:=by
  refine Int.le_of_mul_le_mul_right (show 0*B≤num v ns Hd Tb ts bs*B from ?_) T.pos;rw[Int.zero_mul];unfold num;rw[←e];exact Lr a (Lo L0)
 exact⟨a,n0,qa a n0 T.pos L0 e⟩
theorem CI(h:0<b):PV.tup [.int (a.fdiv (My.gd a b)),.int (b.fdiv (My.gd a b))]=prV (shr b a):=by
 unfold shr My.jg prV;rw[Kq (by omega)]
def fM(ot:List Int)(y:PV):PV:=match y with | .tup [.int a,.int k]=>.int (a*ot.getD k.toNat 0) | _=>.non
theorem eU(h0:0≤x)(h1:x≤L28):My.BN 300 x:=by
 have : x.natAbs < 2 ^ 40 := by have : L28 < 2 ^ 40 := by decide
                                omega
 exact Ko this (Lg (by decide) (by decide))
def WrC(t:Ad)(P:Program)(w:World)(H:PHp)(x wd:Addr)(c:Int)(ts bs:List P2)(ns:List Int)(Hd:List (List Int))(Tb:List (List (List Int))):Prop:=∃dx y dy,H x=some (.ins t.a_B dx (WF y wd ns Hd Tb))/\H y=some (.ins t.a_A dy (DF c ts bs)) /\
 ((∃ep,H wd=some (.dI P w [] ep))∨∃r ep ep2,H wd=some (.dI P w [([],.ref r)] ep)/\H r=some (.dI P w (bx ns Hd Tb ts bs) ep2)/\r≠wd)
def iJ(t:Ad)(P:Program)(w:World):Sp':=fun vs H Q _=>ap [.R,.T] (fun x l=>∃wd c ts bs ns Hd Tb,l=[]/\WrC t P w H x wd c ts bs ns Hd Tb/\Shp c ts bs/\Wld c ts bs ns Hd Tb/\∀r H1 ep,(∀a u,a≠wd->H a=some u->H1 a=some u)->WrC t P w H1 x wd c ts bs ns Hd Tb->H1 r=some (.dI P w (bx ns Hd Tb ts bs) ep)->Q (.ref r) H1) vs
theorem rW:iJ t P w [.ref x,.tup l] H Q E=(∃wd c ts bs ns Hd Tb,l=[]/\WrC t P w H x wd c ts bs ns Hd Tb/\Shp c ts bs/\Wld c ts bs ns Hd Tb/\∀r H1 ep,(∀a u,a≠wd->H a=some u->H1 a=some u)->WrC t P w H1 x wd c ts bs ns Hd Tb->H1 r=some (.dI P w (bx ns Hd Tb ts bs) ep)->Q (.ref r) H1):=rfl
def pS(t:Ad)(P:Program)(w:World):Sp':=fun vs H Q _=>ap [.R] (fun x=>∃wd c ts bs ns Hd Tb,WrC t P w H x wd c ts bs ns Hd Tb/\Shp c ts bs/\Wld c ts bs ns Hd Tb/\∀r H1 ep,(∀a u,a≠wd->H a=some u->H1 a=some u)->(∀o,WrC t P w (put H1 r o) x wd c ts bs ns Hd Tb)->H r=none->r≠wd->H1 r=some (.dI P w (bx ns Hd Tb ts bs) ep)->Q (.ref r) H1) vs
theorem Au:pS t P w [.ref x] H Q E=(∃wd c ts bs ns Hd Tb,WrC t P w H x wd c ts bs ns Hd Tb/\Shp c ts bs/\Wld c ts bs ns Hd Tb/\∀r H1 ep,(∀a u,a≠wd->H a=some u->H1 a=some u)->(∀o,WrC t P w (put H1 r o) x wd c ts bs ns Hd Tb)->H r=none->r≠wd->H1 r=some (.dI P w (bx ns Hd Tb ts bs) ep)->Q (.ref r) H1):=rfl
def pN(t:Ad)(P:Program)(w:World):Sp':=fun vs H Q _=>ap [.R] (fun x=>∃wd c ts bs ns Hd Tb,WrC t P w H x wd c ts bs ns Hd Tb/\Shp c ts bs/\Wld c ts bs ns Hd Tb/\∀b H1,(∀a u,a≠wd->H a=some u->H1 a=some u)->WrC t P w H1 x wd c ts bs ns Hd Tb->(b=true↔∀v∈wys ns,0<num v ns Hd Tb ts bs)->Q (.bl b) H1) vs
theorem Ay:pN t P w [.ref x] H Q E=(∃wd c ts bs ns Hd Tb,WrC t P w H x wd c ts bs ns Hd Tb/\Shp c ts bs/\Wld c ts bs ns Hd Tb/\∀b H1,(∀a u,a≠wd->H a=some u->H1 a=some u)->WrC t P w H1 x wd c ts bs ns Hd Tb->(b=true↔∀v∈wys ns,0<num v ns Hd Tb ts bs)->Q (.bl b) H1):=rfl
theorem gQ:(bx ns Hd Tb ts bs).map (·.1)=wys ns:=by
 unfold bx;rw[JY];exact List.map_id'' (fun _=>rfl) _
theorem yO(h4:∀n∈ns,1≤n/\n≤4)(h6:ns.length≤6):((wys ns).map (L2.hI P w)).Nodup:=by
 have key:∀u∈wys ns,u.length=ns.length/\(∀x∈u.map Int.toNat,x<4)/\(u.map Int.toNat).map (fun x=>((x:Nat):Int))=u:=fun u hu=>by
  obtain⟨e,m⟩:=cm hu;have b:∀x∈u,0≤x/\x<4:=fun x hx=>by
   obtain⟨k,hk,rfl⟩:=LA hx;obtain⟨a,d⟩:=m k _ (JO hk);have:=d _ (JO (by omega:k<ns.length));have:=h4 _ (KC (by omega:k<ns.length));omega
  refine⟨e,fun x hx=>?_,?_⟩
  ·obtain⟨y,hy,rfl⟩:=JU.mp hx;have:=b y hy;omega
  ·rw[JY];refine(K1 fun x hx=>?_).trans (List.map_id _);have:=b x hx;show((x.toNat:Nat):Int)=x;omega
 rw[List.Nodup,List.pairwise_map];refine gw.imp_of_mem fun {a b} ha hb hab e=>hab ?_;obtain⟨la,ma,ea⟩:=key a ha;obtain⟨lb,mb,eb⟩:=key b hb;rw[←ea,← eb]at e;have:=HT2.CV (P:=P) (w:=w) (by rw[JN,JN,la,lb]) (by rw[JN];omega) ma mb e;rw[←ea,← eb,this]
theorem me(hs:0<s)(ha:0≤a):0<(shr s a).1↔0<a:=by
 obtain⟨x0,y0,e,_⟩:=b7 hs ha;constructor
 ·intro h;have:0<(shr s a).1*s:=L9 h hs;rw[e]at this;rcases Int.lt_or_eq_of_le ha with h | h
  ·exact h
  ·rw[←h,Int.zero_mul]at this;omega
 ·intro h;have:0<a*(shr s a).2:=L9 h (by omega);rw[←e]at this;rcases Int.lt_or_eq_of_le x0 with h | h
  ·exact h
  ·rw[←h,Int.zero_mul]at this;omega
section
variable {H:PHp}{x wd r:Addr}{c:Int}{ts bs:List P2}{ns:List Int}{Hd:List (List Int)}{Tb:List (List (List Int))}
theorem WrC.has(h:WrC t P w H x wd c ts bs ns Hd Tb):∃u,H wd=some u:=by
 obtain⟨_,_,_,_,_,h⟩:=h;rcases h with⟨_,e⟩ |⟨_,_,_,e,_⟩
 ·exact⟨_,e⟩
 ·exact⟨_,e⟩
theorem WrC.up(h:WrC t P w H x wd c ts bs ns Hd Tb)(s:U.Sub H H1):WrC t P w H1 x wd c ts bs ns Hd Tb:=by
 obtain⟨dx,y,dy,hx,hy,h⟩:=h;refine⟨dx,y,dy,s _ _ hx,s _ _ hy,?_⟩;rcases h with⟨ep,e⟩ |⟨r0,ep,ep2,e,e2,n⟩
 ·exact .inl ⟨ep,s _ _ e⟩
 ·exact .inr ⟨r0,ep,ep2,s _ _ e,s _ _ e2,n⟩
theorem WrC.put(h:WrC t P w H x wd c ts bs ns Hd Tb)(hr:H r=none)(o:U.PO):WrC t P w (U.put H r o) x wd c ts bs ns Hd Tb:=h.up ((Sub.refl H).put hr)
end
def fG(y:PV):PV:=match y with | .tup [.int a,_]=>.bl (decide (0<a)) | _=>.non
theorem vT(hs:Shp c ts bs)(hw:Wld c ts bs ns Hd Tb)(hn:0≤n/\n<c)(hv:v∈wys ns){u:List Int}(hu:u∈wys (aN Hd)):0≤ent (Tb.getD n.toNat []) (atN v u ns Hd ts bs n) (v.getD n.toNat 0)/\ent (Tb.getD n.toNat []) (atN v u ns Hd ts bs n) (v.getD n.toNat 0)≤byL (Tb.getD n.toNat []):=by
 obtain⟨tg,tl,t4,tr⟩:=cP (v:=v) hw hn;have vk:=kY hw hn hv;obtain⟨ws,e1,e2,e3,e4⟩:=fP hs hw hn hv hu;obtain⟨sh,lw⟩:=tr ws e2;have hm:=getD_in vk.1 (ws:=ws) (by omega);have w0:=sh.2.2.1 _ hm;have w1:=eV sh.2.2.1 hm;obtain⟨b0,b1,b2⟩:=gx (L:=L28) (by decide) (Rw:=Tb.getD n.toNat []) fun ws hws=>⟨(tr ws hws).1.2.1,eK (tr ws hws).1.2.1 (tr ws hws).1.2.2.2.1⟩;have s0:=sh.2.1;have q0:0≤(byL (Tb.getD n.toNat [])).fdiv ws.sum:=Int.fdiv_nonneg (by omega) (by omega);have e:=My.dM (a:=byL (Tb.getD n.toNat [])) (g:=ws.sum) (by omega) (b2 ws e2);have ee:ent (Tb.getD n.toNat []) (atN v u ns Hd ts bs n) (v.getD n.toNat 0)=ws.getD (v.getD n.toNat 0).toNat 0*(byL (Tb.getD n.toNat [])).fdiv ws.sum:=by
  unfold ent;rw[e1]
 rw[ee];refine⟨Lr w0 q0,?_⟩;have:ws.getD (v.getD n.toNat 0).toNat 0*(byL (Tb.getD n.toNat [])).fdiv ws.sum≤ws.sum*(byL (Tb.getD n.toNat [])).fdiv ws.sum:=Ly w1 q0
 rwa [←e]at this
theorem qk(hw:Wld c ts bs ns Hd Tb)(hn:0≤n/\n<c):0<byL (Tb.getD n.toNat [])/\byL (Tb.getD n.toNat [])≤L28:=by
 obtain⟨tg,tl,t4,tr⟩:=cP (v:=[]) hw hn;obtain⟨b0,b1,b2⟩:=gx (L:=L28) (by decide) (Rw:=Tb.getD n.toNat []) fun ws hws=>⟨(tr ws hws).1.2.1,eK (tr ws hws).1.2.1 (tr ws hws).1.2.2.2.1⟩;exact⟨b0,Lj (by decide) b1⟩
theorem sI(hs:Shp c ts bs)(hw:Wld c ts bs ns Hd Tb)(hv:v∈wys ns){u:List Int}(hu:u∈wys (aN Hd)){i:Nat}:i≤ns.length->(0≤lwt v u ns Hd Tb ts bs i/\lwt v u ns Hd Tb ts bs i≤LBn Hd Tb i)/\LBn Hd Tb i≤28 ^ 6*L28 ^ i:=by
 have ln:=hw.ln
 induction i with
 | zero =>
  intro _;have e:LBn Hd Tb 0=hB Hd:=by unfold LBn;exact Lk _
  have e2:lwt v u ns Hd Tb ts bs 0=hwt Hd u:=by unfold lwt;exact Lk _
  have hx:hwt Hd u∈hws Hd:=by rw[oj];exact JU.mpr ⟨u,hu,rfl⟩
  have k:=j6 hw.h4 (by have:=hs.l6;have:=hw.lh;omega) Hd.length;rw[Ke]at k;rw[e,e2,Int.pow_zero,Lk];exact⟨(jl hw.h4).2 _ hx,k.2⟩
 | succ i ih =>
  intro hi;obtain⟨⟨a,b⟩,d⟩:=ih (by omega);have hn:0≤((i:Nat):Int)/\((i:Nat):Int)<c:=⟨by omega,by omega⟩;obtain⟨x,y⟩:=vT hs hw hn hv hu;obtain⟨p,q⟩:=qk hw hn;rw[Kk]at x y p q;have pe:L28 ^ (i+1)=L28 ^ i*L28:=Int.pow_succ ..;rw[jm,d6,pe,← KA];exact⟨⟨Lr a x,bR a x b y⟩,bR (KQ a b) (Lo p) d q⟩
theorem m9(hs:Shp c ts bs)(hw:Wld c ts bs ns Hd Tb)(hv:v∈wys ns):0≤num v ns Hd Tb ts bs:=by
 unfold num;exact(vR (B:=LBn Hd Tb ns.length) fun u hu=>(sI hs hw hv hu (JW _)).1).1
theorem Cc:((((bx ns Hd Tb ts bs).map (·.2)).filter fun _=>true).map fG)=((wys ns).map fun v=>decide (0<(shr (LBn Hd Tb ns.length) (num v ns Hd Tb ts bs)).1)).map PV.bl:=by
 rw[Kg.mpr (fun _ _=>rfl)];unfold bx;simp only[JY];rfl
def oG(t:Ad)(P:Program)(w:World):Sp':=fun vs H Q _=>ap [.V,.V,.I] (fun u v bits=>∃c tv bv na nb nc,u=PV.tup [.int c,.tup tv,.tup bv]/\v=PV.tup [.tup na,.tup nb,.tup nc]/\(∃ts bs,∃(ns:List Int) (Hd:List (List Int)) (Tb:List (List (List Int))),tv=ts.map prV/\bv=bs.map prV/\na=ns.map PV.int/\nb=Hd.map shT/\nc=Tb.map tbT/\Shp c ts bs/\Wld c ts bs ns Hd Tb/\∀x wd H1,Sub H H1->H x=none->H wd=none->WrC t P w H1 x wd c ts bs ns Hd Tb->Q (.ref x) H1)) vs
theorem A3:oG t P w [.tup [.int c,.tup tv,.tup bv],.tup [.tup na,.tup nb,.tup nc],.int bits] H Q E=(∃ts bs,∃(ns:List Int) (Hd:List (List Int)) (Tb:List (List (List Int))),tv=ts.map prV/\bv=bs.map prV/\na=ns.map PV.int/\nb=Hd.map shT/\nc=Tb.map tbT/\Shp c ts bs/\Wld c ts bs ns Hd Tb/\∀x wd H1,Sub H H1->H x=none->H wd=none->WrC t P w H1 x wd c ts bs ns Hd Tb->Q (.ref x) H1):=by
 refine propext ⟨fun h=>?_,fun h=>?_⟩
 ·obtain⟨_,_,_,_,_,_,e0,e1,h⟩:=h;cases e0;cases e1;exact h
 ·exact⟨_,_,_,_,_,_,rfl,rfl,h⟩
def DY(H H1:PHp)(y:PV)(ws:List Int):Prop:=∃r,y=.ref r/\H r=none/\H1 r=some (.lst (ws.map PV.int))
def vE(p:Addr)(H H1:PHp)(y:PV)(ws:List Int):Prop:=∃r,y=.ref r/\r≠p/\H r=none/\H1 r=some (.lst (ws.map PV.int))
theorem vE.up(k:Kx p H H1){ys:List PV}{Hd:List (List Int)}(h:Paired (vE p H0 H) ys Hd):Paired (vE p H0 H1) ys Hd:=bI (fun _ _ y_=>by obtain⟨r,e,n,f,q⟩:=y_;exact ⟨r,e,n,f,k _ _ n q⟩) h
def oI:Sp':=fun vs H Q _=>ap [.R] (fun a=>∃(ys:List PV) (Rw:List (List Int)),H a=some (.lst ys)/\Paired (cJ H) ys Rw/\(∀ws∈Rw,Shr ws)/\Rw.length≤400/\∀p H1 zs,Sub H H1->H p=none->H1 p=some (.lst zs)->Paired (DY H H1) zs (Rw.map fun ws=>ws.map fun w=>w*(byL Rw).fdiv ws.sum)->Q (.tup [.ref p,.int (byL Rw)]) H1) vs
theorem Ar:oI [.ref a] H Q E=(∃(ys:List PV) (Rw:List (List Int)),H a=some (.lst ys)/\Paired (cJ H) ys Rw/\(∀ws∈Rw,Shr ws)/\Rw.length≤400/\∀p H1 zs,Sub H H1->H p=none->H1 p=some (.lst zs)->Paired (DY H H1) zs (Rw.map fun ws=>ws.map fun w=>w*(byL Rw).fdiv ws.sum)->Q (.tup [.ref p,.int (byL Rw)]) H1):=rfl
def fQ(k:Int)(y:PV):PV:=match y with | .int w=>.int (w*k) | _=>.non
def cH(ns:List Int)(Hd:List (List Int))(Tb:List (List (List Int)))(ts bs:List P2):List (List Int×PV):=(wys ns).map fun v=>(v,PV.int (num v ns Hd Tb ts bs))
def evR(Rw:List (List Int)):List (List Int):=Rw.map fun ws=>ws.map fun w=>w*(byL Rw).fdiv ws.sum
def qG(H:PHp)(z:PV)(Rw:List (List Int)):Prop:=∃r zs,z=.ref r/\H r=some (.lst zs)/\Paired (cJ H) zs (evR Rw)
theorem cJ.up(s:U.Sub H H1){ys:List PV}{Rw:List (List Int)}(h:Paired (cJ H) ys Rw):Paired (cJ H1) ys Rw:=bI (fun _ _ y_=>by obtain⟨r,e,q⟩:=y_;exact ⟨r,e,s _ _ q⟩) h
theorem qG.up(s:U.Sub H H1){ys:List PV}{Tb:List (List (List Int))}(h:Paired (qG H) ys Tb):Paired (qG H1) ys Tb:=bI (fun _ _ y_=>by obtain⟨r,zs,e,q,p⟩:=y_;exact ⟨r,zs,e,s _ _ q,cJ.up s p⟩) h
theorem CC(h:Shr ws):(ws.map fun w=>w*(byL [ws]).fdiv ws.sum)=ws:=by
 have s0:=h.2.1;have e:byL [ws]=ws.sum:=by
  show(1*ws.sum).fdiv (My.gd 1 ws.sum)=ws.sum;have g:My.gd 1 ws.sum=1:=by unfold My.gd;rw[Int.one_gcd];rfl
  rw[g,Int.one_mul,Int.fdiv_one]
 rw[e,Int.fdiv_self (by omega)];refine(K1 fun w _=>Lk w).trans (List.map_id _)
def iH(P:Program)(w:World):Sp':=fun vs H Q _=>ap [.V,.V] (fun u v=>∃c tv bv a b d,u=PV.tup [.int c,.tup tv,.tup bv]/\v=PV.tup [.ref a,.ref b,.ref d]/\(∃(ts bs:List P2) (ns:List Int) (Hd:List (List Int)) (Tb:List (List (List Int))) (ys zs:List PV),tv=ts.map prV/\bv=bs.map prV/\H a=some (.lst (ns.map PV.int))/\H b=some (.lst ys)/\H d=some (.lst zs)/\Paired (cJ H) ys Hd/\Paired (jx H) zs Tb/\Shp c ts bs/\Wld c ts bs ns Hd Tb/\∀r H1 ep,Sub H H1->H r=none->H1 r=some (.dI P w (cH ns Hd Tb ts bs) ep)->Q (.tup [.ref r,.int (LBn Hd Tb ns.length)]) H1)) vs
theorem rf:iH P w [.tup [.int c,.tup tv,.tup bv],.tup [.ref a,.ref b,.ref d]] H Q E=(∃(ts bs:List P2) (ns:List Int) (Hd:List (List Int)) (Tb:List (List (List Int))) (ys zs:List PV),tv=ts.map prV/\bv=bs.map prV/\H a=some (.lst (ns.map PV.int))/\H b=some (.lst ys)/\H d=some (.lst zs)/\Paired (cJ H) ys Hd/\Paired (jx H) zs Tb/\Shp c ts bs/\Wld c ts bs ns Hd Tb/\∀r H1 ep,Sub H H1->H r=none->H1 r=some (.dI P w (cH ns Hd Tb ts bs) ep)->Q (.tup [.ref r,.int (LBn Hd Tb ns.length)]) H1):=by
 refine propext ⟨fun h=>?_,fun h=>?_⟩
 ·obtain⟨_,_,_,_,_,_,e0,e1,h⟩:=h;cases e0;cases e1;exact h
 ·exact⟨_,_,_,_,_,_,rfl,rfl,h⟩
def qK(p:Addr)(H:PHp)(z:PV)(Rw:List (List Int)):Prop:=∃r zs,z=.ref r/\r≠p/\H r=some (.lst zs)/\Paired (fx p H) zs (evR Rw)
theorem qK.up(k:Kx p H H1){ys:List PV}{Tb:List (List (List Int))}(h:Paired (qK p H) ys Tb):Paired (qK p H1) ys Tb:=bI (fun _ _ y_=>by obtain⟨r,zs,e,n,q,w⟩:=y_;exact ⟨r,zs,e,n,k _ _ n q,fx.up k w⟩) h
theorem mz:LBn Hd Tb 0=hB Hd:=by unfold LBn;exact Lk _
theorem ox(hs:Shp c ts bs)(hw:Wld c ts bs ns Hd Tb){i:Nat}:i≤ns.length->0<LBn Hd Tb i/\My.BN 260 (LBn Hd Tb i):=by
 intro hi;have ln:=hw.ln;have c6:=hs.hc;have key:∀{i:Nat},i≤ns.length->LBn Hd Tb i≤28 ^ 6*L28 ^ i:=fun {i}=>by
  induction i with
  | zero =>
   intro _;have k:=j6 hw.h4 (by have:=hs.l6;have:=hw.lh;omega) Hd.length;rw[Ke]at k;rw[mz,Int.pow_zero,Lk];exact k.2
  | succ i ih =>
   intro hi;have hn:0≤((i:Nat):Int)/\((i:Nat):Int)<c:=⟨by omega,by omega⟩;obtain⟨p,q⟩:=qk hw hn;rw[Kk]at p q;have pe:L28 ^ (i+1)=L28 ^ i*L28:=Int.pow_succ ..;rw[d6,pe,← KA];exact bR (Lo (iu hw (by omega))) (Lo p) (ih (by omega)) q
 have z:(0:Int)≤L28:=by decide
 have a:=bR (a:=(28:Int) ^ 6) (b:=28 ^ 6) (c:=L28 ^ i) (d:=L28 ^ 6) (by decide) (Int.pow_nonneg z) (Ma _) (zM (by omega));have p:=iu hw hi;exact⟨p,zE (Lo p) (KQ (key hi) a)⟩
def HdE(N:Addr->Prop)(ts bs:List P2)(H:PHp)(us:List PV):Prop:=∀(k:Nat) z,us[k]?=some z->∃p q,z=.tup [.ref p,.ref q]/\¬N p/\¬N q/\H p=some (.lst ((cF ts (k:Int)).map PV.int))/\H q=some (.lst ((bpl bs (k:Int)).map fun j=>PV.int (j:Nat)))
theorem HdE.up(h:HdE N ts bs H us)(k:∀a u,¬N a->H a=some u->¬N' a/\H1 a=some u):HdE N' ts bs H1 us:=fun i z e=>by
 obtain⟨p,q,e1,n1,n2,q1,q2⟩:=h i z e;obtain⟨a1,a2⟩:=k p _ n1 q1;obtain⟨b1,b2⟩:=k q _ n2 q2;exact⟨p,q,e1,a1,b1,a2,b2⟩
theorem rM(h:v∉l.map (·.1)):gH (l++[(v,x)]) v y=l++[(v,y)]:=by
 unfold gH;rw[Kw (by rw[J9];exact Kd _ J6),J9];congr 1
 ·refine(K1 fun p hp=>?_).trans (List.map_id _);rw[Kq (fun e=>h (JU.mpr ⟨p,hp,e⟩))];rfl
 ·show [if v=v then(v,y)else(v,x)]=_;rw[Kw rfl]
theorem vB(h:v∉l.map (·.1)):gH l v y=l++[(v,y)]:=by
 unfold gH;rw[Kq h]
theorem v8(h:v∉l.map (·.1)):lk (l++[(v,x)]) v=some x:=by
 unfold lk;rw[List.find?_append,List.find?_eq_none.mpr (fun p hp=>by simpa using fun e=>h (JU.mpr ⟨p,hp,e⟩))];simp
theorem gi:(cH ns Hd Tb ts bs).map (·.1)=wys ns:=by
 unfold cH;rw[JY];exact List.map_id'' (fun _=>rfl) _
theorem v9{kvs:List (List Int×PV)}(ek:kvs.map (·.1)=wys ns){j:Nat}{v:List Int}(hg:(wys ns)[j]?=some v):v∉(kvs.take j).map (·.1):=fun hm=>by
 rw[List.map_take,ek]at hm;obtain⟨i',hi',ei'⟩:=LA hm;rw[Kl]at hi';rw[List.getElem_take]at ei';have:=(List.getElem_inj gw).mp (ei'.trans (JS.mp hg).2.symm);omega
theorem wK(h:∀x∈l,0≤x/\x≤28):0≤prod l/\prod l≤28 ^ l.length:=by
 refine snoc_ind (P:=fun l=>(∀x∈l,0≤x/\x≤28)->0≤prod l/\prod l≤28 ^ l.length) (fun _=>⟨by decide,by decide⟩) (fun l n ih h=>?_) l h;obtain⟨a,b⟩:=ih fun x hx=>h x (KD _ hx);obtain⟨c1,c2⟩:=h n (Kd _ J6);rw[aX,J2,LD,Int.pow_succ];exact⟨Lr a c1,bR a c1 b c2⟩
theorem vM{us:List PV}{Hd:List (List Int)}(h:Paired R us Hd){k:Nat}(hk:k<Hd.length):∃y,atI us (k:Nat)=some y/\R y (Hd.getD k []):=by
 have l:=bH h;have hu:k<us.length:=by omega
 refine⟨us[k],cY hu,?_⟩;have:=cK h hu hk
 rwa [JQ,JO hk]
theorem AY{us:List PV}{Tb:List (List (List Int))}(h:Paired R us Tb){k:Nat}(hk:k<Tb.length):∃y,atI us (k:Nat)=some y/\R y (Tb.getD k []):=by
 have l:=bH h;have hu:k<us.length:=by omega
 refine⟨us[k],cY hu,?_⟩;have:=cK h hu hk
 rwa [JQ,JO hk]
def part(Hd:List (List Int))(u:List Int)(k:Nat):Int:=prod ((List.range k).map fun q=>(Hd.getD q []).getD (u.getD q 0).toNat 0)
theorem qE:part Hd u (k+1)=part Hd u k*(Hd.getD k []).getD (u.getD k 0).toNat 0:=by
 unfold part;rw[LL,J9,Kc,Lc,aX]
theorem CP(hu:u∈wys (aN Hd)){k:Nat}(hk:k<Hd.length):0≤u.getD k 0/\u.getD k 0<((Hd.getD k []).length:Int):=by
 obtain⟨e,m⟩:=cm hu;unfold aN at e;rw[JN]at e;obtain⟨a,b⟩:=m k (u[k]'(by omega)) (JO (by omega));have c:=b _ (eB hk);rw[JQ,JO (by omega)];exact⟨a,c⟩
theorem wU(h:∀ws∈Hd,Shr ws/\1≤ws.length/\ws.length≤4)(hu:u∈wys (aN Hd)){k:Nat}(hk:k≤Hd.length)(h6:Hd.length≤6):0≤part Hd u k/\part Hd u k≤28 ^ 6:=by
 have a:=wK (l:=(List.range k).map fun q=>(Hd.getD q []).getD (u.getD q 0).toNat 0) fun x hx=>by
  obtain⟨q,hq,rfl⟩:=JU.mp hx;have hq:=KI.mp hq;have hm:Hd.getD q []∈Hd:=by
   rw[JQ,JO (by omega)];exact KC _
  have sh:=(h _ hm).1;have ua:=CP hu (k:=q) (by omega);have gm:=getD_in (ws:=Hd.getD q []) ua.1 ua.2;have:=eV sh.2.2.1 gm;have:=sh.2.2.1 _ gm;have:=sh.2.2.2.1;omega
 rw[JN,Kh]at a;have b:(28:Int) ^ k≤28 ^ 6:=by
  have:(28:Nat) ^ k≤28 ^ 6:=Lg (by decide) (by omega)
  exact_mod_cast this
 exact⟨a.1,KQ a.2 b⟩
theorem vS:lwt v u ns Hd Tb ts bs 0=part Hd u Hd.length:=by unfold lwt;exact Lk _
theorem kI{α:Type}{l:List α}{x:α}(h:l[m]?=some x):l.take (m+1)=l.take m++[x]:=by rw[Kr,h];rfl
theorem Bv(hs:Shp c ts bs)(hn:n<c):sps v ns ts n=(cF ts n).map fun u=>(v.getD u.toNat 0,ns.getD u.toNat 0):=by
 unfold sps;rw[qd hs hn]
theorem Bh(h0:0≤a)(h1:a<Rw.length)(k0:0≤k)(k1:k<((Rw.getD a.toNat []).length:Int)):(evR Rw).getD a.toNat []=(Rw.getD a.toNat []).map (fun w=>w*(byL Rw).fdiv (Rw.getD a.toNat []).sum)/\((evR Rw).getD a.toNat []).getD k.toNat 0=ent Rw a k:=by
 have e:(evR Rw).getD a.toNat []=(Rw.getD a.toNat []).map (fun w=>w*(byL Rw).fdiv (Rw.getD a.toNat []).sum):=by
  unfold evR;simp only[JQ];rw[JV,JO (by omega)];rfl
 refine⟨e,?_⟩;rw[e];unfold ent;generalize Rw.getD a.toNat []=ws at *;simp only[JQ];rw[JV,JO (by omega)];rfl
theorem Gq(hs:Shp c ts bs)(hw:Wld c ts bs ns Hd Tb)(hn:0≤n/\n<c)(hv:v∈wys ns){u:List Int}(hu:u∈wys (aN Hd)):0≤atN v u ns Hd ts bs n/\atN v u ns Hd ts bs n<((Tb.getD n.toNat []).length:Int):=by
 obtain⟨tg,tl,t4,tr⟩:=cP (v:=v) hw hn;obtain⟨sk,s4,ls⟩:=kA hs hw hn hv;have al:=fo sk;have pl:=fo (kj (n:=n) hu hw.lh);have hz:∀x∈hsz Hd bs n,1≤x/\x≤4:=fun x hx=>hw.pos hs.gt n x (Kd _ hx);have rp:=(eD hz).1;have ea:atN v u ns Hd ts bs n=plc (sps v ns ts n)*prod (hsz Hd bs n)+plc (prs u Hd bs n):=by unfold atN;rw[pI,iB]
 rw[iB]at pl;obtain⟨m1,m2⟩:=og (k:=prod ((sps v ns ts n).map (·.2))) al rp;rw[←tl]at m2;rw[ea];omega
theorem Al(hs:Shp c ts bs)(hw:Wld c ts bs ns Hd Tb)(hn:0≤n/\n<c)(hv:v∈wys ns){u:List Int}(hu:u∈wys (aN Hd))(k:Nat):0≤plc ((sps v ns ts n++prs u Hd bs n).take k)/\plc ((sps v ns ts n++prs u Hd bs n).take k)≤4 ^ 12:=by
 obtain⟨sk,s4,ls⟩:=kA hs hw hn hv;have al:∀q∈sps v ns ts n++prs u Hd bs n,(0≤q.1/\q.1<q.2)/\q.2≤4:=fun q hq=>by
  rcases K6.mp hq with hq | hq
  ·exact⟨sk q hq,s4 q hq⟩
  ·refine⟨kj hu hw.lh q hq,?_⟩;obtain⟨k,hk,rfl⟩:=JU.mp hq;have kl:=eG hk;have:=eB (Hd:=Hd) (k:=k) (by have:=hw.lh;omega);have hm:=JX this;obtain⟨ws,hws,e⟩:=JU.mp hm;have:=hw.h4 ws hws;dsimp only;omega
 have a:=fo (l:=(sps v ns ts n++prs u Hd bs n).take k) fun q hq=>(al q (KJ hq)).1;have b:=(eD (l:=((sps v ns ts n++prs u Hd bs n).take k).map (·.2)) fun n hn=>by
  obtain⟨q,hq,rfl⟩:=JU.mp hn;have:=al q (KJ hq);omega).2
 have c:(4:Int) ^ (((sps v ns ts n++prs u Hd bs n).take k).map (·.2)).length≤4 ^ 12:=by
  have:(4:Nat) ^ (((sps v ns ts n++prs u Hd bs n).take k).map (·.2)).length≤4 ^ 12:=Lg (by decide) (by
   rw[JN,Kl,J2];have lp:(prs u Hd bs n).length≤6:=by unfold prs;rw[JN];exact Lv eI hs.l6
   omega)
  exact_mod_cast this
 omega
theorem DB(h0:0≤i)(h1:i≤4 ^ 12):Fit i:=by
 have p:(4:Int) ^ 12≤100000000:=by decide
 have r:(100000000:Nat)<2 ^ 64:=by decide
 exact fA (by omega)
def mU:Sp':=fun vs H Q _=>ap [.B,.B] (fun a b=>a=b/\Q (.bl true) H) vs
def jn:Sp':=fun vs H Q E=>eO 1 vs H Q E∨mU vs H Q E
theorem xg:jn [.bl a,.bl b] H Q E=(a=b/\Q (.bl true) H):=by
 refine propext ⟨fun h=>?_,fun h=>.inr h⟩;rcases h with h | h
 ·exact(h.1:False).elim
 ·exact h
theorem pC:jn [.tup l,.tup m] H Q E=(kz H 1 (.tup l) (.tup m)/\Q (.bl true) H):=by
 refine propext ⟨fun h=>?_,fun h=>.inl h⟩;rcases h with h | h
 ·exact h
 ·exact(h:False).elim
theorem Gr(F:aM P w K mg base CX k f fd ps sp1)(G:aM P w K mg base CX k f fd ps sp2):aM P w K mg base CX k f fd ps (fun vs H Q E=>sp1 vs H Q E∨sp2 vs H Q E) :=
 ⟨fun vs H Q E h=>by
  obtain⟨vs',H',Q',E',a,b,c,d,e⟩:=h;rcases c with c | c
  ·exact F.len vs H Q E ⟨vs',H',Q',E',a,b,c,d,e⟩
  ·exact G.len vs H Q E ⟨vs',H',Q',E',a,b,c,d,e⟩,fun A outer s H args us vs Q E hr he hb hv h=>by
  obtain⟨vs',H',Q',E',a,b,c,d,e⟩:=h;rcases c with c | c
  ·exact F.run A outer s H args us vs Q E hr he hb hv ⟨vs',H',Q',E',a,b,c,d,e⟩
  ·exact G.run A outer s H args us vs Q E hr he hb hv ⟨vs',H',Q',E',a,b,c,d,e⟩⟩
def kZ(t:Ad)(P:Program)(w:World):Sp':=fun vs H Q _=>ap [.R,.R,.I] (fun x e B=>∃wd c ts bs ns Hd Tb ep,WrC t P w H x wd c ts bs ns Hd Tb/\Shp c ts bs/\Wld c ts bs ns Hd Tb/\H e=some (.dI P w (cH ns Hd Tb ts bs) ep)/\e≠wd/\B=LBn Hd Tb ns.length/\∀H1,(∀a u,a≠wd->H a=some u->H1 a=some u)->WrC t P w H1 x wd c ts bs ns Hd Tb->Q (.bl true) H1) vs
theorem wQ:kZ t P w [.ref x,.ref e,.int B] H Q E=(∃wd c ts bs ns Hd Tb ep,WrC t P w H x wd c ts bs ns Hd Tb/\Shp c ts bs/\Wld c ts bs ns Hd Tb/\H e=some (.dI P w (cH ns Hd Tb ts bs) ep)/\e≠wd/\B=LBn Hd Tb ns.length/\∀H1,(∀a u,a≠wd->H a=some u->H1 a=some u)->WrC t P w H1 x wd c ts bs ns Hd Tb->Q (.bl true) H1):=rfl
theorem uJ{f:List Int->PV}{l:List (List Int)}(h:v∈l):lk (l.map fun v=>(v,f v)) v=some (f v):=by
 unfold lk
 induction l with
 | nil=>cases h
 | cons a r ih =>
  rw[Kc,Lu];by_cases e:a=v
  ·subst e;simp
  ·rw[show decide ((a,f a).1=v)=false from Ld e];exact ih ((J7.mp h).resolve_left fun z=>e z.symm)
theorem tG{l:List Int}:d8 (l.map PV.int) (l.map PV.int)=true:=by
 induction l with
 | nil=>rfl
 | cons a r ih=>rw[Kc];simp only[d8,deq,LH,Bool.true_and];exact ih
theorem t9{l:List (List Int)}:d8 (l.map tI) (l.map tI)=true:=by
 induction l with
 | nil=>rfl
 | cons a r ih =>
  rw[Kc];have e:deq (tI a) (tI a)=true:=by unfold tI;simp only[deq];exact tG
  simp only[d8,e,Bool.true_and];exact ih
theorem l9{l:List (List Int)}:(l.map tI).all (flat 8)=true:=by
 rw[Ky];intro y hy;obtain⟨v,_,rfl⟩:=JU.mp hy;unfold tI;simp only[flat];rw[Ky];intro z hz;obtain⟨k,_,rfl⟩:=JU.mp hz;rfl
theorem jx.up(s:U.Sub H H1){ys:List PV}{Tb:List (List (List Int))}(h:Paired (jx H) ys Tb):Paired (jx H1) ys Tb:=bI (fun _ _ y_=>by obtain⟨r,zs,e,q,p⟩:=y_;exact ⟨r,zs,e,s _ _ q,cJ.up s p⟩) h
theorem wtb(hw:Wld c ts bs ns Hd Tb):∀Rw∈Tb,Rw.length≤400/\∀ws∈Rw,Shr ws:=fun Rw hR=>by
 obtain⟨k,hk,rfl⟩:=LA hR;have tb:=hw.tb k _ (JO hk);exact⟨tb.2.1,fun ws hws=>(tb.2.2 ws hws).1⟩
abbrev nl0:List Str:=["pair","count"]
theorem nn0:List.Nodup nl0:=by decide +kernel
abbrev nl1:List Str:=["tie"]
theorem nn1:List.Nodup nl1:=by decide +kernel
abbrev nl2:List Str:=["bow"]
theorem nn2:List.Nodup nl2:=by decide +kernel
abbrev nl3:List Str:=["tie","name"]
theorem nn3:List.Nodup nl3:=by decide +kernel
abbrev nl4:List Str:=["part","bottom"]
theorem nn4:List.Nodup nl4:=by decide +kernel
abbrev nl5:List Str:=["part"]
theorem nn5:List.Nodup nl5:=by decide +kernel
abbrev nl6:List Str:=["size"]
theorem nn6:List.Nodup nl6:=by decide +kernel
abbrev nl7:List Str:=["shares"]
theorem nn7:List.Nodup nl7:=by decide +kernel
abbrev nl8:List Str:=["place","bow","name"]
theorem nn8:List.Nodup nl8:=by decide +kernel
abbrev nl9:List Str:=["place","hidden"]
theorem nn9:List.Nodup nl9:=by decide +kernel
abbrev E7:List Str:=["source","sizes"]
theorem IK:List.Nodup E7:=by decide +kernel
abbrev FW:List Str:=["row","size"]
theorem GC:List.Nodup FW:=by decide +kernel
abbrev DX:List Str:=["_law_weight","_law_weights_here"]
theorem Jo:List.Nodup DX:=by decide +kernel
abbrev Gm:List Str:=["_law_k","_law_name","_law_shape"]
theorem II:List.Nodup Gm:=by decide +kernel
abbrev Gi:List Str:=["_law_u","_law_name","_law_shape"]
theorem HK:List.Nodup Gi:=by decide +kernel
abbrev DP:List Str:=["_law_k","_law_size","_law_full","_law_xs"]
theorem Ht:List.Nodup DP:=by decide +kernel
abbrev Eb:List Str:=["_law_table"]
theorem Je:List.Nodup Eb:=by decide +kernel
abbrev yH:List Str:=["_law_row"]
theorem A1:List.Nodup yH:=by decide +kernel
abbrev Gv:List Str:=["name","drawing","sizes","hidden"]
theorem Jd:List.Nodup Gv:=by decide +kernel
abbrev Fo:List Str:=["table","count","size"]
theorem Bm:List.Nodup Fo:=by decide +kernel
abbrev FF:List Str:=["table"]
theorem GL:List.Nodup FF:=by decide +kernel
abbrev Fs:List Str:=["row"]
theorem GO:List.Nodup Fs:=by decide +kernel
abbrev D6:List Str:=["_law_name"]
theorem GG:List.Nodup D6:=by decide +kernel
abbrev BM:List Str:=["_law_row","_law_bits"]
theorem Dn:List.Nodup BM:=by decide +kernel
abbrev DG:List Str:=["value","way"]
theorem Hj:List.Nodup DG:=by decide +kernel
abbrev EU:List Str:=["_law_value","_law_row"]
theorem JE:List.Nodup EU:=by decide +kernel
abbrev EX:List Str:=["share","weight"]
theorem Jv:List.Nodup EX:=by decide +kernel
abbrev Fn:List Str:=["way","sizes","places"]
theorem IG:List.Nodup Fn:=by decide +kernel
abbrev Es:List Str:=["place","way"]
theorem Jg:List.Nodup Es:=by decide +kernel
abbrev F4:List Str:=["source","values"]
theorem Iq:List.Nodup F4:=by decide +kernel
abbrev FK:List Str:=["source","world"]
theorem Gz:List.Nodup FK:=by decide +kernel
abbrev DQ:List Str:=["row","values","name"]
theorem Hz:List.Nodup DQ:=by decide +kernel
abbrev Ds:List Str:=["name","setnames"]
theorem Jz:List.Nodup Ds:=by decide +kernel
abbrev DC:List Str:=["name","world"]
theorem G3:List.Nodup DC:=by decide +kernel
abbrev EM:List Str:=["top","pick","own_tops"]
theorem Gn:List.Nodup EM:=by decide +kernel
abbrev EE:List Str:=["entry"]
theorem Ja:List.Nodup EE:=by decide +kernel
abbrev Ee:List Str:=["_law_row","_law_by"]
theorem IH:List.Nodup Ee:=by decide +kernel
abbrev DD:List Str:=["_law_weight","_law_by","_law_row"]
theorem HN:List.Nodup DD:=by decide +kernel
abbrev Gb:List Str:=["_law_name","_law_shape"]
theorem Hw:List.Nodup Gb:=by decide +kernel
end
section
variable {P:Program}{w:World}{K:LFr}{mg:Str->Option Value}{base:Heap}{t:Ad}
local macro_rules | `(tactic| ac_rfl) => do
 let l:=("Hg Jp GN G1 Ju G6 Jq F7 DT uOp uI uI0 uIx u7 uC yy mr bZ EL zS zu jR oC Dq uOr EI zf JJ y8 uIf uUn tY l8 En A8 uCB Fe F6 Ed zk ug Dc x9 vJ uy fJ CB qi Fi Jm sy HH mL Gp zO Hu Ia JI oH IW Ik Ha sX JB CJ Hh uEn Ii mL Gp FI G9 Hv uZ3 Hr tX EW sH w_inI zD zo C1 yg x6 xo sE zL FJ DS AB FC Dm DU GW oJ Hm vJ DK Ea IX Fh lW GQ BH zi Ew DA BT.sub BT.nm HZ Hi GZ ends BA EG gE flat deq d8 w_V w_B w_I w_O HC Jl IJ GS HE Gy Jf IL Jn Gx GH IP HM GP IE Ie Jc HB Hb Hx IB GR Ij G8 GD w_1 FV Jx Hn Jw JF IV JH HS Hq Js Er G7 Gh Jj Ic HQ D5 Dz Kc Lc Kt List.length_nil Nat.reduceAdd Nat.reduceSub Nat.add_sub_cancel Mb Nat.zero_add List.replicate_succ List.replicate_zero List.cons_append List.nil_append K4 List.getElem?_cons_zero List.getElem?_cons_succ KL KH Bj Cv List.all_cons List.all_nil Bool.and_self Bool.and_true Bool.true_and Bool.not_true Bool.not_false true_and and_true af Option.some.injEq PO.lst.injEq exists_eq_left' Int.zero_add uK nD zX nO qM CM xR yQ BL rB C5 vz CA nX AV Aq yq rh u6 uT rX xB tQ uh E5 xq wt FH qY wx sT C8 BG xk Ba uw xb w8 vO Cy wA BV wX qA wj rK xW uO qN rW Au Ay A3 Ar rf xg pC wQ".splitOn " ").toArray.map fun x=>Lean.mkIdent x.toName
 `(tactic| simp only [$[$l:ident],*])
local macro_rules | `(tactic| left) => `(tactic| (refine ak fun $(Lean.mkIdent `R) $(Lean.mkIdent `hR)=>?_;ac_rfl))
local macro_rules | `(tactic| right) => `(tactic| (subst $(Lean.mkIdent `hR);left))
local macro_rules | `(tactic| exists $k, $f, $g, $t) => `(tactic| (refine okU (k:=$k) $f $g (fun _ _ _ _ h=>bo h) (fun $(Lean.mkIdent `cdv) $(Lean.mkIdent `A) $(Lean.mkIdent `outer) $(Lean.mkIdent `s) $(Lean.mkIdent `H) $(Lean.mkIdent `E) $(Lean.mkIdent `B) $(Lean.mkIdent `hr)=>⟨_,$t,?_⟩);intro $(Lean.mkIdent `vs):term $(Lean.mkIdent `H):term $(Lean.mkIdent `Q):term $(Lean.mkIdent `E):term $(Lean.mkIdent `h):term;replace $(Lean.mkIdent `h):ident:=bh $(Lean.mkIdent `h)))
theorem HW(T:Tx K mg t):aM P w K mg base CX0 1 t.a_zV t.d_zV ["count","pair"] jC:=by
 exists 0,T.F_zV,F3,(ao (ax (bz (bc (bG hr.units) bF (ar az bu rfl T.b_len Ku (aa (qv 1) ab)) aq (ba _)) (bP (rP jN jI fU fy fU fy aq (iX (qv 1) aq) (iX (qv 1) aq) (qv 0))))))
 obtain⟨c,_,rfl,w0,_,rfl,rfl,h⟩:=h;obtain⟨u,v,rfl,h⟩:=h;obtain⟨⟨h1,h2,h3⟩,h⟩:=h;ac_rfl;exact a8 rfl (a8 (by simpa using h1) (a8 (by simpa using h2) ⟨H,Sub.refl _,by rw[Lq h3];exact h⟩))
theorem FU(T:Tx K mg t):aM P w K mg base CX0 2 t.a_zH t.d_zH ["count","pairs"] gT:=by
 exists 1,T.F_zH,F2,(ao (ax (bz (ar (c9 rfl) fh rfl T.b_all boot_all (aa (cE nl0 1 [0] (cA wC) (aI (qv 1)) (fun _ _ _ _=>⟨(gN 0 nn0),aL,(au (HW T) hr.mo rfl T.g_zV T.F_zV.kp T.B_zV (aa (qv 1) (aa (qv 0) ab)))⟩)) ab)) (bP (bc (bG hr.units) bF (oz rfl hr.units rfl T.b_len rfl T.b_set boot_set (qv 1)) (ar az bu rfl T.b_len Ku (aa (qv 1) ab)) (ba _))))))
 obtain⟨c,_,rfl,a,_,rfl,rfl,h⟩:=h;obtain⟨ps,ha,gd,hc,h⟩:=h;have h15:=gd.len hc;ac_rfl;refine⟨_,ha,fun acc hacc=>?_⟩;have hna:=aj ha hacc;refine aA (fun _=>.bl true) (fun _=>true) (fun σ=>∃x,σ=[x,some (.int c)]) (by rw[JN];omega) (fun l=>(ag hna).trans ha) ?step ?fin ⟨_,rfl⟩
 case step =>
  rintro y hy l σ R ⟨x,rfl⟩ hl kT kF;obtain⟨p,hp,rfl⟩:=JU.mp hy;have b:=gd.lo p hp;unfold prV;ac_rfl;exact⟨b,hl,by rw[aE];exact kT rfl _ ⟨_,rfl⟩⟩
 case fin =>
  ac_rfl;refine⟨ps.map fun _=>true,by rw[Kg.mpr (fun _ _=>rfl),JY,JY];rfl,a8 (by simp) ⟨ps,(ag hna).trans ha,gd.nd,gd.prs hc,h15,_,(ag hna).trans ha,H,Sub.put (Sub.refl _) hacc,?_⟩⟩;rw[JN,LH];exact h
theorem Gs(T:Tx K mg t):aM P w K mg base CX0 3 t.a_zi t.d_zi ["self","count","ties","bows"] (oR t):=by
 exists 2,T.F_zi,si,(ae (aS (dh (iW (cN fU fy (qv 1) aq) (fc (cN jf iM (qv 1) (dq (v':=.int 6) rfl T.c_MOST_NAMES (fun _=>by simp[RP]))))))
  bC
  aF)
  (ae (sC 4 si.nd nl1 1 [] (cA uv) (aI (qv 2)) (fun _ _ _ _=>⟨(gN 0 nn1),aL,(aK aH bb rfl T.b_tuple K5 (aa (qv 0) ab))⟩))
  (ae (aS (dJ (bA (au (FU T) hr.mo rfl T.g_zH T.F_zH.kp T.B_zH (aa (qv 1) (aa (qv 4) ab)))))
  bC
  aF)
  (ae (sC 5 si.nd nl2 1 [] (cA uv) (aI (qv 3)) (fun _ _ _ _=>⟨(gN 0 nn2),aL,(aK aH bb rfl T.b_tuple K5 (aa (qv 0) ab))⟩))
  (ae (aS (dJ (bA (au (FU T) hr.mo rfl T.g_zH T.F_zH.kp T.B_zH (aa (qv 1) (aa (qv 5) ab)))))
  bC
  aF)
  (ae (aS (cN jf iM (ar az bu rfl T.b_len Ku (aa (qv 5) ab)) (dq (v':=.int 6) rfl T.c_MOST_BOWS (fun _=>by simp[RP])))
  bC
  aF)
  (ae (eF (qv 0) (qv 1) T.cl_A T.nfA_count rfl)
  (ae (eF (qv 0) (aK aH bb rfl T.b_tuple K5 (aa (ar dH fK rfl T.b_sorted boot_sorted (aa (qv 4) ab)) ab)) T.cl_A T.nfA_ties rfl)
  (ao (eF (qv 0) (aK aH bb rfl T.b_tuple K5 (aa (ar dH fK rfl T.b_sorted boot_sorted (aa (qv 5) ab)) ab)) T.cl_A T.nfA_bows rfl))))))))))
 obtain⟨x,_,rfl,c,_,rfl,a,_,rfl,b,_,rfl,rfl,h⟩:=h;obtain⟨dx,ys,zs,ps,qs,hx,ha,hb,ry,rz,gp,gq,⟨c1,c6,q6⟩,h⟩:=h;have hp15:=gp.len c6;have hq15:=gq.len c6;left;refine aU (by simp;omega) (aU (by simp;omega) ?_);right;refine iG ha fun ok hok p1 hp1=>?_;refine aA (ko H) (fun _=>true) (fun σ=>∃z,σ=[z]) (by rw[ry.length];omega) (fun l=>hok _ ((Sub.refl _).put hp1)) ?_ ?_ ⟨_,rfl⟩
 ·rintro y hy l σ R' ⟨z,rfl⟩ hl kT kF;obtain⟨p,hp,row⟩:=ff ry hy;rcases row with rfl |⟨r,rfl,hr⟩
  ·unfold prV;ac_rfl;exact⟨hl,by rw[aE];exact kT rfl _ ⟨_,rfl⟩⟩
  ·rw[gk hr]at kT;ac_rfl;exact⟨_,(ag (aj hr hp1)).trans hr,hl,by rw[aE];exact kT rfl _ ⟨_,rfl⟩⟩
 rw[Kg.mpr (fun _ _=>rfl),mC ry];subst hR;have sb1:U.Sub H (put H p1 (.lst (ps.map prV))):=Sub.put (Sub.refl _) hp1;left;refine⟨ps,rfl,gp,c6,?_⟩
 try ac_rfl
 subst hR;have hp1s:put H p1 (.lst (ps.map prV)) p1=some (.lst (ps.map prV)):=af;have hx1:=sb1 _ _ hx;have hb1:=hb.up sb1;have rz1:=rz.up sb1;generalize put H p1 (.lst (ps.map prV))=H1 at *;left;refine iG hb1 fun ok hok p2 hp2=>?_;refine aA (ko H1) (fun _=>true) (fun σ=>∃z,σ=[z]) (by rw[rz1.length];omega) (fun l=>hok _ ((Sub.refl _).put hp2)) ?_ ?_ ⟨_,rfl⟩
 ·rintro y hy l σ R' ⟨z,rfl⟩ hl kT kF;obtain⟨p,hp,row⟩:=ff rz1 hy;rcases row with rfl |⟨r,rfl,hr⟩
  ·unfold prV;ac_rfl;exact⟨hl,by rw[aE];exact kT rfl _ ⟨_,rfl⟩⟩
  ·rw[gk hr]at kT;ac_rfl;exact⟨_,(ag (aj hr hp2)).trans hr,hl,by rw[aE];exact kT rfl _ ⟨_,rfl⟩⟩
 rw[Kg.mpr (fun _ _=>rfl),mC rz1];subst hR;have sb2:U.Sub H1 (put H1 p2 (.lst (qs.map prV))):=Sub.put (Sub.refl _) hp2;have hp1t:=sb2 _ _ hp1s;have hx2:=sb2 _ _ hx1;have hp2s:put H1 p2 (.lst (qs.map prV)) p2=some (.lst (qs.map prV)):=af;left;refine⟨qs,rfl,gq,c6,?_⟩
 try ac_rfl
 subst hR;have sb3:=sb1.trans sb2;generalize put H1 p2 (.lst (qs.map prV))=H2 at *;left;refine⟨_,hp2s,aU (by rw[JN];simp;omega) ?_⟩;right;refine⟨_,_,hx2,by simp,?_⟩;subst hR;have n1:p1≠x:=fun e=>by subst e;rw[hx2]at hp1t;cases hp1t
 have n2:p2≠x:=fun e=>by subst e;rw[hx2]at hp2s;cases hp2s
 left;refine⟨ps,(ag n1).trans hp1t,gp.nd,fun p hp=>?_,by omega,fun r1 ts hr1 pt st=>?_⟩
 ·have:=gp.lo p hp;omega
 try ac_rfl
 have nx1:x≠r1:=fun e=>by subst e;rw[af]at hr1;cases hr1
 refine⟨_,_,(ag nx1).trans af,L4 ja (by decide),?_⟩;subst hR;have n3:p2≠r1:=fun e=>by subst e;rw[ag n2,hp2s]at hr1;cases hr1
 ac_rfl;refine⟨qs,(ag n2).trans ((ag n3).trans ((ag n2).trans hp2s)),gq.nd,fun p hp=>?_,by omega,fun r2 bs hr2 pb sb=>?_⟩
 ·have:=gq.lo p hp;omega
 try ac_rfl
 have nx2:x≠r2:=fun e=>by subst e;rw[af]at hr2;cases hr2
 have ul:=fun f v fs=>@ja f v fs;refine⟨_,_,(ag nx2).trans af,?_,put H x (.ins t.a_A dx (DF c ts bs)),tx ?_ af,h ts bs pt st pb sb⟩
 ·have l1:=ul "ties" (.tup (ts.map prV)) (fV "count" (.int c) []);have l2:=ul "count" (.int c) [];simp only[List.length_nil]at l2;omega
 ·intro z o hzx hz;have hz2:=sb3 _ _ hz;have z1:z≠r1:=fun e=>by subst e;rw[ag hzx,hz2]at hr1;cases hr1
  have z2:z≠r2:=fun e=>by subst e;rw[ag hzx,ag z1,ag hzx,hz2]at hr2;cases hr2
  rw[ag hzx,ag z2,ag hzx,ag z1,ag hzx];exact hz2
theorem Ho(T:Tx K mg t):aM P w K mg base CX0 1 t.a_za t.d_za ["self","name"] (gY t):=by
 exists 0,T.F_za,DH,(ao (aS (dh (iW (cN fU fy (qv 1) aq) (fc (cN vA sM (qv 1) (br (qv 0) T.cl_A T.nfA_count rfl)))))
  bC
  aF))
 obtain⟨x,_,rfl,n,_,rfl,rfl,h⟩:=h;obtain⟨dx,c,ts,bs,hx,⟨h0,h1⟩,h⟩:=h;ac_rfl;exact aU (by simpa using h0) ⟨_,_,_,hx,rfl,aU (by simpa using h1) ⟨H,Sub.refl _,h⟩⟩
theorem FP(T:Tx K mg t):aM P w K mg base CX0 2 t.a_zd t.d_zd ["self","name"] (je t):=by
 exists 1,T.F_zd,FG,(ae (bT (gf (qv 0) T.cl_A T.m_za (Ho T) hr.mo T.B_za (aa (qv 1) ab)))
  (ao (ax (aK aH bb rfl T.b_tuple K5 (aa (cE nl3 1 [1] (cA yu) (aI (br (qv 0) T.cl_A T.nfA_ties rfl)) (fun _ _ _ _=>⟨(gN 0 nn3),(gc (cN (bG hr.units) bF (iX (qv 0) aq) (qv 1))),(iX (qv 0) aq)⟩)) ab)))))
 obtain⟨x,_,rfl,n,_,rfl,rfl,h⟩:=h;obtain⟨dx,c,ts,bs,hx,⟨h0,h1⟩,h15,h⟩:=h;ac_rfl;refine⟨⟨_,_,hx,rfl⟩,_,_,_,_,hx,⟨h0,h1⟩,_,_,_,hx,rfl,?_⟩;show ∀acc,H acc=none->_;intro acc hacc;refine aA g0 (at1 n) (fun σ=>∃z,σ=[z,some (.int n)]) (by rw[JN];omega) (fun _=>trivial) ?step ?fin ⟨_,rfl⟩
 case step =>
  rintro y hy l σ R ⟨z,rfl⟩ hl kT kF;obtain⟨p,hp,rfl⟩:=JU.mp hy;have e:at1 n (prV p)=decide (p.2=n):=rfl;rw[e]at kT kF;unfold prV at *;ac_rfl;refine c8 (fun q=>?_) (fun q=>?_)
  ·exact⟨hl,by rw[aE];exact kT (by simpa using q) _ ⟨_,rfl⟩⟩
  ·exact kF (by simpa using q) _ ⟨_,rfl⟩
 case fin =>
  refine⟨_,af,H,Sub.put (Sub.refl _) hacc,?_⟩;rw[src_list];exact h
theorem rG(T:Tx K mg t):aM P w K mg base CX0 1 t.a_zn t.d_zn ["_law_script","_law_k"] pJ:=by
 exists 0,T.F_zn,Fb,(ae (aS (cN fU fy (qv 1) (ar az bu rfl T.b_len Ku (aa (qv 0) ab)))
  (ao (ax (iX (qv 0) (qv 1))))
  aF)
  (ao (ax aq)))
 obtain⟨l,_,rfl,k,_,rfl,rfl,h⟩:=h
 try dsimp only at h
 obtain⟨⟨h0,h1⟩,ns,rfl,h⟩:=h;ac_rfl;by_cases hk:k<ns.length
 ·refine a8 (by rw[JN];simpa using hk) ?_;rw[bw h0 hk];exact⟨H,Sub.refl _,h⟩
 ·refine aU (by rw[JN];simpa using hk) ⟨H,Sub.refl _,?_⟩;rw[JQ,LF (by omega)]at h;exact h
theorem Bu(T:Tx K mg t):aM P w K mg base CX0 1 t.a_zI t.d_zI ["_law_cell","_law_many"] mR:=by
 exists 0,T.F_zI,gS,(ae (sN 2 gS.nd (bE ab))
  (ae (sN 3 gS.nd (bf (qv 0) aq))
  (ae (aS (cN (bG hr.units) bF (bQ (qv 0) aq) aq)
  (ae (aZ Kj rfl (aR rfl T.b_range (aa (qv 1) ab)) (gN 4 gS.nd)
   (ae (bT (dS KR KS bJ bV (qv 2) (aa (bQ (qv 3) aq) ab)))
    (ao (sN 3 gS.nd (bf (qv 3) aq)))))
   (ao (ax (qv 2))))
  aF)
  (ae (sN 3 gS.nd (bQ (bS (aY (bQ (qv 3) aq) aq) aq) aq))
  (ae (aZ Kj rfl (aR rfl T.b_range (aa (qv 1) ab)) (gN 4 gS.nd)
  (ae (sN 3 gS.nd (bQ (bS (bS (bS (aY (qv 3) (qv 3)) (aY aq (qv 3))) (qv 4)) aq) aq))
   (ao (bT (dS KR KS bJ bV (qv 2) (aa (qv 3) ab))))))
  (ao (ax (qv 2))))))))
 obtain⟨c,_,rfl,m,_,rfl,rfl,h⟩:=h
 try dsimp only at h
 obtain⟨⟨h0,h1⟩,h⟩:=h;ac_rfl;refine⟨aw (by decide),fun p hp=>⟨ib (by decide) (by decide),by decide,?_⟩⟩;have hs:∀(xs:List Int) (i:Nat),xs.length=i->i<m.toNat->(xs.map PV.int).length<sizeLine:=fun xs i h1 h2=>by
  rw[JN];exact aO (by omega)
 refine c8 (fun _=>⟨⟨by omega,by omega⟩,?_⟩) (fun _=>⟨by decide,.inr ⟨?f1,?f2⟩,by decide,⟨by omega,by omega⟩,?_⟩)
 ·refine dE (fun i σ H2=>∃num k xs,σ=[some (.int c),some (.int m),some (.ref p),some (.int num),k]/\H2=put H p (.lst (xs.map PV.int))/\xs.length=i) ?_ ?_ ⟨_,_,[],rfl,rfl,rfl⟩
  ·rintro σ H2 ⟨num,k,xs,rfl,rfl,hl⟩;exact⟨trivial,_,Sub.refl _,h p xs hp hl⟩
  ·rintro G i σ H2 hi ⟨num,k,xs,rfl,rfl,hl⟩ kk;refine⟨trivial,?_⟩;ac_rfl;exact⟨⟨_,rfl⟩,by decide,hs xs i hl hi,ib (by decide) (by decide),kk _ _ ⟨_,_,xs++[num.fmod 5040],rfl,by rw[aE,J9];rfl,by rw[J2,hl];rfl⟩⟩
 case f1=>have:=fm (a:=c.fdiv 2) (b:=2147483647) (by decide);exact fA (by omega)
 case f2=>exact fA (by decide)
 ·have b0:=fm (a:=(c.fdiv 2).fmod 2147483647*16807+11) (b:=2147483647) (by decide);generalize ((c.fdiv 2).fmod 2147483647*16807+11).fmod 2147483647=num at *;refine dE (fun i σ H2=>∃num k xs,(0≤num/\num<2147483647)/\σ=[some (.int c),some (.int m),some (.ref p),some (.int num),k]/\H2=put H p (.lst (xs.map PV.int))/\xs.length=i) ?_ ?_ ⟨_,_,[],b0,rfl,rfl,rfl⟩
  ·rintro σ H2 ⟨num,k,xs,_,rfl,rfl,hl⟩;exact⟨trivial,_,Sub.refl _,h p xs hp hl⟩
  ·rintro G i σ H2 hi ⟨num,k,xs,⟨b1,b2⟩,rfl,rfl,hl⟩ kk;refine⟨trivial,?_⟩;ac_rfl;exact⟨.inr ⟨fA (by omega),fA (by omega)⟩,.inr ⟨fA (by decide),fA (by omega)⟩,by decide,⟨_,rfl⟩,hs xs i hl hi,kk _ _ ⟨_,_,xs++[_],fm (by decide),rfl,by rw[aE,J9];rfl,by rw[J2,hl];rfl⟩⟩
theorem Hl(T:Tx K mg t):aM P w K mg base CX0 2 t.a_zE t.d_zE ["_law_script","_law_at"] lU:=by
 exists 1,T.F_zE,dX,(ae (sN 2 dX.nd (au (rG T) hr.mo rfl T.g_zn T.F_zn.kp T.B_zn (aa (qv 0) (aa (qv 1) ab))))
  (ae (sN 3 dX.nd (bS aq (bQ (qv 2) aq)))
  (ae (sN 4 dX.nd (bQ (bf (qv 2) aq) aq))
  (ae (sN 5 dX.nd (au (Bu T) hr.mo rfl T.g_zI T.F_zI.kp T.B_zI (aa (au (rG T) hr.mo rfl T.g_zn T.F_zn.kp T.B_zn (aa (qv 0) (aa (bS (qv 1) aq) ab))) (aa aq ab))))
  (ae (sN 6 dX.nd (bE ab))
  (ae (sN 7 dX.nd (bE ab))
  (ae (sN 8 dX.nd aq)
  (ae (aZ Kj rfl (aR rfl T.b_range (aa (qv 3) ab)) (gN 9 dX.nd)
  (ao (aZ Kj rfl (aR rfl T.b_range (aa (qv 9) ab)) (gN 10 dX.nd)
   (ae (aS (cN (bG hr.units) bF (bQ (iX (qv 5) (qv 8)) (iX (bE (aa aq (aa aq (aa aq (aa aq ab))))) (qv 4))) aq)
    (ao (bT (dS KR KS bJ bV (qv 6) (aa (bM (aa (qv 10) (aa (qv 9) ab))) ab))))
    aF)
    (ae (aS (dh (AI (cN (bG hr.units) bF (bQ (bf (iX (qv 5) (qv 8)) aq) (iX (bE (aa aq (aa aq (aa aq (aa aq ab))))) (qv 4))) aq) (xA (cN fU fy (ar az bu rfl T.b_len Ku (aa (qv 7) ab)) aq))))
    (ao (bT (dS KR KS bJ bV (qv 7) (aa (bM (aa (qv 10) (aa (qv 9) ab))) ab))))
    aF)
    (ao (sN 8 dX.nd (bS (qv 8) aq))))))))
  (ao (ax (bM (aa (qv 3) (aa (qv 6) (aa (qv 7) ab))))))))))))))
 obtain⟨l,_,rfl,k,_,rfl,rfl,h⟩:=h
 try dsimp only at h
 obtain⟨⟨h0,h1⟩,ns,rfl,h⟩:=h;ac_rfl;refine⟨⟨h0,by omega⟩,ns,rfl,by decide,ib (by decide) (by decide),by decide,⟨by omega,by omega⟩,ns,rfl,⟨by decide,by decide⟩,fun p xs hp hxs=>⟨aw (by decide),fun p1 hp1=>⟨aw (by decide),fun p2 hp2=>?_⟩⟩⟩;have hc:=fm (a:=ns.getD k.toNat 0) (b:=6) (by decide);have hd:=fm (a:=(ns.getD k.toNat 0).fdiv 6) (b:=4) (by decide);generalize ((ns.getD k.toNat 0).fdiv 6).fmod 4=d at *;generalize hcc:1+(ns.getD k.toNat 0).fmod 6=c at *;have hc1:1≤c/\c≤6:=by omega
 refine⟨⟨by omega,by omega⟩,?_⟩;have q1:H p1=none:=(Sub.put (Sub.refl H) hp).free hp1;have n12:p1≠p2:=fun e=>by subst e;rw[af]at hp2;cases hp2
 have q2:H p2=none:=((Sub.put (Sub.refl H) hp).put (o:=.lst []) q1).free hp2;refine dE (fun i σ H2=>∃v u ts bs,σ=[some (.fls (ns.map PV.int)),some (.int k),some (.int (ns.getD k.toNat 0)),some (.int c),some (.int d),some (.ref p),some (.ref p1),some (.ref p2),some (.int (DM.tri i:Nat)),v,u]/\(U.Sub H H2/\H2 p=some (.lst (xs.map PV.int))/\H2 p1=some (.lst (ts.map prV))/\H2 p2=some (.lst (bs.map prV)))/\DM.Good (i:Nat) ts/\DM.Good (i:Nat) bs/\bs.length≤6) ?_ ?_ ?_
 ·rintro σ H2 ⟨v,u,ts,bs,rfl,⟨s1,s2,s3,s4⟩,g1,g2,l6⟩;refine⟨trivial,?_⟩;ac_rfl;have ec:((c.toNat:Nat):Int)=c:=by omega
  rw[ec]at g1 g2;exact⟨aw (by decide),_,pG (pG s1 s3) s4,h c ts bs p1 p2 hc1 g1 g2 l6 q1 q2 n12⟩
 ·rintro G i σ H2 hi ⟨v,u,ts,bs,rfl,hH,g1,g2,l6⟩ kk;refine⟨trivial,?_⟩;ac_rfl;obtain⟨s1,s2,s3,s4⟩:=hH;obtain⟨da,hda,da0⟩:=Iy hd.1 hd.2;obtain⟨db,hdb,db0⟩:=G2 hd.1 hd.2;have ht:=DM.CU i (by omega);refine⟨⟨by omega,by omega⟩,?_⟩;rw[Kk];refine dE (fun j σ H3=>∃u ts bs,σ=[some (.fls (ns.map PV.int)),some (.int k),some (.int (ns.getD k.toNat 0)),some (.int c),some (.int d),some (.ref p),some (.ref p1),some (.ref p2),some (.int (DM.tri i+j:Nat)),some (.int (i:Nat)),u]/\(U.Sub H H3/\H3 p=some (.lst (xs.map PV.int))/\H3 p1=some (.lst (ts.map prV))/\H3 p2=some (.lst (bs.map prV)))/\GJ (i:Nat) (j:Nat) ts/\GJ (i:Nat) (j:Nat) bs/\bs.length≤6) ?_ ?_ ⟨_,ts,bs,rfl,⟨s1,s2,s3,s4⟩,GJ.of g1,GJ.of g2,l6⟩
  ·rintro σ H3 ⟨u,ts,bs,rfl,hH,a1,a2,l6⟩;exact⟨trivial,kk _ _ ⟨_,_,ts,bs,rfl,hH,a1.good,a2.good,l6⟩⟩
  ·rintro G' j σ H3 hj ⟨u,ts,bs,rfl,⟨s1,s2,s3,s4⟩,a1,a2,l6⟩ kk';refine⟨trivial,?_⟩;have hx:atI (xs.map PV.int) ((DM.tri i+j:Nat):Int)=some (.int (xs.getD ((DM.tri i+j:Nat):Int).toNat 0)):=bw (by omega) (by rw[hxs];omega);generalize xs.getD ((DM.tri i+j:Nat):Int).toNat 0=xv at hx;have last:∀ts' bs' H4,(U.Sub H H4/\H4 p=some (.lst (xs.map PV.int))/\H4 p1=some (.lst (ts'.map prV))/\H4 p2=some (.lst (bs'.map prV)))->GJ (i:Nat) ((j:Nat)+1:Int) ts'->GJ (i:Nat) ((j:Nat)+1:Int) bs'->bs'.length≤6 ->
     G' [some (.fls (ns.map PV.int)),some (.int k),some (.int (ns.getD k.toNat 0)),some (.int c),some (.int d),some (.ref p),some (.ref p1),some (.ref p2),some (.int (((DM.tri i+j:Nat):Int)+1)),some (.int (i:Nat)),some (.int (j:Nat))] H4:=fun ts' bs' H4 x1 x2 x3 x4=>kk' _ _ ⟨_,ts',bs',rfl,x1,x2,x3,x4⟩
   refine ak fun R hR=>?_;have second:∀(ts':List DM.P2) (H4:PHp),(U.Sub H H4/\H4 p=some (.lst (xs.map PV.int))/\H4 p1=some (.lst (ts'.map prV))/\H4 p2=some (.lst (bs.map prV)))->GJ (i:Nat) ((j:Nat)+1:Int) ts' ->
     R { nx:=G',rt:=fun v H=>∃H3,U.Sub H3 H/\Q v H3,bk:=G,ct:=G' } [some (.fls (ns.map PV.int)),some (.int k),some (.int (ns.getD k.toNat 0)),some (.int c),some (.int d),some (.ref p),some (.ref p1),some (.ref p2),some (.int ((DM.tri i+j:Nat):Int)),some (.int (i:Nat)),some (.int (j:Nat))] H4:=by
    rintro ts' H4 ⟨u1,u2,u3,u4⟩ b1;right;refine⟨_,u2,?_⟩;rw[hx];ac_rfl;refine⟨ib (by decide) (by decide),aw (by decide),fun p4 hp4=>?_⟩
    try ac_rfl
    rw[hdb]
    try ac_rfl
    have m1:=aj u2 hp4;have m2:=aj u3 hp4;have m3:=aj u4 hp4;have sb4:=u1.put (o:=.lst [.int 2,.int 3,.int 5,.int 2]) (u1.free hp4);have w2:=(ag (o:=.lst [.int 2,.int 3,.int 5,.int 2]) m1).trans u2;have w3:=(ag (o:=.lst [.int 2,.int 3,.int 5,.int 2]) m2).trans u3;have w4:=(ag (o:=.lst [.int 2,.int 3,.int 5,.int 2]) m3).trans u4;generalize put H4 p4 (.lst [.int 2,.int 3,.int 5,.int 2])=H5 at *;refine⟨db0,?_⟩;have nxt:R { nx:=G',rt:=fun v H=>∃H3,U.Sub H3 H/\Q v H3,bk:=G,ct:=G' } [some (.fls (ns.map PV.int)),some (.int k),some (.int (ns.getD k.toNat 0)),some (.int c),some (.int d),some (.ref p),some (.ref p1),some (.ref p2),some (.int ((DM.tri i+j:Nat):Int)),some (.int (i:Nat)),some (.int (j:Nat))] H5:=by
     subst hR;ac_rfl;exact last ts' bs H5 ⟨sb4,w2,w3,w4⟩ b1 a2.up l6
    refine c8 (fun _=>?_) (fun _=>?_)
    ·refine⟨_,w4,?_⟩;by_cases h6:bs.length<6
     ·refine a8 (by rw[JN];simp;omega) ?_;refine⟨⟨_,w4⟩,aw (by decide),_,w4,by rw[JN];exact aO (by omega),?_⟩;subst hR;ac_rfl;have n12':p1≠p2:=n12;have np2:p≠p2:=fun e=>by
       subst e;rw[ag (fun e=>by subst e;rw[af]at hp1;cases hp1),af]at hp2;cases hp2
      refine last ts' (bs++[(((j:Nat):Int),((i:Nat):Int))]) _ ⟨sb4.put q2,(ag np2).trans w2,(ag n12).trans w3,?_⟩ b1 (a2.app (by omega) (by omega)) (by rw[J2];simp;omega);rw[af,J9];rfl
     ·refine aU (by rw[JN];simp;omega) nxt
    ·exact nxt
   ac_rfl;refine⟨_,s2,?_⟩;rw[hx];ac_rfl;refine⟨aw (by decide),fun p3 hp3=>?_⟩
   try ac_rfl
   rw[hda]
   try ac_rfl
   have m1:=aj s2 hp3;have m2:=aj s3 hp3;have m3:=aj s4 hp3;have sb3:=s1.put (o:=.lst [.int 2,.int 3,.int 2,.int 4]) (s1.free hp3);have w2:=(ag (o:=.lst [.int 2,.int 3,.int 2,.int 4]) m1).trans s2;have w3:=(ag (o:=.lst [.int 2,.int 3,.int 2,.int 4]) m2).trans s3;have w4:=(ag (o:=.lst [.int 2,.int 3,.int 2,.int 4]) m3).trans s4;generalize put H3 p3 (.lst [.int 2,.int 3,.int 2,.int 4])=H5 at *;have t15:ts.length≤15:=(show DM.Good ((i:Nat)+1:Int) ts from⟨a1.nd,fun p hp=>by have:=a1.lo p hp;omega⟩).len (by omega);refine⟨da0,c8 (fun _=>?_) (fun _=>second ts H5 ⟨sb3,w2,w3,w4⟩ a1.up)⟩;refine⟨⟨_,w3⟩,aw (by decide),_,w3,by rw[JN];exact aO (by omega),?_⟩;have np1:p≠p1:=fun e=>by subst e;rw[af]at hp1;cases hp1
   refine second (ts++[(((j:Nat):Int),((i:Nat):Int))]) _ ⟨sb3.put q1,(ag np1).trans w2,?_,(ag n12.symm).trans w4⟩ (a1.app (by omega) (by omega));rw[af,J9];rfl
 ·have np1:p≠p1:=fun e=>by subst e;rw[af]at hp1;cases hp1
  have np2:p≠p2:=fun e=>by subst e;rw[ag np1,af]at hp2;cases hp2
  refine⟨_,_,[],[],rfl,⟨?_,?_,?_,af⟩,⟨List.nodup_nil,by simp⟩,⟨List.nodup_nil,by simp⟩,by simp⟩
  ·exact(((Sub.refl H).put hp).put q1).put q2
  ·rw[ag np2,ag np1,af]
  ·rw[ag n12,af];rfl
theorem Jh(T:Tx K mg t):aM P w K mg base CX0 1 t.a_zK t.d_zK ["_law_found","_law_due"] (eO 0):=by
 exists 0,T.F_zK,oM,(ae (aS (dh (iW (bA (ar (aG .tuple) (aW .tuple) rfl T.b_isinstance Km (aa (qv 1) (aa (aV rfl T.b_tuple K5) ab)))) (fc (bA (ar (aG .list) (aW .list) rfl T.b_isinstance Km (aa (qv 1) (aa (aV rfl T.b_list LZ) ab)))))))
  bC
  aF)
  (ae (aS (bA (ar (aG .bool) (aW .bool) rfl T.b_isinstance Km (aa (qv 1) (aa (aV rfl T.b_bool boot_bool) ab))))
  (ao (ax (bz (ar (aG .bool) (aW .bool) rfl T.b_isinstance Km (aa (qv 0) (aa (aV rfl T.b_bool boot_bool) ab))) (bP (bc (bG hr.units) bF (qv 0) (qv 1) (ba _))))))
  aF)
  (ae (aS (bA (ar (aG .int) (aW .int) rfl T.b_isinstance Km (aa (qv 1) (aa (aV rfl T.b_int boot_int) ab))))
  (ao (ax (bz (ar (aG .int) (aW .int) rfl T.b_isinstance Km (aa (qv 0) (aa (aV rfl T.b_int boot_int) ab))) (bz (nG (ar (aG .bool) (aW .bool) rfl T.b_isinstance Km (aa (qv 0) (aa (aV rfl T.b_bool boot_bool) ab)))) (bP (bc (bG hr.units) bF (qv 0) (qv 1) (ba _)))))))
  aF)
  (ae (aS (bA (ar (aG .str) (aW .str) rfl T.b_isinstance Km (aa (qv 1) (aa (aV rfl T.b_str boot_str) ab))))
  (ao (ax (bz (ar (aG .str) (aW .str) rfl T.b_isinstance Km (aa (qv 0) (aa (aV rfl T.b_str boot_str) ab))) (bP (bc (bG hr.units) bF (qv 0) (qv 1) (ba _))))))
  aF)
  (ao (ax (bz (bc gG gy (qv 1) gD (ba _)) (bP (bc gG gy (qv 0) gD (ba _))))))))))
 obtain⟨x,_,rfl,y,_,rfl,rfl,h⟩:=h
 try dsimp only at h
 obtain⟨hs,h⟩:=h;unfold kz at hs;split at hs
 ·subst hs;ac_rfl;exact⟨H,Sub.refl _,by rw[LH];exact h⟩
 ·rename_i e;cases e
 ·rename_i e;cases e
 ·exact hs.elim
theorem IS(T:Tx K mg t){n:Nat}(ih:aM P w K mg base CX0 (n+1) t.a_zK t.d_zK ["_law_found","_law_due"] (eO n)):aM P w K mg base CX0 (n+2) t.a_zK t.d_zK ["_law_found","_law_due"] (eO (n+1)):=by
 refine okU (k:=n+1) T.F_zK oM (fun vs H Q E h=>bo h) (fun cdv A outer s H E B hr=>⟨_,(ae (aS (dh (iW (bA (ar (aG .tuple) (aW .tuple) rfl T.b_isinstance Km (aa (qv 1) (aa (aV rfl T.b_tuple K5) ab)))) (fc (bA (ar (aG .list) (aW .list) rfl T.b_isinstance Km (aa (qv 1) (aa (aV rfl T.b_list LZ) ab)))))))
  (ae (aS (dh (iW (cN (dZ hr.units) bF (ar (aG .tuple) (aW .tuple) rfl T.b_isinstance Km (aa (qv 0) (aa (aV rfl T.b_tuple K5) ab))) (ar (aG .tuple) (aW .tuple) rfl T.b_isinstance Km (aa (qv 1) (aa (aV rfl T.b_tuple K5) ab)))) (fc (cN (dZ hr.units) bF (ar (aG .list) (aW .list) rfl T.b_isinstance Km (aa (qv 0) (aa (aV rfl T.b_list LZ) ab))) (ar (aG .list) (aW .list) rfl T.b_isinstance Km (aa (qv 1) (aa (aV rfl T.b_list LZ) ab)))))))
   (ao (ax eS))
   aF)
   (ae (aS (cN (dZ hr.units) bF (ar az bu rfl T.b_len Ku (aa (qv 0) ab)) (ar az bu rfl T.b_len Ku (aa (qv 1) ab)))
   (ao (ax eS))
   aF)
   (ae (aZ Kj rfl (aR rfl T.b_range (aa (ar az bu rfl T.b_len Ku (aa (qv 1) ab)) ab)) (gN 2 oM.nd)
   (ao (aS (dJ (bA (au ih (hr.mono (JW _)) rfl T.g_zK T.F_zK.kp T.B_zK (aa (iX (qv 0) (qv 2)) (aa (iX (qv 1) (qv 2)) ab)))))
    (ao (ax eS))
    aF)))
   (ao (ax eS)))))
  aF)
  (ae (aS (bA (ar (aG .bool) (aW .bool) rfl T.b_isinstance Km (aa (qv 1) (aa (aV rfl T.b_bool boot_bool) ab))))
  (ao (ax (bz (ar (aG .bool) (aW .bool) rfl T.b_isinstance Km (aa (qv 0) (aa (aV rfl T.b_bool boot_bool) ab))) (bP (bc (bG hr.units) bF (qv 0) (qv 1) (ba _))))))
  aF)
  (ae (aS (bA (ar (aG .int) (aW .int) rfl T.b_isinstance Km (aa (qv 1) (aa (aV rfl T.b_int boot_int) ab))))
  (ao (ax (bz (ar (aG .int) (aW .int) rfl T.b_isinstance Km (aa (qv 0) (aa (aV rfl T.b_int boot_int) ab))) (bz (nG (ar (aG .bool) (aW .bool) rfl T.b_isinstance Km (aa (qv 0) (aa (aV rfl T.b_bool boot_bool) ab)))) (bP (bc (bG hr.units) bF (qv 0) (qv 1) (ba _)))))))
  aF)
  (ae (aS (bA (ar (aG .str) (aW .str) rfl T.b_isinstance Km (aa (qv 1) (aa (aV rfl T.b_str boot_str) ab))))
  (ao (ax (bz (ar (aG .str) (aW .str) rfl T.b_isinstance Km (aa (qv 0) (aa (aV rfl T.b_str boot_str) ab))) (bP (bc (bG hr.units) bF (qv 0) (qv 1) (ba _))))))
  aF)
  (ao (ax (bz (bc gG gy (qv 1) gD (ba _)) (bP (bc gG gy (qv 0) gD (ba _)))))))))),?_⟩)
 intro vs H Q E h
 replace h:=bh h
 obtain⟨x,_,rfl,y,_,rfl,rfl,h⟩:=h
 try dsimp only at h
 obtain⟨hs,h⟩:=h;unfold kz at hs;split at hs
 ·subst hs;ac_rfl;exact⟨H,Sub.refl _,by rw[LH];exact h⟩
 ·rename_i n0 l m e;obtain⟨hl,hp⟩:=hs;cases e;have hlen:=hp.length;ac_rfl;refine aU rfl (aU rfl (aU (by rw[hlen];simp) ⟨⟨by omega,by omega⟩,?_⟩));rw[Kk];refine dE (fun i σ H2=>∃k,σ=[some (.tup l),some (.tup m),k]/\H2=H) ?_ ?_ ⟨none,rfl,rfl⟩
  ·rintro σ H2 ⟨k,rfl,rfl⟩;exact⟨trivial,H2,Sub.refl _,h⟩
  ·rintro G i σ H2 hi ⟨k,rfl,rfl⟩ kk;refine⟨trivial,?_⟩;ac_rfl;rw[cY (show i<l.length by omega),cY (show i<m.length by omega)];ac_rfl;exact⟨cK hp _ _,kk _ _ ⟨_,rfl,rfl⟩⟩
 ·rename_i n0 a b e;obtain⟨l,m,ha,hb,hl,hp⟩:=hs;cases e;have hlen:=hp.length;ac_rfl;refine⟨_,hb,_,hb,_,ha,_,hb,aU rfl ⟨_,ha,_,hb,aU rfl ⟨_,ha,_,hb,aU (by rw[hlen];simp) ⟨_,hb,⟨by omega,by omega⟩,?_⟩⟩⟩⟩;rw[Kk];refine dE (fun i σ H2=>∃k,σ=[some (.ref a),some (.ref b),k]/\H2=H) ?_ ?_ ⟨none,rfl,rfl⟩
  ·rintro σ H2 ⟨k,rfl,rfl⟩;exact⟨trivial,H2,Sub.refl _,h⟩
  ·rintro G i σ H2 hi ⟨k,rfl,rfl⟩ kk;refine⟨trivial,?_⟩;ac_rfl;refine⟨_,ha,?_⟩;rw[cY (show i<l.length by omega)];ac_rfl;refine⟨_,hb,?_⟩;rw[cY (show i<m.length by omega)];ac_rfl;exact⟨cK hp _ _,kk _ _ ⟨_,rfl,rfl⟩⟩
 ·exact hs.elim
theorem E3(T:Tx K mg t):∀n,aM P w K mg base CX0 (n+1) t.a_zK t.d_zK ["_law_found","_law_due"] (eO n)
 | 0=>Jh T
 | n+1=>IS T (E3 T n)
theorem Fy(T:Tx K mg t):aM P w K mg base CX0 1 t.a_zb t.d_zb ["a","b"] oW:=by
 exists 0,T.F_zb,qg,(ae (lO Kj (cN (dZ hr.units) bF (qv 1) aq)
  (ae (sN 2 qg.nd (bQ (qv 0) (qv 1)))
   (ae (sN 0 qg.nd (qv 1))
   (ao (sN 1 qg.nd (qv 2))))))
  (ao (ax (qv 0))))
 obtain⟨a,_,rfl,b,_,rfl,rfl,h⟩:=h
 try dsimp only at h
 obtain⟨⟨ha,hb⟩,h⟩:=h;ac_rfl;refine jb (fun m σ H'=>∃x y r,σ=[some (.int x),some (.int y),r]/\H'=H/\(0≤x/\0≤y/\My.gd x y=My.gd a b)/\m=y.natAbs) b.natAbs ⟨a,b,none,rfl,rfl,⟨ha,hb,rfl⟩,rfl⟩ ?_;rintro m σ H' ⟨x,y,r,rfl,rfl,⟨hx,hy0,hg⟩,rfl⟩;ac_rfl;by_cases hy:y=0
 ·refine aU (by simp[hy]) ⟨H',Sub.refl _,?_⟩;rw[←hg,hy,My.oO,Kq (by omega)]at h;exact h
 ·refine a8 (by simp[hy]) ?_;exact⟨_,fun σ' H' z=>z,hy,_,My.mJ x y hy,_,_,_,rfl,rfl,My.Bc hg hy0 hy,rfl⟩
theorem xV(T:Tx K mg t):aM P w K mg base CX0 2 t.a_zT t.d_zT ["top","bottom"] hJ:=by
 exists 1,T.F_zT,tM,(ae (aS (cN (bG hr.units) bF (qv 1) aq)
  bC
  aF)
  (ae (sN 2 tM.nd (au (Fy T) hr.mo rfl T.g_zb T.F_zb.kp T.B_zb (aa (ar jk oE rfl T.b_abs boot_abs (aa (qv 0) ab)) (aa (ar jk oE rfl T.b_abs boot_abs (aa (qv 1) ab)) ab))))
  (ae (aS (cN fU fy (qv 1) aq)
  (ao (sN 2 tM.nd (nW (qv 2))))
  aF)
  (ao (ax (bM (aa (bf (qv 0) (qv 2)) (aa (bf (qv 1) (qv 2)) ab))))))))
 obtain⟨a,_,rfl,b,_,rfl,rfl,h⟩:=h
 try dsimp only at h
 obtain⟨⟨h0,h1,h2⟩,h⟩:=h;have g:=My.kC a b h1;have gb:=j4 (by omega) g.2 h2;ac_rfl;refine aU (by simp;omega) ?_;rw[My.CG];refine⟨⟨by split<;>omega,by split<;>omega⟩,aU (by simp;omega) ?_⟩
 try ac_rfl
 exact⟨wY g.1 gb,wY g.1 gb,aw (by decide),H,Sub.refl _,h⟩
theorem Ce(T:Tx K mg t):aM P w K mg base CX0 2 t.a_zh t.d_zh ["parts"] qb:=by
 exists 1,T.F_zh,oZ,(ae (sN 1 oZ.nd aq)
  (ae (aZ Kj rfl (aI (qv 0)) (gN 2 oZ.nd)
  (ao (aS (cN (dZ hr.units) bF (bQ (qv 1) (iX (qv 2) aq)) aq)
   (ao (sN 1 oZ.nd (aY (bf (qv 1) (au (Fy T) hr.mo rfl T.g_zb T.F_zb.kp T.B_zb (aa (qv 1) (aa (iX (qv 2) aq) ab)))) (iX (qv 2) aq))))
   aF)))
  (ao (ax (qv 1)))))
 obtain⟨v,_,rfl,rfl,h⟩:=h;obtain⟨ps,S,sq,⟨S0,SB⟩,hp,h⟩:=h;left;right;refine iG sq fun ok hok=>?_;refine a9 (fun i σ H2=>∃B z,σ=[some v,some (.int B),z]/\H2=H/\0<B/\B ∣ S/\∀p∈ps.take i,p.2 ∣ B) ?_ ?_ ⟨1,none,rfl,rfl,by decide,Int.one_dvd _,fun w hw=>by rw[List.take_zero]at hw;cases hw⟩
 ·rintro σ H2 ⟨B,z,rfl,rfl,b0,b1,b2⟩;refine⟨hok _ (Sub.refl _),?_⟩;subst hR;ac_rfl;exact⟨H2,Sub.refl _,h B b0 b1 (by rw[JN,Ke]at b2;exact b2)⟩
 ·rintro D i y σ H2 hy ⟨B,z,rfl,rfl,b0,b1,b2⟩ kk;refine⟨hok _ (Sub.refl _),?_⟩;rw[JV]at hy;cases hg:ps[i]? with
  | none=>rw[hg]at hy;cases hy
  | some p =>
   rw[hg]at hy;cases hy;obtain⟨q1,d1⟩:=hp p (JX hg);have bB:=nu b0 S0 b1 SB;have pB:=nu (show 0<p.2 by omega) S0 d1 SB
   try simp only[KG]
   obtain⟨l1,l2,l3,l4⟩:=uq b0 (show 0<p.2 by omega) b1 d1;have fl:=ft (a:=B) (b:=My.gd B p.2) (by omega) (My.cV _ _ (by omega));have g:=My.kC B p.2 (by omega);unfold prV at *;ac_rfl;refine⟨by omega,c8 (fun q=>⟨⟨by omega,by omega⟩,wY g.1 (j4 (by omega) g.2 pB),.inr ⟨dj (j4 fl.1 fl.2 bB),dj pB⟩,kk _ _ ⟨_,_,rfl,rfl,l1,l4,fun x hx=>?_⟩⟩) (fun q=>kk _ _ ⟨B,_,rfl,rfl,b0,b1,fun x hx=>?_⟩)⟩
   ·rw[Kr,hg]at hx;rcases K6.mp hx with hx | hx
    ·exact Int.dvd_trans (b2 x hx) l2
    ·have:x=p:=by simpa using hx
     rw[this];exact l3
   ·rw[Kr,hg]at hx;rcases K6.mp hx with hx | hx
    ·exact b2 x hx
    ·have:x=p:=by simpa using hx
     rw[this];exact ux (by omega) (by simpa using q)
theorem Ap(T:Tx K mg t):aM P w K mg base CX0 1 t.a_zA t.d_zA ["parts","bottom"] pR:=by
 exists 0,T.F_zA,EF,(ao (ax (cE nl4 1 [1] (cA xw) (aI (qv 0)) (fun _ _ _ _=>⟨(gN 0 nn4),aL,(aY (iX (qv 0) aq) (bf (qv 1) (iX (qv 0) aq)))⟩))))
 obtain⟨v,_,rfl,B,_,rfl,rfl,h⟩:=h;obtain⟨ps,sq,hl,⟨b0,bB⟩,hp,h⟩:=h;ac_rfl;refine iG sq fun ok hok acc hacc=>?_;refine aA (fT B) (fun _=>true) (fun σ=>∃z,σ=[z,some (.int B)]) (by rw[JN];omega) (fun l=>hok _ ((Sub.refl _).put hacc)) ?_ ?_ ⟨_,rfl⟩
 ·rintro y hy l σ R ⟨z,rfl⟩ hl kT kF;obtain⟨p,hw,rfl⟩:=JU.mp hy;obtain⟨q1,q2,q3⟩:=hp p hw;have pB:=nu (show 0<p.2 by omega) b0 q2 bB;have fl:=ft (a:=B) (b:=p.2) (by omega) (by omega);unfold prV at *;ac_rfl;exact⟨wY (by omega) pB,.inr ⟨dj q3,dj (j4 fl.1 fl.2 bB)⟩,hl,by rw[aE];exact kT rfl _ ⟨_,rfl⟩⟩
 have em:(((ps.map prV).filter fun _=>true).map (fT B))=(ps.map (tpO B)).map PV.int:=by
  rw[Kg.mpr (fun _ _=>rfl),JY,JY];rfl
 rw[em];exact⟨_,Sub.refl _,h acc hacc⟩
theorem IC(T:Tx K mg t):aM P w K mg base CX0 3 t.a_zY t.d_zY ["parts"] mD:=by
 exists 2,T.F_zY,zF,(ae (sN 1 zF.nd (au (Ce T) hr.mo rfl T.g_zh T.F_zh.kp T.B_zh (aa (qv 0) ab)))
  (ao (ax (au (xV T) hr.mo rfl T.g_zT T.F_zT.kp T.B_zT (aa (ar (cx rfl) eH rfl T.b_sum boot_sum (aa (au (Ap T) hr.mo rfl T.g_zA T.F_zA.kp T.B_zA (aa (qv 0) (aa (qv 1) ab))) ab)) (aa (qv 1) ab))))))
 obtain⟨l,_,rfl,rfl,h⟩:=h;obtain⟨ws,s,sh,rfl,h⟩:=h;have sq:∀H':PHp,Seq H' (.tup (ws.map fun w=>prV (shr s w))) ((ws.map (shr s)).map prV):=fun _=>.inl (by rw[JY];rfl);have s3:=sh.2.2.2.1;have al:∀p∈ws.map (shr s),1≤p.2/\p.2 ∣ s/\My.BN 300 p.1:=fun p hp=>by
  obtain⟨w,hw,rfl⟩:=JU.mp hp;obtain⟨q1,q2,q3,q4⟩:=sh.le hw;exact⟨q3,(b7 sh.2.1 (sh.2.2.1 w hw)).2.2.2.1,bnS q1 q2⟩
 left;refine⟨_,s,sq _,⟨sh.2.1,bnS (by have:=sh.2.1;omega) (by omega)⟩,fun p hp=>⟨(al p hp).1,(al p hp).2.1⟩,fun B b0 b1 b2=>?_⟩;have sB:=Lj sh.2.1 b1;have b2':∀w∈ws,(shr s w).2 ∣ B:=fun w hw=>b2 _ (JU.mpr ⟨w,hw,rfl⟩);subst hR;ac_rfl;refine⟨_,sq _,by rw[JN];have:=sh.2.2.2.2;omega,⟨b0,bnS (by omega) (by omega)⟩,fun p hp=>⟨(al p hp).1,b2 p hp,(al p hp).2.2⟩,fun p hp=>⟨_,rfl,?_⟩⟩;have et:((ws.map (shr s)).map (tpO B)).sum=B:=by rw[JY];exact xT sh b2'
 rw[et]
 try ac_rfl
 have gB:My.gd B B=B:=by unfold My.gd;rw[Int.gcd_self];omega
 refine⟨⟨by omega,by omega,bnS (by omega) (by omega)⟩,H,(Sub.refl H).put hp,?_⟩;rw[gB,Int.fdiv_self (by omega)];exact h
theorem Ji(T:Tx K mg t):aM P w K mg base CX0 3 t.a_zS t.d_zS ["part"] i5:=by
 exists 2,T.F_zS,DN,(ao (ax (bz (bc (bG hr.units) bF (ar az bu rfl T.b_len Ku (aa (qv 0) ab)) aq (ba _)) (bz (bc vA sM (iX (qv 0) aq) aq (ba _)) (bz (bc vA sM (iX (qv 0) aq) aq (ba _)) (bP (bc (bG hr.units) bF (au (xV T) hr.mo rfl T.g_zT T.F_zT.kp T.B_zT (aa (iX (qv 0) aq) (aa (iX (qv 0) aq) ab))) (qv 0) (ba _))))))))
 obtain⟨u0,_,rfl,rfl,h⟩:=h;obtain⟨a,b,rfl,h⟩:=h;obtain⟨⟨h0,h1,h2,h3⟩,h⟩:=h;ac_rfl;exact a8 rfl (a8 (by simpa using h0) (a8 (by simpa using h1) ⟨⟨h0,by omega,bnM (by omega) (by omega)⟩,H,Sub.refl _,by rw[h3,Int.fdiv_one,Int.fdiv_one,LH,LH];exact h⟩))
theorem Dp(T:Tx K mg t):aM P w K mg base CX0 4 t.a_zt t.d_zt ["parts"] jJ:=by
 exists 3,T.F_zt,Dl,(ao (ax (bz (ar (c9 rfl) fh rfl T.b_all boot_all (aa (cE nl5 1 [] (cA wy) (aI (qv 0)) (fun _ _ _ _=>⟨(gN 0 nn5),aL,(au (Ji T) hr.mo rfl T.g_zS T.F_zS.kp T.B_zS (aa (qv 0) ab))⟩)) ab)) (bP (bc (bG hr.units) bF (au (IC T) hr.mo rfl T.g_zY T.F_zY.kp T.B_zY (aa (qv 0) ab)) (bM (aa aq (aa aq ab))) (ba _))))))
 obtain⟨l,_,rfl,rfl,h⟩:=h;obtain⟨ws,s,sh,rfl,h⟩:=h;ac_rfl;intro acc hacc;refine aA (fun _=>PV.bl true) (fun _=>true) (fun σ=>∃z,σ=[z]) (by rw[JN];have:=sh.2.2.2.2;omega) (fun _=>trivial) ?_ ?_ ⟨_,rfl⟩
 ·rintro y hy l σ R ⟨z,rfl⟩ hl kT kF;obtain⟨w,hw,rfl⟩:=JU.mp hy;obtain⟨q1,q2,q3,q4⟩:=sh.le hw;obtain⟨_,_,_,_,g1,_⟩:=b7 sh.2.1 (sh.2.2.1 w hw);unfold prV at *;ac_rfl;exact⟨⟨q1,q3,by omega,g1⟩,hl,by rw[aE];exact kT rfl _ ⟨_,rfl⟩⟩
 have em:(((ws.map fun w=>prV (shr s w)).filter fun _=>true).map fun _=>PV.bl true)=(ws.map fun _=>true).map PV.bl:=by
  rw[Kg.mpr (fun _ _=>rfl),JY,JY];rfl
 rw[em]
 try ac_rfl
 refine⟨ws.map fun _=>true,rfl,a8 (by simp) ⟨ws,s,sh,rfl,aw (by decide),H,(Sub.refl H).put hacc,h⟩⟩
theorem ER(T:Tx K mg t):aM P w K mg base CX0 1 t.a_zX t.d_zX ["parts"] jL:=by
 exists 0,T.F_zX,Fj,(ao (ax (aK aH bb rfl T.b_tuple K5 (aa (cE nl5 1 [] (cA xY) (aI (qv 0)) (fun _ _ _ _=>⟨(gN 0 nn5),aL,(aK aH bb rfl T.b_tuple K5 (aa (qv 0) ab))⟩)) ab))))
 obtain⟨v,_,rfl,rfl,h⟩:=h;obtain⟨ps,sq,hl,h⟩:=h;rcases sq with rfl |⟨a,rfl,ha⟩
 ·ac_rfl;intro acc hacc;refine aA (fun y=>y) (fun _=>true) (fun σ=>∃z,σ=[z]) (by rw[JN];omega) (fun _=>trivial) ?_ ?_ ⟨_,rfl⟩
  ·rintro y hy l σ R ⟨z,rfl⟩ hl' kT kF;obtain⟨p,hp,rfl⟩:=JU.mp hy;unfold prV at *;ac_rfl;exact⟨hl',by rw[aE];exact kT rfl _ ⟨_,rfl⟩⟩
  rw[Kg.mpr (fun _ _=>rfl),List.map_id']
  try ac_rfl
  exact⟨H,(Sub.refl H).put hacc,h⟩
 ·ac_rfl;refine⟨_,ha,fun acc hacc=>?_⟩;refine aA (fun y=>y) (fun _=>true) (fun σ=>∃z,σ=[z]) (by rw[JN];omega) (fun l=>(ag (aj ha hacc)).trans ha) ?_ ?_ ⟨_,rfl⟩
  ·rintro y hy l σ R ⟨z,rfl⟩ hl' kT kF;obtain⟨p,hp,rfl⟩:=JU.mp hy;unfold prV at *;ac_rfl;exact⟨hl',by rw[aE];exact kT rfl _ ⟨_,rfl⟩⟩
  rw[Kg.mpr (fun _ _=>rfl),List.map_id']
  try ac_rfl
  exact⟨H,(Sub.refl H).put hacc,h⟩
theorem wV(T:Tx K mg t):aM P w K mg base CX0 1 t.a_zW t.d_zW ["numbers"] jq:=by
 exists 0,T.F_zW,oP,(ae (sN 1 oP.nd aq)
  (ae (aZ Kj rfl (aI (qv 0)) (gN 2 oP.nd)
  (ao (sN 1 oP.nd (aY (qv 1) (qv 2)))))
  (ao (ax (qv 1)))))
 obtain⟨v,_,rfl,rfl,h⟩:=h;obtain⟨ns,sq,hl,hp,hn,h⟩:=h;rcases sq with rfl |⟨a,rfl,ha⟩
 ·left;right;refine a9 (fun i σ H2=>∃z,σ=[some (.tup (ns.map PV.int)),some (.int (prod (ns.take i))),z]/\H2=H) ?_ ?_ ⟨none,rfl,rfl⟩
  ·rintro σ H2 ⟨z,rfl,rfl⟩;refine⟨trivial,?_⟩;rw[JN,Ke];subst hR;ac_rfl;exact⟨H2,Sub.refl _,h⟩
  ·rintro D i y σ H2 hy ⟨z,rfl,rfl⟩ kk;refine⟨trivial,?_⟩;rw[JV]at hy;cases hg:ns[i]? with
   | none=>rw[hg]at hy;cases hy
   | some n =>
    rw[hg]at hy;cases hy;have e:prod (ns.take (i+1))=prod (ns.take i)*n:=by rw[Kr,hg];exact aX
    try simp only[KG]
    ac_rfl;exact⟨.inr ⟨rV (hp i),rV (hn n (JX hg))⟩,kk _ _ ⟨_,by rw[e],rfl⟩⟩
 ·left;right;refine⟨_,ha,?_⟩;refine a9 (fun i σ H2=>∃z,σ=[some (.ref a),some (.int (prod (ns.take i))),z]/\H2=H) ?_ ?_ ⟨none,rfl,rfl⟩
  ·rintro σ H2 ⟨z,rfl,rfl⟩;refine⟨ha,?_⟩;rw[JN,Ke];subst hR;ac_rfl;exact⟨H2,Sub.refl _,h⟩
  ·rintro D i y σ H2 hy ⟨z,rfl,rfl⟩ kk;refine⟨ha,?_⟩;rw[JV]at hy;cases hg:ns[i]? with
   | none=>rw[hg]at hy;cases hy
   | some n =>
    rw[hg]at hy;cases hy;have e:prod (ns.take (i+1))=prod (ns.take i)*n:=by rw[Kr,hg];exact aX
    try simp only[KG]
    ac_rfl;exact⟨.inr ⟨rV (hp i),rV (hn n (JX hg))⟩,kk _ _ ⟨_,by rw[e],rfl⟩⟩
theorem HF(T:Tx K mg t):aM P w K mg base CX0 1 t.a_zD t.d_zD ["drawing","sizes"] (m4 t):=by
 exists 0,T.F_zD,EO,(ao (ax (bz (bc oo m8 (ar az bu rfl T.b_len Ku (aa (qv 1) ab)) (br (qv 0) T.cl_A T.nfA_count rfl) (ba _)) (bP (ar (c9 rfl) fh rfl T.b_all boot_all (aa (cE nl6 1 [] (cA yi) (aI (qv 1)) (fun _ _ _ _=>⟨(gN 0 nn6),aL,(lG jN jI jN jI (dq (v':=.int 2) rfl T.c_LEAST_SIZE (fun _=>by simp[RP])) (qv 0) (dq (v':=.int 4) rfl T.c_MOST_SIZE (fun _=>by simp[RP])))⟩)) ab))))))
 obtain⟨x,_,rfl,l,_,rfl,rfl,h⟩:=h;obtain⟨dx,c,ts,bs,ns,hx,rfl,hc,h6,hn,h⟩:=h;ac_rfl;refine⟨dx,_,_,hx,rfl,?_⟩
 try ac_rfl
 rw[JN];refine a8 (by simp[hc]) fun acc hacc=>?_;refine aA (fun _=>PV.bl true) (fun _=>true) (fun σ=>∃z,σ=[z]) (by rw[JN];omega) (fun _=>trivial) ?_ ?_ ⟨_,rfl⟩
 ·rintro y hy l σ R ⟨z,rfl⟩ hl kT kF;obtain⟨n,hm,rfl⟩:=JU.mp hy;have q:=hn n hm;ac_rfl;rw[Lq q.2];exact a8 (by simpa using q.1) ⟨hl,by rw[aE];exact kT rfl _ ⟨_,rfl⟩⟩
 have em:(((ns.map PV.int).filter fun _=>true).map fun _=>PV.bl true)=(ns.map fun _=>true).map PV.bl:=by
  rw[Kg.mpr (fun _ _=>rfl),JY,JY];rfl
 rw[em]
 try ac_rfl
 exact⟨_,rfl,H,(Sub.refl H).put hacc,by rw[o9];exact h⟩
theorem HJ(T:Tx K mg t):aM P w K mg base CX0 5 t.a_zr t.d_zr ["drawing","hidden"] (jW t):=by
 exists 4,T.F_zr,Gg,(ae (aS (cN (dZ hr.units) bF (ar az bu rfl T.b_len Ku (aa (qv 1) ab)) (ar az bu rfl T.b_len Ku (aa (br (qv 0) T.cl_A T.nfA_bows rfl) ab)))
  (ao (ax eS))
  aF)
  (ao (ax (ar (c9 rfl) fh rfl T.b_all boot_all (aa (cE nl7 1 [] (cA yh) (aI (qv 1)) (fun _ _ _ _=>⟨(gN 0 nn7),aL,(bz (lG jN jI jN jI aq (ar az bu rfl T.b_len Ku (aa (qv 0) ab)) (dq (v':=.int 4) rfl T.c_MOST_HIDDEN (fun _=>by simp[RP]))) (bP (au (Dp T) hr.mo rfl T.g_zt T.F_zt.kp T.B_zt (aa (qv 0) ab))))⟩)) ab)))))
 obtain⟨x,_,rfl,l,_,rfl,rfl,h⟩:=h;obtain⟨dx,c,ts,bs,Hd,hx,rfl,hc,h6,hn,h⟩:=h;left;refine⟨dx,_,_,hx,rfl,?_⟩
 try ac_rfl
 refine aU (by rw[JN,JN,hc];simp) ?_;subst hR;ac_rfl;intro acc hacc;refine aA (fun _=>PV.bl true) (fun _=>true) (fun σ=>∃z,σ=[z]) (by rw[JN];omega) (fun _=>trivial) ?_ ?_ ⟨_,rfl⟩
 ·rintro y hy l σ R ⟨z,rfl⟩ hl kT kF;obtain⟨ws,hm,rfl⟩:=JU.mp hy;have q:=hn ws hm;unfold shT at *;ac_rfl;rw[JN];exact a8 (by simp;omega) (a8 (by simp;omega) ⟨ws,_,q.1,rfl,hl,by rw[aE];exact kT rfl _ ⟨_,rfl⟩⟩)
 have em:(((Hd.map shT).filter fun _=>true).map fun _=>PV.bl true)=(Hd.map fun _=>true).map PV.bl:=by
  rw[Kg.mpr (fun _ _=>rfl),JY,JY];rfl
 rw[em]
 try ac_rfl
 exact⟨_,rfl,H,(Sub.refl H).put hacc,by rw[o9];exact h⟩
theorem EC(T:Tx K mg t):aM P w K mg base CX0 1 t.a_zu t.d_zu ["drawing","name"] (jQ t):=by
 exists 0,T.F_zu,FL,(ao (ax (fF (N2:=nl8) (nt:=2) (js:=[1]) (cA yz) rfl (ze rfl T.b_enumerate (aa (br (qv 0) T.cl_A T.nfA_bows rfl) ab)) (fun _ _ _ _=>⟨(cC (n:=2) rfl (aJ (gN 0 nn8) (aJ (gN 1 nn8) bY))),(gc (cW (m5 hr.units) qe (qv 2) (qv 1))),(qv 0)⟩))))
 obtain⟨x,_,rfl,n,_,rfl,rfl,h⟩:=h;obtain⟨dx,c,ts,bs,hx,h6,h⟩:=h;ac_rfl;refine⟨dx,_,_,hx,rfl,?_⟩
 try ac_rfl
 intro acc hacc;refine aA fB (pB n) (fun σ=>∃z0 z1,σ=[z0,z1,some (.int n)]) (by unfold dk;rw[List.length_mapIdx,JN];omega) (fun _=>trivial) ?_ ?_ ⟨_,_,rfl⟩
 ·rintro y hy l σ R ⟨z0,z1,rfl⟩ hl kT kF;obtain⟨k,p,rfl⟩:=AJ hy;have e:pB n (.tup [.int (k:Nat),prV p])=jc n p:=rfl;rw[e]at kT kF;unfold prV at *;ac_rfl;rw[pO];exact c8 (fun q=>⟨hl,by rw[aE];exact kT q _ ⟨_,_,rfl⟩⟩) (fun q=>kF q _ ⟨_,_,rfl⟩)
 rw[wH];exact⟨_,Sub.refl _,h acc hacc⟩
theorem AH(T:Tx K mg t):aM P w K mg base CX0 2 t.a_zj t.d_zj ["drawing","hidden","name"] (vv t):=by
 exists 1,T.F_zj,Dx,(ao (ax (cE nl9 1 [1] (cA xH) (aI (au (EC T) hr.mo rfl T.g_zu T.F_zu.kp T.B_zu (aa (qv 0) (aa (qv 2) ab)))) (fun _ _ _ _=>⟨(gN 0 nn9),aL,(ar az bu rfl T.b_len Ku (aa (iX (qv 1) (qv 0)) ab))⟩))))
 obtain⟨x,_,rfl,l,_,rfl,n,_,rfl,rfl,h⟩:=h;obtain⟨dx,c,ts,bs,Hd,hx,rfl,hl,h6,h⟩:=h;ac_rfl;refine⟨dx,c,ts,bs,hx,h6,fun q hq=>?_⟩
 try ac_rfl
 intro acc hacc;have s1:=(Sub.refl H).put (o:=.lst ((bpl bs n).map fun k=>PV.int (k:Nat))) hq;have eq:put H q (.lst ((bpl bs n).map fun k=>PV.int (k:Nat))) q=some (.lst ((bpl bs n).map fun k=>PV.int (k:Nat))):=af;generalize put H q (.lst ((bpl bs n).map fun k=>PV.int (k:Nat)))=H1 at *;have bl:=eI (bs:=bs) (n:=n);refine aA (fH Hd) (fun _=>true) (fun σ=>∃z,σ=[z,some (.tup (Hd.map shT))]) (by rw[JN];omega) (fun l=>(ag (aj eq hacc)).trans eq) ?_ ?_ ⟨_,rfl⟩
 ·rintro y hy l σ R ⟨z,rfl⟩ hl' kT kF;obtain⟨k,hk,rfl⟩:=JU.mp hy;have e:=BW (Hd:=Hd) (k:=k) (by rw[hl];exact eG hk);ac_rfl;rw[e];unfold shT
  try ac_rfl
  rw[JN];exact⟨hl',by rw[aE];exact kT rfl _ ⟨_,rfl⟩⟩
 have em:((((bpl bs n).map fun k=>PV.int (k:Nat)).filter fun _=>true).map (fH Hd))=(hsz Hd bs n).map PV.int:=by
  rw[Kg.mpr (fun _ _=>rfl),JY];unfold hsz;rw[JY];rfl
 rw[em];exact⟨_,Sub.refl _,h acc _ (s1.put (s1.free hacc)) (s1.free hacc) af⟩
theorem IT(T:Tx K mg t):aM P w K mg base CX0 3 t.a_zz t.d_zz ["drawing","sizes","hidden","name"] (lV t):=by
 exists 2,T.F_zz,D0,(ao (ax (um (cE E7 1 [1] (cA xC) (aI (gf (qv 0) T.cl_A T.m_zd (FP T) hr.mo T.B_zd (aa (qv 3) ab))) (fun _ _ _ _=>⟨(gN 0 IK),aL,(iX (qv 1) (qv 0))⟩)) (au (AH T) hr.mo rfl T.g_zj T.F_zj.kp T.B_zj (aa (qv 0) (aa (qv 2) (aa (qv 3) ab)))))))
 obtain⟨x,_,rfl,k,_,rfl,l,_,rfl,n,_,rfl,rfl,h⟩:=h;obtain⟨dx,c,ts,bs,ns,Hd,hx,rfl,hc,gt,c6,rfl,hl,h6,n0,h⟩:=h;have t15:=gt.len c6;ac_rfl;refine⟨⟨dx,_,hx,rfl⟩,dx,c,ts,bs,hx,n0,t15,fun acc hacc=>?_⟩;have lf:(ts.filter fun p=>decide (p.2=n)).length≤ts.length:=List.length_filter_le _ _;refine aA (fN ns) (fun _=>true) (fun σ=>∃z,σ=[z,some (.tup (ns.map PV.int))]) (by rw[JN,JN];omega) (fun _=>trivial) ?_ ?_ ⟨_,rfl⟩
 ·rintro y hy l σ R ⟨z,rfl⟩ hl' kT kF;obtain⟨u,hu,rfl⟩:=JU.mp hy;obtain⟨p,hp,rfl⟩:=JU.mp hu;have b:=gt.lo p (Le.mp hp).1;have e:atI (ns.map PV.int) p.1=some (.int (ns.getD p.1.toNat 0)):=bw (by omega) (by omega);ac_rfl;rw[e]
  try ac_rfl
  exact⟨hl',by rw[aE];exact kT rfl _ ⟨_,rfl⟩⟩
 have em:(((((ts.filter fun p=>decide (p.2=n)).map (·.1)).map PV.int).filter fun _=>true).map (fN ns))=(ssz ns ts n).map PV.int:=by
  rw[Kg.mpr (fun _ _=>rfl),JY];unfold ssz;rw[JY,JY,JY];rfl
 rw[em];have s1:=(Sub.refl H).put (o:=.lst ((ssz ns ts n).map PV.int)) hacc;have ea:put H acc (.lst ((ssz ns ts n).map PV.int)) acc=some (.lst ((ssz ns ts n).map PV.int)):=af;generalize put H acc (.lst ((ssz ns ts n).map PV.int))=H1 at *
 try ac_rfl
 refine⟨dx,c,ts,bs,Hd,s1 _ _ hx,rfl,hl,h6,fun p H2 s2 hp e2=>?_⟩
 try ac_rfl
 have bl:=eI (bs:=bs) (n:=n);have s3:=s1.trans s2;refine⟨_,_,s2 _ _ ea,e2,ip ?_,fun q hq=>⟨_,Sub.refl _,h q _ (s3.put (s3.free hq)) (s3.free hq) (by rw[J9];exact af)⟩⟩;rw[JN,JN];unfold ssz hsz;rw[JN,JN,JN];omega
theorem Ig(T:Tx K mg t):aM P w K mg base CX0 5 t.a_zN t.d_zN ["table","rows","size"] mN:=by
 exists 4,T.F_zN,EA,(ao (ax (bz (bc oo m8 (ar az bu rfl T.b_len Ku (aa (qv 0) ab)) (qv 1) (ba _)) (bP (ar (c9 rfl) fh rfl T.b_all boot_all (aa (cE FW 1 [2] (cA wO) (aI (qv 0)) (fun _ _ _ _=>⟨(gN 0 GC),aL,(bz (bc oo m8 (ar az bu rfl T.b_len Ku (aa (qv 0) ab)) (qv 1) (ba _)) (bP (au (Dp T) hr.mo rfl T.g_zt T.F_zt.kp T.B_zt (aa (qv 0) ab))))⟩)) ab))))))
 obtain⟨l,_,rfl,r,_,rfl,z,_,rfl,rfl,h⟩:=h;obtain⟨Rw,rfl,hr',hl,hn,h⟩:=h;ac_rfl;rw[JN];refine a8 (by simp[hr']) fun acc hacc=>?_;refine aA (fun _=>PV.bl true) (fun _=>true) (fun σ=>∃y,σ=[y,some (.int z)]) (by rw[JN];omega) (fun _=>trivial) ?_ ?_ ⟨_,rfl⟩
 ·rintro y hy l σ R ⟨z',rfl⟩ hl' kT kF;obtain⟨ws,hm,rfl⟩:=JU.mp hy;have q:=hn ws hm;unfold shT at *;ac_rfl;rw[JN];exact a8 (by simp[q.2]) ⟨ws,_,q.1,rfl,hl',by rw[aE];exact kT rfl _ ⟨_,rfl⟩⟩
 have em:(((Rw.map shT).filter fun _=>true).map fun _=>PV.bl true)=(Rw.map fun _=>true).map PV.bl:=by
  rw[Kg.mpr (fun _ _=>rfl),JY,JY];rfl
 rw[em]
 try ac_rfl
 exact⟨_,rfl,H,(Sub.refl H).put hacc,by rw[o9];exact h⟩
theorem Cu(T:Tx K mg t):aM P w K mg base CX0 1 t.a_zk t.d_zk ["_law_one","_law_other"] iQ:=by
 exists 0,T.F_zk,pQ,(ae (lO Kj (cN (dZ hr.units) bF (qv 1) aq)
  (ae (sN 2 pQ.nd (bQ (qv 0) (qv 1)))
   (ae (sN 0 pQ.nd (qv 1))
   (ao (sN 1 pQ.nd (qv 2))))))
  (ao (ax (ar jk oE rfl T.b_abs boot_abs (aa (qv 0) ab)))))
 obtain⟨a,_,rfl,b,_,rfl,rfl,h⟩:=h
 try dsimp only at h
 ac_rfl;refine jb (fun m σ H'=>∃x y r,σ=[some (.int x),some (.int y),r]/\H'=H/\My.gd x y=My.gd a b/\m=y.natAbs) b.natAbs ⟨a,b,none,rfl,rfl,rfl,rfl⟩ ?_;rintro m σ H' ⟨x,y,r,rfl,rfl,hg,rfl⟩;ac_rfl;by_cases hy:y=0
 ·refine aU (by simp[hy]) ⟨H',Sub.refl _,?_⟩;rw[←hg,hy,My.oO]at h;exact h
 ·refine a8 (by simp[hy]) ?_;exact⟨_,fun σ' H' z=>z,hy,_,My.mJ x y hy,_,_,_,rfl,rfl,(My.ql x y).trans hg,rfl⟩
theorem Iw(T:Tx K mg t):aM P w K mg base CX0 2 t.a_zs t.d_zs ["_law_top","_law_bottom"] pL:=by
 exists 1,T.F_zs,jM,(ae (aS (cN fU fy (qv 1) aq)
  bC
  aF)
  (ae (aS (cN (bG hr.units) bF (qv 1) aq)
  (ao (sN 1 jM.nd aq))
  aF)
  (ae (sN 2 jM.nd (au (Cu T) hr.mo rfl T.g_zk T.F_zk.kp T.B_zk (aa (qv 0) (aa (qv 1) ab))))
  (ao (ax (bM (aa (bf (qv 0) (qv 2)) (aa (bf (qv 1) (qv 2)) ab))))))))
 obtain⟨a,_,rfl,b,_,rfl,rfl,h⟩:=h
 try dsimp only at h
 obtain⟨⟨h0,hb⟩,h⟩:=h;ac_rfl;refine aU (by simp;omega) ?_;unfold My.jg xt at h;by_cases e:b=0
 ·refine a8 (by simp[e]) ?_;rw[Kw e]at h;have g:=My.cV a 1 (by decide)
  try ac_rfl
  exact⟨⟨by omega,eC kn (by decide)⟩,⟨by omega,eC kn (by decide)⟩,by decide,H,Sub.refl _,h⟩
 ·refine aU (by simp[e]) ?_;rw[Kq e]at h;have g:=My.cV a b e
  try ac_rfl
  exact⟨⟨by omega,eC hb e⟩,⟨by omega,eC hb e⟩,by decide,H,Sub.refl _,h⟩
theorem DI(T:Tx K mg t):aM P w K mg base CX0 3 t.a_zs t.d_zs ["_law_top","_law_bottom"] kc:=by
 exists 2,T.F_zs,jM,(ae (aS (cN fU fy (qv 1) aq)
  (ao (ax (au (Iw T) hr.mo rfl T.g_zs T.F_zs.kp T.B_zs (aa (vH aq (qv 0)) (aa (vH aq (qv 1)) ab)))))
  aF)
  (ae (aS (cN (bG hr.units) bF (qv 1) aq)
  (ao (sN 1 jM.nd aq))
  aF)
  (ae (sN 2 jM.nd (au (Cu T) hr.mo rfl T.g_zk T.F_zk.kp T.B_zk (aa (qv 0) (aa (qv 1) ab))))
  (ao (ax (bM (aa (bf (qv 0) (qv 2)) (aa (bf (qv 1) (qv 2)) ab))))))))
 obtain⟨a,_,rfl,b,_,rfl,rfl,h⟩:=h
 try dsimp only at h
 obtain⟨hb,h⟩:=h;ac_rfl;unfold My.gL at h;by_cases lt:b<0
 ·refine a8 (by simpa using lt) ?_;rw[Kw lt]at h;exact⟨⟨by omega,hb.of_le (by omega)⟩,H,Sub.refl _,by rw[Int.zero_sub,Int.zero_sub];exact h⟩
 ·refine aU (by simpa using lt) ?_;rw[Kq lt]at h;unfold My.jg xt at h;by_cases e:b=0
  ·refine a8 (by simp[e]) ?_;rw[Kw e]at h;have g:=My.cV a 1 (by decide)
   try ac_rfl
   exact⟨⟨by omega,eC kn (by decide)⟩,⟨by omega,eC kn (by decide)⟩,by decide,H,Sub.refl _,h⟩
  ·refine aU (by simp[e]) ?_;rw[Kq e]at h;have g:=My.cV a b e
   try ac_rfl
   exact⟨⟨by omega,eC hb e⟩,⟨by omega,eC hb e⟩,by decide,H,Sub.refl _,h⟩
theorem F8(T:Tx K mg t):aM P w K mg base CX0 1 t.a_zl t.d_zl ["_law_digit","_law_size","_law_full"] tH:=by
 exists 0,T.F_zl,qc,(ae (sN 3 qc.nd (bE ab))
  (ae (aZ Kj rfl (aR rfl T.b_range (aa (qv 1) ab)) (gN 4 qc.nd)
  (ae (bT (dS KR KS bJ bV (qv 3) (aa (bS (bQ (qv 0) aq) (aK rJ Cp rfl T.b_int boot_int (aa (qv 2) ab))) ab)))
   (ao (sN 0 qc.nd (bf (qv 0) aq)))))
  (ae (aS (cN (bG hr.units) bF (ar (cx rfl) eH rfl T.b_sum boot_sum (aa (qv 3) ab)) aq)
  (ao (cu aq (nZ (qv 3) aq)))
  aF)
  (ao (ax (qv 3))))))
 obtain⟨d,_,rfl,z,_,rfl,f,_,rfl,rfl,h⟩:=h
 try dsimp only at h
 obtain⟨hz,h⟩:=h;left;refine⟨aw (by decide),fun p hp=>?_⟩;right;refine⟨⟨by omega,by omega⟩,?_⟩;refine dw (fun i σ H2=>∃d' z4,∃ws:List Int,σ=[some (.int d'),some (.int z),some (.bl f),some (.ref p),z4]/\H2=put H p (.lst (ws.map PV.int))/\ws.length=i/\∀w∈ws,0≤w/\w≤7) ?_ ?_ ⟨d,none,[],rfl,rfl,rfl,fun w hw=>by cases hw⟩
 ·rintro σ H2 ⟨d',z4,ws,rfl,rfl,hl,hw⟩;refine⟨trivial,?_⟩;subst hR;dsimp only;left;have hl2:(ws.length:Int)=z:=by omega
  refine⟨ws,rfl,c8 (fun q=>⟨_,0,rfl,by unfold ixN;rw[Kw (by decide),Kw (by rw[JN];omega)];rfl,?_⟩) (fun q=>?_)⟩
  ·cases ws with
   | nil=>simp at hl2;omega
   | cons w0 r =>
    rw[aE];subst hR;ac_rfl;have hr':∀w∈(1::r:List Int),0≤w/\w≤7:=fun w hw'=>by
     rcases J7.mp hw' with rfl | hw'
     ·decide
     ·exact hw w (J8 _ hw')
    obtain⟨s0,_⟩:=nH (b:=7) (ws:=r) fun w hw'=>hw w (J8 _ hw');rw[Kt]at hl2;exact⟨_,Sub.refl _,h p (1::r) hp (by rw[Kt];exact hl2) (vV hr' (by rw[Kt];omega) (by rw[LI];omega))⟩
  ·subst hR;ac_rfl;exact⟨_,Sub.refl _,h p ws hp hl2 (vV hw (by omega) (by simpa using q))⟩
 ·rintro D i σ H2 hi ⟨d',z4,ws,rfl,rfl,hl,hw⟩ kk;refine⟨trivial,?_⟩;ac_rfl;have f7:=fm (a:=d') (b:=7) (by decide);have b1:0≤b2n f/\b2n f≤1:=by cases f<;>decide
  refine⟨⟨_,rfl⟩,by decide,aO (by rw[JN];omega),ib (by decide) (by decide),kk _ _ ⟨_,_,ws++[d'.fmod 7+b2n f],rfl,by rw[aE,J9];rfl,by rw[J2,hl];rfl,fun w hw'=>?_⟩⟩;rcases K6.mp hw' with hw' | hw'
  ·exact hw w hw'
  ·rw[Ka.mp hw'];omega
theorem Dr(T:Tx K mg t):aM P w K mg base CX0 4 t.a_zq t.d_zq ["_law_weights_here"] i9:=by
 exists 3,T.F_zq,DZ,(ao (ax (aK aH bb rfl T.b_tuple K5 (aa (cE DX 1 [0] (cA xr) (aI (qv 0)) (fun _ _ _ _=>⟨(gN 0 Jo),aL,(au (DI T) hr.mo rfl T.g_zs T.F_zs.kp T.B_zs (aa (qv 0) (aa (ar (cx rfl) eH rfl T.b_sum boot_sum (aa (qv 1) ab)) ab)))⟩)) ab))))
 obtain⟨a,_,rfl,rfl,h⟩:=h;obtain⟨ws,ha,sh,h⟩:=h;ac_rfl;refine⟨_,ha,fun acc hacc=>?_⟩;refine aA (fW ws.sum) (fun _=>true) (fun σ=>∃z,σ=[z,some (.ref a)]) (by rw[JN];have:=sh.2.2.2.2;omega) (fun l=>(ag (aj ha hacc)).trans ha) ?_ ?_ ⟨_,rfl⟩
 ·rintro y hy l σ R ⟨z,rfl⟩ hl kT kF;obtain⟨w,hw,rfl⟩:=JU.mp hy;have e:=ji (w:=w) sh.2.1;ac_rfl;refine⟨ws,(ag (aj ha hacc)).trans ha,bnS (by have:=sh.2.1;omega) (by have:=sh.2.2.2.1;omega),hl,?_⟩;rw[aE,e];exact kT rfl _ ⟨_,rfl⟩
 have em:(((ws.map PV.int).filter fun _=>true).map (fW ws.sum))=ws.map fun w=>prV (shr ws.sum w):=by
  rw[Kg.mpr (fun _ _=>rfl),JY];rfl
 rw[em]
 try ac_rfl
 exact⟨H,(Sub.refl H).put hacc,h⟩
theorem GA(T:Tx K mg t):aM P w K mg base CX0 3 t.a_zJ t.d_zJ ["_law_script"] lY:=by
 exists 2,T.F_zJ,ph,(ae (cu (au (Hl T) hr.mo rfl T.g_zE T.F_zE.kp T.B_zE (aa (qv 0) (aa aq ab))) (cC (n:=3) rfl (aJ (gN 1 ph.nd) (aJ (gN 2 ph.nd) (aJ (gN 3 ph.nd) bY)))))
  (ao (ax (bM (aa (qv 1) (aa (aK aH bb rfl T.b_tuple K5 (aa (ar dH fK rfl T.b_sorted boot_sorted (aa (qv 2) ab)) ab)) (aa (aK aH bb rfl T.b_tuple K5 (aa (ar dH fK rfl T.b_sorted boot_sorted (aa (qv 3) ab)) ab)) ab)))))))
 obtain⟨l,_,rfl,rfl,h⟩:=h;obtain⟨ns,rfl,h⟩:=h;left;refine⟨⟨by decide,by decide⟩,ns,rfl,fun c ts bs p q hc gt gb l6 hp hq npq=>?_⟩
 try ac_rfl
 have t15:=gt.len hc.2;have s3:U.Sub H (put (put H p (.lst (ts.map prV))) q (.lst (bs.map prV))):=((Sub.refl H).put hp).put hq;have e1:put (put H p (.lst (ts.map prV))) q (.lst (bs.map prV)) p=some (.lst (ts.map prV)):=(ag npq).trans af;have e2:put (put H p (.lst (ts.map prV))) q (.lst (bs.map prV)) q=some (.lst (bs.map prV)):=af;generalize put (put H p (.lst (ts.map prV))) q (.lst (bs.map prV))=H3 at *;subst hR;ac_rfl;refine⟨ts,e1,gt.nd,fun p hp=>by have:=gt.lo p hp;omega,by omega,fun r3 T3 hr3 pT3 sT3=>?_⟩
 try ac_rfl
 refine⟨bs,(ag (aj e2 hr3)).trans e2,gb.nd,fun p hp=>by have:=gb.lo p hp;omega,by omega,fun r4 B3 hr4 pB3 sB3=>?_⟩;have s8:=s3.put (o:=.lst (T3.map prV)) (s3.free hr3)
 try ac_rfl
 exact⟨aw (by decide),H,s8.put (s8.free hr4),h c T3 B3 ⟨hc,gt.perm pT3,gb.perm pB3,by rw[pB3.length_eq];exact l6,sT3,sB3⟩⟩
theorem Eo(T:Tx K mg t):aM P w K mg base CX0 1 t.a_zG t.d_zG ["_law_shape","_law_name"] j8:=by
 exists 0,T.F_zG,zj,(ae (sC 2 zj.nd Gm 1 [1,0] (cA tV) (aR rfl T.b_range (aa (ar az bu rfl T.b_len Ku (aa (iX (qv 0) aq) ab)) ab)) (fun _ _ _ _=>⟨(gN 0 II),(gc (cW (m5 hr.units) qe (qv 1) (iX (iX (qv 2) aq) (qv 0)))),(qv 0)⟩))
  (ao (ax (bM (aa (cE Gi 1 [1,0] (cA tV) (aR rfl T.b_range (aa (qv 1) ab)) (fun _ _ _ _=>⟨(gN 0 HK),(gc (cW (m5 hr.units) qe (bM (aa (qv 0) (aa (qv 1) ab))) (iX (qv 2) aq))),(qv 0)⟩)) (aa (qv 2) ab))))))
 obtain⟨u0,_,rfl,n,_,rfl,rfl,h⟩:=h;obtain⟨c,k,l,rfl,h⟩:=h;obtain⟨ts,bs,rfl,rfl,hn,h6,h⟩:=h;left;refine⟨⟨by omega,by rw[JN];omega⟩,fun q hq=>?_⟩;rw[Kk,JN];refine aA idP (pK bs n) (fun σ=>∃z,σ=[z,some (.int n),some (.tup [.int c,.tup (ts.map prV),.tup (bs.map prV)])]) (by rw[c7,JN,Kh];omega) (fun _=>trivial) ?_ ?_ ⟨_,rfl⟩
 ·rintro y hy l σ R' ⟨z,rfl⟩ hl kT kF;rw[c7]at hy;obtain⟨k,hk,rfl⟩:=JU.mp hy;have hk':=KI.mp hk;have hg:bs[k]?=some bs[k]:=JO hk';have e:=yf hg;have ep:pK bs n (.int (k:Nat))=jc n bs[k]:=by
   show(match bs[((k:Nat):Int).toNat]? with | some p=>jc n p | none=>false)=_;rw[Kk,hg]
  rw[ep]at kT kF;ac_rfl;rw[e];unfold prV at *
  try ac_rfl
  rw[pO];exact c8 (fun q=>⟨hl,by rw[aE];exact kT q _ ⟨_,rfl⟩⟩) (fun q=>kF q _ ⟨_,rfl⟩)
 rw[yM];have s1:=(Sub.refl H).put (o:=.lst ((bpl bs n).map fun k=>PV.int (k:Nat))) hq;subst hR;ac_rfl;refine⟨⟨by omega,by omega⟩,fun p hp=>?_⟩;have npq:p≠q:=fun e=>by subst e;rw[af]at hp;cases hp
 refine aA idP (pU ts n) (fun σ=>∃z,σ=[z,some (.int n),some (.tup [.int c,.tup (ts.map prV),.tup (bs.map prV)])]) (by rw[c7,JN,Kh];omega) (fun _=>trivial) ?_ ?_ ⟨_,rfl⟩
 ·rintro y hy l σ R' ⟨z,rfl⟩ hl kT kF;rw[c7]at hy;obtain⟨k,hk,rfl⟩:=JU.mp hy;have ep:pU ts n (.int (k:Nat))=decide ((((k:Nat):Int),n)∈ts):=rfl;rw[ep]at kT kF;ac_rfl;rw[sD];exact⟨aw (by decide),uX,c8 (fun q=>⟨hl,by rw[aE];exact kT q _ ⟨_,rfl⟩⟩) (fun q=>kF q _ ⟨_,rfl⟩)⟩
 rw[tT];exact⟨aw (by decide),_,Sub.refl _,h p q hq (s1.free hp) npq⟩
theorem IU(T:Tx K mg t):aM P w K mg base CX0 2 t.a_zP t.d_zP ["_law_cell","_law_many","_law_size","_law_full"] my:=by
 exists 1,T.F_zP,zT,(ae (sN 4 zT.nd (au (Bu T) hr.mo rfl T.g_zI T.F_zI.kp T.B_zI (aa (qv 0) (aa (ar (qS rfl) Cb rfl T.b_min boot_min (aa (qv 1) (aa aq ab))) ab))))
  (ao (ax (cE DP 1 [2,3,4] (cA wq) (aR rfl T.b_range (aa (qv 1) ab)) (fun _ _ _ _=>⟨(gN 0 Ht),aL,(au (F8 T) hr.mo rfl T.g_zl T.F_zl.kp T.B_zl (aa (bS (iX (qv 3) (bQ (qv 0) (ar az bu rfl T.b_len Ku (aa (qv 3) ab)))) (aY aq (bf (qv 0) aq))) (aa (qv 1) (aa (qv 2) ab))))⟩)))))
 obtain⟨cell,_,rfl,m,_,rfl,z,_,rfl,f,_,rfl,rfl,h⟩:=h
 try dsimp only at h
 obtain⟨hm,hz,h⟩:=h;left;refine⟨⟨by split<;>omega,by split<;>omega⟩,fun q xs hq hxs=>?_⟩;have lx:1≤xs.length/\xs.length≤60:=by rw[hxs];split<;>omega
 have s1:=(Sub.refl H).put (o:=.lst (xs.map PV.int)) hq;have eq:put H q (.lst (xs.map PV.int)) q=some (.lst (xs.map PV.int)):=af;generalize put H q (.lst (xs.map PV.int))=H1 at *;subst hR;ac_rfl;refine⟨⟨by omega,by omega⟩,fun acc hacc=>?_⟩;refine cg (fun i σ H2=>∃z0 ys Rw,σ=[z0,some (.int z),some (.bl f),some (.ref q)]/\U.Sub H H2/\H2 q=some (.lst (xs.map PV.int))/\H2 acc=some (.lst ys)/\Paired (RowW H H2 acc) ys Rw/\Rw.length=i/\∀ws∈Rw,Shr ws/\(ws.length:Int)=z) ?_ ?_ ⟨_,[],[],rfl,s1.put (s1.free hacc),(ag (aj eq hacc)).trans eq,af,.nil,rfl,fun ws hw=>by cases hw⟩
 ·rintro i y σ H2 R hy ⟨z0,ys,Rw,rfl,s2,hq2,ha2,pd,hl,hw⟩ kk;refine⟨trivial,?_⟩;rw[c7]at hy;obtain⟨k,hk,rfl⟩:∃k:Nat,k<400/\y=.int (k:Nat):=by
   obtain⟨k,hk,rfl⟩:=JU.mp (JX hy);exact⟨k,by have:=KI.mp hk;omega,rfl⟩
  have hi:i<m.toNat:=by
   have:=(JS.mp hy).1
   rwa [JN,Kh]at this
  ac_rfl;refine⟨_,hq2,by rw[JN];omega,_,hq2,?_⟩;rw[JN];have fk:=fm (a:=(k:Int)) (b:=((xs.length:Nat):Int)) (by omega);have e:atI (xs.map PV.int) ((k:Int).fmod ((xs.length:Nat):Int))=some (.int (xs.getD ((k:Int).fmod ((xs.length:Nat):Int)).toNat 0)):=bw fk.1 fk.2;rw[e]
  try ac_rfl
  have fl:=ft (a:=(k:Int)) (b:=60) (by omega) (by decide);refine⟨ib (by decide) (by decide),.inr ⟨cX (by decide) (by decide),cX fl.1 (by omega)⟩,hz,fun p ws hp hl2 sh=>?_⟩;have npa:p≠acc:=fun e=>by subst e;rw[ha2]at hp;cases hp
  have nqa:q≠acc:=aj eq hacc;have nqp:q≠p:=aj hq2 hp;have pl:=bH pd;refine⟨ys,(ag npa.symm).trans ha2,aO (by omega),kk _ _ ⟨_,ys++[.ref p],Rw++[ws],rfl,(s2.put (s2.free hp)).put (s1.free hacc),(ag nqa).trans ((ag nqp).trans hq2),af,dF ⟨p,rfl,(ag npa).trans af,npa,s2.free hp⟩ (bI (fun y ws y_=>by obtain⟨r,e1,e2,e3,e4⟩:=y_;exact ⟨r,e1,(ag e3).trans ((ag (aj e2 hp)).trans e2),e3,e4⟩) pd),by rw[J2,hl];rfl,fun w hw'=>?_⟩⟩;rcases K6.mp hw' with hw' | hw'
  ·exact hw w hw'
  ·rw[Ka.mp hw'];exact⟨sh,hl2⟩
 ·rintro σ H2 ⟨z0,ys,Rw,rfl,s2,hq2,ha2,pd,hl,hw⟩;refine⟨trivial,_,Sub.refl _,h acc H2 ys Rw s2 (s1.free hacc) ha2 pd ?_ hw⟩;rw[hl,c7,JN,Kh];omega
theorem E9(T:Tx K mg t):aM P w K mg base CX0 5 t.a_ze t.d_ze ["_law_world_here"] qr:=by
 exists 4,T.F_ze,mw,(ae (cu (qv 0) (cC (n:=3) rfl (aJ (gN 1 mw.nd) (aJ (gN 2 mw.nd) (aJ (gN 3 mw.nd) bY)))))
  (ae (sN 4 mw.nd (aK aH bb rfl T.b_tuple K5 (aa (cE Eb 1 [] (cA sW) (aI (qv 3)) (fun _ _ _ _=>⟨(gN 0 Je),aL,(aK aH bb rfl T.b_tuple K5 (aa (cE yH 1 [] (cok (by exact rfl) (by repeat (first | exact trivial | refine⟨rfl,?_⟩)) rfl (by rfl) (by decide +kernel) (by decide +kernel) (by rfl) (fun x hx=>absurd hx (by simp)) (by rfl) (by rfl)) (aI (qv 0)) (fun _ _ _ _=>⟨(gN 0 A1),aL,(au (Dr T) hr.mo rfl T.g_zq T.F_zq.kp T.B_zq (aa (qv 0) ab))⟩)) ab))⟩)) ab)))
  (ao (ax (bM (aa (aK aH bb rfl T.b_tuple K5 (aa (qv 1) ab)) (aa (aK aH bb rfl T.b_tuple K5 (aa (cE yH 1 [] (cA sW) (aI (qv 2)) (fun _ _ _ _=>⟨(gN 0 A1),aL,(au (Dr T) hr.mo rfl T.g_zq T.F_zq.kp T.B_zq (aa (qv 0) ab))⟩)) ab)) (aa (qv 4) ab))))))))
 obtain⟨u0,_,rfl,rfl,h⟩:=h;obtain⟨a,b,d,rfl,h⟩:=h;obtain⟨ns,Hd,Tb,ys,zs,ha,hb,hd,ry,rz,h1,h2,h⟩:=h;left
 try subst hR
 left;refine⟨_,hd,fun acc hacc=>?_⟩;have lz:=bH rz;refine cg (fun i σ H2=>∃z,σ=[z]/\U.Sub H H2/\H2 acc=some (.lst ((Tb.take i).map tbT))) ?_ ?_ ⟨_,rfl,(Sub.refl H).put hacc,af⟩
 ·rintro i y σ H2 R1 hy ⟨z,rfl,s2,ha2⟩ kk;refine⟨s2 _ _ hd,?_⟩;have hi:=(JS.mp hy).1;have tr:=cK rz hi (by omega);rw[(JS.mp hy).2]at tr;have hg:Tb[i]?=some (Tb[i]'(by omega)):=JO (by omega);generalize Tb[i]'(by omega)=Rw at *;have hR2:=h2.1 Rw (JX hg);obtain⟨r,ys',rfl,er,pr⟩:=tr;have er2:=s2 _ _ er;have pr2:Paired (cJ H2) ys' Rw:=bI (fun y ws y_=>by obtain⟨r,e1,e2⟩:=y_;exact ⟨r,e1,s2 _ _ e2⟩) pr;have ll:=bH pr2;ac_rfl;refine⟨_,er2,fun acc2 hacc2=>?_⟩;refine aA (fR H2) (fun _=>true) (fun σ=>∃z,σ=[z]) (by rw[bH pr2];omega) (fun l=>(ag (aj er2 hacc2)).trans er2) ?_ ?_ ⟨_,rfl⟩
  ·rintro y' hy' l σ' R' ⟨z',rfl⟩ hl' kT kF;obtain⟨ws,hws,row⟩:=ff pr2 hy';rw[nq row]at kT;obtain⟨r',rfl,er⟩:=row;ac_rfl;exact⟨ws,(ag (aj er hacc2)).trans er,hR2.2 ws hws,hl',by rw[aE];exact kT rfl _ ⟨_,rfl⟩⟩
  rw[oQ pr2]
  try ac_rfl
  refine⟨_,(ag (aj ha2 hacc2)).trans ha2,aO (by rw[JN,Kl];omega),kk _ _ ⟨_,rfl,(s2.put (s2.free hacc2)).put hacc,?_⟩⟩;rw[af,Kr,hg,J9];rfl
 ·rintro σ H2 ⟨z,rfl,s2,ha2⟩;refine⟨s2 _ _ hd,?_⟩;rw[lz,Ke]at ha2
  try ac_rfl
  refine⟨_,ha2,?_⟩;subst hR;have hb2:=s2 _ _ hb;have ry2:Paired (cJ H2) ys Hd:=bI (fun y ws y_=>by obtain⟨r,e1,e2⟩:=y_;exact ⟨r,e1,s2 _ _ e2⟩) ry;have ll:=bH ry2;ac_rfl;refine⟨_,s2 _ _ ha,_,hb2,fun acc3 hacc3=>?_⟩;refine aA (fR H2) (fun _=>true) (fun σ=>∃z,σ=[z]) (by rw[bH ry2];omega) (fun l=>(ag (aj hb2 hacc3)).trans hb2) ?_ ?_ ⟨_,rfl⟩
  ·rintro y' hy' l σ' R' ⟨z',rfl⟩ hl' kT kF;obtain⟨ws,hws,row⟩:=ff ry2 hy';rw[nq row]at kT;obtain⟨r',rfl,er⟩:=row;ac_rfl;exact⟨ws,(ag (aj er hacc3)).trans er,h1.1 ws hws,hl',by rw[aE];exact kT rfl _ ⟨_,rfl⟩⟩
  rw[oQ ry2]
  try ac_rfl
  exact⟨aw (by decide),H,s2.put (s2.free hacc3),h⟩
theorem Hf(T:Tx K mg t):aM P w K mg base CX0 6 t.a_zy t.d_zy ["drawing","sizes","hidden","tables"] (jH t):=by
 exists 5,T.F_zy,zQ,(ae (aS (cN zZ AK (ar az bu rfl T.b_len Ku (aa (qv 3) ab)) (br (qv 0) T.cl_A T.nfA_count rfl))
  (ao (ax eS))
  aF)
  (ae (sC 4 zQ.nd Gv 1 [0,1,2] (cA sR) (aR rfl T.b_range (aa (br (qv 0) T.cl_A T.nfA_count rfl) ab)) (fun _ _ _ _=>⟨(gN 0 Jd),aL,(au (wV T) hr.mo rfl T.g_zW T.F_zW.kp T.B_zW (aa (au (IT T) hr.mo rfl T.g_zz T.F_zz.kp T.B_zz (aa (qv 1) (aa (qv 2) (aa (qv 3) (aa (qv 0) ab))))) ab))⟩))
  (ao (ax (ar (c9 rfl) fh rfl T.b_all boot_all (aa (fF (N2:=Fo) (nt:=3) (js:=[]) (cA sR) rfl (ED rfl T.b_zip (aa (qv 3) (aa (qv 4) (aa (qv 1) ab)))) (fun _ _ _ _=>⟨(cC (n:=3) rfl (aJ (gN 0 Bm) (aJ (gN 1 Bm) (aJ (gN 2 Bm) bY)))),aL,(au (Ig T) hr.mo rfl T.g_zN T.F_zN.kp T.B_zN (aa (qv 0) (aa (qv 1) (aa (qv 2) ab))))⟩)) ab))))))
 obtain⟨x,_,rfl,k,_,rfl,l,_,rfl,m,_,rfl,rfl,h⟩:=h;obtain⟨dx,c,ts,bs,ns,Hd,Tb,hx,rfl,rfl,rfl,hs,hw,h⟩:=h;have t15:=hs.gt.len hs.hc.2;have c6:=hs.hc;have ln:=hw.ln;have lt:=hw.lt;have b6:=hs.l6;left;refine⟨dx,_,_,hx,rfl,aU (by rw[JN];simp;omega) ?_⟩;right;refine⟨dx,_,_,hx,rfl,⟨by omega,by omega⟩,fun acc hacc=>?_⟩;refine cg (fun i σ H2=>∃z,σ=[z,some (.ref x),some (.tup (ns.map PV.int)),some (.tup (Hd.map shT))]/\U.Sub H H2/\H2 acc=some (.lst ((List.range i).map fun k=>PV.int (prod (hdz ns Hd ts bs (k:Nat)))))) ?_ ?_ ⟨_,rfl,(Sub.refl H).put hacc,af⟩
 ·rintro i y σ H2 R1 hy ⟨z,rfl,s2,ha2⟩ kk;refine⟨trivial,?_⟩;rw[c7]at hy;have hi:i<c.toNat:=by
   have:=(JS.mp hy).1
   rwa [JN,Kh]at this
  obtain rfl:y=.int (i:Nat):=by
   rw[JV,List.getElem?_range hi]at hy;exact(Ks hy).symm
  ac_rfl;refine⟨dx,c,ts,bs,ns,Hd,s2 _ _ hx,rfl,ln,hs.gt,c6.2,rfl,hw.lh,b6,⟨by omega,by omega⟩,fun p H3 s3 hp e3=>?_⟩
  try ac_rfl
  have ep:H3 p=some (.lst ((hdz ns Hd ts bs (i:Nat)).map PV.int)):=e3;have hl:=yN (ns:=ns) (Hd:=Hd) (ts:=ts) (bs:=bs) (n:=(i:Nat));have pos:=hw.pos hs.gt (i:Nat);have hg:Tb[i]?=some (Tb[i]'(by omega)):=JO (by omega);have tb:=hw.tb i _ hg;have pt:=fun k=>cz (l:=hdz ns Hd ts bs (i:Nat)) (fun n hn=>(pos n hn).1) k;refine⟨_,.inr ⟨p,rfl,ep⟩,by omega,fun k=>by have:=pt k;omega,fun n hn=>by have:=pos n hn;omega,_,s3 _ _ ha2,aO (by rw[JN,Kh];omega),kk _ _ ⟨_,rfl,(s2.trans s3).put hacc,?_⟩⟩;rw[af,LL,J9];rfl
 ·rintro σ H2 ⟨z,rfl,s2,ha2⟩;refine⟨trivial,?_⟩;rw[c7,JN,Kh]at ha2;subst hR;ac_rfl;refine⟨_,ha2,by rw[JN,JN,Kh];omega,by rw[JN,JN];omega,fun acc3 hacc3=>?_⟩;refine aA (fun _=>PV.bl true) (fun _=>true) (fun σ=>∃y1 y2 y3,σ=[y1,y2,y3]) (by unfold mi;rw[JN,JN,Kh];omega) (fun l=>(ag (aj ha2 hacc3)).trans ha2) ?_ ?_ ⟨_,_,_,rfl⟩
  ·rintro y hy l σ R' ⟨y1,y2,y3,rfl⟩ hl' kT kF;obtain⟨k,hk,rfl⟩:=JU.mp hy;have hk:=KI.mp hk;rw[JN]at hk;have hg:Tb[k]?=some Tb[k]:=JO hk;have tb:=hw.tb k _ hg;have e1:(Tb.map tbT).getD k .non=tbT Tb[k]:=by rw[JQ,JV,hg];rfl
   have e2:((List.range c.toNat).map fun k=>PV.int (prod (hdz ns Hd ts bs (k:Nat)))).getD k .non=.int (prod (hdz ns Hd ts bs (k:Nat))):=by rw[JQ,JV,List.getElem?_range (by omega)];rfl
   have e3:(ns.map PV.int).getD k .non=.int (ns.getD k 0):=by
    have:k<ns.length:=by omega
    rw[JQ,JQ,JV,JO this];rfl
   rw[e1,e2,e3]at *;unfold tbT at *;ac_rfl;exact⟨_,rfl,tb.1,by omega,tb.2.2,hl',by rw[aE];exact kT rfl _ ⟨_,_,_,rfl⟩⟩
  have em:∀L:List PV,((L.filter fun _=>true).map fun _=>PV.bl true)=(L.map fun _=>true).map PV.bl:=fun L=>by
   rw[Kg.mpr (fun _ _=>rfl),JY];rfl
  rw[em]
  try ac_rfl
  exact⟨_,rfl,H,s2.put (s2.free hacc3),by rw[o9];exact h⟩
theorem IZ(T:Tx K mg t):aM P w K mg base CX0 7 t.a_zx t.d_zx ["self","drawing","sizes","hidden","tables"] (mT t P w):=by
 exists 6,T.F_zx,mS,(ae (sN 5 mS.nd (kB T.mk_A (Gs T) hr.mo rfl T.g_A T.B_zi (aa (br (qv 1) T.cl_A T.nfA_count rfl) (aa (br (qv 1) T.cl_A T.nfA_ties rfl) (aa (br (qv 1) T.cl_A T.nfA_bows rfl) ab)))))
  (ae (sN 6 mS.nd (aK aH bb rfl T.b_tuple K5 (aa (qv 2) ab)))
  (ae (aS (dJ (bA (au (HF T) hr.mo rfl T.g_zD T.F_zD.kp T.B_zD (aa (qv 5) (aa (qv 6) ab)))))
  bC
  aF)
  (ae (sN 7 mS.nd (aK aH bb rfl T.b_tuple K5 (aa (cE nl7 1 [] (cA rS) (aI (qv 3)) (fun _ _ _ _=>⟨(gN 0 nn7),aL,(au (ER T) hr.mo rfl T.g_zX T.F_zX.kp T.B_zX (aa (qv 0) ab))⟩)) ab)))
  (ae (aS (dJ (bA (au (HJ T) hr.mo rfl T.g_zr T.F_zr.kp T.B_zr (aa (qv 5) (aa (qv 7) ab)))))
  bC
  aF)
  (ae (aS (cN jf iM (aY (au (wV T) hr.mo rfl T.g_zW T.F_zW.kp T.B_zW (aa (qv 6) ab)) (au (wV T) hr.mo rfl T.g_zW T.F_zW.kp T.B_zW (aa (cE nl7 1 [] (cA rS) (aI (qv 7)) (fun _ _ _ _=>⟨(gN 0 nn7),aL,(ar az bu rfl T.b_len Ku (aa (qv 0) ab))⟩)) ab))) (dq (v':=.int 200000) rfl T.c_MOST_WEIGHTS (fun _=>by simp[RP])))
  bC
  aF)
  (ae (sN 8 mS.nd (aK aH bb rfl T.b_tuple K5 (aa (cE FF 1 [] (cA rS) (aI (qv 4)) (fun _ _ _ _=>⟨(gN 0 GL),aL,(aK aH bb rfl T.b_tuple K5 (aa (cE Fs 1 [] (cok (by exact rfl) (by repeat (first | exact trivial | refine⟨rfl,?_⟩)) rfl (by rfl) (by decide +kernel) (by decide +kernel) (by rfl) (fun x hx=>absurd hx (by simp)) (by rfl) (by rfl)) (aI (qv 0)) (fun _ _ _ _=>⟨(gN 0 GO),aL,(au (ER T) hr.mo rfl T.g_zX T.F_zX.kp T.B_zX (aa (qv 0) ab))⟩)) ab))⟩)) ab)))
  (ae (aS (dJ (bA (au (Hf T) hr.mo rfl T.g_zy T.F_zy.kp T.B_zy (aa (qv 5) (aa (qv 6) (aa (qv 7) (aa (qv 8) ab)))))))
  bC
  aF)
  (ae (eF (qv 0) (qv 5) T.cl_B T.nf_World_drawing rfl)
  (ae (eF (qv 0) (qv 6) T.cl_B T.nf_World_sizes rfl)
  (ae (eF (qv 0) (qv 7) T.cl_B T.nf_World_hidden rfl)
  (ae (eF (qv 0) (qv 8) T.cl_B T.nf_World_tables rfl)
  (ao (eF (qv 0) iK T.cl_B T.nf_World_weighed rfl))))))))))))))
 obtain⟨x,_,rfl,d0,_,rfl,a,_,rfl,b,_,rfl,d,_,rfl,rfl,h⟩:=h;obtain⟨dx,d1,c,ts,bs,ns,Hd,Tb,ys,zs,hx,h0,ha,hb,hd,ry,rz,hs,hw,h⟩:=h;have t15:=hs.gt.len hs.hc.2;have c6:=hs.hc;have ln:=hw.ln;have lt:=hw.lt;have lh:=hw.lh;have b6:=hs.l6;have ly:=bH ry;have lz:=bH rz;left;refine⟨d1,_,_,h0,rfl,d1,_,_,h0,rfl,d1,_,_,h0,rfl,fun y dy hy hdy ne=>⟨dy,_,_,ts,bs,af,.inl rfl,.inl rfl,d7,d7,hs.gt,hs.gb,⟨c6.1,c6.2,b6⟩,fun ts' bs' pt st pb sb=>?_⟩⟩;obtain rfl:ts'=ts:=DM.ik pt st (L8 _) hs.st;obtain rfl:bs'=bs:=DM.ik pb sb (L8 _) hs.sb
 try ac_rfl
 rw[aE];have s1:=(Sub.refl H).put (o:=.ins t.a_A dy (DF c ts' bs')) hy;have hy1:put H y (.ins t.a_A dy (DF c ts' bs')) y=some (.ins t.a_A dy (DF c ts' bs')):=af;generalize put H y (.ins t.a_A dy (DF c ts' bs'))=H1 at *;right;refine⟨_,s1 _ _ ha,?_⟩;right;refine⟨dy,c,ts',bs',ns,hy1,rfl,ln,by omega,hw.n4,?_⟩
 try ac_rfl
 right;have ry1:=dQ.up s1 ry;have hb1:=s1 _ _ hb;refine⟨_,hb1,fun p1 hp1=>?_⟩;refine aA (ko H1) (fun _=>true) (fun σ=>∃z,σ=[z]) (by rw[bH ry1];omega) (fun l=>(ag (aj hb1 hp1)).trans hb1) ?_ ?_ ⟨_,rfl⟩
 ·rintro y' hy' l σ' R' ⟨z',rfl⟩ hl' kT kF;obtain⟨ws,hws,row⟩:=ff ry1 hy';have sw:=((hw.h4 ws hws).1).2.2.2.2;rw[dQ.tp row,tm]at kT;ac_rfl;exact⟨_,(dQ.cp row).up ((Sub.refl _).put hp1),by rw[JN];omega,hl',by rw[aE];exact kT rfl _ ⟨_,rfl⟩⟩
 rw[uW ry1];have s2:=s1.put (o:=.lst (Hd.map shT)) (s1.free hp1);have hy2:=(ag (o:=.lst (Hd.map shT)) (aj hy1 hp1)).trans hy1;have hp12:put H1 p1 (.lst (Hd.map shT)) p1=some (.lst (Hd.map shT)):=af;generalize put H1 p1 (.lst (Hd.map shT))=H2 at *
 try ac_rfl
 refine⟨_,hp12,?_⟩;right;refine⟨dy,c,ts',bs',Hd,hy2,rfl,lh,by omega,hw.h4,?_⟩
 try ac_rfl
 right;have n1:∀n∈ns,1≤n:=fun n hn=>by have:=hw.n4 n hn;omega
 have m1:∀n∈Hd.map fun ws=>((ws.length:Nat):Int),1≤n/\n≤4:=fun n hn=>by
  obtain⟨ws,hws,rfl⟩:=JU.mp hn;have:=hw.h4 ws hws;omega
 have pn:=aP n1;have pm:=aP fun n hn=>(m1 n hn).1;have most:=hw.most;have le1:=bK (a:=prod ns) (b:=prod (Hd.map fun ws=>((ws.length:Nat):Int))) (by omega) pm;have le2:=bK (a:=prod (Hd.map fun ws=>((ws.length:Nat):Int))) (b:=prod ns) (by omega) pn;rw[KP]at le2;refine⟨ns,.inl rfl,by omega,fun k=>by have:=cz n1 k;omega,fun n hn=>by have:=hw.n4 n hn;omega,fun p2 hp2=>?_⟩;refine aA fL (fun _=>true) (fun σ=>∃z,σ=[z]) (by rw[JN];omega) (fun _=>trivial) ?_ ?_ ⟨_,rfl⟩
 ·rintro y' hy' l σ' R' ⟨z',rfl⟩ hl' kT kF;obtain⟨ws,hws,rfl⟩:=JU.mp hy';unfold shT at *;ac_rfl;exact⟨hl',by rw[aE];exact kT rfl _ ⟨_,rfl⟩⟩
 rw[tZ];have s3:=s2.put (o:=.lst ((Hd.map fun ws=>((ws.length:Nat):Int)).map PV.int)) (s2.free hp2);have hy3:=(ag (o:=.lst ((Hd.map fun ws=>((ws.length:Nat):Int)).map PV.int)) (aj hy2 hp2)).trans hy2;have hp3:put H2 p2 (.lst ((Hd.map fun ws=>((ws.length:Nat):Int)).map PV.int)) p2=some (.lst ((Hd.map fun ws=>((ws.length:Nat):Int)).map PV.int)):=af;generalize put H2 p2 (.lst ((Hd.map fun ws=>((ws.length:Nat):Int)).map PV.int))=H3 at *
 try ac_rfl
 refine⟨_,.inr ⟨p2,rfl,hp3⟩,by rw[JN];omega,fun k=>by have:=cz (fun n hn=>(m1 n hn).1) k;omega,fun n hn=>by have:=m1 n hn;omega,?_⟩
 try ac_rfl
 refine⟨.inr ⟨cX (by omega) (by omega),cX (by omega) (by omega)⟩,aU (by simp;omega) ?_⟩;right;refine⟨_,s3 _ _ hd,fun p4 hp4=>?_⟩;refine cg (fun i σ H4=>∃z,σ=[z]/\U.Sub H3 H4/\H4 p4=some (.lst ((Tb.take i).map tbT))) ?_ ?_ ⟨_,rfl,(Sub.refl H3).put hp4,af⟩
 ·rintro i y' σ H4 R1 hy' ⟨z,rfl,s4,ha4⟩ kk;have s34:=s3.trans s4;refine⟨s34 _ _ hd,?_⟩;have hi:=(JS.mp hy').1;have tr:=cK rz hi (by omega);rw[(JS.mp hy').2]at tr;have hg:Tb[i]?=some (Tb[i]'(by omega)):=JO (by omega);generalize Tb[i]'(by omega)=Rw at *;have tb:=hw.tb i Rw hg;obtain⟨ys',sq,pr⟩:=tr;have pr4:=dQ.up s34 pr;have ll:=bH pr4;ac_rfl;refine iG (sq.up s34) fun ok hok p5 hp5=>?_;refine aA (ko H4) (fun _=>true) (fun σ=>∃z,σ=[z]) (by rw[bH pr4];omega) (fun l=>hok _ ((Sub.refl _).put hp5)) ?_ ?_ ⟨_,rfl⟩
  ·rintro y' hy' l σ' R' ⟨z',rfl⟩ hl' kT kF;obtain⟨ws,hws,row⟩:=ff pr4 hy';have sw:=((tb.2.2 ws hws).1).2.2.2.2;rw[dQ.tp row,tm]at kT;ac_rfl;exact⟨_,(dQ.cp row).up ((Sub.refl _).put hp5),by rw[JN];omega,hl',by rw[aE];exact kT rfl _ ⟨_,rfl⟩⟩
  rw[uW pr4]
  try ac_rfl
  refine⟨_,(ag (aj ha4 hp5)).trans ha4,aO (by rw[JN,Kl];omega),kk _ _ ⟨_,rfl,(s4.put (s4.free hp5)).put hp4,?_⟩⟩;rw[af,Kr,hg,J9];rfl
 ·rintro σ H4 ⟨z,rfl,s4,ha4⟩;have s34:=s3.trans s4;refine⟨s34 _ _ hd,?_⟩;rw[lz,Ke]at ha4;have hy4:=s4 _ _ hy3;have hx4:=s34 _ _ hx
  try ac_rfl
  refine⟨_,ha4,?_⟩;right;refine⟨dy,c,ts',bs',ns,Hd,Tb,hy4,rfl,rfl,rfl,hs,hw,?_⟩
  try ac_rfl
  subst hR;have nyx:y≠x:=fun e=>by subst e;rw[hx]at hy;cases hy
  have k4:∀a u,a≠x->H a=some u->H4 a=some u:=fun a u _ e=>s34 _ _ e;left;refine⟨_,_,hx4,by simp,?_⟩;subst hR;rw[show fV "drawing" (PV.ref y) ([]:List (Str×PV))=([("drawing",PV.ref y)]:List (Str×PV))from rfl];have hx5:put H4 x (.ins t.a_B dx [("drawing",PV.ref y)]) x=some (.ins t.a_B dx [("drawing",PV.ref y)]):=af;have hy5:=(ag (o:=.ins t.a_B dx [("drawing",PV.ref y)]) nyx).trans hy4;have k5:∀a u,a≠x->H a=some u->put H4 x (.ins t.a_B dx [("drawing",PV.ref y)]) a=some u:=fun a u n e=>(ag n).trans (k4 a u n e);generalize put H4 x (.ins t.a_B dx [("drawing",PV.ref y)])=H5 at *;left;refine⟨_,_,hx5,by simp,?_⟩;subst hR;rw[show fV "sizes" (PV.tup (ns.map PV.int)) ([("drawing",PV.ref y)]:List (Str×PV))=([("drawing",PV.ref y),("sizes",PV.tup (ns.map PV.int))]:List (Str×PV))from rfl];have hx6:put H5 x (.ins t.a_B dx [("drawing",PV.ref y),("sizes",PV.tup (ns.map PV.int))]) x=some (.ins t.a_B dx [("drawing",PV.ref y),("sizes",PV.tup (ns.map PV.int))]):=af;have hy6:=(ag (o:=.ins t.a_B dx [("drawing",PV.ref y),("sizes",PV.tup (ns.map PV.int))]) nyx).trans hy5;have k6:∀a u,a≠x->H a=some u->put H5 x (.ins t.a_B dx [("drawing",PV.ref y),("sizes",PV.tup (ns.map PV.int))]) a=some u:=fun a u n e=>(ag n).trans (k5 a u n e);generalize put H5 x (.ins t.a_B dx [("drawing",PV.ref y),("sizes",PV.tup (ns.map PV.int))])=H6 at *;left;refine⟨_,_,hx6,by simp,?_⟩;subst hR;rw[show fV "hidden" (PV.tup (Hd.map shT)) ([("drawing",PV.ref y),("sizes",PV.tup (ns.map PV.int))]:List (Str×PV))=([("drawing",PV.ref y),("sizes",PV.tup (ns.map PV.int)),("hidden",PV.tup (Hd.map shT))]:List (Str×PV))from rfl];have hx7:put H6 x (.ins t.a_B dx [("drawing",PV.ref y),("sizes",PV.tup (ns.map PV.int)),("hidden",PV.tup (Hd.map shT))]) x=some (.ins t.a_B dx [("drawing",PV.ref y),("sizes",PV.tup (ns.map PV.int)),("hidden",PV.tup (Hd.map shT))]):=af;have hy7:=(ag (o:=.ins t.a_B dx [("drawing",PV.ref y),("sizes",PV.tup (ns.map PV.int)),("hidden",PV.tup (Hd.map shT))]) nyx).trans hy6;have k7:∀a u,a≠x->H a=some u->put H6 x (.ins t.a_B dx [("drawing",PV.ref y),("sizes",PV.tup (ns.map PV.int)),("hidden",PV.tup (Hd.map shT))]) a=some u:=fun a u n e=>(ag n).trans (k6 a u n e);generalize put H6 x (.ins t.a_B dx [("drawing",PV.ref y),("sizes",PV.tup (ns.map PV.int)),("hidden",PV.tup (Hd.map shT))])=H7 at *;left;refine⟨_,_,hx7,by simp,?_⟩;subst hR;rw[show fV "tables" (PV.tup (Tb.map tbT)) ([("drawing",PV.ref y),("sizes",PV.tup (ns.map PV.int)),("hidden",PV.tup (Hd.map shT))]:List (Str×PV))=([("drawing",PV.ref y),("sizes",PV.tup (ns.map PV.int)),("hidden",PV.tup (Hd.map shT)),("tables",PV.tup (Tb.map tbT))]:List (Str×PV))from rfl];have hx8:put H7 x (.ins t.a_B dx [("drawing",PV.ref y),("sizes",PV.tup (ns.map PV.int)),("hidden",PV.tup (Hd.map shT)),("tables",PV.tup (Tb.map tbT))]) x=some (.ins t.a_B dx [("drawing",PV.ref y),("sizes",PV.tup (ns.map PV.int)),("hidden",PV.tup (Hd.map shT)),("tables",PV.tup (Tb.map tbT))]):=af;have hy8:=(ag (o:=.ins t.a_B dx [("drawing",PV.ref y),("sizes",PV.tup (ns.map PV.int)),("hidden",PV.tup (Hd.map shT)),("tables",PV.tup (Tb.map tbT))]) nyx).trans hy7;have k8:∀a u,a≠x->H a=some u->put H7 x (.ins t.a_B dx [("drawing",PV.ref y),("sizes",PV.tup (ns.map PV.int)),("hidden",PV.tup (Hd.map shT)),("tables",PV.tup (Tb.map tbT))]) a=some u:=fun a u n e=>(ag n).trans (k7 a u n e);generalize put H7 x (.ins t.a_B dx [("drawing",PV.ref y),("sizes",PV.tup (ns.map PV.int)),("hidden",PV.tup (Hd.map shT)),("tables",PV.tup (Tb.map tbT))])=H8 at *;ac_rfl;refine fun q hq=>⟨_,_,(ag (aj hx8 hq)).trans hx8,by simp,_,Sub.refl _,h y dy q _ (fun a u n e=>(ag n).trans ((ag (aj (k8 a u n e) hq)).trans (k8 a u n e))) af ((ag nyx).trans ((ag (aj hy8 hq)).trans hy8)) hy ((ag (aj hx8 hq).symm).trans af) (oU k8 hx8 hq)⟩
theorem Fg(T:Tx K mg t):aM P w K mg base CX0 6 t.a_zF t.d_zF ["_law_script","_law_at","_law_shape","_law_most"] mm:=by
 exists 5,T.F_zF,bU,(ae (cu (qv 2) (cC (n:=3) rfl (aJ (gN 4 bU.nd) (aJ (gN 5 bU.nd) (aJ (gN 6 bU.nd) bY)))))
  (ae (sN 7 bU.nd (au (Bu T) hr.mo rfl T.g_zI T.F_zI.kp T.B_zI (aa (au (rG T) hr.mo rfl T.g_zn T.F_zn.kp T.B_zn (aa (qv 0) (aa (qv 1) ab))) (aa aq ab))))
  (ae (sN 8 bU.nd (bc jf iM (bQ (au (rG T) hr.mo rfl T.g_zn T.F_zn.kp T.B_zn (aa (qv 0) (aa (bS (qv 1) aq) ab))) aq) aq (ba _)))
  (ae (sC 9 bU.nd D6 1 [] (cA xf) (aR rfl T.b_range (aa (qv 4) ab)) (fun _ _ _ _=>⟨(gN 0 GG),aL,aq⟩))
  (ae (sN 10 bU.nd (BQ aq (qv 4)))
  (ae (aZ Kj rfl (aR rfl T.b_range (aa (qv 4) ab)) (gN 11 bU.nd)
  (ae (sN 12 bU.nd (iX (bE (aa aq (aa aq (aa aq (aa aq ab))))) (bQ (iX (qv 7) (qv 11)) aq)))
   (ao (aS (cN jN jI (aY (bf (qv 10) aq) (qv 12)) (bf (qv 3) aq))
   (ae (sN 10 bU.nd (aY (bf (qv 10) aq) (qv 12)))
    (ao (cu (qv 12) (nZ (qv 9) (qv 11)))))
   aF))))
  (ae (sN 13 bU.nd (bE ab))
  (ae (aZ Kj rfl (aR rfl T.b_range (aa (ar az bu rfl T.b_len Ku (aa (qv 6) ab)) ab)) (gN 14 bU.nd)
  (ae (sN 15 bU.nd (iX (bE (aa aq (aa aq (aa aq (aa aq (aa aq ab)))))) (bQ (iX (qv 7) (bS aq (qv 14))) aq)))
   (ae (aS (cN jf iM (aY (qv 10) (qv 15)) (qv 3))
   (ao (sN 15 bU.nd aq))
   aF)
   (ae (sN 10 bU.nd (aY (qv 10) (qv 15)))
   (ao (bT (dS KR KS bJ bV (qv 13) (aa (au (F8 T) hr.mo rfl T.g_zl T.F_zl.kp T.B_zl (aa (bf (iX (qv 7) (bS aq (qv 14))) aq) (aa (qv 15) (aa eS ab)))) ab))))))))
  (ae (sN 16 bU.nd (bE ab))
  (ae (aZ Kj rfl (aR rfl T.b_range (aa (qv 4) ab)) (gN 11 bU.nd)
  (ae (cu (au (Eo T) hr.mo rfl T.g_zG T.F_zG.kp T.B_zG (aa (qv 2) (aa (qv 11) ab))) (cC (n:=2) rfl (aJ (gN 17 bU.nd) (aJ (gN 18 bU.nd) bY))))
   (ae (sN 19 bU.nd aq)
   (ae (aZ Kj rfl (aI (qv 17)) (gN 20 bU.nd)
   (ao (sN 19 bU.nd (aY (qv 19) (iX (qv 9) (qv 20))))))
   (ae (aZ Kj rfl (aI (qv 18)) (gN 14 bU.nd)
   (ao (sN 19 bU.nd (aY (qv 19) (ar az bu rfl T.b_len Ku (aa (iX (qv 13) (qv 14)) ab))))))
   (ao (bT (dS KR KS bJ bV (qv 16) (aa (au (IU T) hr.mo rfl T.g_zP T.F_zP.kp T.B_zP (aa (au (rG T) hr.mo rfl T.g_zn T.F_zn.kp T.B_zn (aa (qv 0) (aa (bS (bS (qv 1) aq) (qv 11)) ab))) (aa (qv 19) (aa (iX (qv 9) (qv 11)) (aa (qv 8) ab))))) ab)))))))))
  (ao (ax (bM (aa (qv 9) (aa (qv 13) (aa (qv 16) ab))))))))))))))))
 obtain⟨l,_,rfl,k,_,rfl,u0,_,rfl,m,_,rfl,rfl,h⟩:=h;obtain⟨c,tv,bv,rfl,h⟩:=h;obtain⟨is,ts,bs,rfl,rfl,rfl,hk,hm,hs,h⟩:=h;have c6:=hs.hc;have b6:=hs.l6;left;right;refine⟨⟨by omega,by omega⟩,is,rfl,⟨by decide,by decide⟩,fun xa xs hxa hxs=>?_⟩;have s1:=(Sub.refl H).put (o:=.lst (xs.map PV.int)) hxa;have ex:put H xa (.lst (xs.map PV.int)) xa=some (.lst (xs.map PV.int)):=af;generalize put H xa (.lst (xs.map PV.int))=H1 at *;right;refine⟨⟨by omega,by omega⟩,is,rfl,by decide,?_⟩;generalize decide (0<(is.getD (k+1).toNat 0).fmod 3)=f at *;right;refine⟨⟨by omega,by omega⟩,fun sa hsa=>?_⟩;refine aA (fun _=>PV.int 2) (fun _=>true) (fun σ=>∃z,σ=[z]) (by rw[c7,JN,Kh];omega) (fun _=>trivial) ?_ ?_ ⟨_,rfl⟩
 ·rintro y hy l σ R' ⟨z,rfl⟩ hl kT kF;ac_rfl;exact⟨hl,by rw[aE];exact kT rfl _ ⟨_,rfl⟩⟩
 have em:(((bN 0 c.toNat).filter fun _=>true).map fun _=>PV.int 2)=(List.replicate c.toNat (2:Int)).map PV.int:=by
  rw[Kg.mpr (fun _ _=>rfl),c7,JY,List.map_replicate];refine List.ext_getElem (by simp) fun j h1 h2=>?_;simp
 rw[em];obtain⟨z0,zp⟩:=Sz.zero c6;right;refine⟨⟨by omega,by omega,by decide⟩,?_⟩;rw[←zp];clear zp;have s2:=s1.put (o:=.lst ((List.replicate c.toNat (2:Int)).map PV.int)) (s1.free hsa);have nxs:xa≠sa:=aj ex hsa;right;refine⟨⟨by omega,by omega⟩,?_⟩;refine dw (fun i σ H2=>∃ns z11 z12,σ=[some (.fls (is.map PV.int)),some (.int k),some (.tup [.int c,.tup (ts.map prV),.tup (bs.map prV)]),some (.int m),some (.int c),some (.tup (ts.map prV)),some (.tup (bs.map prV)),some (.ref xa),some (.bl f),some (.ref sa),some (.int (prod ns)),z11,z12,none,none,none,none,none,none,none,none]/\U.Sub H1 H2/\H2 sa=some (.lst (ns.map PV.int))/\Sz c i ns) ?_ ?_ ⟨_,_,_,rfl,(Sub.refl H1).put hsa,af,z0⟩
 ·rintro σ H2 ⟨ns,z11,z12,rfl,s2,es,sz⟩;refine⟨trivial,?_⟩;subst hR;dsimp only;left;refine⟨aw (by decide),fun hb hhb=>?_⟩;subst hR;have ex2:=s2 _ _ ex;have nxh:=aj ex2 hhb;have nsh:=aj es hhb;have p1:=aP (l:=ns) fun n hn=>by have:=sz.n4 n hn;omega
  have p2:=sz.le;left;rw[JN];refine⟨⟨by omega,by omega⟩,?_⟩;refine dw (fun i σ H3=>∃ys Hd z12 z14 z15,σ=[some (.fls (is.map PV.int)),some (.int k),some (.tup [.int c,.tup (ts.map prV),.tup (bs.map prV)]),some (.int m),some (.int c),some (.tup (ts.map prV)),some (.tup (bs.map prV)),some (.ref xa),some (.bl f),some (.ref sa),some (.int (prod ns*prod (Hd.map fun ws:List Int=>(ws.length:Int)))),z11,z12,some (.ref hb),z14,z15,none,none,none,none,none]/\U.Sub H2 H3/\H3 hb=some (.lst ys)/\Paired (fx hb H3) ys Hd/\Hd.length=i/\(∀ws∈Hd,Shr ws/\1≤ws.length/\ws.length≤4)/\prod ns*prod (Hd.map fun ws:List Int=>(ws.length:Int))≤300) ?_ ?_ ⟨[],[],_,_,_,by rw[Lc];show _=[_,_,_,_,_,_,_,_,_,_,some (PV.int (prod ns*1)),_,_,_,_,_,_,_,_,_,_];rw[Lk],(Sub.refl H2).put hhb,af,.nil,rfl,fun ws hw=>(by cases hw),by show prod ns*1≤300;omega⟩
  ·rintro σ H3 ⟨ys,Hd,z12,z14,z15,rfl,s3,eh,pd,lh,h4,mst⟩;refine⟨trivial,?_⟩;subst hR;dsimp only;left;refine⟨aw (by decide),fun td htd=>?_⟩;subst hR;have es3:=s3 _ _ es;have ly:=bH pd;have lh':Hd.length=bs.length:=lh;left;refine⟨⟨by omega,by omega⟩,?_⟩;refine dw (fun i σ H5=>∃zs Tb z11 z14 z17 z18 z19 z20,σ=[some (.fls (is.map PV.int)),some (.int k),some (.tup [.int c,.tup (ts.map prV),.tup (bs.map prV)]),some (.int m),some (.int c),some (.tup (ts.map prV)),some (.tup (bs.map prV)),some (.ref xa),some (.bl f),some (.ref sa),some (.int (prod ns*prod (Hd.map fun ws:List Int=>(ws.length:Int)))),z11,z12,some (.ref hb),z14,z15,some (.ref td),z17,z18,z19,z20]/\U.Sub H3 H5/\H5 td=some (.lst zs)/\Paired (qD td H5) zs Tb/\Tb.length=i/\∀(k:Nat) Rw,Tb[k]?=some Rw->(Rw.length:Int)=prod (hdz ns Hd ts bs (k:Nat))/\Rw.length≤400/\∀ws∈Rw,Shr ws/\(ws.length:Int)=ns.getD k 0) ?_ ?_ ⟨[],[],_,_,_,_,_,_,rfl,(Sub.refl H3).put htd,af,.nil,rfl,fun k Rw q=>by cases q⟩
   ·rintro σ H5 ⟨zs,Tb,z11,z14,z17,z18,z19,z20,rfl,s5,et,pt,lt,ht⟩;refine⟨trivial,?_⟩;subst hR;ac_rfl;have s15:=s2.trans (s3.trans s5);have ln:=sz.ln;refine⟨aw (by decide),H5,Sub.refl _,h sa hb td ns Hd Tb ys zs H5 (s1.trans s15) (s5 _ _ es3) (s5 _ _ eh) et (bI (fun y ws y_=>by obtain⟨r,e1,_,e2⟩:=y_;exact ⟨r,e1,s5 _ _ e2⟩) pd) (bI (fun z Rw y_=>by obtain⟨r,ys,e1,_,e2,w⟩:=y_;exact ⟨r,ys,e1,e2,bI (fun y ws y_=>by obtain⟨r,e1,_,e2⟩:=y_;exact ⟨r,e1,e2⟩) w⟩) pt) ⟨by omega,sz.n4,lh',h4,by omega,by omega,ht⟩⟩
   ·rintro D i σ H5 hi ⟨zs,Tb,z11,z14,z17,z18,z19,z20,rfl,s5,et,pt,lt,ht⟩ kk;refine⟨trivial,?_⟩;have ln:=sz.ln;have hic:0≤((i:Nat):Int)/\((i:Nat):Int)<c:=by omega
    have hZ:=CY (ns:=ns) (Hd:=Hd) hs hic.2;have zle:=BI hs hic (by omega) sz.n4 lh' h4;have zpos:=kL (c:=c) (by omega) sz.n4 lh' h4 hs.gt ((i:Nat):Int);have zt:=fun m=>cz (fun x hx=>(zpos x hx).1) m;generalize eZ:hdz ns Hd ts bs ((i:Nat):Int)=Z at hZ zle zpos zt;simp only[bZ,KL,KH];left;refine⟨ts,bs,rfl,rfl,⟨by omega,by omega⟩,b6,fun p q hq hp npq=>?_⟩;have k6:∀a u,H5 a=some u->put (put H5 q (.lst ((bpl bs (i:Nat)).map fun k=>PV.int (k:Nat)))) p (.lst ((cF ts (i:Nat)).map PV.int)) a=some u:=fun a u e=>(ag (aj e hp)).trans ((ag (aj e hq)).trans e);have ep:put (put H5 q (.lst ((bpl bs (i:Nat)).map fun k=>PV.int (k:Nat)))) p (.lst ((cF ts (i:Nat)).map PV.int)) p=some (.lst ((cF ts (i:Nat)).map PV.int)):=af;have eq:put (put H5 q (.lst ((bpl bs (i:Nat)).map fun k=>PV.int (k:Nat)))) p (.lst ((cF ts (i:Nat)).map PV.int)) q=some (.lst ((bpl bs (i:Nat)).map fun k=>PV.int (k:Nat))):=(ag npq.symm).trans af;generalize put (put H5 q (.lst ((bpl bs (i:Nat)).map fun k=>PV.int (k:Nat)))) p (.lst ((cF ts (i:Nat)).map PV.int))=H6 at *;have s6:U.Sub H3 H6:=fun a u e=>k6 _ _ (s5 _ _ e);have et6:=k6 _ _ et;have pt6:=qD.up (fun a u _ e=>k6 a u e) pt;have es6:=s6 _ _ es3;have eh6:=s6 _ _ eh;right;right;refine⟨_,ep,?_⟩;refine a9 (fun j σ H7=>∃z20,σ=[some (.fls (is.map PV.int)),some (.int k),some (.tup [.int c,.tup (ts.map prV),.tup (bs.map prV)]),some (.int m),some (.int c),some (.tup (ts.map prV)),some (.tup (bs.map prV)),some (.ref xa),some (.bl f),some (.ref sa),some (.int (prod ns*prod (Hd.map fun ws:List Int=>(ws.length:Int)))),some (.int (i:Nat)),z12,some (.ref hb),z14,z15,some (.ref td),some (.ref p),some (.ref q),some (.int (prod (Z.take j))),z20]/\H7=H6) ?_ ?_ ⟨_,rfl,rfl⟩
    ·rintro σ H7 ⟨z20,rfl,rfl⟩;refine⟨ep,?_⟩;subst hR;dsimp only;left;refine⟨_,eq,?_⟩;rw[JN];refine a9 (fun j σ H8=>∃z14,σ=[some (.fls (is.map PV.int)),some (.int k),some (.tup [.int c,.tup (ts.map prV),.tup (bs.map prV)]),some (.int m),some (.int c),some (.tup (ts.map prV)),some (.tup (bs.map prV)),some (.ref xa),some (.bl f),some (.ref sa),some (.int (prod ns*prod (Hd.map fun ws:List Int=>(ws.length:Int)))),some (.int (i:Nat)),z12,some (.ref hb),z14,z15,some (.ref td),some (.ref p),some (.ref q),some (.int (prod (Z.take ((cF ts (i:Nat)).length+j)))),z20]/\H8=H7) ?_ ?_ ⟨_,rfl,rfl⟩
     ·rintro σ H8 ⟨z14,rfl,rfl⟩;refine⟨eq,?_⟩;rw[JN];have zz:Z.take ((cF ts (i:Nat)).length+(bpl bs (i:Nat)).length)=Z:=by
       refine List.take_of_length_le ?_;rw[hZ,J2,JN];unfold hsz;rw[JN];exact JW _
      rw[zz];subst hR;ac_rfl;have hin:i<ns.length:=by omega
      have e1:atI (ns.map PV.int) (i:Nat)=some (.int (ns.getD ((i:Nat):Int).toNat 0)):=bw (by omega) (by omega);rw[Kk]at e1;have nv:2≤ns.getD i 0/\ns.getD i 0≤4:=by
       rw[JQ,JO hin];exact sz.n4 _ (KC hin)
      refine⟨⟨_,et6⟩,⟨by omega,by omega⟩,is,rfl,_,es6,?_⟩;rw[e1]
      try ac_rfl
      have lzt:=bH pt6;refine⟨⟨zle.1,by omega⟩,⟨by omega,nv.2⟩,fun p' H9 ys' Rw s9 hp' ep' pr lr hr'=>⟨zs,s9 _ _ et6,aO (by omega),kk _ _ ⟨zs++[.ref p'],Tb++[Rw],_,_,_,_,_,_,rfl,?_,af,?_,by rw[J2,lt];rfl,fun k Rw' hk=>?_⟩⟩⟩
      ·exact(s6.trans s9).put htd
      ·have npt:p'≠td:=(aj et6 hp').symm;refine dF ⟨p',ys',rfl,npt,(ag npt).trans ep',bI (fun y ws ⟨r,e1,e2,_,e4⟩=>?_) pr⟩ (qD.up (fun a u n e=>(ag n).trans (s9 _ _ e)) pt6);have nrt:r≠td:=(aj et6 e4).symm;exact⟨r,e1,nrt,(ag nrt).trans e2⟩
      ·rcases eA hk with hk |⟨rfl,rfl⟩
       ·exact ht k Rw' hk
       ·rw[lt,eZ];exact⟨lr,by omega,hr'⟩
     ·rintro D2 j y σ H8 hy ⟨z14,rfl,rfl⟩ kk2;refine⟨eq,?_⟩;rw[JV]at hy;cases hg:(bpl bs (i:Nat))[j]? with
      | none=>rw[hg]at hy;cases hy
      | some k' =>
       rw[hg]at hy;cases hy;have hk':k'<bs.length:=eG (JX hg);have ez:Z[(cF ts (i:Nat)).length+j]?=some ((Hd.getD k' []).length:Int):=by
        rw[hZ,Kv (by rw[JN];omega),JN,Nat.add_sub_cancel_left];unfold hsz;rw[JV,hg];rfl
       have zn:=ka ez;have zv:=zpos _ (JX ez);have z1:=zt ((cF ts (i:Nat)).length+j);have row:=cK pd (show k'<ys.length by omega) (show k'<Hd.length by omega);have e1:=cY (l:=ys) (show k'<ys.length by omega);have e2:Hd.getD k' []=Hd[k']'(by omega):=by rw[JQ,JO (by omega)];rfl
       rw[e2]at zn zv;generalize Hd[k']'(by omega)=ws' at *;obtain⟨r',er,_,er2⟩:=row;rw[er]at e1
       try simp only[KG]
       ac_rfl;refine⟨_,eh6,?_⟩;rw[e1]
       try ac_rfl
       refine⟨_,s6 _ _ er2,?_⟩;rw[JN];exact⟨.inr ⟨cX (by omega) (by omega),cX (by omega) (by omega)⟩,kk2 _ _ ⟨_,by rw[Nat.add_assoc]at zn;rw[zn],rfl⟩⟩
    ·rintro D2 j y σ H7 hy ⟨z20,rfl,rfl⟩ kk2;refine⟨ep,?_⟩;rw[JV]at hy;cases hg:(cF ts (i:Nat))[j]? with
     | none=>rw[hg]at hy;cases hy
     | some u =>
      rw[hg]at hy;cases hy;have hu:=iw (JX hg);have ez:Z[j]?=some (ns.getD u.toNat 0):=by
       rw[hZ,Kz (by rw[JN];exact(JS.mp hg).1),JV,hg];rfl
      have zn:=ka ez;have zv:=zpos _ (JX ez);have z1:=zt j;have e1:atI (ns.map PV.int) u=some (.int (ns.getD u.toNat 0)):=bw (by omega) (by omega)
      try simp only[KG]
      ac_rfl;refine⟨_,es6,?_⟩;rw[e1]
      try ac_rfl
      exact⟨.inr ⟨cX (by omega) (by omega),cX (by omega) (by omega)⟩,kk2 _ _ ⟨_,by rw[zn],rfl⟩⟩
  ·rintro D i σ H3 hi ⟨ys,Hd,z12,z14,z15,rfl,s3,eh,pd,lh,h4,mst⟩ kk;refine⟨trivial,?_⟩;simp only[bZ,KL,KH];left;have ex3:=s3 _ _ ex2;refine⟨aw (by decide),fun p hp=>⟨_,(ag (aj ex3 hp)).trans ex3,?_⟩⟩;have ei:atI (xs.map PV.int) (6+(i:Nat))=some (.int (xs.getD (6+((i:Nat):Int)).toNat 0)):=bw (by omega) (by rw[hxs];omega);rw[ei]
   try ac_rfl
   have fd:=fm (a:=xs.getD (6+((i:Nat):Int)).toNat 0) (b:=5) (by decide);obtain⟨e,he,e2⟩:=HU fd.1 fd.2;rw[he]
   try ac_rfl
   refine⟨by decide,?_⟩;have s4:=s3.put (o:=.lst [.int 1,.int 2,.int 2,.int 3,.int 4]) (s3.free hp);have eh4:=(ag (o:=.lst [.int 1,.int 2,.int 2,.int 3,.int 4]) (aj eh hp)).trans eh;have pd4:=fx.up (fun a u _ e=>(ag (o:=.lst [.int 1,.int 2,.int 2,.int 3,.int 4]) (aj e hp)).trans e) pd;generalize put H3 p (.lst [.int 1,.int 2,.int 2,.int 3,.int 4])=H4 at *;have q1:=aP (l:=Hd.map fun ws:List Int=>(ws.length:Int)) fun n hn=>by
    obtain⟨ws,hws,rfl⟩:=JU.mp hn;have:=h4 ws hws;omega
   have q2:1≤prod ns*prod (Hd.map fun ws:List Int=>(ws.length:Int)):=KQ p1 (bK (by omega) q1);subst hR;refine ak fun R hR=>?_;have go:∀wd:Int,1≤wd/\wd≤4->prod ns*prod (Hd.map fun ws:List Int=>(ws.length:Int))*wd≤300->R D [some (.fls (is.map PV.int)),some (.int k),some (.tup [.int c,.tup (ts.map prV),.tup (bs.map prV)]),some (.int m),some (.int c),some (.tup (ts.map prV)),some (.tup (bs.map prV)),some (.ref xa),some (.bl f),some (.ref sa),some (.int (prod ns*prod (Hd.map fun ws:List Int=>(ws.length:Int)))),z11,z12,some (.ref hb),some (.int (i:Nat)),some (.int wd),none,none,none,none,none] H4:=by
    intro wd w1 w3;subst hR;ac_rfl;refine⟨.inr ⟨cX (by omega) (by omega),cX (by omega) (by omega)⟩,⟨_,eh4⟩,_,s4 _ _ ex2,?_⟩;rw[ei]
    try ac_rfl
    have ly:=bH pd4;refine⟨ib (by decide) (by decide),w1,fun p' ws hp' hl sh=>⟨ys,(ag (aj eh4 hp')).trans eh4,aO (by omega),kk _ _ ⟨ys++[.ref p'],Hd++[ws],z12,some (.int (i:Nat)),some (.int wd),?_,(s4.put (s4.free hp')).put hhb,af,?_,by rw[J2,lh];rfl,fun w hw=>?_,?_⟩⟩⟩
    ·rw[kq,hl,← KA]
    ·have npb:p'≠hb:=(aj eh4 hp').symm;exact dF ⟨p',rfl,npb,(ag npb).trans af⟩ (fx.up (fun a u n e=>(ag n).trans ((ag (aj e hp')).trans e)) pd4)
    ·rcases K6.mp hw with hw | hw
     ·exact h4 w hw
     ·rw[Ka.mp hw];exact⟨sh,by omega,by omega⟩
    ·rw[kq,hl,← KA];exact w3
   ac_rfl;refine⟨.inr ⟨cX (by omega) (by omega),cX (by omega) (by omega)⟩,c8 (fun q=>go 1 (by decide) (by omega)) (fun q=>go e e2 ?_)⟩;have:=of_decide_eq_false q;omega
 ·rintro D i σ H2 hi ⟨ns,z11,z12,rfl,s2,es,sz⟩ kk;refine⟨trivial,?_⟩;have ln:=sz.ln;simp only[bZ,KL,KH];left;refine⟨aw (by decide),fun p hp=>⟨_,(ag (aj (s2 _ _ ex) hp)).trans (s2 _ _ ex),?_⟩⟩;have ei:atI (xs.map PV.int) (i:Nat)=some (.int (xs.getD ((i:Nat):Int).toNat 0)):=bw (by omega) (by rw[hxs];omega);rw[ei]
  try ac_rfl
  have fd:=fm (a:=xs.getD ((i:Nat):Int).toNat 0) (b:=4) (by decide);obtain⟨e,he,e2⟩:=I0 fd.1 fd.2;rw[he]
  try ac_rfl
  have s3:=s2.put (o:=.lst [.int 2,.int 2,.int 3,.int 4]) (s2.free hp);have es3:=(ag (o:=.lst [.int 2,.int 2,.int 3,.int 4]) (aj es hp)).trans es;generalize put H2 p (.lst [.int 2,.int 2,.int 3,.int 4])=H3 at *;subst hR;ac_rfl;have p1:=aP (l:=ns) fun n hn=>by have:=sz.n4 n hn;omega
  have p2:=sz.le;have hh:=sz.half (i:=i) (by omega) e;have fd2:=ft (a:=prod ns) (b:=2) (by omega) (by decide);have mf:mY ((prod ns).fdiv 2) e:=.inr ⟨cX fd2.1 (by omega),cX (by omega) (by omega)⟩;refine⟨by decide,ib (by decide) (by decide),mf,ib (by decide) (by decide),c8 (fun q=>⟨ib (by decide) (by decide),mf,_,i,es3,?_,kk _ _ ⟨ns.set i e,_,_,by rw[hh],s3.put hsa,by rw[af,List.map_set],sz.set e2 ?_⟩⟩) (fun q=>kk _ _ ⟨ns,_,_,rfl,s3,es3,sz.up⟩)⟩
  ·unfold ixN;rw[Kw (by omega),Kw (by rw[JN];omega),Kk]
  ·rw[←hh];have hq:=LC q;have m2:m.fdiv 2≤150:=by rw[Int.fdiv_eq_ediv_of_nonneg _ (by decide)];omega
   omega
theorem EY{σ:St'}(hσ:∃z,σ=[z,some (.int b)])(hacc:H acc=none)(hl:Rw.length≤400)
  (k:∀ys H1,U.Sub H H1->H1 acc=some (.lst ys)->Paired (eT (fb b) (fun x=>H x≠none∨x=acc) H1) ys Rw->Q (.ref acc) H1) :
  dD (fun _=>True) (bZ 0) CB (uOp uIx (A8 (l8 (uCB (cG fun x H Q=>cT x H fun l=>∀(p:Addr),H p=none->Q (PV.ref p) (put H p (PO.lst l))) (l8 (u7 0) tY)) (l8 (u7 0) tY))) (uOp EJ (u7 1) (uC (PV.int 2)))) acc Q (Rw.map shT) σ (put H acc (.lst [])):=by
 obtain⟨z,rfl⟩:=hσ;refine cg (fun i σ H2=>∃z ys,σ=[z,some (.int b)]/\U.Sub H H2/\H2 acc=some (.lst ys)/\Paired (eT (fb b) (fun x=>H x≠none∨x=acc) H2) ys (Rw.take i)) ?_ ?_ ⟨_,[],rfl,(Sub.refl H).put hacc,af,.nil⟩
 ·rintro i y σ H2 R hy ⟨z,ys,rfl,s2,ha,pd⟩ kk;refine⟨trivial,?_⟩;rw[JV]at hy;cases hg:Rw[i]? with
  | none=>rw[hg]at hy;cases hy
  | some ws =>
   rw[hg]at hy;cases hy;have hi:=(JS.mp hg).1;have ly:=bH pd;rw[Kl]at ly;have et:Rw.take (i+1)=Rw.take i++[ws]:=by rw[Kr,hg];rfl
   have sw:shT ws=.tup (shs ws):=rfl
   try simp only[KG]
   rw[sw];ac_rfl;intro p hp;refine⟨aw (by decide),fun p2 hp2=>?_⟩;have q2:=((Sub.refl H2).put (o:=.lst (shs ws)) hp).free hp2;have npa:=(aj ha hp).symm;have nqa:=(aj ha q2).symm;have npq:p≠p2:=fun e=>by subst e;rw[af]at hp2;cases hp2
   have up:∀a u,H2 a=some u->put (put H2 p (.lst (shs ws))) p2 (.lst [.ref p,.tup (shs ws)]) a=some u:=fun a u e=>(ag (aj e q2)).trans ((ag (aj e hp)).trans e);have ep:put (put H2 p (.lst (shs ws))) p2 (.lst [.ref p,.tup (shs ws)]) p=some (.lst (shs ws)):=(ag npq).trans af;generalize put (put H2 p (.lst (shs ws))) p2 (.lst [.ref p,.tup (shs ws)])=H3 at *;have s3:U.Sub H H3:=fun a u e=>up _ _ (s2 _ _ e);refine⟨by decide,?_⟩;have fd:=fm (a:=b) (b:=2) (by decide);have stp:∀y,eT (fb b) (fun x=>H x≠none∨x=acc) (put H3 acc (.lst (ys++[y]))) y ws->R [some (.tup (shs ws)),some (.int b)] (put H3 acc (.lst (ys++[y]))):=fun y q=>by
    refine kk _ _ ⟨_,ys++[y],rfl,s3.put hacc,af,?_⟩;rw[et];refine dF q (eT.imp (fun r u n e=>⟨n,(ag fun e=>n (.inr e)).trans (up _ _ e)⟩) pd)
   rcases (show b.fmod 2=0∨b.fmod 2=1 by omega)with e | e
   ·rw[e];show gj (some (PV.ref p)) _
    try ac_rfl
    refine⟨ys,up _ _ ha,aO (by omega),stp _ (.inr ⟨by unfold fb;rw[e];rfl,p,rfl,fun n=>?_,(ag npa).trans ep⟩)⟩;rcases n with n | n
    ·exact n (s2.free hp)
    ·exact npa n
   ·rw[e];show gj (some (PV.tup (shs ws))) _
    try ac_rfl
    exact⟨ys,up _ _ ha,aO (by omega),stp _ (.inl ⟨by unfold fb;rw[e];rfl,rfl⟩)⟩
 ·rintro σ H2 ⟨z,ys,rfl,s2,ha,pd⟩;refine⟨trivial,k ys H2 s2 ha ?_⟩;rw[JN,Ke]at pd;exact pd
theorem IA(T:Tx K mg t):aM P w K mg base CX0 1 t.a_zw t.d_zw ["_law_told","_law_bits"] jD:=by
 exists 0,T.F_zw,jj,(ae (cu (qv 0) (cC (n:=3) rfl (aJ (gN 2 jj.nd) (aJ (gN 3 jj.nd) (aJ (gN 4 jj.nd) bY)))))
  (ae (sN 5 jj.nd (bE ab))
  (ae (aZ Kj rfl (aI (qv 4)) (gN 6 jj.nd)
  (ae (bT (dS KR KS bJ bV (qv 5) (aa (cE BM 1 [1] (cA t5) (aI (qv 6)) (fun _ _ _ _=>⟨(gN 0 Dn),aL,(iX (bE (aa (aK cD fO rfl T.b_list LZ (aa (qv 0) ab)) (aa (qv 0) ab))) (bQ (qv 1) aq))⟩)) ab)))
   (ae (aS (cN (bG hr.units) bF (bQ (bf (qv 1) aq) aq) aq)
   (ao (cu (aK aH bb rfl T.b_tuple K5 (aa (iX (qv 5) (nW aq)) ab)) (nZ (qv 5) (nW aq))))
   aF)
   (ao (sN 1 jj.nd (bf (qv 1) aq))))))
  (ao (ax (bE (aa (aK cD fO rfl T.b_list LZ (aa (qv 2) ab)) (aa (cE BM 1 [1] (cA t5) (aI (qv 3)) (fun _ _ _ _=>⟨(gN 0 Dn),aL,(iX (bE (aa (aK cD fO rfl T.b_list LZ (aa (qv 0) ab)) (aa (qv 0) ab))) (bQ (qv 1) aq))⟩)) (aa (qv 5) ab)))))))))
 obtain⟨u0,_,rfl,bits,_,rfl,rfl,h⟩:=h;obtain⟨a,b,c,rfl,h⟩:=h;obtain⟨ns,Hd,Tb,rfl,rfl,rfl,⟨l1,l2,l3⟩,h⟩:=h;left;right;refine⟨aw (by decide),fun d hd=>?_⟩;right;have m0:∀x,¬(x=d∨H x≠none)->H x=none:=fun x n=>Classical.byContradiction fun e=>n (.inr e);have m1:∀x,(x=d∨H x≠none)->put H d (.lst []) x≠none:=fun x e=>by
  by_cases q:x=d
  ·rw[q,af];simp
  ·rw[ag q];exact e.elim (fun e=>absurd e q) id
 refine a9 (fun j σ H2=>∃N zs z6,σ=[some (.tup [.tup (ns.map PV.int),.tup (Hd.map shT),.tup (Tb.map tbT)]),some (.int (bj bits j)),some (.tup (ns.map PV.int)),some (.tup (Hd.map shT)),some (.tup (Tb.map tbT)),some (.ref d),z6]/\U.Sub H H2/\H2 d=some (.lst zs)/\zs.length=j/\(∀x,¬N x->H x=none)/\(∀t,PV.ref t∈zs->H t=none)/\Hnd bits N d H2 zs Tb) ?_ ?_ ⟨fun x=>x=d∨H x≠none,[],_,rfl,(Sub.refl H).put hd,af,rfl,m0,(fun t q=>(by cases q)),.inl rfl,m1,fun i z Rw e=>by cases e⟩
 ·rintro σ H2 ⟨N,zs,z6,rfl,s2,ed,lz,nN,nT,hn⟩;refine⟨trivial,?_⟩;rw[JN]at *;subst hR;ac_rfl;intro a ha b hb;have s3:=s2.put (o:=.lst (ns.map PV.int)) (s2.free ha);have ea:put H2 a (.lst (ns.map PV.int)) a=some (.lst (ns.map PV.int)):=af;have up3:∀x u,H2 x=some u->put H2 a (.lst (ns.map PV.int)) x=some u:=fun x u e=>(ag (aj e ha)).trans e;generalize put H2 a (.lst (ns.map PV.int))=H3 at *;refine EY ⟨_,rfl⟩ hb (by omega) fun ys H4 s4 eb pd=>⟨aw (by decide),fun r0 hr0=>⟨_,Sub.refl _,?_⟩⟩;have up:∀x u,H2 x=some u->put H4 r0 (.lst [.ref a,.ref b,.ref d]) x=some u:=fun x u e=>(ag (aj (s4 _ _ (up3 _ _ e)) hr0)).trans (s4 _ _ (up3 _ _ e));have s5:=(s3.trans s4).put (o:=.lst [.ref a,.ref b,.ref d]) ((s3.trans s4).free hr0);have ea4:=s4 _ _ ea;have ed4:=s4 _ _ (up3 _ _ ed);refine h r0 a b d (fun x=>N x∨x=r0) ys zs _ s5 af ⟨aj ea4 hr0,aj eb hr0,aj ed4 hr0⟩ ⟨s2.free ha,s3.free hb,hd⟩ (fun x n=>nN x fun q=>n (.inl q)) (.inr rfl) ((ag (aj ea4 hr0)).trans ea4) ((ag (aj eb hr0)).trans eb) ((ag (aj ed4 hr0)).trans ed4) (eT.imp (fun r u n e=>⟨fun z=>z.elim,(ag (aj e hr0)).trans e⟩) pd) lz ?_ ⟨.inl hn.nd,?_,?_⟩
  ·intro t ht;obtain⟨i,hi,e⟩:=LA ht;obtain⟨ys',_,q⟩:=hn.tb i _ (Tb[i]'(by omega)) (JO hi) (JO (by omega));rw[e]at q;rcases q with⟨_,q⟩ |⟨_,t',q,_,_,e2⟩
   ·cases q
   ·cases q;exact⟨aj (s4 _ _ (up3 _ _ e2)) hr0,nT _ ht⟩
  ·rintro x (nx | rfl)
   ·intro e;cases hx:H2 x with
    | none=>exact hn.ls x nx hx
    | some u=>rw[up _ _ hx]at e;cases e
   ·rw[af];simp
  ·intro i z Rw e1 e2;exact lE.imp (fun r u n e=>⟨fun q=>q.elim n fun q=>aj (s4 _ _ (up3 _ _ e)) hr0 q,up _ _ e⟩) (fun r u _ nr e=>⟨.inl nr,up _ _ e⟩) (hn.tb i z Rw e1 e2)
 ·rintro D j y σ H2 hy ⟨N,zs,z6,rfl,s2,ed,lz,nN,nT,hn⟩ kk;refine⟨trivial,?_⟩;simp only[bZ,KL,KH];refine ak fun R hR=>?_;rw[JV]at hy;cases hg:Tb[j]? with
  | none=>rw[hg]at hy;cases hy
  | some Rw =>
   rw[hg]at hy;cases hy;have r4:=l3 Rw (JX hg);have hj:=(JS.mp hg).1;have tbe:tbT Rw=.tup (Rw.map shT):=rfl
   try simp only[KG]
   rw[tbe];ac_rfl;refine⟨⟨_,ed⟩,fun acc hacc=>?_⟩;refine EY ⟨_,rfl⟩ hacc r4 fun ys H3 s3 ea pd=>?_;refine⟨zs,s3 _ _ ed,aO (by omega),?_⟩;have nda:d≠acc:=aj ed hacc;have ed4:put H3 d (.lst (zs++[.ref acc])) d=some (.lst (zs++[.ref acc])):=af;have ea4:=(ag (o:=.lst (zs++[.ref acc])) nda.symm).trans ea;have up:∀x u,x≠d->H3 x=some u->put H3 d (.lst (zs++[.ref acc])) x=some u:=fun x u n e=>(ag n).trans e;have s4:=(s2.trans s3).put (o:=.lst (zs++[.ref acc])) hd;generalize put H3 d (.lst (zs++[.ref acc]))=H4 at *;subst hR;refine ak fun R hR=>?_;have go:∀z H5,U.Sub H H5->(∀x u,x≠d->H4 x=some u->H5 x=some u)->H5 d=some (.lst (zs++[z]))->(gb (bj bits j)=true/\z=.tup ys∨gb (bj bits j)=false/\z=.ref acc)->R D [some (.tup [.tup (ns.map PV.int),.tup (Hd.map shT),.tup (Tb.map tbT)]),some (.int (bj bits j)),some (.tup (ns.map PV.int)),some (.tup (Hd.map shT)),some (.tup (Tb.map tbT)),some (.ref d),some (.tup (Rw.map shT))] H5:=by
    intro z H5 s5 k5 ed5 hz;subst hR;ac_rfl;have rn:∀r u,¬(H2 r≠none∨r=acc)->H3 r=some u->¬(N r∨r=acc)/\H5 r=some u:=fun r u n e=>by
     have nd:r≠d:=fun q=>n (.inl (by rw[q,ed];simp));exact⟨fun q=>q.elim (fun q=>n (.inl (hn.ls r q))) fun q=>n (.inr q),k5 _ _ nd (up _ _ nd e)⟩
    refine⟨ib (by decide) (by decide),kk _ _ ⟨fun x=>N x∨x=acc,zs++[z],_,rfl,s5,ed5,by rw[J2,lz];rfl,fun x n=>nN x fun q=>n (.inl q),fun t ht=>?_,.inl hn.nd,?_,?_⟩⟩
    ·rcases K6.mp ht with ht | ht
     ·exact nT t ht
     ·have e:=Ka.mp ht;rcases hz with⟨_,e'⟩ |⟨_,e'⟩
      ·rw[←e]at e';cases e'
      ·rw[←e]at e';cases e';exact s2.free hacc
    ·rintro x (nx | rfl)
     ·by_cases xd:x=d
      ·rw[xd,ed5];simp
      ·cases hx:H2 x with
       | none=>exact absurd hx (hn.ls x nx)
       | some u=>rw[k5 _ _ xd (up _ _ xd (s3 _ _ hx))];simp
     ·rw[k5 _ _ nda.symm ea4];simp
    ·intro i z' Rw' e1 e2;rcases eA e1 with e1 |⟨rfl,rfl⟩
     ·refine lE.imp (fun r u n e=>?_) (fun r u nd nr e=>⟨.inl nr,k5 _ _ nd (up _ _ nd (s3 _ _ e))⟩) (hn.tb i z' Rw' e1 e2);have nd:r≠d:=fun q=>n (by rw[q];exact hn.nd);exact⟨fun q=>q.elim n fun q=>aj e hacc q,k5 _ _ nd (up _ _ nd (s3 _ _ e))⟩
     ·rw[lz,hg]at e2;cases e2;rw[lz];refine⟨ys,eT.imp rn pd,?_⟩;rcases hz with⟨e,e'⟩ |⟨e,e'⟩
      ·exact .inl ⟨e,e'⟩
      ·exact .inr ⟨e,acc,e',nda.symm,.inr rfl,k5 _ _ nda.symm ea4⟩
   ac_rfl;refine⟨ib (by decide) (by decide),by decide,c8 (fun q=>⟨_,ed4,?_⟩) (fun q=>go (.ref acc) H4 s4 (fun x u _ e=>e) ed4 (.inr ⟨Ld (by simpa using q),rfl⟩))⟩;rw[yW]
   try ac_rfl
   refine⟨_,ea4,_,_,ed4,pV,?_⟩;rw[uQ];exact go (.tup ys) _ (s4.put hd) (fun x u n e=>(ag n).trans e) af (.inl ⟨Lq (by simpa using q),rfl⟩)
theorem HD(T:Tx K mg t):aM P w K mg base CX0 1 t.a_zB t.d_zB ["sizes","fixed"] lX:=by
 exists 0,T.F_zB,gW,(ae (sN 2 gW.nd (bE (aa (bM ab) ab)))
  (ae (fZ Kj rfl (FE (ze rfl T.b_enumerate (aa (qv 0) ab)) (Dg rfl T.b_enumerate (aa (qv 0) ab))) (cC (n:=2) rfl (aJ (gN 3 gW.nd) (aJ (gN 4 gW.nd) bY)))
  (ae (sN 5 gW.nd (sQ (cW (Dh hr.units) Cm (qv 3) (qv 1)) Dj (Bn rfl rfl T.b_list rfl T.b_range LZ (qv 4))))
   (ae (sN 6 gW.nd (bE ab))
   (ae (aZ Kj rfl (aI (qv 2)) (gN 7 gW.nd)
   (ao (bT (dS PySem.F.slot_list_extend PySem.F.type_list_extend kg jY (qv 6) (aa (cE DG 1 [7] (cA xJ) (aI (qv 5)) (fun _ _ _ _=>⟨(gN 0 Hj),aL,(qj (qv 1) (bM (aa (qv 0) ab)))⟩)) ab)))))
   (ao (sN 2 gW.nd (qv 6)))))))
  (ao (ax (qv 2)))))
 obtain⟨v,_,rfl,d,_,rfl,rfl,h⟩:=h;obtain⟨ns,sq,hd,h6,h4,h3,h⟩:=h;left;refine⟨aw (by decide),aw (by decide),fun p0 hp0=>?_⟩;have e0:put H p0 (.lst [.tup []]) p0=some (.lst ((wys (ns.take 0)).map tI)):=af;have s0:=(Sub.refl H).put (o:=.lst [.tup []]) hp0;generalize put H p0 (.lst [.tup []])=H1 at *;right;refine xu (sq.up s0) fun ok hok=>?_;refine a9 (fun i σ H2=>∃p z3 z4 z5 z6 z7,σ=[some v,some (.ref d),some (.ref p),z3,z4,z5,z6,z7]/\U.Sub H H2/\U.Sub H1 H2/\H p=none/\H2 p=some (.lst ((wys (ns.take i)).map tI))) ?_ ?_ ⟨p0,_,_,_,_,_,rfl,s0,Sub.refl _,hp0,e0⟩
 ·rintro σ H2 ⟨p,z3,z4,z5,z6,z7,rfl,s2,s12,hp,e2⟩;refine⟨hok _ s12,?_⟩;unfold dk at e2;rw[List.length_mapIdx,JN,Ke]at e2;subst hR;ac_rfl;exact⟨H2,Sub.refl _,h p H2 s2 hp e2⟩
 ·rintro D i y σ H2 hy ⟨p,z3,z4,z5,z6,z7,rfl,s2,s12,hp,e2⟩ kk;refine⟨hok _ s12,?_⟩;obtain⟨x,hx,rfl⟩:=yU hy;rw[JV]at hx;cases hg:ns[i]? with
  | none=>rw[hg]at hx;cases hx
  | some n =>
   rw[hg]at hx;cases hx;have n4:=h4 n (JX hg);have ew:wys (ns.take (i+1))=cI (wys (ns.take i)) n:=by rw[Kr,hg];exact dt
   have l1:=nh h4 h3 i;have l2:=nh h4 h3 (i+1);rw[ew]at l2;simp only[xF,oX,bZ,KL,KH];refine⟨rfl,rfl,?_⟩;refine ak fun R2 hR2=>?_;ac_rfl;refine⟨s2 _ _ hd,by omega,by omega,fun r hr'=>?_⟩;have s3:=(Sub.refl H2).put (o:=.lst (bN 0 n.toNat)) hr';have er:put H2 r (.lst (bN 0 n.toNat)) r=some (.lst (bN 0 n.toNat)):=af;generalize put H2 r (.lst (bN 0 n.toNat))=H3 at *;subst hR2;refine ak fun R2 hR2=>?_;ac_rfl;refine⟨aw (by decide),fun q hq=>?_⟩;have q2:=s3.free hq;have nrq:=aj er hq;have s4:=s3.put (o:=.lst []) q2;have er4:=(ag (o:=.lst []) nrq).trans er;have eq4:put H3 q (.lst []) q=some (.lst ((cI ((wys (ns.take i)).take 0) n).map tI)):=af;generalize put H3 q (.lst [])=H4 at *;subst hR2;refine ak fun R2 hR2=>?_;ac_rfl;refine⟨_,s4 _ _ e2,?_⟩;refine a9 (fun j σ H5=>∃z7,σ=[some v,some (.ref d),some (.ref p),some (.int (i:Nat)),some (.int n),some (.ref r),some (.ref q),z7]/\U.Sub H2 H5/\H5 r=some (.lst (bN 0 n.toNat))/\H5 q=some (.lst ((cI ((wys (ns.take i)).take j) n).map tI))) ?_ ?_ ⟨_,rfl,s4,er4,eq4⟩
   ·rintro σ H5 ⟨z7,rfl,s5,er5,eq5⟩;refine⟨s5 _ _ e2,?_⟩;rw[JN,Ke,← ew]at eq5;subst hR2;ac_rfl;exact kk _ _ ⟨q,_,_,_,_,_,rfl,s2.trans s5,s12.trans s5,s2.free q2,eq5⟩
   ·rintro D2 j y σ H5 hy ⟨z7,rfl,s5,er5,eq5⟩ kk2;refine⟨s5 _ _ e2,?_⟩;rw[JV]at hy;cases hu:(wys (ns.take i))[j]? with
    | none=>rw[hu]at hy;cases hy
    | some u =>
     rw[hu]at hy;cases hy;have hj:=(JS.mp hu).1;have et:(wys (ns.take i)).take (j+1)=(wys (ns.take i)).take j++[u]:=by rw[Kr,hu];rfl
     have lu:=(cm (JX hu)).1;rw[Kl]at lu
     try simp only[KG]
     ac_rfl;refine⟨⟨_,eq5⟩,_,er5,fun acc hacc=>?_⟩;refine aA (fC u) (fun _=>true) (fun σ=>∃z,σ=[z,some (tI u)]) (by rw[c7,JN,Kh];omega) (fun l=>(ag (aj er5 hacc)).trans er5) ?_ ?_ ⟨_,rfl⟩
     ·rintro y' hy' l σ R' ⟨z,rfl⟩ hl kT kF;rw[c7]at hy';obtain⟨k,hk,rfl⟩:=JU.mp hy';rw[zg]at kT;have eu:tI u=.tup (u.map PV.int):=rfl;rw[eu]at kT ⊢;ac_rfl;refine⟨aw (by decide),aw (by rw[JN];omega),hl,by rw[aE];exact kT rfl _ ⟨_,rfl⟩⟩
     rw[tP];have s6:=s5.put (o:=.lst (((List.range n.toNat).map fun k:Nat=>u++[(k:Int)]).map tI)) (s5.free hacc);have er6:=(ag (o:=.lst (((List.range n.toNat).map fun k:Nat=>u++[(k:Int)]).map tI)) (aj er5 hacc)).trans er5;have eq6:=(ag (o:=.lst (((List.range n.toNat).map fun k:Nat=>u++[(k:Int)]).map tI)) (aj eq5 hacc)).trans eq5;have ea6:put H5 acc (.lst (((List.range n.toNat).map fun k:Nat=>u++[(k:Int)]).map tI)) acc=some (.lst (((List.range n.toNat).map fun k:Nat=>u++[(k:Int)]).map tI)):=af;generalize put H5 acc (.lst (((List.range n.toNat).map fun k:Nat=>u++[(k:Int)]).map tI))=H6 at *
     try ac_rfl
     have wl:=mP (told:=(wys (ns.take i)).take j) n4;rw[Kl]at wl;exact⟨_,_,eq6,ea6,ip (by rw[JN,JN,JN,Kh];omega),kk2 _ _ ⟨_,rfl,s6.put q2,(ag nrq).trans er6,by rw[af,et,jh,J9]⟩⟩
theorem Ep(T:Tx K mg t):aM P w K mg base CX0 2 t.a_zR t.d_zR ["sizes"] o8:=by
 exists 1,T.F_zR,Fc,(ao (ax (au (HD T) hr.mo rfl T.g_zB T.F_zB.kp T.B_zB (aa (qv 0) (aa sP ab)))))
 obtain⟨v,_,rfl,rfl,h⟩:=h;obtain⟨ns,sq,h6,h4,h3,h⟩:=h;ac_rfl;intro p hp;have s1:=(Sub.refl H).put (o:=.dK []) hp;refine⟨ns,sq.up s1,h6,h4,h3,fun q H1 s2 hq e=>⟨H1,Sub.refl _,h q H1 (s1.trans s2) (s1.free hq) e⟩⟩
theorem FO(T:Tx K mg t):aM P w K mg base CX0 1 t.a_zO t.d_zO ["way","sizes"] iF:=by
 exists 0,T.F_zO,lR,(ae (sN 2 lR.nd aq)
  (ae (fZ Kj rfl (nR rfl T.b_zip (aa (qv 0) (aa (qv 1) ab))) (cC (n:=2) rfl (aJ (gN 3 lR.nd) (aJ (gN 4 lR.nd) bY)))
  (ao (sN 2 lR.nd (bS (aY (qv 2) (qv 4)) (qv 3)))))
  (ao (ax (qv 2)))))
 obtain⟨a,_,rfl,b,_,rfl,rfl,h⟩:=h;obtain⟨l,ha,hb,hp,hq,h⟩:=h;left;right;refine⟨_,_,ha,hb,?_⟩
 try dsimp only
 rw[oN];refine a9 (fun i σ H2=>∃z3 z4,σ=[some (.ref a),some (.ref b),some (.int (plc (l.take i))),z3,z4]/\H2=H) ?_ ?_ ⟨_,_,rfl,rfl⟩
 ·rintro σ H2 ⟨z3,z4,rfl,rfl⟩;refine⟨⟨ha,hb⟩,?_⟩;rw[JN,Ke];subst hR;ac_rfl;exact⟨H2,Sub.refl _,h⟩
 ·rintro D i y σ H2 hy ⟨z3,z4,rfl,rfl⟩ kk;refine⟨⟨ha,hb⟩,?_⟩;rw[JV]at hy;cases hg:l[i]? with
  | none=>rw[hg]at hy;cases hy
  | some q =>
   rw[hg]at hy;cases hy;have e:plc (l.take (i+1))=plc (l.take i)*q.2+q.1:=by rw[Kr,hg];exact dn
   try simp only[KG]
   unfold prV;ac_rfl;exact⟨.inr ⟨rV (hp i),rV (hq q (JX hg))⟩,kk _ _ ⟨_,_,by rw[e],rfl⟩⟩
theorem Hk(T:Tx K mg t):aM P w K mg base CX0 3 t.a_yb t.d_yb ["a","b"] lL:=by
 exists 2,T.F_yb,EV,(ao (ax (au (xV T) hr.mo rfl T.g_zT T.F_zT.kp T.B_zT (aa (aY (iX (qv 0) aq) (iX (qv 1) aq)) (aa (aY (iX (qv 0) aq) (iX (qv 1) aq)) ab)))))
 obtain⟨u0,_,rfl,v0,_,rfl,rfl,h⟩:=h;obtain⟨a,b,c,d,rfl,rfl,h⟩:=h;obtain⟨⟨⟨a0,aB⟩,⟨b0,bB⟩,⟨c0,cB⟩,d0,dB⟩,h⟩:=h;ac_rfl;have m:=L9 b0 d0;refine⟨.inr ⟨dj (aB.mono (by decide)),dj (cB.mono (by decide))⟩,.inr ⟨dj (bB.mono (by decide)),dj (dB.mono (by decide))⟩,⟨Lr a0 c0,m,bB.mul dB⟩,H,Sub.refl _,?_⟩;unfold shr My.jg prV at h;rw[Kq (by omega)]at h;exact h
theorem DJ(T:Tx K mg t):aM P w K mg base CX0 1 t.a_zL t.d_zL ["_law_sizes"] mQ:=by
 exists 0,T.F_zL,iL,(ae (sN 1 iL.nd (bE (aa (bM ab) ab)))
  (ae (aZ Kj rfl (aI (qv 0)) (gN 2 iL.nd)
  (ae (sN 3 iL.nd (bE ab))
   (ae (aZ Kj rfl (aI (qv 1)) (gN 4 iL.nd)
   (ao (sN 3 iL.nd (um (qv 3) (cE EU 1 [4] (cA yF) (aR rfl T.b_range (aa (qv 2) ab)) (fun _ _ _ _=>⟨(gN 0 JE),aL,(qj (qv 1) (bM (aa (qv 0) ab)))⟩))))))
   (ao (sN 1 iL.nd (qv 3))))))
  (ao (ax (qv 1)))))
 obtain⟨a,_,rfl,rfl,h⟩:=h;obtain⟨ns,ha,h6,h4,h3,h⟩:=h;left;refine⟨aw (by decide),aw (by decide),fun p0 hp0=>?_⟩;have e0:put H p0 (.lst [.tup []]) p0=some (.lst ((wys (ns.take 0)).map tI)):=af;have s0:=(Sub.refl H).put (o:=.lst [.tup []]) hp0;generalize put H p0 (.lst [.tup []])=H1 at *;right;refine⟨_,s0 _ _ ha,?_⟩;refine a9 (fun i σ H2=>∃p z2 z3 z4,σ=[some (.ref a),some (.ref p),z2,z3,z4]/\U.Sub H H2/\H p=none/\H2 p=some (.lst ((wys (ns.take i)).map tI))) ?_ ?_ ⟨p0,_,_,_,rfl,s0,hp0,e0⟩
 ·rintro σ H2 ⟨p,z2,z3,z4,rfl,s2,hp,e2⟩;refine⟨s2 _ _ ha,?_⟩;rw[JN,Ke]at e2;subst hR;ac_rfl;exact⟨H2,Sub.refl _,h p H2 s2 hp e2⟩
 ·rintro D i y σ H2 hy ⟨p,z2,z3,z4,rfl,s2,hp,e2⟩ kk;refine⟨s2 _ _ ha,?_⟩;rw[JV]at hy;cases hg:ns[i]? with
  | none=>rw[hg]at hy;cases hy
  | some n =>
   rw[hg]at hy;cases hy;have n4:=h4 n (JX hg);have ew:wys (ns.take (i+1))=cI (wys (ns.take i)) n:=by rw[Kr,hg];exact dt
   have l1:=nh h4 h3 i
   try simp only[KG]
   simp only[bZ,KL,KH];refine ak fun R2 hR2=>?_;ac_rfl;refine⟨aw (by decide),fun q hq=>?_⟩;have q2:=s2.free hq;have s4:=s2.put (o:=.lst []) q2;have eq4:put H2 q (.lst []) q=some (.lst ((cI ((wys (ns.take i)).take 0) n).map tI)):=af;have ep4:=(ag (o:=.lst []) (aj e2 hq)).trans e2;generalize put H2 q (.lst [])=H4 at *;subst hR2;refine ak fun R2 hR2=>?_;ac_rfl;refine⟨_,ep4,?_⟩;refine a9 (fun j σ H5=>∃q z4,σ=[some (.ref a),some (.ref p),some (.int n),some (.ref q),z4]/\U.Sub H H5/\H q=none/\H5 p=some (.lst ((wys (ns.take i)).map tI))/\H5 q=some (.lst ((cI ((wys (ns.take i)).take j) n).map tI))) ?_ ?_ ⟨q,_,rfl,s4,q2,ep4,eq4⟩
   ·rintro σ H5 ⟨q,z4,rfl,s5,q5,ep5,eq5⟩;refine⟨ep5,?_⟩;rw[JN,Ke,← ew]at eq5;subst hR2;ac_rfl;exact kk _ _ ⟨q,_,_,_,rfl,s5,q5,eq5⟩
   ·rintro D2 j y σ H5 hy ⟨q,z4,rfl,s5,q5,ep5,eq5⟩ kk2;refine⟨ep5,?_⟩;rw[JV]at hy;cases hu:(wys (ns.take i))[j]? with
    | none=>rw[hu]at hy;cases hy
    | some u =>
     rw[hu]at hy;cases hy;have hj:=(JS.mp hu).1;have et:(wys (ns.take i)).take (j+1)=(wys (ns.take i)).take j++[u]:=by rw[Kr,hu];rfl
     have lu:=(cm (JX hu)).1;rw[Kl]at lu;have wl:=mP (told:=(wys (ns.take i)).take j) n4;rw[Kl]at wl
     try simp only[KG]
     ac_rfl;refine⟨⟨by omega,by omega⟩,fun acc hacc=>?_⟩;refine aA (fC u) (fun _=>true) (fun σ=>∃z,σ=[z,some (tI u)]) (by rw[c7,JN,Kh];omega) (fun _=>trivial) ?_ ?_ ⟨_,rfl⟩
     ·rintro y' hy' l σ R' ⟨z,rfl⟩ hl kT kF;rw[c7]at hy';obtain⟨k,hk,rfl⟩:=JU.mp hy';rw[zg]at kT;have eu:tI u=.tup (u.map PV.int):=rfl;rw[eu]at kT ⊢;ac_rfl;refine⟨aw (by decide),aw (by rw[JN];omega),hl,by rw[aE];exact kT rfl _ ⟨_,rfl⟩⟩
     rw[tP];have s6:=s5.put (o:=.lst (((List.range n.toNat).map fun k:Nat=>u++[(k:Int)]).map tI)) (s5.free hacc);have ep6:=(ag (o:=.lst (((List.range n.toNat).map fun k:Nat=>u++[(k:Int)]).map tI)) (aj ep5 hacc)).trans ep5;have eq6:=(ag (o:=.lst (((List.range n.toNat).map fun k:Nat=>u++[(k:Int)]).map tI)) (aj eq5 hacc)).trans eq5;have ea6:put H5 acc (.lst (((List.range n.toNat).map fun k:Nat=>u++[(k:Int)]).map tI)) acc=some (.lst (((List.range n.toNat).map fun k:Nat=>u++[(k:Int)]).map tI)):=af;generalize put H5 acc (.lst (((List.range n.toNat).map fun k:Nat=>u++[(k:Int)]).map tI))=H6 at *
     try ac_rfl
     refine⟨_,_,eq6,ea6,ip (by rw[JN,JN,JN,Kh];omega),fun q' hq'=>kk2 _ _ ⟨q',_,rfl,s6.put (s6.free hq'),s6.free hq',(ag (aj ep6 hq')).trans ep6,by rw[af,et,jh,J9]⟩⟩
theorem JG(T:Tx K mg t):aM P w K mg base CX0 4 t.a_zU t.d_zU ["rows"] iV:=by
 exists 3,T.F_zU,j5,(ae (sN 1 j5.nd (bE (aa (bM (aa aq (aa aq ab))) ab)))
  (ae (aZ Kj rfl (aI (qv 0)) (gN 2 j5.nd)
  (ae (sN 3 j5.nd (bE ab))
   (ae (aZ Kj rfl (aI (qv 1)) (gN 4 j5.nd)
   (ao (bT (dS PySem.F.slot_list_extend PySem.F.type_list_extend kg jY (qv 3) (aa (cE EX 1 [4] (cA yd) (aI (qv 2)) (fun _ _ _ _=>⟨(gN 0 Jv),aL,(au (Hk T) hr.mo rfl T.g_yb T.F_yb.kp T.B_yb (aa (qv 1) (aa (qv 0) ab)))⟩)) ab)))))
   (ao (sN 1 j5.nd (qv 3))))))
  (ao (ax (qv 1)))))
 obtain⟨l,_,rfl,rfl,h⟩:=h;obtain⟨Hd,rfl,h6,h4,h3,h⟩:=h;left;refine⟨aw (by decide),aw (by decide),fun p0 hp0=>?_⟩;have e0:put H p0 (.lst [.tup [.int 1,.int 1]]) p0=some (.lst ((crs (Hd.take 0)).map prV)):=by rw[List.take_zero,xE];exact af
 have s0:=(Sub.refl H).put (o:=.lst [.tup [.int 1,.int 1]]) hp0;generalize put H p0 (.lst [.tup [.int 1,.int 1]])=H1 at *;right;refine a9 (fun i σ H2=>∃p z2 z3 z4,σ=[some (.tup (Hd.map shT)),some (.ref p),z2,z3,z4]/\U.Sub H H2/\H p=none/\H2 p=some (.lst ((crs (Hd.take i)).map prV))) ?_ ?_ ⟨p0,_,_,_,rfl,s0,hp0,e0⟩
 ·rintro σ H2 ⟨p,z2,z3,z4,rfl,s2,hp,e2⟩;refine⟨trivial,?_⟩;rw[JN,Ke]at e2;subst hR;ac_rfl;exact⟨H2,Sub.refl _,h p H2 s2 hp e2⟩
 ·rintro D i y σ H2 hy ⟨p,z2,z3,z4,rfl,s2,hp,e2⟩ kk;refine⟨trivial,?_⟩;rw[JV]at hy;cases hg:Hd[i]? with
  | none=>rw[hg]at hy;cases hy
  | some ws =>
   rw[hg]at hy;cases hy;obtain⟨sh,w1,w4⟩:=h4 ws (JX hg);have es:Hd.take (i+1)=Hd.take i++[ws]:=by rw[Kr,hg];rfl
   have ew:crs (Hd.take (i+1))=(dA (hws (Hd.take i)) ws).map (shr (hB (Hd.take i)*ws.sum)):=by unfold crs;rw[es,jo,iz]
   have l1:=hlen h4 h3 i;have b1:=j6 h4 h6 i;have hx:=(jl (Hd:=Hd.take i) fun x hx=>h4 x (KJ hx)).2;unfold crs at e2;generalize hws (Hd.take i)=xs at *;generalize hB (Hd.take i)=B0 at *
   try simp only[KG]
   simp only[bZ,KL,KH];refine ak fun R2 hR2=>?_;ac_rfl;refine⟨aw (by decide),fun q hq=>?_⟩;have q2:=s2.free hq;have s4:=s2.put (o:=.lst []) q2;have eq4:put H2 q (.lst []) q=some (.lst (((dA (xs.take 0) ws).map (shr (B0*ws.sum))).map prV)):=af;have ep4:=(ag (o:=.lst []) (aj e2 hq)).trans e2;have npq:=aj e2 hq;generalize put H2 q (.lst [])=H4 at *;subst hR2;refine ak fun R2 hR2=>?_;ac_rfl;refine⟨_,ep4,?_⟩;refine a9 (fun j σ H5=>∃z4,σ=[some (.tup (Hd.map shT)),some (.ref p),some (shT ws),some (.ref q),z4]/\U.Sub H H5/\H5 p=some (.lst ((xs.map (shr B0)).map prV))/\H5 q=some (.lst (((dA (xs.take j) ws).map (shr (B0*ws.sum))).map prV))) ?_ ?_ ⟨_,rfl,s4,ep4,eq4⟩
   ·rintro σ H5 ⟨z4,rfl,s5,ep5,eq5⟩;refine⟨ep5,?_⟩;rw[JN,JN,Ke,← ew]at eq5;subst hR2;ac_rfl;exact kk _ _ ⟨q,_,_,_,rfl,s5,q2,eq5⟩
   ·rintro D2 j y σ H5 hy ⟨z4,rfl,s5,ep5,eq5⟩ kk2;refine⟨ep5,?_⟩;rw[JV,JV]at hy;cases hu:xs[j]? with
    | none=>rw[hu]at hy;cases hy
    | some x =>
     rw[hu]at hy;cases hy;have hj:=(JS.mp hu).1;have et:xs.take (j+1)=xs.take j++[x]:=by rw[Kr,hu];rfl
     obtain⟨x0,x1⟩:=hx x (JX hu);have wl:=tD (l:=xs.take j) w4;rw[Kl]at wl
     try simp only[KG]
     ac_rfl;obtain⟨a0,a1,a2,a3,a4,a5⟩:=b7 (s:=B0) (w:=x) (by omega) x0;have a6:=Lj (by omega) a3;refine⟨⟨_,eq5⟩,fun acc hacc=>?_⟩;refine aA (fX (shr B0 x)) (fun _=>true) (fun σ=>∃z,σ=[z,some (prV (shr B0 x))]) (by rw[JN];omega) (fun _=>trivial) ?_ ?_ ⟨_,rfl⟩
     ·rintro y' hy' l σ R' ⟨z,rfl⟩ hl kT kF;obtain⟨w,hw,rfl⟩:=JU.mp hy';obtain⟨c0,c1,c2,c3⟩:=sh.le hw;have e28:(1000:Int)≤28 ^ 6:=by decide
      have ef:fX (shr B0 x) (prV (shr ws.sum w))=prV (shr ((shr B0 x).2*(shr ws.sum w).2) ((shr B0 x).1*(shr ws.sum w).1)):=rfl;rw[ef]at kT;have e1:∀p:DM.P2,prV p=.tup [.int p.1,.int p.2]:=fun _=>rfl;rw[e1 (shr B0 x),e1 (shr ws.sum w)];rw[e1 (shr B0 x)]at kT;ac_rfl;exact⟨⟨⟨a0,gu a0 (by omega)⟩,⟨by omega,gu (by omega) (by omega)⟩,⟨c0,gu c0 (by omega)⟩,by omega,gu (by omega) (by omega)⟩,hl,by rw[aE];exact kT rfl _ ⟨_,rfl⟩⟩
     rw[Br (by omega) x0 sh];have s6:=s5.put (o:=.lst (((ws.map fun y=>x*y).map (shr (B0*ws.sum))).map prV)) (s5.free hacc);have ep6:=(ag (o:=.lst (((ws.map fun y=>x*y).map (shr (B0*ws.sum))).map prV)) (aj ep5 hacc)).trans ep5;have eq6:=(ag (o:=.lst (((ws.map fun y=>x*y).map (shr (B0*ws.sum))).map prV)) (aj eq5 hacc)).trans eq5;have ea6:put H5 acc (.lst (((ws.map fun y=>x*y).map (shr (B0*ws.sum))).map prV)) acc=some (.lst (((ws.map fun y=>x*y).map (shr (B0*ws.sum))).map prV)):=af;generalize put H5 acc (.lst (((ws.map fun y=>x*y).map (shr (B0*ws.sum))).map prV))=H6 at *
     try ac_rfl
     exact⟨_,_,eq6,ea6,ip (by simp only[JN];omega),kk2 _ _ ⟨_,rfl,s6.put q2,(ag npq).trans ep6,by rw[af,et,nY,J9,J9]⟩⟩
theorem IQ(T:Tx K mg t):aM P w K mg base CX0 4 t.a_zp t.d_zp ["world","name"] (mV t):=by
 exists 3,T.F_zp,pM,(ae (sN 2 pM.nd (au (EC T) hr.mo rfl T.g_zu T.F_zu.kp T.B_zu (aa (br (qv 0) T.cl_B T.nf_World_drawing rfl) (aa (qv 1) ab))))
  (ae (sN 3 pM.nd (au (AH T) hr.mo rfl T.g_zj T.F_zj.kp T.B_zj (aa (br (qv 0) T.cl_B T.nf_World_drawing rfl) (aa (br (qv 0) T.cl_B T.nf_World_hidden rfl) (aa (qv 1) ab)))))
  (ae (sN 4 pM.nd (au (Ep T) hr.mo rfl T.g_zR T.F_zR.kp T.B_zR (aa (cE nl7 1 [] (cA uS) (aI (br (qv 0) T.cl_B T.nf_World_hidden rfl)) (fun _ _ _ _=>⟨(gN 0 nn7),aL,(ar az bu rfl T.b_len Ku (aa (qv 0) ab))⟩)) ab)))
  (ao (ax (lB (N2:=Fn) (nt:=1) (js:=[3,2]) (D8 (y0:="way") (sc:=av uS) (by exact rfl) (by repeat (first | exact trivial | refine⟨rfl,?_⟩)) rfl (by rfl) rfl (by decide +kernel) (fun _=>by rfl) (fun _=>by rfl) (by decide +kernel) (by rfl) (by decide +kernel) (by rfl) (by rfl)) rfl (iY (aI (qv 4))) (fun _ _ _ _=>⟨(gN 0 IG),aL,(au (FO T) hr.mo rfl T.g_zO T.F_zO.kp T.B_zO (aa (cE Es 1 [0] (cok (by exact rfl) (by repeat (first | exact trivial | refine⟨rfl,?_⟩)) rfl (by rfl) (by decide +kernel) (by decide +kernel) (by rfl) (fun x hx=>by rw[Ka.mp hx];exact⟨rfl,rfl⟩) (by rfl) (by rfl)) (aI (qv 2)) (fun _ _ _ _=>⟨(gN 0 Jg),aL,(iX (qv 1) (qv 0))⟩)) (aa (qv 1) ab)))⟩)))))))
 obtain⟨x,_,rfl,n,_,rfl,rfl,h⟩:=h;obtain⟨c,ts,bs,ns,Hd,Tb,⟨dx,y,dy,wd,hx,hy⟩,hs,hw,hn,h⟩:=h;have l6:=hs.l6;have lh:=hw.lh;left;refine⟨dx,_,_,hx,rfl,?_⟩
 try ac_rfl
 refine⟨dy,c,ts,bs,hy,l6,fun q hq=>?_⟩;have s1:=(Sub.refl H).put (o:=.lst ((bpl bs n).map fun k=>PV.int (k:Nat))) hq;have eq:put H q (.lst ((bpl bs n).map fun k=>PV.int (k:Nat))) q=some (.lst ((bpl bs n).map fun k=>PV.int (k:Nat))):=af;generalize put H q (.lst ((bpl bs n).map fun k=>PV.int (k:Nat)))=H1 at *;have hx1:=s1 _ _ hx;have hy1:=s1 _ _ hy;right;refine⟨dx,_,_,hx1,rfl,?_⟩
 try ac_rfl
 refine⟨dx,_,_,hx1,rfl,?_⟩
 try ac_rfl
 refine⟨dy,c,ts,bs,Hd,hy1,rfl,lh,l6,fun r H2 s12 hr' er=>?_⟩;have s2:=s1.trans s12;have eq2:=s12 _ _ eq;have hx2:=s2 _ _ hx;right;refine⟨dx,_,_,hx2,rfl,?_⟩
 try ac_rfl
 intro p1 hp1;refine aA fL (fun _=>true) (fun σ=>∃z,σ=[z]) (by rw[JN];omega) (fun _=>trivial) ?_ ?_ ⟨_,rfl⟩
 ·rintro y' hy' l σ' R' ⟨z',rfl⟩ hl' kT kF;obtain⟨ws,hws,rfl⟩:=JU.mp hy';unfold shT at *;ac_rfl;exact⟨hl',by rw[aE];exact kT rfl _ ⟨_,rfl⟩⟩
 rw[tZ];have s3:=s2.put (o:=.lst ((aN Hd).map PV.int)) (s2.free hp1);have eq3:=(ag (o:=.lst ((aN Hd).map PV.int)) (aj eq2 hp1)).trans eq2;have er3:=(ag (o:=.lst ((aN Hd).map PV.int)) (aj er hp1)).trans er;have ep3:put H2 p1 (.lst ((aN Hd).map PV.int)) p1=some (.lst ((aN Hd).map PV.int)):=af;have ell:(Hd.map fun ws=>((ws.length:Nat):Int))=aN Hd:=rfl;rw[ell];generalize put H2 p1 (.lst ((aN Hd).map PV.int))=H3 at *;have m1:∀n∈aN Hd,1≤n/\n≤4:=fun n hn=>by
  obtain⟨ws,hws,rfl⟩:=JU.mp hn;have:=hw.h4 ws hws;omega
 have n1:∀n∈ns,1≤n:=fun n hn=>by have:=hw.n4 n hn;omega
 have pm:prod (aN Hd)≤300:=by
  have a:=aP n1;have b:=aP fun n hn=>(m1 n hn).1;have c:=bK (a:=prod (aN Hd)) (b:=prod ns) (by omega) a;rw[KP]at c;exact KQ c hw.most
 refine⟨aN Hd,.inr ⟨p1,rfl,ep3⟩,by unfold aN;rw[JN];omega,m1,pm,fun p2 H4 s34 hp2 e2=>?_⟩;have s4:=s3.trans s34;have eq4:=s34 _ _ eq3;have er4:=s34 _ _ er3;subst hR;ac_rfl;refine⟨_,e2,fun p3 hp3=>?_⟩;have bl:=eI (bs:=bs) (n:=n);refine cg (fun i σ H5=>∃z,σ=[z,some (.ref r),some (.ref q)]/\U.Sub H4 H5/\H5 p3=some (.lst (((rpl Hd bs n).take i).map PV.int))) ?_ ?_ ⟨_,rfl,(Sub.refl H4).put hp3,af⟩
 ·rintro i y' σ H5 R1 hy' ⟨z,rfl,s5,ha5⟩ kk;refine⟨s5 _ _ e2,?_⟩;rw[JV]at hy';cases hg:(wys (aN Hd))[i]? with
  | none=>rw[hg]at hy';cases hy'
  | some u =>
   rw[hg]at hy';cases hy';have hu:=JX hg;have lu:=(cm hu).1;have ll:(aN Hd).length=Hd.length:=by unfold aN;rw[JN]
   have pk:=kj (n:=n) hu lh;have ei:(rpl Hd bs n).take (i+1)=(rpl Hd bs n).take i++[plc (prs u Hd bs n)]:=by
    rw[Kr];unfold rpl;rw[JV,hg];rfl
   have eq5:=s5 _ _ eq4;have er5:=s5 _ _ er4;have eu:tI u=.tup (u.map PV.int):=rfl
   try simp only[KG]
   rw[eu];ac_rfl;refine⟨_,eq5,fun p5 hp5=>?_⟩;refine aA (fI u) (fun _=>true) (fun σ=>∃z,σ=[z,some (.tup (u.map PV.int))]) (by rw[JN];omega) (fun l=>(ag (aj eq5 hp5)).trans eq5) ?_ ?_ ⟨_,rfl⟩
   ·rintro y2 hy2 l σ2 R2 ⟨z2,rfl⟩ hl2 kT kF;obtain⟨k,hk,rfl⟩:=JU.mp hy2;have kl:=eG hk;have e:atI (u.map PV.int) (k:Nat)=some (.int (u.getD ((k:Nat):Int).toNat 0)):=bw (by omega) (by omega);ac_rfl;rw[e]
    try ac_rfl
    exact⟨hl2,by rw[aE];exact kT rfl _ ⟨_,rfl⟩⟩
   have em:((((bpl bs n).map fun k=>PV.int (k:Nat)).filter fun _=>true).map (fI u))=((prs u Hd bs n).map (·.1)).map PV.int:=by
    rw[Kg.mpr (fun _ _=>rfl),JY];unfold prs;rw[JY,JY];rfl
   rw[em];have esz:hsz Hd bs n=(prs u Hd bs n).map (·.2):=by
    unfold prs hsz;rw[JY];rfl
   rw[esz]at er5;have s6:=s5.put (o:=.lst (((prs u Hd bs n).map (·.1)).map PV.int)) (s5.free hp5);have er6:=(ag (o:=.lst (((prs u Hd bs n).map (·.1)).map PV.int)) (aj er5 hp5)).trans er5;have ep6:put H5 p5 (.lst (((prs u Hd bs n).map (·.1)).map PV.int)) p5=some (.lst (((prs u Hd bs n).map (·.1)).map PV.int)):=af;have ha6:=(ag (o:=.lst (((prs u Hd bs n).map (·.1)).map PV.int)) (aj ha5 hp5)).trans ha5;generalize put H5 p5 (.lst (((prs u Hd bs n).map (·.1)).map PV.int))=H6 at *;have q4:∀q∈prs u Hd bs n,q.2≤4:=fun q' hq'=>by
    obtain⟨k,hk,rfl⟩:=JU.mp hq';have kl:=eG hk;exact(m1 _ (JX (eB (by omega)))).2
   have lp:(prs u Hd bs n).length≤6:=by unfold prs;rw[JN];omega
   try ac_rfl
   refine⟨prs u Hd bs n,ep6,er6,uZ pk q4 lp,fun q' hq'=>by have:=pk q' hq';have:=q4 q' hq';omega,_,ha6,?_,kk _ _ ⟨_,rfl,s6.put hp3,?_⟩⟩
   ·rw[JN,Kl];have w3:=nh m1 pm (aN Hd).length;rw[Ke]at w3;have:(rpl Hd bs n).length≤300:=by unfold rpl;rw[JN];exact w3
    exact aO (by omega)
   ·rw[af,ei,J9];rfl
 ·rintro σ H5 ⟨z,rfl,s5,ha5⟩;refine⟨s5 _ _ e2,?_⟩;have el:((wys (aN Hd)).map tI).length=(rpl Hd bs n).length:=by unfold rpl;rw[JN,JN]
  rw[el,Ke]at ha5;exact⟨H5,Sub.refl _,h p3 H5 (s4.trans s5) (s4.free hp3) ha5⟩
theorem Ib(T:Tx K mg t):aM P w K mg base CX0 4 t.a_zf t.d_zf ["world","name","values"] (ke t):=by
 exists 3,T.F_zf,mx,(ae (sN 3 mx.nd (gf (br (qv 0) T.cl_B T.nf_World_drawing rfl) T.cl_A T.m_zd (FP T) hr.mo T.B_zd (aa (qv 1) ab)))
  (ae (sN 4 mx.nd (au (wV T) hr.mo rfl T.g_zW T.F_zW.kp T.B_zW (aa (au (AH T) hr.mo rfl T.g_zj T.F_zj.kp T.B_zj (aa (br (qv 0) T.cl_B T.nf_World_drawing rfl) (aa (br (qv 0) T.cl_B T.nf_World_hidden rfl) (aa (qv 1) ab)))) ab)))
  (ae (sN 5 mx.nd (au (FO T) hr.mo rfl T.g_zO T.F_zO.kp T.B_zO (aa (cE F4 1 [2] (cA rZ) (aI (qv 3)) (fun _ _ _ _=>⟨(gN 0 Iq),aL,(iX (qv 1) (qv 0))⟩)) (aa (cE FK 1 [0] (cA rZ) (aI (qv 3)) (fun _ _ _ _=>⟨(gN 0 Gz),aL,(iX (br (qv 1) T.cl_B T.nf_World_sizes rfl) (qv 0))⟩)) ab))))
  (ae (sN 6 mx.nd (qI (iX (br (qv 0) T.cl_B T.nf_World_tables rfl) (qv 1)) (px (aY (qv 5) (qv 4))) (px (aY (bS (qv 5) aq) (qv 4)))))
  (ao (ax (cE DQ 1 [2,1] (cA rZ) (aI (qv 6)) (fun _ _ _ _=>⟨(gN 0 Hz),aL,(iX (qv 0) (iX (qv 1) (qv 2)))⟩))))))))
 obtain⟨x,_,rfl,n,_,rfl,l,_,rfl,rfl,h⟩:=h;obtain⟨c,ts,bs,ns,Hd,Tb,v,⟨dx,y,dy,wd,hx,hy⟩,hs,hw,hn,rfl,hv,h⟩:=h;have l6:=hs.l6;have lh:=hw.lh;have t15:=hs.gt.len hs.hc.2;left;refine⟨dx,_,_,hx,rfl,?_⟩
 try ac_rfl
 have ln:=hw.ln;have c6:=hs.hc;obtain⟨lv,mv⟩:=cm hv;obtain⟨sk,s4,ls⟩:=kA hs hw hn hv;obtain⟨tg,tl,t4,tr⟩:=cP (v:=v) hw hn;have al:=fo sk;have ss:∀u∈sr ts n,0≤u/\u<n:=fun u hu=>iw (qd hs hn.2▸hu);have lsr:(sr ts n).length≤6:=by unfold sps at ls;rwa [JN]at ls
 have hz:∀x∈hsz Hd bs n,1≤x/\x≤4:=fun x hx=>hw.pos hs.gt n x (Kd _ hx);have hzl:(hsz Hd bs n).length≤6:=by unfold hsz;rw[JN];exact Lv eI l6
 have rp:=eD hz;have rp4:=Gj hzl;refine⟨⟨dy,_,hy,rfl⟩,dy,c,ts,bs,hy,hn,t15,?_⟩;have esr:(ts.filter fun p=>decide (p.2=n)).map (·.1)=sr ts n:=rfl;rw[esr];right;refine⟨dx,_,_,hx,rfl,?_⟩
 try ac_rfl
 refine⟨dx,_,_,hx,rfl,?_⟩
 try ac_rfl
 refine⟨dy,c,ts,bs,Hd,hy,rfl,lh,l6,fun r H2 s2 hr' er=>?_⟩;have hx2:=s2 _ _ hx;refine⟨hsz Hd bs n,.inr ⟨r,rfl,er⟩,by omega,fun k=>by have:=cz (fun n hn=>(hz n hn).1) k;omega,fun n hn=>by have:=hz n hn;omega,?_⟩;right;intro p1 hp1;refine aA (fI v) (fun _=>true) (fun σ=>∃z,σ=[z,some (.tup (v.map PV.int))]) (by rw[JN];omega) (fun _=>trivial) ?_ ?_ ⟨_,rfl⟩
 ·rintro y2 hy2 l σ2 R2 ⟨z2,rfl⟩ hl2 kT kF;obtain⟨u,hu,rfl⟩:=JU.mp hy2;have ub:=ss u hu;have e:atI (v.map PV.int) u=some (.int (v.getD u.toNat 0)):=bw (by omega) (by omega);ac_rfl;rw[e]
  try ac_rfl
  exact⟨hl2,by rw[aE];exact kT rfl _ ⟨_,rfl⟩⟩
 have em:((((sr ts n).map PV.int).filter fun _=>true).map (fI v))=((sps v ns ts n).map (·.1)).map PV.int:=by
  rw[Kg.mpr (fun _ _=>rfl)];unfold sps;simp only[JY];rfl
 rw[em];have s3:=s2.put (o:=.lst (((sps v ns ts n).map (·.1)).map PV.int)) (s2.free hp1);have e3:put H2 p1 (.lst (((sps v ns ts n).map (·.1)).map PV.int)) p1=some (.lst (((sps v ns ts n).map (·.1)).map PV.int)):=af;generalize put H2 p1 (.lst (((sps v ns ts n).map (·.1)).map PV.int))=H3 at *;have hx3:=s3 _ _ hx
 try ac_rfl
 intro p2 hp2;refine aA (fI ns) (fun _=>true) (fun σ=>∃z,σ=[z,some (.ref x)]) (by rw[JN];omega) (fun _=>trivial) ?_ ?_ ⟨_,rfl⟩
 ·rintro y2 hy2 l σ2 R2 ⟨z2,rfl⟩ hl2 kT kF;obtain⟨u,hu,rfl⟩:=JU.mp hy2;have ub:=ss u hu;have e:atI (ns.map PV.int) u=some (.int (ns.getD u.toNat 0)):=bw (by omega) (by omega);ac_rfl;refine⟨dx,_,_,(ag (aj hx3 hp2)).trans hx3,rfl,?_⟩
  try ac_rfl
  rw[e]
  try ac_rfl
  exact⟨hl2,by rw[aE];exact kT rfl _ ⟨_,rfl⟩⟩
 have em2:((((sr ts n).map PV.int).filter fun _=>true).map (fI ns))=((sps v ns ts n).map (·.2)).map PV.int:=by
  rw[Kg.mpr (fun _ _=>rfl)];unfold sps;simp only[JY];rfl
 rw[em2];have s4':=s3.put (o:=.lst (((sps v ns ts n).map (·.2)).map PV.int)) (s3.free hp2);have e4:=(ag (o:=.lst (((sps v ns ts n).map (·.2)).map PV.int)) (aj e3 hp2)).trans e3;have f4:put H3 p2 (.lst (((sps v ns ts n).map (·.2)).map PV.int)) p2=some (.lst (((sps v ns ts n).map (·.2)).map PV.int)):=af;generalize put H3 p2 (.lst (((sps v ns ts n).map (·.2)).map PV.int))=H4 at *;have hx4:=s4' _ _ hx
 try ac_rfl
 refine⟨sps v ns ts n,e4,f4,uZ sk s4 ls,fun q' hq'=>by have:=sk q' hq';have:=s4 q' hq';omega,?_⟩;have epk:pke v ns Hd Tb ts bs n=(((Tb.getD n.toNat []).drop (plc (sps v ns ts n)*prod (hsz Hd bs n)).toNat).take (prod (hsz Hd bs n)).toNat).map fun ws=>shr ws.sum (ws.getD (v.getD n.toNat 0).toNat 0):=rfl;rw[epk]at h;have vn:0≤v.getD n.toNat 0/\v.getD n.toNat 0<ns.getD n.toNat 0:=by
  have h1:n.toNat<v.length:=by omega
  have h2:n.toNat<ns.length:=by omega
  obtain⟨a,d⟩:=mv n.toNat _ (JO h1);have e:=d _ (JO h2);rw[JQ,JO h1,JQ,JO h2];exact⟨a,e⟩
 have evn:atI (v.map PV.int) n=some (.int (v.getD n.toNat 0)):=bw hn.1 (by omega);generalize plc (sps v ns ts n)=ah at *;generalize Tb.getD n.toNat []=Rw at *;generalize v.getD n.toNat 0=vk at *;obtain⟨m1,m2⟩:=og (k:=prod ((sps v ns ts n).map (·.2))) al rp.1;have ahl:ah≤ah*prod (hsz Hd bs n):=bK al.1 rp.1;generalize prod (hsz Hd bs n)=rc at *;have em3:(ah+1)*rc=ah*rc+rc:=by rw[LY,Int.one_mul]
 right;refine⟨dx,_,_,hx4,rfl,?_⟩
 try ac_rfl
 rw[D7 hn.1 tg];have etb:tbT Rw=.tup (Rw.map shT):=rfl;rw[etb]
 try ac_rfl
 refine⟨.inr ⟨cX al.1 (by omega),cX (by omega) (by omega)⟩,.inr ⟨cX (by omega) (by omega),cX (by omega) (by omega)⟩,?_⟩;rw[wR _ m1 (by omega) (by rw[JN];omega),em3,show(ah*rc+rc - ah*rc).toNat=rc.toNat by omega,← List.map_drop,← List.map_take];have tr':∀ws∈(Rw.drop (ah*rc).toNat).take rc.toNat,(ws.length:Int)=ns.getD n.toNat 0:=fun ws hws=>(tr ws (List.mem_of_mem_drop (KJ hws))).2;have tl':((Rw.drop (ah*rc).toNat).take rc.toNat).length≤400:=by rw[Kl,List.length_drop];omega
 generalize (Rw.drop (ah*rc).toNat).take rc.toNat=Rs at *;subst hR;ac_rfl;intro p3 hp3;refine aA (fE vk) (fun _=>true) (fun σ=>∃z,σ=[z,some (.tup (v.map PV.int)),some (.int n)]) (by rw[JN];omega) (fun _=>trivial) ?_ ?_ ⟨_,rfl⟩
 ·rintro y2 hy2 l σ2 R2 ⟨z2,rfl⟩ hl2 kT kF;obtain⟨ws,hws,rfl⟩:=JU.mp hy2;have lw:=tr' ws hws;rw[zV vn.1 (by omega)]at kT;have esh:shT ws=.tup (ws.map fun w=>prV (shr ws.sum w)):=rfl;rw[esh];ac_rfl;rw[evn]
  try ac_rfl
  rw[zG vn.1 (by omega)]
  try ac_rfl
  exact⟨hl2,by rw[aE];exact kT rfl _ ⟨_,rfl⟩⟩
 have em4:(((Rs.map shT).filter fun _=>true).map (fE vk))=(Rs.map fun ws=>shr ws.sum (ws.getD vk.toNat 0)).map prV:=by
  rw[Kg.mpr (fun _ _=>rfl),JY,JY];refine K1 fun ws hws=>?_;exact zV vn.1 (by have:=tr' ws hws;omega)
 rw[em4];exact⟨_,Sub.refl _,h p3 _ (s4'.put (s4'.free hp3)) (s4'.free hp3) af⟩
theorem G5(T:Tx K mg t):aM P w K mg base CX0 5 t.a_zc t.d_zc ["world","setnames"] (iS t P w):=by
 exists 4,T.F_zc,cQ,(ae (sN 2 cQ.nd (au (JG T) hr.mo rfl T.g_zU T.F_zU.kp T.B_zU (aa (br (qv 0) T.cl_B T.nf_World_hidden rfl) ab)))
  (ae (sN 3 cQ.nd (au (Ce T) hr.mo rfl T.g_zh T.F_zh.kp T.B_zh (aa (qv 2) ab)))
  (ae (sN 4 cQ.nd (au (Ap T) hr.mo rfl T.g_zA T.F_zA.kp T.B_zA (aa (qv 2) (aa (qv 3) ab))))
  (ae (sC 5 cQ.nd Ds 1 [1] (cA qF) (aR rfl T.b_range (aa (br (br (qv 0) T.cl_B T.nf_World_drawing rfl) T.cl_A T.nfA_count rfl) ab)) (fun _ _ _ _=>⟨(gN 0 Jz),(gc (cW (qB hr.units) qe (qv 0) (qv 1))),(qv 0)⟩))
  (ae (sC 6 cQ.nd DC 1 [0] (cA qF) (aI (qv 5)) (fun _ _ _ _=>⟨(gN 0 G3),aL,(au (IQ T) hr.mo rfl T.g_zp T.F_zp.kp T.B_zp (aa (qv 1) (aa (qv 0) ab)))⟩))
  (ae (sN 7 cQ.nd iK)
  (ae (aZ Kj rfl (aI (au (Ep T) hr.mo rfl T.g_zR T.F_zR.kp T.B_zR (aa (br (qv 0) T.cl_B T.nf_World_sizes rfl) ab))) (gN 8 cQ.nd)
  (ae (sN 9 cQ.nd (qv 4))
   (ae (sN 10 cQ.nd (qv 3))
   (ae (fZ Kj rfl (nR rfl T.b_zip (aa (qv 5) (aa (qv 6) ab))) (cC (n:=2) rfl (aJ (gN 11 cQ.nd) (aJ (gN 12 cQ.nd) bY)))
   (ae (sN 13 cQ.nd (au (Ib T) hr.mo rfl T.g_zf T.F_zf.kp T.B_zf (aa (qv 0) (aa (qv 11) (aa (qv 8) ab)))))
    (ae (sN 14 cQ.nd (au (Ce T) hr.mo rfl T.g_zh T.F_zh.kp T.B_zh (aa (qv 13) ab)))
    (ae (sN 15 cQ.nd (au (Ap T) hr.mo rfl T.g_zA T.F_zA.kp T.B_zA (aa (qv 13) (aa (qv 14) ab))))
    (ae (lj (i:=9) cQ.nd rfl (by first | exact Or.inl rfl | exact Or.inr rfl) (N2:=EM) (nt:=2) (js:=[15]) (cA qF) rfl (nR rfl T.b_zip (aa (qv 9) (aa (qv 12) ab))) (fun _ _ _ _=>⟨(cC (n:=2) rfl (aJ (gN 0 Gn) (aJ (gN 1 Gn) bY))),aL,(aY (qv 0) (iX (qv 2) (qv 1)))⟩))
    (ao (sN 10 cQ.nd (aY (qv 10) (qv 14)))))))))
   (ao (cu (au (xV T) hr.mo rfl T.g_zT T.F_zT.kp T.B_zT (aa (ar (cx rfl) eH rfl T.b_sum boot_sum (aa (qv 9) ab)) (aa (qv 10) ab))) (il hr.units (qv 7) (qv 8))))))))
  (ao (ax (qv 7))))))))))
 obtain⟨x,_,rfl,l,_,rfl,rfl,h⟩:=h;obtain⟨c,ts,bs,ns,Hd,Tb,rfl,⟨dx,y,dy,wd,hx,hy⟩,hs,hw,h⟩:=h;have l6:=hs.l6;have lh:=hw.lh;have c6:=hs.hc;have ln:=hw.ln;left;refine⟨dx,_,_,hx,rfl,?_⟩
 try ac_rfl
 have m1:∀n∈aN Hd,1≤n/\n≤4:=fun n hn=>by
  obtain⟨ws,hws,rfl⟩:=JU.mp hn;have:=hw.h4 ws hws;omega
 have n1:∀n∈ns,1≤n/\n≤4:=fun n hn=>by have:=hw.n4 n hn;omega
 have pa:=aP fun n hn=>(n1 n hn).1;have pb:=aP fun n hn=>(m1 n hn).1;have pm:prod (aN Hd)≤300:=by
  have c:=bK (a:=prod (aN Hd)) (b:=prod ns) (by omega) pa;rw[KP]at c;exact KQ c hw.most
 have pn:prod ns≤300:=KQ (bK (by omega) pb) hw.most;have hBo:=j6 hw.h4 (by omega) Hd.length;rw[Ke]at hBo;have hok:=jl hw.h4;have cr:∀p∈crs Hd,1≤p.2/\p.2 ∣ hB Hd/\My.BN 300 p.1:=fun p hp=>by
  obtain⟨x',hx',rfl⟩:=JU.mp hp;obtain⟨x0,x1⟩:=hok.2 x' hx';obtain⟨a0,a1,a2,a3,a4,a5⟩:=b7 (s:=hB Hd) (w:=x') (by omega) x0;exact⟨a1,a3,(gu a0 (by omega)).mono (by decide)⟩
 have cl:(crs Hd).length≤300:=by
  unfold crs;rw[JN];have:=hok.1;have e:prod (Hd.map fun ws=>(ws.length:Int))≤300:=pm;omega
 refine⟨Hd,rfl,by omega,hw.h4,pm,fun p1 H1 s1 hp1 e1=>?_⟩;right;refine⟨crs Hd,hB Hd,.inr ⟨p1,rfl,e1⟩,⟨by omega,(gu (by omega) hBo.2).mono (by decide)⟩,fun p hp=>⟨(cr p hp).1,(cr p hp).2.1⟩,fun hb b0 b1 b2=>?_⟩;have hbl:=Lj (by omega) b1;have hbn:My.BN 300 hb:=(gu (by omega) (by omega)).mono (by decide);right;refine⟨crs Hd,.inr ⟨p1,rfl,e1⟩,by omega,⟨b0,hbn⟩,fun p hp=>⟨(cr p hp).1,b2 p hp,(cr p hp).2.2⟩,fun p2 hp2=>?_⟩;have T0:=fun v=>Tps.zero (v:=v) (ts:=ts) (bs:=bs) hw (by omega) b0 b1 b2;have eg:(crs Hd).map (tpO hb)=(wys (aN Hd)).map fun u=>tpO hb (shr (hB Hd) (hwt Hd u)):=by
  unfold crs;rw[oj,JY,JY];rfl
 rw[eg];generalize (fun u=>tpO hb (shr (hB Hd) (hwt Hd u)))=g0 at *;have s2:=s1.put (o:=.lst (((wys (aN Hd)).map g0).map PV.int)) (s1.free hp2);have e2:put H1 p2 (.lst (((wys (aN Hd)).map g0).map PV.int)) p2=some (.lst (((wys (aN Hd)).map g0).map PV.int)):=af;generalize put H1 p2 (.lst (((wys (aN Hd)).map g0).map PV.int))=H2 at *;have hx2:=s2 _ _ hx;have hy2:=s2 _ _ hy;right;refine⟨dx,_,_,hx2,rfl,?_⟩
 try ac_rfl
 refine⟨dy,_,_,hy2,rfl,?_⟩
 try ac_rfl
 refine⟨⟨by omega,by omega⟩,fun p3 hp3=>?_⟩;refine aA idP (fun _=>true) (fun σ=>∃z,σ=[z,some (.tup [])]) (by rw[c7,JN,Kh];omega) (fun _=>trivial) ?_ ?_ ⟨_,rfl⟩
 ·rintro y2 hy2' l σ2 R2 ⟨z2,rfl⟩ hl2 kT kF;rw[c7]at hy2';obtain⟨k,hk,rfl⟩:=JU.mp hy2';ac_rfl;exact a8 rfl ⟨hl2,by rw[aE];exact kT rfl _ ⟨_,rfl⟩⟩
 rw[xi];have s3:=s2.put (o:=.lst (bN 0 c.toNat)) (s2.free hp3);have e3:put H2 p3 (.lst (bN 0 c.toNat)) p3=some (.lst (bN 0 c.toNat)):=af;have e23:=(ag (o:=.lst (bN 0 c.toNat)) (aj e2 hp3)).trans e2;generalize put H2 p3 (.lst (bN 0 c.toNat))=H3 at *;right;refine⟨_,e3,fun p4 hp4=>?_⟩;refine cg (fun i σ H4=>∃z,∃rs:List Addr,σ=[z,some (.ref x)]/\U.Sub H3 H4/\H4 p4=some (.lst (rs.map PV.ref))/\rs.length=i/\∀(k:Nat) r,rs[k]?=some r->r≠p4/\H4 r=some (.lst ((rpl Hd bs (k:Int)).map PV.int))) ?_ ?_ ⟨_,[],rfl,(Sub.refl H3).put hp4,af,rfl,fun k r e=>by cases e⟩
 ·rintro i y' σ H4 R1 hy' ⟨z,rs,rfl,s4,ha4,lr,kr⟩ kk;refine⟨s4 _ _ e3,?_⟩;rw[c7]at hy';obtain⟨hi,rfl⟩:i<c.toNat/\y'=.int (i:Nat):=by
   obtain⟨q1,q2⟩:=JS.mp hy';rw[JN,Kh]at q1;rw[Li,List.getElem_range]at q2;exact⟨q1,q2.symm⟩
  have s34:=s3.trans s4;ac_rfl;refine⟨c,ts,bs,ns,Hd,Tb,⟨dx,y,dy,wd,s34 _ _ hx,s34 _ _ hy⟩,hs,hw,⟨by omega,by omega⟩,fun r H5 s5 hr' er=>?_⟩;have n4:r≠p4:=(aj ha4 hr').symm;refine⟨_,s5 _ _ ha4,aO (by rw[JN];omega),kk _ _ ⟨_,rs++[r],rfl,(s4.trans s5).put hp4,by rw[af,J9];rfl,by rw[J2,lr];rfl,fun k r' e=>?_⟩⟩;rcases eA e with e |⟨rfl,rfl⟩
  ·obtain⟨q1,q2⟩:=kr k r' e;exact⟨q1,(ag q1).trans (s5 _ _ q2)⟩
  ·refine⟨n4,(ag n4).trans ?_⟩;rw[lr];exact er
 ·rintro σ H4 ⟨z,rs,rfl,s4,ha4,lr,kr⟩;refine⟨s4 _ _ e3,?_⟩;rw[c7,JN,Kh]at lr;have s34:=s3.trans s4;have e24:=s4 _ _ e23;have e34:=s4 _ _ e3;right;intro d hd;have s5:=s34.put (o:=.dI P w [] 0) (s34.free hd);have kd:∀a u,H4 a=some u->put H4 d (.dI P w [] 0) a=some u:=fun a u e=>(ag (aj e hd)).trans e;have nd:∀a u,H4 a=some u->a≠d:=fun a u e=>aj e hd;have ed:put H4 d (.dI P w [] 0) d=some (.dI P w [] 0):=af;change R _ _ (put H4 d (.dI P w [] 0));generalize put H4 d (.dI P w [] 0)=H5 at *;right;refine⟨dx,_,_,s5 _ _ hx,rfl,ns,.inl rfl,by omega,n1,pn,fun p5 H6 s56 hp5 e5=>⟨_,e5,?_⟩⟩;have wl:=nh n1 pn ns.length;rw[Ke]at wl;have n5d:p5≠d:=(aj ed hp5).symm;have k6:∀a u,H4 a=some u->H6 a=some u:=fun a u e=>s56 _ _ (kd a u e);refine a9 (fun j σ H7=>∃z8 z9 z10 z11 z12 z13 z14 z15 ep,σ=[some (.ref x),some (.tup []),some (.ref p1),some (.int hb),some (.ref p2),some (.ref p3),some (.ref p4),some (.ref d),z8,z9,z10,z11,z12,z13,z14,z15]/\(∀a u,a≠d->H6 a=some u->H7 a=some u)/\H7 d=some (.dI P w ((bx ns Hd Tb ts bs).take j) ep)) ?_ ?_ ⟨_,_,_,_,_,_,_,_,0,rfl,fun a u _ e=>e,s56 _ _ ed⟩
  ·rintro σ H7 ⟨z8,z9,z10,z11,z12,z13,z14,z15,ep,rfl,k7,e7⟩;refine⟨k7 _ _ n5d e5,?_⟩;have el:((wys ns).map tI).length=(bx ns Hd Tb ts bs).length:=by unfold bx;rw[JN,JN]
   rw[el,Ke]at e7;subst hR;ac_rfl;exact⟨H7,Sub.refl _,h d H7 ep (fun a u e=>k7 a u (nd a u (s34 _ _ e)) (k6 a u (s34 _ _ e))) (s34.free hd) e7⟩
  ·rintro D j y' σ H7 hy' ⟨z8,z9,z10,z11,z12,z13,z14,z15,ep,rfl,k7,e7⟩ kk;refine⟨k7 _ _ n5d e5,?_⟩;rw[JV]at hy';cases hg:(wys ns)[j]? with
   | none=>rw[hg]at hy';cases hy'
   | some v =>
    rw[hg]at hy';cases hy';have hv:=JX hg;have hj:=(JS.mp hg).1;have k47:∀a u,H4 a=some u->H7 a=some u:=fun a u e=>k7 a u (nd a u e) (k6 a u e)
    try simp only[KG]
    simp only[bZ,KL,KH];have ev:tI v=.tup (v.map PV.int):=rfl;rw[ev];refine ak fun R2 hR2=>?_;ac_rfl;subst hR2;refine ak fun R2 hR2=>?_;ac_rfl;subst hR2;refine ak fun R2 hR2=>?_;ac_rfl;refine⟨_,_,k47 _ _ e34,k47 _ _ ha4,?_⟩;have lz:(dU (bN 0 c.toNat) (rs.map PV.ref)).length=ns.length:=by rw[iR,c7,JN,JN,Kh];omega
    refine a9 (fun i σ H8=>∃q g B z11 z12 z13 z14 z15,σ=[some (.ref x),some (.tup []),some (.ref p1),some (.int hb),some (.ref p2),some (.ref p3),some (.ref p4),some (.ref d),some (.tup (v.map PV.int)),some (.ref q),some (.int B),z11,z12,z13,z14,z15]/\U.Sub H7 H8/\H8 q=some (.lst (((wys (aN Hd)).map g).map PV.int))/\Tps v ns Hd Tb ts bs i g B) ?_ ?_ ⟨p2,g0,hb,_,_,_,_,_,rfl,Sub.refl _,k47 _ _ e24,T0 v⟩
    ·rintro σ H8 ⟨q,g,B,z11,z12,z13,z14,z15,rfl,s8,eq8,TT⟩;refine⟨⟨s8 _ _ (k47 _ _ e34),s8 _ _ (k47 _ _ ha4)⟩,?_⟩;rw[lz]at TT;obtain⟨f1,f2,f3⟩:=TT.fin hw;have ed8:=s8 _ _ e7;subst hR2;ac_rfl;refine⟨_,eq8,⟨f1,TT.pos,(TT.bn (by omega) (Lo TT.pos) (Ma _)).mono (by decide)⟩,v,_,ep,rfl,ed8,?_,fun ep'=>kk _ _ ⟨_,_,_,_,_,_,_,_,ep',rfl,fun a u n e=>(ag n).trans (s8 _ _ (k7 a u n e)),?_⟩⟩
     ·rw[Kl];unfold bx;rw[JN];omega
     ·have es:(bx ns Hd Tb ts bs).take (j+1)=(bx ns Hd Tb ts bs).take j++[(v,prV (shr (LBn Hd Tb ns.length) (num v ns Hd Tb ts bs)))]:=by
       rw[Kr];unfold bx;rw[JV,hg];rfl
      have nk:v∉((bx ns Hd Tb ts bs).take j).map (·.1):=fun hm=>by
       unfold bx at hm;rw[←List.map_take,JY]at hm;obtain⟨v',hv',e⟩:=JU.mp hm;have e:v'=v:=e;subst e;obtain⟨i',hi',ei'⟩:=LA hv';rw[Kl]at hi';rw[List.getElem_take]at ei';have:=(List.getElem_inj gw).mp (ei'.trans (JS.mp hg).2.symm);omega
      rw[af,es,CI TT.pos,f3];unfold gH;rw[Kq nk];rfl
    ·rintro D2 i y2 σ H8 hy2' ⟨q,g,B,z11,z12,z13,z14,z15,rfl,s8,eq8,TT⟩ kk2;refine⟨⟨s8 _ _ (k47 _ _ e34),s8 _ _ (k47 _ _ ha4)⟩,?_⟩;have hi:=(JS.mp hy2').1;rw[lz]at hi;obtain⟨a',b',ea',eb',rfl⟩:=xP hy2';rw[c7,JV,List.getElem?_range (by omega)]at ea';cases ea';rw[JV]at eb';cases hr2:rs[i]? with
     | none=>rw[hr2]at eb';cases eb'
     | some r =>
      rw[hr2]at eb';cases eb';have er8:=s8 _ _ (k47 _ _ (kr i r hr2).2);have hn:0≤((i:Nat):Int)/\((i:Nat):Int)<c:=⟨by omega,by omega⟩;obtain⟨pl4,pal⟩:=we hs hw hn hv;have L0:0<L28:=by decide
      simp only[xF,oX,bZ,KL,KH];refine⟨rfl,rfl,?_⟩;refine ak fun R3 hR3=>?_;ac_rfl;refine⟨c,ts,bs,ns,Hd,Tb,v,⟨dx,y,dy,wd,s8 _ _ (k47 _ _ (s34 _ _ hx)),s8 _ _ (k47 _ _ (s34 _ _ hy))⟩,hs,hw,hn,rfl,hv,fun p6 H9 s9 hp6 e6=>?_⟩;subst hR3;refine ak fun R3 hR3=>?_;ac_rfl;refine⟨_,L28,.inr ⟨p6,rfl,e6⟩,⟨L0,eU (Lo L0) (Ma _)⟩,fun p hp=>⟨(pal p hp).1,(pal p hp).2.1⟩,fun ob o0 o1 o2=>?_⟩;have obl:=Lj L0 o1;have obn:=eU (Lo o0) obl;subst hR3;refine ak fun R3 hR3=>?_;ac_rfl;refine⟨_,.inr ⟨p6,rfl,e6⟩,by omega,⟨o0,obn⟩,fun p hp=>⟨(pal p hp).1,o2 p hp,(pal p hp).2.2⟩,fun p7 hp7=>?_⟩;have s10:=(s8.trans s9).put (o:=.lst (((pke v ns Hd Tb ts bs (i:Int)).map (tpO ob)).map PV.int)) ((s8.trans s9).free hp7);have eq10:=(ag (o:=.lst (((pke v ns Hd Tb ts bs (i:Int)).map (tpO ob)).map PV.int)) (aj (s9 _ _ eq8) hp7)).trans (s9 _ _ eq8);have er10:=(ag (o:=.lst (((pke v ns Hd Tb ts bs (i:Int)).map (tpO ob)).map PV.int)) (aj (s9 _ _ er8) hp7)).trans (s9 _ _ er8);have e10:put H9 p7 (.lst (((pke v ns Hd Tb ts bs (i:Int)).map (tpO ob)).map PV.int)) p7=some (.lst (((pke v ns Hd Tb ts bs (i:Int)).map (tpO ob)).map PV.int)):=af;generalize put H9 p7 (.lst (((pke v ns Hd Tb ts bs (i:Int)).map (tpO ob)).map PV.int))=H10 at *;subst hR3;refine ak fun R3 hR3=>?_;ac_rfl;refine⟨_,_,eq10,er10,fun acc hacc=>?_⟩;have ezp:dU (((wys (aN Hd)).map g).map PV.int) ((rpl Hd bs ((i:Nat):Int)).map PV.int)=((wys (aN Hd)).map fun u=>(g u,plc (prs u Hd bs ((i:Nat):Int)))).map prV:=by
       rw[←oN];unfold rpl;simp only[JY];rfl
      have w3:=nh m1 pm (aN Hd).length;rw[Ke]at w3;rw[ezp];refine aA (fM ((pke v ns Hd Tb ts bs (i:Int)).map (tpO ob))) (fun _=>true) (fun σ=>∃z z',σ=[z,z',some (.ref p7)]) (by rw[JN,JN];omega) (fun l=>⟨(ag (aj eq10 hacc)).trans eq10,(ag (aj er10 hacc)).trans er10⟩) ?_ ?_ ⟨_,_,rfl⟩
      ·rintro y3 hy3 l3 σ3 R4 ⟨z3,z3',rfl⟩ hl3 kT kF;obtain⟨pp,hpp,rfl⟩:=JU.mp hy3;obtain⟨u,hu,rfl⟩:=JU.mp hpp;obtain⟨ws,g1,g2,g3,g4⟩:=fP hs hw hn hv hu;obtain⟨t0,t1⟩:=FN hs hw hn hv o0 o2 hu;obtain⟨r1,r2,r3⟩:=TT.rel u hu;have ef:fM ((pke v ns Hd Tb ts bs (i:Int)).map (tpO ob)) (prV (g u,plc (prs u Hd bs ((i:Nat):Int))))=.int (g u*oT v ns Hd Tb ts bs (i:Int) ob u):=rfl;rw[ef]at kT;have ei:atI (((pke v ns Hd Tb ts bs (i:Int)).map (tpO ob)).map PV.int) (plc (prs u Hd bs ((i:Nat):Int)))=some (.int (oT v ns Hd Tb ts bs (i:Int) ob u)):=bw g3.1 (by rw[JN];omega);have e1':∀p:DM.P2,prV p=.tup [.int p.1,.int p.2]:=fun _=>rfl;rw[e1'];ac_rfl;refine⟨_,(ag (aj e10 hacc)).trans e10,?_⟩;rw[ei]
       try ac_rfl
       exact⟨.inr ⟨dj ((TT.bn (by omega) r2 r3).mono (by decide)),dj (eU t0 (by omega))⟩,hl3,by rw[aE];exact kT rfl _ ⟨_,_,rfl⟩⟩
      have em:(((((wys (aN Hd)).map fun u=>(g u,plc (prs u Hd bs ((i:Nat):Int)))).map prV).filter fun _=>true).map (fM ((pke v ns Hd Tb ts bs (i:Int)).map (tpO ob))))=((wys (aN Hd)).map fun u=>g u*oT v ns Hd Tb ts bs (i:Int) ob u).map PV.int:=by
       rw[Kg.mpr (fun _ _=>rfl)];simp only[JY];rfl
      rw[em];have T2:=TT.next hs hw hn.2 hv o0 o1 o2;subst hR3;ac_rfl;exact⟨.inr ⟨dj ((TT.bn (by omega) (Lo TT.pos) (Ma _)).mono (by decide)),dj obn⟩,kk2 _ _ ⟨acc,_,_,_,_,_,_,_,rfl,s10.put (s10.free hacc),af,T2⟩⟩
theorem Gd(T:Tx K mg t):aM P w K mg base CX0 6 t.a_zg t.d_zg ["self","setnames"] (iJ t P w):=by
 exists 5,T.F_zg,FQ,(ae (aS (cW (sf hr.units) Co (qv 1) (br (qv 0) T.cl_B T.nf_World_weighed rfl))
  (ao (cu (au (G5 T) hr.mo rfl T.g_zc T.F_zc.kp T.B_zc (aa (qv 0) (aa (qv 1) ab))) (il hr.units (br (qv 0) T.cl_B T.nf_World_weighed rfl) (qv 1))))
  aF)
  (ao (ax (ir hr.units (br (qv 0) T.cl_B T.nf_World_weighed rfl) (qv 1) (fun _ _=>rfl )))))
 obtain⟨x,_,rfl,l,_,rfl,rfl,h⟩:=h;obtain⟨wd,c,ts,bs,ns,Hd,Tb,rfl,⟨dx,y,dy,hx,hy,cs⟩,hs,hw,h⟩:=h;left;refine⟨dx,_,_,hx,rfl,?_⟩
 try ac_rfl
 rcases cs with⟨ep,ew⟩ |⟨r,ep,ep2,ew,er,nr⟩
 ·refine⟨[],_,ep,rfl,ew,a8 rfl ?_⟩
  try ac_rfl
  have nx:x≠wd:=fun e=>by rw[e,ew]at hx;cases hx
  have ny:y≠wd:=fun e=>by rw[e,ew]at hy;cases hy
  refine⟨c,ts,bs,ns,Hd,Tb,⟨dx,y,dy,wd,hx,hy⟩,hs,hw,fun r H1 ep1 s1 hr1 e1=>⟨dx,_,_,s1 _ _ hx,rfl,?_⟩⟩;have nr:r≠wd:=(aj ew hr1).symm
  try ac_rfl
  refine⟨[],[],ep,rfl,s1 _ _ ew,by decide,fun ep'=>?_⟩;have ep2:gH [] [] (PV.ref r)=[([],PV.ref r)]:=rfl;rw[ep2];have k2:∀a u,a≠wd->H a=some u->put H1 wd (.dI P w [([],.ref r)] ep') a=some u:=fun a u n e=>(ag n).trans (s1 _ _ e);have e2:put H1 wd (.dI P w [([],.ref r)] ep') wd=some (.dI P w [([],.ref r)] ep'):=af;have er:put H1 wd (.dI P w [([],.ref r)] ep') r=some (.dI P w (bx ns Hd Tb ts bs) ep1):=(ag nr).trans e1;change R _ _ (put H1 wd (.dI P w [([],.ref r)] ep'));generalize put H1 wd (.dI P w [([],.ref r)] ep')=H2 at *;subst hR;ac_rfl;refine⟨dx,_,_,k2 _ _ nx hx,rfl,?_⟩
  try ac_rfl
  exact⟨[],_,ep',.ref r,rfl,e2,rfl,H2,Sub.refl _,h r H2 ep1 k2 ⟨dx,y,dy,k2 _ _ nx hx,k2 _ _ ny hy,.inr ⟨r,ep',ep1,e2,er,nr⟩⟩ er⟩
 ·refine⟨[],_,ep,rfl,ew,aU rfl ?_⟩;subst hR;ac_rfl;refine⟨dx,_,_,hx,rfl,?_⟩
  try ac_rfl
  exact⟨[],_,ep,.ref r,rfl,ew,rfl,H,Sub.refl _,h r H ep2 (fun _ _ _ e=>e) ⟨dx,y,dy,hx,hy,.inr ⟨r,ep,ep2,ew,er,nr⟩⟩ er⟩
theorem Ef(T:Tx K mg t):aM P w K mg base CX0 7 t.a_zo t.d_zo ["self"] (pS t P w):=by
 exists 6,T.F_zo,Dy,(ao (ax (aK oA uP rfl T.b_dict boot_dict (aa (gf (qv 0) T.cl_B T.m_zg (Gd T) hr.mo T.B_zg (aa (bM ab) ab)) ab))))
 obtain⟨x,_,rfl,rfl,h⟩:=h;obtain⟨wd,c,ts,bs,ns,Hd,Tb,wc,hs,hw,h⟩:=h;have c6:=hs.hc;have ln:=hw.ln;have n1:∀n∈ns,1≤n/\n≤4:=fun n hn=>by have:=hw.n4 n hn;omega
 have pa:=aP fun n hn=>(n1 n hn).1;have m1:∀n∈aN Hd,1≤n/\n≤4:=fun n hn=>by
  obtain⟨ws,hws,rfl⟩:=JU.mp hn;have:=hw.h4 ws hws;omega
 have pb:=aP fun n hn=>(m1 n hn).1;have pn:prod ns≤300:=KQ (bK (by omega) pb) hw.most;have wl:=fv n1;have sl:(bx ns Hd Tb ts bs).length=(wys ns).length:=by unfold bx;rw[JN]
 obtain⟨dx,y,dy,hx,hy,cs⟩:=id wc;ac_rfl;refine⟨⟨dx,_,hx,rfl⟩,Ll _,wd,c,ts,bs,ns,Hd,Tb,wc,hs,hw,fun r H1 ep k1 w1 e1=>?_⟩;obtain⟨u1,f1⟩:=w1.has
 try ac_rfl
 refine⟨_,ep,e1,by omega,by omega,by rw[gQ];exact yO n1 (by omega),fun r2 ep' hr2=>⟨_,Sub.refl _,h r2 _ ep' (fun a u n e=>(ag (aj (k1 a u n e) hr2)).trans (k1 a u n e)) (fun o=>by rw[aE];exact w1.put hr2 o) (oU k1 f1 hr2) (aj f1 hr2).symm af⟩⟩
theorem GI(T:Tx K mg t):aM P w K mg base CX0 7 t.a_zv t.d_zv ["self"] (pN t P w):=by
 exists 6,T.F_zv,Fm,(ao (ax (ar (c9 rfl) fh rfl T.b_all boot_all (aa (fF (N2:=EE) (nt:=1) (js:=[]) (cA wJ) rfl (DE (lC (gf (qv 0) T.cl_B T.m_zg (Gd T) hr.mo T.B_zg (aa (bM ab) ab)))) (fun _ _ _ _=>⟨(gN 0 Ja),aL,(bc jf iM (iX (qv 0) aq) aq (ba _))⟩)) ab))))
 obtain⟨x,_,rfl,rfl,h⟩:=h;obtain⟨wd,c,ts,bs,ns,Hd,Tb,wc,hs,hw,h⟩:=h;have c6:=hs.hc;have ln:=hw.ln;have n1:∀n∈ns,1≤n/\n≤4:=fun n hn=>by have:=hw.n4 n hn;omega
 have pa:=aP fun n hn=>(n1 n hn).1;have m1:∀n∈aN Hd,1≤n/\n≤4:=fun n hn=>by
  obtain⟨ws,hws,rfl⟩:=JU.mp hn;have:=hw.h4 ws hws;omega
 have pb:=aP fun n hn=>(m1 n hn).1;have pn:prod ns≤300:=KQ (bK (by omega) pb) hw.most;have wl:=fv n1;have sl:(bx ns Hd Tb ts bs).length=(wys ns).length:=by unfold bx;rw[JN]
 obtain⟨dx,y,dy,hx,hy,cs⟩:=id wc;ac_rfl;refine⟨⟨dx,_,hx,rfl⟩,Ll _,wd,c,ts,bs,ns,Hd,Tb,wc,hs,hw,fun r H1 ep k1 w1 e1=>?_⟩;obtain⟨u1,f1⟩:=w1.has
 try ac_rfl
 refine⟨⟨_,ep,e1⟩,fun p hp=>?_⟩
 try ac_rfl
 have e2:=(ag (o:=.vw r) (aj e1 hp)).trans e1;have w2:=w1.put hp (.vw r);have k2:∀a u,a≠wd->H a=some u->put H1 p (.vw r) a=some u:=fun a u n e=>(ag (aj (k1 a u n e) hp)).trans (k1 a u n e);refine⟨r,_,ep,rfl,e2,fun acc hacc=>?_⟩;generalize put H1 p (.vw r)=H2 at *;refine aA fG (fun _=>true) (fun σ=>∃z,σ=[z]) (by rw[JN];omega) (fun l=>(ag (aj e2 hacc)).trans e2) ?_ ?_ ⟨_,rfl⟩
 ·rintro y2 hy2 l σ2 R2 ⟨z2,rfl⟩ hl2 kT kF;obtain⟨pq,hpq,rfl⟩:=JU.mp hy2;obtain⟨v,hv,rfl⟩:=JU.mp hpq;have e1':∀p:DM.P2,prV p=.tup [.int p.1,.int p.2]:=fun _=>rfl;rw[e1']at kT ⊢;ac_rfl;exact⟨hl2,by rw[aE];exact kT rfl _ ⟨_,rfl⟩⟩
 rw[Cc]
 try ac_rfl
 have L0:=iu hw (JW ns.length);refine⟨_,rfl,H2,(Sub.refl H2).put hacc,h _ H2 k2 w2 ?_⟩;rw[Ky];constructor
 ·intro q v hv;have:=q _ (JU.mpr ⟨v,hv,rfl⟩);exact(me L0 (m9 hs hw hv)).mp (LC this)
 ·intro q b hb;obtain⟨v,hv,rfl⟩:=JU.mp hb;exact Lq ((me L0 (m9 hs hw hv)).mpr (q v hv))
theorem El(T:Tx K mg t):aM P w K mg base CX0 9 t.a_zQ t.d_zQ ["_law_shape","_law_told","_law_bits"] (oG t P w):=by
 exists 8,T.F_zQ,zw,(ae (sN 3 zw.nd (au (IA T) hr.mo rfl T.g_zw T.F_zw.kp T.B_zw (aa (qv 1) (aa (qv 2) ab))))
  (ao (ax (kB T.mk_B (IZ T) hr.mo rfl T.g_B T.B_zx (aa (kB T.mk_A (Gs T) hr.mo rfl T.g_A T.B_zi (aa (iX (qv 0) aq) (aa (aK cD fO rfl T.b_list LZ (aa (iX (qv 0) aq) ab)) (aa (aK cD fO rfl T.b_list LZ (aa (iX (qv 0) aq) ab)) ab)))) (aa (iX (qv 3) aq) (aa (iX (qv 3) aq) (aa (iX (qv 3) aq) ab))))))))
 obtain⟨u0,_,rfl,v0,_,rfl,bits,_,rfl,rfl,h⟩:=h;obtain⟨c,tv,bv,na,nb,nc,rfl,rfl,h⟩:=h;obtain⟨ts,bs,ns,Hd,Tb,rfl,rfl,rfl,rfl,rfl,hs,hw,h⟩:=h;have c6:=hs.hc;have b6:=hs.l6;have ln:=hw.ln;have lh:=hw.lh;have lt:=hw.lt;left;refine⟨ns,Hd,Tb,rfl,rfl,rfl,⟨by omega,by omega,fun Rw hR=>?_⟩,fun r0 a b d N ys zs H2 s2 er ner fre nN nr0 ea eb ed py lz fz hnd=>?_⟩
 ·obtain⟨i,hi,rfl⟩:=LA hR;exact(hw.tb i _ (JO hi)).2.1
 subst hR;ac_rfl;intro j1 hj1;have up1:=(Sub.refl H2).put (o:=.lst (ts.map prV)) hj1;have ej1:put H2 j1 (.lst (ts.map prV)) j1=some (.lst (ts.map prV)):=af;generalize put H2 j1 (.lst (ts.map prV))=J3 at *;intro j2 hj2;have up2:=up1.put (o:=.lst (bs.map prV)) (up1.free hj2);have fj1:=(ag (o:=.lst (bs.map prV)) (aj ej1 hj2)).trans ej1;have fj2:put J3 j2 (.lst (bs.map prV)) j2=some (.lst (bs.map prV)):=af;generalize put J3 j2 (.lst (bs.map prV))=J4 at *;intro x0 dx0 hx0 hdx0 ne0;refine⟨dx0,_,_,ts,bs,rfl,.inr ⟨j1,rfl,(ag (aj fj1 hx0)).trans fj1⟩,.inr ⟨j2,rfl,(ag (aj fj2 hx0)).trans fj2⟩,d7,d7,hs.gt,hs.gb,⟨c6.1,c6.2,b6⟩,fun ts' bs' pt st pb sb=>?_⟩;obtain rfl:ts'=ts:=DM.ik pt st (L8 _) hs.st;obtain rfl:bs'=bs:=DM.ik pb sb (L8 _) hs.sb
 try ac_rfl
 rw[aE];have up5:=up2.put (o:=.ins t.a_A dx0 (DF c ts' bs')) (up2.free hx0);have ex0:put J4 x0 (.ins t.a_A dx0 (DF c ts' bs')) x0=some (.ins t.a_A dx0 (DF c ts' bs')):=af;generalize put J4 x0 (.ins t.a_A dx0 (DF c ts' bs'))=J5 at *;refine⟨_,up5 _ _ er,?_⟩
 try ac_rfl
 refine⟨_,up5 _ _ er,?_⟩
 try ac_rfl
 refine⟨_,up5 _ _ er,?_⟩
 try ac_rfl
 intro x dx hx hdx ne;have up6:=(Sub.refl J5).put (o:=.ins t.a_B dx []) hx;have up26:=up5.trans up6;refine⟨dx,dx0,c,ts',bs',ns,Hd,Tb,ys,zs,rfl,up6 _ _ ex0,up26 _ _ ea,up26 _ _ eb,up26 _ _ ed,pZ (eT.imp (fun r u n e=>⟨n,up26 _ _ e⟩) py),zN lz fun i z Rw e1 e2=>yY ((hnd.up up26).tb i z Rw e1 e2),hs,hw,fun y dy wd H7 k7 ex ey hy ewd hwd=>?_⟩
 try ac_rfl
 have s7:U.Sub H H7:=fun q u e=>k7 q u (aj (up5 _ _ (s2 _ _ e)) hx) (up26 _ _ (s2 _ _ e));have nwx:wd≠x:=fun e=>by rw[e,af]at hwd;cases hwd
 exact⟨H7,Sub.refl _,h x wd H7 s7 (s2.free (up5.free hx)) (s2.free (up26.free hwd)) ⟨dx,y,dy,ex,ey,.inl ⟨0,ewd⟩⟩⟩
theorem Ey(T:Tx K mg t):aM P w K mg base CX0 2 t.a_zM t.d_zM ["_law_rows_here"] oI:=by
 exists 1,T.F_zM,pf,(ae (sN 1 pf.nd aq)
  (ae (aZ Kj rfl (aI (qv 0)) (gN 2 pf.nd)
  (ao (sN 1 pf.nd (bf (aY (qv 1) (ar (cx rfl) eH rfl T.b_sum boot_sum (aa (qv 2) ab))) (au (Cu T) hr.mo rfl T.g_zk T.F_zk.kp T.B_zk (aa (qv 1) (aa (ar (cx rfl) eH rfl T.b_sum boot_sum (aa (qv 2) ab)) ab)))))))
  (ao (ax (bM (aa (lB (N2:=Ee) (nt:=1) (js:=[1]) (D8 (y0:="_law_row") (sc:=av yI) (by exact rfl) (by repeat (first | exact trivial | refine⟨rfl,?_⟩)) rfl (by rfl) rfl (by decide +kernel) (fun _=>by rfl) (fun _=>by rfl) (by decide +kernel) (by rfl) (by decide +kernel) (by rfl) (by rfl)) rfl (iY (aI (qv 0))) (fun _ _ _ _=>⟨(gN 0 IH),aL,(cE DD 1 [1,0] (cok (by exact rfl) (by repeat (first | exact trivial | refine⟨rfl,?_⟩)) rfl (by rfl) (by decide +kernel) (by decide +kernel) (by rfl) (fun x hx=>(J7.mp hx).elim (fun e=>by rw[e];exact⟨rfl,rfl⟩) fun hx=>by rw[Ka.mp hx];exact⟨rfl,rfl⟩) (by rfl) (by rfl)) (aI (qv 0)) (fun _ _ _ _=>⟨(gN 0 HN),aL,(aY (qv 0) (bf (qv 1) (ar (cx rfl) eH rfl T.b_sum boot_sum (aa (qv 2) ab))))⟩))⟩)) (aa (qv 1) ab)))))))
 obtain⟨a,_,rfl,rfl,h⟩:=h;obtain⟨ys,Rw,ha,pr,sh,h4,h⟩:=h;have ly:=bH pr;have L0:0<L28:=by decide
 have so:∀ws∈Rw,0<ws.sum/\ws.sum ∣ L28:=fun ws hws=>⟨(sh ws hws).2.1,eK (sh ws hws).2.1 (sh ws hws).2.2.2.1⟩;left;right;refine⟨_,ha,?_⟩;refine a9 (fun i σ H2=>∃z,σ=[some (.ref a),some (.int (byL (Rw.take i))),z]/\H2=H) ?_ ?_ ⟨_,rfl,rfl⟩
 ·rintro σ H2 ⟨z,rfl,rfl⟩;refine⟨ha,?_⟩;rw[ly,Ke];obtain⟨b0,b1,b2⟩:=gx L0 so;have bl:=Lj L0 b1;subst hR;ac_rfl;refine⟨_,ha,fun p hp=>?_⟩;refine cg (fun i σ H3=>∃z zs,σ=[z,some (.int (byL Rw))]/\U.Sub H2 H3/\H3 p=some (.lst zs)/\Paired (vE p H2 H3) zs ((Rw.take i).map fun ws=>ws.map fun w=>w*(byL Rw).fdiv ws.sum)) ?_ ?_ ⟨_,[],rfl,(Sub.refl H2).put hp,af,.nil⟩
  ·rintro i y σ H3 R1 hy ⟨z',zs,rfl,s3,ep,pz⟩ kk;refine⟨s3 _ _ ha,?_⟩;have hi:=(JS.mp hy).1;have tr:=cK pr hi (by omega);rw[(JS.mp hy).2]at tr;have hg:Rw[i]?=some (Rw[i]'(by omega)):=JO (by omega);have hm:=KC (show i<Rw.length by omega);generalize Rw[i]'(by omega)=ws at *;obtain⟨r,rfl,er⟩:=tr;have shw:=sh ws hm;have s0:=shw.2.1;have s1:=shw.2.2.2.1;have er3:=s3 _ _ er;have fl:=ft (a:=byL Rw) (b:=ws.sum) (by omega) s0;have lz:=bH pz;rw[JN,Kl]at lz;ac_rfl;refine⟨_,er3,fun q hq=>?_⟩;have nqp:q≠p:=(aj ep hq).symm;refine aA (fQ ((byL Rw).fdiv ws.sum)) (fun _=>true) (fun σ=>∃z,σ=[z,some (.int (byL Rw)),some (.ref r)]) (by rw[JN];have:=shw.2.2.2.2;omega) (fun l=>(ag (aj er3 hq)).trans er3) ?_ ?_ ⟨_,rfl⟩
   ·rintro y2 hy2 l σ2 R2 ⟨z2,rfl⟩ hl2 kT kF;obtain⟨w',hw',rfl⟩:=JU.mp hy2;obtain⟨q1,q2⟩:0≤w'/\w'≤ws.sum:=⟨shw.2.2.1 w' hw',eV shw.2.2.1 hw'⟩;ac_rfl;exact⟨ws,(ag (aj er3 hq)).trans er3,E1 s0 (by omega),.inr ⟨cX q1 (by omega),dj (eU fl.1 (by omega))⟩,hl2,by rw[aE];exact kT rfl _ ⟨_,rfl⟩⟩
   have em:(((ws.map PV.int).filter fun _=>true).map (fQ ((byL Rw).fdiv ws.sum)))=(ws.map fun w=>w*(byL Rw).fdiv ws.sum).map PV.int:=by
    rw[Kg.mpr (fun _ _=>rfl),JY,JY];rfl
   rw[em]
   try ac_rfl
   refine⟨zs,(ag (aj ep hq)).trans ep,aO (by omega),kk _ _ ⟨_,zs++[.ref q],rfl,(s3.put (s3.free hq)).put hp,af,?_⟩⟩;have et:(Rw.take (i+1)).map (fun ws=>ws.map fun w=>w*(byL Rw).fdiv ws.sum)=(Rw.take i).map (fun ws=>ws.map fun w=>w*(byL Rw).fdiv ws.sum)++[ws.map fun w=>w*(byL Rw).fdiv ws.sum]:=by
    rw[Kr,hg,J9];rfl
   rw[et];exact dF ⟨q,rfl,nqp,s3.free hq,(ag nqp).trans af⟩ (vE.up (fun a u n e=>(ag n).trans ((ag (aj e hq)).trans e)) pz)
  ·rintro σ H3 ⟨z',zs,rfl,s3,ep,pz⟩;refine⟨s3 _ _ ha,aw (by decide),H3,Sub.refl _,h p H3 zs s3 hp ep ?_⟩;rw[ly,Ke]at pz;exact bI (fun _ _ y_=>by obtain⟨r,e,_,f,q⟩:=y_;exact ⟨r,e,f,q⟩) pz
 ·rintro D i y σ H2 hy ⟨z,rfl,rfl⟩ kk;refine⟨ha,?_⟩;have hi:=(JS.mp hy).1;have tr:=cK pr hi (by omega);rw[(JS.mp hy).2]at tr;have hg:Rw[i]?=some (Rw[i]'(by omega)):=JO (by omega);have hm:=KC (show i<Rw.length by omega);generalize Rw[i]'(by omega)=ws at *;obtain⟨r,rfl,er⟩:=tr;have shw:=sh ws hm;have s0:=shw.2.1;have s1:=shw.2.2.2.1;obtain⟨b0,b1,b2⟩:=gx L0 (Rw:=Rw.take i) fun ws hws=>so ws (KJ hws);have bl:=Lj L0 b1;have e:byL (Rw.take (i+1))=(byL (Rw.take i)*ws.sum).fdiv (My.gd (byL (Rw.take i)) ws.sum):=by
   rw[Kr,hg];unfold byL;rw[LS];rfl
  have g:=My.kC (byL (Rw.take i)) ws.sum s0;ac_rfl;exact⟨ws,er,.inr ⟨dj (eU (by omega) bl),cX (by omega) (by omega)⟩,ws,er,E1 g.1 (by omega),kk _ _ ⟨_,by rw[e],rfl⟩⟩
theorem Io(T:Tx K mg t):aM P w K mg base CX0 3 t.a_zm t.d_zm ["_law_shape","_law_world_here"] (iH P w):=by
 exists 2,T.F_zm,bO,(ae (cu (qv 1) (cC (n:=3) rfl (aJ (gN 2 bO.nd) (aJ (gN 3 bO.nd) (aJ (gN 4 bO.nd) bY)))))
  (ae (sN 5 bO.nd aq)
  (ae (sN 6 bO.nd (bE ab))
  (ae (aZ Kj rfl (aI (qv 3)) (gN 7 bO.nd)
  (ae (bT (dS KR KS bJ bV (qv 6) (aa (iX (iX (au (Ey T) hr.mo rfl T.g_zM T.F_zM.kp T.B_zM (aa (bE (aa (qv 7) ab)) ab)) aq) aq) ab)))
   (ao (sN 5 bO.nd (aY (qv 5) (ar (cx rfl) eH rfl T.b_sum boot_sum (aa (qv 7) ab)))))))
  (ae (sN 8 bO.nd (bE ab))
  (ae (aZ Kj rfl (aI (qv 4)) (gN 9 bO.nd)
  (ae (cu (au (Ey T) hr.mo rfl T.g_zM T.F_zM.kp T.B_zM (aa (qv 9) ab)) (cC (n:=2) rfl (aJ (gN 10 bO.nd) (aJ (gN 11 bO.nd) bY))))
   (ae (bT (dS KR KS bJ bV (qv 8) (aa (qv 10) ab)))
   (ao (sN 5 bO.nd (aY (qv 5) (qv 11)))))))
  (ae (sC 12 bO.nd Gb 1 [0] (cA vd) (aR rfl T.b_range (aa (iX (qv 0) aq) ab)) (fun _ _ _ _=>⟨(gN 0 Hw),aL,(au (Eo T) hr.mo rfl T.g_zG T.F_zG.kp T.B_zG (aa (qv 1) (aa (qv 0) ab)))⟩))
  (ae (sN 13 bO.nd iK)
  (ae (aZ Kj rfl (aI (au (DJ T) hr.mo rfl T.g_zL T.F_zL.kp T.B_zL (aa (qv 2) ab))) (gN 14 bO.nd)
  (ae (cu aq (il hr.units (qv 13) (qv 14)))
   (ao (aZ Kj rfl (aI (au (DJ T) hr.mo rfl T.g_zL T.F_zL.kp T.B_zL (aa (cE yH 1 [] (cA vd) (aI (qv 3)) (fun _ _ _ _=>⟨(gN 0 A1),aL,(ar az bu rfl T.b_len Ku (aa (qv 0) ab))⟩)) ab))) (gN 15 bO.nd)
   (ae (sN 16 bO.nd aq)
    (ae (aZ Kj rfl (aR rfl T.b_range (aa (ar az bu rfl T.b_len Ku (aa (qv 3) ab)) ab)) (gN 17 bO.nd)
    (ao (sN 16 bO.nd (aY (qv 16) (iX (iX (qv 6) (qv 17)) (iX (qv 15) (qv 17)))))))
    (ae (aZ Kj rfl (aR rfl T.b_range (aa (iX (qv 0) aq) ab)) (gN 18 bO.nd)
    (ae (sN 19 bO.nd aq)
     (ae (aZ Kj rfl (aI (iX (iX (qv 12) (qv 18)) aq)) (gN 20 bO.nd)
     (ao (sN 19 bO.nd (bS (aY (qv 19) (iX (qv 2) (qv 20))) (iX (qv 14) (qv 20))))))
     (ae (aZ Kj rfl (aI (iX (iX (qv 12) (qv 18)) aq)) (gN 17 bO.nd)
     (ao (sN 19 bO.nd (bS (aY (qv 19) (ar az bu rfl T.b_len Ku (aa (iX (qv 3) (qv 17)) ab))) (iX (qv 15) (qv 17))))))
     (ao (sN 16 bO.nd (aY (qv 16) (iX (iX (iX (qv 8) (qv 18)) (qv 19)) (iX (qv 14) (qv 18))))))))))
    (ao (cu (bS (ir hr.units (qv 13) (qv 14) (fun _ _=>rfl )) (qv 16)) (il hr.units (qv 13) (qv 14)))))))))))
  (ao (ax (bM (aa (qv 13) (aa (qv 5) ab))))))))))))))
 obtain⟨u0,_,rfl,v0,_,rfl,rfl,h⟩:=h;obtain⟨c,tv,bv,a,b,d,rfl,rfl,h⟩:=h;obtain⟨ts,bs,ns,Hd,Tb,ys,zs,rfl,rfl,ha,hb,hd,py,pz,hs,hw,h⟩:=h;have c6:=hs.hc;have l6:=hs.l6;have ln:=hw.ln;have lh:=hw.lh;have lt:=hw.lt;have ly:=bH py;have lz:=bH pz;have sh:∀ws∈Hd,Shr ws:=fun ws hws=>(hw.h4 ws hws).1;left;right;right;refine⟨aw (by decide),fun p1 hp1=>?_⟩;have s1:=(Sub.refl H).put (o:=.lst []) hp1;have e1:put H p1 (.lst []) p1=some (.lst []):=af;generalize put H p1 (.lst [])=H1 at *;right;refine⟨_,s1 _ _ hb,?_⟩;refine a9 (fun i σ H2=>∃z7 us,σ=[some (.tup [.int c,.tup (ts.map prV),.tup (bs.map prV)]),some (.tup [.ref a,.ref b,.ref d]),some (.ref a),some (.ref b),some (.ref d),some (.int (hB (Hd.take i))),some (.ref p1),z7,none,none,none,none,none,none,none,none,none,none,none,none,none]/\U.Sub H H2/\H2 p1=some (.lst us)/\Paired (fx p1 H2) us (Hd.take i)) ?_ ?_ ⟨_,[],rfl,s1,e1,.nil⟩
 ·rintro σ H2 ⟨z7,us,rfl,s2,e2,pu⟩;refine⟨s2 _ _ hb,?_⟩;rw[ly,Ke]at pu ⊢;have pu:=bI (fun _ _ (q:fx p1 H2 _ _)=>(let ⟨r,e,_,q⟩:=q;⟨r,e,q⟩:cJ H2 _ _)) pu;subst hR;dsimp only;left;refine⟨aw (by decide),fun p2 hp2=>?_⟩;have s3:=s2.put (o:=.lst []) (s2.free hp2);have e3:=(ag (o:=.lst []) (aj e2 hp2)).trans e2;have f3:put H2 p2 (.lst []) p2=some (.lst []):=af;have sk3:=(Sub.refl H2).put (o:=.lst []) hp2;generalize put H2 p2 (.lst [])=H3 at *;right;refine⟨_,s3 _ _ hd,?_⟩;have k3:U.Sub H2 H3:=sk3;refine a9 (fun i σ H4=>∃z9 z10 z11 us2,σ=[some (.tup [.int c,.tup (ts.map prV),.tup (bs.map prV)]),some (.tup [.ref a,.ref b,.ref d]),some (.ref a),some (.ref b),some (.ref d),some (.int (LBn Hd Tb i)),some (.ref p1),z7,some (.ref p2),z9,z10,z11,none,none,none,none,none,none,none,none,none]/\U.Sub H2 H4/\H4 p2=some (.lst us2)/\Paired (qK p2 H4) us2 (Tb.take i)) ?_ ?_ ⟨_,_,_,[],by rw[mz],k3,f3,.nil⟩
  ·rintro σ H4 ⟨z9,z10,z11,us2,rfl,s4,e4,pv⟩;refine⟨(s2.trans s4) _ _ hd,?_⟩;rw[lz,Ke]at pv;rw[lz,lt];have pv:=bI (fun _ _ (q:qK p2 H4 _ _)=>(let ⟨r,zs,e,_,q,w⟩:=q;⟨r,zs,e,q,bI (fun _ _ (q:fx p2 H4 _ _)=>(let ⟨r,e,_,q⟩:=q;⟨r,e,q⟩:cJ H4 _ _)) w⟩:qG H4 _ _)) pv;have pu4:=cJ.up s4 pu;have e24:=s4 _ _ e2;have sH4:=s2.trans s4;subst hR;dsimp only;left;refine⟨⟨by omega,by omega⟩,fun p3 hp3=>?_⟩;refine cg (fun i σ H5=>∃z us3,σ=[z,some (.tup [.int c,.tup (ts.map prV),.tup (bs.map prV)])]/\U.Sub H4 H5/\H5 p3=some (.lst us3)/\us3.length=i/\HdE (fun x=>x=p3) ts bs H5 us3) ?_ ?_ ⟨_,[],rfl,(Sub.refl H4).put hp3,af,rfl,fun k z e=>by cases e⟩
   ·rintro i y' σ H5 R1 hy' ⟨z,us3,rfl,s5,e5,l3,hk3⟩ kk;refine⟨trivial,?_⟩;rw[c7]at hy';obtain⟨hi,rfl⟩:i<c.toNat/\y'=.int (i:Nat):=by
     obtain⟨q1,q2⟩:=JS.mp hy';rw[JN,Kh]at q1;rw[Li,List.getElem_range]at q2;exact⟨q1,q2.symm⟩
    ac_rfl;refine⟨ts,bs,rfl,rfl,⟨by omega,by omega⟩,l6,fun p q hq hp npq=>?_⟩;have n1:p≠p3:=(aj e5 hp).symm;have n2:q≠p3:=(aj e5 hq).symm;have up:∀x u,H5 x=some u->put (put H5 q (.lst ((bpl bs ((i:Nat):Int)).map fun k=>PV.int (k:Nat)))) p (.lst ((cF ts ((i:Nat):Int)).map PV.int)) x=some u:=fun x u e=>(ag (aj e hp)).trans ((ag (aj e hq)).trans e);have ep:put (put H5 q (.lst ((bpl bs ((i:Nat):Int)).map fun k=>PV.int (k:Nat)))) p (.lst ((cF ts ((i:Nat):Int)).map PV.int)) p=some (.lst ((cF ts ((i:Nat):Int)).map PV.int)):=af;have eq:put (put H5 q (.lst ((bpl bs ((i:Nat):Int)).map fun k=>PV.int (k:Nat)))) p (.lst ((cF ts ((i:Nat):Int)).map PV.int)) q=some (.lst ((bpl bs ((i:Nat):Int)).map fun k=>PV.int (k:Nat))):=(ag (Ne.symm npq)).trans af;generalize put (put H5 q (.lst ((bpl bs ((i:Nat):Int)).map fun k=>PV.int (k:Nat)))) p (.lst ((cF ts ((i:Nat):Int)).map PV.int))=H6 at *;have s56:U.Sub H5 H6:=up;refine⟨us3,up _ _ e5,aO (by omega),kk _ _ ⟨_,us3++[.tup [.ref p,.ref q]],rfl,(s5.trans s56).put hp3,af,by rw[J2,l3];rfl,fun k z e=>?_⟩⟩;rcases eA e with e |⟨rfl,rfl⟩
    ·obtain⟨p',q',e1,m1,m2,q1,q2⟩:=hk3 k z e;exact⟨p',q',e1,m1,m2,(ag m1).trans (up _ _ q1),(ag m2).trans (up _ _ q2)⟩
    ·refine⟨p,q,rfl,n1,n2,?_,?_⟩
     ·rw[l3];exact(ag n1).trans ep
     ·rw[l3];exact(ag n2).trans eq
   ·rintro σ H5 ⟨z,us3,rfl,s5,e5,l3,hk3⟩;refine⟨trivial,?_⟩;rw[c7,JN,Kh]at l3;have sH5:=sH4.trans s5;have pu5:=cJ.up s5 pu4;have pv5:=qG.up s5 pv;have e25:=s5 _ _ e24;have e45:=s5 _ _ e4;have hk5:HdE (fun _=>False) ts bs H5 us3:=hk3.up fun a u _ e=>⟨id,e⟩;subst hR
    try dsimp only
    left;intro d0 hd0;have s6:=(Sub.refl H5).put (o:=.dI P w [] 0) hd0;have nd:∀x u,H5 x=some u->x≠d0:=fun x u e=>aj e hd0;have ed:put H5 d0 (.dI P w [] 0) d0=some (.dI P w [] 0):=af;change R _ _ (put H5 d0 (.dI P w [] 0));generalize put H5 d0 (.dI P w [] 0)=H6 at *;have m1:∀n∈aN Hd,1≤n/\n≤4:=fun n hn=>by
     obtain⟨ws,hws,rfl⟩:=JU.mp hn;have:=hw.h4 ws hws;omega
    have n1:∀n∈ns,1≤n/\n≤4:=fun n hn=>by have:=hw.n4 n hn;omega
    have pa:=aP fun n hn=>(n1 n hn).1;have pb:=aP fun n hn=>(m1 n hn).1;have pm:prod (aN Hd)≤300:=by
     have c:=bK (a:=prod (aN Hd)) (b:=prod ns) (by omega) pa;rw[KP]at c;exact KQ c hw.most
    have pn:prod ns≤300:=KQ (bK (by omega) pb) hw.most;have wl:=nh n1 pn ns.length;rw[Ke]at wl;have el:(cH ns Hd Tb ts bs).length=(wys ns).length:=by unfold cH;rw[JN]
    right;refine⟨ns,s6 _ _ (sH5 _ _ ha),by omega,n1,pn,fun p5 H7 s7 hp5 e7=>⟨_,e7,?_⟩⟩;have n5d:p5≠d0:=(aj ed hp5).symm;refine a9 (fun j σ H8=>∃z14 z15 z16 z17 z18 z19 z20 ep,σ=[some (.tup [.int c,.tup (ts.map prV),.tup (bs.map prV)]),some (.tup [.ref a,.ref b,.ref d]),some (.ref a),some (.ref b),some (.ref d),some (.int (LBn Hd Tb ns.length)),some (.ref p1),z7,some (.ref p2),z9,z10,z11,some (.ref p3),some (.ref d0),z14,z15,z16,z17,z18,z19,z20]/\(∀x u,x≠d0->H7 x=some u->H8 x=some u)/\H8 d0=some (.dI P w ((cH ns Hd Tb ts bs).take j) ep)) ?_ ?_ ⟨_,_,_,_,_,_,_,0,rfl,fun _ _ _ e=>e,s7 _ _ ed⟩
    ·rintro σ H8 ⟨z14,z15,z16,z17,z18,z19,z20,ep,rfl,k8,e8⟩;refine⟨k8 _ _ n5d e7,?_⟩;rw[JN,← el,Ke]at e8;subst hR;ac_rfl;exact⟨aw (by decide),H8,Sub.refl _,h d0 H8 ep (fun x u e=>k8 x u (nd x u (sH5 _ _ e)) (s7 _ _ (s6 _ _ (sH5 _ _ e)))) (sH5.free hd0) e8⟩
    ·rintro D j y' σ H8 hy' ⟨z14,z15,z16,z17,z18,z19,z20,ep,rfl,k8,e8⟩ kk;refine⟨k8 _ _ n5d e7,?_⟩;rw[JV]at hy';cases hg:(wys ns)[j]? with
     | none=>rw[hg]at hy';cases hy'
     | some v =>
      rw[hg]at hy';cases hy';have hv:=JX hg;have hj:=(JS.mp hg).1;have nk:=v9 (gi (ns:=ns) (Hd:=Hd) (Tb:=Tb) (ts:=ts) (bs:=bs)) hg;have ev:tI v=.tup (v.map PV.int):=rfl
      try simp only[KG]
      simp only[bZ,KL,KH];rw[ev];refine ak fun R2 hR2=>?_;ac_rfl;refine⟨v,_,ep,rfl,e8,by rw[Kl];omega,fun ep1=>?_⟩;rw[vB nk];have k9:∀x u,x≠d0->H7 x=some u->put H8 d0 (.dI P w ((cH ns Hd Tb ts bs).take j++[(v,.int 0)]) ep1) x=some u:=fun x u n e=>(ag n).trans (k8 x u n e);have e9:put H8 d0 (.dI P w ((cH ns Hd Tb ts bs).take j++[(v,.int 0)]) ep1) d0=some (.dI P w ((cH ns Hd Tb ts bs).take j++[(v,.int 0)]) ep1):=af;change R2 _ _ (put H8 d0 (.dI P w ((cH ns Hd Tb ts bs).take j++[(v,.int 0)]) ep1));generalize put H8 d0 (.dI P w ((cH ns Hd Tb ts bs).take j++[(v,.int 0)]) ep1)=H9 at *;subst hR2;ac_rfl;have up9:∀x u,H5 x=some u->H9 x=some u:=fun x u e=>k9 x u (nd x u e) (s7 _ _ (s6 _ _ e));have hb9:=up9 _ _ (sH5 _ _ hb);refine⟨_,hb9,fun p6 hp6=>?_⟩;refine cg (fun i σ H10=>∃z,σ=[z]/\H10=put H9 p6 (.lst (((aN Hd).take i).map PV.int))) ?_ ?_ ⟨_,rfl,rfl⟩
      ·rintro i y2 σ H10 R1 hy2 ⟨z,rfl,rfl⟩ kk3;refine⟨(ag (aj hb9 hp6)).trans hb9,?_⟩;have hi:=(JS.mp hy2).1;have tr:=cK py hi (by omega);rw[(JS.mp hy2).2]at tr;have hg2:Hd[i]?=some (Hd[i]'(by omega)):=JO (by omega);generalize Hd[i]'(by omega)=ws at *;obtain⟨r,rfl,er⟩:=tr;have er9:=up9 _ _ (sH5 _ _ er);have ei:(aN Hd).take (i+1)=(aN Hd).take i++[(ws.length:Int)]:=by
        unfold aN;rw[Kr,JV,hg2];rfl
       ac_rfl;have ll0:(aN Hd).length=Hd.length:=by unfold aN;rw[JN]
       have lt0:(((aN Hd).take i).map PV.int).length≤1000:=by rw[JN,Kl];omega
       refine⟨_,(ag (aj er9 hp6)).trans er9,aO lt0,kk3 _ _ ⟨_,rfl,?_⟩⟩;rw[aE,ei,J9,JN];rfl
      ·rintro σ H10 ⟨z,rfl,rfl⟩;refine⟨(ag (aj hb9 hp6)).trans hb9,?_⟩;have ell:ys.length=(aN Hd).length:=by unfold aN;rw[JN];exact ly
       rw[ell,Ke];have s10:=(Sub.refl H9).put (o:=.lst ((aN Hd).map PV.int)) hp6;have e10:put H9 p6 (.lst ((aN Hd).map PV.int)) p6=some (.lst ((aN Hd).map PV.int)):=af;generalize put H9 p6 (.lst ((aN Hd).map PV.int))=H10 at *
       try ac_rfl
       refine⟨aN Hd,e10,by unfold aN;rw[JN];omega,m1,pm,fun p7 H11 s11 hp7 e11=>⟨_,e11,?_⟩⟩;have n7d:p7≠d0:=(aj (s10 _ _ e9) hp7).symm;have up11:∀x u,H5 x=some u->H11 x=some u:=fun x u e=>s11 _ _ (s10 _ _ (up9 x u e));refine a9 (fun i σ H12=>∃z15 z16 z17 z18 z19 z20 ep,σ=[some (.tup [.int c,.tup (ts.map prV),.tup (bs.map prV)]),some (.tup [.ref a,.ref b,.ref d]),some (.ref a),some (.ref b),some (.ref d),some (.int (LBn Hd Tb ns.length)),some (.ref p1),z7,some (.ref p2),z9,z10,z11,some (.ref p3),some (.ref d0),some (.tup (v.map PV.int)),z15,z16,z17,z18,z19,z20]/\(∀x u,x≠d0->H11 x=some u->H12 x=some u)/\H12 d0=some (.dI P w ((cH ns Hd Tb ts bs).take j++[(v,.int (((wys (aN Hd)).take i).map fun u=>lwt v u ns Hd Tb ts bs ns.length).sum)]) ep)) ?_ ?_ ⟨_,_,_,_,_,_,ep1,rfl,fun _ _ _ e=>e,s11 _ _ (s10 _ _ e9)⟩
       ·rintro σ H12 ⟨z15',z16',z17',z18',z19',z20',ep2,rfl,k12,e12⟩;refine⟨k12 _ _ n7d e11,?_⟩;rw[JN,Ke]at e12;have es:(cH ns Hd Tb ts bs).take (j+1)=(cH ns Hd Tb ts bs).take j++[(v,PV.int (num v ns Hd Tb ts bs))]:=by
         rw[Kr];unfold cH;rw[JV,hg];rfl
        exact kk _ _ ⟨_,_,_,_,_,_,_,ep2,rfl,fun x u n e=>k12 x u n (s11 _ _ (s10 _ _ (k9 x u n e))),by rw[es];exact e12⟩
       ·rintro D2 i y2 σ H12 hy2 ⟨z15',z16',z17',z18',z19',z20',ep2,rfl,k12,e12⟩ kk2;refine⟨k12 _ _ n7d e11,?_⟩;rw[JV]at hy2;cases hgu:(wys (aN Hd))[i]? with
        | none=>rw[hgu]at hy2;cases hy2
        | some u =>
         rw[hgu]at hy2;cases hy2;have hu:=JX hgu;have lu:=(cm hu).1;have ll:(aN Hd).length=Hd.length:=by unfold aN;rw[JN]
         have up12:∀x u,H5 x=some u->H12 x=some u:=fun x u e=>k12 x u (nd x u e) (up11 x u e);have s512:U.Sub H5 H12:=up12;have pu12:=cJ.up s512 pu5;have pv12:=qG.up s512 pv5;have hk12:HdE (fun _=>False) ts bs H12 us3:=hk5.up fun a u _ e=>⟨id,up12 _ _ e⟩;have e212:=up12 _ _ e25;have e412:=up12 _ _ e45;have e512:=up12 _ _ e5;have hb12:=up12 _ _ (sH5 _ _ hb);have ha12:=up12 _ _ (sH5 _ _ ha);have eu:tI u=.tup (u.map PV.int):=rfl
         try simp only[KG]
         simp only[bZ,KL,KH];rw[eu];refine ak fun R3 hR3=>?_;ac_rfl;subst hR3;refine ak fun R3 hR3=>?_;ac_rfl;refine⟨_,hb12,⟨by omega,by omega⟩,?_⟩;rw[ly,Kk];refine dw (fun k σ H13=>∃z17,σ=[some (.tup [.int c,.tup (ts.map prV),.tup (bs.map prV)]),some (.tup [.ref a,.ref b,.ref d]),some (.ref a),some (.ref b),some (.ref d),some (.int (LBn Hd Tb ns.length)),some (.ref p1),z7,some (.ref p2),z9,z10,z11,some (.ref p3),some (.ref d0),some (.tup (v.map PV.int)),some (.tup (u.map PV.int)),some (.int (part Hd u k)),z17,z18',z19',z20']/\H13=H12) ?_ ?_ ⟨_,rfl,rfl⟩
         ·rintro σ H13 ⟨z17,rfl,rfl⟩;refine⟨trivial,?_⟩;subst hR3
          try dsimp only
          refine ak fun R3 hR3=>?_;ac_rfl;refine⟨⟨by omega,by omega⟩,?_⟩;refine dw (fun n σ H14=>∃z17 z18 z19 z20,σ=[some (.tup [.int c,.tup (ts.map prV),.tup (bs.map prV)]),some (.tup [.ref a,.ref b,.ref d]),some (.ref a),some (.ref b),some (.ref d),some (.int (LBn Hd Tb ns.length)),some (.ref p1),z7,some (.ref p2),z9,z10,z11,some (.ref p3),some (.ref d0),some (.tup (v.map PV.int)),some (.tup (u.map PV.int)),some (.int (lwt v u ns Hd Tb ts bs n)),z17,z18,z19,z20]/\H14=H13) ?_ ?_ ⟨_,_,_,_,by rw[vS],rfl⟩
          ·rintro σ H14 ⟨z17,z18,z19,z20,rfl,rfl⟩;refine⟨trivial,?_⟩;have ecn:c.toNat=ns.length:=by omega
           rw[ecn];subst hR3;ac_rfl;refine⟨v,_,ep2,_,rfl,e12,v8 nk,?_⟩
           try ac_rfl
           refine⟨v,_,ep2,rfl,e12,by rw[J2,Kl,LD];omega,fun ep3=>kk2 _ _ ⟨_,_,_,_,_,_,ep3,rfl,fun x u n e=>(ag n).trans (k12 x u n e),?_⟩⟩;rw[af,rM nk,kI hgu,J9,List.sum_append];show _=some (PO.dI P w ((cH ns Hd Tb ts bs).take j++[(v,PV.int ((((wys (aN Hd)).take i).map fun u=>lwt v u ns Hd Tb ts bs ns.length).sum+(lwt v u ns Hd Tb ts bs ns.length+0)))]) ep3);rw[Int.add_zero];rfl
          ·rintro D3 n σ H14 hn' ⟨z17,z18,z19,z20,rfl,rfl⟩ kk3;refine⟨trivial,?_⟩;have hn:0≤((n:Nat):Int)/\((n:Nat):Int)<c:=⟨by omega,by omega⟩;obtain⟨z3,a3,hz3⟩:∃z,atI us3 (n:Nat)=some z/\us3[n]?=some z:=⟨us3[n]'(by omega),cY (by omega),JO (by omega)⟩;obtain⟨hp,hq,rfl,_,_,ehp,ehq⟩:=hk12 n z3 hz3;rw[Int.zero_add];simp only[bZ,KL,KH];refine ak fun R4 hR4=>?_;ac_rfl;subst hR4;refine ak fun R4 hR4=>?_;ac_rfl;refine⟨_,e512,?_⟩;rw[a3]
           try ac_rfl
           have py14:=cJ.up (sH5.trans s512) py;have lv:=(cm hv).1;have ess:=Bv (ns:=ns) (v:=v) hs hn.2;have lsp:(sps v ns ts ((n:Nat):Int)).length=(cF ts ((n:Nat):Int)).length:=by rw[ess,JN]
           have lpr:(prs u Hd bs ((n:Nat):Int)).length=(bpl bs ((n:Nat):Int)).length:=by unfold prs;rw[JN]
           have sm:=Al hs hw hn hv hu;have fitP:∀k,Fit (plc ((sps v ns ts ((n:Nat):Int)++prs u Hd bs ((n:Nat):Int)).take k)):=fun k=>DB (sm k).1 (sm k).2;refine⟨_,ehp,?_⟩;refine a9 (fun m σ H15=>∃z20,σ=[some (.tup [.int c,.tup (ts.map prV),.tup (bs.map prV)]),some (.tup [.ref a,.ref b,.ref d]),some (.ref a),some (.ref b),some (.ref d),some (.int (LBn Hd Tb ns.length)),some (.ref p1),z7,some (.ref p2),z9,z10,z11,some (.ref p3),some (.ref d0),some (.tup (v.map PV.int)),some (.tup (u.map PV.int)),some (.int (lwt v u ns Hd Tb ts bs n)),z17,some (.int (n:Nat)),some (.int (plc ((sps v ns ts ((n:Nat):Int)++prs u Hd bs ((n:Nat):Int)).take m))),z20]/\H15=H14) ?_ ?_ ⟨_,rfl,rfl⟩
           ·rintro σ H15 ⟨z20',rfl,rfl⟩;refine⟨ehp,?_⟩;rw[JN,← lsp];subst hR4
            try dsimp only
            refine ak fun R4 hR4=>?_;ac_rfl;refine⟨_,e512,?_⟩;rw[a3]
            try ac_rfl
            refine⟨_,ehq,?_⟩;refine a9 (fun m σ H16=>∃z17,σ=[some (.tup [.int c,.tup (ts.map prV),.tup (bs.map prV)]),some (.tup [.ref a,.ref b,.ref d]),some (.ref a),some (.ref b),some (.ref d),some (.int (LBn Hd Tb ns.length)),some (.ref p1),z7,some (.ref p2),z9,z10,z11,some (.ref p3),some (.ref d0),some (.tup (v.map PV.int)),some (.tup (u.map PV.int)),some (.int (lwt v u ns Hd Tb ts bs n)),z17,some (.int (n:Nat)),some (.int (plc ((sps v ns ts ((n:Nat):Int)++prs u Hd bs ((n:Nat):Int)).take ((sps v ns ts ((n:Nat):Int)).length+m)))),z20']/\H16=H15) ?_ ?_ ⟨_,rfl,rfl⟩
            ·rintro σ H16 ⟨z17',rfl,rfl⟩;refine⟨ehq,?_⟩;rw[JN,← lpr,← J2,Ke];have ai:=Gq hs hw hn hv hu;have eat:plc (sps v ns ts ((n:Nat):Int)++prs u Hd bs ((n:Nat):Int))=atN v u ns Hd ts bs (n:Int):=rfl;rw[eat];have vk:=kY hw hn hv;obtain⟨en0,en1⟩:=vT hs hw hn hv hu;obtain⟨byp,byl⟩:=qk hw hn;obtain⟨pk1,pk2,pk3,pk4,pk5⟩:=fP hs hw hn hv hu;have tsh:=(cP (v:=v) hw hn).2.2.2 _ pk3;obtain⟨⟨lw0,lw1⟩,_⟩:=sI hs hw hv hu (i:=n) (by omega);have lb:=ox hs hw (i:=n) (by omega);rw[Kk]at vk en0 en1 byp byl ai pk2 tsh;obtain⟨y5,a5,r5,zs5,rfl,e5',pz5⟩:=AY pv12 (k:=n) (by omega);have lev:(evR (Tb.getD n [])).length=(Tb.getD n []).length:=by unfold evR;rw[JN]
             obtain⟨y6,a6,r6,rfl,e6⟩:=vM pz5 (k:=(atN v u ns Hd ts bs (n:Int)).toNat) (by omega);rw[Int.toNat_of_nonneg ai.1]at a6;have kl:v.getD n 0<(((Tb.getD n []).getD (atN v u ns Hd ts bs (n:Int)).toNat []).length:Int):=by rw[pk2];omega
             obtain⟨g1,g2⟩:=Bh ai.1 ai.2 vk.1 kl;have evn:atI (v.map PV.int) (n:Nat)=some (.int (v.getD n 0)):=by
              have:=bw (m:=v) (z:=((n:Nat):Int)) (by omega) (by omega)
              rwa [Kk]at this
             have e8':atI (((evR (Tb.getD n [])).getD (atN v u ns Hd ts bs (n:Int)).toNat []).map PV.int) (v.getD n 0)=some (.int (ent (Tb.getD n []) (atN v u ns Hd ts bs (n:Int)) (v.getD n 0))):=by
              rw[←g2];exact bw vk.1 (by rw[g1,JN];exact kl)
             subst hR4;ac_rfl;refine⟨us2,e412,?_⟩;rw[a5]
             try ac_rfl
             refine⟨_,e5',?_⟩;rw[a6]
             try ac_rfl
             rw[evn]
             try ac_rfl
             refine⟨_,e6,?_⟩;rw[e8']
             try ac_rfl
             exact⟨.inr ⟨dj (j4 lw0 lw1 (lb.2.mono (by decide))),dj (eU en0 (by omega))⟩,kk3 _ _ ⟨_,_,_,_,by rw[jm],rfl⟩⟩
            ·rintro D4 m y4 σ H16 hy4 ⟨z17',rfl,rfl⟩ kk4;refine⟨ehq,?_⟩;rw[JV]at hy4;cases hgb:(bpl bs ((n:Nat):Int))[m]? with
             | none=>rw[hgb]at hy4;cases hy4
             | some k =>
              rw[hgb]at hy4;cases hy4;have kl:=eG (JX hgb);have kh:k<Hd.length:=by omega
              have ua:=CP hu kh;have eL:(sps v ns ts ((n:Nat):Int)++prs u Hd bs ((n:Nat):Int))[(sps v ns ts ((n:Nat):Int)).length+m]?=some (u.getD k 0,((Hd.getD k []).length:Int)):=by
               rw[Kv (by omega),show(sps v ns ts ((n:Nat):Int)).length+m - (sps v ns ts ((n:Nat):Int)).length=m by omega];unfold prs;rw[JV,hgb];rfl
              obtain⟨y7,a7,r7,rfl,e7'⟩:=vM py14 kh;have euk:atI (u.map PV.int) (k:Nat)=some (.int (u.getD k 0)):=by
               have:=bw (m:=u) (z:=((k:Nat):Int)) (by omega) (by omega)
               rwa [Kk]at this
              have h4k:=(m1 _ (JX (eB kh)))
              try simp only[KG]
              ac_rfl;refine⟨_,hb12,?_⟩;rw[a7]
              try ac_rfl
              refine⟨_,e7',?_⟩;rw[JN,euk]
              try ac_rfl
              exact⟨.inr ⟨fitP _,cX (by omega) (by omega)⟩,kk4 _ _ ⟨_,by rw[←Nat.add_assoc,kI eL,dn],rfl⟩⟩
           ·rintro D4 m y4 σ H15 hy4 ⟨z20',rfl,rfl⟩ kk4;refine⟨ehp,?_⟩;rw[JV]at hy4;cases hgs:(cF ts ((n:Nat):Int))[m]? with
            | none=>rw[hgs]at hy4;cases hy4
            | some o =>
             rw[hgs]at hy4;cases hy4;have ob:=iw (JX hgs);have hm:=(JS.mp hgs).1;have eL:(sps v ns ts ((n:Nat):Int)++prs u Hd bs ((n:Nat):Int))[m]?=some (v.getD o.toNat 0,ns.getD o.toNat 0):=by
              rw[Kz (by omega),ess,JV,hgs];rfl
             have e1:atI (ns.map PV.int) o=some (.int (ns.getD o.toNat 0)):=bw ob.1 (by omega);have e2:atI (v.map PV.int) o=some (.int (v.getD o.toNat 0)):=bw ob.1 (by omega);have nb:=n1 (ns.getD o.toNat 0) (getD_in ob.1 (by omega))
             try simp only[KG]
             ac_rfl;refine⟨_,ha12,?_⟩;rw[e1]
             try ac_rfl
             rw[e2]
             try ac_rfl
             exact⟨.inr ⟨fitP m,cX (by omega) (by omega)⟩,kk4 _ _ ⟨_,by rw[kI eL,dn],rfl⟩⟩
         ·rintro D3 k σ H13 hk ⟨z17,rfl,rfl⟩ kk3;refine⟨trivial,?_⟩;obtain⟨y3,a3,r3,rfl,e3⟩:=vM pu12 hk;have ua:=CP hu hk;have pk:=wU hw.h4 hu (k:=k) (by omega) (by omega);have hm:Hd.getD k []∈Hd:=by
           rw[JQ,JO hk];exact KC _
          have gm:=getD_in (ws:=Hd.getD k []) ua.1 ua.2;have w0:=(sh _ hm).2.2.1 _ gm;have w1:=eV (sh _ hm).2.2.1 gm;have w28:=(sh _ hm).2.2.2.1;have euk:atI (u.map PV.int) (k:Nat)=some (.int (u.getD ((k:Nat):Int).toNat 0)):=bw (by omega) (by omega);rw[Kk]at euk;have ewk:atI ((Hd.getD k []).map PV.int) (u.getD k 0)=some (.int ((Hd.getD k []).getD (u.getD k 0).toNat 0)):=bw ua.1 ua.2;ac_rfl;refine⟨_,e212,?_⟩;rw[a3]
          try ac_rfl
          rw[euk]
          try ac_rfl
          refine⟨_,e3,?_⟩;rw[ewk]
          try ac_rfl
          exact⟨.inr ⟨dj ((gu pk.1 pk.2).mono (by decide)),cX w0 (by omega)⟩,kk3 _ _ ⟨_,by rw[qE],rfl⟩⟩
  ·rintro D i y σ H4 hy ⟨z9,z10,z11,us2,rfl,s4,e4,pv⟩ kk;refine⟨(s2.trans s4) _ _ hd,?_⟩;have hi:=(JS.mp hy).1;have tr:=cK pz hi (by omega);rw[(JS.mp hy).2]at tr;have hg:Tb[i]?=some (Tb[i]'(by omega)):=JO (by omega);have egd:Tb.getD i []=Tb[i]'(by omega):=by rw[JQ,hg];rfl
   generalize Tb[i]'(by omega)=Rw at *;obtain⟨r,tys,rfl,er,ptr⟩:=tr;obtain⟨ta,tb4,tsh⟩:=hw.tb i Rw hg;have sH4:=s2.trans s4;have lv:=bH pv;rw[Kl]at lv;have lb:=ox hs hw (i:=i) (by omega);have byk:=qk hw (n:=(i:Int)) ⟨by omega,by omega⟩;rw[Kk,egd]at byk;have et:Tb.take (i+1)=Tb.take i++[Rw]:=by rw[Kr,hg];rfl
   simp only[bZ,KL,KH];refine ak fun R2 hR2=>?_;ac_rfl;refine⟨tys,Rw,sH4 _ _ er,cJ.up sH4 ptr,fun ws hws=>(tsh ws hws).1,tb4,fun p5 H5 zs5 s5 hp5 e5 pz5=>?_⟩;have n5:p5≠p2:=(aj e4 hp5).symm
   try ac_rfl
   subst hR2;refine ak fun R2 hR2=>?_;ac_rfl;refine⟨⟨_,s5 _ _ e4⟩,us2,s5 _ _ e4,aO (by omega),?_⟩;subst hR2;ac_rfl;refine⟨.inr ⟨dj (lb.2.mono (by decide)),dj (eU (by omega) byk.2)⟩,kk _ _ ⟨_,_,_,us2++[.ref p5],by rw[d6,egd],(s4.trans s5).put hp2,af,?_⟩⟩;rw[et];refine dF ⟨p5,zs5,rfl,n5,(ag n5).trans e5,bI (fun _ _ ⟨r',e,f,q⟩=>?_) pz5⟩ (qK.up (fun a u n e=>(ag n).trans (s5 _ _ e)) pv);have n':r'≠p2:=(aj e4 f).symm;exact⟨r',e,n',(ag n').trans q⟩
 ·rintro D i y σ H2 hy ⟨z7,us,rfl,s2,e2,pu⟩ kk;refine⟨s2 _ _ hb,?_⟩;have hi:=(JS.mp hy).1;have tr:=cK py hi (by omega);rw[(JS.mp hy).2]at tr;have hg:Hd[i]?=some (Hd[i]'(by omega)):=JO (by omega);have hm:=KC (show i<Hd.length by omega);generalize Hd[i]'(by omega)=ws at *;obtain⟨r,rfl,er⟩:=tr;have shw:=sh ws hm;have s0:=shw.2.1;have s28:=shw.2.2.2.1;have hbk:=j6 hw.h4 (by omega) i;have lu:=bH pu;rw[Kl]at lu;have et:Hd.take (i+1)=Hd.take i++[ws]:=by rw[Kr,hg];rfl
  simp only[bZ,KL,KH];refine ak fun R2 hR2=>?_;ac_rfl;refine⟨⟨_,e2⟩,aw (by decide),fun q hq=>⟨_,[ws],rfl,.cons ⟨r,rfl,(ag (aj (s2 _ _ er) hq)).trans (s2 _ _ er)⟩ .nil,fun ws' h'=>by rw[Ka.mp h'];exact shw,by show 1≤400;decide,fun p3 H3 zs3 s3 hp3 e3 pz3=>?_⟩⟩;rw[Kc,Lc,CC shw]at pz3;cases pz3 with
  | cons r3 rr3 =>
   cases rr3;obtain⟨r3,rfl,fr,er3⟩:=r3;have s23:=((Sub.refl H2).put (o:=.lst [.ref r]) hq).trans s3;have n3:r3≠p1:=fun e=>by rw[e,(ag (aj e2 hq)).trans e2]at fr;cases fr
   refine⟨_,e3,?_⟩;show gj (some (PV.ref r3)) _
   try ac_rfl
   refine⟨us,s23 _ _ e2,aO (by omega),?_⟩;subst hR2;ac_rfl;refine⟨ws,(ag (aj er hp1)).trans ((s2.trans s23) _ _ er),.inr ⟨dj ((gu (by omega) hbk.2).mono (by decide)),cX (by omega) (by omega)⟩,kk _ _ ⟨_,us++[.ref r3],by rw[et,iz],(s2.trans s23).put hp1,af,?_⟩⟩;rw[et];exact dF ⟨r3,rfl,n3,(ag n3).trans er3⟩ (fx.up (fun a u n e=>(ag n).trans (s23 _ _ e)) pu)
theorem GB(T:Tx K mg t):aM P w K mg base CX0 1 t.a_zK t.d_zK ["_law_found","_law_due"] mU:=by
 exists 0,T.F_zK,oM,(ae (aS (dh (iW (bA (ar (aG .tuple) (aW .tuple) rfl T.b_isinstance Km (aa (qv 1) (aa (aV rfl T.b_tuple K5) ab)))) (fc (bA (ar (aG .list) (aW .list) rfl T.b_isinstance Km (aa (qv 1) (aa (aV rfl T.b_list LZ) ab)))))))
  bC
  aF)
  (ae (aS (bA (ar (aG .bool) (aW .bool) rfl T.b_isinstance Km (aa (qv 1) (aa (aV rfl T.b_bool boot_bool) ab))))
  (ao (ax (bz (ar (aG .bool) (aW .bool) rfl T.b_isinstance Km (aa (qv 0) (aa (aV rfl T.b_bool boot_bool) ab))) (bP (bc (bG hr.units) bF (qv 0) (qv 1) (ba _))))))
  aF)
  (ae (aS (bA (ar (aG .int) (aW .int) rfl T.b_isinstance Km (aa (qv 1) (aa (aV rfl T.b_int boot_int) ab))))
  (ao (ax (bz (ar (aG .int) (aW .int) rfl T.b_isinstance Km (aa (qv 0) (aa (aV rfl T.b_int boot_int) ab))) (bz (nG (ar (aG .bool) (aW .bool) rfl T.b_isinstance Km (aa (qv 0) (aa (aV rfl T.b_bool boot_bool) ab)))) (bP (bc (bG hr.units) bF (qv 0) (qv 1) (ba _)))))))
  aF)
  (ae (aS (bA (ar (aG .str) (aW .str) rfl T.b_isinstance Km (aa (qv 1) (aa (aV rfl T.b_str boot_str) ab))))
  (ao (ax (bz (ar (aG .str) (aW .str) rfl T.b_isinstance Km (aa (qv 0) (aa (aV rfl T.b_str boot_str) ab))) (bP (bc (bG hr.units) bF (qv 0) (qv 1) (ba _))))))
  aF)
  (ao (ax (bz (bc gG gy (qv 1) gD (ba _)) (bP (bc gG gy (qv 0) gD (ba _))))))))))
 obtain⟨a,_,rfl,b,_,rfl,rfl,h⟩:=h
 try dsimp only at h
 obtain⟨rfl,h⟩:=h;ac_rfl;exact⟨H,Sub.refl _,by rw[LH];exact h⟩
theorem EH(T:Tx K mg t):aM P w K mg base CX0 2 t.a_zK t.d_zK ["_law_found","_law_due"] jn:=Gr (E3 T 1) ((GB T).mono (by decide))
theorem E6(T:Tx K mg t):aM P w K mg base CX0 8 t.a_zC t.d_zC ["_law_made_here","_law_entries_here","_law_bottom"] (kZ t P w):=by
 exists 7,T.F_zC,tE,(ae (sN 3 tE.nd (iI (qv 0) T.cl_B T.m_zo (Ef T) hr.mo T.B_zo))
  (ae (aS (dh (iW (dJ (bA (ar vc C2 rfl T.b_isinstance Km (aa (qv 3) (aa (aV rfl T.b_dict boot_dict) ab))))) (fc (cN (dZ hr.units) bF (aK (iP rfl) lP rfl T.b_list LZ (aa (qv 3) ab)) (aK (iP rfl) lP rfl T.b_list LZ (aa (qv 1) ab))))))
  (ao (ax eS))
  aF)
  (ae (fZ Kj rfl (E4 (qv 1)) (gN 4 tE.nd)
  (ao (aS (dJ (bA (au (EH T) hr.mo rfl T.g_zK T.F_zK.kp T.B_zK (aa (ir hr.units (qv 3) (qv 4) (fun _ _=>rfl )) (aa (au (DI T) hr.mo rfl T.g_zs T.F_zs.kp T.B_zs (aa (ir hr.units (qv 1) (qv 4) (fun _ _=>rfl )) (aa (qv 2) ab))) ab)))))
   (ao (ax eS))
   aF)))
  (ae (bT (pT (qv 3)))
  (ao (ax (au (EH T) hr.mo rfl T.g_zK T.F_zK.kp T.B_zK (aa (iI (qv 0) T.cl_B T.m_zv (GI T) hr.mo T.B_zv) (aa (bc jf iM (ar (rF rfl) xX rfl T.b_min boot_min (aa (aK (n8 rfl) uk rfl T.b_list LZ (aa (lC (qv 1)) ab)) ab)) aq (ba _)) ab)))))))))
 obtain⟨x,_,rfl,e,_,rfl,B,_,rfl,rfl,h⟩:=h;obtain⟨wd,c,ts,bs,ns,Hd,Tb,ep,wc,hs,hw,he,ne,rfl,h⟩:=h;have c6:=hs.hc;have ln:=hw.ln;have n1:∀n∈ns,1≤n/\n≤4:=fun n hn=>by have:=hw.n4 n hn;omega
 obtain⟨dx,y,dy,hx,hy,cs⟩:=id wc;left;refine⟨⟨dx,_,hx,rfl⟩,wd,c,ts,bs,ns,Hd,Tb,wc,hs,hw,fun f H1 ep1 k1 w1 hf nf ef=>?_⟩;have he1:=k1 _ _ ne he;have nfe:f≠e:=fun z=>by rw[z,he]at hf;cases hf
 have m1:∀n∈aN Hd,1≤n/\n≤4:=fun n hn=>by
  obtain⟨ws,hws,rfl⟩:=JU.mp hn;have:=hw.h4 ws hws;omega
 have pa:=aP fun n hn=>(n1 n hn).1;have pb:=aP fun n hn=>(m1 n hn).1;have pn:prod ns≤300:=KQ (bK (by omega) pb) hw.most;have wl:=fv n1;have sl:(bx ns Hd Tb ts bs).length=(wys ns).length:=by unfold bx;rw[JN]
 have el:(cH ns Hd Tb ts bs).length=(wys ns).length:=by unfold cH;rw[JN]
 have lb:=ox hs hw (JW ns.length);right;refine⟨⟨_,ep1,ef⟩,_,ep1,ef,by omega,fun r1 hr1=>?_⟩;have u1:=(Sub.refl H1).put (o:=.lst (((bx ns Hd Tb ts bs).map (·.1)).map tI)) hr1;have er1:put H1 r1 (.lst (((bx ns Hd Tb ts bs).map (·.1)).map tI)) r1=some (.lst (((bx ns Hd Tb ts bs).map (·.1)).map tI)):=af;generalize put H1 r1 (.lst (((bx ns Hd Tb ts bs).map (·.1)).map tI))=J1 at *;refine⟨_,ep,u1 _ _ he1,by omega,fun r2 hr2=>?_⟩;have u2:=u1.put (o:=.lst (((cH ns Hd Tb ts bs).map (·.1)).map tI)) (u1.free hr2);have er2:=(ag (o:=.lst (((cH ns Hd Tb ts bs).map (·.1)).map tI)) (aj er1 hr2)).trans er1;generalize put J1 r2 (.lst (((cH ns Hd Tb ts bs).map (·.1)).map tI))=H2 at *;refine⟨_,er2,by rw[gQ];exact l9,by rw[gi];exact l9,aU (by rw[gQ,gi,t9];rfl) ?_⟩;have he2:=u2 _ _ he1;have ef2:=u2 _ _ ef;right;refine⟨_,ep,he2,?_⟩;refine a9 (fun i σ H3=>∃z,σ=[some (.ref x),some (.ref e),some (.int (LBn Hd Tb ns.length)),some (.ref f),z]/\H3=H2) ?_ ?_ ⟨_,rfl,rfl⟩
 ·rintro σ H3 ⟨z,rfl,rfl⟩;refine⟨he2,?_⟩;subst hR
  try dsimp only
  left;refine⟨_,ep1,ef2,by omega,fun ep2=>?_⟩;have w3:WrC t P w (put H3 f (.dI P w [] ep2)) x wd c ts bs ns Hd Tb:=(w1 (.dI P w [] ep2)).up fun a u q=>by
   by_cases n:a=f
   ·subst n;rw[af]at q ⊢;exact q
   ·rw[ag n]at q ⊢;exact u2 _ _ q
  have he3:put H3 f (.dI P w [] ep2) e=some (.dI P w (cH ns Hd Tb ts bs) ep):=(ag (Ne.symm nfe)).trans he2;have k3:∀a u,a≠wd->H a=some u->put H3 f (.dI P w [] ep2) a=some u:=fun a u n q=>(ag (aj q hf)).trans (u2 _ _ (k1 a u n q));change R _ _ (put H3 f (.dI P w [] ep2));generalize put H3 f (.dI P w [] ep2)=H4 at *;obtain⟨dx4,y4,dy4,hx4,_⟩:=id w3;subst hR;ac_rfl;refine⟨⟨dx4,_,hx4,rfl⟩,wd,c,ts,bs,ns,Hd,Tb,w3,hs,hw,fun b H5 k5 w5 hb=>?_⟩;have he5:=k5 _ _ ne he3
  try ac_rfl
  refine⟨⟨_,ep,he5⟩,fun p hp=>?_⟩;have s6:=(Sub.refl H5).put (o:=.vw e) hp;have e6:put H5 p (.vw e) p=some (.vw e):=af;generalize put H5 p (.vw e)=H6 at *
  try ac_rfl
  refine⟨e,_,ep,rfl,s6 _ _ he5,by omega,fun q hq=>?_⟩;have ev:(cH ns Hd Tb ts bs).map (·.2)=((wys ns).map fun v=>num v ns Hd Tb ts bs).map PV.int:=by
   unfold cH;rw[JY,JY];rfl
  rw[ev];have s7:=s6.put (o:=.lst (((wys ns).map fun v=>num v ns Hd Tb ts bs).map PV.int)) (s6.free hq);have e7:put H6 q (.lst (((wys ns).map fun v=>num v ns Hd Tb ts bs).map PV.int)) q=some (.lst (((wys ns).map fun v=>num v ns Hd Tb ts bs).map PV.int)):=af;generalize put H6 q (.lst (((wys ns).map fun v=>num v ns Hd Tb ts bs).map PV.int))=H7 at *
  try ac_rfl
  refine⟨(wys ns).map fun v=>num v ns Hd Tb ts bs,rfl,by rw[JN];omega,fun m hm hmin=>?_⟩;have eb:b=decide (0<m):=by
   rw[Bool.eq_iff_iff,LR,hb];obtain⟨v,hv,rfl⟩:=JU.mp hm;constructor
   ·intro z;exact z v hv
   ·intro z v' hv';have:=hmin _ (JU.mpr ⟨v',hv',rfl⟩);omega
  try ac_rfl
  exact⟨eb,H7,Sub.refl _,h H7 (fun a u n q=>s7 _ _ (k5 a u n (k3 a u n q))) (w5.up s7)⟩
 ·rintro D i y' σ H3 hy' ⟨z,rfl,rfl⟩ kk;refine⟨he2,?_⟩;rw[gi,JV]at hy';cases hg:(wys ns)[i]? with
  | none=>rw[hg]at hy';cases hy'
  | some v =>
   rw[hg]at hy';cases hy';have hv:=JX hg;have ev:tI v=.tup (v.map PV.int):=rfl;have nn:=m9 hs hw hv;have low:=ji (s:=LBn Hd Tb ns.length) (w:=num v ns Hd Tb ts bs) lb.1;have l1:lk (bx ns Hd Tb ts bs) v=some (prV (shr (LBn Hd Tb ns.length) (num v ns Hd Tb ts bs))):=uJ hv;have l2:lk (cH ns Hd Tb ts bs) v=some (.int (num v ns Hd Tb ts bs)):=uJ hv
   try simp only[KG]
   rw[ev];ac_rfl;refine⟨v,_,ep1,_,rfl,ef2,l1,?_⟩
   try ac_rfl
   refine⟨v,_,ep,_,rfl,he2,l2,?_⟩
   try ac_rfl
   refine⟨lb.2.mono (by decide),?_⟩;rw[low];have e1':∀p:DM.P2,prV p=.tup [.int p.1,.int p.2]:=fun _=>rfl;rw[e1',pC];refine⟨⟨by simp,.cons same_int (.cons same_int .nil)⟩,?_⟩
   try ac_rfl
   exact kk _ _ ⟨_,rfl,rfl⟩
theorem HG(T:Tx K mg t):aM P w K mg base CX0 10 t.a_yg t.d_yg ["_law_script"] spL:=by
 refine okU (k:=9) T.F_yg i4 (fun vs H Q E h=>by
  unfold spL at h;split at h
  ·rfl
  ·exact h.elim) (fun cdv A outer s H E B hr=>⟨_,(ae (sN 1 i4.nd (au (GA T) hr.mo rfl T.g_zJ T.F_zJ.kp T.B_zJ (aa (qv 0) ab)))
  (ae (sN 2 i4.nd (au (Fg T) hr.mo rfl T.g_zF T.F_zF.kp T.B_zF (aa (qv 0) (aa aq (aa (qv 1) (aa aq ab))))))
  (ae (cu (au (Io T) hr.mo rfl T.g_zm T.F_zm.kp T.B_zm (aa (qv 1) (aa (qv 2) ab))) (cC (n:=2) rfl (aJ (gN 3 i4.nd) (aJ (gN 4 i4.nd) bY))))
  (ae (sN 5 i4.nd (au (El T) hr.mo rfl T.g_zQ T.F_zQ.kp T.B_zQ (aa (qv 1) (aa (au (E9 T) hr.mo rfl T.g_ze T.F_ze.kp T.B_ze (aa (qv 2) ab)) (aa (au (rG T) hr.mo rfl T.g_zn T.F_zn.kp T.B_zn (aa (qv 0) (aa aq ab))) ab)))))
  (ae (aS (dJ (bA (au (E6 T) hr.mo rfl T.g_zC T.F_zC.kp T.B_zC (aa (qv 5) (aa (qv 3) (aa (qv 4) ab))))))
  (ao (ax eS))
  aF)
  (ae (sN 6 i4.nd (au (El T) hr.mo rfl T.g_zQ T.F_zQ.kp T.B_zQ (aa (qv 1) (aa (au (E9 T) hr.mo rfl T.g_ze T.F_ze.kp T.B_ze (aa (au (Fg T) hr.mo rfl T.g_zF T.F_zF.kp T.B_zF (aa (qv 0) (aa aq (aa (qv 1) (aa aq ab))))) ab)) (aa aq ab)))))
  (ae (bT (pT (iI (qv 6) T.cl_B T.m_zo (Ef T) hr.mo T.B_zo)))
  (ao (ax (au (E6 T) hr.mo rfl T.g_zC T.F_zC.kp T.B_zC (aa (qv 5) (aa (qv 3) (aa (qv 4) ab))))))))))))),?_⟩)
 intro vs H Q E h;unfold spL at h;split at h
 ·rename_i l;obtain⟨is,rfl,hl,h⟩:=h;left;refine⟨is,rfl,fun c ts bs hs=>?_⟩;have c6:=hs.hc;have b6:=hs.l6
  try ac_rfl
  right;refine⟨is,ts,bs,rfl,rfl,rfl,⟨by decide,by decide⟩,⟨by decide,by decide⟩,hs,fun a b d ns Hd Tb ys zs H1 s1 ea eb ed ry rz hw=>?_⟩;have ln:=hw.ln;have lt:=hw.lt;have lh:=hw.lh;have t4:=wtb hw
  try ac_rfl
  right;refine⟨ts,bs,ns,Hd,Tb,ys,zs,rfl,rfl,ea,eb,ed,ry,rz,hs,hw,fun r H2 ep s2 hr er=>?_⟩
  try ac_rfl
  right;refine⟨ns,Hd,Tb,ys,zs,s2 _ _ ea,s2 _ _ eb,s2 _ _ ed,cJ.up s2 ry,jx.up s2 rz,⟨fun ws hws=>(hw.h4 ws hws).1,by omega⟩,⟨t4,by omega⟩,⟨by decide,by decide⟩,is,rfl,ts,bs,ns,Hd,Tb,rfl,rfl,rfl,rfl,rfl,hs,hw,fun x wd H3 s3 hx hwd wc=>?_⟩;have nr:r≠wd:=aj er hwd;have er3:=s3 _ _ er
  try ac_rfl
  right;refine⟨wd,c,ts,bs,ns,Hd,Tb,ep,wc,hs,hw,er3,nr,rfl,fun H4 k4 w4=>?_⟩;have er4:=k4 _ _ nr er3;have s04:U.Sub H H4:=fun q u e=>k4 q u (aj (s2 _ _ (s1 _ _ e)) hwd) (s3 _ _ (s2 _ _ (s1 _ _ e)))
  try ac_rfl
  right;refine⟨is,ts,bs,rfl,rfl,rfl,⟨by decide,by decide⟩,⟨by decide,by decide⟩,hs,fun a2 b2 d2 ns2 Hd2 Tb2 ys2 zs2 H5 s5 ea2 eb2 ed2 ry2 rz2 hw2=>?_⟩;have ln2:=hw2.ln;have lt2:=hw2.lt;have lh2:=hw2.lh
  try ac_rfl
  refine⟨ns2,Hd2,Tb2,ys2,zs2,ea2,eb2,ed2,ry2,rz2,⟨fun ws hws=>(hw2.h4 ws hws).1,by omega⟩,⟨wtb hw2,by omega⟩,?_⟩
  try ac_rfl
  refine⟨ts,bs,ns2,Hd2,Tb2,rfl,rfl,rfl,rfl,rfl,hs,hw2,fun x2 wd2 H6 s6 hx2 hwd2 wc2=>?_⟩;obtain⟨dx2,_,_,ex2,_⟩:=id wc2;have n2:∀n∈ns2,1≤n/\n≤4:=fun n hn=>by have:=hw2.n4 n hn;omega
  have m2:∀n∈aN Hd2,1≤n/\n≤4:=fun n hn=>by
   obtain⟨ws,hws,rfl⟩:=JU.mp hn;have:=hw2.h4 ws hws;omega
  have pb:=aP fun n hn=>(m2 n hn).1;have pa:=aP fun n hn=>(n2 n hn).1;have pn:prod ns2≤300:=KQ (bK (by omega) pb) hw2.most;have wl:=fv n2;have sl:(bx ns2 Hd2 Tb2 ts bs).length=(wys ns2).length:=by unfold bx;rw[JN]
  try ac_rfl
  right;refine⟨⟨dx2,_,ex2,rfl⟩,wd2,c,ts,bs,ns2,Hd2,Tb2,wc2,hs,hw2,fun f H7 ep7 k7 w7 hf nf ef=>?_⟩
  try ac_rfl
  refine⟨_,ep7,ef,by omega,fun ep8=>?_⟩;have s48:U.Sub H4 (put H7 f (.dI P w [] ep8)):=fun q u e=>(ag (aj (s6 _ _ (s5 _ _ e)) hf)).trans (k7 q u (aj (s5 _ _ e) hwd2) (s6 _ _ (s5 _ _ e)));change R _ _ (put H7 f (.dI P w [] ep8));generalize put H7 f (.dI P w [] ep8)=H8 at *;subst hR;ac_rfl;exact⟨wd,c,ts,bs,ns,Hd,Tb,ep,w4.up s48,hs,hw,s48 _ _ er4,nr,rfl,fun H9 k9 w9=>⟨H,fun q u e=>k9 q u (aj (s2 _ _ (s1 _ _ e)) hwd) (s48 _ _ (s04 _ _ e)),h⟩⟩
 ·exact h.elim
end
theorem eP(h:∀a,bindArgs fd ⟨[a],[]⟩=pure (List.zip ps [a]))(us:List Value)(hl:us.length=1):bindArgs fd ⟨us,[]⟩=pure (List.zip ps us):=Dt (P:=fun us=>bindArgs fd ⟨us,[]⟩=pure (List.zip ps us)) h us hl
theorem cZ(h:∀a b,bindArgs fd ⟨[a,b],[]⟩=pure (List.zip ps [a,b]))(us:List Value)(hl:us.length=2):bindArgs fd ⟨us,[]⟩=pure (List.zip ps us):=Ge (P:=fun us=>bindArgs fd ⟨us,[]⟩=pure (List.zip ps us)) h us hl
theorem qH(h:∀a b c,bindArgs fd ⟨[a,b,c],[]⟩=pure (List.zip ps [a,b,c]))(us:List Value)(hl:us.length=3):bindArgs fd ⟨us,[]⟩=pure (List.zip ps us):=Ga (P:=fun us=>bindArgs fd ⟨us,[]⟩=pure (List.zip ps us)) h us hl
theorem ue(h:∀a b c d,bindArgs fd ⟨[a,b,c,d],[]⟩=pure (List.zip ps [a,b,c,d]))(us:List Value)(hl:us.length=4):bindArgs fd ⟨us,[]⟩=pure (List.zip ps us):=FX (P:=fun us=>bindArgs fd ⟨us,[]⟩=pure (List.zip ps us)) h us hl
theorem Jt(h:∀a b c d e,bindArgs fd ⟨[a,b,c,d,e],[]⟩=pure (List.zip ps [a,b,c,d,e]))(us:List Value)(hl:us.length=5):bindArgs fd ⟨us,[]⟩=pure (List.zip ps us):=Hc (P:=fun us=>bindArgs fd ⟨us,[]⟩=pure (List.zip ps us)) h us hl
open PySem.W in
theorem nV{K:Frag}{h:Heap}{mg:Str->Option Value}{f_zB f_zR f_zO f_zW f_zV f_zH f_zi f_za f_zd f_zb f_zT f_yb f_zh f_zA f_zY f_zS f_zt f_zX f_zD f_zr f_zu f_zj f_zz f_zN f_zy f_zU f_zp f_zf f_zc f_zx f_zg f_zo f_zv f_zn f_zI f_zk f_zs f_zE f_zl f_zP f_zG f_zF f_zq f_ze f_zw f_zJ f_zQ f_zK f_zL f_zM f_zm f_zC f_yg k_A k_B:Addr}(X:K.In h)(G:h.Ns mainGlobals mg)
  {d_zB d_zR d_zO d_zW d_zV d_zH d_zi d_za d_zd d_zb d_zT d_yb d_zh d_zA d_zY d_zS d_zt d_zX d_zD d_zr d_zu d_zj d_zz d_zN d_zy d_zU d_zp d_zf d_zc d_zx d_zg d_zo d_zv d_zn d_zI d_zk d_zs d_zE d_zl d_zP d_zG d_zF d_zq d_ze d_zw d_zJ d_zQ d_zK d_zL d_zM d_zm d_zC d_yg:FuncData}
  {tk_LEAST_SIZE tk_MOST_BOWS tk_MOST_HIDDEN tk_MOST_NAMES tk_MOST_SIZE tk_MOST_WEIGHTS:Tok}
  (C_A:nX1 K "Drawing" k_A)
  (C_B:nX1 K "World" k_B)
  (a_zB:nX1 K "ways_with" f_zB)
  (l_zB:Fun K "ways_with" "ways_with" xJ f_zB d_zB)
  (a_zR:nX1 K "all_ways" f_zR)
  (l_zR:Fun K "all_ways" "all_ways" Ae f_zR d_zR)
  (a_zO:nX1 K "place_of" f_zO)
  (l_zO:Fun K "place_of" "place_of" Bo f_zO d_zO)
  (a_zW:nX1 K "product" f_zW)
  (l_zW:Fun K "product" "product" Cs f_zW d_zW)
  (a_zV:nX1 K "is_pair" f_zV)
  (l_zV:Fun K "is_pair" "is_pair" Cf f_zV d_zV)
  (a_zH:nX1 K "are_pairs" f_zH)
  (l_zH:Fun K "are_pairs" "are_pairs" wC f_zH d_zH)
  (a_zi:fX1 K k_A "__init__" f_zi)
  (i_zi:isFn K (.ref f_zi)=true)
  (l_zi:Fun K "__init__" "Drawing.__init__" uv f_zi d_zi)
  (a_za:fX1 K k_A "need_name" f_za)
  (i_za:isFn K (.ref f_za)=true)
  (l_za:Fun K "need_name" "Drawing.need_name" AF f_za d_za)
  (a_zd:fX1 K k_A "sources" f_zd)
  (i_zd:isFn K (.ref f_zd)=true)
  (l_zd:Fun K "sources" "Drawing.sources" yu f_zd d_zd)
  (a_zb:nX1 K "greatest_divisor" f_zb)
  (l_zb:Fun K "greatest_divisor" "greatest_divisor" Bb f_zb d_zb)
  (a_zT:nX1 K "fraction" f_zT)
  (l_zT:Fun K "fraction" "fraction" BF f_zT d_zT)
  (a_yb:nX1 K "times" f_yb)
  (l_yb:Fun K "times" "times" As f_yb d_yb)
  (a_zh:nX1 K "common_bottom" f_zh)
  (l_zh:Fun K "common_bottom" "common_bottom" Cq f_zh d_zh)
  (a_zA:nX1 K "tops_over" f_zA)
  (l_zA:Fun K "tops_over" "tops_over" xw f_zA d_zA)
  (a_zY:nX1 K "total" f_zY)
  (l_zY:Fun K "total" "total" C0 f_zY d_zY)
  (a_zS:nX1 K "is_share" f_zS)
  (l_zS:Fun K "is_share" "is_share" B9 f_zS d_zS)
  (a_zt:nX1 K "are_shares" f_zt)
  (l_zt:Fun K "are_shares" "are_shares" wy f_zt d_zt)
  (a_zX:nX1 K "copied" f_zX)
  (l_zX:Fun K "copied" "copied" xY f_zX d_zX)
  (a_zD:nX1 K "are_sizes" f_zD)
  (l_zD:Fun K "are_sizes" "are_sizes" yi f_zD d_zD)
  (a_zr:nX1 K "are_hidden" f_zr)
  (l_zr:Fun K "are_hidden" "are_hidden" yh f_zr d_zr)
  (a_zu:nX1 K "bow_places" f_zu)
  (l_zu:Fun K "bow_places" "bow_places" yz f_zu d_zu)
  (a_zj:nX1 K "hidden_sizes" f_zj)
  (l_zj:Fun K "hidden_sizes" "hidden_sizes" xH f_zj d_zj)
  (a_zz:nX1 K "head_sizes" f_zz)
  (l_zz:Fun K "head_sizes" "head_sizes" xC f_zz d_zz)
  (a_zN:nX1 K "is_table" f_zN)
  (l_zN:Fun K "is_table" "is_table" wO f_zN d_zN)
  (a_zy:nX1 K "are_tables" f_zy)
  (l_zy:Fun K "are_tables" "are_tables" sR f_zy d_zy)
  (a_zU:nX1 K "crossed" f_zU)
  (l_zU:Fun K "crossed" "crossed" yd f_zU d_zU)
  (a_zp:nX1 K "row_places" f_zp)
  (l_zp:Fun K "row_places" "row_places" uS f_zp d_zp)
  (a_zf:nX1 K "picked_entries" f_zf)
  (l_zf:Fun K "picked_entries" "picked_entries" rZ f_zf d_zf)
  (a_zc:nX1 K "weights_without" f_zc)
  (l_zc:Fun K "weights_without" "weights_without" qF f_zc d_zc)
  (a_zx:fX1 K k_B "__init__" f_zx)
  (i_zx:isFn K (.ref f_zx)=true)
  (l_zx:Fun K "__init__" "World.__init__" rS f_zx d_zx)
  (a_zg:fX1 K k_B "weights" f_zg)
  (i_zg:isFn K (.ref f_zg)=true)
  (l_zg:Fun K "weights" "World.weights" AG f_zg d_zg)
  (a_zo:fX1 K k_B "seen" f_zo)
  (i_zo:isFn K (.ref f_zo)=true)
  (l_zo:Fun K "seen" "World.seen" AD f_zo d_zo)
  (a_zv:fX1 K k_B "full" f_zv)
  (i_zv:isFn K (.ref f_zv)=true)
  (l_zv:Fun K "full" "World.full" wJ f_zv d_zv)
  (a_zn:nX1 K "_law_cell_at" f_zn)
  (l_zn:Fun K "_law_cell_at" "_law_cell_at" A4 f_zn d_zn)
  (a_zI:nX1 K "_law_mixed" f_zI)
  (l_zI:Fun K "_law_mixed" "_law_mixed" Bq f_zI d_zI)
  (a_zk:nX1 K "_law_divisor" f_zk)
  (l_zk:Fun K "_law_divisor" "_law_divisor" Ac f_zk d_zk)
  (a_zs:nX1 K "_law_lowest" f_zs)
  (l_zs:Fun K "_law_lowest" "_law_lowest" AE f_zs d_zs)
  (a_zE:nX1 K "_law_pairs" f_zE)
  (l_zE:Fun K "_law_pairs" "_law_pairs" C4 f_zE d_zE)
  (a_zl:nX1 K "_law_weights" f_zl)
  (l_zl:Fun K "_law_weights" "_law_weights" C9 f_zl d_zl)
  (a_zP:nX1 K "_law_rows" f_zP)
  (l_zP:Fun K "_law_rows" "_law_rows" wq f_zP d_zP)
  (a_zG:nX1 K "_law_heads" f_zG)
  (l_zG:Fun K "_law_heads" "_law_heads" tV f_zG d_zG)
  (a_zF:nX1 K "_law_world" f_zF)
  (l_zF:Fun K "_law_world" "_law_world" xf f_zF d_zF)
  (a_zq:nX1 K "_law_shares" f_zq)
  (l_zq:Fun K "_law_shares" "_law_shares" xr f_zq d_zq)
  (a_ze:nX1 K "_law_told_world" f_ze)
  (l_ze:Fun K "_law_told_world" "_law_told_world" sW f_ze d_ze)
  (a_zw:nX1 K "_law_handed" f_zw)
  (l_zw:Fun K "_law_handed" "_law_handed" t5 f_zw d_zw)
  (a_zJ:nX1 K "_law_drawn" f_zJ)
  (l_zJ:Fun K "_law_drawn" "_law_drawn" AX f_zJ d_zJ)
  (a_zQ:nX1 K "_law_made" f_zQ)
  (l_zQ:Fun K "_law_made" "_law_made" BX f_zQ d_zQ)
  (a_zK:nX1 K "_law_same" f_zK)
  (l_zK:Fun K "_law_same" "_law_same" Bp f_zK d_zK)
  (a_zL:nX1 K "_law_ways" f_zL)
  (l_zL:Fun K "_law_ways" "_law_ways" yF f_zL d_zL)
  (a_zM:nX1 K "_law_even" f_zM)
  (l_zM:Fun K "_law_even" "_law_even" yI f_zM d_zM)
  (a_zm:nX1 K "_law_entries" f_zm)
  (l_zm:Fun K "_law_entries" "_law_entries" vd f_zm d_zm)
  (a_zC:nX1 K "_law_right" f_zC)
  (l_zC:Fun K "_law_right" "_law_right" AO f_zC d_zC)
  (a_yg:nX1 K "law" f_yg)
  (l_yg:Fun K "law" "law" By f_yg d_yg)
  (pg_A:plainGet K k_A Str.empty=true)
  (hd_A:hasDictIn K k_A=true)
  (po_A:plainOver K k_A=true)
  (sa_A:findIn K (.ref k_A) "__setattr__"=some (some (.builtin "object.__setattr__")))
  (mk_A:makesIn K k_A=true)
  (kc_A:keepIn K (.ref k_A)=true)
  (pg_B:plainGet K k_B Str.empty=true)
  (hd_B:hasDictIn K k_B=true)
  (po_B:plainOver K k_B=true)
  (sa_B:findIn K (.ref k_B) "__setattr__"=some (some (.builtin "object.__setattr__")))
  (mk_B:makesIn K k_B=true)
  (kc_B:keepIn K (.ref k_B)=true)
  (z_abs:nX2 K "abs")
  (z_all:nX2 K "all")
  (z_bool:nX2 K "bool")
  (z_dict:nX2 K "dict")
  (z_enumerate:nX2 K "enumerate")
  (z_int:nX2 K "int")
  (z_isinstance:nX2 K "isinstance")
  (z_len:nX2 K "len")
  (z_list:nX2 K "list")
  (z_min:nX2 K "min")
  (z_range:nX2 K "range")
  (z_set:nX2 K "set")
  (z_sorted:nX2 K "sorted")
  (z_str:nX2 K "str")
  (z_sum:nX2 K "sum")
  (z_tuple:nX2 K "tuple")
  (z_zip:nX2 K "zip")
  (v_LEAST_SIZE:nsIn K mainGlobals "LEAST_SIZE"=some (some (.int 2 tk_LEAST_SIZE)))
  (v_MOST_BOWS:nsIn K mainGlobals "MOST_BOWS"=some (some (.int 6 tk_MOST_BOWS)))
  (v_MOST_HIDDEN:nsIn K mainGlobals "MOST_HIDDEN"=some (some (.int 4 tk_MOST_HIDDEN)))
  (v_MOST_NAMES:nsIn K mainGlobals "MOST_NAMES"=some (some (.int 6 tk_MOST_NAMES)))
  (v_MOST_SIZE:nsIn K mainGlobals "MOST_SIZE"=some (some (.int 4 tk_MOST_SIZE)))
  (v_MOST_WEIGHTS:nsIn K mainGlobals "MOST_WEIGHTS"=some (some (.int 200000 tk_MOST_WEIGHTS)))
  (nA_bows:findIn K (.ref k_A) "bows"=some none)
  (nA_count:findIn K (.ref k_A) "count"=some none)
  (nA_ties:findIn K (.ref k_A) "ties"=some none)
  (n_World_drawing:findIn K (.ref k_B) "drawing"=some none)
  (n_World_hidden:findIn K (.ref k_B) "hidden"=some none)
  (n_World_sizes:findIn K (.ref k_B) "sizes"=some none)
  (n_World_tables:findIn K (.ref k_B) "tables"=some none)
  (n_World_weighed:findIn K (.ref k_B) "weighed"=some none) :
  ∃t:Ad,Tx K mg t/\t.a_yg=f_yg/\∀(s:Shared) (v:Value),BindsTo s t.d_yg ⟨[v],[]⟩ [("_law_script",v)]:=by
 obtain⟨oc,od,kV,doc,pm,an,cdv,ct,osl,rfl,lk,hcd⟩:=l_yg.ex;exact⟨⟨f_zB,_,f_zR,_,f_zO,_,f_zW,_,f_zV,_,f_zH,_,f_zi,_,f_za,_,f_zd,_,f_zb,_,f_zT,_,f_yb,_,f_zh,_,f_zA,_,f_zY,_,f_zS,_,f_zt,_,f_zX,_,f_zD,_,f_zr,_,f_zu,_,f_zj,_,f_zz,_,f_zN,_,f_zy,_,f_zU,_,f_zp,_,f_zf,_,f_zc,_,f_zx,_,f_zg,_,f_zo,_,f_zv,_,f_zn,_,f_zI,_,f_zk,_,f_zs,_,f_zE,_,f_zl,_,f_zP,_,f_zG,_,f_zF,_,f_zq,_,f_ze,_,f_zw,_,f_zJ,_,f_zQ,_,f_zK,_,f_zL,_,f_zM,_,f_zm,_,f_zC,_,f_yg,_,k_A,k_B⟩,⟨l_zB,
  l_zB.binds fun _ _ _ _ _ _=>cZ fun _ _=>rfl,
  mg_of X G a_zB,
  l_zR,
  l_zR.binds fun _ _ _ _ _ _=>eP fun _=>rfl,
  mg_of X G a_zR,
  l_zO,
  l_zO.binds fun _ _ _ _ _ _=>cZ fun _ _=>rfl,
  mg_of X G a_zO,
  l_zW,
  l_zW.binds fun _ _ _ _ _ _=>eP fun _=>rfl,
  mg_of X G a_zW,
  l_zV,
  l_zV.binds fun _ _ _ _ _ _=>cZ fun _ _=>rfl,
  mg_of X G a_zV,
  l_zH,
  l_zH.binds fun _ _ _ _ _ _=>cZ fun _ _=>rfl,
  mg_of X G a_zH,
  l_zi,
  l_zi.binds fun _ _ _ _ _ _=>ue fun _ _ _ _=>rfl,
  l_za,
  l_za.binds fun _ _ _ _ _ _=>cZ fun _ _=>rfl,
  ⟨a_za,i_za,l_za.kp⟩,
  l_zd,
  l_zd.binds fun _ _ _ _ _ _=>cZ fun _ _=>rfl,
  ⟨a_zd,i_zd,l_zd.kp⟩,
  l_zb,
  l_zb.binds fun _ _ _ _ _ _=>cZ fun _ _=>rfl,
  mg_of X G a_zb,
  l_zT,
  l_zT.binds fun _ _ _ _ _ _=>cZ fun _ _=>rfl,
  mg_of X G a_zT,
  l_yb,
  l_yb.binds fun _ _ _ _ _ _=>cZ fun _ _=>rfl,
  mg_of X G a_yb,
  l_zh,
  l_zh.binds fun _ _ _ _ _ _=>eP fun _=>rfl,
  mg_of X G a_zh,
  l_zA,
  l_zA.binds fun _ _ _ _ _ _=>cZ fun _ _=>rfl,
  mg_of X G a_zA,
  l_zY,
  l_zY.binds fun _ _ _ _ _ _=>eP fun _=>rfl,
  mg_of X G a_zY,
  l_zS,
  l_zS.binds fun _ _ _ _ _ _=>eP fun _=>rfl,
  mg_of X G a_zS,
  l_zt,
  l_zt.binds fun _ _ _ _ _ _=>eP fun _=>rfl,
  mg_of X G a_zt,
  l_zX,
  l_zX.binds fun _ _ _ _ _ _=>eP fun _=>rfl,
  mg_of X G a_zX,
  l_zD,
  l_zD.binds fun _ _ _ _ _ _=>cZ fun _ _=>rfl,
  mg_of X G a_zD,
  l_zr,
  l_zr.binds fun _ _ _ _ _ _=>cZ fun _ _=>rfl,
  mg_of X G a_zr,
  l_zu,
  l_zu.binds fun _ _ _ _ _ _=>cZ fun _ _=>rfl,
  mg_of X G a_zu,
  l_zj,
  l_zj.binds fun _ _ _ _ _ _=>qH fun _ _ _=>rfl,
  mg_of X G a_zj,
  l_zz,
  l_zz.binds fun _ _ _ _ _ _=>ue fun _ _ _ _=>rfl,
  mg_of X G a_zz,
  l_zN,
  l_zN.binds fun _ _ _ _ _ _=>qH fun _ _ _=>rfl,
  mg_of X G a_zN,
  l_zy,
  l_zy.binds fun _ _ _ _ _ _=>ue fun _ _ _ _=>rfl,
  mg_of X G a_zy,
  l_zU,
  l_zU.binds fun _ _ _ _ _ _=>eP fun _=>rfl,
  mg_of X G a_zU,
  l_zp,
  l_zp.binds fun _ _ _ _ _ _=>cZ fun _ _=>rfl,
  mg_of X G a_zp,
  l_zf,
  l_zf.binds fun _ _ _ _ _ _=>qH fun _ _ _=>rfl,
  mg_of X G a_zf,
  l_zc,
  l_zc.binds fun _ _ _ _ _ _=>cZ fun _ _=>rfl,
  mg_of X G a_zc,
  l_zx,
  l_zx.binds fun _ _ _ _ _ _=>Jt fun _ _ _ _ _=>rfl,
  l_zg,
  l_zg.binds fun _ _ _ _ _ _=>cZ fun _ _=>rfl,
  ⟨a_zg,i_zg,l_zg.kp⟩,
  l_zo,
  l_zo.binds fun _ _ _ _ _ _=>eP fun _=>rfl,
  ⟨a_zo,i_zo,l_zo.kp⟩,
  l_zv,
  l_zv.binds fun _ _ _ _ _ _=>eP fun _=>rfl,
  ⟨a_zv,i_zv,l_zv.kp⟩,
  l_zn,
  l_zn.binds fun _ _ _ _ _ _=>cZ fun _ _=>rfl,
  mg_of X G a_zn,
  l_zI,
  l_zI.binds fun _ _ _ _ _ _=>cZ fun _ _=>rfl,
  mg_of X G a_zI,
  l_zk,
  l_zk.binds fun _ _ _ _ _ _=>cZ fun _ _=>rfl,
  mg_of X G a_zk,
  l_zs,
  l_zs.binds fun _ _ _ _ _ _=>cZ fun _ _=>rfl,
  mg_of X G a_zs,
  l_zE,
  l_zE.binds fun _ _ _ _ _ _=>cZ fun _ _=>rfl,
  mg_of X G a_zE,
  l_zl,
  l_zl.binds fun _ _ _ _ _ _=>qH fun _ _ _=>rfl,
  mg_of X G a_zl,
  l_zP,
  l_zP.binds fun _ _ _ _ _ _=>ue fun _ _ _ _=>rfl,
  mg_of X G a_zP,
  l_zG,
  l_zG.binds fun _ _ _ _ _ _=>cZ fun _ _=>rfl,
  mg_of X G a_zG,
  l_zF,
  l_zF.binds fun _ _ _ _ _ _=>ue fun _ _ _ _=>rfl,
  mg_of X G a_zF,
  l_zq,
  l_zq.binds fun _ _ _ _ _ _=>eP fun _=>rfl,
  mg_of X G a_zq,
  l_ze,
  l_ze.binds fun _ _ _ _ _ _=>eP fun _=>rfl,
  mg_of X G a_ze,
  l_zw,
  l_zw.binds fun _ _ _ _ _ _=>cZ fun _ _=>rfl,
  mg_of X G a_zw,
  l_zJ,
  l_zJ.binds fun _ _ _ _ _ _=>eP fun _=>rfl,
  mg_of X G a_zJ,
  l_zQ,
  l_zQ.binds fun _ _ _ _ _ _=>qH fun _ _ _=>rfl,
  mg_of X G a_zQ,
  l_zK,
  l_zK.binds fun _ _ _ _ _ _=>cZ fun _ _=>rfl,
  mg_of X G a_zK,
  l_zL,
  l_zL.binds fun _ _ _ _ _ _=>eP fun _=>rfl,
  mg_of X G a_zL,
  l_zM,
  l_zM.binds fun _ _ _ _ _ _=>eP fun _=>rfl,
  mg_of X G a_zM,
  l_zm,
  l_zm.binds fun _ _ _ _ _ _=>cZ fun _ _=>rfl,
  mg_of X G a_zm,
  l_zC,
  l_zC.binds fun _ _ _ _ _ _=>qH fun _ _ _=>rfl,
  mg_of X G a_zC,
  l_yg,
  l_yg.binds fun _ _ _ _ _ _=>eP fun _=>rfl,
  mg_of X G a_yg,
  mg_of X G C_A,
  ⟨pg_A,hd_A,po_A,sa_A⟩,
  ⟨mk_A,a_zi,i_zi,kc_A⟩,
  mg_of X G C_B,
  ⟨pg_B,hd_B,po_B,sa_B⟩,
  ⟨mk_B,a_zx,i_zx,kc_B⟩,
  mg_none_of X G z_abs,
  mg_none_of X G z_all,
  mg_none_of X G z_bool,
  mg_none_of X G z_dict,
  mg_none_of X G z_enumerate,
  mg_none_of X G z_int,
  mg_none_of X G z_isinstance,
  mg_none_of X G z_len,
  mg_none_of X G z_list,
  mg_none_of X G z_min,
  mg_none_of X G z_range,
  mg_none_of X G z_set,
  mg_none_of X G z_sorted,
  mg_none_of X G z_str,
  mg_none_of X G z_sum,
  mg_none_of X G z_tuple,
  mg_none_of X G z_zip,
  ⟨_,mg_of X G v_LEAST_SIZE,⟨_,rfl⟩⟩,
  ⟨_,mg_of X G v_MOST_BOWS,⟨_,rfl⟩⟩,
  ⟨_,mg_of X G v_MOST_HIDDEN,⟨_,rfl⟩⟩,
  ⟨_,mg_of X G v_MOST_NAMES,⟨_,rfl⟩⟩,
  ⟨_,mg_of X G v_MOST_SIZE,⟨_,rfl⟩⟩,
  ⟨_,mg_of X G v_MOST_WEIGHTS,⟨_,rfl⟩⟩,
  nA_bows,
  nA_count,
  nA_ties,
  n_World_drawing,
  n_World_hidden,
  n_World_sizes,
  n_World_tables,
  n_World_weighed⟩,rfl,fun s v=>.of_eq rfl⟩
theorem E8{K:LFr}(h:∃t:Ad,Tx K mg t/\t.a_yg=f/\∀(s:Shared) (v:Value),BindsTo s t.d_yg ⟨[v],[]⟩ [(x,v)])(e:mg "law"=some (.ref f)) :
  ∃t:Ad,Tx K mg t/\mg "law"=some (.ref t.a_yg)/\∀(s:Shared) (v:Value),BindsTo s t.d_yg ⟨[v],[]⟩ [(x,v)]:=by
 obtain⟨t,T,rfl,b⟩:=h;exact⟨t,T,e,b⟩
end Lw
end
open PySem PySem.W PyProof.Rows
set_option maxRecDepth 100000 in
set_option maxHeartbeats 0 in
theorem PySem.Challenge.cw_doingbook_k23_what_is_seen_holds : PySem.Challenge.rw_doingbook_k23_what_is_seen.Holds := by
 w_on;o_law;k_head;(case hw=>w_witness2)
 k_fill
 refine L2.uj (l:=PySem.Challenge.rw_doingbook_k23_what_is_seen) (n:=63) (k:=10) (x:="_law_script") (CX:=L2.CX0) (sp:=fun K=>U.gU K U.spL) rfl (by decide) rfl ⟨rfl,by decide,by decide⟩ (fun w h Y=>PySem.W.kIn_of Y) ?F (fun K H a ns hl hO hS=>U.rg hl hO hS) (fun _ _ _ _ z=>z)
 case F =>
  intro w mg fa h KX G hmg;have T:∃t:Lw.Ad,Lw.Tx (L2.KOf KX) mg t/\mg "law"=some (.ref t.a_yg)/\∀(s:Shared) (v:Value),BindsTo s t.d_yg ⟨[v],[]⟩ [("_law_script",v)]:=by
   dsimp only[L2.KOf];refine Lw.E8 ?_ (PySem.W.mg_of KX G (by k_is));apply Lw.nV KX G<;>((try delta Lw.nX1);(try delta Lw.nX2);(try delta Lw.fX1);(try delta Lw.kX1);first|k_is|(apply L2.Cd<;>k_is) | kernel_rfl | kit_is |((repeat' (first | exact trivial | refine And.intro ?_ ?_))<;>kit_is))
  obtain⟨t,T,e,hb⟩:=T;have e0:=hmg.symm.trans e;cases e0;exact⟨t.d_yg,hb,fun base kb nb=>Lw.HG T⟩
