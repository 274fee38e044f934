import PyProof.Rows.All
import Wide.All
import OpenK.AllK
import Wide.FinOn
import Lean
import PyProof.EqAt
import PyProof.EqKinds
import PyProof.TupleCall
import KE.KDictList
import PyProof.DictWalks
import PyProof.DictTruth
import PyProof.DictValues
import KE.KDictOf
import PyProof.TupleKey
import PyProof.DictKinds
import PyProof.DictRoadsH
import PyProof.MeetsDict
import PyProof.NeKinds
import PyProof.StationsW
import PyProof.RulesAs
import PyProof.ExcClass2
import PyProof.IsiH_tuple
import PyProof.NsDelKeeps
import PyProof.ConsumeWalk
import PyProof.Rows.SortWalk
import PySem.SetOps
import PySem.Builtin.Tuple.Common
import PyProof.Rows.SetFrom
import PyProof.SetRoads
import KE.KSortTup
import PyProof.FactsAll.set
import PyProof.CollectWalk
import PyProof.Rows.Range3
import PySem.Builtin.Frozenset.Common
import PyProof.SumAny
import KE.KRevIter
import PyProof.Draws
import PyProof.EnumMake
import PyProof.TupleIter
import PyProof.WalksMore
import PyProof.ZipIter
import PyProof.Rows.ZipGen
import PyProof.ListRange
import PyProof.TupleOfStr
import PyProof.AttrMiss
import PyProof.DictUpdate
import PyProof.FactsAll.bool
import PyProof.SeqI3
import PyProof.Rows.StrWeight2
import PyProof.StrBlock
import PyProof.ListStr
import PyProof.SliceStr2
import PyProof.StrBlockI
import PySem.Challenge.RW_doingbook_k33_whole_worth_in_parts
set_option Elab.async false
namespace PySem.W.Fast
def tw26980826075415532:=()
def tw11551274897820957021:=()
def tw17624262396354784617:=()
def tw4591869942361861812:=()
def tw8112647651513778698:=()
def tw10732544076078727369:=()
def tw6263355247070694790:=()
def tw14550216940144260023:=()
def tw3647879513268358717:=()
def tw6981833274110250123:=()
def tw8066913983340408553:=()
def tw13739414499608060261:=()
def tw13876697634939236185:=()
def tw10536831322038994048:=()
def tw4242228046979746568:=()
def tw11138116564851521853:=()
def tw17297365377428624388:=()
def tw5711770598425470496:=()
def tw10826981162845205439:=()
def tw1480085370140849532:=()
def tw3220013234199653981:=()
def tw10664097824656213769:=()
def tw3351346917144667503:=()
def tw11160865736012705239:=()
def tw9370894147612620106:=()
def tw14441232152857153456:=()
def tw972443570337042898:=()
def tw5506618447101219965:=()
def tw5339383014339166772:=()
def tw1302825930806481665:=()
def tw6724316816512953240:=()
def tw3841555331230166386:=()
def tw6396542537450892776:=()
def tw5264423712770100644:=()
def tw6628493358297181524:=()
def tw2644244372681881642:=()
def tw17858166162423367539:=()
def tw14317176709212563886:=()
def tw9211452487392700458:=()
def tw8344043405727570027:=()
def tw4232185017210417143:=()
def tw14219280189352805059:=()
def tw14990165324224084945:=()
def tw2889652483164967614:=()
def tw15939977388972956967:=()
def tw8255397416467530936:=()
def tw15969134674380117095:=()
def tw9278073657683362673:=()
def tw4479244100357483348:=()
def tw5789035364840877928:=()
def tw795814361593695731:=()
def tw12686428496194551666:=()
def tw14596080111667907718:=()
def tw7131791092631712474:=()
def tw2793012704943404607:=()
def tw1163204516937388988:=()
def tw5187088280932713622:=()
def tw17251132129947740491:=()
def tw16519896613454241446:=()
def tw2818411302820679415:=()
def tw9982383452323876334:=()
def tw8401702194508030933:=()
def tw6043579015938473902:=()
def tw4364595612333126835:=()
def tw1302833255105660352:=()
def tw2113088504328686289:=()
def tw15815928467995098750:=()
def tw9488070065780149040:=()
def tw17982225852438788692:=()
def tw5750307389126609160:=()
def tw6697180213953600811:=()
def tw6078295676422521884:=()
def tw4627125638324238180:=()
def tw10067278465064797532:=()
def tw1901200926238827550:=()
def tw11660876373834835567:=()
def tw10560039896540438280:=()
def tw10759081779413243488:=()
def tw10512913217399746513:=()
def tw3617290133961435038:=()
def tw14080972070506224628:=()
def tw4394834394108353120:=()
def tw1991491547051751617:=()
def tw16172757803322687303:=()
def tw8898565060788391596:=()
def tw17677039451769697971:=()
def tw516036021321618558:=()
def tw7102656802686007624:=()
def tw17189948357817946094:=()
def tw4701054036143736288:=()
def tw4293366808520928337:=()
def tw11122262264762524605:=()
def tw6997879663516847567:=()
def tw18089606373187411782:=()
def tw2305291842029731755:=()
def tw7608337688717315799:=()
def tw12585109736621431845:=()
def tw3165708396060028761:=()
def tw13109138089501467678:=()
def tw3355787535720679107:=()
def tw15893909000324266790:=()
def tw7413562358953205703:=()
def tw6496964548169801059:=()
def tw10023319862764152925:=()
def tw13715459533028874924:=()
def tw16926185288095021721:=()
def tw12405276375250293134:=()
def tw9486363913296579634:=()
def tw8889984708292357157:=()
def tw15327232683231828048:=()
def tw5785822929183597077:=()
def tw5053980403735921024:=()
def tw3055797166157376511:=()
def tw9178419327692072311:=()
def tw17626584813780273358:=()
def tw6099069847170908115:=()
def tw904579865810780877:=()
def tw18230106955252474465:=()
def tw1036726852233947344:=()
def tw15617706659451019897:=()
def tw2319314930722956128:=()
def tw16379624029315036628:=()
def tw2396558763772156424:=()
def tw15510793551618821756:=()
def tw11498591756787550378:=()
def tw15341125201035403985:=()
def tw5622214749769714538:=()
def tw8273124115467441198:=()
def tw2883972299053597705:=()
def tw6855675438914597004:=()
def tw8793260652737971971:=()
def tw16526871765265430399:=()
def tw4419913160642521170:=()
def tw1963348560512465613:=()
def tw15127205453818974157:=()
def tw1403650810625705277:=()
def tw14075452887454621519:=()
def tw3842435109351468215:=()
def tw2068073360839910624:=()
def tw6207159675174869468:=()
def tw8243184763154212536:=()
def tw2235495809280524109:=()
def tw3564302223663761503:=()
def tw13833969256146392347:=()
def tw14514606061306086972:=()
def tw16789457266023959887:=()
def tw9035557067576281688:=()
def tw10308806444165317521:=()
def tw8208523209015132401:=()
def tw8648266020049526735:=()
def tw6873126498467974358:=()
def tw17917028600280938167:=()
def tw18441691312261495912:=()
def tw13916816829489427644:=()
def tw13164845557676900919:=()
def tw5183019766768655738:=()
def tw14890931932627278973:=()
def tw3543084140332893717:=()
def tw12424753211296637305:=()
def tw13689268642575801649:=()
def tw16007198086853137531:=()
def tw14061510152117932022:=()
def tw9574152317816811962:=()
def tw5082603378069640938:=()
def tw12162965094303171299:=()
def tw2066582194620992172:=()
def tw11901900445712707332:=()
def tw10120712874263689701:=()
def tw15639056528683103312:=()
def tw15813563688114844299:=()
def tw15197125631609494869:=()
def tw6110931190345443256:=()
def tw4135548003151842865:=()
def tw12568617134842826488:=()
def tw14133724834397430656:=()
def tw9748600172900654866:=()
def tw1308387887943699665:=()
def tw1768252725163522752:=()
def tw10935749753702312530:=()
def tw12160292351973429308:=()
def tw4095037413744445065:=()
def tw12983731547918832932:=()
def tw13867807067567285811:=()
def tw1489583839145237100:=()
def tw13746899426396616759:=()
def tw6854018889898661169:=()
def tw175242480909187505:=()
end PySem.W.Fast
set_option genSizeOf false
set_option Elab.async false
set_option linter.all false
set_option maxRecDepth 1000000
section
open PySem PySem.Spec PyProof.Rows
theorem Hk:type_of% @wpAny_bind:=@wpAny_bind
theorem Hl:type_of% @wpAny_pure:=@wpAny_pure
theorem Hm:type_of% @List.length_map:=@List.length_map
theorem Hn:type_of% @List.getElem?_eq_getElem:=@List.getElem?_eq_getElem
theorem Ho:type_of% @Heap.get?_push_of_some:=@Heap.get?_push_of_some
theorem Hq:type_of% @List.getD_eq_getElem?_getD:=@List.getD_eq_getElem?_getD
theorem Hr:type_of% @Nat.le_refl:=@Nat.le_refl
theorem Hs:type_of% @List.getElem?_eq_some_iff:=@List.getElem?_eq_some_iff
theorem Ht:type_of% @List.getElem?_map:=@List.getElem?_map
theorem Hu:type_of% @Heap.lt_size:=@Heap.lt_size
theorem Hv:type_of% @Heap.get?_push_size:=@Heap.get?_push_size
theorem Hw:type_of% @List.mem_map:=@List.mem_map
theorem Hx:type_of% @List.mem_singleton:=@List.mem_singleton
theorem Hy:type_of% @List.mem_cons:=@List.mem_cons
theorem Hz:type_of% @List.mem_of_getElem?:=@List.mem_of_getElem?
theorem HH:type_of% @List.mem_cons_of_mem:=@List.mem_cons_of_mem
theorem HL:type_of% @List.mem_cons_self:=@List.mem_cons_self
theorem HM:type_of% @if_neg:=@if_neg
theorem HN:type_of% @List.length_append:=@List.length_append
theorem HP:type_of% @if_pos:=@if_pos
theorem HQ:type_of% @Nat.ne_of_lt:=@Nat.ne_of_lt
theorem HS:type_of% @List.size_toArray:=@List.size_toArray
theorem HU:type_of% @Array.getElem?_eq_getElem:=@Array.getElem?_eq_getElem
theorem HV:type_of% @List.map_cons:=@List.map_cons
theorem HW:type_of% @List.map_append:=@List.map_append
theorem HX:type_of% @Bool.false_eq_true:=@Bool.false_eq_true
theorem HY:type_of% @List.map_map:=@List.map_map
theorem HZ:type_of% @Nat.le_trans:=@Nat.le_trans
theorem Ia:type_of% @PyProof.Rows.callWith_type1:=@PyProof.Rows.callWith_type1
theorem Ib:type_of% @List.all_eq_true:=@List.all_eq_true
theorem Ic:type_of% @Nat.lt_of_lt_of_le:=@Nat.lt_of_lt_of_le
theorem Ie:type_of% @List.map_congr_left:=@List.map_congr_left
theorem Ig:type_of% @List.length_cons:=rfl
theorem Ih:type_of% @Heap.SameBut.update:=@Heap.SameBut.update
theorem Ii:type_of% @List.mem_append:=@List.mem_append
theorem Ij:type_of% @List.length_take:=@List.length_take
theorem Ik:type_of% @wpAny_call_entry:=@wpAny_call_entry
theorem Il:type_of% @List.not_mem_nil:=@List.not_mem_nil
theorem Im:type_of% @Option.some.inj:=@Option.some.inj
theorem Io:type_of% @wpAny_newObj_type:=@wpAny_newObj_type
theorem Ip:type_of% @List.take_add_one:=@List.take_add_one
theorem Iq:type_of% @List.take_length:=@List.take_length
theorem Ir:type_of% @PassesOwn.never:=@PassesOwn.never
theorem Iu:type_of% @Array.getElem?_toList:=@Array.getElem?_toList
theorem Iw:type_of% @Heap.get?_update_self:=@Heap.get?_update_self
theorem Iy:type_of% @wpAny_holding:=@wpAny_holding
theorem Iz:type_of% @decide_eq_false:=@decide_eq_false
theorem IA:type_of% @sizeLine_eq:=@sizeLine_eq
theorem IB:type_of% @wpAny_callSpecial?_slot:=@wpAny_callSpecial?_slot
theorem IC:type_of% @List.mem_append_right:=@List.mem_append_right
theorem ID:type_of% @decide_eq_true:=@decide_eq_true
theorem IE:type_of% @wpAny_isInstance:=@wpAny_isInstance
theorem IF:type_of% @List.append_nil:=@List.append_nil
theorem IG:type_of% @wpAny_ite_split:=@wpAny_ite_split
theorem IH:type_of% @List.getElem_mem:=@List.getElem_mem
theorem II:type_of% @Array.getElem?_eq_none:=@Array.getElem?_eq_none
theorem IJ:type_of% @List.mem_range:=@List.mem_range
theorem IK:type_of% @Nat.pow_le_pow_right:=@Nat.pow_le_pow_right
theorem IL:type_of% @wpAny_setState_of:=@wpAny_setState_of
theorem IM:type_of% @Around.under_plainId:=@Around.under_plainId
theorem IP:type_of% @Bool.and_eq_true:=@Bool.and_eq_true
theorem IQ:type_of% @List.lookup_cons:=rfl
theorem IS:type_of% @List.find?_cons:=rfl
theorem IT:type_of% @wpAny_Call_Name_kw:=@wpAny_Call_Name_kw
theorem IU:type_of% @if_false:=@if_false
theorem IV:type_of% @List.set_cons_zero:=rfl
theorem IW:type_of% @List.set_cons_succ:=rfl
theorem IX:type_of% @List.length_replicate:=@List.length_replicate
theorem IY:type_of% @List.length_singleton:=rfl
theorem IZ:type_of% @wpAny_field:=@wpAny_field
theorem I0:type_of% @List.mem_filter:=@List.mem_filter
theorem Ja:type_of% @List.forIn_cons:=@List.forIn_cons
theorem Jb:type_of% @Int.ofNat.inj:=@Int.ofNat.inj
theorem Jc:type_of% @beq_eq_false_iff_ne:=@beq_eq_false_iff_ne
theorem Jd:type_of% @Array.length_toList:=rfl
theorem Je:type_of% @codeAny_builtin:=@codeAny_builtin
theorem Jf:type_of% @Bool.not_true:=@Bool.not_true
theorem Jg:type_of% @List.getElem?_append_left:=@List.getElem?_append_left
theorem Jh:type_of% @Bool.false_ne_true:=@Bool.false_ne_true
theorem Ji:type_of% @Heap.size_push:=@Heap.size_push
theorem Jj:type_of% @wpAny_seqItems:=@wpAny_seqItems
theorem Jk:type_of% @List.replicate_succ:=rfl
theorem Jl:type_of% @wpAny_setEntries_of:=@wpAny_setEntries_of
theorem Jm:type_of% @of_decide_eq_true:=@of_decide_eq_true
theorem Jn:type_of% @decide_eq_true_eq:=@decide_eq_true_eq
theorem Jo:type_of% @List.flatMap_cons:=@List.flatMap_cons
theorem Jp:type_of% @Nat.ne_of_gt:=@Nat.ne_of_gt
theorem Jq:type_of% @wpAny_askSetting:=@wpAny_askSetting
theorem Jr:type_of% @List.drop_eq_getElem_cons:=@List.drop_eq_getElem_cons
theorem Js:type_of% @List.filter_eq_self:=@List.filter_eq_self
theorem Jt:type_of% @PySem.F.slot_list_append:=@PySem.F.slot_list_append
theorem Ju:type_of% @PySem.F.type_list_append:=@PySem.F.type_list_append
theorem Jv:type_of% @PySem.boot_len:=@PySem.boot_len
theorem Jw:type_of% @wpAny_specialOf:=@wpAny_specialOf
theorem Jx:type_of% @Array.forIn_toList:=@Array.forIn_toList
theorem Jy:type_of% @List.getElem?_replicate:=@List.getElem?_replicate
theorem Jz:type_of% @List.length_eq_zero_iff:=@List.length_eq_zero_iff
theorem JA:type_of% @F.plain_set_update_loop:=@F.plain_set_update_loop
theorem JB:type_of% @Int.fdiv_eq_ediv_of_nonneg:=@Int.fdiv_eq_ediv_of_nonneg
theorem JC:type_of% @List.getElem?_append_right:=@List.getElem?_append_right
theorem JD:type_of% @wpAny_dictEntries:=@wpAny_dictEntries
theorem JE:type_of% @Bool.not_false:=@Bool.not_false
theorem JF:type_of% @Option.some.injEq:=@Option.some.injEq
theorem JG:type_of% @Nat.zero_le:=@Nat.zero_le
theorem JH:type_of% @List.getElem?_eq_none_iff:=@List.getElem?_eq_none_iff
theorem JI:type_of% @List.getElem?_eq_none:=@List.getElem?_eq_none
theorem JJ:type_of% @builtinLookup_eq_fast:=@builtinLookup_eq_fast
theorem JK:type_of% @or_false:=@or_false
theorem JL:type_of% @Rat.le_of_lt:=@Rat.le_of_lt
theorem JM:type_of% @List.mem_append_left:=@List.mem_append_left
theorem JN:type_of% @List.length_dropLast:=@List.length_dropLast
theorem JO:type_of% @List.forIn_nil:=rfl
theorem JP:type_of% @Nat.mul_le_mul:=@Nat.mul_le_mul
theorem JQ:type_of% @List.flatten_cons:=rfl
theorem JR:type_of% @Nat.lt_succ_of_lt:=@Nat.lt_succ_of_lt
theorem JS:type_of% @wpAny_storeSet_of:=@wpAny_storeSet_of
theorem JT:type_of% @List.length_range:=@List.length_range
theorem JU:type_of% @Int.natCast_dvd_natCast:=@Int.natCast_dvd_natCast
theorem JV:type_of% @wpAny_mono:=@wpAny_mono
theorem JW:type_of% @wpAny_rule:=@wpAny_rule
theorem JX:type_of% @List.length_nil:=rfl
theorem JY:type_of% @List.cons.injEq:=@List.cons.injEq
theorem JZ:type_of% @F.slot_zip_next:=@F.slot_zip_next
theorem J0:type_of% @List.map_nil:=@List.map_nil
theorem J1:type_of% @Nat.succ.inj:=@Nat.succ.inj
theorem J2:type_of% @List.zipWith_cons_cons:=rfl
theorem J3:type_of% @Nat.lt_irrefl:=@Nat.lt_irrefl
theorem J4:type_of% @Nat.succ_ne_zero:=@Nat.succ_ne_zero
theorem J5:type_of% @Nat.le_add_right:=@Nat.le_add_right
theorem J6:type_of% @tupleKind_room_in1:=@tupleKind_room_in1
theorem J7:type_of% @wpAny_setField_rec:=@wpAny_setField_rec
theorem J8:type_of% @List.take_zero:=rfl
theorem J9:type_of% @wpAny_passesOwn:=@wpAny_passesOwn
theorem Ka:type_of% @List.nodup_cons:=@List.nodup_cons
theorem Kb:type_of% @Bool.eq_iff_iff:=@Bool.eq_iff_iff
theorem Kc:type_of% @Int.gcd_dvd_right:=@Int.gcd_dvd_right
theorem Kd:type_of% @Nat.pow_add:=@Nat.pow_add
theorem Ke:type_of% @wpAny_attempt:=@wpAny_attempt
theorem Kf:type_of% @intKind_is:=@intKind_is
theorem Kg:type_of% @if_true:=@if_true
theorem Kh:type_of% @wpAny_setField:=@wpAny_setField
theorem Ki:type_of% @Int.mul_nonneg:=@Int.mul_nonneg
theorem Kj:type_of% @codeAny_mono:=@codeAny_mono
theorem Kk:type_of% @wpAny_typeOf:=@wpAny_typeOf
namespace L2
section
abbrev Key:=Sum Int Str
def jb:Key->Value->Bool
 | .inl k,v=>Value.isInt k v
 | .inr x,v=>Value.isStrOf x v
def E6(w:World):Key->Int
 | .inl k=>hashInt k
 | .inr x=>hashStr w x
theorem aS:∀{k:Key} {v:Value},jb k v=true->(∃i t,k=Sum.inl i/\v=Value.int i t)∨(∃x t,k=Sum.inr x/\v=Value.str x t)
 | .inl i,v,h=>by
  obtain⟨t,e⟩:=Value.isInt_shape (k:=i) (v:=v) h;exact .inl ⟨i,t,rfl,e⟩
 | .inr x,v,h=>by
  obtain⟨t,e⟩:=Value.isStrOf_shape (x:=x) (v:=v) h;exact .inr ⟨x,t,rfl,e⟩
theorem pF(i:Int)(t:Tok):jb (.inl i) (.int i t)=true:=by simp[jb,Value.isInt]
theorem qh(x:Str)(t:Tok):jb (.inr x) (.str x t)=true:=by simp[jb,Value.isStrOf]
theorem Bv(a b:Int):decide ((Sum.inl a:Key)=Sum.inl b)=(a==b):=by
 by_cases e:a=b
 ·subst e;simp
 ·have h:¬(Sum.inl a:Key)=Sum.inl b:=fun q=>e (Sum.inl.inj q);rw[Iz h];exact(Jc.mpr e).symm
theorem A4(a b:Str):decide ((Sum.inr a:Key)=Sum.inr b)=decide (a=b):=by
 by_cases e:a=b
 ·subst e;simp
 ·have h:¬(Sum.inr a:Key)=Sum.inr b:=fun q=>e (Sum.inr.inj q);rw[Iz h,Iz e]
theorem Ax(a:Int)(b:Str):decide ((Sum.inl a:Key)=Sum.inr b)=false:=Iz (fun q=>nomatch q)
theorem BZ(a:Str)(b:Int):decide ((Sum.inr a:Key)=Sum.inl b)=false:=Iz (fun q=>nomatch q)
def aJ(prog:Program)(w:World):PySem.KeyKind prog w Key where
 is:=jb
 hash:=E6 w
 inj:=fun v a b ha hb=>by
  rcases aS ha with⟨i,t,rfl,rfl⟩ |⟨x,t,rfl,rfl⟩
  ·rcases aS hb with⟨j,u,rfl,e⟩ |⟨y,u,rfl,e⟩
   ·injection e with e1 _;rw[e1]
   ·exact nomatch e
  ·rcases aS hb with⟨j,u,rfl,e⟩ |⟨y,u,rfl,e⟩
   ·exact nomatch e
   ·injection e with e1 _;rw[e1]
 byValue:=fun k v h=>by
  rcases aS h with⟨i,t,rfl,rfl⟩ |⟨x,t,rfl,rfl⟩<;>rfl
 pyHash:=fun hv h=>by
  rcases aS hv with⟨i,t,rfl,rfl⟩ |⟨x,t,rfl,rfl⟩
  ·exact wpAny_pyHash_int h
  ·exact wpAny_pyHash_str h
 eqBool:=fun hu hv h=>by
  rcases aS hu with⟨i,t,rfl,rfl⟩ |⟨x,t,rfl,rfl⟩
  ·rcases aS hv with⟨j,u,rfl,rfl⟩ |⟨y,u,rfl,rfl⟩
   ·rw[Bv]at h;exact wpAny_eqBool_int h
   ·rw[Ax]at h;exact SeqAt.EqAt.int_str i t y u _ _ _ _ h
  ·rcases aS hv with⟨j,u,rfl,rfl⟩ |⟨y,u,rfl,rfl⟩
   ·rw[BZ]at h;exact SeqAt.EqAt.str_int x t j u _ _ _ _ h
   ·rw[A4]at h;exact wpAny_eqBool_str h
 «strs»:=fun k x t v h=>by
  rcases aS h with⟨i,u,rfl,e⟩ |⟨y,u,rfl,e⟩
  ·exact nomatch e
  ·injection e with e1 _;subst e1;cases v<;>rfl
theorem lB(prog:Program)(w:World)(i:Int)(t:Tok):(aJ prog w).is (.inl i) (.int i t)=true:=pF i t
theorem kz(prog:Program)(w:World)(x:Str)(t:Tok):(aJ prog w).is (.inr x) (.str x t)=true:=qh x t
end
section
inductive V where
 | non | bl (b:Bool) | int (i:Int) | str (x:Str) | byt (b:Array UInt8) | flt (b:UInt64) | ref (a:Addr) | ty (n:String)
 deriving DecidableEq
def RelV:V->Value->Prop
 | .non,u=>u=Value.none
 | .bl b,u=>u=Value.bool b
 | .int i,u=>∃t,u=Value.int i t
 | .str x,u=>∃t,u=Value.str x t
 | .byt b,u=>∃t,u=Value.bytes b t
 | .flt b,u=>∃t,u=Value.float b t
 | .ref a,u=>u=Value.ref a
 | .ty n,u=>u=Value.type n
abbrev Vals:List V->List Value->Prop:=Paired RelV
theorem Vals.length(r:Vals xs us):xs.length=us.length:=Paired.length r
theorem Vals.get:∀{xs:List V} {us:List Value} {i:Nat} {x:V},Vals xs us->xs[i]?=some x->∃u,us[i]?=some u/\RelV x u
 | _,_,_,_,.nil,e=>by simp at e
 | _,_,0,_,.cons r _,e=>by simp at e;subst e;exact⟨_,rfl,r⟩
 | _,_,i+1,x,.cons _ t,e=>by
  obtain⟨u,h1,h2⟩:=Vals.get (i:=i) (x:=x) t (by simpa using e);exact⟨u,by simpa using h1,h2⟩
theorem Vals.append:∀{xs ys:List V} {us ws:List Value},Vals xs us->Vals ys ws->Vals (xs++ys) (us++ws)
 | _,_,_,_,.nil,s=>s
 | _,_,_,_,.cons r t,s=>.cons r (Vals.append t s)
theorem Vals.take:∀{xs:List V} {us:List Value} (n:Nat),Vals xs us->Vals (xs.take n) (us.take n)
 | _,_,0,_=>.nil
 | _,_,_+1,.nil=>.nil
 | _,_,n+1,.cons r t=>.cons r (Vals.take n t)
theorem Vals.drop:∀{xs:List V} {us:List Value} (n:Nat),Vals xs us->Vals (xs.drop n) (us.drop n)
 | _,_,0,r=>r
 | _,_,_+1,.nil=>.nil
 | _,_,n+1,.cons _ t=>Vals.drop n t
def dC:Option V->Option Value->Prop
 | some v,some u=>RelV v u
 | none,none=>True
 | _,_=>False
def KV{κ:Type}:List (κ×V)->List (κ×Value)->Prop:=Paired fun(p:κ×V) (q:κ×Value)=>p.1=q.1/\RelV p.2 q.2
def kV:Key->V
 | .inl i=>.int i
 | .inr x=>.str x
inductive HO where
  | lst (xs:List V)
  | tup (xs:List V)
  | dK (kvs:List (Key×V)) | dT (kvs:List (List Key×V))
  | set (S:Int->Bool) (n:Nat)
  | ins (C dx:Addr) (fs:List (Str×V))
  | own (x:Addr)
  | xd (fs:List (Str×V))
  | met (f x:Addr)
  | rng (lo hi:Int)
  | frz (o:Obj) (u:HO)
  | tbl (ps:Array Value)
  | ext (φ:Heap->Prop)
abbrev Hp:=Addr->Option HO
def upd(H:Hp)(a:Addr)(o:HO):Hp:=fun b=>if b=a then some o else H b
theorem aE:upd H a o a=some o:=by unfold upd;rw[HP rfl]
theorem ay(h:b≠a):upd H a o b=H b:=by unfold upd;rw[HM h]
theorem tL{H:Hp}(h:H a=some o)(h':H b=some u)(d:o≠u):a≠b:=by
 intro e;subst e;rw[h]at h';exact d (Im h')
theorem az{H:Hp}(h:H a=some o)(h':H b=none):a≠b:=by
 intro e;subst e;rw[h]at h';cases h'
section
variable (P:Program)(w:World)
def aI(H:Hp)(h:Heap)(a:Addr):HO->Prop
 | .lst xs=>xs.length≤sizeLine/\∃(its:List Value) (n:Nat),Vals xs its/\h.get? a=some { cls:=.type "list",data:=.seq its.toArray n }
 | .tup xs=>xs.length≤sizeLine/\∃its:List Value,Vals xs its/\IsTup h a its.toArray
 | .dK kvs=>kvs.length≤sizeLine/\(a==sysModules)=false/\∃vs,KV kvs vs/\h.DictOf (aJ P w) a vs
 | .dT kvs=>kvs.length≤sizeLine/\(a==sysModules)=false/\∃xs:List (List Key×Addr×Value),
   Paired (fun(p:List Key×V) (q:List Key×Addr×Value)=>p.1=q.1/\H q.2.1=some (.tup (p.1.map kV))/\RelV p.2 q.2.2) kvs xs /\
   ∃o es ep,h.get? a=some o/\o.ExactDict/\o.data=.dict es ep/\es.toList=xs.map (entryOfKey (tupleKind (aJ P w)))/\(xs.map (·.1)).Nodup
 | .set S n=>h.SetOf (intKind P w) a S n
 | .ins C dx fs=>H dx=some (.own a)/\fs.length≤1000/\dx≠a/\h.get? a=some (PySem.W.instObj C dx) /\
   ∃mA,h.Ns1 dx mA/\(∀f,dC (fs.lookup f) (mA f))/\PySem.Within mA (fs.map (·.1))
 | .own _=>∃o,h.get? a=some o
 | .xd fs=>∃mA,h.Ns1 a mA/\∀f,dC (fs.lookup f) (mA f)
 | .rng lo hi=>∃t u v,h.get? a=some { cls:=.type "range",data:=.fields #[.int lo t,.int hi u,.int 1 v] }
 | .frz o u=>h.get? a=some o/\aI H h a u
 | .tbl ps=>h.get? a=some { cls:=.none,data:=.fields ps }
 | .met f x=>h.get? a=some (PySem.W.methodObj (.ref f) (.ref x))
 | .ext φ=>φ h/\(∃o,h.get? a=some o)/\∀h1 h2:Heap,φ h1->(∀o,h1.get? a=some o->h2.get? a=some o)->φ h2
def HOk(H:Hp)(h:Heap):Prop:=∀a o,H a=some o->aI P w H h a o
end
section
variable {P:Program}{w:World}{H H':Hp}{h h':Heap}{a:Addr}{o:HO}
theorem aI.lt(x:aI P w H h a o):a<h.objs.size:=by
 cases o with
 | lst xs=>obtain⟨_,_,_,_,e⟩:=x;exact Hu e
 | tup xs=>obtain⟨_,_,_,p⟩:=x;exact p.lt
 | dK kvs=>obtain⟨_,_,_,_,o,_,_,e,_⟩:=x;exact Hu e
 | dT kvs=>obtain⟨_,_,_,_,o,_,_,e,_⟩:=x;exact Hu e
 | set S n=>obtain⟨o,_,_,_,e,_⟩:=x;exact Hu e
 | ins C dx fs=>obtain⟨_,_,_,e,_⟩:=x;exact Hu e
 | own y=>obtain⟨_,e⟩:=x;exact Hu e
 | xd fs=>obtain⟨_,⟨_,_,_,e,_⟩,_⟩:=x;exact Hu e
 | rng lo hi=>obtain⟨_,_,_,e⟩:=x;exact Hu e
 | frz ob u=>obtain⟨e,_⟩:=x;exact Hu e
 | tbl ps=>exact Hu (show h.get? a=some _ from x)
 | met f y=>exact Hu (show h.get? a=some _ from x)
 | ext φ=>obtain⟨_,⟨_,e⟩,_⟩:=x;exact Hu e
theorem Paired.mapP{α β:Type}{F G:α->β->Prop}:∀{l₁:List α} {l₂:List β},Paired F l₁ l₂->(∀a b,F a b->G a b)->Paired G l₁ l₂
 | _,_,.nil,_=>.nil
 | _,_,.cons r t,f=>.cons (f _ _ r) (Paired.mapP t f)
theorem aI.stay(x:aI P w H h a o)(k:∀b u,(b=a∨H b=some (.own a))->h.get? b=some u->h'.get? b=some u)
  (ho:∀b,H b=some (.own a)->H' b=some (.own a)) (ht:∀b xs,H b=some (.tup xs)->H' b=some (.tup xs)):aI P w H' h' a o:=by
 induction o with
 | lst xs=>obtain⟨z,its,n,r,e⟩:=x;exact⟨z,its,n,r,k _ _ (.inl rfl) e⟩
 | tup xs=>obtain⟨z,its,r,ob,e,c⟩:=x;exact⟨z,its,r,ob,k _ _ (.inl rfl) e,c⟩
 | dK kvs=>obtain⟨z,y,vs,r,ob,es,ep,e,c⟩:=x;exact⟨z,y,vs,r,ob,es,ep,k _ _ (.inl rfl) e,c⟩
 | dT kvs =>
  obtain⟨z,y,xs,r,ob,es,ep,e,c⟩:=x;exact⟨z,y,xs,Paired.mapP r fun p q z=>⟨z.1,ht _ _ z.2.1,z.2.2⟩,ob,es,ep,k _ _ (.inl rfl) e,c⟩
 | set S n=>obtain⟨ob,es,ep,t,e,c⟩:=x;exact⟨ob,es,ep,t,k _ _ (.inl rfl) e,c⟩
 | ins C dx fs =>
  obtain⟨d,z,ne,e,mA,⟨od,es,ep,e2,c⟩,r⟩:=x;exact⟨ho _ d,z,ne,k _ _ (.inl rfl) e,mA,⟨od,es,ep,k _ _ (.inr d) e2,c⟩,r⟩
 | own y=>obtain⟨ob,e⟩:=x;exact⟨ob,k _ _ (.inl rfl) e⟩
 | xd fs=>obtain⟨mA,⟨od,es,ep,e,c⟩,r⟩:=x;exact⟨mA,⟨od,es,ep,k _ _ (.inl rfl) e,c⟩,r⟩
 | rng lo hi=>obtain⟨t,u,v,e⟩:=x;exact⟨t,u,v,k _ _ (.inl rfl) e⟩
 | frz ob u ih=>obtain⟨e,q⟩:=x;exact⟨k _ _ (.inl rfl) e,ih q⟩
 | tbl ps =>
  have e:h.get? a=some { cls:=.none,data:=.fields ps }:=x;show h'.get? a=some { cls:=.none,data:=.fields ps };exact k a _ (.inl rfl) e
 | met f y =>
  have e:h.get? a=some (PySem.W.methodObj (.ref f) (.ref y)):=x;show h'.get? a=some (PySem.W.methodObj (.ref f) (.ref y));exact k a _ (.inl rfl) e
 | ext φ=>obtain⟨p,⟨o,e⟩,st⟩:=x;exact⟨st _ _ p fun o q=>k _ _ (.inl rfl) q,⟨o,k _ _ (.inl rfl) e⟩,st⟩
theorem HOk.lt(x:HOk P w H h)(e:H a=some o):a<h.objs.size:=(x a o e).lt
theorem HOk.fresh(x:HOk P w H h)(e:h.objs.size≤a):H a=none:=by
 cases q:H a with
 | none=>rfl
 | some u=>exact absurd (Ic (x.lt q) e) (J3 _)
theorem HOk.kept(x:HOk P w H h)(k:∀b u,h.get? b=some u->h'.get? b=some u):HOk P w H h':=fun a o e =>
 (x a o e).stay (fun b u _ q=>k b u q) (fun _ q=>q) fun _ _ q=>q
theorem HOk.laid(x:HOk P w H h)(k:∀b u,h.get? b=some u->h'.get? b=some u)(hp:h.objs.size≤a)(new:aI P w (upd H a o) h' a o):HOk P w (upd H a o) h':=fun b u e=>by
 have hn:=x.fresh hp;by_cases hb:b=a
 ·subst hb;rw[aE]at e;cases e;exact new
 ·rw[ay hb]at e;exact(x b u e).stay (fun c v _ q=>k c v q) (fun c q=>by rw[ay (az q hn)];exact q) fun c xs q=>by rw[ay (az q hn)];exact q
end
def Rd(H:Hp)(a:Addr)(u:HO):Prop:=H a=some u∨∃o,H a=some (.frz o u)
theorem Rd.ok(r:Rd H a u)(x:HOk P w H h):aI P w H h a u:=by
 rcases r with r |⟨o,r⟩
 ·exact x a u r
 ·obtain⟨_,q⟩:=x a _ r;exact q
def Mut:Option HO->Prop
 | some (.lst _)=>True
 | some (.dK _)=>True
 | some (.dT _)=>True
 | some (.set _ _)=>True
 | some (.ins _ _ _)=>True
 | some (.ext _)=>True
 | _=>False
section
variable {P:Program}{w:World}{H:Hp}{h h':Heap}{x e:Addr}{o':HO}
theorem HOk.write(ok:HOk P w H h)(mu:Mut (H x))(he:e=x∨H e=some (.own x))(k:∀b u,b≠e->h.get? b=some u->h'.get? b=some u)(heo:∃u,h'.get? e=some u)
  (new:aI P w (upd H x o') h' x o'):HOk P w (upd H x o') h':=fun b u q=>by
 have nown:∀c y,H c=some (.own y)->c≠x:=fun c y r z=>by subst z;rw[r]at mu;exact mu
 have ntup:∀c xs,H c=some (.tup xs)->c≠x:=fun c xs r z=>by subst z;rw[r]at mu;exact mu
 by_cases hb:b=x
 ·subst hb;rw[aE]at q;cases q;exact new
 ·rw[ay hb]at q;by_cases hbe:b=e
  ·have q':H b=some (.own x):=by
    rcases he with z | z
    ·exact absurd (hbe.trans z) hb
    ·rw[hbe];exact z
   rw[q]at q';cases q';obtain⟨v,hv⟩:=heo;exact⟨v,by rw[hbe];exact hv⟩
  ·refine(ok b u q).stay (fun c v hc r=>k c v ?_ r) (fun c r=>by rw[ay (nown c b r)];exact r) fun c xs r=>by rw[ay (ntup c xs r)];exact r
   rcases hc with rfl | hc
   ·exact hbe
   ·rintro rfl;rcases he with z | z
    ·exact nown c b hc z
    ·rw[hc]at z;cases z;exact hb rfl
end
structure Un (fs ex:List Addr) (H H':Hp) (h h':Heap):Prop where
 keep:∀b o,h.get? b=some o->H b=none->b∉fs->b∉ex->h'.get? b=some o
 slot:∀b o,h.get? b=some o->H b=none->b∈fs->b∉ex->∃sl,h'.get? b=some { o with slots:=sl }
 free:∀b o,h.get? b=some o->H b=none->b∉ex->H' b=none
 there:∀b o,h.get? b=some o->b∉ex->∃o',h'.get? b=some o'
 tups:∀b xs,H b=some (.tup xs)->H' b=some (.tup xs)
 frzs:∀b o u,H b=some (.frz o u)->H' b=some (.frz o u)
 tbls:∀b ps,H b=some (.tbl ps)->∃more,H' b=some (.tbl (ps++more))
section
variable {fs fs' ex ex':List Addr}{H H1 H2:Hp}{h h1 h2 h':Heap}{a x e:Addr}{o:HO}
theorem Un.any(u:Un fs ex H H1 h h1){b:Addr}{ob:Obj}(q:h.get? b=some ob)(n:H b=none)(hx:b∉ex):∃sl,h1.get? b=some { ob with slots:=sl }:=by
 by_cases hb:b∈fs
 ·exact u.slot b ob q n hb hx
 ·exact⟨ob.slots,u.keep b ob q n hb hx⟩
theorem Un.kept(k:∀b u,h.get? b=some u->h'.get? b=some u):Un fs ex H H h h' :=
 ⟨fun b ob q _ _ _=>k b ob q,fun b ob q _ _ _=>⟨ob.slots,k b ob q⟩,fun _ _ _ n _=>n,fun b ob q _=>⟨ob,k b ob q⟩,fun _ _ q=>q,fun _ _ _ q=>q,fun _ ps q=>⟨#[],by rw[q];simp⟩⟩
theorem Un.refl:Un fs ex H H h h:=Un.kept fun _ _ q=>q
theorem Un.laid(k:∀b u,h.get? b=some u->h'.get? b=some u)(hp:h.objs.size≤a)(hn:H a=none):Un fs ex H (upd H a o) h h' where
 keep:=fun b u q _ _ _=>k b u q
 slot:=fun b u q _ _ _=>⟨u.slots,k b u q⟩
 free:=fun b u q n _=>by rw[ay (HQ (Ic (Hu q) hp))];exact n
 there:=fun b u q _=>⟨u,k b u q⟩
 tups:=fun b xs q=>by rw[ay (az q hn)];exact q
 frzs:=fun b u xs q=>by rw[ay (az q hn)];exact q
 tbls:=fun b ps q=>⟨#[],by rw[ay (az q hn),q];simp⟩
theorem Un.write(mu:Mut (H x))(he:e=x∨H e=some (.own x))(k:∀b u,b≠e->h.get? b=some u->h'.get? b=some u)(heo:∃u,h'.get? e=some u):Un fs ex H (upd H x o) h h':=by
 have hx:∀b,H b=none->b≠x:=fun b n z=>by subst z;rw[n]at mu;exact mu
 have hb:∀b,H b=none->b≠e:=fun b n z=>by
  subst z;rcases he with r | r
  ·exact hx b n r
  ·rw[n]at r;cases r
 have hm:∀b u,H b=some u->¬Mut (some u)->b≠x:=fun b u q nm z=>by subst z;rw[q]at mu;exact nm mu
 refine⟨fun b u q n _ _=>k b u (hb b n) q,fun b u q n _ _=>⟨u.slots,k b u (hb b n) q⟩,fun b u q n _=>by rw[ay (hx b n)];exact n,fun b u q _=>?_,
  fun b xs q=>by rw[ay (hm b _ q fun z=>z)];exact q,fun b u xs q=>by rw[ay (hm b _ q fun z=>z)];exact q,fun b ps q=>⟨#[],by rw[ay (hm b _ q fun z=>z),q];simp⟩⟩
 by_cases hbe:b=e
 ·subst hbe;exact heo
 ·exact⟨u,k b u hbe q⟩
end
def trk(h:Heap)(H:Hp):List Addr:=(List.range h.objs.size).filter fun a=>(H a).isSome
def jF(h:Heap)(H:Hp):Heap:=PySem.W.hideAll h (trk h H)
theorem pS(h:Heap)(H:Hp):(jF h H).objs.size=h.objs.size:=PySem.W.hideAll_size _ _
theorem uk(e:h.get? b=some o)(n:H b=none):(jF h H).get? b=some o :=
 PySem.W.hideAll_get _ e fun hm=>by
  have q:(H b).isSome=true:=(I0.mp hm).2;rw[n]at q;simp at q
theorem wH(e:(jF h H).get? b=some o):h.get? b=some o/\H b=none:=by
 have e':h.get? b=some o:=PySem.W.of_hideAll (trk h H) e;refine⟨e',?_⟩;cases q:H b with
 | none=>rfl
 | some x =>
  have hm:b∈trk h H:=I0.mpr ⟨IJ.mpr (Hu e'),by simp[q]⟩;have z:(jF h H).get? b=none:=PySem.W.hideAll_none (trk h H) hm;rw[z]at e;cases e
def wR(g h:Heap)(L:Addr):List (Addr×Obj):=(List.range h.objs.size).filterMap fun a=>if a=L∨(g.get? a).isSome=true then none else(h.get? a).map fun o=>(a,o)
def rest(g h:Heap)(L d:Addr):List (Addr×Obj):=(wR g h L).filter fun p=>decide (p.1≠d)
end
section
structure Mod (K:PySem.W.Frag) (mg:Str→Option Value) (base:Heap):Prop where
 kin:K.In base
 glob:base.Ns mainGlobals mg
 blt:∃mb,base.Ns builtinsNs mb/\∀x:Str,x≠"__name__"->mb x=bootBuiltins x
 nolimit:base.NoLimit
structure Cx where
 prog:Program
 w:World
 K:PySem.W.Frag
 mg:Str->Option Value
 base:Heap
 A:Around
 N:List Str
 s₀:Shared
 H₀:Hp
 env:Env
 outer:List Env
 stack:List Env
 ex:List Addr
 fn:Str->Bool
 calm:Bool
 pn:List (Addr×Obj)
 xe:Value->Shared->Prop
def frs(l:List Env):List Addr:=l.filterMap (·.frame)
abbrev Cx.fs(X:Cx):List Addr:=frs X.outer
def Vis(sc:Scope)(x:Str):Prop:=sc.names.lookup x=some .local∨sc.names.lookup x=some .cell∨sc.names.lookup x=some .free
def Loc(sc:Scope)(x:Str):Prop:=sc.names.lookup x=some .local∨sc.names.lookup x=some .cell
def Look(env:Env)(h:Heap)(m:Str->Option Value)(x:Str)(u:Value):Prop :=
 (env.kindOf x=some .local/\m x=some u)∨((env.kindOf x=some .cell∨env.kindOf x=some .free)/\∃c,env.cells.lookup x=some c/\h.IsCell c (some u))
structure Cx.Ok (X:Cx):Prop where
 mod:Mod X.K X.mg X.base
 kind:X.env.scope.kind=.function
 glob:X.env.globals=mainGlobals
 blt:X.env.builtins=builtinsNs
 above:X.s₀.heap.objs.size≤X.env.locals
 inj:∀x y c,X.env.cells.lookup x=some c->X.env.cells.lookup y=some c->x=y
 has:∀x,(X.env.kindOf x=some .cell∨X.env.kindOf x=some .free)->∃c,X.env.cells.lookup x=some c
 cab:∀x c,X.fn x=true->X.env.cells.lookup x=some c->X.s₀.heap.objs.size≤c
 hd:X.calm=true->X.A.handled=none
 frames:X.A.frames=some X.stack
 stk:X.stack=X.outer∨(X.stack=X.env::X.outer/\X.env.frame=some X.env.locals)
 exf:∀b∈X.ex,b≠X.env.locals/\∀x c,X.env.cells.lookup x=some c->c≠b
 bs:∀b o,X.base.get? b=some o->X.s₀.heap.get? b=some o/\X.H₀ b=none
 bsz:X.base.objs.size≤X.s₀.heap.objs.size
 noex:∀b o,X.base.get? b=some o->b∉X.ex
 exfs:∀b∈X.ex,b∉X.fs
 funs:X.s₀.heap.FunFrames X.base X.outer
 frf:∀b∈X.fs,X.H₀ b=none
structure Inv (X:Cx) (pins:List (Addr × Obj)) (σ:List (Option V)) (H:Hp) (s:Shared):Prop where
 ok:X.Ok
 os:s.os=X.s₀.os
 bare:AllBare s.gens
 base:Un X.fs X.ex X.H₀ H X.s₀.heap s.heap
 loc:∃m,s.heap.Ns X.env.locals m/\∀(i:Nat) (x:Str) (v:V),X.N[i]?=some x->σ[i]?=some (some v)->Vis X.env.scope x->∃u,RelV v u/\Look X.env s.heap m x u
 cell:∀x c,X.env.cells.lookup x=some c->∃v,s.heap.IsCell c v
 free:H X.env.locals=none
 freeC:∀x c,X.env.cells.lookup x=some c->H c=none
 pin:∀p∈X.pn++pins,s.heap.get? p.1=some p.2/\H p.1=none/\p.1≠X.env.locals/\p.1∉X.fs/\∀v,p.2.data≠.cell v
 hok:HOk X.prog X.w H s.heap
 len:σ.length=X.N.length
section
variable {X:Cx}{pins:List (Addr×Obj)}{σ:List (Option V)}{H H':Hp}{s:Shared}{h':Heap}
theorem Cx.Ok.nofr(ok:X.Ok){b:Addr}{o:Obj}(e:X.base.get? b=some o):b∉X.fs:=fun hb=>by
 have:=(ok.funs.mem hb).1;rw[e]at this;cases this
theorem Inv.bs(I:Inv X pins σ H s):∀b o,X.base.get? b=some o->s.heap.get? b=some o/\H b=none:=fun b o e =>
 ⟨I.base.keep b o (I.ok.bs b o e).1 (I.ok.bs b o e).2 (I.ok.nofr e) (I.ok.noex b o e),I.base.free b o (I.ok.bs b o e).1 (I.ok.bs b o e).2 (I.ok.noex b o e)⟩
theorem Inv.bk(I:Inv X pins σ H s):∀b o,X.base.get? b=some o->s.heap.get? b=some o:=fun b o e=>(I.bs b o e).1
theorem Inv.mod(I:Inv X pins σ H s):Mod X.K X.mg X.base:=I.ok.mod
theorem Inv.kIn(I:Inv X pins σ H s):X.K.In s.heap:=I.ok.mod.kin.keeps I.bk
theorem Inv.lt(I:Inv X pins σ H s):X.env.locals<s.heap.objs.size:=let ⟨_,hn,_⟩:=I.loc;hn.lt
theorem Inv.sz(I:Inv X pins σ H s):X.s₀.heap.objs.size≤s.heap.objs.size:=HZ I.ok.above (Nat.le_of_lt I.lt)
theorem Inv.nofs(I:Inv X pins σ H s){a:Addr}(h:s.heap.objs.size≤a):a∉X.fs:=fun hb=>by
 obtain⟨_,o,ho,_⟩:=I.ok.funs.mem hb;exact absurd (Ic (Hu ho) (HZ I.sz h)) (J3 _)
theorem Inv.cne(I:Inv X pins σ H s):∀x c,X.env.cells.lookup x=some c->c≠X.env.locals:=fun x c e z=>by
 obtain⟨v,o,ho,hd⟩:=I.cell x c e;obtain⟨m,⟨o',es,ep,ho',hd',_⟩,_⟩:=I.loc;rw[z,ho']at ho;cases ho;rw[hd']at hd;cases hd
theorem Inv.funs(I:Inv X pins σ H s):s.heap.FunFrames X.base X.outer:=by
 have all:∀(l:List Env),(∀b∈frs l,b∈X.fs)->X.s₀.heap.FunFrames X.base l->s.heap.FunFrames X.base l:=by
  intro l
  induction l with
  | nil=>intro _ _;trivial
  | cons env r ih =>
   intro hs hl;obtain⟨hk,⟨L,o,hf,hn,ho,hd⟩,hr⟩:=hl;have hL:L∈X.fs:=hs L (by unfold frs;rw[List.filterMap_cons,hf];exact HL);obtain⟨sl,e⟩:=I.base.slot L o ho (I.ok.frf L hL) hL fun z=>I.ok.exfs L z hL;exact⟨hk,⟨L,_,hf,hn,e,hd⟩,ih (fun b hb=>hs b (by unfold frs;rw[List.filterMap_cons,hf];exact HH _ hb)) hr⟩
 exact all X.outer (fun _ hb=>hb) I.ok.funs
theorem Inv.stack(I:Inv X pins σ H s):s.heap.FunFrames X.base X.stack:=by
 rcases I.ok.stk with e |⟨e,hf⟩
 ·rw[e];exact I.funs
 ·rw[e];obtain⟨m,hn,_⟩:=I.loc;refine .cons (by rw[I.ok.kind];decide) hf hn ?_ I.funs;exact Heap.get?_none_of_le (HZ I.ok.bsz I.ok.above)
theorem Inv.stkSub(I:Inv X pins σ H s):∀b∈frs X.stack,b∈X.env.locals::X.fs:=fun b hb=>by
 rcases I.ok.stk with e |⟨e,hf⟩
 ·rw[e]at hb;exact HH _ hb
 ·rw[e]at hb;unfold frs at hb;rw[List.filterMap_cons,hf]at hb;exact hb
theorem Inv.stkFree(I:Inv X pins σ H s):∀b∈frs X.stack,H b=none:=fun b hb=>by
 rcases Hy.mp (I.stkSub b hb)with e | hb
 ·rw[e];exact I.free
 ·obtain⟨_,o,ho,_⟩:=I.ok.funs.mem hb;exact I.base.free b o ho (I.ok.frf b hb) fun z=>I.ok.exfs b z hb
theorem Inv.step{ch:List Addr}(I:Inv X pins σ H s)
  (hch:∀b∈ch,(b∈X.ex∨X.s₀.heap.objs.size≤b)/\b≠X.env.locals/\(∀x c,X.env.cells.lookup x=some c->c≠b)/\∀p∈X.pn++pins,p.1≠b)
  (keep:∀b o,b≠X.env.locals->b∉X.fs->b∉ch->s.heap.get? b=some o->H b=none->h'.get? b=some o)
  (slot:∀b o,b≠X.env.locals->b∈X.fs->b∉ch->s.heap.get? b=some o->H b=none->∃sl,h'.get? b=some { o with slots:=sl }) (free:∀b o,b∉ch->s.heap.get? b=some o->H b=none->H' b=none)
  (there:∀b o,b∉ch->s.heap.get? b=some o->∃o',h'.get? b=some o')
  (tups:∀b xs,H b=some (.tup xs)->H' b=some (.tup xs)) (frzs:∀b o u,H b=some (.frz o u)->H' b=some (.frz o u)) (tbls:∀b ps,H b=some (.tbl ps)->∃more,H' b=some (.tbl (ps++more)))
  (ns:∀m,s.heap.Ns X.env.locals m->h'.Ns X.env.locals m) (hok:HOk X.prog X.w H' h') (hg:AllBare g') :
  Inv X pins σ H' { s with heap:=h',gens:=g',drawn:=d',toks:=t' }:=by
 have neL:∀b o,X.s₀.heap.get? b=some o->b≠X.env.locals:=fun b o e=>HQ (Ic (Hu e) I.ok.above);have neC:∀b o,X.s₀.heap.get? b=some o->b∉X.ex->b∉ch:=fun b o e hx hb=>by
  rcases (hch b hb).1 with z | z
  ·exact hx z
  ·exact absurd (Ic (Hu e) z) (J3 _)
 have cellK:∀x c,X.env.cells.lookup x=some c->∀v,s.heap.IsCell c v->h'.IsCell c v:=fun x c e v y_=>by
  obtain⟨o,ho,hd⟩:=y_;have nch:c∉ch:=fun z=>(hch c z).2.2.1 x c e rfl;by_cases hc:c∈X.fs
  ·obtain⟨sl,q⟩:=slot c o (I.cne x c e) hc nch ho (I.freeC x c e);exact⟨_,q,hd⟩
  ·exact⟨o,keep c o (I.cne x c e) hc nch ho (I.freeC x c e),hd⟩
 refine⟨I.ok,I.os,hg,⟨fun b o e n hb hx=>?_,fun b o e n hb hx=>?_,fun b o e n hx=>?_,fun b o e hx=>?_,fun b xs e=>tups b xs (I.base.tups b xs e),fun b o xs e=>frzs b o xs (I.base.frzs b o xs e),fun b ps e=>?_⟩,?_,fun x c e=>?_,?_,fun x c e=>?_,fun p hp=>?_,hok,I.len⟩
 ·exact keep b o (neL b o e) hb (neC b o e hx) (I.base.keep b o e n hb hx) (I.base.free b o e n hx)
 ·obtain⟨sl,e1⟩:=I.base.slot b o e n hb hx;obtain⟨sl',e2⟩:=slot b _ (neL b o e) hb (neC b o e hx) e1 (I.base.free b o e n hx);exact⟨sl',e2⟩
 ·obtain⟨o',e1⟩:=I.base.there b o e hx;exact free b o' (neC b o e hx) e1 (I.base.free b o e n hx)
 ·obtain⟨o',e1⟩:=I.base.there b o e hx;exact there b o' (neC b o e hx) e1
 ·obtain⟨m1,e1⟩:=I.base.tbls b ps e;obtain⟨m2,e2⟩:=tbls b _ e1;exact⟨m1++m2,by rw[e2,Array.append_assoc]⟩
 ·obtain⟨m,hn,hl⟩:=I.loc;refine⟨m,ns m hn,fun i x v e1 e2 e3=>?_⟩;obtain⟨u,r,l⟩:=hl i x v e1 e2 e3;refine⟨u,r,?_⟩;rcases l with l |⟨k,c,e,z⟩
  ·exact .inl l
  ·exact .inr ⟨k,c,e,cellK x c e _ z⟩
 ·obtain⟨v,z⟩:=I.cell x c e;exact⟨v,cellK x c e v z⟩
 ·obtain⟨m,⟨o,_,_,ho,_⟩,_⟩:=I.loc;exact free _ o (fun z=>(hch _ z).2.1 rfl) ho I.free
 ·obtain⟨v,o,ho,hd⟩:=I.cell x c e;exact free c o (fun z=>(hch c z).2.2.1 x c e rfl) ho (I.freeC x c e)
 ·obtain⟨e,n,ne,nf,d⟩:=I.pin p hp;have nch:p.1∉ch:=fun z=>(hch p.1 z).2.2.2 p hp rfl;exact⟨keep p.1 p.2 ne nf nch e n,free p.1 p.2 nch e n,ne,nf,d⟩
theorem Inv.un(I:Inv X pins σ H s)(u:Un X.fs [] H H' s.heap h')(hok:HOk X.prog X.w H' h'):Inv X pins σ H' { s with heap:=h',toks:=t' }:=by
 obtain⟨m,⟨o,es,ep,ho,r⟩,_⟩:=id I.loc;obtain⟨sl,hL⟩:=u.any ho I.free (by simp);exact I.step (g':=s.gens) (d':=s.drawn) (ch:=[]) (fun _ z=>nomatch z) (fun b o _ hb _ e n=>u.keep b o e n hb (by simp)) (fun b o _ hb _ e n=>u.slot b o e n hb (by simp)) (fun b o _ e n=>u.free b o e n (by simp)) (fun b o _ e=>u.there b o e (by simp)) u.tups u.frzs u.tbls (fun m' hm=>by
  obtain⟨o',es',ep',ho',r'⟩:=hm;rw[ho]at ho';cases ho';exact⟨_,es',ep',hL,r'⟩) hok I.bare
theorem Inv.call(I:Inv X pins σ H s)(u:Un (frs X.stack) ch H H' s.heap h')(hok:HOk X.prog X.w H' h')(hg:AllBare g')
  (hch:∀b∈ch,(b∈X.ex∨X.s₀.heap.objs.size≤b)/\b≠X.env.locals/\(∀x c,X.env.cells.lookup x=some c->c≠b)/\∀p∈X.pn++pins,p.1≠b) :
  Inv X pins σ H' { s with heap:=h',gens:=g',drawn:=d',toks:=t' }:=by
 obtain⟨m,⟨o,es,ep,ho,r⟩,_⟩:=id I.loc;obtain⟨sl,hL⟩:=u.any ho I.free fun z=>(hch _ z).2.1 rfl;exact I.step (ch:=ch) hch (fun b o hL hb hc e n=>u.keep b o e n (fun z=>(Hy.mp (I.stkSub b z)).elim hL hb) hc) (fun b o _ _ hc e n=>u.any e n hc) (fun b o hc e n=>u.free b o e n hc) (fun b o hc e=>u.there b o e hc) u.tups u.frzs u.tbls (fun m' hm=>by
  obtain⟨o',es',ep',ho',r'⟩:=hm;rw[ho]at ho';cases ho';exact⟨_,es',ep',hL,r'⟩) hok hg
theorem Inv.turned(I:Inv X pins σ H s)(k:∀b o,b≠it->s.heap.get? b=some o->h'.get? b=some o)(hn:H it=none)(hL:it≠X.env.locals)
  (h1:it∈X.ex∨X.s₀.heap.objs.size≤it) (h2:∀x c,X.env.cells.lookup x=some c->c≠it) (h3:∀p∈X.pn++pins,p.1≠it):Inv X pins σ H { s with heap:=h',toks:=t' }:=by
 have nit:∀b u,H b=some u->b≠it:=fun b u e z=>by rw[z,hn]at e;cases e
 refine I.step (g':=s.gens) (d':=s.drawn) (ch:=[it]) (fun b hb=>?_) (fun b o _ _ hc e _=>k b o (fun z=>hc (by simp[z])) e) (fun b o _ _ hc e _=>⟨o.slots,k b o (fun z=>hc (by simp[z])) e⟩) (fun _ _ _ _ n=>n)
  (fun b o hc e=>⟨o,k b o (fun z=>hc (by simp[z])) e⟩) (fun _ _ e=>e) (fun _ _ _ e=>e) (fun b ps e=>⟨#[],by rw[e];simp⟩) (fun m hm=>?_) (fun b u e=>?_) I.bare
 ·have e:b=it:=by simpa using hb
  subst e;exact⟨h1,hL,h2,h3⟩
 ·obtain⟨o,es,ep,ho,r⟩:=hm;exact⟨o,es,ep,k _ o (Ne.symm hL) ho,r⟩
 ·refine(I.hok b u e).stay (fun c v hc q=>k c v ?_ q) (fun _ q=>q) fun _ _ q=>q;rcases hc with z | z
  ·rw[z];exact nit b u e
  ·exact nit c _ z
theorem Inv.tok(I:Inv X pins σ H s)(t:Nat):Inv X pins σ H { s with toks:=t }:=I.un (h':=s.heap) (t':=t) Un.refl I.hok
theorem Inv.kept(I:Inv X pins σ H s)(k:∀b u,s.heap.get? b=some u->h'.get? b=some u):Inv X pins σ H { s with heap:=h',toks:=t' }:=I.un (Un.kept k) (I.hok.kept k)
theorem Inv.laid{a:Addr}(I:Inv X pins σ H s)(k:∀b u,s.heap.get? b=some u->h'.get? b=some u)(hp:s.heap.objs.size≤a)(new:aI X.prog X.w (upd H a o) h' a o) :
  Inv X pins σ (upd H a o) { s with heap:=h',toks:=t' }:=I.un (Un.laid k hp (I.hok.fresh hp)) (I.hok.laid k hp new)
theorem Inv.write(I:Inv X pins σ H s)(mu:Mut (H x))(he:e=x∨H e=some (.own x))(k:∀b u,b≠e->s.heap.get? b=some u->h'.get? b=some u)(heo:∃u,h'.get? e=some u)
  (new:aI X.prog X.w (upd H x o) h' x o):Inv X pins σ (upd H x o) { s with heap:=h',toks:=t' }:=I.un (Un.write mu he k heo) (I.hok.write mu he k heo new)
theorem Inv.pins_of(I:Inv X pins σ H s)(h:∀p∈pins',s.heap.get? p.1=some p.2/\H p.1=none/\p.1≠X.env.locals/\p.1∉X.fs/\∀v,p.2.data≠.cell v):Inv X pins' σ H s :=
 ⟨I.ok,I.os,I.bare,I.base,I.loc,I.cell,I.free,I.freeC,fun p hp=>(Ii.mp hp).elim (fun z=>I.pin p (JM _ z)) (h p),I.hok,I.len⟩
theorem kG{N:List Str}(hN:N.Nodup){i j:Nat}{x:Str}(a:N[i]?=some x)(b:N[j]?=some x):i=j:=by
 obtain⟨h1,e1⟩:=Hs.mp a;obtain⟨h2,e2⟩:=Hs.mp b;exact(List.getElem_inj hN).mp (e1.trans e2.symm)
theorem jo{M:Model}{A:Around}{E:Value->Shared->Prop}{i:Nat}{x:Str}{v:V}{u:Value}{Q:Unit->Shared->Prop}(I:Inv X pins σ H s)(hN:X.N.Nodup)(hi:X.N[i]?=some x)(hx:Loc X.env.scope x)(r:RelV v u)
  (h:∀s',Inv X pins (σ.set i (some v)) H s'->(∃a,Heap.SameBut a s.heap s'.heap/\(a=X.env.locals∨X.env.cells.lookup x=some a))->Q () s') (hf:X.fn x=true∨X.env.scope.names.lookup x=some .local:=by first | exact .inl rfl | exact .inr rfl | assumption):wpAny M A (storeName X.env x u) Q E s:=by
 obtain⟨m,hn,hl⟩:=id I.loc;have hcls:(X.env.scope.kind==.class||(X.env.scope.kind==.module&&X.env.locals !=X.env.globals))=false:=by rw[I.ok.kind];rfl
 have hiσ:i<σ.length:=by rw[I.len];exact(Hs.mp hi).1
 have cne:=I.cne;have tracked:∀{a:Addr} {h':Heap},(∃o,s.heap.get? a=some o/\H a=none)->Heap.SameBut a s.heap h'->HOk X.prog X.w H h':=fun {a h'} ha hs b ob e=>by
  obtain⟨_,_,hfree⟩:=ha;refine(I.hok b ob e).stay (fun c w' hc q=>(hs.2 c ?_).trans q) (fun _ q=>q) fun _ _ q=>q;rintro rfl;rcases hc with rfl | hc
  ·rw[hfree]at e;cases e
  ·rw[hfree]at hc;cases hc
 rcases hx with hk | hk
 ·refine wpAny_storeName_local hk hn (fun h' hn' hs=>?_) hcls;obtain⟨oL,_,_,hoL,_⟩:=id hn;refine h _ ⟨I.ok,I.os,I.bare,⟨fun b o e n hb hx=>?_,fun b o e n hb hx=>?_,I.base.free,fun b o e hx=>?_,I.base.tups,I.base.frzs,I.base.tbls⟩,⟨_,hn',fun j y v' e1 e2 e3=>?_⟩,fun y c e=>?_,I.free,I.freeC,fun p hp=>?_,tracked ⟨oL,hoL,I.free⟩ hs,by simpa using I.len⟩ ⟨_,hs,.inl rfl⟩
  ·exact(hs.2 b (HQ (Ic (Hu e) I.ok.above))).trans (I.base.keep b o e n hb hx)
  ·obtain⟨sl,e1⟩:=I.base.slot b o e n hb hx;exact⟨sl,(hs.2 b (HQ (Ic (Hu e) I.ok.above))).trans e1⟩
  ·obtain⟨o',e1⟩:=I.base.there b o e hx;exact⟨o',(hs.2 b (HQ (Ic (Hu e) I.ok.above))).trans e1⟩
  ·by_cases hj:j=i
   ·subst hj;rw[hi]at e1;cases e1;rw[List.getElem?_set_self hiσ]at e2;cases e2;exact⟨u,r,.inl ⟨hk,by simp⟩⟩
   ·rw[List.getElem?_set_ne (Ne.symm hj)]at e2;obtain⟨u',r',q⟩:=hl j y v' e1 e2 e3;refine⟨u',r',?_⟩;rcases q with⟨k,e⟩ |⟨k,c,e,z⟩
    ·refine .inl ⟨k,?_⟩;have:y≠x:=fun e=>hj (kG hN e1 (e▸hi));simp[this,e]
    ·exact .inr ⟨k,c,e,z.sameBut hs (cne y c e)⟩
  ·obtain⟨w',z⟩:=I.cell y c e;exact⟨w',z.sameBut hs (cne y c e)⟩
  ·obtain⟨e,n,ne,nf,d⟩:=I.pin p hp;exact⟨(hs.2 p.1 ne).trans e,n,ne,nf,d⟩
 ·have hfn:X.fn x=true:=by
   rcases hf with z | z
   ·exact z
   ·rw[z]at hk;cases hk
  obtain⟨c,hc⟩:=I.ok.has x (.inl hk);obtain⟨w',z⟩:=I.cell x c hc;refine wpAny_storeName_cell I.ok.kind hk hc z (fun h' hc' hs=>?_);obtain⟨oc,hoc,hocd⟩:=id z;refine h { s with heap:=h' } ⟨I.ok,I.os,I.bare,⟨fun b o e n hb hx=>?_,fun b o e n hb hx=>?_,I.base.free,fun b o e hx=>?_,I.base.tups,I.base.frzs,I.base.tbls⟩,⟨m,hn.sameBut hs (Ne.symm (cne x c hc)),fun j y v' e1 e2 e3=>?_⟩,fun y c' e=>?_,I.free,I.freeC,fun p hp=>?_,tracked ⟨oc,hoc,I.freeC x c hc⟩ hs,by simpa using I.len⟩ ⟨c,hs,.inr hc⟩
  ·exact(hs.2 b (HQ (Ic (Hu e) (I.ok.cab x c hfn hc)))).trans (I.base.keep b o e n hb hx)
  ·obtain⟨sl,e1⟩:=I.base.slot b o e n hb hx;exact⟨sl,(hs.2 b (HQ (Ic (Hu e) (I.ok.cab x c hfn hc)))).trans e1⟩
  ·obtain⟨o',e1⟩:=I.base.there b o e hx;exact⟨o',(hs.2 b (HQ (Ic (Hu e) (I.ok.cab x c hfn hc)))).trans e1⟩
  ·by_cases hj:j=i
   ·subst hj;rw[hi]at e1;cases e1;rw[List.getElem?_set_self hiσ]at e2;cases e2;exact⟨u,r,.inr ⟨.inl hk,c,hc,hc'⟩⟩
   ·rw[List.getElem?_set_ne (Ne.symm hj)]at e2;obtain⟨u',r',q⟩:=hl j y v' e1 e2 e3;refine⟨u',r',?_⟩;rcases q with q |⟨k,c',e,z'⟩
    ·exact .inl q
    ·refine .inr ⟨k,c',e,z'.sameBut hs ?_⟩;rintro rfl;exact hj (kG hN e1 (I.ok.inj _ _ _ e hc▸hi))
  ·by_cases hcc:c'=c
   ·subst hcc;exact⟨_,hc'⟩
   ·obtain⟨w2,z2⟩:=I.cell y c' e;exact⟨w2,z2.sameBut hs hcc⟩
  ·obtain⟨e,n,ne,nf,d⟩:=I.pin p hp;refine⟨(hs.2 p.1 ?_).trans e,n,ne,nf,d⟩;intro q;rw[q,hoc]at e;have q':oc=p.2:=Im e;exact d w' (by rw[←q'];exact hocd)
theorem eR{M:Model}{A:Around}{E:Value->Shared->Prop}{i:Nat}{x:Str}{v:V}{u:Value}{Q:Unit->Shared->Prop}(I:Inv X pins σ H s)(hN:X.N.Nodup)(hi:X.N[i]?=some x)(hx:Loc X.env.scope x)(r:RelV v u)
  (h:∀s',Inv X pins (σ.set i (some v)) H s'->Q () s') (hf:X.fn x=true∨X.env.scope.names.lookup x=some .local:=by first | exact .inl rfl | exact .inr rfl | assumption):wpAny M A (storeName X.env x u) Q E s :=
 jo I hN hi hx r (fun s' I' _=>h s' I') hf
theorem Inv.call'(I:Inv X pins σ H s)(ho:s'.os=s.os)(u:Un (frs X.stack) ch H H' s.heap s'.heap)(hok:HOk X.prog X.w H' s'.heap)(hg:AllBare s'.gens)
  (hch:∀b∈ch,(b∈X.ex∨X.s₀.heap.objs.size≤b)/\b≠X.env.locals/\(∀x c,X.env.cells.lookup x=some c->c≠b)/\∀p∈X.pn++pins,p.1≠b):Inv X pins σ H' s':=by
 obtain⟨h',g',d',t',o'⟩:=s';have e:o'=s.os:=ho;subst e;exact I.call (g':=g') (t':=t') (d':=d') u hok hg hch
end
abbrev XK:=Value->Option Addr->Hp->Prop
abbrev St:=List (Option V)
abbrev VK:=V->Hp->Prop
abbrev TE:=St->Hp->VK->Prop
abbrev TT:=St->Hp->(Bool->Hp->Prop)->Prop
abbrev TA:=St->Hp->(List V->Hp->Prop)->Prop
structure Ends where
 nx:St->Hp->Prop
 rt:VK
 bk:St->Hp->Prop:=fun _ _=>False
 ct:St->Hp->Prop:=fun _ _=>False
abbrev TS:=Ends->St->Hp->Prop
def EP(X:Cx)(pins:List (Addr×Obj))(σ:St)(Q:VK)(u:Value)(s':Shared):Prop:=∃v H',Inv X pins σ H' s'/\RelV v u/\Q v H'
def TP(X:Cx)(pins:List (Addr×Obj))(σ:St)(Q:Bool->Hp->Prop)(b:Bool)(s':Shared):Prop:=∃H',Inv X pins σ H' s'/\Q b H'
def AP(X:Cx)(pins:List (Addr×Obj))(σ:St)(Q:List V->Hp->Prop)(us:List Value)(s':Shared):Prop:=∃vs H',Inv X pins σ H' s'/\Vals vs us/\Q vs H'
def SP(X:Cx)(pins:List (Addr×Obj))(D:Ends)(f:Flow)(s':Shared):Prop :=
 match f with
 | .next=>∃σ' H',Inv X pins σ' H' s'/\D.nx σ' H'
 | .brk=>∃σ' H',Inv X pins σ' H' s'/\D.bk σ' H'
 | .cont=>∃σ' H',Inv X pins σ' H' s'/\D.ct σ' H'
 | .ret u=>∃v σ' H',Inv X pins σ' H' s'/\RelV v u/\D.rt v H'
def PE(X:Cx)(e:Expr)(t:TE):Prop :=
 ∀(pins:List (Addr×Obj)) (s:Shared) (σ:St) (H:Hp) (Q:VK),Inv X pins σ H s->t σ H Q->wpAny (model X.prog X.w) X.A (eval e X.env) (EP X pins σ Q) X.xe s
def PT(X:Cx)(e:Expr)(t:TT):Prop :=
 ∀(pins:List (Addr×Obj)) (s:Shared) (σ:St) (H:Hp) (Q:Bool->Hp->Prop),Inv X pins σ H s->t σ H Q->wpAny (model X.prog X.w) X.A (isTrue e X.env (eval e X.env)) (TP X pins σ Q) X.xe s
def PW(X:Cx)(e:Expr)(t:TT):Prop :=
 ∀(whole:Sem Value) (pins:List (Addr×Obj)) (s:Shared) (σ:St) (H:Hp) (Q:Bool->Hp->Prop),Inv X pins σ H s->t σ H Q->wpAny (model X.prog X.w) X.A (isTrue e X.env whole) (TP X pins σ Q) X.xe s
theorem PW.pt(h:PW X e t):PT X e t:=h _
def PA(X:Cx)(es:List Expr)(t:TA):Prop :=
 ∀(pos:Pos) (pins:List (Addr×Obj)) (s:Shared) (σ:St) (H:Hp) (Q:List V->Hp->Prop),Inv X pins σ H s->t σ H Q->wpAny (model X.prog X.w) X.A (spliced (backTo pos (starEach es X.env))) (AP X pins σ Q) X.xe s
def PS(X:Cx)(st:Stmt)(t:TS):Prop :=
 ∀(pins:List (Addr×Obj)) (s:Shared) (σ:St) (H:Hp) (D:Ends),Inv X pins σ H s->t D σ H->wpAny (model X.prog X.w) X.A (exec st X.env) (SP X pins D) X.xe s
def PSs(X:Cx)(st:List Stmt)(t:TS):Prop :=
 ∀(pins:List (Addr×Obj)) (s:Shared) (σ:St) (H:Hp) (D:Ends),Inv X pins σ H s->t D σ H->wpAny (model X.prog X.w) X.A (execs st X.env) (SP X pins D) X.xe s
theorem thn{t:Sem α}{Q Q':α->Shared->Prop}(h:wpAny M A t Q E s)(hQ:∀a s,Q a s->Q' a s):wpAny M A t Q' E s:=JV h hQ fun _ _ x=>x
end
section
section
variable {X:Cx}
theorem bin(ha:PE X a ta)(hb:PE X b tb){pins:List (Addr×Obj)}{s:Shared}{σ:St}{H:Hp}{R:V->V->Hp->Prop}(I:Inv X pins σ H s)(h:ta σ H fun x H1=>tb σ H1 fun y H2=>R x y H2)
  {α:Type} {Q:α->Shared->Prop} {f:Value->Value->Sem α}
  (hf:∀v u s2 x y H2,Inv X pins σ H2 s2->RelV x v->RelV y u->R x y H2->wpAny (model X.prog X.w) X.A (f v u) Q X.xe s2) :
  wpAny (model X.prog X.w) X.A (eval a X.env) (fun v s₁=>wpAny (model X.prog X.w) X.A (eval b X.env) (fun u s₂=>wpAny (model X.prog X.w) X.A (f v u) Q X.xe s₂) X.xe s₁) X.xe s:=by
 refine thn (ha pins s σ H _ I h) fun v s1 y_=>?_;obtain⟨x,H1,I1,r1,q1⟩:=y_;refine thn (hb pins s1 σ H1 _ I1 q1) fun u s2 y_=>?_;obtain⟨y,H2,I2,r2,q2⟩:=y_;exact hf v u s2 x y H2 I2 r1 r2 q2
def Cu(i:Nat):TE:=fun σ H Q=>∃v,σ[i]?=some (some v)/\Q v H
def tC(v:V):TE:=fun _ H Q=>Q v H
theorem AE{i:Nat}{x:Str}{pos:Pos}(hN:X.N[i]?=some x)(hv:Vis X.env.scope x)(hd:(x==("__debug__":Str))=false:=by decide)(hcd:(x==("__classdict__":Str))=false:=by decide):PE X (.Name x pos) (Cu i):=by
 intro pins s σ H Q I h;obtain⟨v,e,h⟩:=h;obtain⟨m,hn,hl⟩:=I.loc;obtain⟨u,r,l⟩:=hl i x v hN e hv;have fin:EP X pins σ Q u s:=⟨v,H,I,r,h⟩;rcases l with⟨hk,hm⟩ |⟨hk,c,hc,hcell⟩
 ·exact wpAny_Name (wpAny_loadName_local I.ok.kind hk hn hm fin) hd
 ·rcases hk with hk | hk
  ·exact wpAny_Name (wpAny_loadName_cell I.ok.kind hk hc hcell fin) hd
  ·exact wpAny_Name (wpAny_loadName_free I.ok.kind hk hc hcell fin hcd) hd
theorem A7:PE X (.Constant (.int i) j pos) (tC (.int i)):=fun _ _ _ H _ I h=>wpAny_Constant_int ⟨.int i,H,I.tok _,⟨_,rfl⟩,h⟩
theorem CD:PE X (.Constant (.bool b) j pos) (tC (.bl b)):=fun _ _ _ H _ I h=>Constant_bool ⟨.bl b,H,I,rfl,h⟩
theorem yZ:PE X (.Constant (.str x) j pos) (tC (.str x)):=fun _ _ _ H _ I h=>Calls.Constant_str ⟨.str x,H,I.tok _,⟨_,rfl⟩,h⟩
def Gl(X:Cx)(x:Str):Prop:=X.env.kindOf x=some .globalImplicit
theorem nB{E:Value->Shared->Prop}{pins:List (Addr×Obj)}{s:Shared}{σ:St}{H:Hp}{x:Str}{u:Value}{pos:Pos}{Q:Value->Shared->Prop}(I:Inv X pins σ H s)(hg:Gl X x)(hm:X.mg x=some u)(h:Q u s)
  (hd:(x==("__debug__":Str))=false:=by decide):wpAny (model X.prog X.w) X.A (eval (.Name x pos) X.env) Q E s :=
 Calls.Name_function_global I.ok.kind hg (Calls.loadGlobal_global (by rw[I.ok.glob];exact I.mod.glob.keeps I.bk) hm h) hd
theorem bt{E:Value->Shared->Prop}{pins:List (Addr×Obj)}{s:Shared}{σ:St}{H:Hp}{x:Str}{u:Value}{pos:Pos}{Q:Value->Shared->Prop}(I:Inv X pins σ H s)(hg:Gl X x)(hm:X.mg x=none)(hv:bootBuiltins x=some u)(h:Q u s)
  (hn:x≠"__name__":=by decide) (hd:(x==("__debug__":Str))=false:=by decide):wpAny (model X.prog X.w) X.A (eval (.Name x pos) X.env) Q E s:=by
 obtain⟨mb,h1,h2⟩:=I.mod.blt;exact Calls.Name_function_global I.ok.kind hg (Calls.loadGlobal_builtin (by rw[I.ok.glob];exact I.mod.glob.keeps I.bk) hm (by rw[I.ok.blt];exact h1.keeps I.bk) ((h2 x hn).trans hv) h) hd
variable {a b:Expr}{ta tb:TE}{pos:Pos}
def PC(X:Cx)(op:CmpOp)(a b:Expr)(t:TE):Prop :=
 ∀(pins:List (Addr×Obj)) (s:Shared) (σ:St) (H:Hp) (Q:VK),Inv X pins σ H s->t σ H Q ->
  wpAny (model X.prog X.w) X.A (eval a X.env) (fun v s₁=>wpAny (model X.prog X.w) X.A (eval b X.env) (fun u s₂=>wpAny (model X.prog X.w) X.A (compareOp op v u) (EP X pins σ Q) X.xe s₂) X.xe s₁) X.xe s
theorem rA(b:Expr){op:CmpOp}(h:op≠.In)(h2:op≠.NotIn):behindInMarks op b=false:=by
 have e1:(op==CmpOp.In)=false:=by cases op<;>first | rfl | exact absurd rfl h
 have e2:(op==CmpOp.NotIn)=false:=by cases op<;>first | rfl | exact absurd rfl h2
 cases b<;>simp[behindInMarks,e1,e2]
def tB(t:TE):TT:=fun σ H Q=>t σ H fun x H1=>∃c,x=.bl c/\Q c H1
theorem G8{op:CmpOp}{t:TE}(h:PC X op a b t)(h1:behindInMarks op b=false:=by first | exact rA _ (by decide) (by decide) | rfl):PT X (.Compare a [op] [b] pos) (tB t):=by
 intro pins s σ H Q I hw;refine wpAny_isTrue_Compare1 (thn (h pins s σ H _ I hw) fun v s1 h1=>thn h1 fun u s2 h2=>thn h2 fun c s3 ⟨x,H1,I1,r1,q1⟩=>?_) h1;obtain⟨d,rfl,q⟩:=q1;cases r1;exact wpAny_truthy_bool ⟨H1,I1,q⟩
theorem zT{e:Expr}{t:TE}(h:PE X e t)(he:∀whole,isTrue e X.env whole=(do let v←whole;standAt e.pos;holding [v] (truthy v)):=by intro _;rfl):PT X e (tB t):=by
 intro pins s σ H Q I hw;refine isTrue_plain (thn (h pins s σ H _ I hw) fun v s1 ⟨x,H1,I1,r1,q1⟩=>?_) (he _);obtain⟨d,rfl,q⟩:=q1;cases r1;exact wpAny_truthy_bool ⟨H1,I1,q⟩
variable {tA tB':TT}{rest:List Expr}
def tOr(t u:TT):TT:=fun σ H Q=>t σ H fun c H1=>if c=true then Q true H1 else u σ H1 Q
def GN(t:TT):TT:=fun σ H Q=>t σ H fun c H1=>Q (!c) H1
theorem Ap(ha:PT X a tA):PW X (.BoolOp .Or [a] pos) tA:=by
 intro wh pins s σ H Q I h;refine isTrue_or (thn (ha pins s σ H Q I h) fun c s1 e=>?_);cases c with
 | false=>exact isTrue_or_nil e
 | true=>exact e
theorem Eb(ha:PT X a tA)(hb:PW X (.BoolOp .Or (b::rest) pos) tB'):PW X (.BoolOp .Or (a::b::rest) pos) (tOr tA tB'):=by
 intro wh pins s σ H Q I h;refine isTrue_or (thn (ha pins s σ H _ I h) fun c s1 y_=>?_);obtain⟨H1,I1,q1⟩:=y_;cases c with
 | true=>exact⟨H1,I1,q1⟩
 | false=>exact hb wh pins s1 σ H1 Q I1 q1
theorem Ba(ha:PT X a tA):PT X (.UnaryOp .Not a pos) (GN tA):=by
 intro pins s σ H Q I h;exact isTrue_not (ha pins s σ H (fun c H1=>Q (!c) H1) I h)
def tIf(t:TT)(ta tb:TE):TE:=fun σ H Q=>t σ H fun c H1=>if c=true then ta σ H1 Q else tb σ H1 Q
theorem tx(hc:PT X c tA)(ha:PE X a ta)(hb:PE X b tb):PE X (.IfExp c a b pos) (tIf tA ta tb):=by
 intro pins s σ H Q I h;refine wpAny_IfExp (thn (hc pins s σ H _ I h) fun d s1 y_=>?_);obtain⟨H1,I1,q1⟩:=y_;cases d with
 | true=>exact ha pins s1 σ H1 Q I1 q1
 | false=>exact hb pins s1 σ H1 Q I1 q1
end
end
section
def SqL(K:PySem.W.Frag)(H:Hp)(a:Addr)(xs:List V):Prop :=
 Rd H a (.lst xs) ∨
  ∃(o:Obj) (its:Array Value) (n:Nat),K.lookup a=some o/\o.cls=.type "list"/\o.dict=none/\o.data=.seq its n/\its.size≤sizeLine/\Vals xs its.toList
def SqT(K:PySem.W.Frag)(H:Hp)(a:Addr)(xs:List V):Prop :=
 Rd H a (.tup xs) ∨
  ∃(o:Obj) (its:Array Value) (n:Nat),K.lookup a=some o/\o.cls=.type "tuple"/\o.data=.seq its n/\its.size≤sizeLine/\Vals xs its.toList
def EL:Value->Option V
 | .none=>some .non
 | .bool b=>some (.bl b)
 | .int i _=>some (.int i)
 | .str x _=>some (.str x)
 | .bytes b _=>some (.byt b)
 | .float b _=>some (.flt b)
 | .ref a=>some (.ref a)
 | .type n=>some (.ty n)
 | _=>none
theorem RelV.abs(r:RelV x u):EL u=some x:=by
 cases x with
 | non=>cases r;rfl
 | bl _=>cases r;rfl
 | int _=>obtain⟨t,rfl⟩:=r;rfl
 | str _=>obtain⟨t,rfl⟩:=r;rfl
 | byt _=>obtain⟨t,rfl⟩:=r;rfl
 | flt _=>obtain⟨t,rfl⟩:=r;rfl
 | ref _=>cases r;rfl
 | ty _=>cases r;rfl
theorem RelV.inj{x y:V}{u:Value}(r:RelV x u)(q:RelV y u):x=y:=Im (r.abs.symm.trans q.abs)
theorem Vals.inj:∀{xs ys:List V} {us:List Value},Vals xs us->Vals ys us->xs=ys
 | _,_,_,.nil,.nil=>rfl
 | _,_,_,.cons r t,.cons r' t'=>by rw[r.inj r',Vals.inj t t']
section
variable {X:Cx}{pins:List (Addr×Obj)}{σ:St}{H:Hp}{s:Shared}{a:Addr}{xs ys:List V}
theorem SqL.of{K:PySem.W.Frag}(h:H a=some (.lst xs)):SqL K H a xs:=.inl (.inl h)
theorem SqT.of{K:PySem.W.Frag}(h:H a=some (.tup xs)):SqT K H a xs:=.inl (.inl h)
theorem Inv.list(I:Inv X pins σ H s)(h:SqL X.K H a xs):∃its:List Value,Vals xs its/\PlainL s.heap a its.toArray/\xs.length≤sizeLine:=by
 rcases h with h |⟨o,its,n,hk,hc,hd,hs,hz,r⟩
 ·obtain⟨z,its,n,r,e⟩:=h.ok I.hok;exact⟨its,r,⟨_,n,e,rfl,rfl,rfl⟩,z⟩
 ·refine⟨its.toList,r,⟨o,n,I.kIn a o hk,hc,hd,by simpa using hs⟩,?_⟩;have e:=r.length;simp only[Jd]at e;omega
theorem Inv.tuple(I:Inv X pins σ H s)(h:SqT X.K H a xs):∃its:List Value,Vals xs its/\IsTup s.heap a its.toArray/\xs.length≤sizeLine:=by
 rcases h with h |⟨o,its,n,hk,hc,hs,hz,r⟩
 ·obtain⟨z,its,r,p⟩:=h.ok I.hok;exact⟨its,r,p,z⟩
 ·refine⟨its.toList,r,⟨o,I.kIn a o hk,hc,n,by simpa using hs⟩,?_⟩;have e:=r.length;simp only[Jd]at e;omega
theorem Inv.list_inj(I:Inv X pins σ H s)(h:SqL X.K H a xs)(h':SqL X.K H a ys):xs=ys:=by
 obtain⟨its,r,⟨o,n,e,_,_,d⟩,_⟩:=I.list h;obtain⟨its',r',⟨o',n',e',_,_,d'⟩,_⟩:=I.list h';rw[e]at e';cases e';rw[d]at d';injection d' with d1 _;have:its=its':=by simpa using congrArg Array.toList d1
 subst this;exact r.inj r'
theorem Inv.tuple_inj(I:Inv X pins σ H s)(h:SqT X.K H a xs)(h':SqT X.K H a ys):xs=ys:=by
 obtain⟨its,r,⟨o,e,_,n,d⟩,_⟩:=I.tuple h;obtain⟨its',r',⟨o',e',_,n',d'⟩,_⟩:=I.tuple h';rw[e]at e';cases e';rw[d]at d';injection d' with d1 _;have:its=its':=by simpa using congrArg Array.toList d1
 subst this;exact r.inj r'
end
abbrev Cx.wish(X:Cx)(E:Value->Shared->Prop):Cx:={ X with xe:=E }
abbrev Cx.nox(X:Cx):Cx:=X.wish fun _ _=>False
theorem Cx.Ok.wish{X:Cx}(ok:X.Ok)(E:Value->Shared->Prop):(X.wish E).Ok :=
 ⟨ok.mod,ok.kind,ok.glob,ok.blt,ok.above,ok.inj,ok.has,ok.cab,ok.hd,ok.frames,ok.stk,ok.exf,ok.bs,ok.bsz,ok.noex,ok.exfs,ok.funs,ok.frf⟩
theorem Cx.Ok.unwish{X:Cx}(ok:(X.wish E).Ok):X.Ok :=
 ⟨ok.mod,ok.kind,ok.glob,ok.blt,ok.above,ok.inj,ok.has,ok.cab,ok.hd,ok.frames,ok.stk,ok.exf,ok.bs,ok.bsz,ok.noex,ok.exfs,ok.funs,ok.frf⟩
section
variable {X:Cx}{pins:List (Addr×Obj)}{σ:St}{H:Hp}{s:Shared}{E:Value->Shared->Prop}
theorem Inv.wish(I:Inv X pins σ H s)(E:Value->Shared->Prop):Inv (X.wish E) pins σ H s:=⟨I.ok.wish E,I.os,I.bare,I.base,I.loc,I.cell,I.free,I.freeC,I.pin,I.hok,I.len⟩
theorem Inv.unwish(I:Inv (X.wish E) pins σ H s):Inv X pins σ H s:=⟨I.ok.unwish,I.os,I.bare,I.base,I.loc,I.cell,I.free,I.freeC,I.pin,I.hok,I.len⟩
theorem SP.unwish(h:SP (X.wish E) pins D f s'):SP X pins D f s':=by
 cases f with
 | next=>obtain⟨σ',H',I,q⟩:=h;exact⟨σ',H',I.unwish,q⟩
 | brk=>obtain⟨σ',H',I,q⟩:=h;exact⟨σ',H',I.unwish,q⟩
 | cont=>obtain⟨σ',H',I,q⟩:=h;exact⟨σ',H',I.unwish,q⟩
 | ret u=>obtain⟨v,σ',H',I,r,q⟩:=h;exact⟨v,σ',H',I.unwish,r,q⟩
theorem PSs.nox{st:List Stmt}(h:PSs X.nox st t):PSs X st t:=fun pins s σ H D I hw =>
 JV (h pins s σ H D (I.wish _) hw) (fun _ _ q=>q.unwish) fun _ _ z=>False.elim z
end
section
variable {X:Cx}{st:Stmt}{rest:List Stmt}{t u:TS}{e:Expr}{te:TE}{pos:Pos}
def Cq:TS:=fun D σ H=>D.nx σ H
def Ff(t u:TS):TS:=fun D σ H=>t { D with nx:=u D } σ H
theorem xk:PSs X [] Cq:=fun _ _ σ H _ I h=>wpAny_execs_nil ⟨σ,H,I,h⟩
theorem tY(h1:PS X st t)(h2:PSs X rest u):PSs X (st::rest) (Ff t u):=by
 intro pins s σ H D I h;refine wpAny_execs_cons (thn (h1 pins s σ H { D with nx:=u D } I h) fun f s1 q=>?_);cases f with
 | next =>
  obtain⟨σ',H',I',q⟩:=q;exact h2 pins s1 σ' H' D I' q
 | ret v=>exact q
 | brk=>exact q
 | cont=>exact q
theorem vd(h1:PS X st t):PSs X [st] t:=by
 intro pins s σ H D I h;refine wpAny_execs_cons (thn (h1 pins s σ H D I h) fun f s1 q=>?_);cases f with
 | next=>exact wpAny_execs_nil q
 | ret v=>exact q
 | brk=>exact q
 | cont=>exact q
theorem Inv.quiet{σ:St}(I:Inv X pins σ H s):interactive X.env=false:=by simp[interactive,I.ok.kind]
def DF(te:TE):TS:=fun D σ H=>te σ H fun _ H1=>D.nx σ H1
theorem xr(he:PE X e te)(hs:swapsWith e none pos.line X.env=pure false:=by rfl):PS X (.Expr e pos) (DF te):=by
 intro pins s σ H D I h;exact wpAny_Expr_any (thn (he pins s σ H _ I h) fun v s1 y_=>by obtain⟨x,H1,I1,r1,q1⟩:=y_;exact ⟨σ,H1,I1,q1⟩) I.quiet hs
def Gx(te:TE):TS:=fun D σ H=>te σ H D.rt
theorem AH(he:PE X e te):PS X (.Return (some e) pos) (Gx te):=by
 intro pins s σ H D I h;exact wpAny_Return_some (thn (he pins s σ H _ I h) fun v s1 y_=>by obtain⟨x,H1,I1,r1,q1⟩:=y_;exact ⟨x,σ,H1,I1,r1,q1⟩)
def GY(c:TT)(t u:TS):TS:=fun D σ H=>c σ H fun b H1=>if b=true then t D σ H1 else u D σ H1
theorem B8(hc:PT X c tc)(ha:PSs X a t)(hb:PSs X b u):PS X (.If c a b pos) (GY tc t u):=by
 intro pins s σ H D I h;refine wpAny_If (thn (hc pins s σ H _ I h) fun d s1 y_=>?_);obtain⟨H1,I1,q1⟩:=y_;cases d with
 | true=>exact ha pins s1 σ H1 D I1 q1
 | false=>exact hb pins s1 σ H1 D I1 q1
end
abbrev TG:=V->St->Hp->(St->Hp->Prop)->Prop
abbrev TGs:=List V->St->Hp->(St->Hp->Prop)->Prop
def PG(X:Cx)(target:Expr)(t:TG):Prop :=
 ∀(pins:List (Addr×Obj)) (s:Shared) (σ:St) (H:Hp) (v:V) (u:Value) (Q:St->Hp->Prop),Inv X pins σ H s->RelV v u->t v σ H Q ->
  wpAny (model X.prog X.w) X.A (assign target X.env u) (fun _ s'=>∃σ' H',Inv X pins σ' H' s'/\Q σ' H') X.xe s
def PGs(X:Cx)(ts:List Expr)(t:TGs):Prop :=
 ∀(pins:List (Addr×Obj)) (s:Shared) (σ:St) (H:Hp) (vs:List V) (us:List Value) (Q:St->Hp->Prop),Inv X pins σ H s->Vals vs us->t vs σ H Q ->
  wpAny (model X.prog X.w) X.A (assignInOrder ((assignEach ts X.env).map (·.2)) us) (fun _ s'=>∃σ' H',Inv X pins σ' H' s'/\Q σ' H') X.xe s
abbrev AY:=V->V->V->Hp->(Hp->Prop)->Prop
def xF(X:Cx)(t:AY):Prop :=
 ∀(pins:List (Addr×Obj)) (s:Shared) (σ:St) (H:Hp) (o i v:V) (ov iv u:Value) (Q:Hp->Prop),Inv X pins σ H s->RelV o ov->RelV i iv->RelV v u->t o i v H Q ->
  wpAny (model X.prog X.w) X.A (setItem ov iv u) (fun _ s'=>∃H',Inv X pins σ H' s'/\Q H') X.xe s
section
variable {X:Cx}{pos:Pos}
def oR(i:Nat):TG:=fun v σ H Q=>Q (σ.set i (some v)) H
theorem xp{i:Nat}{x:Str}(hN:X.N.Nodup)(hi:X.N[i]?=some x)(hx:Loc X.env.scope x)(hf:X.fn x=true∨X.env.scope.names.lookup x=some .local:=by first | exact .inl rfl | exact .inr rfl | assumption):PG X (.Name x pos) (oR i):=by
 intro pins s σ H v u Q I r h;exact wpAny_assign_Name (eR I hN hi hx r (fun s' I'=>⟨_,H,I',h⟩) hf)
def Hf:TGs:=fun vs σ H Q=>vs=[]/\Q σ H
def Et(t:TG)(u:TGs):TGs:=fun vs σ H Q=>∃v r,vs=v::r/\t v σ H fun σ' H'=>u r σ' H' Q
theorem xb:PGs X [] Hf:=by
 intro pins s σ H vs us Q I r h;obtain⟨e,h⟩:=h;subst e;cases r;exact assignInOrder_nil ⟨σ,H,I,h⟩
theorem sQ{e:Expr}{es:List Expr}{t:TG}{u:TGs}(h1:PG X e t)(h2:PGs X es u)
  (hs:(assignEach (e::es) X.env).map (·.2)=assign e X.env::(assignEach es X.env).map (·.2):=by rfl):PGs X (e::es) (Et t u):=by
 intro pins s σ H vs us Q I r h;obtain⟨v,vr,e1,h⟩:=h;subst e1;cases r with
 | cons r rr =>
  rw[hs];refine assignInOrder_cons (thn (h1 pins s σ H _ _ _ I r h) fun _ s1 y_=>?_);obtain⟨σ1,H1,I1,q1⟩:=y_;exact h2 pins s1 σ1 H1 _ _ Q I1 rr q1
def EK(K:PySem.W.Frag)(n:Nat)(t:TGs):TG:=fun v σ H Q=>∃a xs,v=.ref a/\SqT K H a xs/\xs.length=n/\t xs σ H Q
theorem zb{es:List Expr}{k:Nat}{t:TGs}{n:Nat}(hc:X.calm=true)(h:PGs X es t)
  (hn:(assignEach es X.env).length=n:=by rfl) (hst:(assignEach es X.env).findIdx? (·.1)=none:=by rfl):PG X (.Tuple es k pos) (EK X.K n t):=by
 intro pins s σ H v u Q I r hw;obtain⟨a,xs,e1,hq,hl,hw⟩:=hw;subst e1;cases r;obtain⟨its,rv,ht,hz⟩:=I.tuple hq;refine assign_Tuple_tuple (I.ok.hd hc) ht (by simp[hn,← hl,rv.length]) hst fun h' hx=>?_;have I1:Inv X pins σ H { s with heap:=h' }:=I.kept (t':=s.toks) fun b o e=>hx b o (HQ (Hu e)) e;exact h pins _ σ H xs _ Q I1 (by simpa using rv) hw
def Fh(to ti:TE)(t:AY):TG:=fun v σ H Q=>to σ H fun o H1=>ti σ H1 fun i H2=>t o i v H2 fun H3=>Q σ H3
theorem tU{o i:Expr}{to ti:TE}{t:AY}(ho:PE X o to)(hi:PE X i ti)(hs:xF X t)
  (ha:∀v,assign (.Subscript o i pos) X.env v=(do
   let ov←holding [v] (eval o X.env)
   let iv←holding [v,ov] (eval i X.env)
   standAt pos
   holding [v,ov,iv] (setItem ov iv v)
   release [v,ov,iv] []):=by intro _;rfl):PG X (.Subscript o i pos) (Fh to ti t):=by
 intro pins s σ H v u Q I r h;rw[ha];refine Hk (Iy (thn (ho pins s σ H _ I h) fun ov s1 y_=>?_));obtain⟨x,H1,I1,r1,q1⟩:=y_;refine Hk (Iy (thn (hi pins s1 σ H1 _ I1 q1) fun iv s2 y_=>?_));obtain⟨y,H2,I2,r2,q2⟩:=y_;refine Hk (wpAny_standAt (Hk (Iy (thn (hs pins s2 σ H2 x y v ov iv u _ I2 r1 r2 r q2) fun _ s3 y_=>?_))));obtain⟨H3,I3,q3⟩:=y_;exact wpAny_release ⟨σ,H3,I3,q3⟩
def wm(te:TE)(g:TG):TS:=fun D σ H=>te σ H fun x H1=>g x σ H1 D.nx
theorem Bo{tg e:Expr}{te:TE}{g:TG}(he:PE X e te)(hg:PG X tg g)(hs:swapsWithSole [tg] e pos.line X.env=pure false:=by rfl)(hw:swappedStores [tg] e X.env=pure none:=by rfl)
  (h1:(assignEach [tg] X.env).map (·.2)=[assign tg X.env]:=by rfl):PS X (.Assign [tg] e pos) (wm te g):=by
 intro pins s σ H D I h;refine wpAny_Assign_stores (thn (he pins s σ H _ I h) fun v s1 ⟨x,H1,I1,r1,q1⟩=>?_) hs hw;rw[h1];exact thn (hg pins s1 σ H1 x v _ I1 r1 q1) fun _ s2 q=>q
theorem zJ{i:Nat}{x:Str}{e:Expr}{te:TE}{pos':Pos}(hN:X.N.Nodup)(hi:X.N[i]?=some x)(hx:Loc X.env.scope x)(he:PE X e te)(hs:swapsWith e (some (.Name x pos')) pos.line X.env=pure false:=by rfl)(hf:X.fn x=true∨X.env.scope.names.lookup x=some .local:=by first | exact .inl rfl | exact .inr rfl | assumption) :
  PS X (.Assign [.Name x pos'] e pos) (wm te (oR i)):=by
 intro pins s σ H D I h;refine wpAny_Assign_Name (thn (he pins s σ H _ I h) fun v s1 ⟨y,H1,I1,r1,q1⟩=>?_) hs;exact eR I1 hN hi hx r1 (fun s2 I2=>⟨_,H1,I2,q1⟩) hf
def Gw(i j:Nat)(ta:TA):TS:=fun D σ H=>ta σ H fun vs H1=>∃v w,vs=[v,w]/\D.nx ((σ.set i (some v)).set j (some w)) H1
theorem AN{i j:Nat}{x y:Str}{a b:Expr}{ta:TA}{px py pt:Pos}{kt k2 pt2}(hc:X.calm=true)(hN:X.N.Nodup)(hi:X.N[i]?=some x)(hj:X.N[j]?=some y)(hij:i≠j)
  (hx:X.env.scope.names.lookup x=some .local) (hy:X.env.scope.names.lookup y=some .local) (ha:PA X [a,b] ta)
  (hw:swappedStores [.Tuple [.Name x px,.Name y py] kt pt] (.Tuple [a,b] k2 pt2) X.env=pure (some [x,y]))
  (hs:swapsWithSole [.Tuple [.Name x px,.Name y py] kt pt] (.Tuple [a,b] k2 pt2) pos.line X.env=pure false:=by rfl) :
  PS X (.Assign [.Tuple [.Name x px,.Name y py] kt pt] (.Tuple [a,b] k2 pt2) pos) (Gw i j ta):=by
 intro pins s σ H D I h;rw[exec_Assign_arm];refine Hk (wpAny_standAt ?_);rw[hs];refine Hk (Hl ?_);rw[HM (by decide)];refine Hk (Tuple_ (thn (ha _ pins s σ H _ I h) fun us s1 y_=>?_));obtain⟨vs,H1,I1,r1,q1⟩:=y_;obtain⟨v,w,e1,q1⟩:=q1;subst e1;obtain⟨u1,u2,rfl,rv,rw'⟩:∃u1 u2,us=[u1,u2]/\RelV v u1/\RelV w u2:=by
  cases r1 with
  | cons p q =>
   cases q with
   | cons p' q' =>
    cases q';exact⟨_,_,rfl,p,p'⟩
 refine Io ?_ (by show 2≤sizeLine;decide);have I2:Inv X pins σ H1 { s1 with heap:=s1.heap.push { cls:=.type "tuple",data:=.seq [u1,u2].toArray } }:=I1.kept (t':=s1.toks) fun b o e=>Ho _ e;rw[hw];refine Hk (Hl ?_);show wpAny (model X.prog X.w) X.A (do rule "assign.swapped-stores";let items←unpackItems (.ref s1.heap.objs.size) 2 none;assignInOrder [fun v=>bindName X.env y v,fun v=>bindName X.env x v] items.reverse;pure Flow.next) _ _ _;refine Hk (JW (Hk (unpackItems_tuple (items:=#[u1,u2]) (I.ok.hd hc) (IsTup.new s1.heap _) fun h' hx'=>?_)));have I3:=I2.kept (h':=h') (t':=s1.toks) fun b o e=>hx' b o (HQ (Hu e)) e;show wpAny _ _ (assignInOrder [fun v=>bindName X.env y v,fun v=>bindName X.env x v] [u2,u1] >>= fun _=>pure Flow.next) _ _ _;refine Hk (assignInOrder_cons (wpAny_bindName (eR I3 hN hj (.inl hy) rw' (fun s2 I4=>?_) (.inr hy))));refine assignInOrder_cons (wpAny_bindName (eR I4 hN hi (.inl hx) rv (fun s3 I5=>assignInOrder_nil (Hl ?_)) (.inr hx)));rw[List.set_comm _ _ (Ne.symm hij)]at I5;exact⟨_,H1,I5,q1⟩
end
section
variable {X:Cx}{pos:Pos}
def qE(c:TT)(tb:TS):TS:=fun D σ H=>∃W:Nat->St->Hp->Prop,(∃m,W m σ H)/\∀m σ H,W m σ H ->
 c σ H fun b H1=>if b=true then ∃N:St->Hp->Prop,(∀σ' H',N σ' H'->∃m',m'<m/\W m' σ' H')/\tb { D with nx:=N,ct:=N,bk:=D.nx } σ H1 else D.nx σ H1
theorem si(hp:PassesOwn (model X.prog X.w) X.A X.env X.xe)(hc:PT X c tc)(hb:PSs X body tb):PS X (.While c body [] pos) (qE tc tb):=by
 intro pins s σ H D I h;obtain⟨W,⟨m0,w0⟩,turn⟩:=h;refine wpAny_While (codeAny_whileLoop (fun n s'=>∃σ' H',Inv X pins σ' H' s'/\W n σ' H') ?_ m0 ⟨σ,H,I,w0⟩);rintro n s1 ⟨σ1,H1,I1,w1⟩;refine J9 hp (thn (hc pins s1 σ1 H1 _ I1 (turn n σ1 H1 w1)) fun b s2 y_=>?_);obtain⟨H2,I2,q2⟩:=y_;cases b with
 | true =>
  obtain⟨N,hN,q2⟩:=q2;rw[HP rfl];refine J9 hp (thn (hb pins s2 σ1 H2 _ I2 q2) fun f s3 q3=>?_);cases f with
  | next =>
   obtain⟨σ3,H3,I3,n3⟩:=q3;obtain⟨m',hm,w3⟩:=hN σ3 H3 n3;exact⟨m',hm,σ3,H3,I3,w3⟩
  | cont =>
   obtain⟨σ3,H3,I3,n3⟩:=q3;obtain⟨m',hm,w3⟩:=hN σ3 H3 n3;exact⟨m',hm,σ3,H3,I3,w3⟩
  | brk=>exact q3
  | ret v=>exact q3
 | false =>
  rw[HM Jh];exact wpAny_execs_nil ⟨σ1,H2,I2,q2⟩
end
structure It where
 go:Nat->Hp->Prop
 yld:Nat->Hp->V->Hp->Prop
 stop:Nat->Hp->Prop
def dB(X:Cx)(pins:List (Addr×Obj))(H:Hp)(b:Addr):Prop :=
 H b=none/\b≠X.env.locals/\b∉X.fs/\(b∈X.ex∨X.s₀.heap.objs.size≤b)/\(∀x c,X.env.cells.lookup x=some c->c≠b)/\∀p∈X.pn++pins,p.1≠b
theorem Inv.fpOk{σ:St}{b:Addr}(I:Inv X pins σ H s)(hb:s.heap.objs.size≤b)(hn:H' b=none):dB X pins H' b:=by
 refine⟨hn,Jp (Ic I.lt hb),I.nofs hb,.inr (HZ I.sz hb),fun x c e z=>?_,fun p hp z=>?_⟩
 ·obtain⟨v,q⟩:=I.cell x c e;exact absurd (Ic q.lt (by rw[z];exact hb)) (J3 _)
 ·exact absurd (Ic (Hu (I.pin p hp).1) (by rw[z];exact hb)) (J3 _)
structure Turn (P:Program) (w:World) (K:PySem.W.Frag) (tg:Expr) (J:It) (fp:List Addr) (it:Addr) (tn:Nat→Heap→Prop):Prop where
 mem:it∈fp
 obj:∀i h,tn i h->∀b∈fp,∃o,h.get? b=some o/\∀v,o.data≠.cell v
 keep:∀i h h',tn i h->(∀b∈fp,∀o,h.get? b=some o->h'.get? b=some o)->tn i h'
 item:∀(X:Cx),X.prog=P->X.w=w->X.K=K->X.calm=true->∀(i:Nat) (pins:List (Addr×Obj)) (s:Shared) (σ:St) (H:Hp) (E:Value->Shared->Prop),Inv X pins σ H s->(∀b∈fp,dB X pins H b)->tn i s.heap->J.go i H ->
  wpAny (model P w) X.A (pyNext (.ref it)) (fun r s1=>∃u,r=some u /\
   wpAny (model P w) X.A (letOwnedTupleGo tg (.ref it) u) (fun _ s2=>∃x H',Inv X pins σ H' s2/\RelV x u/\J.yld i H x H'/\tn (i+1) s2.heap/\∀b∈fp,H' b=none) E s1) E s
 done:∀(X:Cx),X.prog=P->X.w=w->X.K=K->X.calm=true->∀(i:Nat) (pins:List (Addr×Obj)) (s:Shared) (σ:St) (H:Hp) (E:Value->Shared->Prop),Inv X pins σ H s->(∀b∈fp,dB X pins H b)->tn i s.heap->J.stop i H ->
  wpAny (model P w) X.A (pyNext (.ref it)) (fun r s1=>r=none/\Inv X pins σ H s1) E s
 self:∀(A:Around) (i:Nat) (s:Shared) (Q:Value->Shared->Prop) (E:Value->Shared->Prop),tn i s.heap->Q (.ref it) s->wpAny (model P w) A (pyIter (.ref it)) Q E s
abbrev TI:=St->Hp->(It->Hp->Prop)->Prop
def PIE(X:Cx)(pins:List (Addr×Obj))(σ:St)(tg:Expr)(R:It->Hp->Prop)(itv:Value)(s2:Shared):Prop :=
 ∃(it:Addr) (fp:List Addr) (tn:Nat->Heap->Prop) (J:It) (H':Hp),itv=.ref it/\Inv X pins σ H' s2/\Turn X.prog X.w X.K tg J fp it tn/\tn 0 s2.heap/\(∀b∈fp,dB X pins H' b)/\R J H'
def PI(X:Cx)(tg iter:Expr)(wi:TI):Prop :=
 ∀(pins:List (Addr×Obj)) (s:Shared) (σ:St) (H:Hp) (R:It->Hp->Prop),Inv X pins σ H s->wi σ H R ->
  wpAny (model X.prog X.w) X.A (eval iter X.env) (fun v s1=>wpAny (model X.prog X.w) X.A (pyIter v) (PIE X pins σ tg R) X.xe s1) X.xe s
theorem jq(ho:s.heap.get? it=some o)(hc:o.cls=.type n)(hd:o.data=.fields vs)
  (hn:["enumerate","zip","dict_itemiterator","dict_reverseitemiterator","odict_iterator","itertools.zip_longest","itertools.pairwise"].contains n=false) (hQ:Q () s):wpAny M A (letOwnedTupleGo tg (.ref it) u) Q E s:=by
 unfold letOwnedTupleGo;cases tg<;>first
  | exact Hl hQ
  |(cases u<;>first
    | exact Hl hQ
    | (refine Hk (wpAny_load ho ?_)
       rw [hc,hd];show wpAny M A (if (["enumerate","zip","dict_itemiterator","dict_reverseitemiterator","odict_iterator","itertools.zip_longest","itertools.pairwise"].contains n && vs[0]? == some (rawInt _))=true then _ else _) Q E s;rw [HM (by intro h; rw [hn,Bool.false_and] at h; cases h)];exact Hl hQ))
def Itl(K:PySem.W.Frag)(a:Addr):It :=
 ⟨fun i H=>∃xs x,SqL K H a xs/\xs[i]?=some x,fun i H x H'=>H'=H/\∀xs,SqL K H a xs->xs[i]?=some x,fun i H=>∃xs,SqL K H a xs/\xs.length≤i⟩
def Itt(K:PySem.W.Frag)(a:Addr):It :=
 ⟨fun i H=>∃xs x,SqT K H a xs/\xs[i]?=some x,fun i H x H'=>H'=H/\∀xs,SqT K H a xs->xs[i]?=some x,fun i H=>∃xs,SqT K H a xs/\xs.length≤i⟩
def Itr(lo:Int)(n:Nat):It:=⟨fun i _=>i<n,fun i H x H'=>H'=H/\x=.int (lo+i),fun i _=>n≤i⟩
theorem pP{K:PySem.W.Frag}(a it:Addr):Turn P w K tg (Itl K a) [it] it (fun i h=>h.IsListIter it a i) where
 mem:=by simp
 obj:=fun i h st b hb=>by
  have e:b=it:=by simpa using hb
  subst e;obtain⟨o,e,c,d⟩:=st;exact⟨o,e,fun v z=>by rw[d]at z;cases z⟩
 keep:=fun i h h' st k=>st.at fun o e=>k it (by simp) o e
 item:=by
  intro X hP hw hK hc i pins s σ H E I hf st hg;subst hP hw hK;obtain⟨xs,x,hq,hx⟩:=hg;obtain⟨its,rv,p,hz⟩:=I.list hq;obtain⟨u,hu,ru⟩:=rv.get hx;obtain⟨f0,f1,f2,f3,f4,f5⟩:=hf it (by simp);refine wpAny_pyNext_list_item st p.isList (x:=u) (by simpa using hu) fun h' st' sb=>?_;have I1:Inv X pins σ H { s with heap:=h' }:=I.turned (t':=s.toks) (fun b o hb e=>(sb.2 b hb).trans e) f0 f1 f3 f4 f5;obtain⟨o,e,c,d⟩:=id st';exact⟨u,rfl,jq (s:={ s with heap:=h' }) e c d (by decide) ⟨x,H,I1,ru,⟨rfl,fun ys hy=>by rw[I.list_inj hy hq];exact hx⟩,st',fun b hb=>(hf b hb).1⟩⟩
 done:=by
  intro X hP hw hK hc i pins s σ H E I hf st hg;subst hP hw hK;obtain⟨xs,hq,hx⟩:=hg;obtain⟨its,rv,p,hz⟩:=I.list hq;obtain⟨f0,f1,f2,f3,f4,f5⟩:=hf it (by simp);have hl:=rv.length;exact wpAny_pyNext_list_end (I.ok.hd hc) st p.isList (by simp;omega) fun h' eb=>⟨rfl,I.turned (t':=s.toks) (fun b o hb e=>eb b o hb e) f0 f1 f3 f4 f5⟩
 self:=fun _ _ _ _ _ st h=>wpAny_pyIter_listiter st h
theorem m5{K:PySem.W.Frag}(a it:Addr):Turn P w K tg (Itt K a) [it] it (fun i h=>h.IsTupleIter it a i) where
 mem:=by simp
 obj:=fun i h st b hb=>by
  have e:b=it:=by simpa using hb
  subst e;obtain⟨o,e,c,d⟩:=st;exact⟨o,e,fun v z=>by rw[d]at z;cases z⟩
 keep:=fun i h h' st k=>st.at fun o e=>k it (by simp) o e
 item:=by
  intro X hP hw hK hc i pins s σ H E I hf st hg;subst hP hw hK;obtain⟨xs,x,hq,hx⟩:=hg;obtain⟨its,rv,p,hz⟩:=I.tuple hq;obtain⟨u,hu,ru⟩:=rv.get hx;obtain⟨f0,f1,f2,f3,f4,f5⟩:=hf it (by simp);refine wpAny_pyNext_tuple_item st (show s.heap.IsTuple a its.toArray from p) (x:=u) (by simpa using hu) fun h' st' sb=>?_;have I1:Inv X pins σ H { s with heap:=h' }:=I.turned (t':=s.toks) (fun b o hb e=>(sb.2 b hb).trans e) f0 f1 f3 f4 f5;obtain⟨o,e,c,d⟩:=id st';exact⟨u,rfl,jq (s:={ s with heap:=h' }) e c d (by decide) ⟨x,H,I1,ru,⟨rfl,fun ys hy=>by rw[I.tuple_inj hy hq];exact hx⟩,st',fun b hb=>(hf b hb).1⟩⟩
 done:=by
  intro X hP hw hK hc i pins s σ H E I hf st hg;subst hP hw hK;obtain⟨xs,hq,hx⟩:=hg;obtain⟨its,rv,p,hz⟩:=I.tuple hq;obtain⟨f0,f1,f2,f3,f4,f5⟩:=hf it (by simp);have hl:=rv.length;exact wpAny_pyNext_tuple_end (I.ok.hd hc) st (show s.heap.IsTuple a its.toArray from p) (by simp;omega) fun h' eb=>⟨rfl,I.turned (t':=s.toks) (fun b o hb e=>eb b o hb e) f0 f1 f3 f4 f5⟩
 self:=fun _ _ _ _ _ st h=>wpAny_pyIter_tupleiter st h
theorem mx{K:PySem.W.Frag}(it:Addr)(lo:Int)(n:Nat):Turn P w K tg (Itr lo n) [it] it (fun i h=>IsRangeIter h it (lo+(i:Nat)*1) ((n:Int) - (i:Nat)) 1) where
 mem:=by simp
 obj:=fun i h st b hb=>by
  have e:b=it:=by simpa using hb
  subst e;exact⟨_,st,fun v z=>by
   have z':Data.fields _=Data.cell v:=z;cases z'⟩
 keep:=fun i h h' st k=>k it (by simp) _ st
 item:=by
  intro X hP hw hK hc i pins s σ H E I hf st hg;subst hP hw hK;obtain⟨f0,f1,f2,f3,f4,f5⟩:=hf it (by simp);have W:=Walks.range (prog:=X.prog) (w:=X.w) (I.ok.hd hc) it lo 1 n;refine W.item i s _ _ hg st fun v h' tk hv st' kk=>?_;obtain⟨t,rfl⟩:=hv;have I1:Inv X pins σ H { s with heap:=h',toks:=tk }:=I.turned (fun b o hb e=>kk b o (by simpa using hb) e) f0 f1 f3 f4 f5;refine⟨_,rfl,jq (s:={ s with heap:=h',toks:=tk }) (n:="range_iterator") st' rfl rfl (by decide) ⟨.int (lo+i),H,I1,⟨t,?_⟩,⟨rfl,rfl⟩,st',fun b hb=>(hf b hb).1⟩⟩;rw[Int.mul_one]
 done:=by
  intro X hP hw hK hc i pins s σ H E I hf st hg;subst hP hw hK;obtain⟨f0,f1,f2,f3,f4,f5⟩:=hf it (by simp);exact wpAny_pyNext_range_end (I.ok.hd hc) st (by have:n≤i:=hg;omega) fun h' eb=>⟨rfl,I.turned (t':=s.toks) (fun b o hb e=>eb b o hb e) f0 f1 f3 f4 f5⟩
 self:=fun _ _ _ _ _ st h=>wpAny_pyIter_rangeiter st h
end
section
section
variable {X:Cx}{tg:Expr}
theorem uv{σ:St}{lo hi:Int}(I:Inv X pins σ H s)(h1:-(2 ^ 62)≤lo)(h2:lo<2 ^ 62)(h3:-(2 ^ 62)≤hi)(h4:hi<2 ^ 62)
  (q:R (Itr lo (hi - lo).toNat) H):wpAny (model X.prog X.w) X.A (pyIter (.ref s.heap.objs.size)) (PIE X pins σ tg R) E { s with heap:=s.heap.push { cls:=.type "range",data:=.fields #[.int lo t,.int hi u,.int 1 v] },toks:=tk }:=by
 refine wpAny_pyIter_range (IsRange.new ..) (small_one h1 h2 h3 h4) ?_;have I1:Inv X pins σ H { s with heap:=s.heap.push { cls:=.type "range",data:=.fields #[.int lo t,.int hi u,.int 1 v] },toks:=tk }:=I.kept fun b o e=>Ho _ e;refine⟨(s.heap.push { cls:=.type "range",data:=.fields #[.int lo t,.int hi u,.int 1 v] }).objs.size,[(s.heap.push { cls:=.type "range",data:=.fields #[.int lo t,.int hi u,.int 1 v] }).objs.size],_,_,H,rfl,
  I1.kept (t':=tk) fun b o e=>Ho _ e,mx _ lo (hi - lo).toNat,?_,fun b hb=>?_,q⟩
 ·have e1:lo+((0:Nat):Int)*1=lo:=by simp
  have e2:(((hi - lo).toNat:Nat):Int) - ((0:Nat):Int)=Builtin.Range.rangeSize lo hi 1:=by rw[rangeSize_one];split<;>omega
  show IsRangeIter _ _ (lo+((0:Nat):Int)*1) ((((hi - lo).toNat:Nat):Int) - ((0:Nat):Int)) 1;rw[e1,e2];exact Hv _ rfl
 ·have e:b=(s.heap.push { cls:=.type "range",data:=.fields #[.int lo t,.int hi u,.int 1 v] }).objs.size:=by simpa using hb
  subst e;exact I1.fpOk (Hr _) (I1.hok.fresh (Hr _))
def Dn(ta:TA):TI:=fun σ H R=>ta σ H fun vs H1=>∃j:Int,vs=[.int j]/\-(2 ^ 62)≤j/\j<2 ^ 62/\R (Itr 0 j.toNat) H1
theorem ph{a:Expr}{ta:TA}{p pos:Pos}(hg:Gl X "range")(hm:X.mg "range"=none)(ha:PA X [a] ta)(hs:starEach [a] X.env=[(false,eval a X.env)]:=by rfl):PI X tg (.Call (.Name "range" p) [a] [] pos) (Dn ta):=by
 intro pins s σ H R I h;refine Call_ (bt I hg hm boot_range (Ia (thn (ha pos pins s σ H _ I h) fun us s1 ⟨vs,H1,I1,r1,q1⟩=>?_) hs rfl));obtain⟨j,e,q1,q2,q⟩:=q1;subst e;cases r1 with
 | cons r rr =>
  cases rr;obtain⟨t,rfl⟩:=r;exact call_range_1 (uv I1 (by omega) (by omega) q1 q2 (by simpa using q))
def EM(wi:TI)(g:TG)(tb:TS):TS:=fun D σ H=>wi σ H fun J H1=>∃W:Nat->Nat->St->Hp->Prop,(∃m,W 0 m σ H1)/\∀i m σ H,W i m σ H ->
 (J.stop i H/\D.nx σ H)∨(J.go i H/\∃N:St->Hp->Prop,(∀σ' H',N σ' H'->∃m',m'<m/\W (i+1) m' σ' H')/\∀x H',J.yld i H x H'->g x σ H' fun σ2 H2=>tb { D with nx:=N,ct:=N,bk:=D.nx } σ2 H2)
def iJ(fp:List Addr)(h:Heap):List (Addr×Obj):=fp.filterMap fun b=>(h.get? b).map fun o=>(b,o)
theorem cL(hb:b∈fp)(e:h.get? b=some o):(b,o)∈iJ fp h:=List.mem_filterMap.mpr ⟨b,hb,by rw[e];rfl⟩
theorem pD(hp:p∈iJ fp h):p.1∈fp/\h.get? p.1=some p.2:=by
 obtain⟨b,hb,e⟩:=List.mem_filterMap.mp hp;cases q:h.get? b with
 | none=>rw[q]at e;cases e
 | some o =>
  rw[q]at e;have e':(b,o)=p:=Im e;subst e';exact⟨hb,q⟩
theorem Inv.pinned{σ:St}(I:Inv X pins σ H s)(hf:∀b∈fp,dB X pins H b)(ho:∀b∈fp,∃o,s.heap.get? b=some o/\∀v,o.data≠.cell v):Inv X (pins++iJ fp s.heap) σ H s :=
 I.pins_of fun p hp=>(Ii.mp hp).elim (fun z=>I.pin p (IC _ z)) fun z=>by
  obtain⟨hb,e⟩:=pD z;obtain⟨f0,f1,f2,_⟩:=hf p.1 hb;obtain⟨o,e',d⟩:=ho p.1 hb;rw[e]at e';cases e';exact⟨e,f0,f1,f2,d⟩
theorem Inv.unpinned{σ:St}(I:Inv X (pins++pl) σ H s):Inv X pins σ H s:=I.pins_of fun p hp=>I.pin p (IC _ (JM _ hp))
theorem AJ{iter:Expr}{body:List Stmt}{wi:TI}{g:TG}{tb:TS}{pos:Pos}(hp:PassesOwn (model X.prog X.w) X.A X.env X.xe)(hc:X.calm=true)(hi:PI X tg iter wi)(hg:PG X tg g)(hb:PSs X body tb)
  (hs:∀x,foldedSetIterable iter X.env x=pure x:=by intro _;rfl):PS X (.For tg iter body [] pos) (EM wi g tb):=by
 intro pins s σ H D I h;refine wpAny_For (thn (hi pins s σ H _ I h) fun v s1 h1=>thn h1 fun itv s2 h2=>?_) hs;obtain⟨it,fp,tn,J,H2,e,I2,T,st2,f2,W,⟨m0,w0⟩,turn⟩:=h2;subst e;have stat:∀{H':Hp},(∀b∈fp,H' b=none)->∀b∈fp,dB X pins H' b:=fun hn b hb=>⟨hn b hb,(f2 b hb).2⟩;refine codeAny_forLoop_any (fun n s'=>∃i σ' H',Inv X pins σ' H' s'/\tn i s'.heap/\(∀b∈fp,H' b=none)/\W i n σ' H') ?_ m0 ⟨0,σ,H2,I2,st2,fun b hb=>(f2 b hb).1,w0⟩;rintro n s3 ⟨i,σ3,H3,I3,st3,fr3,w3⟩;rcases turn i n σ3 H3 w3 with⟨stop,qn⟩ |⟨go,N,hN,step⟩
 ·refine J9 hp (thn (T.done X rfl rfl rfl hc i pins s3 σ3 H3 X.xe I3 (stat fr3) st3 stop) fun r s4 y_=>?_);obtain⟨hr,I4⟩:=y_;subst hr;exact wpAny_execs_nil ⟨σ3,H3,I4,qn⟩
 ·refine J9 hp (thn (T.item X rfl rfl rfl hc i pins s3 σ3 H3 X.xe I3 (stat fr3) st3 go) fun r s4 y_=>?_);obtain⟨u,hr,h4⟩:=y_;subst hr;refine J9 hp (thn h4 fun _ s5 y_=>?_);obtain⟨x,H5,I5,r5,y5,st5,fr5⟩:=y_;have I5':=I5.pinned (stat fr5) (T.obj _ _ st5);refine J9 hp (thn (hg _ s5 σ3 H5 x u _ I5' r5 (step x H5 y5)) fun _ s6 y_=>?_);obtain⟨σ6,H6,I6,q6⟩:=y_;refine J9 hp (thn (hb _ s6 σ6 H6 _ I6 q6) fun f s7 q7=>?_);have again:∀{σ7:St} {H7:Hp},Inv X (pins++iJ fp s5.heap) σ7 H7 s7->N σ7 H7->∃m,m<n/\∃i σ' H',Inv X pins σ' H' s7/\tn i s7.heap/\(∀b∈fp,H' b=none)/\W i m σ' H':=fun {σ7 H7} I7 n7=>by
   obtain⟨m',hm,w7⟩:=hN σ7 H7 n7;refine⟨m',hm,i+1,σ7,H7,I7.unpinned,T.keep _ _ _ st5 fun b hb o e=>(I7.pin (b,o) (IC _ (IC _ (cL hb e)))).1,fun b hb=>?_,w7⟩;obtain⟨o,e,d⟩:=T.obj _ _ st5 b hb;exact(I7.pin (b,o) (IC _ (IC _ (cL hb e)))).2.1
  cases f with
  | next=>obtain⟨σ7,H7,I7,n7⟩:=q7;exact again I7 n7
  | cont=>obtain⟨σ7,H7,I7,n7⟩:=q7;exact again I7 n7
  | brk=>obtain⟨σ7,H7,I7,q7⟩:=q7;exact⟨σ7,H7,I7.unpinned,q7⟩
  | ret v=>obtain⟨x7,σ7,H7,I7,r7,q7⟩:=q7;exact⟨x7,σ7,H7,I7.unpinned,r7,q7⟩
end
theorem ij{c:TT}{tb:TS}{D:Ends}{σ:St}{H:Hp}(Pv:St->Hp->Prop)(μ:St->Hp->Nat)(h0:Pv σ H)
  (hs:∀σ H,Pv σ H->c σ H fun b H1=>if b=true then tb { D with nx:=fun σ' H'=>Pv σ' H'/\μ σ' H'<μ σ H,ct:=fun σ' H'=>Pv σ' H'/\μ σ' H'<μ σ H,bk:=D.nx } σ H1 else D.nx σ H1)
  (mono:∀σ H Q Q',(∀b H1,Q b H1->Q' b H1)->c σ H Q->c σ H Q'):qE c tb D σ H:=by
 refine⟨fun m σ H=>m=μ σ H/\Pv σ H,⟨_,rfl,h0⟩,?_⟩;rintro m σ H ⟨rfl,p⟩;refine mono σ H _ _ (fun b H1 q=>?_) (hs σ H p);cases b with
 | true=>exact⟨_,fun σ' H' y_=>by obtain⟨p',l⟩:=y_;exact ⟨_,l,rfl,p'⟩,q⟩
 | false=>exact q
end
section
abbrev R2:=V->V->Hp->VK->Prop
def OpR(X:Cx)(f:Value->Value->Sem Value)(r:R2):Prop :=
 ∀(pins:List (Addr×Obj)) (s:Shared) (σ:St) (H:Hp) (x y:V) (v u:Value) (Q:VK),Inv X pins σ H s->RelV x v->RelV y u->r x y H Q ->
  wpAny (model X.prog X.w) X.A (f v u) (EP X pins σ Q) X.xe s
def UnR(X:Cx)(f:Value->Sem Value)(r:V->Hp->VK->Prop):Prop :=
 ∀(pins:List (Addr×Obj)) (s:Shared) (σ:St) (H:Hp) (x:V) (v:Value) (Q:VK),Inv X pins σ H s->RelV x v->r x H Q ->
  wpAny (model X.prog X.w) X.A (f v) (EP X pins σ Q) X.xe s
def bH(X:Cx)(f:Value)(r:List V->Hp->VK->Prop):Prop :=
 ∀(pins:List (Addr×Obj)) (s:Shared) (σ:St) (H:Hp) (xs:List V) (us:List Value) (Q:VK),Inv X pins σ H s->Vals xs us->r xs H Q ->
  wpAny (model X.prog X.w) X.A (call f us) (EP X pins σ Q) X.xe s
def tOp(r:R2)(ta tb:TE):TE:=fun σ H Q=>ta σ H fun x H1=>tb σ H1 fun y H2=>r x y H2 Q
def tUn(r:V->Hp->VK->Prop)(ta:TE):TE:=fun σ H Q=>ta σ H fun x H1=>r x H1 Q
def rI(C:Int->Int->Prop)(g:Int->Int->V):R2:=fun x y H Q=>∃i j,x=.int i/\y=.int j/\C i j/\Q (g i j) H
def rI0(g:Int->Int->V):R2:=fun x y H Q=>∃i j,x=.int i/\y=.int j/\Q (g i j) H
def rU(g:Int->V):V->Hp->VK->Prop:=fun x H Q=>∃i,x=.int i/\Q (g i) H
section
variable {X:Cx}{a b c:Expr}{ta tb tc:TE}{pos:Pos}
theorem AB(ha:PE X a ta)(hb:PE X b tb){pins:List (Addr×Obj)}{s:Shared}{σ:St}{H:Hp}{R:V->V->Hp->Prop}(I:Inv X pins σ H s)
  (h:ta σ H fun x H1=>tb σ H1 fun y H2=>R x y H2) {Q:Value->Shared->Prop} {f:Value->Value->Sem Value}
  (hf:∀v u s2 x y H2,Inv X pins σ H2 s2->RelV x v->RelV y u->R x y H2->wpAny (model X.prog X.w) X.A (f v u) Q X.xe s2) :
  wpAny (model X.prog X.w) X.A (eval a X.env) (fun v s₁=>wpAny (model X.prog X.w) X.A (eval b X.env) (fun u s₂=>wpAny (model X.prog X.w) X.A (f v u) Q X.xe s₂) X.xe s₁) X.xe s:=by
 refine thn (ha pins s σ H _ I h) fun v s1 y_=>?_;obtain⟨x,H1,I1,r1,q1⟩:=y_;refine thn (hb pins s1 σ H1 _ I1 q1) fun u s2 y_=>?_;obtain⟨y,H2,I2,r2,q2⟩:=y_;exact hf v u s2 x y H2 I2 r1 r2 q2
theorem ya(ho:OpR X (binaryOp op) r)(ha:PE X a ta)(hb:PE X b tb):PE X (.BinOp a op b pos) (tOp r ta tb):=by
 intro pins s σ H Q I h;exact wpAny_BinOp (AB ha hb I h fun v u s2 x y H2 I2 rx ry q=>ho pins s2 σ H2 x y v u Q I2 rx ry q)
theorem Ex(ho:UnR X (unaryOp op) r)(ha:PE X a ta):PE X (.UnaryOp op a pos) (tUn r ta):=by
 intro pins s σ H Q I h;exact UnaryOp_ (thn (ha pins s σ H _ I h) fun v s1 y_=>by obtain⟨x,H1,I1,r1,q1⟩:=y_;exact ho pins s1 σ H1 x v Q I1 r1 q1)
theorem opI{g:Int->Int->Int}
  (rule:∀(i j:Int) (t u:Tok) (s:Shared) (Q:Value->Shared->Prop) (E:Value->Shared->Prop),C i j->Q (.int (g i j) s.toks) { s with toks:=s.toks+1 }->wpAny (model X.prog X.w) X.A (f (.int i t) (.int j u)) Q E s) :
  OpR X f (rI C fun i j=>.int (g i j)):=by
 intro pins s σ H x y v u Q I rx ry h;obtain⟨i,j,rfl,rfl,hc,q⟩:=h;obtain⟨t,rfl⟩:=rx;obtain⟨t',rfl⟩:=ry;exact rule i j t t' s _ _ hc ⟨.int (g i j),H,I.tok _,⟨_,rfl⟩,q⟩
theorem Cm{g:Int->Int->Int}
  (rule:∀(i j:Int) (t u:Tok) (s:Shared) (Q:Value->Shared->Prop) (E:Value->Shared->Prop),Q (.int (g i j) s.toks) { s with toks:=s.toks+1 }->wpAny (model X.prog X.w) X.A (f (.int i t) (.int j u)) Q E s) :
  OpR X f (rI0 fun i j=>.int (g i j)):=by
 intro pins s σ H x y v u Q I rx ry h;obtain⟨i,j,rfl,rfl,q⟩:=h;obtain⟨t,rfl⟩:=rx;obtain⟨t',rfl⟩:=ry;exact rule i j t t' s _ _ ⟨.int (g i j),H,I.tok _,⟨_,rfl⟩,q⟩
theorem yF{g:Int->Int->Bool}
  (rule:∀(i j:Int) (t u:Tok) (s:Shared) (Q:Value->Shared->Prop) (E:Value->Shared->Prop),Q (.bool (g i j)) s->wpAny (model X.prog X.w) X.A (f (.int i t) (.int j u)) Q E s) :
  OpR X f (rI0 fun i j=>.bl (g i j)):=by
 intro pins s σ H x y v u Q I rx ry h;obtain⟨i,j,rfl,rfl,q⟩:=h;obtain⟨t,rfl⟩:=rx;obtain⟨t',rfl⟩:=ry;exact rule i j t t' s _ _ ⟨.bl (g i j),H,I,rfl,q⟩
def rM(i j:Int):Prop:=0≤j/\j≤1000000/\i.natAbs<2 ^ 64
def zf(i j:Int):Prop:=(-(2 ^ 64)<i/\i<2 ^ 64)∨(-(2 ^ 64)<j/\j<2 ^ 64)
theorem zf.ok(h:zf i j):IntMulOk i j:=by
 rcases h with⟨h1,h2⟩ |⟨h1,h2⟩
 ·exact .of_left (intBits_le_64 h1 h2)
 ·exact .of_right (intBits_le_64 h1 h2)
theorem ni(k:Nat):(0:Int)≤2 ^ k:=by
 rw[two_pow_cast];exact Int.natCast_nonneg _
theorem BP:OpR X (binaryOp .Add) (rI0 fun i j=>.int (i+j)):=Cm fun _ _ _ _ _ _ _ q=>add_int q
theorem Bn:OpR X (binaryOp .Sub) (rI0 fun i j=>.int (i - j)):=Cm fun _ _ _ _ _ _ _ q=>sub_int q
theorem xq:OpR X (binaryOp .Mod) (rI (fun _ j=>j≠0) fun i j=>.int (i.fmod j)):=opI fun _ _ _ _ _ _ _ hc q=>mod_int' hc q
theorem AG:OpR X (binaryOp .Pow) (rI rM fun i j=>.int (i ^ j.toNat)):=opI fun _ _ _ _ _ _ _ hc q=>pow_int_small hc.1 hc.2.1 hc.2.2 q
theorem zh:OpR X (binaryOp .RShift) (rI (fun _ j=>0≤j) fun i j=>.int (i / 2 ^ j.toNat)):=opI fun i j _ _ _ _ _ hc q =>
 rshift_int hc (by rw[JB i (ni _)];exact q)
theorem unI{g:Int->Int}
  (rule:∀(i:Int) (t:Tok) (s:Shared) (Q:Value->Shared->Prop) (E:Value->Shared->Prop),Q (.int (g i) s.toks) { s with toks:=s.toks+1 }->wpAny (model X.prog X.w) X.A (f (.int i t)) Q E s) :
  UnR X f (rU fun i=>.int (g i)):=by
 intro pins s σ H x v Q I rx h;obtain⟨i,rfl,q⟩:=h;obtain⟨t,rfl⟩:=rx;exact rule i t s _ _ ⟨.int (g i),H,I.tok _,⟨_,rfl⟩,q⟩
theorem yR:UnR X (unaryOp .USub) (rU fun i=>.int (-i)):=unI fun _ _ _ _ _ q=>neg_int q
end
section
variable {X:Cx}{a b c:Expr}{ta tb tc:TE}{pos:Pos}
theorem nP:OpR X (compareOp .Lt) (rI0 fun i j=>.bl (decide (i<j))):=yF fun _ _ _ _ _ _ _ q=>lt_int q
theorem yt:OpR X (compareOp .Gt) (rI0 fun i j=>.bl (decide (j<i))):=yF fun _ _ _ _ _ _ _ q=>gt_int q
theorem DU:OpR X (compareOp .GtE) (rI0 fun i j=>.bl (decide (j≤i))):=yF fun _ _ _ _ _ _ _ q=>ge_int q
theorem mM(b:Expr){op:CmpOp}(h:op≠.In:=by decide)(h2:op≠.NotIn:=by decide):behindInMarks op b=false:=by
 have e1:(op==CmpOp.In)=false:=by cases op<;>first | rfl | exact absurd rfl h
 have e2:(op==CmpOp.NotIn)=false:=by cases op<;>first | rfl | exact absurd rfl h2
 cases b<;>simp[behindInMarks,e1,e2]
theorem vp(ho:OpR X (compareOp op) r)(ha:PE X a ta)(hb:PE X b tb)(hm:behindInMarks op b=false):PE X (.Compare a [op] [b] pos) (tOp r ta tb):=by
 intro pins s σ H Q I h;exact wpAny_Compare1 (AB ha hb I h fun v u s2 x y H2 I2 rx ry q=>ho pins s2 σ H2 x y v u Q I2 rx ry q) hm
def xO(t:TE):TT:=fun σ H Q=>t σ H fun x H'=>∃k,x=.bl k/\Q k H'
theorem vC(ho:OpR X (compareOp op) r)(ha:PE X a ta)(hb:PE X b tb)(hm:behindInMarks op b=false):PT X (.Compare a [op] [b] pos) (xO (tOp r ta tb)):=by
 intro pins s σ H Q I h;refine wpAny_isTrue_Compare1 (thn (ha pins s σ H _ I h) fun v s1 ⟨x,H1,I1,r1,q1⟩=>thn (hb pins s1 σ H1 _ I1 q1) fun u s2 ⟨y,H2,I2,r2,q2⟩ =>
  thn (ho pins s2 σ H2 x y v u _ I2 r1 r2 q2) fun c s3 ⟨z,H3,I3,r3,k,e,q3⟩=>?_) hm
 subst e;cases r3;exact wpAny_truthy_bool ⟨H3,I3,q3⟩
theorem mG:(sizeLine:Nat)<2 ^ 63:=by rw[IA];decide
theorem vals1(r:Vals [x] us):∃u,us=[u]/\RelV x u:=by
 cases r with
 | cons r1 r2=>cases r2;exact⟨_,rfl,r1⟩
theorem vals2(r:Vals [x,y] us):∃u w',us=[u,w']/\RelV x u/\RelV y w':=by
 cases r with
 | cons r1 r2 =>
  cases r2 with
  | cons r3 r4=>cases r4;exact⟨_,_,rfl,r1,r3⟩
theorem lP:bH X (.builtin "abs") (fun xs H Q=>∃i,xs=[.int i]/\Q (.int (if i<0 then -i else i)) H):=by
 intro pins s σ H xs us Q I r h;obtain⟨i,rfl,q⟩:=h;obtain⟨u,rfl,t,rfl⟩:=vals1 r;exact call_abs_int fun u tk=>⟨.int (if i<0 then -i else i),H,I.tok _,⟨_,rfl⟩,q⟩
theorem qj(hc:X.calm=true):bH X (.builtin "max") (fun xs H Q=>∃i j,xs=[.int i,.int j]/\Q (.int (if j>i then j else i)) H):=by
 intro pins s σ H xs us Q I r h;obtain⟨i,j,rfl,q⟩:=h;obtain⟨u,w',rfl,⟨t,rfl⟩,⟨t',rfl⟩⟩:=vals2 r;refine max_two_ints (I.ok.hd hc) fun h' tk k=>⟨_,H,I.kept k,?_,q⟩;by_cases hj:j>i
 ·rw[HP hj,HP hj];exact⟨_,rfl⟩
 ·rw[HM hj,HM hj];exact⟨_,rfl⟩
theorem o9(hc:X.calm=true):bH X (.builtin "min") (fun xs H Q=>∃i j,xs=[.int i,.int j]/\Q (.int (if j<i then j else i)) H):=by
 intro pins s σ H xs us Q I r h;obtain⟨i,j,rfl,q⟩:=h;obtain⟨u,w',rfl,⟨t,rfl⟩,⟨t',rfl⟩⟩:=vals2 r;refine min_two_ints (I.ok.hd hc) fun h' tk k=>⟨_,H,I.kept k,?_,q⟩;by_cases hj:j<i
 ·rw[HP hj,HP hj];exact⟨_,rfl⟩
 ·rw[HM hj,HM hj];exact⟨_,rfl⟩
theorem pH:bH X (.type "int") (fun xs H Q=>(∃i,xs=[.int i]/\Q (.int i) H)∨∃k,xs=[.bl k]/\Q (.int (if k then 1 else 0)) H):=by
 intro pins s σ H xs us Q I r h;rcases h with⟨i,rfl,q⟩ |⟨k,rfl,q⟩
 ·obtain⟨u,rfl,t,rfl⟩:=vals1 r;exact call_int_int ⟨.int i,H,I,⟨_,rfl⟩,q⟩
 ·obtain⟨u,rfl,r1⟩:=vals1 r;cases r1;exact call_int_bool ⟨.int (if k then 1 else 0),H,I.tok _,⟨_,rfl⟩,q⟩
end
end
section
structure mw (h:Heap) (x dx C:Addr) (mA:Str→Option Value):Prop where
 obj:h.get? x=some (PySem.W.instObj C dx)
 ns:h.Ns1 dx mA
 ne:dx≠x
theorem pL{h:Heap}(n:h.Ns1 dx mA):∃od,h.get? dx=some od/\∀name,PySem.W.lookIn name od=some (mA name):=by
 obtain⟨o,es,ep,ho,hd,hk,_,hm⟩:=n;refine⟨o,ho,fun name=>?_⟩;have e:=hm name;unfold nsFind findBy at e;rw[←Array.find?_toList]at e;unfold PySem.W.lookIn;rw[hd];dsimp only;split
 ·rename_i y q;rw[q]at e;exact congrArg some e
 ·rename_i q;rw[q]at e;have a:es.toList.any (·.refKey)=false:=by
   rw[List.any_eq_false];intro y hy;obtain⟨z,t,hkey⟩:=hk y (Array.mem_toList_iff.mp hy);simp[DictEntry.refKey,hkey]
  have a':¬es.toList.any (·.refKey)=true:=by rw[a];exact Jh
  rw[HM a'];exact congrArg some e
theorem mw.look(I:mw h x dx C mA):∃od,PySem.W.InstAt h x (PySem.W.instObj C dx) C (some od)/\∀name,PySem.W.lookIn name od=some (mA name) :=
 let ⟨od,ho,hl⟩:=pL I.ns
 ⟨od,⟨I.obj,rfl,rfl,ho⟩,hl⟩
section
variable {prog:Program}{w:World}{A:Around}{E:Value->Shared->Prop}{s:Shared}{K:PySem.W.Frag}{x dx C f:Addr}{mA:Str->Option Value}{name:Str}{v:Value}
theorem get_map(X:K.In s.heap)(I:mw s.heap x dx C mA)(hg:PySem.W.plainGet K C name=true)(hh:PySem.W.hasDictIn K C=true)
  (ha:PySem.W.findIn K (.ref C) name=some none) (hv:mA name=some v) (hv':PySem.W.handedIn v=true) (h:Q v { s with toks:=s.toks+1 }) :
  wpAny (model prog w) A (getAttr (.ref x) name expr) Q E s:=by
 obtain⟨od,J,hl⟩:=I.look;exact PySem.W.get_value X J (PySem.W.plainGet_of hg).1 (PySem.W.findObj_own hh ha rfl (by rw[hl,hv])) hv' h
theorem sj(X:K.In s.heap)(I:mw s.heap x dx C mA)(hg:PySem.W.plainGet K C name=true)
  (hf:PySem.W.findIn K (.ref C) name=some (some (.ref f))) (ht:PySem.W.isFn K (.ref f)=true) (hv:mA name=none) (h:Q (.ref f,[.ref x]) s) :
  wpAny (model prog w) A (getMethod (.ref x) name pl) Q E s:=by
 obtain⟨od,J,hl⟩:=I.look;exact PySem.W.method_fn X J (PySem.W.plainGet_of hg).1 (PySem.W.plainGet_of hg).2 hf (beq_iff_eq.mp ht) (by show(PySem.W.lookIn name od).map (·.isSome)=some false;rw[hl,hv];rfl) h
theorem xJ(X:K.In s.heap)(I:mw s.heap x dx C mA)
  (hs:PySem.W.findIn K (.ref C) "__setattr__"=some (some (.builtin "object.__setattr__"))) (hp:PySem.W.plainOver K C=true) (ht:PySem.W.takerIn K C name=some none) (hh:PySem.W.hasDictIn K C=true)
  (hw:PySem.Within mA ns) (hsz:ns.length≤sizeLine)
  (h:∀h',mw h' x dx C (fun y=>if y=name then some v else mA y)->Heap.SameBut dx s.heap h'->Q () { s with heap:=h',toks:=s.toks+2 }) :
  wpAny (model prog w) A (setAttr (.ref x) name v) Q E s:=by
 obtain⟨od,J,hl⟩:=I.look;refine PySem.W.set_plain X J hs (PySem.W.osa_open (s:={ s with toks:=s.toks+1 }) (r:=none) X J hp ht fun b=>?_);obtain⟨cd,hc,hd'⟩:=PySem.W.any_some hh;have hx:s.heap.get? x=some ⟨.ref C,some dx,.plain,#[]⟩:=I.obj;refine Hk (Hl (Hk (Hk (wpAny_loadPart hx (Hk (PySem.W.Looks.here (s:={ s with toks:=s.toks+1 }) (PySem.W.looks_clsIn X hc) ?_))))));rw[hd'];refine Hl (a:=some dx) (Hk (Hl (Hk ?_)));refine wpAny_nsSet1 (s:={ s with toks:=s.toks+1 }) I.ns fun h' hn2 hs2=>?_;obtain⟨oD,esD,epD,hoD,hdD,hcD⟩:=hn2.count (PySem.Within.cons name v hw);refine Hk (wpAny_lookBehind hoD (by rw[hdD];exact pastItsLine_dict (HZ hcD (by rw[Ig];omega))) ?_);exact Hl (h _ ⟨(hs2.2 _ (Ne.symm I.ne)).trans I.obj,hn2,I.ne⟩ hs2)
theorem tK(X:K.In s.heap)(hm:PySem.W.makesIn K C=true)
  (hi:PySem.W.findIn K (.ref C) "__init__"=some (some (.ref f))) (hf:PySem.W.typeIn K (.ref f)=some (.type "function"))
  (h:codeAny (model prog w) (A.under (.builtin "type.__call__" ⟨.ref C::vs,kw⟩)) (.call (.ref f) ⟨.ref (s.heap.objs.size+1)::vs,kw⟩) (PySem.W.InitBack (s.heap.objs.size+1) R)
   { s with heap:=(s.heap.push PySem.W.emptyDict).push (PySem.W.instObj C s.heap.objs.size) }) :
  codeAny (model prog w) A (.call (.ref C) ⟨vs,kw⟩) R s:=by
 obtain⟨hh,g,d,t,os⟩:=s;exact PySem.W.make_core (PySem.W.makes_of X hm) (PySem.W.looks_findIn X hi) (fun self=>PySem.W.bind_fn X self hf) (.inl rfl) h
end
def cJ(f:Str)(v:V):List (Str×V)->List (Str×V)
 | []=>[(f,v)]
 |(g,x)::r=>if g=f then(g,v)::r else(g,x)::cJ f v r
theorem fZ(f g:Str)(v:V):∀fs:List (Str×V),(cJ f v fs).lookup g=if g=f then some v else fs.lookup g
 | []=>by
  show List.lookup g [(f,v)]=_;by_cases h:g=f
  ·have hb:(g==f)=true:=beq_iff_eq.mpr h;simp only[List.lookup,hb,HP h]
  ·have hb:(g==f)=false:=Jc.mpr h;simp only[List.lookup,hb,HM h]
 |(k,x)::r=>by
  have ih:=fZ f g v r;rw[show cJ f v ((k,x)::r)=(if k=f then(k,v)::r else(k,x)::cJ f v r)from rfl];by_cases hk:k=f
  ·rw[HP hk];by_cases h:g=k
   ·have hb:(g==k)=true:=beq_iff_eq.mpr h;simp only[List.lookup,hb,HP (h.trans hk)]
   ·have hb:(g==k)=false:=Jc.mpr h;simp only[List.lookup,hb,HM (fun e:g=f=>h (e.trans hk.symm))]
  ·rw[HM hk];by_cases h:g=k
   ·have hb:(g==k)=true:=beq_iff_eq.mpr h;simp only[List.lookup,hb,HM (fun e:g=f=>hk (h.symm.trans e))]
   ·have hb:(g==k)=false:=Jc.mpr h;simp only[List.lookup,hb];exact ih
theorem fP(f:Str)(v:V):∀fs:List (Str×V),f∈(cJ f v fs).map (·.1)/\∀g,g∈fs.map (·.1)->g∈(cJ f v fs).map (·.1)
 | []=>⟨by simp[cJ],fun g h=>by simp at h⟩
 |(k,x)::r=>by
  obtain⟨i1,i2⟩:=fP f v r;rw[show cJ f v ((k,x)::r)=(if k=f then(k,v)::r else(k,x)::cJ f v r)from rfl];by_cases hk:k=f
  ·rw[HP hk];subst hk;exact⟨by simp,fun g h=>by simpa using h⟩
  ·rw[HM hk];refine⟨?_,fun g h=>?_⟩
   ·rw[HV];exact HH _ i1
   ·rw[HV]at h ⊢;rcases Hy.mp h with e | e
    ·exact Hy.mpr (.inl e)
    ·exact HH _ (i2 g e)
theorem gh(f:Str)(v:V):∀fs:List (Str×V),(cJ f v fs).length≤fs.length+1
 | []=>by simp[cJ]
 |(k,x)::r=>by
  have ih:=gh f v r;rw[show cJ f v ((k,x)::r)=(if k=f then(k,v)::r else(k,x)::cJ f v r)from rfl];by_cases hk:k=f
  ·rw[HP hk,Ig,Ig];omega
  ·rw[HM hk,Ig,Ig];omega
theorem dC.some_of(r:dC (some v) o):∃u,o=some u/\RelV v u:=by
 cases o with
 | none=>exact(show False from r).elim
 | some u=>exact⟨u,rfl,r⟩
theorem dC.none_of(r:dC none o):o=none:=by
 cases o with
 | none=>rfl
 | some u=>exact(show False from r).elim
theorem pU(r:RelV v u):PySem.W.handedIn u=true:=by
 cases v with
 | non=>cases (show u=Value.none from r);rfl
 | bl b=>cases (show u=Value.bool b from r);rfl
 | int i=>obtain⟨t,e⟩:=(show ∃t,u=Value.int i t from r);cases e;rfl
 | str x=>obtain⟨t,e⟩:=(show ∃t,u=Value.str x t from r);cases e;rfl
 | byt b=>obtain⟨t,e⟩:=(show ∃t,u=Value.bytes b t from r);cases e;rfl
 | flt b=>obtain⟨t,e⟩:=(show ∃t,u=Value.float b t from r);cases e;rfl
 | ref a=>cases (show u=Value.ref a from r);rfl
 | ty n=>cases (show u=Value.type n from r);rfl
section
variable {P:Program}{w:World}{H H':Hp}{h h':Heap}{a C dx:Addr}{fs fs':List (Str×V)}
theorem j9(hok:HOk P w H h)(e:H a=some (.ins C dx fs)):∃mA,mw h a dx C mA/\(∀f,dC (fs.lookup f) (mA f))/\PySem.Within mA (fs.map (·.1))/\fs.length≤1000/\H dx=some (.own a):=by
 obtain⟨d,z,ne,ob,mA,n,r,q⟩:=(show aI P w H h a (.ins C dx fs)from hok a _ e);exact⟨mA,⟨ob,n,ne⟩,r,q,z,d⟩
end
structure Cls (K:PySem.W.Frag) (C:Addr):Prop where
 pg:PySem.W.plainGet K C Str.empty=true
 hd:PySem.W.hasDictIn K C=true
 po:PySem.W.plainOver K C=true
 sa:PySem.W.findIn K (.ref C) "__setattr__"=some (some (.builtin "object.__setattr__"))
theorem Cls.get{K:PySem.W.Frag}{C:Addr}(c:Cls K C)(f:Str):PySem.W.plainGet K C f=true:=c.pg
def bT(K:PySem.W.Frag)(C:Addr)(f:Str):Prop:=PySem.W.findIn K (.ref C) f=some none
theorem bT.taker{K:PySem.W.Frag}(n:bT K C f):PySem.W.takerIn K C f=some none:=by
 unfold PySem.W.takerIn;rw[show PySem.W.findIn K (.ref C) f=some none from n];rfl
structure Meth (K:PySem.W.Frag) (C:Addr) (m:Str) (f:Addr):Prop where
 at_:PySem.W.findIn K (.ref C) m=some (some (.ref f))
 fn:PySem.W.isFn K (.ref f)=true
 kp:PySem.W.keepIn K (.ref f)=true
section
variable {X:Cx}{pins:List (Addr×Obj)}{σ:St}{H:Hp}{s:Shared}{a C dx:Addr}{fs:List (Str×V)}{f:Str}{v:V}{A:Around}{E:Value->Shared->Prop}
theorem m9(I:Inv X pins σ H s)(e:H a=some (.ins C dx fs))(c:Cls X.K C)(n:bT X.K C f)(l:fs.lookup f=some v)
  (h:∀u s',Inv X pins σ H s'->RelV v u->Q u s'):wpAny (model X.prog X.w) A (getAttr (.ref a) f b) Q E s:=by
 obtain⟨mA,O,r,_,_,_⟩:=j9 I.hok e;obtain⟨u,hu,ru⟩:=dC.some_of (v:=v) (o:=mA f) (by rw[←l];exact r f);exact get_map I.kIn O (c.get f) c.hd n hu (pU ru) (h u _ (I.tok _) ru)
theorem ie(I:Inv X pins σ H s)(e:H a=some (.ins C dx fs))(c:Cls X.K C)(k:Meth X.K C m g)(l:fs.lookup m=none)
  (h:Q (.ref g,[.ref a]) s):wpAny (model X.prog X.w) A (getMethod (.ref a) m pl) Q E s:=by
 obtain⟨mA,O,r,_,_,_⟩:=j9 I.hok e;have hn:mA m=none:=dC.none_of (by rw[←l];exact r m);exact sj I.kIn O (c.get m) k.at_ k.fn hn h
theorem mF(I:Inv X pins σ H s)(e:H a=some (.ins C dx fs))(c:Cls X.K C)(n:bT X.K C f)(hl:fs.length<1000)(ry:RelV y u)
  (h:∀s',Inv X pins σ (upd H a (.ins C dx (cJ f y fs))) s'->Q () s'):wpAny (model X.prog X.w) A (setAttr (.ref a) f u) Q E s:=by
 obtain⟨mA,O,r,wi,_,ho⟩:=j9 I.hok e;have hz:(fs.map (·.1)).length≤sizeLine:=by rw[Hm,IA];omega
 refine xJ I.kIn O c.sa c.po n.taker c.hd wi hz fun h' O' sb=>h _ ?_;have hd:∃o,h'.get? dx=some o:=let ⟨o,_,_,e',_⟩:=O'.ns;⟨o,e'⟩
 refine I.write (x:=a) (e:=dx) (by rw[e];exact True.intro) (.inr ho) (fun b q hb z=>(sb.2 b hb).trans z) hd ?_;refine⟨by rw[ay O.ne];exact ho,?_,O.ne,O'.obj,_,O'.ns,fun g=>?_,fun g hg=>?_⟩
 ·have:=gh f y fs;omega
 ·show dC ((cJ f y fs).lookup g) (if g=f then some u else mA g);rw[fZ];by_cases q:g=f
  ·rw[HP q,HP q];exact ry
  ·rw[HM q,HM q];exact r g
 ·by_cases q:g=f
  ·rw[q];exact(fP f y fs).1
  ·refine(fP f y fs).2 g (wi g fun z=>hg ?_);show(if g=f then some u else mA g)=none;rw[HM q];exact z
theorem Inv.made(I:Inv X pins σ H s):Inv X pins σ (upd (upd H s.heap.objs.size (.own (s.heap.objs.size+1))) (s.heap.objs.size+1) (.ins C s.heap.objs.size []))
  { s with heap:=(s.heap.push PySem.W.emptyDict).push (PySem.W.instObj C s.heap.objs.size) }:=by
 have e1:(s.heap.push PySem.W.emptyDict).get? s.heap.objs.size=some PySem.W.emptyDict:=Hv s.heap rfl;have e2:((s.heap.push PySem.W.emptyDict).push (PySem.W.instObj C s.heap.objs.size)).get? (s.heap.objs.size+1)=some (PySem.W.instObj C s.heap.objs.size):=by
  have:=Hv (s.heap.push PySem.W.emptyDict) (o:=PySem.W.instObj C s.heap.objs.size) rfl
  rwa [Ji]at this
 have e3:(s.heap.push PySem.W.emptyDict).Ns s.heap.objs.size (fun _=>none):=⟨PySem.W.emptyDict,#[],_,e1,rfl,(fun e he=>absurd he (by simp)),fun _=>rfl⟩;have I1:=I.laid (a:=s.heap.objs.size) (o:=.own (s.heap.objs.size+1)) (h':=s.heap.push PySem.W.emptyDict) (t':=s.toks) (fun b u q=>Ho _ q) (Hr _) ⟨_,e1⟩;refine I1.laid (a:=s.heap.objs.size+1) (o:=.ins C s.heap.objs.size []) (t':=s.toks) (fun b u q=>Ho _ q) (Nat.le_of_eq (Ji _ _)) ?_;have ne:s.heap.objs.size≠s.heap.objs.size+1:=HQ (Nat.lt_succ_self _);refine⟨by rw[ay ne,aE],JG _,ne,e2,fun _=>none,(Heap.Ns1.of_empty e3).at fun o q=>Ho _ q,fun _=>True.intro,fun y hy=>absurd rfl hy⟩
theorem xu(hb:attributeBase e f env (eval e env)=eval e env)
  (h:wpAny (model prog w) A (eval e env) (fun o s₁=>wpAny (model prog w) A (getAttr o f true) Q E s₁) E s):wpAny (model prog w) A (eval (.Attribute e f pos) env) Q E s :=
 Attribute_any_ h (by rw[arm_eval_Attribute,hb])
end
def Fb(K:PySem.W.Frag)(ta:TE)(f:Str):TE:=fun σ H Q=>ta σ H fun x H1=>∃a C dx fs v,x=.ref a/\H1 a=some (.ins C dx fs)/\Cls K C/\bT K C f/\fs.lookup f=some v/\Q v H1
def F1(K:PySem.W.Frag)(ta tv:TE)(f:Str):TS:=fun D σ H=>tv σ H fun y H1=>ta σ H1 fun x H2=>∃a C dx fs,x=.ref a/\H2 a=some (.ins C dx fs)/\Cls K C/\bT K C f/\fs.length<1000 /\
 D.nx σ (upd H2 a (.ins C dx (cJ f y fs)))
section
variable {X:Cx}{o e value:Expr}{f:Str}{pos pos' tpos:Pos}{ta tv:TE}
theorem zW(he:PE X e ta)(hb:attributeBase e f X.env (eval e X.env)=eval e X.env):PE X (.Attribute e f pos) (Fb X.K ta f):=by
 intro pins s σ H Q I h;refine xu hb (thn (he pins s σ H _ I h) fun u s1 y_=>?_);obtain⟨x,H1,I1,rx,a,C,dx,fs,v,ex,ea,c,n,l,q⟩:=y_;subst ex;obtain rfl:u=Value.ref a:=rx;exact m9 I1 ea c n l fun u' s2 I2 ru=>⟨v,H1,I2,ru,q⟩
theorem zA(ha:PE X o ta)(hv:PE X value tv)(hs:swapsWith value (some (.Attribute o f pos')) pos.line X.env=pure false):PS X (.Assign [.Attribute o f pos'] value pos) (F1 X.K ta tv f):=by
 intro pins s σ H D I h;refine plainObj_wpAny_Assign_Attribute (thn (hv pins s σ H _ I h) fun u s1 ⟨y,H1,I1,ry,q⟩=>thn (ha pins s1 σ H1 _ I1 q) fun ov s2 ⟨x,H2,I2,rx,a,C,dx,fs,ex,ea,c,n,l,q2⟩=>?_) hs;subst ex;obtain rfl:ov=Value.ref a:=rx;exact mF I2 ea c n l ry fun s3 I3=>⟨σ,_,I3,q2⟩
theorem yn{σ:St}(he:PE X e te)(I:Inv X pins σ H s)
  (h:te σ H fun x H1=>∃a C dx fs g,x=.ref a/\H1 a=some (.ins C dx fs)/\Cls X.K C/\Meth X.K C m g/\fs.lookup m=none /\
   ∀s1,Inv X pins σ H1 s1->wpAny (model X.prog X.w) X.A (callWith pos (.ref g) [.ref a] (backTo pos (starEach args X.env)) (backToKw pos (keywordEach [] X.env))) Q X.xe s1)
  (ht:eval (.Call (.Attribute e m apos) args [] pos) X.env=(do
   let ov←eval e X.env
   standAt apos.atName
   let (f,first)←holding [ov] (getMethod ov m pl)
   callWith pos f first (backTo pos (starEach args X.env)) (backToKw pos (keywordEach [] X.env)))) :
  wpAny (model X.prog X.w) X.A (eval (.Call (.Attribute e m apos) args [] pos) X.env) Q X.xe s:=by
 refine PySem.W.methodCall_KW (pl:=pl) (thn (he pins s σ H _ I h) fun u s1 ⟨x,H1,I1,rx,a,C,dx,fs,g,ex,ea,c,k,l,q⟩=>?_) ht;subst ex;obtain rfl:u=Value.ref a:=rx;exact ie I1 ea c k l (q s1 I1)
end
section
variable {X:Cx}{pins:List (Addr×Obj)}{σ:St}{H:Hp}{s:Shared}{A:Around}{E:Value->Shared->Prop}{Q:Value->Shared->Prop}{c:Value}{b:Bool}
end
end
section
structure bA (k:Nat) (A:Around):Prop where
 hd:A.handled=none
 dp:A.depth+3*k+5<recursionLimit
 un:A.units+16*k+200<cLine
theorem bA.mono(r:bA k A)(h:j≤k):bA j A:=⟨r.hd,by have:=r.dp;omega,by have:=r.un;omega⟩
theorem bA.deeper(r:bA (k+1) A)(env:Env):bA k (A.deeper env) :=
 ⟨r.hd,by have:=r.dp;show A.depth+1+3*k+5<_;omega,by have:=r.un;show A.units+3+16*k+200<_;omega⟩
theorem mf{A:Around}:(A.under (.builtin "type.__call__" ⟨.ref C::us,kw⟩)).depth=A.depth+1:=by
 first | rfl | simp[Around.under,Code.weight,Code.isCreation,Code.isGuard,Code.isCaller,Code.frames,Code.isFrame,guardIds]
theorem mj{A:Around}:(A.under (.builtin "type.__call__" ⟨.ref C::us,kw⟩)).units=A.units+1:=by
 first | rfl | simp[Around.under,Code.cUnits,Code.frames,Code.isFrame]
theorem bA.make(r:bA (k+1) A)(C:Addr)(us:List Value)(kw:List (Str×Value)):bA k (A.under (.builtin "type.__call__" ⟨.ref C::us,kw⟩)) :=
 ⟨r.hd,by have:=r.dp;rw[mf];omega,by have:=r.un;rw[mj];omega⟩
theorem bA.depth(r:bA k A):A.depth<recursionLimit:=by have:=r.dp;omega
theorem bA.units(r:bA k A):A.units+64<cLine:=by have:=r.un;omega
def EI:TA:=fun _ H Q=>Q [] H
def Eo(ta:TE)(tr:TA):TA:=fun σ H Q=>ta σ H fun x H1=>tr σ H1 fun xs H2=>Q (x::xs) H2
section
variable {X:Cx}{e:Expr}{es:List Expr}{te:TE}{t:TA}{pos:Pos}
theorem dP:PA X [] EI:=fun _ _ _ _ H Q I h=>Calls.spliced_nil ⟨[],H,I,.nil,h⟩
theorem cM(ha:PE X e te)(hr:PA X es t)(hs:starEach (e::es) X.env=(false,eval e X.env)::starEach es X.env:=by rfl):PA X (e::es) (Eo te t):=by
 intro pos pins s σ H Q I h;rw[hs];show wpAny _ _ (spliced ((false,eval e X.env)::backTo pos (starEach es X.env))) _ _ s;refine Calls.spliced_cons (thn (ha pins s σ H _ I h) fun u s1 y_=>?_);obtain⟨x,H1,I1,r1,q1⟩:=y_;exact thn (hr pos pins s1 σ H1 _ I1 q1) fun us s2 ⟨xs,H2,I2,r2,q2⟩=>⟨x::xs,H2,I2,.cons r1 r2,q2⟩
def Fy(t:TA):TE:=fun σ H Q=>t σ H fun xs H1=>xs.length≤sizeLine/\∀p,H1 p=none->Q (.ref p) (upd H1 p (.tup xs))
def EO(t:TA):TE:=fun σ H Q=>t σ H fun xs H1=>xs.length≤sizeLine/\∀p,H1 p=none->Q (.ref p) (upd H1 p (.lst xs))
theorem AR(h:PA X es t):PE X (.Tuple es x1 pos) (Fy t):=by
 intro pins s σ H Q I hq;refine wpAny_Tuple_spliced (thn (h pos pins s σ H _ I hq) fun us s1 ⟨xs,H1,I1,r,z,q⟩=>⟨by rw[←r.length];exact z,?_⟩);have hf:H1 s1.heap.objs.size=none:=I1.hok.fresh (Hr _);refine⟨.ref s1.heap.objs.size,upd H1 s1.heap.objs.size (.tup xs),I1.laid (t':=s1.toks) (fun b u e=>Ho _ e) (Hr _) ?_,rfl,q _ hf⟩;exact⟨z,us,r,⟨_,Hv _ rfl,rfl,_,rfl⟩⟩
theorem Bp(h:PA X es t):PE X (.List es pos) (EO t):=by
 intro pins s σ H Q I hq;refine wpAny_List_spliced (thn (h pos pins s σ H _ I hq) fun us s1 ⟨xs,H1,I1,r,z,q⟩=>⟨by rw[←r.length];exact z,?_⟩);have hf:H1 s1.heap.objs.size=none:=I1.hok.fresh (Hr _);refine⟨.ref s1.heap.objs.size,upd H1 s1.heap.objs.size (.lst xs),I1.laid (t':=s1.toks) (fun b u e=>Ho _ e) (Hr _) ?_,rfl,q _ hf⟩;exact⟨z,us,0,r,Hv _ rfl⟩
end
abbrev Sp:=List V->Hp->VK->XK->Prop
abbrev CXT:=List Env->Hp->Shared->XK->Value->Shared->Prop
structure mr (P:Program) (w:World) (K:PySem.W.Frag) (mg:Str→Option Value) (base:Heap) (A:Around) (outer:List Env) (s:Shared) (H:Hp):Prop where
 frames:A.frames=some outer
 mod:Mod K mg base
 bs:∀b o,base.get? b=some o->s.heap.get? b=some o/\H b=none
 bsz:base.objs.size≤s.heap.objs.size
 funs:s.heap.FunFrames base outer
 frf:∀b∈frs outer,H b=none
 hok:HOk P w H s.heap
 bare:AllBare s.gens
def CE(outer:List Env)(P:Program)(w:World)(H:Hp)(s:Shared)(Q:VK)(u:Value)(s':Shared):Prop :=
 ∃v H',s'.os=s.os/\AllBare s'.gens/\Un (frs outer) [] H H' s.heap s'.heap/\HOk P w H' s'.heap/\RelV v u/\Q v H'
def CR(CX:CXT)(outer:List Env)(P:Program)(w:World)(H:Hp)(s:Shared)(Q:VK)(E:XK)(r:Result)(s':Shared):Prop :=
 match r with
 | .ok (.ret u)=>CE outer P w H s Q u s'
 | .ok _=>False
 | .error e=>CX outer H s E e s'
structure iK (P:Program) (w:World) (K:PySem.W.Frag) (mg:Str→Option Value) (base:Heap) (CX:CXT) (k:Nat) (f:Addr) (fd:FuncData) (ps:List Str) (sp:Sp):Prop where
 len:∀vs H Q E,sp vs H Q E->vs.length=ps.length
 run:∀(A:Around) (outer:List Env) (s:Shared) (H:Hp) (args:Args) (us:List Value) (vs:List V) (Q:VK) (E:XK),bA k A->mr P w K mg base A outer s H->BindsTo s fd args (ps.zip us)->Vals vs us->sp vs H Q E ->
  codeAny (model P w) A (.call (.ref f) args) (CR CX outer P w H s Q E) s
theorem mr.make{K:PySem.W.Frag}(e:mr P w K mg base A outer s H)(C:Addr)(us:List Value)(kw:List (Str×Value)) :
  mr P w K mg base (A.under (.builtin "type.__call__" ⟨.ref C::us,kw⟩)) outer s H:=⟨by first | exact e.frames |(simpa[Around.under,Code.envs,Code.isFrame,pushEnvs]using e.frames),e.mod,e.bs,e.bsz,e.funs,e.frf,e.hok,e.bare⟩
section
variable {X:Cx}{pins:List (Addr×Obj)}{σ:St}{H:Hp}{s s':Shared}
theorem Inv.env0(I:Inv X pins σ H s):mr X.prog X.w X.K X.mg X.base X.A X.stack s H :=
 ⟨I.ok.frames,I.ok.mod,I.bs,HZ I.ok.bsz I.sz,I.stack,I.stkFree,I.hok,I.bare⟩
theorem Inv.after(I:Inv X pins σ H s)(h:CE X.stack X.prog X.w H s Q u s'):EP X pins σ Q u s':=by
 obtain⟨v,H',os,bare,un,hok,r,q⟩:=h;obtain⟨hh,g,d,t,os'⟩:=s';obtain rfl:os'=s.os:=os;exact⟨v,H',I.call (h':=hh) (g':=g) (d':=d) (t':=t) (ch:=[]) un hok bare (fun b z=>absurd z (by simp)),r,q⟩
end
def yp(sp:Sp)(dvs:List V)(E:XK)(t:TA):TE:=fun σ H Q=>t σ H fun vs H1=>sp (vs++dvs) H1 Q E
def yh(C:Addr)(m:Str)(sp:Sp)(dvs:List V)(E:XK)(ta:TE)(t:TA):TE:=fun σ H Q=>ta σ H fun x H1=>∃a dx fs,x=.ref a/\H1 a=some (.ins C dx fs)/\fs.lookup m=none /\
 t σ H1 fun vs H2=>sp (x::(vs++dvs)) H2 Q E
def Dy(C:Addr)(sp:Sp)(dvs:List V)(E:XK)(t:TA):TE:=fun σ H Q=>t σ H fun vs H1=>∀x dx,H1 x=none->H1 dx=none->dx≠x ->
 sp (.ref x::(vs++dvs)) (upd (upd H1 dx (.own x)) x (.ins C dx [])) (fun v H2=>v=.non/\Q (.ref x) H2) E
def Binds(K:PySem.W.Frag)(fd:FuncData)(ps:List Str)(ds:List Value):Prop :=
 ∀(s:Shared) (us:List Value),K.In s.heap->(us++ds).length=ps.length->BindsTo s fd ⟨us,[]⟩ (ps.zip (us++ds))
theorem Binds.all{K:PySem.W.Frag}(h:∀us:List Value,us.length=ps.length->bindArgs fd ⟨us,[]⟩=pure (ps.zip us)):Binds K fd ps []:=fun s us _ hl=>by
 rw[IF]at hl ⊢;exact .of_eq (h us hl)
def Passes(CX:CXT)(X:Cx)(E:XK):Prop:=∀(pins:List (Addr×Obj)) (σ:St) (H:Hp) (s:Shared) (e:Value) (s':Shared),Inv X pins σ H s->CX X.stack H s E e s'->X.xe e s'
section
variable {X:Cx}{CX:CXT}{k:Nat}{f C:Addr}{fd:FuncData}{ps:List Str}{sp:Sp}{dvs:List V}{ds:List Value}{E:XK}{x m:Str}{p pos apos:Pos}{e o:Expr}{es:List Expr}{ta:TE}{t:TA}
theorem qw{σ:St}(F:iK X.prog X.w X.K X.mg X.base CX k f fd ps sp)(hr:bA k X.A)(hb:Binds X.K fd ps ds)(hd:Vals dvs ds)(hx:Passes CX X E)
  (I:Inv X pins σ H s) (r:Vals vs us) (h:sp (vs++dvs) H Q E):wpAny (model X.prog X.w) X.A (call (.ref f) us) (EP X pins σ Q) X.xe s:=by
 have r2:Vals (vs++dvs) (us++ds):=r.append hd;have hl:(us++ds).length=ps.length:=by rw[←r2.length];exact F.len _ _ _ _ h
 refine wpAny_call (Kj (F.run X.A X.stack s H ⟨us,[]⟩ (us++ds) (vs++dvs) Q E hr I.env0 (hb s us I.kIn hl) r2 h) fun r s' hq=>?_);cases r with
 | error e=>exact hx pins σ H s e s' I hq
 | ok fl =>
  cases fl with
  | ret u=>exact I.after hq
  | next=>exact False.elim hq
  | brk=>exact False.elim hq
  | cont=>exact False.elim hq
theorem ve(F:iK X.prog X.w X.K X.mg X.base CX k f fd ps sp)(hr:bA k X.A)(hg:Gl X x)(hm:X.mg x=some (.ref f))(hk:PySem.W.keepIn X.K (.ref f)=true)(hb:Binds X.K fd ps ds)(hd:Vals dvs ds)(hx:Passes CX X E)
  (ha:PA X (e::es) t) (hdb:(x==("__debug__":Str))=false:=by decide) (he:starEach (e::es) X.env=(false,eval e X.env)::starEach es X.env:=by rfl) (hpl:(backTo pos (starEach es X.env)).any (·.1)=false:=by rfl) :
  PE X (.Call (.Name x p) (e::es) [] pos) (yp sp dvs E t):=by
 intro pins s σ H Q I h;refine IT (nB I hg hm ?_ hdb);refine PySem.W.callWith_K (h₀:=X.base) I.ok.mod.kin hk (thn (ha pos pins s σ H _ I h) fun us s1 ⟨vs,H1,I1,r,q⟩=>⟨I1.kIn,?_⟩) he hpl;exact qw F hr hb hd hx I1 r q
theorem vj{pl:Sem Bool}(he:PE X o ta)(c:Cls X.K C)(hm:Meth X.K C m f)(F:iK X.prog X.w X.K X.mg X.base CX k f fd ps sp)(hr:bA k X.A)(hb:Binds X.K fd ps ds)(hd:Vals dvs ds)(hx:Passes CX X E)(ha:PA X (e::es) t)
  (hst:starEach (e::es) X.env=(false,eval e X.env)::starEach es X.env:=by rfl) (hpl:(backTo pos (starEach es X.env)).any (·.1)=false:=by rfl)
  (ht:eval (.Call (.Attribute o m apos) (e::es) [] pos) X.env=(do
   let ov←eval o X.env
   standAt apos.atName
   let (f,first)←holding [ov] (getMethod ov m pl)
   callWith pos f first (backTo pos (starEach (e::es) X.env)) (backToKw pos (keywordEach [] X.env))):=by rfl) :
  PE X (.Call (.Attribute o m apos) (e::es) [] pos) (yh C m sp dvs E ta t):=by
 intro pins s σ H Q I h;refine PySem.W.methodCall_KW (pl:=pl) (thn (he pins s σ H _ I h) fun u s1 ⟨x,H1,I1,rx,a,dx,fs,ex,ea,l,q⟩=>?_) ht;subst ex;obtain rfl:u=Value.ref a:=rx;refine ie I1 ea c hm l ?_;refine PySem.W.callWith_K (first:=[.ref a]) (h₀:=X.base) I.ok.mod.kin hm.kp (thn (ha pos pins s1 σ H1 _ I1 q) fun us s2 ⟨vs,H2,I2,r,q2⟩=>⟨I2.kIn,?_⟩) hst hpl;exact qw (us:=.ref a::us) (vs:=.ref a::vs) F hr hb hd hx I2 (.cons rfl r) q2
structure Mk (K:PySem.W.Frag) (C f:Addr):Prop where
 makes:PySem.W.makesIn K C=true
 init:PySem.W.findIn K (.ref C) "__init__"=some (some (.ref f))
 fn:PySem.W.isFn K (.ref f)=true
 kp:PySem.W.keepIn K (.ref C)=true
theorem uh{σ:St}(M:Mk X.K C f)(F:iK X.prog X.w X.K X.mg X.base CX k f fd ps sp)(hr:bA (k+1) X.A)(hb:Binds X.K fd ps ds)(hd:Vals dvs ds)
  (hx:Passes CX X E) (I:Inv X pins σ H s) (r:Vals vs us)
  (h:∀x dx,H x=none->H dx=none->dx≠x->sp (.ref x::(vs++dvs)) (upd (upd H dx (.own x)) x (.ins C dx [])) (fun v H2=>v=.non/\Q (.ref x) H2) E) :
  wpAny (model X.prog X.w) X.A (call (.ref C) us) (EP X pins σ Q) X.xe s:=by
 have hq:=h (s.heap.objs.size+1) s.heap.objs.size (I.hok.fresh (Nat.le_succ _)) (I.hok.fresh (Hr _)) (HQ (Nat.lt_succ_self _));have I2:=Inv.made (C:=C) I;have r2:Vals (V.ref (s.heap.objs.size+1)::(vs++dvs)) (Value.ref (s.heap.objs.size+1)::(us++ds)):=.cons rfl (r.append hd);have hl:(Value.ref (s.heap.objs.size+1)::us++ds).length=ps.length:=by
  have e:=r2.length;rw[F.len _ _ _ _ hq]at e;exact e.symm
 refine wpAny_call (tK (f:=f) I.kIn M.makes M.init (beq_iff_eq.mp M.fn) (Kj (F.run _ X.stack _ _ ⟨Value.ref (s.heap.objs.size+1)::us,[]⟩ (Value.ref (s.heap.objs.size+1)::(us++ds)) _ _ E (hr.make C us [])
  (I2.env0.make C us []) (hb _ (Value.ref (s.heap.objs.size+1)::us) I2.kIn hl) r2 hq) fun r s' hq'=>?_))
 cases r with
 | error e=>exact hx pins σ _ _ e s' I2 hq'
 | ok fl =>
  cases fl with
  | ret u =>
   obtain⟨v,H',I3,rv,ev,q3⟩:=I2.after hq';subst ev;exact⟨rv,⟨V.ref (s.heap.objs.size+1),H',I3,rfl,q3⟩⟩
  | next=>exact False.elim hq'
  | brk=>exact False.elim hq'
  | cont=>exact False.elim hq'
theorem vx(M:Mk X.K C f)(F:iK X.prog X.w X.K X.mg X.base CX k f fd ps sp)(hr:bA (k+1) X.A)(hg:Gl X x)(hm:X.mg x=some (.ref C))(hb:Binds X.K fd ps ds)(hd:Vals dvs ds)(hx:Passes CX X E)
  (ha:PA X (e::es) t) (hdb:(x==("__debug__":Str))=false:=by decide) (he:starEach (e::es) X.env=(false,eval e X.env)::starEach es X.env:=by rfl) (hpl:(backTo pos (starEach es X.env)).any (·.1)=false:=by rfl) :
  PE X (.Call (.Name x p) (e::es) [] pos) (Dy C sp dvs E t):=by
 intro pins s σ H Q I h;refine IT (nB I hg hm ?_ hdb);refine PySem.W.callWith_K (h₀:=X.base) I.ok.mod.kin M.kp (thn (ha pos pins s σ H _ I h) fun us s1 ⟨vs,H1,I1,r,q⟩=>⟨I1.kIn,?_⟩) he hpl;exact uh M F hr hb hd hx I1 r q
end
section
variable {X:Cx}{CX:CXT}{k:Nat}{f C:Addr}{fd:FuncData}{ps ks:List Str}{sp:Sp}{E:XK}{x m:Str}{p pos apos kpos:Pos}{e o:Expr}{es:List Expr}{kws:List Keyword}{te ta:TE}{t tk:TA}{nm:Option Str}
variable {g:List Value->List Value->List Value}{gV:List V->List V->List V}
end
structure aC (N P:List Str) (sc:Scope):Prop where
 kind:sc.kind=.function
 co:sc.isCoroutine=false
 gen:sc.isGenerator=false
 nd:N.Nodup
 pre:N.take P.length=P
 par:∀x∈P,sc.names.lookup x=some .local∨sc.names.lookup x=some .cell
 nofree:∀y∈sc.names,y.2≠.free
theorem jj{kindOf:Str->Option NameKind}{x:Str}:∀{binds:List (Str×Value)} {m:Str->Option Value},(∀v,(x,v)∉binds)->bindL kindOf binds m x=m x
 | [],_,_=>rfl
 |(n,v)::r,m,h=>by
  unfold bindL;rw[jj fun w hw=>h w (HH _ hw)];split
  ·have:x≠n:=by rintro rfl;exact h v HL
   simp[this]
  ·rfl
theorem jf{kindOf:Str->Option NameKind}{x:Str}:∀{binds:List (Str×Value)} {m:Str->Option Value},(∀v,(x,v)∉binds)->bindC kindOf binds m x=m x
 | [],_,_=>rfl
 |(n,v)::r,m,h=>by
  unfold bindC;rw[jf fun w hw=>h w (HH _ hw)];split
  ·rfl
  ·have:x≠n:=by rintro rfl;exact h v HL
   simp[this]
theorem jn{kindOf:Str->Option NameKind}{x:Str}{v:Value}:∀{P:List Str} {vs:List Value} {i:Nat} {m:Str->Option Value},P.Nodup->P[i]?=some x->vs[i]?=some v->kindOf x=some .local ->
  bindL kindOf (P.zip vs) m x=some v
 | [],_,_,_,_,h,_,_=>by simp at h
 | _::_,[],_,_,_,_,h,_=>by simp at h
 | p::P,w::vs,0,m,nd,h1,h2,hk=>by
  simp at h1 h2;subst h1;subst h2;show bindL kindOf ((p,w)::P.zip vs) m p=_;unfold bindL;rw[jj fun v hv=>(Ka.mp nd).1 (List.of_mem_zip hv).1,HP hk];simp
 | p::P,w::vs,i+1,m,nd,h1,h2,hk=>by
  show bindL kindOf ((p,w)::P.zip vs) m x=_;unfold bindL;exact jn (i:=i) (Ka.mp nd).2 (by simpa using h1) (by simpa using h2) hk
theorem ja{kindOf:Str->Option NameKind}{x:Str}{v:Value}:∀{P:List Str} {vs:List Value} {i:Nat} {m:Str->Option Value},P.Nodup->P[i]?=some x->vs[i]?=some v->kindOf x≠some .local ->
  bindC kindOf (P.zip vs) m x=some v
 | [],_,_,_,_,h,_,_=>by simp at h
 | _::_,[],_,_,_,_,h,_=>by simp at h
 | p::P,w::vs,0,m,nd,h1,h2,hk=>by
  simp at h1 h2;subst h1;subst h2;show bindC kindOf ((p,w)::P.zip vs) m p=_;unfold bindC;rw[jf fun v hv=>(Ka.mp nd).1 (List.of_mem_zip hv).1,HM hk];simp
 | p::P,w::vs,i+1,m,nd,h1,h2,hk=>by
  show bindC kindOf ((p,w)::P.zip vs) m x=_;unfold bindC;exact ja (i:=i) (Ka.mp nd).2 (by simpa using h1) (by simpa using h2) hk
def start(N:List Str)(vs:List V):St:=vs.map some++List.replicate (N.length - vs.length) none
def m4(CX:CXT)(P:Program)(w:World)(K:PySem.W.Frag)(mg:Str->Option Value)(base:Heap)(N:List Str)(qual:Str)(scope:Scope)(f:Addr)(cd:Value)(A:Around)(outer:List Env)(s:Shared)(H:Hp)(E:XK):Cx where
 prog:=P
 w:=w
 K:=K
 mg:=mg
 base:=base
 A:=A.deeper (envOfC qual scope s.heap.objs.size f cd)
 N:=N
 s₀:=s
 H₀:=H
 env:=envOfC qual scope s.heap.objs.size f cd
 outer:=outer
 stack:=envOfC qual scope s.heap.objs.size f cd::outer
 ex:=[]
 calm:=true
 fn:=fun _=>true
 pn:=[]
 xe:=fun e s'=>wpAny (model P w) (A.deeper (envOfC qual scope s.heap.objs.size f cd)) (leaving (envOfC qual scope s.heap.objs.size f cd) e) (fun _ s''=>CX outer H s E e s'') (fun e' s''=>CX outer H s E e' s'') s'
theorem kD{sc:Scope}(h:sc.names.lookup x=some .cell):∃c,(cellsFrom n sc.names []).lookup x=some c:=by
 have q:=PySem.W.cellsFrom_some sc.names n [] (.inl h);exact Option.isSome_iff_exists.mp q
theorem oW{K:PySem.W.Frag}
  (S:aC N ps scope) (hd:A.handled=none) (e0:mr P w K mg base A outer s H) (hl:vs.length=ps.length) (r:Vals vs us)
  (x:InCallC s s.heap.objs.size (bindL (envOfC qual scope s.heap.objs.size f cd).kindOf (ps.zip us) fun _=>none) (cellsFrom (s.heap.objs.size+1) scope.names []) (bindC (envOfC qual scope s.heap.objs.size f cd).kindOf (ps.zip us) fun _=>none) s1) :
  Inv (m4 CX P w K mg base N qual scope f cd A outer s H E) [] (start N vs) H s1:=by
 have hpl:ps.length≤N.length:=by have:=congrArg List.length S.pre;rw[Ij]at this;omega
 obtain⟨h1,tk,rfl,hk⟩:=x.done;have noA:∀b:Addr,b∉(m4 CX P w K mg base N qual scope f cd A outer s H E).ex:=fun b z=>absurd (show b∈([]:List Addr)from z) (by simp);refine⟨⟨e0.mod,S.kind,rfl,rfl,Hr _,fun y z c h1 h2=>?_,fun y hy=>?_,fun y c _ h=>?_,fun _=>hd,Around.frames_deeper e0.frames,.inr ⟨rfl,rfl⟩,fun b z=>absurd z (noA b),e0.bs,e0.bsz,fun b _ _=>noA b,fun b z=>absurd z (noA b),e0.funs,e0.frf⟩,
  rfl,e0.bare,Un.kept hk,⟨_,x.toInCall.ns,fun i y v h1 h2 h3=>?_⟩,fun y c h=>⟨_,x.cell y c h⟩,e0.hok.fresh (Hr _),fun y c h=>?_,fun p hp=>absurd (show p∈([]:List (Addr×Obj))from hp) (by simp),e0.hok.kept hk,?_⟩
 ·exact name_of_addr x.apart (PySem.mem_of_lookup h1) (PySem.mem_of_lookup h2)
 ·have hy:scope.names.lookup y=some .cell∨scope.names.lookup y=some .free:=hy;rcases hy with hy | hy
  ·exact kD hy
  ·exact absurd rfl (S.nofree _ (PySem.mem_of_lookup hy))
 ·exact Nat.le_of_lt (x.above y c (PySem.mem_of_lookup h))
 ·have hi:i<vs.length:=by
   unfold start at h2;by_cases hi:i<vs.length
   ·exact hi
   ·rw[JC (by simpa using hi)]at h2;rw[Jy]at h2;split at h2<;>cases h2
  have ha:vs[i]?=some v:=by
   unfold start at h2;rw[Jg (by simpa using hi),Ht]at h2;cases e:vs[i]? with
   | none=>rw[e]at h2;cases h2
   | some a=>rw[e]at h2;cases h2;rfl
  obtain⟨u,hu,rv⟩:=r.get ha;have hp:ps[i]?=some y:=by
   rw[←S.pre,List.getElem?_take_of_lt (by omega)];exact h1
  have ndP:ps.Nodup:=by rw[←S.pre];exact S.nd.sublist (List.take_sublist _ _)
  refine⟨u,rv,?_⟩;rcases S.par y (Hz hp)with k | k
  ·exact .inl ⟨k,jn ndP hp hu k⟩
  ·obtain⟨c,e⟩:=kD (n:=s.heap.objs.size+1) k;refine .inr ⟨.inl k,c,e,?_⟩;have q:=x.cell y c e;rw[ja ndP hp hu (by show scope.names.lookup y≠_;rw[k];decide)]at q;exact q
 ·exact e0.hok.fresh (Nat.le_of_lt (x.above y c (PySem.mem_of_lookup h)))
 ·unfold start;show _=N.length;rw[HN,Hm,IX];omega
theorem CT{K:PySem.W.Frag}{dV kV doc pm cdv ct oc:Value}
     (lk:K.lookup f=some ⟨oc,od,.func (PySem.W.fnOf name qual params body scope dV kV doc pm an cdv ct),osl⟩) (hcd:PySem.W.codeIn K cdv qual=true) (S:aC N ps scope)
  (len:∀vs H Q E,sp vs H Q E->vs.length=ps.length)
  (hbody:∀(A:Around) (outer:List Env) (s:Shared) (H:Hp) (vs:List V) (Q:VK) (E:XK),bA k (A.deeper (envOfC qual scope s.heap.objs.size f cdv))->sp vs H Q E ->
   ∃t,PSs (m4 CX P w K mg base N qual scope f cdv A outer s H E) body t/\t { nx:=fun _ H'=>Q .non H',rt:=Q } (start N vs) H) :
  iK P w K mg base CX (k+1) f (PySem.W.fnOf name qual params body scope dV kV doc pm an cdv ct) ps sp:=by
 refine⟨len,fun A outer s H args us vs Q E hr e0 hb r hsp=>?_⟩;have hl:=len _ _ _ _ hsp;have KX:K.In s.heap:=e0.mod.kin.keeps fun b o e=>(e0.bs b o e).1;have lim:s.heap.NoLimit:=e0.mod.nolimit.keeps fun b o e=>(e0.bs b o e).1;have hkind:∀y∈ps.zip us,scope.names.lookup y.1=some .local∨(scope.names.lookup y.1=some .cell/\((cellsFrom (s.heap.objs.size+1) scope.names []).lookup y.1).isSome=true):=fun y_ hy=>by
  obtain⟨n,v⟩:=y_;rcases S.par n (List.of_mem_zip hy).1 with q | q
  ·exact .inl q
  ·exact .inr ⟨q,PySem.W.cellsFrom_some _ _ _ (.inl q)⟩
 refine codeAny_call_function hr.depth (KX _ _ lk) rfl S.co S.gen rfl (PySem.W.codeRec_of KX hcd) (hb _ _ _ _ ?_);refine wpAny_newFunctionEnv_cells S.kind hkind fun env he s1 x=>?_;subst he;refine⟨lim.keeps x.toInCall.keep,codeAny_func ?_⟩;obtain⟨t,ht,hq⟩:=hbody A outer s H vs Q E (hr.deeper _) hsp;have I:Inv (m4 CX P w K mg base N qual scope f cdv A outer s H E) [] (start N vs) H s1:=oW S hr.hd e0 hl r x;refine JV (ht [] s1 (start N vs) H _ I hq) (fun fl s' hs=>?_) fun e s' hs=>hs;have fin:∀{σ':St} {H':Hp} {v:V} {u:Value},Inv (m4 CX P w K mg base N qual scope f cdv A outer s H E) [] σ' H' s'->RelV v u->Q v H'->CE outer P w H s Q u s' :=
  fun {σ' H' v u} J rv q=>⟨v,H',J.os,J.bare,J.base,J.hok,rv,q⟩
 cases fl with
 | ret u =>
  obtain⟨v,σ',H',J,rv,q⟩:=hs;exact fin J rv q
 | next =>
  obtain⟨σ',H',J,q⟩:=hs;exact fin (v:=V.non) (u:=Value.none) J rfl q
 | brk =>
  obtain⟨_,_,_,q⟩:=hs;exact False.elim q
 | cont =>
  obtain⟨_,_,_,q⟩:=hs;exact False.elim q
end
section
section
variable {X:Cx}{x:Str}{p pos:Pos}{e:Expr}{es:List Expr}{t:TA}{id T:String}{r:List V->Hp->VK->Prop}
def tCB(r:List V->Hp->VK->Prop)(t:TA):TE:=fun σ H Q=>t σ H fun vs H1=>r vs H1 Q
theorem kM(hc:bH X (.builtin id) r)(hg:Gl X x)(hm:X.mg x=none)(hv:bootBuiltins x=some (.builtin id))(ha:PA X (e::es) t)(hn:x≠"__name__":=by decide)(hdb:(x==("__debug__":Str))=false:=by decide)
  (he:starEach (e::es) X.env=(false,eval e X.env)::starEach es X.env:=by rfl) (hpl:(backTo pos (starEach es X.env)).any (·.1)=false:=by rfl):PE X (.Call (.Name x p) (e::es) [] pos) (tCB r t):=by
 intro pins s σ H Q I h;refine IT (bt I hg hm hv ?_ hn hdb);exact PyProof.Rows.callWith_builtin1 (thn (ha pos pins s σ H _ I h) fun us s1 y_=>by obtain⟨vs,H1,I1,r1,q1⟩:=y_;exact hc pins s1 σ H1 vs us Q I1 r1 q1) he hpl
theorem fQ(hc:bH X (.type T) r)(hg:Gl X x)(hm:X.mg x=none)(hv:bootBuiltins x=some (.type T))(ha:PA X (e::es) t)(hn:x≠"__name__":=by decide)(hdb:(x==("__debug__":Str))=false:=by decide)
  (he:starEach (e::es) X.env=(false,eval e X.env)::starEach es X.env:=by rfl) (hpl:(backTo pos (starEach es X.env)).any (·.1)=false:=by rfl):PE X (.Call (.Name x p) (e::es) [] pos) (tCB r t):=by
 intro pins s σ H Q I h;refine IT (bt I hg hm hv ?_ hn hdb);exact Ia (thn (ha pos pins s σ H _ I h) fun us s1 y_=>by obtain⟨vs,H1,I1,r1,q1⟩:=y_;exact hc pins s1 σ H1 vs us Q I1 r1 q1) he hpl
end
end
end L2
namespace HT
section
open PySem.SeqAt
open PySem.AutoSeq1 (wpAny_loadPart')
open PySem.MeetsSeq PySem.MeetsSeq2 PySem.MeetsSeq3
end
section
variable {prog:Program}{w:World}{A:Around}{E:Value->Shared->Prop}{s:Shared}
theorem we(ht:IsTup s.heap t vs.toArray)(hb:IsTup s.heap b ws.toArray)(hv:vs≠[])
  (h1:ws=[]->Q (.ref t) s) (h2:ws≠[]->Q (.ref s.heap.objs.size) { s with heap:=s.heap.push { cls:=.type "tuple",data:=.seq (vs++ws).toArray } })
  (hsz:vs.length+ws.length≤sizeLine):wpAny (model prog w) A (binaryOp .Add (.ref t) (.ref b)) Q E s:=by
 obtain⟨⟨cls,dd,data,sl⟩,ho,hc,n,hd⟩:=id ht;obtain⟨⟨cls2,dd2,data2,sl2⟩,ho2,hc2,n2,hd2⟩:=id hb;simp only at hc hd hc2 hd2;subst hc hd hc2 hd2;have e:vs.toArray++ws.toArray=(vs++ws).toArray:=by simp
 by_cases hw:ws=[]
 ·exact concat_meets ⟨_,ho,rfl⟩ ⟨_,ho2,rfl⟩ noFill_tuple_add seq_tuple_add PySem.F.slot_tuple_add PySem.F.entry_tuple_add (PySem.F.args_tuple_add_2 _ _)
   (tuple_addW1 t b vs.toArray ws.toArray n n2 dd dd2 sl sl2 (by simpa using hv) (by simp[hw])) ⟨ho,ho2,h1 hw⟩
 ·refine concat_meets ⟨_,ho,rfl⟩ ⟨_,ho2,rfl⟩ noFill_tuple_add seq_tuple_add PySem.F.slot_tuple_add PySem.F.entry_tuple_add (PySem.F.args_tuple_add_2 _ _)
   (tuple_addW2 t b vs.toArray ws.toArray n n2 dd dd2 sl sl2 (by simpa using hv) (by simpa using hw) (by rw[HS,HS];exact hsz)) ⟨ho,ho2,?_⟩
  rw[e];exact h2 hw
def sIx(n d:Nat):Option Int->Nat
 | none=>d
 | some v=>if v<0 then(v+(n:Int)).toNat else min v.toNat n
theorem zK(n d:Nat)(hd:d≤n)(o:Option Int):sIx n d o≤n:=by
 cases o with
 | none=>exact hd
 | some v =>
  show(if v<0 then(v+(n:Int)).toNat else min v.toNat n)≤n;by_cases hv:v<0
  ·rw[HP hv];omega
  ·rw[HM hv];exact Nat.min_le_right _ _
theorem oK(v:Int)(n d:Nat):(if v<0 then max (v+(n:Int)) 0 else min v (n:Int))=((sIx n d (some v):Nat):Int):=by
 show(if v<0 then max (v+(n:Int)) 0 else min v (n:Int))=(((if v<0 then(v+(n:Int)).toNat else min v.toNat n):Nat):Int);by_cases hv:v<0
 ·simp only[HP hv];omega
 ·simp only[HM hv];omega
theorem mD(lo hi:Option Int)(n:Nat):Builtin.Slice.sliceAdjust lo hi 1 (n:Int)=(((sIx n 0 lo:Nat):Int),((sIx n n hi:Nat):Int)):=by
 have h1:¬((1:Int)<0):=by omega
 unfold Builtin.Slice.sliceAdjust;simp only[h1,IU];refine Prod.ext ?_ ?_
 ·cases lo with
  | none=>rfl
  | some v=>exact oK v n 0
 ·cases hi with
  | none=>rfl
  | some v=>exact oK v n n
theorem mq(i j:Nat):Builtin.Slice.slicePlaces (i:Int) (j:Int) 1=j - i:=by
 unfold Builtin.Slice.slicePlaces;have h1:(1:Int)>0:=by omega
 simp only[h1,Kg,Int.ediv_one];split<;>omega
theorem iH(p:IsPart v o)(h:Q o s):wpAny (model prog w) A (Builtin.Slice.slicePartIndex v) Q E s:=by
 cases p with
 | none=>exact slicePart_none h
 | int i t=>exact slicePart_int h
theorem fJ{sl:Addr}{vl vu:Value}{lo hi:Option Int}{n:Nat}(hs:s.heap.IsSliceOf sl vl vu .none)(pl:IsPart vl lo)(pu:IsPart vu hi)
  (h:Q (((sIx n 0 lo:Nat):Int),1,sIx n n hi - sIx n 0 lo) s):wpAny (model prog w) A (Builtin.Slice.sliceApplied (.ref sl) (pure (n:Int))) Q E s:=by
 obtain⟨os,hos,hcs,hds⟩:=id hs;unfold Builtin.Slice.sliceApplied Builtin.Slice.sliceFields;refine Hk (Hk (IZ hos hds (x:=vl) rfl (Hk (IZ hos hds (x:=vu) rfl (Hk (IZ hos hds (x:=.none) rfl (Hl ?_)))))));refine Hk (slicePart_none ?_);show wpAny _ _ (if ((1:Int)==0)=true then _ else _) _ _ s;rw[HM (by decide)];refine Hk (iH pl (Hk (iH pu (Hk (Hl ?_)))));show wpAny _ _ (match Builtin.Slice.sliceAdjust lo hi 1 (n:Int)with |(lo,hi)=>pure (lo,(1:Int),Builtin.Slice.slicePlaces lo hi 1)) _ _ s;rw[mD lo hi n];show wpAny _ _ (pure (((sIx n 0 lo:Nat):Int),(1:Int),Builtin.Slice.slicePlaces ((sIx n 0 lo:Nat):Int) ((sIx n n hi:Nat):Int) 1)) _ _ s;rw[mq];exact Hl h
theorem rZ(xs:Array Value)(i k:Nat):((List.range k).filterMap fun(m:Nat)=>xs[((i:Int)+(m:Int)*1).toNat]?).toArray=((xs.toList.drop i).take k).toArray:=by
 have e:(fun(m:Nat)=>xs[((i:Int)+(m:Int)*1).toNat]?)=fun m=>xs[i+m]?:=by
  funext m;have:((i:Int)+(m:Int)*1).toNat=i+m:=by omega
  rw[this]
 rw[e];have:=pick_run xs i k;rw[List.filterMap_map]at this;have e2:((fun x=>xs[x]?) ∘ fun x=>i+x)=fun m=>xs[i+m]?:=rfl;rw[e2]at this;rw[this]
theorem eY{lo hi:Option Int}(ht:IsTup s.heap t items)(hs:s.heap.IsSliceOf sl vl vu .none)(pl:IsPart vl lo)(pu:IsPart vu hi)
  (hw:¬(sIx items.size 0 lo=0/\sIx items.size items.size hi=items.size))
  (h:Q (.ref s.heap.objs.size) { s with heap:=s.heap.push { cls:=.type "tuple",data:=.seq ((items.toList.drop (sIx items.size 0 lo)).take (sIx items.size items.size hi - sIx items.size 0 lo)).toArray } })
  (hsz:items.size≤sizeLine):wpAny (model prog w) A (getItem (.ref t) (.ref sl)) Q E s:=by
 have htake:sizeOk (.seq ((items.toList.drop (sIx items.size 0 lo)).take (sIx items.size items.size hi - sIx items.size 0 lo)).toArray):=by
  show((items.toList.drop (sIx items.size 0 lo)).take (sIx items.size items.size hi - sIx items.size 0 lo)).toArray.size≤sizeLine;rw[HS,Ij,List.length_drop,Jd];omega
 have hj:sIx items.size items.size hi≤items.size:=zK _ _ (Hr _) hi;obtain⟨os,hos,hcs,hds⟩:=id hs;have hTs:s.TypeIs (.ref sl) "slice":=⟨os,hos,hcs⟩;unfold getItem
 try with_reducible refine Iy ?_
 first | refine Hk (Hl ?_) | skip
 refine Hk (wpAny_sequenceKey ht.typeIs (by decide) ?_);refine Hk (IB (name:=Str.ofString "__getitem__") ht.typeIs PyProof.Rows.slot_tuple_getitem
  (Ik PyProof.Rows.slot_tuple_getitem ht.typeIs entry_tuple_getitem ?_ (args_tuple_getitem _ _)))
 show wpAny _ _ (Builtin.Tuple.tupleItemsOf (.ref t) >>= _) _ _ s;refine Hk (tupleItemsOf_ ht ?_);refine Hk (Kk hTs ?_);rw[HP (by decide)];refine Hk (fJ hs pl pu ?_);have hno:¬((((sIx items.size 0 lo:Nat):Int)==0&&(1:Int)==1&&(sIx items.size items.size hi - sIx items.size 0 lo)==items.size)=true):=by
  intro q;rw[IP,IP]at q;have q1:((sIx items.size 0 lo:Nat):Int)=0:=eq_of_beq q.1.1;have q2:sIx items.size items.size hi - sIx items.size 0 lo=items.size:=eq_of_beq q.2;exact hw ⟨by omega,by omega⟩
 show wpAny _ _ (if (((sIx items.size 0 lo:Nat):Int)==0&&(1:Int)==1&&(sIx items.size items.size hi - sIx items.size 0 lo)==items.size)=true then _ else _) _ _ s;rw[HM hno,rZ]
 first
  | exact Hk (m:=Builtin.Tuple.tupleExact _) (Io (Hl ⟨_,rfl,Hl h⟩) htake)
  | exact Hk (m:=Builtin.Tuple.tupleExact _) (Io (Hk (Hl (Hl ⟨_,rfl,Hl h⟩))) htake)
  | exact Hk (Hk (m:=Builtin.Tuple.tupleExact _) (Io (Hl (Hl ⟨_,rfl,Hl h⟩)) htake))
  | exact Hk (Hk (m:=Builtin.Tuple.tupleExact _) (Io (Hl ⟨_,rfl,Hl h⟩) htake))
end
end HT
namespace L2
section
abbrev TO:=St->Hp->(Option Int->Hp->Prop)->Prop
def PO(X:Cx)(e:Option Expr)(t:TO):Prop :=
 ∀(pins:List (Addr×Obj)) (s:Shared) (σ:St) (H:Hp) (Q:Option Int->Hp->Prop),Inv X pins σ H s->t σ H Q ->
  wpAny (model X.prog X.w) X.A (evalPart e X.env) (fun u s'=>∃o H',Inv X pins σ H' s'/\IsPart u o/\Q o H') X.xe s
def uB:TO:=fun _ H Q=>Q none H
def DO(t:TE):TO:=fun σ H Q=>t σ H fun x H1=>∃i,x=.int i/\Q (some i) H1
section
variable {X:Cx}{e:Expr}{te:TE}{lo hi:Option Expr}{tl th:TO}{pos p2:Pos}
theorem uw:PO X none uB:=by
 intro pins s σ H Q I h;rw[evalPart_none];exact Hl ⟨none,H,I,.none,h⟩
theorem wu(h:PE X e te):PO X (some e) (DO te):=by
 intro pins s σ H Q I hw;rw[evalPart_some];refine thn (h pins s σ H _ I hw) fun u s1 y_=>?_;obtain⟨x,H1,I1,r1,q1⟩:=y_;obtain⟨i,rfl,q⟩:=q1;obtain⟨t,rfl⟩:=r1;exact⟨some i,H1,I1,.int i t,q⟩
def SlR(X:Cx)(r:V->Option Int->Option Int->Hp->VK->Prop):Prop :=
 ∀(pins:List (Addr×Obj)) (s:Shared) (σ:St) (H:Hp) (x:V) (v vl vu:Value) (lo hi:Option Int) (sl:Addr) (Q:VK),Inv X pins σ H s->RelV x v->s.heap.IsSliceOf sl vl vu .none->IsPart vl lo->IsPart vu hi->r x lo hi H Q ->
  ∃T id,typeLookup (.type T) "__getitem__"=pure (some (.builtin id))/\s.TypeIs v T/\wpAny (model X.prog X.w) X.A (getItem v (.ref sl)) (EP X pins σ Q) X.xe s
theorem SlR.or(h:SlR X r)(h':SlR X r'):SlR X (fun x lo hi H Q=>r x lo hi H Q∨r' x lo hi H Q):=by
 intro pins s σ H x v vl vu lo hi sl Q I rx hs pl pu q;rcases q with q | q
 ·exact h pins s σ H x v vl vu lo hi sl Q I rx hs pl pu q
 ·exact h' pins s σ H x v vl vu lo hi sl Q I rx hs pl pu q
def tSl(r:V->Option Int->Option Int->Hp->VK->Prop)(te:TE)(tl th:TO):TE:=fun σ H Q=>te σ H fun x H1=>tl σ H1 fun l H2=>th σ H2 fun u H3=>r x l u H3 Q
theorem qH(hr:SlR X r)(he:PE X e te)(hl:PO X lo tl)(hu:PO X hi th):PE X (.Subscript e (.Slice lo hi none p2) pos) (tSl r te tl th):=by
 intro pins s σ H Q I h;refine Subscript_ (thn (he pins s σ H _ I h) fun v s1 y_=>?_);obtain⟨x,H1,I1,r1,q1⟩:=y_;refine wpAny_Slice (thn (hl pins s1 σ H1 _ I1 q1) fun vl s2 ⟨l,H2,I2,pl,q2⟩=>thn (hu pins s2 σ H2 _ I2 q2) fun vu s3 y_=>?_);obtain⟨u,H3,I3,pu,q3⟩:=y_;rw[evalPart_none];refine Hl ?_;have I4:Inv X pins σ H3 { s3 with heap:=s3.heap.push { cls:=.type "slice",data:=.fields #[vl,vu,.none] } }:=I3.kept (t':=s3.toks) fun b ob q=>Ho _ q;obtain⟨T,id,hT,ht,hg⟩:=hr pins { s3 with heap:=s3.heap.push { cls:=.type "slice",data:=.fields #[vl,vu,.none] } } σ H3 x v vl vu l u s3.heap.objs.size Q I4 r1 (Heap.IsSliceOf.new ..) pl pu q3;show wpAny (model X.prog X.w) X.A (subscriptTail e (.Slice lo hi none p2) v (.ref s3.heap.objs.size)) (EP X pins σ Q) X.xe { s3 with heap:=s3.heap.push { cls:=.type "slice",data:=.fields #[vl,vu,.none] } };exact tail_any (ops:=[.ref s3.heap.objs.size,v]) ht hT hg (by with_unfolding_all rfl)
def lS(xs:List V)(lo hi:Option Int):List V:=(xs.drop (HT.sIx xs.length 0 lo)).take (HT.sIx xs.length xs.length hi - HT.sIx xs.length 0 lo)
theorem fY(xs:List V)(lo hi:Option Int):(lS xs lo hi).length≤xs.length:=by
 unfold lS;rw[Ij,List.length_drop];omega
def Gk(K:PySem.W.Frag):V->Option Int->Option Int->Hp->VK->Prop:=fun x lo hi H Q=>∃a xs,x=.ref a/\SqT K H a xs /\
 ¬(HT.sIx xs.length 0 lo=0/\HT.sIx xs.length xs.length hi=xs.length)/\∀p,H p=none->Q (.ref p) (upd H p (.tup (lS xs lo hi)))
theorem yT:SlR X (Gk X.K):=by
 intro pins s σ H x v vl vu lo hi sl Q I rx hs pl pu h;obtain⟨a,xs,rfl,hx,hw,q⟩:=h;cases rx;obtain⟨its,r,ht,hz⟩:=I.tuple hx;have hlen:its.toArray.size=xs.length:=by rw[HS];exact r.length.symm
 refine⟨"tuple",_,PyProof.Rows.slot_tuple_getitem.lookup,ht.typeIs,?_⟩;refine HT.eY ht hs pl pu (by rw[hlen];exact hw) ?_ (by rw[hlen];exact hz);rw[hlen];refine⟨.ref s.heap.objs.size,_,I.laid (t':=s.toks) (o:=.tup (lS xs lo hi)) (fun b ob q=>Ho _ q) (Hr _) ?_,rfl,q _ (I.hok.fresh (Hr _))⟩;exact⟨HZ (fY xs lo hi) hz,_,(r.drop (HT.sIx xs.length 0 lo)).take (HT.sIx xs.length xs.length hi - HT.sIx xs.length 0 lo),IsTup.new _ _⟩
def Ep(K:PySem.W.Frag):R2:=fun x y H Q=>∃a b xs ys,x=.ref a/\y=.ref b/\SqT K H a xs/\SqT K H b ys/\xs≠[]/\xs.length+ys.length≤sizeLine /\
 (ys=[]->Q (.ref a) H)/\(ys≠[]->∀p,H p=none->Q (.ref p) (upd H p (.tup (xs++ys))))
theorem Vals.nil_iff(r:Vals xs us):us=[]↔xs=[]:=by
 cases r with
 | nil=>simp
 | cons _ _=>simp
theorem wQ:OpR X (binaryOp .Add) (Ep X.K):=by
 intro pins s σ H x y v u Q I rx ry h;obtain⟨a,b,xs,ys,rfl,rfl,ha,hb,hx,hz,q1,q2⟩:=h;cases rx;cases ry;obtain⟨its,r1,p1,_⟩:=I.tuple ha;obtain⟨its2,r2,p2,_⟩:=I.tuple hb;refine HT.we p1 p2 (fun z=>hx (r1.nil_iff.mp z)) (fun z=>⟨.ref a,H,I,rfl,q1 (r2.nil_iff.mp z)⟩) (fun z=>?_) (by rw[←r1.length,← r2.length];exact hz);refine⟨.ref s.heap.objs.size,_,I.laid (t':=s.toks) (o:=.tup (xs++ys)) (fun b ob q=>Ho _ q) (Hr _) ?_,rfl,q2 (fun w=>z (r2.nil_iff.mpr w)) _ (I.hok.fresh (Hr _))⟩;exact⟨by rw[HN];exact hz,_,r1.append r2,IsTup.new _ _⟩
end
end
section
def ixN(n:Nat)(i:Int):Option Nat:=if 0≤i then(if i<n then some i.toNat else none)else if -(n:Int)≤i then some (i+n).toNat else none
def atI{α:Type}(xs:List α)(i:Int):Option α:=(ixN xs.length i).bind fun j=>xs[j]?
theorem vP(h:ixN n i=some j):seqIndex? i n=some j/\j<n/\-(n:Int)≤i/\i<n:=by
 unfold ixN at h;by_cases h0:0≤i
 ·rw[HP h0]at h;by_cases h1:i<n
  ·rw[HP h1]at h;have e:i.toNat=j:=Im h;exact⟨by rw[seqIndex_of h0 h1,e],by omega,by omega,h1⟩
  ·rw[HM h1]at h;cases h
 ·rw[HM h0]at h;by_cases h1:-(n:Int)≤i
  ·rw[HP h1]at h;have e:(i+n).toNat=j:=Im h;exact⟨by rw[seqIndex_neg (by omega) h1,e],by omega,h1,by omega⟩
  ·rw[HM h1]at h;cases h
theorem nI{xs:List α}{v:α}(h:atI xs i=some v):∃j,seqIndex? i xs.length=some j/\xs[j]?=some v/\j<xs.length/\-(xs.length:Int)≤i/\i<xs.length:=by
 unfold atI at h;cases e:ixN xs.length i with
 | none=>rw[e]at h;cases h
 | some j =>
  rw[e]at h;obtain⟨h1,h2,h3,h4⟩:=vP e;exact⟨j,h1,h,h2,h3,h4⟩
def gL(b:Expr):Prop:=∀o i,subscripted b false o i=operate [o,i] (getItem o i)
def IxR(X:Cx)(r:R2):Prop :=
 ∀(value slice:Expr) (pins:List (Addr×Obj)) (s:Shared) (σ:St) (H:Hp) (x y:V) (v u:Value) (Q:VK),Inv X pins σ H s->RelV x v->RelV y u->r x y H Q ->
  subscripted slice false v u=operate [v,u] (getItem v u)->wpAny (model X.prog X.w) X.A (subscriptTail value slice v u) (EP X pins σ Q) X.xe s
def MtR(X:Cx)(id:String)(r:V->List V->Hp->VK->Prop):Prop :=
 ∀(pins:List (Addr×Obj)) (s:Shared) (σ:St) (H:Hp) (x:V) (xs:List V) (v:Value) (us:List Value) (Q:VK),Inv X pins σ H s->RelV x v->Vals xs us->r x xs H Q ->
  wpAny (model X.prog X.w) X.A (call (.builtin id) (v::us)) (EP X pins σ Q) X.xe s
section
variable {X:Cx}{a b:Expr}{ta tb:TE}{pos:Pos}
theorem IxR.or(h:IxR X r)(h':IxR X r'):IxR X (fun x y H Q=>r x y H Q∨r' x y H Q):=by
 intro value slice pins s σ H x y v u Q I rx ry q hs;rcases q with q | q
 ·exact h value slice pins s σ H x y v u Q I rx ry q hs
 ·exact h' value slice pins s σ H x y v u Q I rx ry q hs
theorem Cg(hr:IxR X r)(ha:PE X a ta)(hb:PE X b tb)(hs:gL b):PE X (.Subscript a b pos) (tOp r ta tb):=by
 intro pins s σ H Q I h;exact Subscript_ (AB ha hb I h fun v u s2 x y H2 I2 rx ry q=>hr a b pins s2 σ H2 x y v u Q I2 rx ry q (hs _ _))
def Bw(K:PySem.W.Frag):R2:=fun x y H Q=>∃p xs i v,x=.ref p/\y=.int i/\SqL K H p xs/\atI xs i=some v/\Q v H
def BK(K:PySem.W.Frag):R2:=fun x y H Q=>∃p xs i v,x=.ref p/\y=.int i/\SqT K H p xs/\atI xs i=some v/\Q v H
theorem ux:IxR X (Bw X.K):=by
 intro value slice pins s σ H x y v u Q I rx ry h hs;obtain⟨p,xs,i,z,rfl,rfl,hq,he,q⟩:=h;cases rx;obtain⟨t,rfl⟩:=ry;obtain⟨its,r,pl,hz⟩:=I.list hq;obtain⟨j,h1,h2,h3,h4,h5⟩:=nI he;obtain⟨w,ew,rw'⟩:=r.get h2;have hl:=r.length;have hn:=mG;have fin:EP X pins σ Q w s:=⟨z,H,I,rw',q⟩;by_cases h0:0≤i
 ·have hj:i.toNat=j:=by
   rw[seqIndex_of h0 h5]at h1;exact Im h1
  exact item_listR pl.isList h0 (by omega) (by rw[hj];simpa using ew) fin hs
 ·have hj:(i+(its.toArray.size:Int)).toNat=j:=by
   rw[seqIndex_neg (by omega) h4]at h1;rw[HS,← hl];exact Im h1
  exact subscriptTail_builtinR (x:=w) pl.isList.typeIs slot_list_getitem.lookup
   (wpAny_getItem_list_neg (Q:=fun r s'=>r=w/\EP X pins σ Q r s') pl.isList (by omega) (by rw[HS]<;>omega) (by omega) (by rw[hj];simpa using ew) ⟨rfl,fin⟩) hs
theorem Ah:IxR X (BK X.K):=by
 intro value slice pins s σ H x y v u Q I rx ry h hs;obtain⟨p,xs,i,z,rfl,rfl,hq,he,q⟩:=h;cases rx;obtain⟨t,rfl⟩:=ry;obtain⟨its,r,pl,hz⟩:=I.tuple hq;obtain⟨j,h1,h2,h3,h4,h5⟩:=nI he;obtain⟨w,ew,rw'⟩:=r.get h2;have hl:=r.length;have hn:=mG;have fin:EP X pins σ Q w s:=⟨z,H,I,rw',q⟩;exact subscriptTail_builtinR (x:=w) pl.typeIs slot_tuple_getitem.lookup
  (getItem_tuple (j:=j) (Q:=fun r s'=>r=w/\EP X pins σ Q r s') pl (by omega) (by omega) (by rw[HS,← hl];exact h1) (by simpa using ew) ⟨rfl,fin⟩) hs
theorem kf(lo hi:Option Int)(n:Nat):(sliceBounds lo hi none n).1=((HT.sIx n 0 lo:Nat):Int)/\(sliceBounds lo hi none n).2.1=((HT.sIx n n hi:Nat):Int)/\(sliceBounds lo hi none n).2.2=1:=by
 refine⟨?_,?_,rfl⟩
 ·cases lo with
  | none=>simp[sliceBounds,HT.sIx]
  | some i =>
   simp only[sliceBounds,HT.sIx,Option.getD_none,show(1:Int)>0 by decide,Kg];by_cases h:i<0
   ·simp only[h,Kg]<;>omega
   ·simp only[h,IU]<;>omega
 ·cases hi with
  | none=>simp[sliceBounds,HT.sIx]
  | some i =>
   simp only[sliceBounds,HT.sIx,Option.getD_none,show(1:Int)>0 by decide,Kg];by_cases h:i<0
   ·simp only[h,Kg]<;>omega
   ·simp only[h,IU]<;>omega
theorem iW(its:List Value)(lo hi:Option Int):slicePick its.toArray lo hi none=((its.drop (HT.sIx its.length 0 lo)).take (HT.sIx its.length its.length hi - HT.sIx its.length 0 lo)).toArray:=by
 obtain⟨h1,h2,h3⟩:=kf lo hi its.toArray.size;unfold slicePick;rw[h1,h2,h3];simp only[sliceRange_one,pick_run,HS]<;>rfl
def FP(K:PySem.W.Frag):V->Option Int->Option Int->Hp->VK->Prop:=fun x lo hi H Q=>∃a xs,x=.ref a/\SqL K H a xs/\∀p,H p=none->Q (.ref p) (upd H p (.lst (lS xs lo hi)))
theorem xD:SlR X (FP X.K):=by
 intro pins s σ H x v vl vu lo hi sl Q I rx hs pl pu h;obtain⟨a,xs,rfl,hx,q⟩:=h;cases rx;obtain⟨its,r,ht,hz⟩:=I.list hx;have hlen:=r.length;refine⟨"list",_,slot_list_getitem.lookup,ht.isList.typeIs,?_⟩;refine wpAny_getItem_list_slice ht.isList hs pl pu .none (by simp) ?_ (by rw[HS]<;>omega);rw[iW,← hlen];refine⟨.ref s.heap.objs.size,_,I.laid (t':=s.toks) (o:=.lst (lS xs lo hi)) (fun b ob q=>Ho _ q) (Hr _) ?_,rfl,q _ (I.hok.fresh (Hr _))⟩;exact⟨HZ (fY xs lo hi) hz,_,0,(r.drop (HT.sIx xs.length 0 lo)).take (HT.sIx xs.length xs.length hi - HT.sIx xs.length 0 lo),Hv _ rfl⟩
theorem aL:bH X (.builtin "len") (fun xs H Q=>∃p ys,xs=[.ref p]/\(SqL X.K H p ys∨SqT X.K H p ys)/\Q (.int ys.length) H):=by
 intro pins s σ H xs us Q I r h;obtain⟨p,ys,rfl,hq,q⟩:=h;obtain⟨u,rfl,rx⟩:=vals1 r;cases rx;have hn:=mG;rcases hq with hq | hq
 ·obtain⟨its,r',pl,hz⟩:=I.list hq;have hlen:=r'.length;exact Calls.call_len_list pl.isList (by simp only[HS]<;>omega) ⟨.int ys.length,H,I.tok _,⟨s.toks+1,by rw[HS,hlen]⟩,q⟩
 ·obtain⟨its,r',pl,hz⟩:=I.tuple hq;have hlen:=r'.length;exact len_tuple pl (by simp only[HS]<;>omega) ⟨.int ys.length,H,I.tok _,⟨s.toks+1,by rw[HS,hlen]⟩,q⟩
theorem kc:bH X (.type "list") (fun xs H Q=>∃p ys,xs=[.ref p]/\(SqL X.K H p ys∨SqT X.K H p ys)/\∀l,H l=none->Q (.ref l) (upd H l (.lst ys))):=by
 intro pins s σ H xs us Q I r h;obtain⟨p,ys,rfl,hq,q⟩:=h;obtain⟨u,rfl,rx⟩:=vals1 r;cases rx;have fin:∀(its:List Value),Vals ys its->ys.length≤sizeLine->∀(h':Heap) (c':Nat),(∀b o',s.heap.get? b=some o'->h'.get? b=some o') ->
   h'.get? s.heap.objs.size=some { cls:=.type "list",dict:=none,data:=.seq its.toArray c',slots:=#[] }->EP X pins σ Q (.ref s.heap.objs.size) { s with heap:=h' }:=fun its r' hz h' c' kp e =>
  ⟨.ref s.heap.objs.size,_,I.laid (t':=s.toks) kp (Hr _) (show aI X.prog X.w _ h' _ (.lst ys)from⟨hz,its,c',r',e⟩),rfl,q _ (I.hok.fresh (Hr _))⟩
 rcases hq with hq | hq
 ·obtain⟨its,r',pl,hz⟩:=I.list hq;have hlen:=r'.length;obtain⟨o,ho,hc,n,hd⟩:=pl.isList;exact call_list_seq p (.inl rfl) ho hc hd (fun h' c' kp e=>fin its r' hz h' c' kp e) (by simp only[HS]<;>omega)
 ·obtain⟨its,r',pl,hz⟩:=I.tuple hq;have hlen:=r'.length;obtain⟨o,ho,hc,n,hd⟩:=pl;exact call_list_seq p (.inr rfl) ho hc hd (fun h' c' kp e=>fin its r' hz h' c' kp e) (by simp only[HS]<;>omega)
theorem bP:bH X (.type "tuple") (fun xs H Q=>∃p ys,xs=[.ref p]/\((SqL X.K H p ys/\∀l,H l=none->Q (.ref l) (upd H l (.tup ys)))∨(SqT X.K H p ys/\Q (.ref p) H))):=by
 intro pins s σ H xs us Q I r h;obtain⟨p,ys,rfl,h⟩:=h;obtain⟨u,rfl,rx⟩:=vals1 r;cases rx;rcases h with⟨hq,q⟩ |⟨hq,q⟩
 ·obtain⟨its,r',pl,hz⟩:=I.list hq;have hlen:=r'.length;refine call_tuple_list pl.isList (fun h' kp=>?_) (by simp only[HS]<;>omega);have I1:Inv X pins σ H { s with heap:=h' }:=I.kept (t':=s.toks) kp;have I2:Inv X pins σ (upd H h'.objs.size (.tup ys)) { s with heap:=h'.push { cls:=.type "tuple",data:=.seq its.toArray } } :=
   I1.laid (t':=s.toks) (fun b o e=>Ho _ e) (Hr _) (show aI X.prog X.w _ _ _ (.tup ys)from⟨hz,its,r',IsTup.new _ _⟩)
  exact⟨.ref h'.objs.size,_,I2,rfl,q _ (I1.hok.fresh (Hr _))⟩
 ·obtain⟨its,r',pl,hz⟩:=I.tuple hq;exact call_tuple_same pl ⟨.ref p,H,I,rfl,q⟩
def tyV(K:PySem.W.Frag)(T:String)(x:V)(H:Hp):Prop:=match x with
 | .str _=>T="str"
 | .int _=>T="int"
 | .ref p=>(T="list"/\∃xs,SqL K H p xs)∨(T="tuple"/\∃o,K.lookup p=some o/\o.cls=.type "tuple"/\o.dict=none) ∨
   (T="dict"/\((∃kvs,H p=some (.dK kvs))∨∃kvs,H p=some (.dT kvs)))∨(T="set"/\∃S n,H p=some (.set S n))
 | _=>False
theorem uj{σ:St}(I:Inv X pins σ H s)(r:RelV x v)(ty:tyV X.K T x H) :
  s.TypeIs v T/\∀a,v=.ref a->∃ob,s.heap.get? a=some ob/\ob.dict=none:=by
 cases x with
 | str z =>
  obtain⟨t,rfl⟩:=r;cases (show T="str" from ty);exact⟨typeIs_str s z t,fun _ e=>nomatch e⟩
 | int i =>
  obtain⟨t,rfl⟩:=r;cases (show T="int" from ty);exact⟨typeIs_int s i t,fun _ e=>nomatch e⟩
 | ref p =>
  cases r;rcases ty with⟨rfl,xs,hq⟩ |⟨rfl,o,hk,hc,hd⟩ |⟨rfl,hk⟩ |⟨rfl,S,n,hk⟩
  ·obtain⟨its,_,pl,_⟩:=I.list hq;refine⟨pl.isList.typeIs,fun a e=>?_⟩;cases e;obtain⟨o,n,e,c,hd,_⟩:=pl;exact⟨o,e,hd⟩
  ·refine⟨⟨o,I.kIn p o hk,hc⟩,fun a e=>?_⟩;cases e;exact⟨o,I.kIn _ o hk,hd⟩
  ·have z:∃o,s.heap.get? p=some o/\o.ExactDict:=by
    rcases hk with⟨kvs,hk⟩ |⟨kvs,hk⟩
    ·obtain⟨_,_,_,_,o,_,_,e,ex,_⟩:=I.hok p _ hk;exact⟨o,e,ex⟩
    ·obtain⟨_,_,_,_,o,_,_,e,ex,_⟩:=I.hok p _ hk;exact⟨o,e,ex⟩
   obtain⟨o,e,ex⟩:=z;refine⟨⟨o,e,ex.1⟩,fun a e2=>?_⟩;cases e2;exact⟨o,e,ex.2.1⟩
  ·obtain⟨o,_,_,_,e,ex,_⟩:=I.hok p _ hk;refine⟨⟨o,e,ex.1⟩,fun a e2=>?_⟩;cases e2;exact⟨o,e,ex.2.1⟩
 | _=>exact False.elim ty
def Gp(K:PySem.W.Frag)(T:String)(r:V->List V->Hp->VK->Prop)(to:TE):TE:=fun σ H Q=>to σ H fun x H1=>tyV K T x H1/\r x [] H1 Q
def tBM(K:PySem.W.Frag)(T:String)(r:V->List V->Hp->VK->Prop)(to:TE)(t:TA):TE:=fun σ H Q=>to σ H fun x H1=>tyV K T x H1/\t σ H1 fun xs H2=>r x xs H2 Q
variable {o e:Expr}{es:List Expr}{to:TE}{t:TA}{name:Str}{apos cpos:Pos}{T id:String}{r:V->List V->Hp->VK->Prop}
theorem yJ(pa:PlainAttrs T)(slot:Slot T name id)(hty:typeOf (.builtin id)=pure (.type "method_descriptor"))(hm:MtR X id r)(ho:PE X o to)
  (hbase:attributeBase o name X.env (eval o X.env)=eval o X.env:=by rfl) (hline:(apos.endLine==cpos.line)=true:=by rfl):PE X (.Call (.Attribute o name apos) [] [] cpos) (Gp X.K T r to):=by
 intro pins s σ H Q I h;refine wpAny_Call_method0_late hbase hline (thn (ho pins s σ H _ I h) fun v s1 y_=>?_);obtain⟨x,H1,I1,r1,ty,q1⟩:=y_;obtain⟨h1,h2⟩:=uj I1 r1 ty;exact⟨T,id,pa,slot,hty,h1,h2,Calls.callWith_builtin rfl (PySem.evalArgs_none (hm pins s1 σ H1 x [] v [] Q I1 r1 .nil q1))⟩
theorem Di(pa:PlainAttrs T)(slot:Slot T name id)(hty:typeOf (.builtin id)=pure (.type "method_descriptor"))(hm:MtR X id r)(ho:PE X o to)(ha:PA X (e::es) t)
  (hbase:attributeBase o name X.env (eval o X.env)=eval o X.env:=by rfl)
  (hfew:((backTo cpos (starEach (e::es) X.env)).all (fun x=>!x.1)&&(backToKw cpos (keywordEach [] X.env)).all (fun x=>x.1.isSome)
   && decide ((e::es).length+([]:List Keyword).length+(if ([]:List Keyword).isEmpty then 0 else 1)<30))=true:=by rfl)
  (hline:(apos.endLine==cpos.line)=true:=by rfl) (hs:starEach (e::es) X.env=(false,eval e X.env)::starEach es X.env:=by rfl) (hplain:(backTo cpos (starEach es X.env)).any (·.1)=false:=by rfl) :
  PE X (.Call (.Attribute o name apos) (e::es) [] cpos) (tBM X.K T r to t):=by
 intro pins s σ H Q I h;refine wpAny_Call_method_late hbase hfew hline rfl (thn (ho pins s σ H _ I h) fun v s1 y_=>?_);obtain⟨x,H1,I1,r1,ty,q1⟩:=y_;obtain⟨h1,h2⟩:=uj I1 r1 ty;refine⟨T,id,pa,slot,hty,h1,h2,?_⟩;have hA:=ha cpos pins s1 σ H1 _ I1 q1;rw[hs]at hA ⊢;refine Calls.callWith_builtin (by show(false||(backTo cpos (starEach es X.env)).any (·.1))=false;rw[hplain]<;>rfl) (Calls.evalArgs_plain ?_);exact thn hA fun us s2 ⟨vs,H2,I2,r2,q2⟩=>hm pins s2 σ H2 x vs v us Q I2 r1 r2 q2
end
end
section
def MtM(X:Cx)(id:String)(r:V->List V->Hp->VK->Prop):Prop :=
 ∀(pins:List (Addr×Obj)) (s:Shared) (σ:St) (H:Hp) (x:V) (xs:List V) (v:Value) (us:List Value) (Q:VK),Inv X pins σ H s->RelV x v->Vals xs us->r x xs H Q ->
  wpAny (model X.prog X.w) X.A (call (.builtin id) (v::us)) (EP X pins σ Q) X.xe s
theorem Vals.one:∀{x:V} {us:List Value},Vals [x] us->∃u,us=[u]/\RelV x u
 | _,_,.cons r .nil=>⟨_,rfl,r⟩
theorem Vals.two:∀{x y:V} {us:List Value},Vals [x,y] us->∃u v,us=[u,v]/\RelV x u/\RelV y v
 | _,_,_,.cons r (.cons q .nil)=>⟨_,_,rfl,r,q⟩
theorem Vals.zero:∀{us:List Value},Vals [] us->us=[]
 | _,.nil=>rfl
theorem Vals.dropLast(h:Vals xs us):Vals xs.dropLast us.dropLast:=by
 induction h with
 | nil=>exact .nil
 | cons r t ih =>
  cases t with
  | nil=>exact .nil
  | cons q t'=>exact .cons r ih
theorem Vals.rep{xs:List V}{us:List Value}(h:Vals xs us):∀k:Nat,Vals (List.replicate k xs).flatten (List.replicate k us).flatten
 | 0=>.nil
 | k+1=>by
  rw[Jk,Jk,JQ,JQ];exact Vals.append h (Vals.rep h k)
theorem mR{α:Type}(l:List α):l.eraseIdx (l.length - 1)=l.dropLast:=by
 induction l with
 | nil=>rfl
 | cons a r ih =>
  cases r with
  | nil=>rfl
  | cons b r =>
   have e:(a::b::r).length - 1=((b::r).length - 1)+1:=by
    have h1:(a::b::r).length=r.length+2:=rfl;have h2:(b::r).length=r.length+1:=rfl;omega
   rw[e,List.eraseIdx_cons_succ,ih]
   all_goals rfl
theorem foldl_rep(its:List Value):∀(k:Nat) (acc:List Value),
  List.foldl (fun x1 x2=>x1++x2) acc.toArray (List.replicate k its.toArray)=(acc++(List.replicate k its).flatten).toArray
 | 0,acc=>by simp
 | k+1,acc=>by
  have e:acc.toArray++its.toArray=(acc++its).toArray:=by simp
  have e2:(acc++its)++(List.replicate k its).flatten=acc++(List.replicate (k+1) its).flatten:=by
   rw[Jk,JQ,List.append_assoc]
  rw[←e2,← foldl_rep its k (acc++its),← e,Jk,List.foldl_cons]
section
variable {X:Cx}{pins:List (Addr×Obj)}{σ:St}{H:Hp}{s:Shared}{l b:Addr}{xs ys zs:List V}
theorem Inv.lset{its its':List Value}(I:Inv X pins σ H s)(hH:H l=some (.lst xs))
  (e:s.heap.get? l=some { cls:=.type "list",data:=.seq its.toArray n }) (hf:f its.toArray=its'.toArray) (hv:Vals ys its') (hz:ys.length≤sizeLine) :
  Inv X pins σ (upd H l (.lst ys)) { s with heap:=s.heap.update l (Obj.mapSeq f),toks:=t' }:=by
 have q:=PySem.IsL.update e f;rw[hf]at q;refine I.write (x:=l) (e:=l) (by rw[hH];exact trivial) (.inl rfl) (fun b' u hb hu=>(Heap.get?_update_other s.heap (Obj.mapSeq f) (Ne.symm hb)).trans hu) ⟨_,q⟩ ?_;exact⟨hz,its',_,hv,q⟩
theorem Inv.lnew(I:Inv X pins σ H s)(hv:Vals ys its)(hz:ys.length≤sizeLine) :
  Inv X pins σ (upd H s.heap.objs.size (.lst ys)) { s with heap:=s.heap.push { cls:=.type "list",data:=.seq its.toArray },toks:=t' } :=
 I.laid (fun _ _ q=>Ho _ q) (Hr _) ⟨hz,its,0,hv,Hv _ rfl⟩
theorem Inv.fresh(I:Inv X pins σ H s):H s.heap.objs.size=none:=I.hok.fresh (Hr _)
theorem Inv.lstM(I:Inv X pins σ H s)(hH:H l=some (.lst xs)):xs.length≤sizeLine/\∃(its:List Value) (n:Nat),Vals xs its/\xs.length=its.length/\s.heap.get? l=some { cls:=.type "list",data:=.seq its.toArray n }:=by
 obtain⟨z,its,n,r,e⟩:=I.hok l _ hH;exact⟨z,its,n,r,r.length,e⟩
theorem h9(h:n≤sizeLine):Builtin.List.listTooLong n=false:=by
 unfold Builtin.List.listTooLong;exact Iz (by omega)
end
section
variable {X:Cx}
def oI:V->List V->Hp->VK->Prop:=fun x vs H Q=>∃l xs y,x=.ref l/\vs=[y]/\H l=some (.lst xs)/\xs.length<sizeLine/\Q .non (upd H l (.lst (xs++[y])))
theorem bL:MtM X "list.append" oI:=by
 intro pins s σ H x vs v us Q I rx rv h;obtain⟨l,xs,y,rfl,rfl,hH,hz,q⟩:=h;cases rx;obtain⟨u,rfl,ru⟩:=rv.one;obtain⟨z,its,n,r,hl,e⟩:=I.lstM hH;refine call_meets F.slot_list_append ⟨_,e,rfl⟩ F.entry_list_append (F.args_list_append_2 _ _) (PySem.list_append l its.toArray n u (by rw[HS];omega)) ⟨e,?_⟩;refine⟨.non,_,I.lset (its':=its++[u]) hH e (by simp) (r.append (.cons ru .nil)) ?_,rfl,q⟩;rw[HN,IY];omega
def nM:V->List V->Hp->VK->Prop:=fun x vs H Q=>∃l b xs zs,x=.ref l/\vs=[.ref b]/\H l=some (.lst xs)/\H b=some (.lst zs)/\xs.length+zs.length≤sizeLine/\Q .non (upd H l (.lst (xs++zs)))
theorem pX:MtM X "list.extend" nM:=by
 intro pins s σ H x vs v us Q I rx rv h;obtain⟨l,b,xs,zs,rfl,rfl,hH,hB,hz,q⟩:=h;cases rx;obtain⟨u,rfl,ru⟩:=rv.one;cases ru;obtain⟨z,its,n,r,hl,e⟩:=I.lstM hH;obtain⟨z2,its2,n2,r2,hl2,e2⟩:=I.lstM hB;have hsz:its.toArray.size+its2.toArray.size≤sizeLine:=by rw[HS,HS];omega
 have hlong:¬(!its.toArray.isEmpty&&Builtin.List.listTooLong (its.toArray.size+its2.toArray.size))=true:=by
  rw[h9 hsz,Bool.and_false];exact Jh
 refine call_meets F.slot_list_extend ⟨_,e,rfl⟩ F.entry_list_extend (F.args_list_extend_2 _ _)
  (AutoSeq1.list_extend_list_list_0 l its.toArray n b its2.toArray n2 hlong (by rw[HS];omega) (by omega)) ⟨e,e2,?_⟩
 refine⟨.non,_,I.lset (its':=its++its2) hH e (by simp) (r.append r2) ?_,rfl,q⟩;rw[HN];omega
def Cw:V->List V->Hp->VK->Prop:=fun x vs H Q=>∃l xs y,x=.ref l/\vs=[]/\H l=some (.lst xs)/\xs[xs.length - 1]?=some y/\Q y (upd H l (.lst xs.dropLast))
theorem jO:MtM X "list.pop" Cw:=by
 intro pins s σ H x vs v us Q I rx rv h;obtain⟨l,xs,y,rfl,rfl,hH,hy,q⟩:=h;cases rx;have hus:=rv.zero;subst hus;obtain⟨z,its,n,r,hl,e⟩:=I.lstM hH;obtain⟨u,hu,ru⟩:=r.get hy;have hy':its.toArray[its.toArray.size - 1]?=some u:=by
  show its.toArray[its.length - 1]?=some u;rw[←Iu,← hl];exact hu
 refine call_meets F.slot_list_pop ⟨_,e,rfl⟩ F.entry_list_pop (F.args_list_pop_1 _) (MeetsSeq.list_pop_last l its.toArray n u hy' (by rw[HS];omega)) ⟨e,?_⟩;refine⟨y,_,I.lset (its':=its.dropLast) hH e ?_ r.dropLast ?_,ru,q⟩
 ·show its.toArray.eraseIdxIfInBounds (its.toArray.size - 1)=its.dropLast.toArray;rw[HS,List.eraseIdxIfInBounds_toArray,mR]
 ·rw[JN];omega
def Cy:R2:=fun x y H Q=>∃l b xs zs,x=.ref l/\y=.ref b/\H l=some (.lst xs)/\H b=some (.lst zs)/\xs.length+zs.length≤sizeLine/\∀p,H p=none->Q (.ref p) (upd H p (.lst (xs++zs)))
theorem BB:OpR X (binaryOp .Add) Cy:=by
 intro pins s σ H x y v u Q I rx ry h;obtain⟨l,b,xs,zs,rfl,rfl,hH,hB,hz,q⟩:=h;cases rx;cases ry;obtain⟨z,its,n,r,hl,e⟩:=I.lstM hH;obtain⟨z2,its2,n2,r2,hl2,e2⟩:=I.lstM hB;refine PySem.P.add_list e e2 ?_ (by rw[HS,HS];omega);have ea:its.toArray++its2.toArray=(its++its2).toArray:=by simp
 rw[ea];exact⟨.ref _,_,I.lnew (t':=s.toks) (r.append r2) (by rw[HN];omega),rfl,q _ I.fresh⟩
def D0:R2:=fun x y H Q=>∃l k xs,x=.ref l/\y=.int k/\H l=some (.lst xs)/\-(2 ^ 63)≤k/\k<2 ^ 63/\xs.length*k.toNat≤sizeLine /\
 ∀p,H p=none->Q (.ref p) (upd H p (.lst (List.replicate k.toNat xs).flatten))
theorem len_rep{α:Type}(xs:List α)(k:Nat):(List.replicate k xs).flatten.length=k*xs.length:=by
 induction k with
 | zero=>simp
 | succ k ih=>rw[Jk,JQ,HN,ih,Nat.succ_mul,Nat.add_comm]
theorem Bi:OpR X (binaryOp .Mult) D0:=by
 intro pins s σ H x y v u Q I rx ry h;obtain⟨l,k,xs,rfl,rfl,hH,h1,h2,hz,q⟩:=h;cases rx;obtain⟨t,rfl⟩:=ry;obtain⟨z,its,n,r,hl,e⟩:=I.lstM hH;have hlen:its.toArray.size*k.toNat≤sizeLine:=by rw[HS,← hl];exact hz
 have hcap:¬its.toArray.size*k.toNat>(2 ^ 63 - 1) / 8:=by
  have:(sizeLine:Nat)≤(2 ^ 63 - 1) / 8:=by decide
  omega
 have hfit:¬(!Builtin.List.listFitsIndex k)=true:=by
  rw[fitsIndex_both h1 h2];exact Jh
 have hlong:¬Builtin.List.listTooLong (its.toArray.size*k.toNat)=true:=by
  rw[h9 hlen];exact Jh
 have hnew:List.foldl (fun x1 x2=>x1++x2) #[] (List.replicate (if its.toArray.isEmpty=true then 0 else k.toNat) its.toArray)=(List.replicate k.toNat its).flatten.toArray:=by
  have f0:∀m:Nat,List.foldl (fun x1 x2=>x1++x2) #[] (List.replicate m its.toArray)=(List.replicate m its).flatten.toArray:=fun m=>by
   have:=foldl_rep its m [];rw[List.nil_append]at this;exact this
  rw[f0];cases its with
  | nil=>simp
  | cons a r'=>rw[HM (by simp)]
 refine wpAny_binaryOp_repeat_ref (T:="list") (U:="int") (by decide) ⟨_,e,rfl⟩ (fun s'=>typeIs_int s' k t) noFill_list_mul F.fills_int_mul F.slot_int_rmul repeat_list F.slot_int_index.lookup
  (call_meets F.slot_int_rmul (typeIs_int s k t) F.entry_int_rmul (F.args_int_rmul_2 _ _) (int___rmul___int_list k t l its.toArray n)
   ⟨e,rfl,⟨_,e,rfl⟩,call_meets F.slot_list_mul ⟨_,e,rfl⟩ F.entry_list_mul (F.args_list_mul_2 _ _) (AutoListH.list___mul___list_int_3 l its.toArray n k t hfit hcap hlong) ⟨e,?_⟩⟩)
 rw[hnew];exact⟨.ref _,_,I.lnew (t':=s.toks) (r.rep k.toNat) (by rw[len_rep,Nat.mul_comm];exact hz),rfl,q _ I.fresh⟩
end
section
variable {prog:Program}{w:World}{A:Around}{E:Value->Shared->Prop}{s:Shared}
end
section
variable {X:Cx}
end
end
end L2
namespace Att
open PySem.W PySem.Calls
theorem gx:∀(ns:List Int) (vs:List Value),WellAll P h vs (ns.map WData.int)->IntsAre vs ns:=by
 intro ns
 induction ns with
 | nil =>
  intro vs w;rw[J0]at w;cases w;exact .nil
 | cons n ns ih =>
  intro vs w;rw[HV]at w;cases w with
  | cons a b =>
   cases a;exact .cons _ _ (ih _ b)
theorem pA{l:OpenLaw}(hn:l.most=some n){P:Params}{h:Heap}{args:List WData}{vals:List Value}
  (hpre:l.row.toRowW.claim.pre args=true) (hwl:WellAll P h vals args) :
  ∃a vs ns,vals=[Value.ref a]/\args=[WData.list (ns.map WData.int)]/\h.get? a=some { cls:=.type "list",data:=.seq vs.toArray }/\IntsAre vs ns/\ns.length≤n:=by
 have hsh:WShape.hasAll [] args [.list .int]=true:=(pre_splitW hpre).1;have hc:l.pre.holds [] { args:=args }=true:=(pre_splitW hpre).2;obtain⟨d,r,rfl,h1,h2⟩:=hasAllW_cons hsh;obtain rfl:=hasAllW_nil h2;obtain⟨xs,rfl,h3⟩:=hasW_list h1;obtain⟨ns,rfl⟩:=items_int h3;have hlen:ns.length≤n:=by
  unfold OpenLaw.pre at hc;have h4:(WTm.not (.lt (.lit (.int (n:Int))) (.len (.arg 0)))).holds [] { args:=[.list (ns.map .int)] }=true:=by
   have h4:=(holds_andW hc).1;rw[hn]at h4;exact h4
  have h5:=condW_of h4 (w_not (w_lt w_lit (w_len_list (w_arg rfl))));rw[Hm]at h5;refine Nat.le_of_not_lt fun q=>?_;have q':(n:Int)<((ns.length:Nat):Int):=by omega
  first
   |(rw[ID q']at h5;exact absurd h5 (by decide))
   |(simp at h5;omega)
 cases hwl with
 | cons w1 w2 =>
  cases w2;cases w1 with
  | list ho hall=>exact⟨_,_,ns,rfl,rfl,ho,gx ns _ hall,hlen⟩
theorem pV(l:OpenLaw)(args:List WData):l.row.toRowW.claim.post args (.bool true) args=true :=
 postW_of (r:=l.row.toRowW) (X:=(true==true))
  (show WShape.has [] (.bool true) .bool=true by first | rfl | decide | simp[WShape.has,WShape.arms,WShape.armsAll])
  (show(WTm.eq .res (.lit (.bool true))).value [] { args:=args,res:=some (.bool true),after:=args }=some (.bool (true==true))from w_eq_bool (w_res rfl) w_lit) rfl
theorem kI{l:OpenLaw}
  (hn:l.most=some n) (hdf:d.params.defaults=[])
  (call:∀(w:World) (s₀ s₁:Shared) (mg mb:Str->Option Value) (fa:Addr) (o:Obj) (pm cd doc:Value) (a:Addr) (vs:List Value) (ns:List Int),
   Ground q loose [] XP w s₀ mg mb s₁.heap->YP w s₁.heap ->
   s₁.heap.get? fa=some o->o.data=.func (docDef d.name d.params d.body d.scope pm cd doc)->s₁.heap.CodeRec cd d.name->mg d.name=some (.ref fa) ->
   s₁.heap.get? a=some { cls:=.type "list",data:=.seq vs.toArray }->IntsAre vs ns->ns.length≤n->s₁.gens=#[] ->
   codeAny (model l.prog w) callerA (.call (.ref fa) ⟨[.ref a],[]⟩) (fun r s'=>r=.ok (.ret (.bool true))/\OldK s₁.heap s'.heap/\s'.os=s₁.os/\AllBare s'.gens) s₁) :
  WalkO q loose XP YP l.row.toRowW d [] (fun f vs=>PySem.call f vs):=by
 intro w s₀ s₁ mg mb G Y fa o pm cd doc dV kV ho hd hcd hD hmg hg args vals as hpre hlay hrd hwl hlo;obtain rfl:dV=.none:=Dflts.none hD hdf;obtain rfl:kV=.none:=Dflts.noKw hD;obtain⟨a,vs,ns,rfl,rfl,hobj,hints,hlen⟩:=pA hn hpre hwl;refine enter_call (Kj (call w s₀ s₁ mg mb fa o pm cd doc a vs ns G Y ho (fd_plain hd) hcd hmg hobj hints hlen hg) fun r s' hq=>?_);obtain⟨rfl,h2,h3,h4⟩:=hq;exact⟨.inl ⟨.bool true,.bool true,[],rfl,fun _=>rfl,.bool true,pV l _,fun _=>⟨List.Pairwise.nil,fun _ hm=>(nomatch hm)⟩⟩,h2,h3,h4⟩
section
variable {prog:Program}{w:World}{A:Around}{E:Value->Shared->Prop}{s:Shared}{K:Frag}
def ledger(h:Heap)(L d:Addr):List (Addr×Obj):=(List.range h.objs.size).filterMap fun a=>if a=L∨a=d then none else(h.get? a).map fun o=>(a,o)
end
end Att
namespace L2
section
theorem fG:∀{vs:List Value} {ns:List Int},IntsAre vs ns->Vals (ns.map V.int) vs
 | _,_,.nil=>.nil
 | _,_,.cons n t h=>.cons ⟨t,rfl⟩ (fG h)
def qo(H:Hp):Prop:=∀b,H b=none∨∃o xs,H b=some (.frz o (.lst xs))
theorem sh{K:PySem.W.Frag}
  (KX:K.In s₁.heap) (hns:s₁.heap.Ns mainGlobals mg) (hb:s₁.heap.Ns builtinsNs mb) (hbb:∀x:Str,x≠"__name__"->mb x=bootBuiltins x) (hlim:s₁.heap.NoLimit) (hg:s₁.gens=#[])
  (ha:s₁.heap.get? a=some { cls:=.type "list",data:=.seq vs.toArray }) (hi:IntsAre vs ns) (hl:ns.length≤sizeLine) (hr:bA k callerA)
  (F:∀base:Heap,K.In base->base.Ns mainGlobals mg->iK P w K mg base CX k fa fd [x] sp) (hbind:∀(s:Shared) (u:Value),BindsTo s fd ⟨[u],[]⟩ [(x,u)])
  (hsp:∀H:Hp,qo H->SqL K H a (ns.map V.int)->sp [.ref a] H (fun v _=>v=.bl true) fun _ _ _=>False)
  (hCX:∀H e s',CX [] H s₁ (fun _ _ _=>False) e s'->False) :
  codeAny (model P w) callerA (.call (.ref fa) ⟨[.ref a],[]⟩) (fun r s'=>r=.ok (.ret (.bool true))/\OldK s₁.heap s'.heap/\s'.os=s₁.os/\AllBare s'.gens) s₁:=by
 have rv:=fG hi;have lenV:=hi.length;have core:∀H:Hp,qo H->SqL K H a (ns.map V.int)->HOk P w H s₁.heap->(∀b,H b≠none->b=a)->(H a≠none->K.lookup a=none) ->
   codeAny (model P w) callerA (.call (.ref fa) ⟨[.ref a],[]⟩) (fun r s'=>r=.ok (.ret (.bool true))/\OldK s₁.heap s'.heap/\s'.os=s₁.os/\AllBare s'.gens) s₁:=by
  intro H hO hS hok hA hK;have base_of:∀{b:Addr} {o:Obj},s₁.heap.get? b=some o->H b=none->(jF s₁.heap H).get? b=some o:=fun e n=>uk e n;have noA:∀{b:Addr} {o:Obj} {es:Array DictEntry} {ep:Nat},s₁.heap.get? b=some o->o.data=.dict es ep->H b=none:=fun {b o es ep} e d=>by
   cases q:H b with
   | none=>rfl
   | some u =>
    have e':b=a:=hA b (by rw[q];simp);subst e';rw[ha]at e;cases e;have d':Data.seq vs.toArray _=Data.dict es ep:=d;cases d'
  have nsK:∀{b:Addr} {m:Str->Option Value},s₁.heap.Ns b m->(jF s₁.heap H).Ns b m:=fun {b m} ⟨o,es,ep,e,d,r⟩=>⟨o,es,ep,base_of e (noA e d),d,r⟩;have hKb:K.In (jF s₁.heap H):=fun b o e=>base_of (KX b o e) (by
   cases q:H b with
   | none=>rfl
   | some u =>
    have e':b=a:=hA b (by rw[q];simp);subst e';rw[hK (by rw[q];simp)]at e;cases e)
  have hM:Mod K mg (jF s₁.heap H):=⟨hKb,nsK hns,⟨mb,nsK hb,hbb⟩,let ⟨mc,h1,h2⟩:=hlim;⟨mc,nsK h1,h2⟩⟩;have e0:mr P w K mg (jF s₁.heap H) callerA [] s₁ H:=⟨rfl,hM,fun b o e=>wH e,Nat.le_of_eq (pS _ _),trivial,fun b hb=>absurd (show b∈([]:List Addr)from hb) (by simp),hok,.of_eq hg⟩;refine Kj ((F _ hKb (nsK hns)).run callerA [] s₁ H ⟨[.ref a],[]⟩ [.ref a] [.ref a] _ _ hr e0 (hbind s₁ (.ref a)) (.cons rfl .nil) (hsp H hO hS)) fun r s' h=>?_;cases r with
  | error e=>exact(hCX H e s' h).elim
  | ok fl =>
   cases fl with
   | next=>exact False.elim h
   | brk=>exact False.elim h
   | cont=>exact False.elim h
   | ret u =>
    obtain⟨v,H',os,bare,un,hok',r',q⟩:=h;have q':v=.bl true:=q;subst q';obtain rfl:u=Value.bool true:=r';refine⟨rfl,OldK.of_keep fun b o e=>?_,os,bare⟩;cases q:H b with
    | none=>exact un.keep b o e q (by intro z;exact absurd (show b∈([]:List Addr)from z) (by simp)) (by simp)
    | some u =>
     rcases hO b with z |⟨ob,xs,z⟩
     ·rw[q]at z;cases z
     ·have z2:=un.frzs b ob _ z;obtain⟨e1,_⟩:=hok b _ z;obtain⟨e2,_⟩:=hok' b _ z2;rw[e]at e1;cases e1;exact e2
 cases hk:K.lookup a with
 | some o =>
  have e:=KX a o hk;rw[ha]at e;cases e;refine core (fun _=>none) (fun _=>.inl rfl) (.inr ⟨_,vs.toArray,_,hk,rfl,rfl,rfl,by rw[HS,lenV];exact hl,by simpa using rv⟩) (fun b u z=>by have z':(none:Option HO)=some u:=z;cases z') (fun b z=>absurd rfl z) fun z=>absurd rfl z
 | none =>
  refine core (fun b=>if b=a then some (.frz { cls:=.type "list",data:=.seq vs.toArray } (.lst (ns.map V.int)))else none) (fun b=>?_) (.inl (.inr ⟨{ cls:=.type "list",data:=.seq vs.toArray },HP rfl⟩)) (fun b u z=>?_) (fun b z=>?_) fun _=>hk
  ·by_cases hb:b=a
   ·exact .inr ⟨_,_,HP hb⟩
   ·exact .inl (HM hb)
  ·by_cases hb:b=a
   ·have z':=(HP hb).symm.trans z;cases z';subst hb;exact⟨ha,by rw[Hm];exact hl,vs,_,rv,ha⟩
   ·have z':=(HM hb).symm.trans z;cases z'
  ·by_cases hb:b=a
   ·exact hb
   ·exact absurd (HM hb) z
end
section
abbrev KOf{K:PySem.W.Frag}{h:Heap}(_:K.In h):PySem.W.Frag:=K
theorem eQ{l:PySem.W.OpenLaw}{n k:Nat}{q:Program}{loose:List Str}{XP:(Str->Option Value)->Heap->Prop}{YP:World->Heap->Prop}{d:DefRec}{K:Params->PySem.W.Frag}{CX:World->CXT}{sp:World->Sp}{x:Str}
  (hn:l.most=some n) (hn2:n≤sizeLine) (hdf:d.params.defaults=[]) (hr:bA k callerA)
  (hY:∀(w:World) (h:Heap),YP w h->(K w.params).In h)
  (F:∀(w:World) (mg:Str->Option Value) (fa:Addr) (h:Heap),(K w.params).In h->h.Ns mainGlobals mg->mg d.name=some (.ref fa) ->
   ∃fd:FuncData,(∀(s:Shared) (u:Value),BindsTo s fd ⟨[u],[]⟩ [(x,u)]) /\
    ∀base:Heap,(K w.params).In base->base.Ns mainGlobals mg->iK l.prog w (K w.params) mg base (CX w) k fa fd [x] (sp w))
  (hsp:∀(w:World) (H:Hp) (a:Addr) (ns:List Int),ns.length≤n->qo H->SqL (K w.params) H a (ns.map V.int)->sp w [.ref a] H (fun v _=>v=.bl true) fun _ _ _=>False)
  (hCX:∀(w:World) (H:Hp) (s:Shared) (e:Value) (s':Shared),CX w [] H s (fun _ _ _=>False) e s'->False) :
  PySem.W.WalkO q loose XP YP l.row.toRowW d [] (fun f vs=>PySem.call f vs):=by
 refine Att.kI hn hdf fun w s₀ s₁ mg mb fa o pm cd doc a vs ns G Y ho hd hcd hmg hobj hints hlen hg=>?_;have KX:=hY w _ Y;obtain⟨fd,hb,hF⟩:=F w mg fa _ KX G.T.g hmg;exact sh KX G.T.g G.T.b G.T.builtins G.T.nolimit hg hobj hints (HZ hlen hn2) hr hF hb (fun H hO hS=>hsp w H a ns hlen hO hS) fun H e s'=>hCX w H s₁ e s'
theorem qz{l:PySem.W.OpenLaw}{K:Params->PySem.W.Frag}{sp:PySem.W.Frag->Sp}
  (hn:l.most=some n) (hn2:n≤sizeLine) (hdf:d.params.defaults=[]) (hr:bA k callerA)
  (hY:∀(w:World) (h:Heap),YP w h->(K w.params).In h)
  (F:∀(w:World) (mg:Str->Option Value) (fa:Addr) (h:Heap),(K w.params).In h->h.Ns mainGlobals mg->mg d.name=some (.ref fa) ->
   ∃fd:FuncData,(∀(s:Shared) (u:Value),BindsTo s fd ⟨[u],[]⟩ [(x,u)]) /\
    ∀base:Heap,(K w.params).In base->base.Ns mainGlobals mg->iK l.prog w (K w.params) mg base CX k fa fd [x] (sp (K w.params)))
  (hsp:∀(K:PySem.W.Frag) (H:Hp) (a:Addr) (ns:List Int),ns.length≤n->qo H->SqL K H a (ns.map V.int)->sp K [.ref a] H (fun v _=>v=.bl true) fun _ _ _=>False)
  (hCX:∀(H:Hp) (s:Shared) (e:Value) (s':Shared),CX [] H s (fun _ _ _=>False) e s'->False) :
  PySem.W.WalkO q loose XP YP l.row.toRowW d [] (fun f vs=>PySem.call f vs) :=
 eQ (K:=K) (CX:=fun _=>CX) (sp:=fun w=>sp (K w.params)) hn hn2 hdf hr hY F (fun w H a ns h1 h2 h3=>hsp (K w.params) H a ns h1 h2 h3) fun _ H s e s'=>hCX H s e s'
end
section
def inClass(s:Stmt)(j:Nat):Stmt:=match s with
 | .ClassDef _ _ _ body _ _ _ _ _ _ _=>body.getD j (.Pass ⟨0,0,0,0⟩)
 | _=>.Pass ⟨0,0,0,0⟩
def gP(s:Stmt):Arguments:=match s with
 | .FunctionDef _ a _ _ _ _ _ _ _ _=>a
 | _=>{ posonlyargs:=[],args:=[],vararg:=none,kwonlyargs:=[],kw_defaults:=[],kwarg:=none,defaults:=[] }
def cO(s:Stmt):List Stmt:=match s with
 | .FunctionDef _ _ b _ _ _ _ _ _ _=>b
 | _=>[]
def aw(s:Stmt):Scope:=match s with
 | .FunctionDef _ _ _ _ _ _ sc _ _ _=>sc
 | _=>{ kind:=.function,names:=[],isGenerator:=false,isCoroutine:=false }
abbrev CX0:CXT:=fun _ _ _ _ _ _=>False
abbrev E0:XK:=fun _ _ _=>False
theorem rC:Passes CX0 X E0:=fun _ _ _ _ _ _ _ h=>h.elim
structure Fun (K:PySem.W.Frag) (x qual:Str) (st:Stmt) (f:Addr) (fd:FuncData):Prop where
 ex:∃(oc:Value) (od:Option Addr) (kV doc pm:Value) (an:Option Addr) (cdv ct:Value) (osl:Array (Option Value)),
  fd=PySem.W.fnOf x qual (gP st) (cO st) (aw st) .none kV doc pm an cdv ct/\K.lookup f=some ⟨oc,od,.func fd,osl⟩/\PySem.W.codeIn K cdv qual=true
 kp:PySem.W.keepIn K (.ref f)=true
section
variable {P:Program}{w:World}{K:PySem.W.Frag}{mg:Str->Option Value}{base:Heap}
theorem Fun.ok{st:Stmt}(F:Fun K x qual st f fd)(S:aC N ps (aw st))(len:∀vs H Q E,sp vs H Q E->vs.length=ps.length)
  (hbody:∀(cdv:Value) (A:Around) (outer:List Env) (s:Shared) (H:Hp) (vs:List V) (Q:VK) (E:XK),bA k (A.deeper (envOfC qual (aw st) s.heap.objs.size f cdv))->sp vs H Q E ->
   ∃t,PSs (m4 CX0 P w K mg base N qual (aw st) f cdv A outer s H E).nox (cO st) t/\t { nx:=fun _ H'=>Q .non H',rt:=Q } (start N vs) H):iK P w K mg base CX0 (k+1) f fd ps sp:=by
 obtain⟨oc,od,kV,doc,pm,an,cdv,ct,osl,rfl,lk,hcd⟩:=F.ex;refine CT lk hcd S len fun A outer s H vs Q E hr hsp=>?_;obtain⟨t,h,q⟩:=hbody cdv A outer s H vs Q E hr hsp;exact⟨t,h.nox,q⟩
theorem Fun.binds{st:Stmt}(F:Fun K x qual st f fd)
  (h:∀(kV doc pm:Value) (an:Option Addr) (cdv ct:Value) (us:List Value),us.length=ps.length->bindArgs (PySem.W.fnOf x qual (gP st) (cO st) (aw st) .none kV doc pm an cdv ct) ⟨us,[]⟩=pure (ps.zip us)):Binds K fd ps []:=by
 obtain⟨oc,od,kV,doc,pm,an,cdv,ct,osl,rfl,lk,hcd⟩:=F.ex;exact .all (h kV doc pm an cdv ct)
theorem zN{st:Stmt}{kV doc pm cdv ct:Value}(l:K.lookup f=some ⟨oc,od,.func (PySem.W.fnOf x qual (gP st) (cO st) (aw st) .none kV doc pm an cdv ct),osl⟩)
  (c:PySem.W.codeIn K cdv qual=true) (k:PySem.W.keepIn K (.ref f)=true):Fun K x qual st f (PySem.W.fnOf x qual (gP st) (cO st) (aw st) .none kV doc pm an cdv ct):=⟨⟨oc,od,kV,doc,pm,an,cdv,ct,osl,rfl,l,c⟩,k⟩
end
theorem aW(h:n≤1000):n<sizeLine:=Nat.lt_of_le_of_lt h (by decide)
section
variable {X:Cx}
theorem pv(i:Nat){x:Str}{pos:Pos}(hN:X.N[i]?=some x:=by rfl)(hv:Vis X.env.scope x:=by first | exact Or.inl rfl | exact Or.inr (Or.inl rfl) | exact Or.inr (Or.inr rfl))(hd:(x==("__debug__":Str))=false:=by decide)
  (hcd:(x==("__classdict__":Str))=false:=by decide):PE X (.Name x pos) (Cu i):=AE hN hv hd hcd
end
theorem r0{A B:Prop}(h:B):if false=true then A else B:=by
 rw[HM Jh];exact h
theorem sO{A B:Prop}(h:A):if true=true then A else B:=by
 rw[HP rfl];exact h
end
end L2
set_option Elab.async false
namespace L2
section
variable {κ:Type}[DecidableEq κ]
def cx(kvs:List (κ×V))(k:κ):Option V:=(kvs.find? fun kv=>decide (kv.1=k)).map (·.2)
def putK(kvs:List (κ×V))(k:κ)(v:V):List (κ×V) :=
 if (kvs.any fun kv=>decide (kv.1=k))=true then kvs.map (fun kv=>if kv.1=k then(kv.1,v)else kv)else kvs++[(k,v)]
theorem cY{p:κ×V}{r:List (κ×V)}{k:κ}(e:p.1=k):cx (p::r) k=some p.2:=by simp[cx,IS,e]
theorem cX{p:κ×V}{r:List (κ×V)}{k:κ}(e:¬p.1=k):cx (p::r) k=cx r k:=by simp[cx,IS,e]
theorem kA(k:κ):∀kvs:List (κ×V),(kvs.any fun kv=>decide (kv.1=k))=(cx kvs k).isSome
 | []=>rfl
 | p::r=>by
  rw[List.any_cons];by_cases e:p.1=k
  ·simp only[cY e,ID e,Bool.true_or,Option.isSome_some]
  ·rw[cX e,Iz e,Bool.false_or];exact kA k r
theorem gq(kvs:List (κ×V))(k:κ)(v:V):(putK kvs k v).length≤kvs.length+1:=by
 unfold putK;split
 ·rw[Hm];omega
 ·rw[HN,Ig,JX];omega
theorem dC.isSome_eq(r:dC o u):o.isSome=u.isSome:=by
 cases o with
 | none=>cases u with
  | none=>rfl
  | some _=>exact(show False from r).elim
 | some _=>cases u with
  | none=>exact(show False from r).elim
  | some _=>rfl
theorem KV.val{kvs:List (κ×V)}{vs:List (κ×Value)}(r:KV kvs vs)(k:κ):dC (cx kvs k) (valueAt vs k):=by
 unfold KV at r
 induction r with
 | nil=>exact True.intro
 | @cons p q ps qs h t ih =>
  obtain⟨h1,h2⟩:=h;by_cases e:p.1=k
  ·have e':q.1=k:=h1.symm.trans e;have b:valueAt (q::qs) k=some q.2:=by simp[valueAt,IS,e']
   rw[cY e,b];exact h2
  ·have e':¬q.1=k:=fun z=>e (h1.trans z);have b:valueAt (q::qs) k=valueAt qs k:=by simp[valueAt,IS,e']
   rw[cX e,b];exact ih
theorem KV.any{kvs:List (κ×V)}{vs:List (κ×Value)}(r:KV kvs vs)(k:κ):(kvs.any fun kv=>decide (kv.1=k))=vs.any fun kv=>decide (kv.1=k):=by
 unfold KV at r
 induction r with
 | nil=>rfl
 | cons h t ih=>rw[List.any_cons,List.any_cons,ih,h.1]
theorem KV.repl{kvs:List (κ×V)}{vs:List (κ×Value)}(r:KV kvs vs)(k:κ){y:V}{u:Value}(ry:RelV y u) :
  KV (kvs.map fun kv=>if kv.1=k then(kv.1,y)else kv) (vs.map fun kv=>if kv.1=k then(kv.1,u)else kv):=by
 unfold KV at r ⊢
 induction r with
 | nil=>exact .nil
 | @cons p q ps qs h t ih =>
  rw[HV,HV];refine .cons ?_ ih;obtain⟨h1,h2⟩:=h;by_cases e:p.1=k
  ·rw[HP e,HP (h1.symm.trans e)];exact⟨h1,ry⟩
  ·rw[HM e,HM (fun z=>e (h1.trans z))];exact⟨h1,h2⟩
theorem KV.put{kvs:List (κ×V)}{vs:List (κ×Value)}(r:KV kvs vs)(k:κ){y:V}{u:Value}(ry:RelV y u):KV (putK kvs k y) (stored vs k u):=by
 unfold putK stored;rw[r.any k];by_cases e:(vs.any fun kv=>decide (kv.1=k))=true
 ·rw[HP e,HP e];exact r.repl k ry
 ·rw[HM e,HM e];exact Paired.snoc r ⟨rfl,ry⟩
theorem KV.length{kvs:List (κ×V)}{vs:List (κ×Value)}(r:KV kvs vs):kvs.length=vs.length:=Paired.length r
end
theorem lj(r:RelV (kV k) u):(aJ P w).is k u=true:=by
 cases k with
 | inl i=>obtain⟨t,e⟩:=(show ∃t,u=Value.int i t from r);subst e;exact lB P w i t
 | inr x=>obtain⟨t,e⟩:=(show ∃t,u=Value.str x t from r);subst e;exact kz P w x t
theorem jd{P:Program}{w:World}:∀{ks:List Key} {us:List Value},Vals (ks.map kV) us->ItemsAre (aJ P w) ks us
 | [],_,r=>by rw[J0]at r;cases r;exact .nil
 | k::ks,_,r=>by
  rw[HV]at r;cases r with
  | cons h t=>exact .cons (lj h) (jd t)
abbrev KT(H:Hp):List (List Key×V)->List (List Key×Addr×Value)->Prop:=Paired fun p q=>p.1=q.1/\H q.2.1=some (.tup (p.1.map kV))/\RelV p.2 q.2.2
theorem KT.val(r:KT H kvs xs)(k:List Key):dC (cx kvs k) ((atKey xs k).map (·.2)):=by
 induction r with
 | nil=>exact True.intro
 | @cons p q ps qs h t ih =>
  obtain⟨h1,_,h2⟩:=h;by_cases e:p.1=k
  ·have e':q.1=k:=h1.symm.trans e;have b:atKey (q::qs) k=some q.2:=by simp[atKey,IS,e']
   rw[cY e,b];exact h2
  ·have e':¬q.1=k:=fun z=>e (h1.trans z);have b:atKey (q::qs) k=atKey qs k:=by simp[atKey,IS,e']
   rw[cX e,b];exact ih
theorem KT.repl(r:KT H kvs xs)(k:List Key){y:V}{u:Value}(ry:RelV y u) :
  KT H (kvs.map fun kv=>if kv.1=k then(kv.1,y)else kv) (xs.map (putAt k u)):=by
 induction r with
 | nil=>exact .nil
 | @cons p q ps qs h t ih =>
  rw[HV,HV];refine .cons ?_ ih;obtain⟨h1,h2,h3⟩:=h;unfold putAt;by_cases e:p.1=k
  ·rw[HP e,HP (h1.symm.trans e)];exact⟨h1,h2,ry⟩
  ·rw[HM e,HM (fun z=>e (h1.trans z))];exact⟨h1,h2,h3⟩
theorem KT.put(r:KT H kvs xs)(k:List Key){b:Addr}{y:V}{u:Value}(hb:H b=some (.tup (k.map kV)))(ry:RelV y u) :
  KT H (putK kvs k y) (storedH xs k b u):=by
 have e:(kvs.any fun kv=>decide (kv.1=k))=(atKey xs k).isSome:=by
  rw[kA,(r.val k).isSome_eq,Option.isSome_map]
 unfold putK storedH;rw[e];by_cases q:(atKey xs k).isSome=true
 ·rw[HP q,HP q];exact r.repl k ry
 ·rw[HM q,HM q];exact Paired.snoc r ⟨rfl,hb,ry⟩
theorem KT.keeps(r:KT H kvs xs)(ht:∀b ys,H b=some (.tup ys)->H' b=some (.tup ys)):KT H' kvs xs :=
 Paired.mapP r fun _ _ z=>⟨z.1,ht _ _ z.2.1,z.2.2⟩
section
variable {P:Program}{w:World}{H:Hp}{h:Heap}{a:Addr}
theorem yo(ok:HOk P w H h)(e:Rd H a u):aI P w H h a u:=e.ok ok
theorem nH(ok:HOk P w H h)(e:Rd H a (.dK kvs)):kvs.length≤sizeLine/\(a==sysModules)=false/\∃vs,KV kvs vs/\h.DictOf (aJ P w) a vs :=
 show aI P w H h a (.dK kvs)from yo ok e
theorem lA(ok:HOk P w H h)(e:H a=some (.dK kvs)):kvs.length≤sizeLine/\(a==sysModules)=false/\∃vs,KV kvs vs/\h.DictOf (aJ P w) a vs:=nH ok (.inl e)
theorem ku(ok:HOk P w H h)(e:H a=some (.tup (ks.map kV))):(tupleKind (aJ P w)).is h ks a:=by
 obtain⟨_,its,r,o,h1,h2,n,h3⟩:=(show aI P w H h a (.tup (ks.map kV))from ok a _ e);exact⟨o,its.toArray,n,h1,h2,h3,by simpa using jd r⟩
theorem ou(ok:HOk P w H h)(e:Rd H a (.dT kvs)):kvs.length≤sizeLine/\(a==sysModules)=false /\
  ∃xs,KT H kvs xs/\h.DictOfH (tupleKind (aJ P w)) a xs:=by
 obtain⟨z,y,xs,r,o,es,ep,h1,h2,h3,h4,h5⟩:=(show aI P w H h a (.dT kvs)from yo ok e);refine⟨z,y,xs,r,o,es,ep,h1,h2,h3,h4,fun x hx=>?_,h5⟩;have all:∀{l:List (List Key×V)} {m:List (List Key×Addr×Value)},KT H l m->∀x∈m,(tupleKind (aJ P w)).is h x.1 x.2.1:=by
  intro l m q
  induction q with
  | nil=>intro x hx;exact nomatch hx
  | @cons p q ps qs hq t ih =>
   intro x hx;rcases Hy.mp hx with e | hx
   ·subst e;exact ku ok (by rw[←hq.1];exact hq.2.1)
   ·exact ih x hx
 exact all r x hx
theorem CC(ok:HOk P w H h)(e:H a=some (.dT kvs)):kvs.length≤sizeLine/\(a==sysModules)=false /\
  ∃xs,KT H kvs xs/\h.DictOfH (tupleKind (aJ P w)) a xs:=ou ok (.inl e)
end
def kS(H:Hp)(a:Addr)(y:V)(r:Option V):Prop :=
 (∃kvs k,Rd H a (.dK kvs)/\y=kV k/\r=cx kvs k)∨∃kvs k b,Rd H a (.dT kvs)/\y=.ref b/\H b=some (.tup (k.map kV))/\r=cx kvs k
def uz(H:Hp)(a:Addr)(y v:V)(H':Hp):Prop :=
 (∃kvs k,H a=some (.dK kvs)/\y=kV k/\kvs.length<sizeLine/\H'=upd H a (.dK (putK kvs k v))) ∨
 ∃kvs k b,H a=some (.dT kvs)/\y=.ref b/\H b=some (.tup (k.map kV))/\kvs.length<sizeLine/\H'=upd H a (.dT (putK kvs k v))
theorem kS.k{k:Key}(e:H a=some (.dK kvs)):kS H a (kV k) (cx kvs k):=.inl ⟨kvs,k,.inl e,rfl,rfl⟩
theorem uz.k{k:Key}(e:H a=some (.dK kvs))(hl:kvs.length<sizeLine):uz H a (kV k) v (upd H a (.dK (putK kvs k v))):=.inl ⟨kvs,k,e,rfl,hl,rfl⟩
section
variable {X:Cx}{pins:List (Addr×Obj)}{σ:St}{H:Hp}{s:Shared}{a:Addr}{y v:V}{u r:Value}{o:Option V}{A:Around}{E:Value->Shared->Prop}
theorem Inv.big(I:Inv X pins σ H s):sysModules<s.heap.objs.size:=by
 have h:mainGlobals<s.heap.objs.size:=(I.mod.glob.keeps I.bk).lt;exact Nat.lt_trans (by decide) h
theorem ql(hu:A.units+1<cLine)(I:Inv X pins σ H s)(g:kS H a y (some v))(ry:RelV y u)(h:∀w' s',Inv X pins σ H s'->RelV v w'->Q w' s') :
  wpAny (model X.prog X.w) A (getItem (.ref a) u) Q E s:=by
 rcases g with⟨kvs,k,e,ey,l⟩ |⟨kvs,k,b,e,ey,eb,l⟩
 ·subst ey;obtain⟨z,hd,vs,rel,dd⟩:=nH I.hok e;obtain⟨w',hw,rw'⟩:=dC.some_of (v:=v) (o:=valueAt vs k) (by rw[l];exact rel.val k);exact wpAny_getItem_of (lj ry) dd.mapOf hw (h w' _ (I.tok _) rw')
 ·subst ey;cases (show u=Value.ref b from ry);obtain⟨z,hd,xs,rel,dd⟩:=ou I.hok e;obtain⟨w',hw,rw'⟩:=dC.some_of (v:=v) (o:=(atKey xs k).map (·.2)) (by rw[l];exact rel.val k);obtain⟨p,hp,hp2⟩:=Option.map_eq_some_iff.mp hw;refine wpAny_getItem_heap (J6 hu) (ku I.hok eb) dd hp ?_;rw[hp2];exact h w' _ (I.tok _) rw'
theorem GP(hu:A.units+1<cLine)(I:Inv X pins σ H s)(g:kS H a y o)(ry:RelV y u)(h:∀s',Inv X pins σ H s'->Q (.bool o.isSome) s') :
  wpAny (model X.prog X.w) A (compareOp .In u (.ref a)) Q E s:=by
 rcases g with⟨kvs,k,e,ey,l⟩ |⟨kvs,k,b,e,ey,eb,l⟩
 ·subst ey;obtain⟨z,hd,vs,rel,dd⟩:=nH I.hok e;refine wpAny_in_of (lj ry) hd dd.mapOf ?_;rw[←(rel.val k).isSome_eq,← l];exact h _ (I.tok _)
 ·subst ey;cases (show u=Value.ref b from ry);obtain⟨z,hd,xs,rel,dd⟩:=ou I.hok e;refine wpAny_in_heap (J6 hu) (ku I.hok eb) hd dd ?_;have q:=(rel.val k).isSome_eq;rw[Option.isSome_map]at q;rw[←q,← l];exact h _ (I.tok _)
theorem oS(I:Inv X pins σ H s)(mu:Mut (H a))(hs:Heap.SameBut a s.heap h')(he:∃q,h'.get? a=some q)(new:aI X.prog X.w (upd H a ob) h' a ob) :
  Inv X pins σ (upd H a ob) { s with heap:=h',toks:=t' } :=
 I.write (x:=a) (e:=a) mu (.inl rfl) (fun b q hb z=>(hs.2 b hb).trans z) he new
theorem zD(z:kvs.length≤sizeLine)(hd:(a==sysModules)=false)(rel:KV kvs vs)(dd:h'.DictOf (aJ P w) a vs) :
  aI P w H' h' a (.dK kvs):=⟨z,hd,vs,rel,dd⟩
theorem pq(hu:A.units+1<cLine)(I:Inv X pins σ H s)(g:uz H a y v H')(ry:RelV y u)(rv:RelV v r)(h:∀s',Inv X pins σ H' s'->Q () s') :
  wpAny (model X.prog X.w) A (setItem (.ref a) u r) Q E s:=by
 rcases g with⟨kvs,k,e,ey,l,eH⟩ |⟨kvs,k,b,e,ey,eb,l,eH⟩
 ·subst ey eH;obtain⟨z,hd,vs,rel,dd⟩:=lA I.hok e;have hz:vs.length≤sizeLine:=by rw[←rel.length];exact z
  have hl:(putK kvs k v).length≤sizeLine:=by have:=gq kvs k v;omega
  refine wpAny_setItem_pairs (hsz:=hz) (lj ry) dd fun h' dd' hs=>h _ ?_;have he:∃q,h'.get? a=some q:=let ⟨q,_,_,hq,_⟩:=dd';⟨q,hq⟩
  exact oS I (by rw[e];exact True.intro) hs he (zD hl hd (rel.put k rv) dd')
 ·subst ey eH;cases (show u=Value.ref b from ry);obtain⟨z,hd,xs,rel,dd⟩:=CC I.hok e;have hz:xs.length≤sizeLine:=by rw[←Paired.length rel];exact z
  have hl:(putK kvs k v).length≤sizeLine:=by have:=gq kvs k v;omega
  refine wpAny_setItem_heap (hsz:=hz) (J6 hu) (ku I.hok eb) dd fun h' dd' hs=>h _ ?_;obtain⟨q,es,ep,hq,h2,h3,h4,_,h5⟩:=dd';refine oS I (by rw[e];exact True.intro) hs ⟨q,hq⟩ ⟨hl,hd,_,(rel.put k eb rv).keeps fun c ys ec=>?_,q,es,ep,hq,h2,h3,h4,h5⟩;rw[ay (tL ec e (fun z=>nomatch z))];exact ec
end
section
variable {X:Cx}{pins:List (Addr×Obj)}{σ:St}{H:Hp}{s:Shared}{a:Addr}{kvs:List (Key×V)}{k:Key}{u:Value}{A:Around}{E:Value->Shared->Prop}
end
def uq(i:Expr):Prop:=∀ov iv,subscripted i false ov iv=operate [ov,iv] (getItem ov iv)
theorem nU{T id:String}
  (hl:typeLookup (.type T) "__getitem__"=pure (some (.builtin id))) (hs:uq slice)
  (h:wpAny (model prog w) A (eval value env) (fun o s₁=>wpAny (model prog w) A (eval slice env) (fun i s₂=>s₂.TypeIs o T/\wpAny (model prog w) A (getItem o i) Q E s₂) E s₁) E s) :
  wpAny (model prog w) A (eval (.Subscript value slice pos) env) Q E s:=by
 refine Subscript_ (JV h (fun o s₁ h₁=>JV h₁ (fun i s₂ h₂=>?_) fun _ _ x=>x) fun _ _ x=>x);obtain⟨hT,h₂⟩:=h₂;unfold subscriptTail;refine Hk ?_;rw[getitemInPython_of_ne hT.not_modules];refine Hk (Jw hT hl ?_);have fin:wpAny (model prog w) A (subscripted slice false o i) (fun r s₃=>wpAny (model prog w) A (letTemporaryGo value o r >>= fun _=>pure r) Q E s₃) E s₂:=by
  rw[hs o i];exact wpAny_operating (JV h₂ (fun r s₃ h₃=>Hk (wpAny_letTemporaryGo (Hl h₃))) fun _ _ x=>x)
 first
  | exact Hl (Hk fin)
  | exact Hk (Hl (Hk fin))
  | exact Hk fin
theorem kN{σ:St}(I:Inv X pins σ H s)(g:kS H a y o):s.TypeIs (.ref a) "dict":=by
 rcases g with⟨kvs,k,e,_,_⟩ |⟨kvs,k,b,e,_,_,_⟩
 ·obtain⟨_,_,vs,_,dd⟩:=nH I.hok e;exact dd.typeIs
 ·obtain⟨_,_,xs,_,dd⟩:=ou I.hok e;exact dd.typeIs
def DM(td ty:TE):TE:=fun σ H Q=>td σ H fun x H1=>ty σ H1 fun y H2=>∃a v,x=.ref a/\kS H2 a y (some v)/\Q v H2
section
variable {X:Cx}{o i e value:Expr}{pos pos' tpos:Pos}{td ty tv:TE}
theorem wx(hu:X.A.units+1<cLine)(ho:PE X o td)(hi:PE X i ty)(hs:uq i):PE X (.Subscript o i pos) (DM td ty):=by
 intro pins s σ H Q I h;refine nU PySem.F.slot_dict_getitem.lookup hs (thn (ho pins s σ H _ I h) fun u s1 ⟨x,H1,I1,rx,q1⟩=>thn (hi pins s1 σ H1 _ I1 q1) fun iv s2 y_=>?_);obtain⟨y,H2,I2,ry,a,v,ex,g,q2⟩:=y_;subst ex;obtain rfl:u=Value.ref a:=rx;exact⟨kN I2 g,ql hu I2 g ry fun w' s3 I3 rw'=>⟨v,H2,I3,rw',q2⟩⟩
end
theorem uc(h:Heap)(hb:sysModules<h.objs.size):aI P w H (h.push { cls:=.type "dict",data:=.dict #[] }) h.objs.size (.dK []) :=
 ⟨JG _,Jc.mpr (Ne.symm (HQ hb)),[],.nil,Heap.DictOf.new h⟩
def y9:TE:=fun _ H Q=>∀p,H p=none->Q (.ref p) (upd H p (.dK []))
section
variable {X:Cx}{pos:Pos}
theorem qI:PE X (.Dict [] [] pos) y9:=fun pins s σ H Q I h =>
 wpAny_Dict_empty ⟨.ref s.heap.objs.size,_,I.laid (a:=s.heap.objs.size) (o:=.dK []) (t':=s.toks) (fun _ _ q=>Ho _ q) (Hr _) (uc s.heap I.big),rfl,h _ (I.hok.fresh (Hr _))⟩
end
end L2
set_option maxHeartbeats 4000000 -- own
namespace RD
open Sem (wp)
def At(h:Heap)(d:Addr)(es:Array DictEntry)(ep:Nat):Prop:=∃o,h.get? d=some o/\o.ExactDict/\o.data=.dict es ep
variable {prog:Program}{w:World}{A:Around}{E:Value->Shared->Prop}{s:Shared}{d it:Addr}{es:Array DictEntry}{ep i:Nat}
theorem At.ty(x:At s.heap d es ep):s.TypeIs (.ref d) "dict":=by
 obtain⟨o,g,c,_⟩:=x;exact⟨o,g,c.1⟩
theorem At.lt(x:At h d es ep):d<h.objs.size:=by
 obtain⟨o,g,_⟩:=x;exact Hu g
theorem At.to(x:At h d es ep)(k:∀o,h.get? d=some o->h'.get? d=some o):At h' d es ep:=by
 obtain⟨o,g,r⟩:=x;exact⟨o,k o g,r⟩
theorem iter(lo:(d==sysModules)=false)(m:At s.heap d es ep)(q:Q (.ref s.heap.objs.size) { s with heap:=s.heap.push { cls:=.type "dict_keyiterator",data:=.fields #[.ref d,.int 0 0,.int es.size 0,.int ep 0] } }) :
  wpAny (model prog w) A (PySem.pyIter (.ref d)) Q E s:=by
 have ty:=m.ty;obtain⟨o,g,c,g2⟩:=m;refine wpAny_pyIter_slot ty F.slot_dict_iter (Ik F.slot_dict_iter ty F.entry_dict_iter ?_ (F.args_dict_iter_1 _));unfold Builtin.«dict.__iter__»;refine Hk ?_;unfold Builtin.Dict.dictSlotNone;refine Hk (wpAny_notOrdered_dict ty ?_);show wpAny _ _ (Pure.pure (Value.ref d)) _ _ s;refine Hl ?_;show wpAny _ _ (Bind.bind (Builtin.Dict.showsAll d) _) _ _ s;unfold Builtin.Dict.showsAll;rw[HM (by rw[lo];simp)];refine Hk (Hl (Hk (JD g g2 (Hk (wpAny_dictEpoch g g2 ?_)))));refine Hk (Io (Hl ⟨_,rfl,"dict_keyiterator",_,⟨_,Hv s.heap rfl,rfl⟩,F.slot_dict_keyiterator_next.lookup,?_⟩));simpa[rawInt]using q
theorem item(t:s.heap.IsKeyIter it d i es.size ep)(m:At s.heap d es ep)(hi:i<es.size)(q:∀h',h'.IsKeyIter it d (i+1) es.size ep->Heap.SameBut it s.heap h'->Q (some es[i].key) { s with heap:=h' }) :
  wpAny (model prog w) A (PySem.pyNext (.ref it)) Q E s:=by
 obtain⟨o,g,c,g2⟩:=id t;obtain⟨od,gd,cd,gd2⟩:=id m;have ty:=t.typeIs;unfold pyNext;refine Hk (Ke (IB (name:=Str.ofString "__next__") ty F.slot_dict_keyiterator_next (Ik F.slot_dict_keyiterator_next ty F.entry_dict_keyiterator_next ?_ (F.args_dict_keyiterator_next_1 _))));refine Hk (Hl (Hk (Hk ?_)))
 first | refine Hk (wpAny_typeNameOfWhole_keyiter ty (Hl ?_)) | refine Hk (wpAny_typeNameOf_keyiter ty (Hl ?_))
 refine Hk (wpAny_fieldsOf g g2 ?_);simp only[show Builtin.Dict_items.ownsTuple "dict_keyiterator"=false by decide,HX,IU];show wpAny _ _ (ite ((Value.ref d==Value.none)=true) _ _) _ _ s;rw[HM (show ¬((Value.ref d==Value.none)=true) by simp)];refine Hk (Hl (Hk (JD gd gd2 ?_)));rw[HM (by simp)];refine Hk (Hl (Hk (wpAny_dictEpoch gd gd2 ?_)));rw[HM (by simp)];refine Hl ?_;simp only[show ¬((i:Int)<0) by omega,IU,Int.toNat_natCast,HU hi];refine Hk ?_
 first | refine Hk (wpAny_typeNameOfWhole_keyiter ty (Hl ?_)) | refine Hk (wpAny_typeNameOf_keyiter ty (Hl ?_))
 refine Hk (wpAny_isOneOf_keyiter ty ?_);show wpAny _ _ (Bind.bind (setField (.ref it) 1 (rawInt ((i:Int)+1))) _) _ _ s;refine Hk (Kh g g2 (by simp) ?_);have t':(s.heap.update it (Obj.mapFields (·.setIfInBounds 1 (rawInt ((i:Int)+1))))).IsKeyIter it d (i+1) es.size ep:=⟨_,Iw _ g (Obj.isFreed_of_fields (Obj.data_mapFields g2 _)),(Obj.cls_mapFields ..).trans c,by rw[Obj.data_mapFields g2];simp[rawInt]⟩;refine Hk (Iy (Hk (wpAny_isOneOf_keyiter (s:={ s with heap:=s.heap.update it (Obj.mapFields (·.setIfInBounds 1 (rawInt ((i:Int)+1)))) }) t'.typeIs ?_)));show wpAny _ _ (Pure.pure es[i].key) _ _ _;exact Hl (Hl ⟨_,rfl,Hl (q _ t' (Ih ..))⟩)
theorem fin(hh:A.handled=none)(t:s.heap.IsKeyIter it d es.size es.size ep)(m:At s.heap d es ep)(q:∀h',Heap.ExtBut it s.heap h'->Q none { s with heap:=h' }):wpAny (model prog w) A (pyNext (.ref it)) Q E s:=by
 obtain⟨o,g,c,g2⟩:=id t;obtain⟨od,gd,cd,gd2⟩:=id m;have ty:=t.typeIs;unfold pyNext;refine Hk (Ke (IB (name:=Str.ofString "__next__") ty F.slot_dict_keyiterator_next (Ik F.slot_dict_keyiterator_next ty F.entry_dict_keyiterator_next ?_ (F.args_dict_keyiterator_next_1 _))));refine Hk (Hl (Hk (Hk ?_)))
 first | refine Hk (wpAny_typeNameOfWhole_keyiter ty (Hl ?_)) | refine Hk (wpAny_typeNameOf_keyiter ty (Hl ?_))
 refine Hk (wpAny_fieldsOf g g2 ?_);simp only[show Builtin.Dict_items.ownsTuple "dict_keyiterator"=false by decide,HX,IU];show wpAny _ _ (ite ((Value.ref d==Value.none)=true) _ _) _ _ s;rw[HM (show ¬((Value.ref d==Value.none)=true) by simp)];refine Hk (Hl (Hk (JD gd gd2 ?_)));rw[HM (by simp)];refine Hk (Hl (Hk (wpAny_dictEpoch gd gd2 ?_)));rw[HM (by simp)];refine Hl ?_;simp only[show ¬((es.size:Int)<0) by omega,IU,Int.toNat_natCast,II (Hr es.size)];refine Hk ?_
 first | refine Hk (wpAny_typeNameOfWhole_keyiter ty (Hl ?_)) | refine Hk (wpAny_typeNameOf_keyiter ty (Hl ?_))
 show wpAny _ _ (Bind.bind (setField (.ref it) 0 .none) _) _ _ s;refine Hk (Kh g g2 (by simp) ?_);show wpAny _ _ (Bind.bind (newExc (.type "StopIteration") []) _) _ _ _;refine Hk ?_;simp only[newExc,newTuple];refine Hk (Io (Hk (m:=firstArgMember _ _) (wpAny_of_eq (a:=Value.none) (by first | rfl |(simp only[firstArgMember];rfl)) (Io ?_ (by size_fits)))) (by size_fits));simp only[raiseNew];refine Hk (wpAny_handled ?_);rw[show A.in1.handled=none from hh];refine Hk (Hl (wpAny_throw ?_));refine Hk (IE (T:="StopIteration") (b:=true) ⟨_,Hv _ rfl,rfl⟩ isSubtype_stop ?_);exact Hl (q _ (((Ih ..).extBut.push _).push _))
theorem walks(hh:A.handled=none)(I:Addr)(hne:d≠I):Walks prog w A I [I,d] [I] es.size (fun j v=>∃h:j<es.size,v=es[j].key) (fun j h=>h.IsKeyIter I d j es.size ep/\At h d es ep) where
 sub:=fun b hb=>by simp only[Hx]at hb;simp[hb]
 frame:=fun _ _ _ st hk=>⟨st.1.at fun o e=>hk I (by simp) o e,st.2.to fun o e=>hk d (by simp) o e⟩
 item:=fun j s Q E hi st hQ=>item st.1 st.2 hi fun h' t' hs=>hQ _ h' s.toks ⟨hi,rfl⟩ ⟨t',st.2.to fun o e=>hs.extBut d o hne e⟩ fun b o hb e=>hs.extBut b o (fun z=>hb (by simp[z])) e
 done:=fun s Q E st hQ=>fin hh st.1 st.2 fun h' he=>hQ h' s.toks fun b o hb e=>he b o (fun z=>hb (by simp[z])) e
 self:=fun _ _ _ _ st q=>wpAny_pyIter_keyiter st.1 q
theorem src(lo:(d==sysModules)=false):PySem.W.KdlSrc prog w "dict" d d es.size (fun j v=>∃h:j<es.size,v=es[j].key) (fun h=>At h d es ep) where
 type:=fun _ m=>m.ty
 there:=fun _ m=>⟨m.lt,m.lt⟩
 keep:=fun _ _ m k=>m.to fun o e=>k d (.inl rfl) o e
 notList:=by decide
 notTuple:=by decide
 hint:=fun _ _ _ _ m q=>PySem.W.kdl_hint_dict m.ty q
 iter:=fun _ _ hh m=>⟨_,_,(fun _ _ q=>iter lo m q),walks hh _ (HQ m.lt),⟨⟨_,Hv _ rfl,rfl,rfl⟩,m.to fun o e=>Ho _ e⟩⟩
end RD
namespace L2
variable {X:Cx}{pins:List (Addr×Obj)}{σ:St}{H:Hp}{s:Shared}
abbrev gi(P:Program)(w:World):=tupleKind (intKind P w)
def bF(P:Program)(w:World)(a:Addr)(ks:List (List Int))(as:List Addr)(vs:List V)(ep:Nat):Heap->Prop:=fun h=>(a==sysModules)=false/\∃o es,∃xs:List (List Int×Addr×Value),h.get? a=some o/\o.ExactDict/\o.data=.dict es ep/\es.toList=xs.map (entryOfKey (gi P w))/\xs.map (·.1)=ks/\xs.map (·.2.1)=as/\Vals vs (xs.map (·.2.2))/\ks.Nodup
theorem bF.ok(n:bF P w a ks as vs ep h):aI P w H h a (.ext (bF P w a ks as vs ep)):=by
 refine⟨n,?_,?_⟩
 ·obtain⟨_,o,es,xs,ho,_⟩:=n;exact⟨o,ho⟩
 ·rintro h1 h2 ⟨hb,o,es,xs,ho,r⟩ k;exact⟨hb,o,es,xs,k o ho,r⟩
def o7(K:PySem.W.Frag)(H:Hp)(k:List Int)(a:Addr):Prop:=SqT K H a (k.map V.int)
theorem gc{prog:Program}{w:World}:∀{ns:List Int} {vs:List Value},Vals (ns.map V.int) vs->ItemsAre (intKind prog w) ns vs
 | [],_,.nil=>.nil
 | _::_,_,.cons h r=>by
  obtain⟨t,rfl⟩:=h;exact .cons (by simp[intKind,Value.isInt]) (gc r)
theorem nK(I:Inv X pins σ H s){k:List Int}{a:Addr}(hq:o7 X.K H k a):(gi X.prog X.w).is s.heap k a:=by
 obtain⟨its,rv,p,_⟩:=I.tuple hq;have p':s.heap.IsTuple a its.toArray:=p;obtain⟨ot,hot,hct,nt,hdt⟩:=p';exact⟨ot,its.toArray,nt,hot,hct,hdt,gc rv⟩
def jl(K:PySem.W.Frag)(H:Hp)(ks:List (List Int))(as:List Addr):Prop:=Paired (o7 K H) ks as
theorem zX(I:Inv X pins σ H s):∀{ks:List (List Int)} {as:List Addr} {xs:List (List Int×Addr×Value)},jl X.K H ks as->xs.map (·.1)=ks->xs.map (·.2.1)=as->∀x∈xs,(gi X.prog X.w).is s.heap x.1 x.2.1:=by
 intro ks as xs
 induction xs generalizing ks as with
 | nil=>intro _ _ _ x hx;cases hx
 | cons y xs ih =>
  intro h e1 e2 x hx;cases h with
  | nil=>cases e2
  | cons h1 h2 =>
   simp only[HV,JY]at e1 e2;rcases Hy.mp hx with rfl | hx
   ·rw[e1.1,e2.1];exact nK I h1
   ·exact ih h2 e1.2 e2.2 x hx
theorem jV(I:Inv X pins σ H s){d:Addr}{ks:List (List Int)}{as:List Addr}{vs:List V}{ep:Nat}(hH:H d=some (.ext (bF X.prog X.w d ks as vs ep)))(hK:jl X.K H ks as):(d==sysModules)=false/\ks.Nodup/\∃xs:List (List Int×Addr×Value),xs.map (·.1)=ks/\xs.map (·.2.1)=as/\Vals vs (xs.map (·.2.2))/\s.heap.DictOfH (gi X.prog X.w) d xs:=by
 obtain⟨hN,_,_⟩:=(show aI X.prog X.w H s.heap d (.ext (bF X.prog X.w d ks as vs ep))from I.hok d _ hH);obtain⟨hb,o,es,xs,ho,hc,hd,he,e1,e2,e3,nd⟩:=hN;exact⟨hb,nd,xs,e1,e2,e3,o,es,ep,ho,hc,hd,he,zX I hK e1 e2,by rw[e1];exact nd⟩
theorem x9{ks:List (List Int)}{k:List Int}(e:xs.map (·.1)=ks):(atKey xs k).isSome=decide (k∈ks):=by
 have h:(atKey xs k).isSome=true↔k∈xs.map (·.1):=by
  unfold atKey;rw[Option.isSome_map,List.find?_isSome];constructor
  ·rintro⟨x,hx,q⟩;exact Hw.mpr ⟨x,hx,Jm q⟩
  ·intro q;obtain⟨x,hx,e⟩:=Hw.mp q;exact⟨x,hx,ID e⟩
 rw[Kb,h,e,Jn]
theorem rE:∀{xs:List (List Int×Addr×Value)} {ks:List (List Int)} {vs:List V} {k:List Int},xs.map (·.1)=ks->Vals vs (xs.map (·.2.2))->k∈ks->∃p v,atKey xs k=some p/\cx (ks.zip vs) k=some v/\RelV v p.2
 | [],_,_,_,rfl,_,h=>by cases h
 | x::xs,_,vs,k,rfl,r,h=>by
  cases r with
  | cons r1 r2 =>
   rename_i v1 vs;by_cases e:x.1=k
   ·refine⟨x.2,v1,?_,?_,r1⟩
    ·unfold atKey;simp[IS,e]
    ·show cx ((x.1,v1)::_) k=_;exact cY e
   ·have h':k∈xs.map (·.1):=by
     rcases Hy.mp h with q | q
     ·exact absurd q.symm e
     ·exact q
    obtain⟨p,v,a1,a2,a3⟩:=rE (vs:=vs) rfl r2 h';refine⟨p,v,?_,?_,a3⟩
    ·unfold atKey at a1 ⊢;simp[IS,e];simpa using a1
    ·show cx ((x.1,v1)::_) k=_;rw[cX e];exact a2
def DT(P:Program)(w:World)(K:PySem.W.Frag)(f:Bool->Bool):R2:=fun x y H Q=>∃a d k ks as vs ep,x=.ref a/\o7 K H k a/\y=.ref d/\H d=some (.ext (bF P w d ks as vs ep))/\jl K H ks as/\Q (.bl (f (decide (k∈ks)))) H
theorem zO(hu:X.A.units+64<cLine):OpR X (compareOp .In) (DT X.prog X.w X.K id):=by
 intro pins s σ H x y v u Q I rx ry h;obtain⟨a,d,k,ks,as,vs,ep,rfl,hk,rfl,hd,hK,q⟩:=h;cases rx;cases ry;obtain⟨hb,nd,xs,e1,e2,e3,hm⟩:=jV I hd hK;refine wpAny_in_heap (xs:=xs) (k:=k) (knd:=gi X.prog X.w) (J6 (by omega)) (nK I hk) hb hm ?_;rw[x9 e1];exact⟨.bl _,H,I.tok _,rfl,q⟩
def En(P:Program)(w:World)(K:PySem.W.Frag):R2:=fun x y H Q=>∃d a k ks as vs ep,x=.ref d/\y=.ref a/\o7 K H k a/\H d=some (.ext (bF P w d ks as vs ep))/\jl K H ks as/\k∈ks/\∀v,cx (ks.zip vs) k=some v->Q v H
theorem uS(hu:X.A.units+64<cLine)(ho:PE X o td)(hi:PE X i ty)(hs:uq i):PE X (.Subscript o i pos) (fun σ H Q=>td σ H fun x H1=>ty σ H1 fun y H2=>En X.prog X.w X.K x y H2 Q):=by
 intro pins s σ H Q I h;refine nU PySem.F.slot_dict_getitem.lookup hs (thn (ho pins s σ H _ I h) fun u s1 ⟨x,H1,I1,rx,q1⟩=>thn (hi pins s1 σ H1 _ I1 q1) fun iv s2 y_=>?_);obtain⟨y,H2,I2,ry,d,a,k,ks,as,vs,ep,ex,ey,hk,hd,hK,hm,q2⟩:=y_;subst ex;subst ey;cases rx;cases ry;obtain⟨hb,nd,xs,e1,e2,e3,hD⟩:=jV I2 hd hK;obtain⟨p,v,a1,a2,a3⟩:=rE e1 e3 hm;exact⟨hD.typeIs,wpAny_getItem_heap (knd:=gi X.prog X.w) (J6 (by omega)) (nK I2 hk) hD a1 ⟨v,H2,I2.tok _,a3,q2 v a2⟩⟩
def lD(ks:List (List Int))(vs:List V)(k:List Int)(v:V):List V:=(ks.zip vs).map fun p=>if p.1=k then v else p.2
def Ed(P:Program)(w:World)(K:PySem.W.Frag):V->V->V->Hp->(Hp->Prop)->Prop:=fun o i v H Q=>∃d ks as vs ep k a,o=.ref d/\i=.ref a/\H d=some (.ext (bF P w d ks as vs ep))/\jl K H ks as/\o7 K H k a/\ks.length<1000/\∀ep',(k∈ks->Q (upd H d (.ext (bF P w d ks as (lD ks vs k v) ep'))))/\(k∉ks->Q (upd H d (.ext (bF P w d (ks++[k]) (as++[a]) (vs++[v]) ep'))))
theorem ib{xs:List (List Int×Addr×Value)}{k:List Int}{v:Value}:(xs.map (putAt k v)).map (·.1)=xs.map (·.1)/\(xs.map (putAt k v)).map (·.2.1)=xs.map (·.2.1):=by
 rw[HY,HY];constructor<;>refine Ie fun x _=>?_<;>(unfold putAt;simp only[Function.comp];split<;>simp_all)
theorem kO{k:List Int}{v:V}{u:Value}(r:RelV v u):∀{xs:List (List Int×Addr×Value)} {vs:List V},Vals vs (xs.map (·.2.2))->Vals (lD (xs.map (·.1)) vs k v) ((xs.map (putAt k u)).map (·.2.2))
 | [],vs,h=>by cases h;exact .nil
 | x::xs,vs,h=>by
  cases h with
  | cons h1 h2 =>
   refine .cons ?_ (kO r h2);show RelV (if x.1=k then v else _) (putAt k u x).2.2;unfold putAt;by_cases e:x.1=k
   ·simp[e];exact r
   ·simp[e];exact h1
theorem BG(hu:X.A.units+64<cLine):xF X (Ed X.prog X.w X.K):=by
 intro pins s σ H o i v ov iv u Q I ro ri rv h;obtain⟨d,ks,as,vs,ep,k,a,rfl,rfl,hH,hK,hk,hz,qq⟩:=h;cases ro;cases ri;obtain⟨hb,nd,xs,e1,e2,e3,hm⟩:=jV I hH hK;have lx:xs.length=ks.length:=by have:=congrArg List.length e1;simpa using this
 refine wpAny_setItem_heap (xs:=xs) (k:=k) (knd:=gi X.prog X.w) (J6 (by omega)) (nK I hk) hm (fun h' hm' hs'=>?_) (by rw[IA];omega);have ia:=x9 (k:=k) e1;obtain⟨o',es',ep',ho',hc',hd',he',_,nd'⟩:=hm';by_cases hm:k∈ks
 ·obtain⟨p,hp⟩:=Option.isSome_iff_exists.mp (ia.trans (ID hm));rw[storedH_old hp]at he';obtain⟨p1,p2⟩:=ib (xs:=xs) (k:=k) (v:=u);have p3:=kO (k:=k) rv e3;rw[e1]at p3;exact⟨_,I.write (x:=d) (e:=d) (o:=.ext (bF X.prog X.w d ks as (lD ks vs k v) ep')) (by rw[hH];exact trivial) (.inl rfl) (fun b u hb hu=>(hs'.2 b hb).trans hu) ⟨o',ho'⟩ (bF.ok ⟨hb,o',es',_,ho',hc',hd',he',p1.trans e1,p2.trans e2,p3,nd⟩),(qq ep').1 hm⟩
 ·have hp:atKey xs k=none:=by
   rw[Iz hm]at ia;exact Option.isSome_eq_false_iff.mp ia |> fun z=>by simpa using z
  rw[storedH_new hp]at he';refine⟨_,I.write (x:=d) (e:=d) (o:=.ext (bF X.prog X.w d (ks++[k]) (as++[a]) (vs++[v]) ep')) (by rw[hH];exact trivial) (.inl rfl) (fun b u hb hu=>(hs'.2 b hb).trans hu) ⟨o',ho'⟩ (bF.ok ⟨hb,o',es',_,ho',hc',hd',he',by simp[e1],by simp[e2],by rw[HW];exact e3.append (.cons rv .nil),?_⟩),(qq ep').2 hm⟩;exact List.nodup_append.mpr ⟨nd,by simp,fun x hx y hy e=>hm (by rw[Hx.mp hy]at e;rw[←e];exact hx)⟩
def AD(P:Program)(w:World):TE:=fun _ H Q=>∀p,H p=none->Q (.ref p) (upd H p (.ext (bF P w p [] [] [] 0)))
theorem tE:PE X (.Dict [] [] pos) (AD X.prog X.w):=fun pins s σ H Q I h =>
 wpAny_Dict_empty ⟨.ref s.heap.objs.size,_,I.laid (a:=s.heap.objs.size) (o:=.ext (bF X.prog X.w s.heap.objs.size [] [] [] 0)) (t':=s.toks) (fun _ _ q=>Ho _ q) (Hr _) (bF.ok ⟨Jc.mpr (Ne.symm (HQ I.big)),_,#[],[],Hv _ rfl,⟨rfl,rfl,rfl⟩,rfl,rfl,rfl,rfl,.nil,List.nodup_nil⟩),rfl,h _ (I.hok.fresh (Hr _))⟩
theorem bF.raw(n:bF P w a ks as vs ep h):(a==sysModules)=false/\∃es,RD.At h a es ep/\es.toList.map (·.key)=as.map Value.ref/\Vals vs (es.toList.map (·.val))/\as.length=ks.length/\es.size=ks.length:=by
 obtain⟨lo,o,es,xs,ho,hc,hd,he,rfl,rfl,e3,_⟩:=n;refine⟨lo,es,⟨o,ho,hc,hd⟩,?_,?_,by simp,?_⟩
 ·rw[he,HY,HY];rfl
 ·rw[he,HY];exact e3
 ·rw[←Jd,he];simp
theorem iP:∀{as:List Addr},Vals (as.map V.ref) (as.map Value.ref)
 | []=>.nil
 | _::_=>.cons rfl iP
def su(P:Program)(w:World):List V->Hp->VK->Prop:=fun xs H Q=>∃d ks as vs ep,xs=[.ref d]/\H d=some (.ext (bF P w d ks as vs ep))/\ks.length<1000/\∀r,H r=none->Q (.ref r) (upd H r (.lst (as.map V.ref)))
theorem mV(hc:X.calm=true):bH X (.type "list") (su X.prog X.w):=by
 intro pins s σ H xs us Q I r h;obtain⟨d,ks,as,vs,ep,rfl,hH,hz,q⟩:=h;obtain⟨u,rfl,ru⟩:=Vals.one r;cases ru;obtain⟨hN,_,_⟩:=(show aI X.prog X.w H s.heap d (.ext (bF X.prog X.w d ks as vs ep))from I.hok d _ hH);obtain⟨lo,es,m,hk,hv,hl,hes⟩:=hN.raw;have e:es.size=as.length:=by omega
 refine PySem.W.kdl_call (RD.src lo) (I.ok.hd hc) m (by rw[IA];omega) fun h' tk acc c kp hS hacc=>?_;have hn:H s.heap.objs.size=none:=I.hok.fresh (Hr _);have ea:acc.toList=as.map Value.ref:=by
  rw[←hk];apply List.ext_getElem?;intro j;rw[Ht,Iu,Iu];by_cases hj:j<es.size
  ·have hj':j<acc.size:=by rw[hacc.1];exact hj
   obtain⟨_,ev⟩:=hacc.2 j acc[j] (HU hj');rw[HU hj',HU hj,ev];rfl
  ·rw[II (by rw[hacc.1];omega),II (by omega)];rfl
 refine⟨.ref s.heap.objs.size,_,I.laid (t':=tk) (o:=.lst (as.map V.ref)) (fun b o e=>kp b o e) (Hr _) ?_,rfl,q _ hn⟩;refine⟨by rw[Hm,IA];omega,as.map Value.ref,c,iP,?_⟩;rw[hS,← ea]
def DH(P:Program)(w:World)(d:Addr)(n ep:Nat):It :=
 ⟨fun i H=>(∃ks as vs,H d=some (.ext (bF P w d ks as vs ep))/\ks.length=n)/\i<n,fun i H x H'=>H'=H/\∀ks as vs,H d=some (.ext (bF P w d ks as vs ep))->∃b,as[i]?=some b/\x=.ref b,fun i H=>(∃ks as vs,H d=some (.ext (bF P w d ks as vs ep))/\ks.length=n)/\i=n⟩
theorem wW{K:PySem.W.Frag}(d it:Addr)(n ep:Nat):Turn P w K tg (DH P w d n ep) [it] it (fun i h=>h.IsKeyIter it d i n ep) where
 mem:=Hx.mpr rfl
 obj:=fun i h st b hb=>by
  rw[Hx.mp hb];obtain⟨o,e,c,q⟩:=st;exact⟨o,e,fun v z=>by rw[q]at z;cases z⟩
 keep:=fun i h h' st k=>st.at fun o e=>k it (Hx.mpr rfl) o e
 item:=by
  intro X hP hw hK hc i pins s σ H E I hf st hg;subst hP hw hK;obtain⟨⟨ks,as,vs,hH,rfl⟩,hi⟩:=hg;have all:∀ks as vs,H d=some (.ext (bF X.prog X.w d ks as vs ep))->∃es,RD.At s.heap d es ep/\es.toList.map (·.key)=as.map Value.ref/\es.size=ks.length:=fun ks as vs hH=>by
   obtain⟨hN,_,_⟩:=(show aI X.prog X.w H s.heap d (.ext (bF X.prog X.w d ks as vs ep))from I.hok d _ hH);obtain⟨lo,es,m,hk,hv,hl,hes⟩:=hN.raw;exact⟨es,m,hk,hes⟩
  obtain⟨es,m,hk,hes⟩:=all ks as vs hH;obtain⟨f0,f1,f2,f3,f4,f5⟩:=hf it (Hx.mpr rfl);rw[←hes]at hi st;have key:∀as':List Addr,es.toList.map (·.key)=as'.map Value.ref->∃b,as'[i]?=some b/\es[i].key=.ref b:=fun as' q=>by
   have e1:(es.toList.map (·.key))[i]?=some es[i].key:=by rw[Ht,Iu,HU hi];rfl
   rw[q,Ht]at e1;cases z:as'[i]? with
   | none=>rw[z]at e1;cases e1
   | some b=>rw[z]at e1;exact⟨b,rfl,(Im e1).symm⟩
  refine RD.item st m hi fun h' st' sb=>?_;have I1:Inv X pins σ H { s with heap:=h' }:=I.turned (t':=s.toks) (fun b o hb e=>(sb.2 b hb).trans e) f0 f1 f3 f4 f5;obtain⟨o,e,c,dd⟩:=id st';obtain⟨b0,hb0,ek⟩:=key as hk;refine⟨es[i].key,rfl,jq (s:={ s with heap:=h' }) e c dd (by decide) ⟨.ref b0,H,I1,by rw[ek];rfl,⟨rfl,fun ks' as' vs' hH'=>?_⟩,by rw[←hes];exact st',fun b hb=>(hf b hb).1⟩⟩;obtain⟨es2,m2,hk2,hes2⟩:=all ks' as' vs' hH';obtain⟨o1,g1,_,d1⟩:=m;obtain⟨o2,g2,_,d2⟩:=m2;rw[g1]at g2;cases g2;rw[d1]at d2;cases d2;obtain⟨b,hb,ek2⟩:=key as' hk2;rw[ek]at ek2;exact⟨b,hb,by cases ek2;rfl⟩
 done:=by
  intro X hP hw hK hc i pins s σ H E I hf st hg;subst hP hw hK;obtain⟨⟨ks,as,vs,hH,rfl⟩,rfl⟩:=hg;obtain⟨hN,_,_⟩:=(show aI X.prog X.w H s.heap d (.ext (bF X.prog X.w d ks as vs ep))from I.hok d _ hH);obtain⟨lo,es,m,hk,hv,hl,hes⟩:=hN.raw;obtain⟨f0,f1,f2,f3,f4,f5⟩:=hf it (Hx.mpr rfl);rw[←hes]at st;exact RD.fin (I.ok.hd hc) st m fun h' eb=>⟨rfl,I.turned (t':=s.toks) (fun b o hb e=>eb b o hb e) f0 f1 f3 f4 f5⟩
 self:=fun _ _ _ _ _ st h=>wpAny_pyIter_keyiter st h
def iId(P:Program)(w:World)(tl:TE):TI:=fun σ H R=>tl σ H fun x H1=>∃d ks as vs ep,x=.ref d/\H1 d=some (.ext (bF P w d ks as vs ep))/\R (DH P w d ks.length ep) H1
theorem El(hl:PE X l tl):PI X tg l (iId X.prog X.w tl):=by
 intro pins s σ H R I h;refine thn (hl pins s σ H _ I h) fun v s1 y_=>?_;obtain⟨x,H1,I1,r1,q1⟩:=y_;obtain⟨d,ks,as,vs,ep,e,hH,q⟩:=q1;subst e;cases r1;obtain⟨hN,_,_⟩:=(show aI X.prog X.w H1 s1.heap d (.ext (bF X.prog X.w d ks as vs ep))from I1.hok d _ hH);obtain⟨lo,es,m,hk,hv,hl,hes⟩:=hN.raw;refine RD.iter lo m ?_;refine⟨s1.heap.objs.size,[s1.heap.objs.size],_,_,H1,rfl,I1.kept (t':=s1.toks) fun b o e=>Ho _ e,wW d _ ks.length ep,⟨_,Hv _ rfl,rfl,by rw[←hes];rfl⟩,fun b hb=>?_,q⟩;rw[Hx.mp hb];exact I1.fpOk (Hr _) (I1.hok.fresh (Hr _))
end L2
namespace RD
open Sem (wp)
variable {prog:Program}{w:World}{A:Around}{E:Value->Shared->Prop}{s:Shared}{d it v:Addr}{es:Array DictEntry}{ep i:Nat}
end RD
namespace L2
variable {X:Cx}{pins:List (Addr×Obj)}{σ:St}{H:Hp}{s:Shared}
def Fv(v d:Addr):Heap->Prop:=fun h=>h.IsValuesView v d
end L2
namespace RD
variable {prog:Program}{w:World}{A:Around}{E:Value->Shared->Prop}{s:Shared}{d n:Addr}{es:Array DictEntry}{ep:Nat}
theorem fold_all{α:Type}{M:Model}{body:α->PUnit->Sem (ForInStep PUnit)}{Q:PUnit->Shared->Prop}:∀(l:List α),(∀x∈l,∀(R:ForInStep PUnit->Shared->Prop),R (.yield ⟨⟩) s->wpAny M A (body x ⟨⟩) R E s)->Q ⟨⟩ s->wpAny M A (forIn l PUnit.unit body) Q E s
 | [],_,q=>by rw[JO];exact Hl q
 | x::l,h,q=>by
  rw[Ja];exact Hk (h x HL _ (fold_all l (fun y hy=>h y (HH _ hy)) q))
theorem xC{id:String}(m:At s.heap d es ep)(hk:∀e∈es.toList,∃a,e.key=.ref a/\s.TypeIs (.ref a) "tuple")(hh:∀e∈es.toList,(es.filter (·.hash==e.hash)).size≤1)(q:Q es s) :
  wpAny (model prog w) A (Builtin.Dict.entriesForEmpty id d) Q E s:=by
 obtain⟨o,g,c,g2⟩:=m;unfold Builtin.Dict.entriesForEmpty;refine Hk (JD g g2 ?_);rw[←Jx];refine Hk (fold_all _ (fun e he R r=>?_) (Hl q));obtain⟨a,ek,ty⟩:=hk e he;have hs:=hh e he;rw[ek];refine Hk ?_;unfold Builtin.Dict.quietEq;refine Hk (Jw ty F.slot_tuple_eq.lookup (Hl ?_));rw[HP (by decide),HM (by omega)];exact Hl r
theorem merge{Q:PUnit->Shared->Prop}(lo:(d==sysModules)=false)(m:At s.heap d es ep)(mn:At s.heap n #[] 0)(nd:n≠d)(ne:0<es.size)(z:es.size≤sizeLine)(hk:∀e∈es.toList,∃a,e.key=.ref a/\s.TypeIs (.ref a) "tuple")(hh:∀e∈es.toList,(es.filter (·.hash==e.hash)).size≤1)
  (q:∀h' ep',At h' n es ep'->Heap.SameBut n s.heap h'->Q ⟨⟩ { s with heap:=h' }):wpAny (model prog w) A (Builtin.Dict.mergeDict nm n d) Q E s:=by
 obtain⟨o,g,c,g2⟩:=id m;obtain⟨on,gn,cn,gn2⟩:=id mn;unfold Builtin.Dict.mergeDict;rw[HM (by simpa using nd)];unfold Builtin.Dict.showsAll;rw[HM (by rw[lo];simp)];refine Hk (Hl (Hk (JD g g2 ?_)));have few:(decide (es.size≤8)&&es.all fun e=>(keyPart e.key).isSome)=false:=by
  rw[Bool.and_eq_false_iff];right;rw[Bool.eq_false_iff];intro h;rw[Array.all_eq_true]at h;obtain⟨a,ek,_⟩:=hk es[0] (by rw[Array.mem_toList_iff];exact Array.getElem_mem ne);have:=h 0 ne;rw[ek]at this;cases this
 simp only[few,JE,Kg];refine Hk (JD gn gn2 ?_);rw[HP (show(#[]:Array DictEntry).isEmpty=true from rfl)];refine Hk (xC m hk hh ?_);have hne:(!es.isEmpty)=true:=by
  rw[Bool.not_eq_true',Bool.eq_false_iff];intro h;rw[Array.isEmpty_iff_size_eq_zero]at h;omega
 rw[HP hne];refine Hk (wpAny_updateDictKeysTo gn gn2 (Hl (q _ _ ⟨_,Iw _ gn (Obj.isFreed_of_dict (Obj.data_mapDictKeys gn2 _)),cn.mapDictKeys _,Obj.data_mapDictKeys gn2 _⟩ (Ih ..))) (Nat.le_succ_of_le z))
theorem copy(lo:(d==sysModules)=false)(m:At s.heap d es ep)(ne:0<es.size)(z:es.size≤sizeLine)(hk:∀e∈es.toList,∃a,e.key=.ref a/\s.TypeIs (.ref a) "tuple")(hh:∀e∈es.toList,(es.filter (·.hash==e.hash)).size≤1)
  (q:∀h' ep',At h' s.heap.objs.size es ep'->Heap.SameBut s.heap.objs.size (s.heap.push { cls:=.type "dict",data:=.dict #[] }) h'->Q (.ref s.heap.objs.size) { s with heap:=h' }):wpAny (model prog w) A (call (.type "dict") [.ref d]) Q E s:=by
 refine callType_codes (Q₁:=fun obj s₁=>obj=.ref s.heap.objs.size/\s₁={ s with heap:=s.heap.push { cls:=.type "dict",data:=.dict #[] } }) F.kt_called_dict (F.kt_typeCall_dict_1 _) F.entry_dict_init (kt_code_dict_new _ ⟨rfl,rfl⟩) ?_;rintro obj s₁ ⟨rfl,rfl⟩;have kp:∀b o,s.heap.get? b=some o->(s.heap.push { cls:=.type "dict",data:=.dict #[] }).get? b=some o:=fun b o e=>Ho _ e;have mn:At (s.heap.push { cls:=.type "dict",data:=.dict #[] }) s.heap.objs.size #[] 0:=⟨_,Hv _ rfl,⟨rfl,rfl,rfl⟩,rfl⟩;have m':At (s.heap.push { cls:=.type "dict",data:=.dict #[] }) d es ep:=m.to fun o e=>kp d o e;have tn:Shared.TypeIs { s with heap:=s.heap.push { cls:=.type "dict",data:=.dict #[] } } (.ref s.heap.objs.size) "dict":=mn.ty (s:={ s with heap:=s.heap.push { cls:=.type "dict",data:=.dict #[] } });have td:Shared.TypeIs { s with heap:=s.heap.push { cls:=.type "dict",data:=.dict #[] } } (.ref d) "dict":=m'.ty (s:={ s with heap:=s.heap.push { cls:=.type "dict",data:=.dict #[] } });refine⟨tn,F.args_dict_init_2 _ _,?_⟩;unfold Builtin.«dict.__init__»;refine Hk ?_;unfold Builtin.Dict.selfAndRest;refine Hk (wpAny_notOrdered_dict tn ?_);show wpAny _ _ (Pure.pure (s.heap.objs.size,[Value.ref d])) _ _ _;refine Hl ?_;show wpAny _ _ (Builtin.Dict.updateFrom "dict.__init__" s.heap.objs.size (.ref d) [] .none) _ _ _;unfold Builtin.Dict.updateFrom;refine Hk (Kk td ?_);rw[HM (by decide)];refine Hk ?_;unfold Builtin.Dict.merge;refine Hk ?_;unfold Builtin.Dict.readDirectly;refine Hk (IE td isSubtype_dict_dict ?_);simp only[Jf,HX,IU];refine Hk (Jw td F.slot_dict_iter.lookup (Hl ?_));simp only[beq_self_eq_true,Kg];refine Hk (Hl (merge (s:={ s with heap:=s.heap.push { cls:=.type "dict",data:=.dict #[] } }) lo m' mn (Jp m.lt) ne z (fun e he=>?_) hh fun h' ep' a1 a2=>?_))
 ·obtain⟨a,ek,o,g,c⟩:=hk e he;exact⟨a,ek,o,kp a o g,c⟩
 ·show wpAny _ _ (Bind.bind (Builtin.Dict.addKeywords s.heap.objs.size []) _) _ _ _;exact Hk (Hl (Hl ⟨rfl,q h' ep' a1 a2⟩))
end RD
namespace L2
variable {X:Cx}{pins:List (Addr×Obj)}{σ:St}{H:Hp}{s:Shared}
def hI(P:Program)(w:World)(k:List Int):Int:=(gi P w).hash k
end L2
namespace NK
open Sem (wp)
abbrev Nd:=Str×List Int×List Int
variable {prog:Program}{w:World}{A:Around}{E:Value->Shared->Prop}{s:Shared}
def At(prog:Program)(w:World)(h:Heap)(k:Nd)(a:Addr):Prop :=
 ∃o its n v b c,h.get? a=some o/\o.cls=.type "tuple"/\o.data=.seq its n/\its.toList=[v,.ref b,.ref c]/\(strKind prog w).is k.1 v=true/\IsTupleKey (intKind prog w) h k.2.1 b/\IsTupleKey (intKind prog w) h k.2.2 c
theorem At.ty{k:Nd}{a:Addr}(x:At prog w s.heap k a):s.TypeIs (.ref a) "tuple":=by
 obtain⟨o,_,_,_,_,_,ho,hc,_⟩:=x;exact⟨o,ho,hc⟩
theorem At.one(hx:At prog w h x a)(hy:At prog w h y a):x=y:=by
 obtain⟨o,its,n,v,b,c,ho,_,hd,hi,k1,k2,k3⟩:=hx;obtain⟨o',its',n',v',b',c',ho',_,hd',hi',l1,l2,l3⟩:=hy;have e:o=o':=Im (ho.symm.trans ho');subst e;rw[hd]at hd';injection hd' with e _;subst e;rw[hi]at hi';simp only[JY,Value.ref.injEq,and_true]at hi';obtain⟨rfl,rfl,rfl⟩:=hi';obtain⟨x1,x2,x3⟩:=x;obtain⟨y1,y2,y3⟩:=y;have e1:x1=y1:=(strKind prog w).inj _ _ _ k1 l1;have e2:x2=y2:=k2.inj l2;have e3:x3=y3:=k3.inj l3;rw[e1,e2,e3]
theorem At.stays(x:At prog w h k a)(ho:h.get? d=some o)(hd:o.data=.dict es ep)(hs:Heap.SameBut d h h'):At prog w h' k a:=by
 obtain⟨o',its,n,v,b,c,ho',hc,hd',hi,k1,k2,k3⟩:=x;have hne:a≠d:=fun e=>by
  subst e;have q:o'=o:=Im (ho'.symm.trans ho);subst q;rw[hd]at hd';cases hd'
 exact⟨o',its,n,v,b,c,(hs.2 a hne).trans ho',hc,hd',hi,k1,k2.keeps ho hd hs,k3.keeps ho hd hs⟩
def hs(prog:Program)(w:World)(k:Nd):List Int:=[(strKind prog w).hash k.1,tupleKeyHash (intKind prog w) k.2.1,tupleKeyHash (intKind prog w) k.2.2]
def hsh(prog:Program)(w:World)(k:Nd):Int:=reduceHash (Builtin.Tuple.tupleHashOf (hs prog w k))
def drw(k:Nd):Nat:=1+(k.2.1.length+1)+(k.2.2.length+1)+1
theorem wZ(hu:A.units+8<cLine)(hk:At prog w s.heap k a)(h:Q (hsh prog w k) { s with toks:=s.toks+drw k }) :
  wpAny (model prog w) A (PySem.pyHash (.ref a)) Q E s:=by
 have ty0:=hk.ty;obtain⟨o,its,n,v,b,c,ho,_,hd,hi,k1,k2,k3⟩:=hk;unfold pyHash
 try unfold pyHashByItsType
 first | refine Hk (wpAny_cRoomFor_or (.inr (by omega)) ?_) | skip
 refine Hk (Jw ty0 F.slot_tuple_hash.lookup ?_);show wpAny _ _ (ite ((some (Value.builtin "tuple.__hash__")==some Value.none)=true) _ _) Q E s;rw[HM (by simp[beq_builtin_none])];refine Hk (Jw ty0 F.slot_tuple_hash.lookup ?_);show wpAny _ _ (Bind.bind (callSpecialIfBoundUnlessNone? (.ref a) "__hash__" _) _) Q E s;refine Hk (wpAny_callSpecialIfBoundUnlessNone?_slot ty0 F.slot_tuple_hash (Ik F.slot_tuple_hash ty0 F.entry_tuple_hash ?_ (F.args_tuple_hash_1 _)));show wpAny _ _ (Bind.bind (Builtin.Tuple.tupleItemsOf (.ref a)) _) _ _ s;refine Hk (wpAny_tupleItemsOf (n:=n) ho hd ?_);refine Hk ?_;rw[←Jx,hi];have hu1:A.in1.units<cLine:=by show A.units+1<cLine;omega
 rw[Ja];refine Hk (Hk ((strKind prog w).pyHash k1 (Hl ?_)));show wpAny _ _ (forIn [Value.ref b,Value.ref c] _ _) _ _ _;rw[Ja];refine Hk (Hk (wpAny_pyHash_tuple hu1 k2 (Hl ?_)));show wpAny _ _ (forIn [Value.ref c] _ _) _ _ _;rw[Ja];refine Hk (Hk (wpAny_pyHash_tuple hu1 k3 (Hl ?_)));show wpAny _ _ (forIn ([]:List Value) _ _) _ _ _;rw[JO];refine Hl ?_;show wpAny _ _ (retInt (Builtin.Tuple.tupleHashOf (hs prog w k))) _ _ _;refine wpAny_ret_mkInt ?_;unfold hsh reduceHash at h;generalize Builtin.Tuple.tupleHashOf (hs prog w k)=z at h ⊢;show wpAny _ _ (ite ((decide (-(2:Int) ^ 63≤z)&&decide (z<2 ^ 63))=true) _ _) Q E _;by_cases hr:(decide (-(2:Int) ^ 63≤z)&&decide (z<2 ^ 63))=true
 ·rw[HP hr]at h ⊢;refine Hl ?_;unfold drw at h;simpa[Nat.add_assoc]using h
 ·rw[HM hr]at h ⊢;refine Hk (JW ?_);refine Hl ?_;unfold drw at h;simpa[Nat.add_assoc]using h
theorem uR(hu:A.units<cLine)(hx:At prog w s.heap x a)(hy:At prog w s.heap y b)(h:P (.done (.ret (.bool (decide (x=y))))) s) :
  wpAny (model prog w) A (Builtin.«tuple.__eq__» ⟨[Value.ref a,Value.ref b],[]⟩) P E s:=by
 have tyb:=hy.ty;obtain⟨oa,xs,na,va,a1,a2,hoa,_,hda,hia,k1,k2,k3⟩:=hx;obtain⟨ob,ys,nb,vb,b1,b2,hob,_,hdb,hib,l1,l2,l3⟩:=hy;show wpAny _ _ (Bind.bind (isInstance (.ref b) (.type "tuple")) _) _ _ s;refine Hk (IE tyb isSubtype_tuple_tuple ?_);simp only[IU,Jf,HX];refine Hk (wpAny_tupleItemsOf (n:=na) hoa hda ?_);refine Hk (wpAny_tupleItemsOf (n:=nb) hob hdb ?_);refine Hk ?_;rw[hia,hib];have ne:∀(q:x≠y),P (.done (.ret (.bool false))) s:=fun q=>by rw[Iz q]at h;exact h
 have hz:Builtin.Tuple.tupleCompareSizes CmpOp.Eq xs.size ys.size=.bool true:=by
  have e1:xs.size=3:=by rw[←Jd,hia];rfl
  have e2:ys.size=3:=by rw[←Jd,hib];rfl
  rw[e1,e2];rfl
 show wpAny _ _ (forIn [(va,vb),(Value.ref a1,Value.ref b1),(Value.ref a2,Value.ref b2)] _ _) _ _ _;rw[Ja];refine Hk (Hk ((strKind prog w).eqBool (a:=x.1) (b:=y.1) k1 l1 ?_));by_cases e1:x.1=y.1
 ·rw[ID e1];simp only[IU,Jf,HX];refine Hl ?_;show wpAny _ _ (forIn [(Value.ref a1,Value.ref b1),(Value.ref a2,Value.ref b2)] _ _) _ _ _;rw[Ja];refine Hk (Hk (wpAny_eqBool_tuple (by omega) k2 l2 ?_));by_cases e2:x.2.1=y.2.1
  ·rw[ID e2];simp only[IU,Jf,HX];refine Hl ?_;show wpAny _ _ (forIn [(Value.ref a2,Value.ref b2)] _ _) _ _ _;rw[Ja];refine Hk (Hk (wpAny_eqBool_tuple (by omega) k3 l3 ?_));by_cases e3:x.2.2=y.2.2
   ·rw[ID e3];simp only[IU,Jf,HX];refine Hl ?_;show wpAny _ _ (forIn ([]:List (Value×Value)) _ _) _ _ _;rw[JO];refine Hl ?_;show wpAny _ _ (ret (Builtin.Tuple.tupleCompareSizes CmpOp.Eq xs.size ys.size)) P E s;rw[hz];have e:x=y:=by
     obtain⟨x1,x2,x3⟩:=x;obtain⟨y1,y2,y3⟩:=y;simp only at e1 e2 e3;rw[e1,e2,e3]
    rw[ID e]at h;exact Hl h
   ·rw[Iz e3];simp only[Kg,JE];exact Hk (Hl (Hl (Hl (Hl (ne fun q=>e3 (by rw[q]))))))
  ·rw[Iz e2];simp only[Kg,JE];exact Hk (Hl (Hl (Hl (Hl (ne fun q=>e2 (by rw[q]))))))
 ·rw[Iz e1];simp only[Kg,JE];exact Hk (Hl (Hl (Hl (Hl (ne fun q=>e1 (by rw[q]))))))
theorem CP(hu:A.units+8<cLine)(hx:At prog w s.heap x a)(hy:At prog w s.heap y b)(h:Q (decide (x=y)) s):wpAny (model prog w) A (eqBool (.ref a) (.ref b)) Q E s:=by
 unfold eqBool
 try with_reducible refine Iy ?_
 show wpAny _ _ (ite ((Value.ref a==Value.ref b)=true) _ _) Q E s;by_cases same:(Value.ref a==Value.ref b)=true
 ·rw[HP same];have e:a=b:=Value.ref.inj (eq_of_beq same);subst e;have e:=hx.one hy;subst e;refine Hk (JW (Hl ?_));simpa using h
 ·rw[HM same];refine Hk (wpAny_richCompare_same_room (op:=.Eq) hx.ty hy.ty F.slot_tuple_eq (Ik F.slot_tuple_eq hx.ty F.entry_tuple_eq (uR (by show A.units+1<cLine;omega) hx hy ?_) (F.args_tuple_eq_2 _ _)) (by omega));exact⟨_,rfl,(fun e=>nomatch e),wpAny_truthy_bool h⟩
theorem i5(hk:IsTupleKey (intKind prog w) s.heap ks a)(h:Q true s):wpAny (model prog w) A (eqIsQuiet (m+1) (.ref a)) Q E s:=by
 have ty0:=hk.typeIs;obtain⟨o,its,n,ho,_,hd,hi⟩:=hk;unfold eqIsQuiet;refine Hk (Jw ty0 F.slot_tuple_eq.lookup ?_);show wpAny _ _ (Bind.bind (isInstance (.ref a) (.type "tuple")) _) _ _ s;refine Hk (IE ty0 isSubtype_tuple_tuple ?_);simp only[IU,Jf,HX];refine Hk (Jj (n:=n) ho hd ?_);refine Hk ?_;show wpAny _ _ (forIn its _ _) _ _ s;rw[←Jx];refine wpAny_forIn_list _ (fun rest r s'=>(∀v∈rest,carriedByValue v=true)/\s'=s/\r.1=none) _ ?_ ?_ _ _ ⟨hi.byValue,rfl,rfl⟩
 ·rintro v rest r s' ⟨hall,rfl,hr⟩;rw[eqIsQuiet_byValue m (hall v HL)];refine Hk (Hl ?_);simp only[IU,Jf,HX];exact Hl ⟨fun u hu=>hall u (HH _ hu),rfl,rfl⟩
 ·rintro⟨r1,r2⟩ s' ⟨_,rfl,hr⟩;simp only at hr;subst hr;exact Hl h
theorem sS(hk:At prog w s.heap k a)(h:Q true s):wpAny (model prog w) A (eqIsQuiet 8 (.ref a)) Q E s:=by
 have ty0:=hk.ty;obtain⟨o,its,n,v,b,c,ho,_,hd,hi,k1,k2,k3⟩:=hk;unfold eqIsQuiet;refine Hk (Jw ty0 F.slot_tuple_eq.lookup ?_);show wpAny _ _ (Bind.bind (isInstance (.ref a) (.type "tuple")) _) _ _ s;refine Hk (IE ty0 isSubtype_tuple_tuple ?_);simp only[IU,Jf,HX];refine Hk (Jj (n:=n) ho hd ?_);refine Hk ?_;show wpAny _ _ (forIn its _ _) _ _ s;rw[←Jx,hi,Ja];rw[eqIsQuiet_byValue _ ((strKind prog w).byValue _ _ k1)];refine Hk (Hk ?_);refine Hl ?_;simp only[IU,Jf,HX];refine Hl ?_;show wpAny _ _ (forIn [Value.ref b,Value.ref c] _ _) _ _ _;rw[Ja];refine Hk (Hk (i5 k2 ?_));simp only[IU,Jf,HX];refine Hl ?_;show wpAny _ _ (forIn [Value.ref c] _ _) _ _ _;rw[Ja];refine Hk (Hk (i5 k3 ?_));simp only[IU,Jf,HX];refine Hl ?_;show wpAny _ _ (forIn ([]:List Value) _ _) _ _ _;rw[JO];refine Hl ?_;exact Hl h
def kind(prog:Program)(w:World):HeapKind prog w Nd where
 is:=At prog w
 hash:=hsh prog w
 draws:=drw
 room:=fun A=>A.units+8<cLine
 inj:=fun hx hy=>hx.one hy
 keeps:=fun x ho hd hs=>x.stays ho hd hs
 pyHash:=fun hu hk h=>wZ hu hk h
 eqBool:=fun hu hx hy h=>CP hu hx hy h
 quiet:=fun hk h=>sS hk h
end NK
namespace NK
open Sem (wp)
variable {prog:Program}{w:World}{A:Around}{E:Value->Shared->Prop}{s:Shared}{K:Type}[DecidableEq K]{knd:HeapKind prog w K}
theorem kK{d a:Addr}{xs:List (K×Addr×Value)}{k:K}{v:Value}{Q:Value->Shared->Prop}(hu:knd.room A)(hkey:knd.is s.heap k a)(hm:s.heap.DictOfH knd d xs)(hsz:xs.length≤sizeLine)
  (h1:∀p,atKey xs k=some p->Q p.2 { s with toks:=s.toks+knd.draws k })
  (h2:atKey xs k=none->∀h',h'.DictOfH knd d (xs++[(k,a,v)])->Heap.SameBut d s.heap h'->Q v { s with heap:=h',toks:=s.toks+knd.draws k }) :
  wpAny (model prog w) A (dictSetDefault d (.ref a) v) Q E s:=by
 obtain⟨o,es,ep,g,hc,g2,he,his,hn⟩:=hm;unfold dictSetDefault
 try with_reducible refine Iy ?_
 refine Hk (knd.pyHash (k:=k) hu hkey ?_);refine Hk (wpAny_dictFind_heap (s:={ s with toks:=s.toks+knd.draws k }) hu hkey g g2 he his hn ?_ ?_)
 ·intro hno;have none':=atKey_none_of_get hno;have new:k∉xs.map (·.1):=not_mem_keys_of_get hno;refine Hk (JW (Hk (wpAny_updateDictKeys (hz:=by have e:=size_of_entries he;omega) (s:={ s with toks:=s.toks+knd.draws k }) g g2 (Hl (h2 none' _ ⟨_,_,ep+1,Iw _ g (Obj.isFreed_of_dict (Obj.data_mapDictKeys g2 _)),hc.mapDictKeys _,Obj.data_mapDictKeys g2 _,?_,?_,?_⟩ (Ih ..))))))
  ·simp[he,entryOfKey]
  ·intro x hx;rcases Ii.mp hx with q | q
   ·exact knd.keeps (his x q) g g2 (Ih ..)
   ·rw[Hx]at q;subst q;exact knd.keeps hkey g g2 (Ih ..)
  ·rw[HW];rw[List.nodup_append];refine⟨hn,by simp,fun x hx y hy e=>?_⟩;have q:y=k:=by simpa using hy
   rw[e,q]at hx;exact new hx
 ·intro j p hj;refine Hk (JD (s:={ s with toks:=s.toks+knd.draws k }) g g2 ?_);rw[entry_at he j,hj];exact Hk (JW (Hl (h1 p (atKey_of_get hn hj))))
theorem qm{d a:Addr}{xs:List (K×Addr×Value)}{k:K}{v:Value}{P:Fin->Shared->Prop}(hs:(d==sysModules)=false)(hu:knd.room A)(hkey:knd.is s.heap k a)(hm:s.heap.DictOfH knd d xs)(hsz:xs.length≤sizeLine)
  (h1:∀p,atKey xs k=some p->P (.done (.ret p.2)) { s with toks:=s.toks+knd.draws k })
  (h2:atKey xs k=none->∀h',h'.DictOfH knd d (xs++[(k,a,v)])->Heap.SameBut d s.heap h'->P (.done (.ret v)) { s with heap:=h',toks:=s.toks+knd.draws k }) :
  wpAny (model prog w) A (Builtin.«dict.setdefault» ⟨[.ref d,.ref a,v],[]⟩) P E s:=by
 unfold Builtin.«dict.setdefault»;refine Hk ?_;unfold Builtin.Dict.keyAndDefault;refine Hk (wpAny_notOrdered_dict (Heap.DictOfH.typeIs hm) ?_);refine Hl ?_;show wpAny _ _ (ite ((d==sysModules)=true) _ (Bind.bind (dictSetDefault d (.ref a) v) _)) _ _ s;rw[HM (by rw[hs];exact Jh)];exact Hk (kK hu hkey hm hsz (fun p hp=>Hl (h1 p hp)) fun hn h' hm' hs'=>Hl (h2 hn h' hm' hs'))
end NK
namespace L2
section
variable {X:Cx}{pins:List (Addr×Obj)}{σ:St}{H:Hp}{s:Shared}
def bZ(P:Program)(w:World)(a:Addr)(ks:List NK.Nd)(as:List Addr):Heap->Prop:=fun h=>(a==sysModules)=false/\∃o es ep,∃xs:List (NK.Nd×Addr×Value),h.get? a=some o/\o.ExactDict/\o.data=.dict es ep/\es.toList=xs.map (entryOfKey (NK.kind P w))/\xs.map (·.1)=ks/\xs.map (·.2.1)=as/\(∀(i:Nat) x,xs[i]?=some x->∃tk,x.2.2=.int (i:Int) tk)/\ks.Nodup
theorem bZ.ok(n:bZ P w a ks as h):aI P w H h a (.ext (bZ P w a ks as)):=by
 refine⟨n,?_,?_⟩
 ·obtain⟨_,o,es,ep,xs,ho,_⟩:=n;exact⟨o,ho⟩
 ·rintro h1 h2 ⟨hb,o,es,ep,xs,ho,r⟩ k;exact⟨hb,o,es,ep,xs,k o ho,r⟩
def jW(K:PySem.W.Frag)(H:Hp)(k:NK.Nd)(a:Addr):Prop:=∃b c,SqT K H a [.str k.1,.ref b,.ref c]/\SqT K H b (k.2.1.map V.int)/\SqT K H c (k.2.2.map V.int)
theorem hV{prog:Program}{w:World}:∀{ns:List Int} {vs:List Value},Vals (ns.map V.int) vs->ItemsAre (intKind prog w) ns vs
 | [],_,.nil=>.nil
 | n::ns,_,.cons r t=>by
  obtain⟨tk,rfl⟩:=r;exact .cons (by simp[intKind,Value.isInt]) (hV t)
theorem lQ(I:Inv X pins σ H s){ns:List Int}{b:Addr}(h:SqT X.K H b (ns.map V.int)):IsTupleKey (intKind X.prog X.w) s.heap ns b:=by
 obtain⟨is,r,⟨o,ho,hc,n,hd⟩,_⟩:=I.tuple h;exact⟨o,_,n,ho,hc,hd,hV r⟩
theorem ow(I:Inv X pins σ H s){k:NK.Nd}{a:Addr}(h:jW X.K H k a):NK.At X.prog X.w s.heap k a:=by
 obtain⟨b,c,h1,h2,h3⟩:=h;obtain⟨is,r,⟨o,ho,hc,n,hd⟩,_⟩:=I.tuple h1;cases r with
 | cons r1 r =>
  cases r with
  | cons r2 r =>
   cases r with
   | cons r3 r =>
    cases r;cases r2;cases r3;obtain⟨tk,rfl⟩:=r1;exact⟨o,_,n,_,b,c,ho,hc,hd,rfl,by show Value.isStrOf k.1 (Value.str k.1 tk)=true;simp[Value.isStrOf],lQ I h2,lQ I h3⟩
def nv(K:PySem.W.Frag)(H:Hp)(ks:List NK.Nd)(as:List Addr):Prop:=Paired (jW K H) ks as
theorem nc{R:α->β->Prop}{xs:List (α×β×Value)}:Paired R (xs.map (·.1)) (xs.map (·.2.1))->∀x∈xs,R x.1 x.2.1:=by
 induction xs with
 | nil=>intro _ x hx;cases hx
 | cons y xs ih =>
  intro h x hx;cases h with
  | cons h1 h2 =>
   rcases Hy.mp hx with rfl | hx2
   ·exact h1
   ·exact ih h2 x hx2
theorem tw{α:Type}[DecidableEq α]{xs:List (α×Addr×Value)}{k:α}{p:Addr×Value}(h:atKey xs k=some p):∃i:Nat,xs[i]?=some (k,p):=by
 unfold atKey at h;cases e:xs.find? fun x=>decide (x.1=k)with
 | none=>rw[e]at h;cases h
 | some x =>
  rw[e]at h;have h1:=List.find?_some e;have h2:=List.mem_of_find?_eq_some e;obtain⟨i,hi,ei⟩:=List.getElem_of_mem h2;have q:x.1=k:=Jm h1;have q2:x.2=p:=Im h;refine⟨i,?_⟩;rw[Hn hi,ei,← q,← q2]
theorem pQ{α:Type}[DecidableEq α]{xs:List (α×Addr×Value)}{k:α}(h:atKey xs k=none):k∉xs.map (·.1):=by
 unfold atKey at h;rw[Option.map_eq_none_iff,List.find?_eq_none]at h;intro q;obtain⟨x,hx,e⟩:=Hw.mp q;exact h x hx (ID e)
def xR(P:Program)(w:World)(K:PySem.W.Frag):V->List V->Hp->VK->Prop:=fun x vs H Q=>∃d ks as k a,x=.ref d/\vs=[.ref a,.int (ks.length:Nat)]/\H d=some (.ext (bZ P w d ks as))/\nv K H ks as/\jW K H k a/\ks.length<1000/\(∀i:Nat,ks[i]?=some k->Q (.int i) H)/\(k∉ks->Q (.int (ks.length:Nat)) (upd H d (.ext (bZ P w d (ks++[k]) (as++[a])))))
theorem xh(hu:X.A.units+64<cLine):MtM X "dict.setdefault" (xR X.prog X.w X.K):=by
 intro pins s σ H x vs v us Q I rx rv h;obtain⟨d,ks,as,k,a,rfl,rfl,hH,hK,hk,hz,q1,q2⟩:=h;cases rx;obtain⟨u1,u2,rfl,r1,r2⟩:=rv.two;cases r1;obtain⟨tk,rfl⟩:=r2;obtain⟨hN,_,_⟩:=(show aI X.prog X.w H s.heap d (.ext (bZ X.prog X.w d ks as))from I.hok d _ hH);obtain⟨hb,o,es,ep,xs,ho,hc,hd,he,rfl,rfl,hv,nd⟩:=hN;have hm:s.heap.DictOfH (NK.kind X.prog X.w) d xs:=⟨o,es,ep,ho,hc,hd,he,fun x hx=>ow I (nc hK x hx),nd⟩;have lz:xs.length<1000:=by rw[Hm]at hz;exact hz
 refine Ik F.slot_dict_setdefault hm.typeIs F.entry_dict_setdefault (NK.qm (knd:=NK.kind X.prog X.w) (k:=k) (xs:=xs) hb (show X.A.units+1+8<cLine by omega) (ow I hk) hm (by rw[IA];omega) (fun p hp=>?_) fun hn h' hm' hs'=>?_) (F.args_dict_setdefault_3 _ _ _)
 ·obtain⟨i,ei⟩:=tw hp;obtain⟨tk',e'⟩:=hv i _ ei;refine⟨_,rfl,.int i,H,I.kept (fun b o e=>e),⟨tk',e'⟩,q1 i ?_⟩;rw[Ht,ei];rfl
 ·have nk:=pQ hn;obtain⟨o',es',ep',ho',hc',hd',he',_,nd'⟩:=hm';refine⟨_,rfl,.int (List.map (fun x=>x.fst) xs).length,_,I.write (x:=d) (e:=d) (o:=.ext (bZ X.prog X.w d (xs.map (·.1)++[k]) (xs.map (·.2.1)++[a]))) (by rw[hH];exact trivial) (.inl rfl) (fun b u hb hu=>(hs'.2 b hb).trans hu) ⟨o',ho'⟩ (bZ.ok ?_),⟨tk,rfl⟩,q2 nk⟩;refine⟨hb,o',es',ep',_,ho',hc',hd',he',by simp,by simp,fun i x hx=>?_,by simpa using nd'⟩;rw[List.getElem?_append]at hx;by_cases hi:i<xs.length
  ·rw[HP hi]at hx;exact hv i x hx
  ·rw[HM hi]at hx;have q:i=xs.length/\x=(k,a,Value.int (List.map (fun x=>x.fst) xs).length tk):=by
    cases e:i - xs.length with
    | zero=>rw[e]at hx;simp at hx;exact⟨by omega,by rw[←hx,Hm]⟩
    | succ j=>rw[e]at hx;simp at hx
   obtain⟨e1,e2⟩:=q;subst e2;exact⟨tk,by rw[Hm,e1]⟩
def yN(P:Program)(w:World):TE:=fun _ H Q=>∀p,H p=none->Q (.ref p) (upd H p (.ext (bZ P w p [] [])))
theorem rT:PE X (.Dict [] [] pos) (yN X.prog X.w):=fun pins s σ H Q I h =>
 wpAny_Dict_empty ⟨.ref s.heap.objs.size,_,I.laid (a:=s.heap.objs.size) (o:=.ext (bZ X.prog X.w s.heap.objs.size [] [])) (t':=s.toks) (fun _ _ q=>Ho _ q) (Hr _) (bZ.ok ⟨Jc.mpr (Ne.symm (HQ I.big)),_,#[],0,[],Hv _ rfl,⟨rfl,rfl,rfl⟩,rfl,rfl,rfl,rfl,fun i x h=>by simp at h,List.nodup_nil⟩),rfl,h _ (I.hok.fresh (Hr _))⟩
end
section
variable {X:Cx}
theorem bZ.raw(n:bZ P w a ks as h):(a==sysModules)=false/\∃es ep,RD.At h a es ep/\es.toList.map (·.key)=as.map Value.ref/\as.length=ks.length:=by
 obtain⟨lo,o,es,ep,xs,ho,hc,hd,he,rfl,rfl,_,_⟩:=n;refine⟨lo,es,ep,⟨o,ho,hc,hd⟩,?_,by simp⟩;rw[he,HY,HY];rfl
theorem vS(lo:(d==sysModules)=false)(m:RD.At s.heap d es ep)(fit:es.size<1000)
  (h:Q (.int es.size (s.toks+1)) { s with toks:=s.toks+1+1 }):wpAny (model prog w) A (call (.builtin "len") [.ref d]) Q E s:=by
 have ty:=m.ty;obtain⟨o,g,c,g2⟩:=m;refine Calls.call_function_entry kind_len plain_len entry_len (args_len1 _) ?_;unfold Builtin.«len»;refine Hk (m:=oneArg "len" _) (Hl (Hk (m:=callSpecial? (.ref d) (Str.ofString "__len__")) (IB (name:=Str.ofString "__len__") ty F.slot_dict_len (Ik F.slot_dict_len ty F.entry_dict_len ?_ (F.args_dict_len_1 _)))));show wpAny _ _ (Bind.bind (dictSize d) _) _ _ s;unfold dictSize;refine Hk (Hk (JD g g2 (Hl ?_)));show wpAny _ _ (Bind.bind (Builtin.Dict.pendingCount d) _) _ _ s;refine Hk (wpAny_pendingCount_other lo ?_);refine wpAny_ret_mkInt ?_;rw[Nat.add_zero];show wpAny _ _ _ _ _ { s with toks:=s.toks+1 };refine Hk (Iy (Hl (Hk (wpAny_letGo ?_))));show wpAny _ _ (ite (((es.size:Nat):Int)<0) _ _) _ _ _;rw[HM (by omega)];show wpAny _ _ (ite (((es.size:Nat):Int)≥2 ^ 63) _ _) _ _ _;rw[HM (by omega)];exact Hk (wpAny_mkInt (Hl ⟨_,rfl,h⟩))
theorem pf:bH X (.builtin "len") (fun xs H Q=>∃d ks as,xs=[.ref d]/\H d=some (.ext (bZ P w d ks as))/\ks.length<1000/\Q (.int (ks.length:Nat)) H):=by
 intro pins s σ H xs us Q I r h;obtain⟨d,ks,as,rfl,hH,hz,q⟩:=h;obtain⟨u,rfl,ru⟩:=Vals.one r;cases ru;obtain⟨hN,_,_⟩:=(show aI X.prog X.w H s.heap d (.ext (bZ P w d ks as))from I.hok d _ hH);obtain⟨lo,es,ep,m,hk,hl⟩:=hN.raw;have e:es.size=ks.length:=by
  have:=congrArg List.length hk;rw[Hm,Hm,Jd]at this;omega
 rw[←e]at hz q;exact vS lo m hz ⟨.int es.size,H,I.kept (fun b o e=>e),⟨_,rfl⟩,q⟩
theorem i7:∀{as:List Addr},Vals (as.map V.ref) (as.map Value.ref)
 | []=>.nil
 | _::_=>.cons rfl i7
theorem mz(hc:X.calm=true):bH X (.type "list") (fun xs H Q=>∃d ks as,xs=[.ref d]/\H d=some (.ext (bZ P w d ks as))/\ks.length<1000/\∀r,H r=none->Q (.ref r) (upd H r (.lst (as.map V.ref)))):=by
 intro pins s σ H xs us Q I r h;obtain⟨d,ks,as,rfl,hH,hz,q⟩:=h;obtain⟨u,rfl,ru⟩:=Vals.one r;cases ru;obtain⟨hN,_,_⟩:=(show aI X.prog X.w H s.heap d (.ext (bZ P w d ks as))from I.hok d _ hH);obtain⟨lo,es,ep,m,hk,hl⟩:=hN.raw;have e:es.size=as.length:=by
  have:=congrArg List.length hk;rw[Hm,Hm,Jd]at this;exact this
 refine PySem.W.kdl_call (RD.src lo) (I.ok.hd hc) m (by rw[IA];omega) fun h' tk acc c kp hS hacc=>?_;have hn:H s.heap.objs.size=none:=I.hok.fresh (Hr _);have ea:acc.toList=as.map Value.ref:=by
  rw[←hk];apply List.ext_getElem?;intro j;rw[Ht,Iu,Iu];by_cases hj:j<es.size
  ·have hj':j<acc.size:=by rw[hacc.1];exact hj
   obtain⟨_,ev⟩:=hacc.2 j acc[j] (HU hj');rw[HU hj',HU hj,ev];rfl
  ·rw[II (by rw[hacc.1];omega),II (by omega)];rfl
 refine⟨.ref s.heap.objs.size,_,I.laid (t':=tk) (o:=.lst (as.map V.ref)) (fun b o e=>kp b o e) (Hr _) ?_,rfl,q _ hn⟩;refine⟨by rw[Hm,IA];omega,as.map Value.ref,c,i7,?_⟩;rw[hS,← ea]
end
end L2
namespace U
open L2
section
inductive PV where
 | non | bl (b:Bool) | int (i:Int) | str (x:Str) | ref (a:Addr) | tup (l:List PV) | fls (l:List PV) | oth (v:V)
def FzL(K:PySem.W.Frag)(H:Hp)(a:Addr)(xs:List V):Prop :=
 (∃o,H a=some (.frz o (.lst xs))) ∨
  ∃(o:Obj) (its:Array Value) (n:Nat),K.lookup a=some o/\o.cls=.type "list"/\o.dict=none/\o.data=.seq its n/\its.size≤sizeLine/\Vals xs its.toList
theorem FzL.sq{K:PySem.W.Frag}(h:FzL K H a xs):SqL K H a xs:=by
 rcases h with h | h
 ·exact .inl (.inr h)
 ·exact .inr h
structure Kp (H H1:Hp):Prop where
 t:∀a us,H a=some (.tup us)->H1 a=some (.tup us)
 z:∀a o u,H a=some (.frz o u)->H1 a=some (.frz o u)
theorem Kp.sqT{K:PySem.W.Frag}(k:Kp H H1){a:Addr}{us:List V}(h:SqT K H a us):SqT K H1 a us:=by
 rcases h with(h |⟨o,h⟩) | h
 ·exact .inl (.inl (k.t _ _ h))
 ·exact .inl (.inr ⟨o,k.z _ _ _ h⟩)
 ·exact .inr h
theorem Kp.fzL{K:PySem.W.Frag}(k:Kp H H1){a:Addr}{us:List V}(h:FzL K H a us):FzL K H1 a us:=by
 rcases h with⟨o,h⟩ | h
 ·exact .inl ⟨o,k.z _ _ _ h⟩
 ·exact .inr h
section
variable (K:PySem.W.Frag)
mutual
def RP(H:Hp):PV->V->Prop
 | .non,v=>v=.non
 | .bl b,v=>v=.bl b
 | .int i,v=>v=.int i
 | .str x,v=>v=.str x
 | .ref a,v=>v=.ref a
 | .oth w,v=>v=w
 | .tup l,v=>∃a us,v=.ref a/\SqT K H a us/\RPs H l us
 | .fls l,v=>∃a us,v=.ref a/\FzL K H a us/\RPs H l us
def RPs(H:Hp):List PV->List V->Prop
 | [],us=>us=[]
 | x::l,us=>∃u r,us=u::r/\RP H x u/\RPs H l r
end
mutual
theorem RP.kp{H H1:Hp}(k:Kp H H1):∀{x:PV} {v:V},RP K H x v->RP K H1 x v
 | .non,_,h=>h
 | .bl _,_,h=>h
 | .int _,_,h=>h
 | .str _,_,h=>h
 | .ref _,_,h=>h
 | .oth _,_,h=>h
 | .tup l,v,h=>by
  simp only[RP]at h ⊢;obtain⟨a,us,e,q,r⟩:=h;exact⟨a,us,e,k.sqT q,RPs.kp k r⟩
 | .fls l,v,h=>by
  simp only[RP]at h ⊢;obtain⟨a,us,e,q,r⟩:=h;exact⟨a,us,e,k.fzL q,RPs.kp k r⟩
theorem RPs.kp{H H1:Hp}(k:Kp H H1):∀{l:List PV} {us:List V},RPs K H l us->RPs K H1 l us
 | [],_,h=>h
 | x::l,us,h=>by
  simp only[RPs]at h ⊢;obtain⟨u,r,e,a,b⟩:=h;exact⟨u,r,e,RP.kp k a,RPs.kp k b⟩
end
theorem RPs.nil:RPs K H [] []:=by simp[RPs]
theorem RPs.cons{H:Hp}{x:PV}{l:List PV}{u:V}{us:List V}(a:RP K H x u)(b:RPs K H l us):RPs K H (x::l) (u::us):=by
 simp only[RPs];exact⟨u,us,rfl,a,b⟩
theorem RPs.length{H:Hp}:∀{l:List PV} {us:List V},RPs K H l us->us.length=l.length
 | [],us,h=>by simp only[RPs]at h;subst h;rfl
 | x::l,us,h=>by
  simp only[RPs]at h;obtain⟨u,r,rfl,_,b⟩:=h;simp[RPs.length b]
theorem RPs.get{H:Hp}:∀{l:List PV} {us:List V} {i:Nat} {x:PV},RPs K H l us->l[i]?=some x->∃u,us[i]?=some u/\RP K H x u
 | [],_,_,_,_,e=>by simp at e
 | y::l,us,i,x,h,e=>by
  simp only[RPs]at h;obtain⟨u,r,rfl,a,b⟩:=h;cases i with
  | zero=>simp at e;subst e;exact⟨u,by simp,a⟩
  | succ i=>obtain⟨w,e1,e2⟩:=RPs.get (i:=i) (x:=x) b (by simpa using e);exact⟨w,by simpa using e1,e2⟩
theorem RPs.append{H:Hp}:∀{l m:List PV} {us ws:List V},RPs K H l us->RPs K H m ws->RPs K H (l++m) (us++ws)
 | [],m,us,ws,h,g=>by simp only[RPs]at h;subst h;simpa using g
 | x::l,m,us,ws,h,g=>by
  simp only[RPs]at h;obtain⟨u,r,rfl,a,b⟩:=h;exact RPs.cons K a (RPs.append b g)
theorem RPs.take{H:Hp}:∀{l:List PV} {us:List V} (n:Nat),RPs K H l us->RPs K H (l.take n) (us.take n)
 | [],us,n,h=>by simp only[RPs]at h;subst h;simp[RPs]
 | x::l,us,0,h=>by simp[RPs]
 | x::l,us,n+1,h=>by
  simp only[RPs]at h;obtain⟨u,r,rfl,a,b⟩:=h;exact RPs.cons K a (RPs.take n b)
theorem RPs.drop{H:Hp}:∀{l:List PV} {us:List V} (n:Nat),RPs K H l us->RPs K H (l.drop n) (us.drop n)
 | [],us,n,h=>by simp only[RPs]at h;subst h;simp[RPs]
 | x::l,us,0,h=>h
 | x::l,us,n+1,h=>by
  simp only[RPs]at h;obtain⟨u,r,rfl,a,b⟩:=h;exact RPs.drop n b
theorem RPs.dropLast(h:RPs K H l us):RPs K H l.dropLast us.dropLast:=by
 rw[List.dropLast_eq_take,List.dropLast_eq_take,RPs.length K h];exact RPs.take K _ h
theorem RPs.ints{H:Hp}:∀(ns:List Int),RPs K H (ns.map PV.int) (ns.map V.int)
 | []=>by simp[RPs]
 | n::ns=>RPs.cons K (by simp[RP]) (RPs.ints ns)
theorem RPs.ints_eq{H:Hp}:∀{ns:List Int} {us:List V},RPs K H (ns.map PV.int) us->us=ns.map V.int
 | [],us,h=>by simpa[RPs]using h
 | n::ns,us,h=>by
  simp only[HV,RPs]at h;obtain⟨u,r,rfl,a,b⟩:=h;have e:=RPs.ints_eq b;simp only[RP]at a;subst a;subst e;rfl
end
def F7(a C:Addr)(h:Heap):Prop:=∃o,h.get? a=some o/\o.cls=.ref C
inductive PO where
 | exc (C:Addr)
 | lst (l:List PV)
 | ins (C dx:Addr) (fs:List (Str×PV))
 | dK (kvs:List (Key×PV))
 | dT (kvs:List (List Key×PV))
 | dN (P:Program) (w:World) (ks:List NK.Nd)
 | dI (P:Program) (w:World) (kvs:List (List Int×PV)) (ep:Nat)
 | vw (d:Addr)
abbrev PHp:=Addr->Option PO
def put(H:PHp)(a:Addr)(o:PO):PHp:=fun b=>if b=a then some o else H b
theorem ai{H:PHp}{a:Addr}{o:PO}:put H a o a=some o:=by unfold put;rw[HP rfl]
theorem ao{H:PHp}{a b:Addr}{o:PO}(h:b≠a):put H a o b=H b:=by unfold put;rw[HM h]
theorem aK{H:PHp}{a:Addr}{o u:PO}:put (put H a o) a u=put H a u:=by
 funext b;unfold put;split<;>rfl
theorem aq{H:PHp}{a b:Addr}{o:PO}(h:H a=some o)(h':H b=none):a≠b:=by
 intro e;subst e;rw[h]at h';cases h'
abbrev c7(K:PySem.W.Frag)(H:Hp){κ:Type}:List (κ×PV)->List (κ×V)->Prop:=Paired fun p q=>p.1=q.1/\RP K H p.2 q.2
def tI(t:List Int):PV:=.tup (t.map PV.int)
def ndV(k:NK.Nd):PV:=.tup [.str k.1,.tup (k.2.1.map PV.int),.tup (k.2.2.map PV.int)]
def OAt(K:PySem.W.Frag)(H:Hp)(a:Addr):PO->Prop
 | .exc C=>H a=some (.ext (F7 a C))
 | .lst l=>∃us,H a=some (.lst us)/\RPs K H l us
 | .ins C dx fs=>∃gs,H a=some (.ins C dx gs)/\c7 K H fs gs
 | .dK kvs=>∃ws,H a=some (.dK ws)/\c7 K H kvs ws
 | .dT kvs=>∃ws,H a=some (.dT ws)/\c7 K H kvs ws
 | .dN P w ks=>∃as:List Addr,H a=some (.ext (bZ P w a ks as))/\RPs K H (ks.map ndV) (as.map V.ref)
 | .dI P w kvs ep=>∃as vs,H a=some (.ext (bF P w a (kvs.map (·.1)) as vs ep))/\RPs K H ((kvs.map (·.1)).map tI) (as.map V.ref)/\RPs K H (kvs.map (·.2)) vs
 | .vw d=>H a=some (.ext (Fv a d))
abbrev HR(K:PySem.W.Frag)(H':PHp)(H:Hp):Prop:=∀a o,H' a=some o->OAt K H a o
abbrev St':=List (Option PV)
abbrev Bs:=PHp×Hp
def Ev(H':PHp)(H:Hp)(H1':PHp)(H1:Hp):Prop:=∀a o,H a=some o->H' a=none->H1 a=some o/\H1' a=none
structure SR (K:PySem.W.Frag) (B:Bs) (σ':St') (H':PHp) (σ:L2.St) (H:Hp):Prop where
 len:σ'.length=σ.length
 loc:∀(i:Nat) (v':PV),σ'[i]?=some (some v')->∃v,σ[i]?=some (some v)/\RP K H v' v
 hp:HR K H' H
 ev:Ev B.1 B.2 H' H
theorem Ev.refl(H':PHp)(H:Hp):Ev H' H H' H:=fun _ _ h h'=>⟨h,h'⟩
theorem Ev.trans{H':PHp}{H:Hp}{H1':PHp}{H1:Hp}{H2':PHp}{H2:Hp}(a:Ev H' H H1' H1)(b:Ev H1' H1 H2' H2):Ev H' H H2' H2:=fun c o h h'=>by
 obtain⟨p,q⟩:=a c o h h';exact b c o p q
section
variable {K:PySem.W.Frag}
theorem c7.kp{κ:Type}{H H1:Hp}(k:Kp H H1){fs:List (κ×PV)}{gs:List (κ×V)}(h:c7 K H fs gs):c7 K H1 fs gs:=Paired.mapP h fun _ _ ⟨a,b⟩=>⟨a,RP.kp K k b⟩
theorem OAt.some{H:Hp}{a:Addr}:∀{o:PO},OAt K H a o->∃u,H a=Option.some u/\(∀us,u≠.tup us)/\(∀o us,u≠.frz o us)/\(∀x,u≠.own x)
 | .exc C,e=>⟨_,e,(fun _=>by nofun),(fun _ _=>by nofun),(fun _=>by nofun)⟩
 | .lst l,⟨us,e,_⟩=>⟨_,e,(fun _=>by nofun),(fun _ _=>by nofun),(fun _=>by nofun)⟩
 | .ins C dx fs,⟨us,e,_⟩=>⟨_,e,(fun _=>by nofun),(fun _ _=>by nofun),(fun _=>by nofun)⟩
 | .dK l,⟨us,e,_⟩=>⟨_,e,(fun _=>by nofun),(fun _ _=>by nofun),(fun _=>by nofun)⟩
 | .dT l,⟨us,e,_⟩=>⟨_,e,(fun _=>by nofun),(fun _ _=>by nofun),(fun _=>by nofun)⟩
 | .dN P w ks,⟨us,e,_⟩=>⟨_,e,(fun _=>by nofun),(fun _ _=>by nofun),(fun _=>by nofun)⟩
 | .dI P w kvs ep,⟨_,_,e,_⟩=>⟨_,e,(fun _=>by nofun),(fun _ _=>by nofun),(fun _=>by nofun)⟩
 | .vw d,e=>⟨_,e,(fun _=>by nofun),(fun _ _=>by nofun),(fun _=>by nofun)⟩
theorem OAt.keep{H H1:Hp}{a:Addr}(k:Kp H H1)(e:H1 a=H a):∀{o:PO},OAt K H a o->OAt K H1 a o
 | .exc C,h=>e.trans h
 | .lst l,⟨us,h,r⟩=>⟨us,e.trans h,RPs.kp K k r⟩
 | .ins C dx fs,⟨us,h,r⟩=>⟨us,e.trans h,c7.kp k r⟩
 | .dK l,⟨us,h,r⟩=>⟨us,e.trans h,c7.kp k r⟩
 | .dT l,⟨us,h,r⟩=>⟨us,e.trans h,c7.kp k r⟩
 | .dN P w ks,⟨as,h,r⟩=>⟨as,e.trans h,RPs.kp K k r⟩
 | .dI P w kvs ep,⟨as,vs,h,r1,r2⟩=>⟨as,vs,e.trans h,RPs.kp K k r1,RPs.kp K k r2⟩
 | .vw d,h=>e.trans h
theorem HR.tup{H':PHp}{H:Hp}(h:HR K H' H){a:Addr}{us:List V}(e:H a=some (.tup us)):H' a=none:=by
 cases q:H' a with
 | none=>rfl
 | some o=>obtain⟨u,e1,n,_⟩:=(h a o q).some;rw[e]at e1;exact absurd (Im e1).symm (n us)
theorem HR.frz{H':PHp}{H:Hp}(h:HR K H' H){a:Addr}{o:Obj}{u:HO}(e:H a=some (.frz o u)):H' a=none:=by
 cases q:H' a with
 | none=>rfl
 | some o'=>obtain⟨u',e1,_,n,_⟩:=(h a o' q).some;rw[e]at e1;exact absurd (Im e1).symm (n o u)
theorem HR.free{H':PHp}{H:Hp}(h:HR K H' H){a:Addr}(e:H a=none):H' a=none:=by
 cases q:H' a with
 | none=>rfl
 | some o=>obtain⟨u,e1,_⟩:=(h a o q).some;rw[e]at e1;cases e1
theorem Ev.kp{H':PHp}{H:Hp}{H1':PHp}{H1:Hp}(e:Ev H' H H1' H1)(h:HR K H' H):Kp H H1 :=
 ⟨fun a us q=>(e a _ q (h.tup q)).1,fun a o u q=>(e a _ q (h.frz q)).1⟩
theorem dZ{H:Hp}{p:Addr}{o:HO}(e:H p=none):Kp H (upd H p o) :=
 ⟨fun a us q=>by rw[ay (az q e)];exact q,fun a o u q=>by rw[ay (az q e)];exact q⟩
theorem kQ{H:Hp}{p:Addr}{o u:HO}(e:H p=some u)(n1:∀us,u≠.tup us)(n2:∀o us,u≠.frz o us):Kp H (upd H p o) :=
 ⟨fun a us q=>by rw[ay (tL q e fun z=>n1 us z.symm)];exact q,fun a o' u' q=>by rw[ay (tL q e fun z=>n2 o' u' z.symm)];exact q⟩
theorem SR.kp{B:Bs}{σ':St'}{H' H1':PHp}{σ:L2.St}{H H1:Hp}(s:SR K B σ' H' σ H)(e:Ev H' H H1' H1)(h:HR K H1' H1):SR K B σ' H1' σ H1 :=
 ⟨s.len,fun i v' q=>by obtain⟨v,a,b⟩:=s.loc i v' q;exact⟨v,a,RP.kp K (e.kp s.hp) b⟩,h,s.ev.trans e⟩
theorem HR.hid{H':PHp}{H:Hp}{p:Addr}{o:HO}(h:HR K H' H)(e:H p=none):HR K H' (upd H p o):=fun a u q=>by
 have na:a≠p:=by rintro rfl;rw[h.free e]at q;cases q
 exact(h a u q).keep (dZ e) (ay na)
theorem Ev.hid{H':PHp}{H:Hp}{p:Addr}{o:HO}(e:H p=none):Ev H' H H' (upd H p o):=fun a u q n=>⟨by rw[ay (az q e)];exact q,n⟩
theorem HR.new{H':PHp}{H:Hp}{p:Addr}{o:HO}{o':PO}(h:HR K H' H)(e:H p=none)(new:OAt K (upd H p o) p o'):HR K (put H' p o') (upd H p o):=fun a u q=>by
 by_cases hp:a=p
 ·subst hp;rw[ai]at q;cases q;exact new
 ·rw[ao hp]at q;exact(h a u q).keep (dZ e) (ay hp)
theorem Ev.new{H':PHp}{H:Hp}{p:Addr}{o:HO}{o':PO}(e:H p=none):Ev H' H (put H' p o') (upd H p o):=fun a u q n=>by
 have na:=az q e;exact⟨by rw[ay na];exact q,by rw[ao na];exact n⟩
theorem HR.wr{H':PHp}{H:Hp}{p:Addr}{o:HO}{o' u':PO}(h:HR K H' H)(e:H' p=some u')(new:OAt K (upd H p o) p o'):HR K (put H' p o') (upd H p o):=fun a u q=>by
 obtain⟨v,e1,n1,n2,_⟩:=(h p u' e).some;by_cases hp:a=p
 ·subst hp;rw[ai]at q;cases q;exact new
 ·rw[ao hp]at q;exact(h a u q).keep (kQ e1 n1 n2) (ay hp)
theorem HR.kpw{H':PHp}{H:Hp}{p:Addr}{o:HO}{u':PO}(h:HR K H' H)(e:H' p=some u'):Kp H (upd H p o):=by
 obtain⟨v,e1,n1,n2,_⟩:=(h p u' e).some;exact kQ e1 n1 n2
theorem Ev.wr{H':PHp}{H:Hp}{p:Addr}{o:HO}{o' u':PO}(e:H' p=some u'):Ev H' H (put H' p o') (upd H p o):=fun a u q n=>by
 have na:a≠p:=by rintro rfl;rw[e]at n;cases n
 exact⟨by rw[ay na];exact q,by rw[ao na];exact n⟩
def Sub(A B:PHp):Prop:=∀a o,A a=some o->B a=some o
theorem Sub.refl(A:PHp):Sub A A:=fun _ _ h=>h
theorem Sub.trans{A B C:PHp}(a:Sub A B)(b:Sub B C):Sub A C:=fun c o h=>b c o (a c o h)
theorem Sub.put{A B:PHp}{p:Addr}{o:PO}(a:Sub A B)(n:A p=none):Sub A (put B p o):=fun c u h=>by rw[ao (aq h n)];exact a c u h
theorem Sub.free{A B:PHp}(a:Sub A B){p:Addr}(n:B p=none):A p=none:=by
 cases q:A p with
 | none=>rfl
 | some o=>rw[a p o q]at n;cases n
theorem HR.sub{A B:PHp}{H:Hp}(h:HR K B H)(s:Sub A B):HR K A H:=fun a o e=>h a o (s a o e)
theorem Ev.sub{H':PHp}{H:Hp}{A B:PHp}{H1:Hp}(e:Ev H' H B H1)(s:Sub A B):Ev H' H A H1:=fun a o q n=>by
 obtain⟨x,y⟩:=e a o q n;exact⟨x,s.free y⟩
end
end
section
variable {B:Bs}
abbrev VK':=PV->PHp->Prop
abbrev TE':=St'->PHp->VK'->Prop
abbrev TT':=St'->PHp->(Bool->PHp->Prop)->Prop
abbrev TA':=St'->PHp->(List PV->PHp->Prop)->Prop
abbrev XK':=Value->Option Addr->PHp->Prop
structure cF where
 nx:St'->PHp->Prop
 rt:VK'
 bk:St'->PHp->Prop:=fun _ _=>False
 ct:St'->PHp->Prop:=fun _ _=>False
abbrev TS':=cF->St'->PHp->Prop
abbrev TG':=PV->St'->PHp->(St'->PHp->Prop)->Prop
abbrev iR:=List PV->St'->PHp->(St'->PHp->Prop)->Prop
structure It' where
 items:List PV
 ok:PHp->Prop
abbrev TI':=St'->PHp->(It'->PHp->Prop)->Prop
section
variable (K:PySem.W.Frag)(B:Bs)
def low(t:TE'):TE:=fun σ H Q=>∃σ' H' Q',SR K B σ' H' σ H/\t σ' H' Q'/\∀v' H1' v H1,Q' v' H1'->RP K H1 v' v->SR K B σ' H1' σ H1->Ev H' H H1' H1->Q v H1
def mL(t:TT'):TT:=fun σ H Q=>∃σ' H' Q',SR K B σ' H' σ H/\t σ' H' Q'/\∀b H1' H1,Q' b H1'->SR K B σ' H1' σ H1->Ev H' H H1' H1->Q b H1
def sk(t:TA'):TA:=fun σ H Q=>∃σ' H' Q',SR K B σ' H' σ H/\t σ' H' Q'/\∀vs' H1' vs H1,Q' vs' H1'->RPs K H1 vs' vs->SR K B σ' H1' σ H1->Ev H' H H1' H1->Q vs H1
structure DR (D':cF) (D:Ends) (H':PHp) (H:Hp):Prop where
 nx:∀σ1' H1' σ1 H1,D'.nx σ1' H1'->SR K B σ1' H1' σ1 H1->Ev H' H H1' H1->D.nx σ1 H1
 rt:∀v' H1' v H1,D'.rt v' H1'->RP K H1 v' v->HR K H1' H1->Ev H' H H1' H1->D.rt v H1
 bk:∀σ1' H1' σ1 H1,D'.bk σ1' H1'->SR K B σ1' H1' σ1 H1->Ev H' H H1' H1->D.bk σ1 H1
 ct:∀σ1' H1' σ1 H1,D'.ct σ1' H1'->SR K B σ1' H1' σ1 H1->Ev H' H H1' H1->D.ct σ1 H1
theorem DR.ev{D':cF}{D:Ends}{H':PHp}{H:Hp}{H1':PHp}{H1:Hp}(d:DR K B D' D H' H)(e:Ev H' H H1' H1):DR K B D' D H1' H1 :=
 ⟨fun a b c f p q r=>d.nx a b c f p q (e.trans r),fun a b c f p q r s=>d.rt a b c f p q r (e.trans s),fun a b c f p q r=>d.bk a b c f p q (e.trans r),fun a b c f p q r=>d.ct a b c f p q (e.trans r)⟩
def yM(t:TS'):TS:=fun D σ H=>∃σ' H' D',SR K B σ' H' σ H/\t D' σ' H'/\DR K B D' D H' H
def lowG(t:TG'):TG:=fun v σ H Q=>∃v' σ' H' Q',RP K H v' v/\SR K B σ' H' σ H/\t v' σ' H' Q'/\∀σ1' H1' σ1 H1,Q' σ1' H1'->SR K B σ1' H1' σ1 H1->Ev H' H H1' H1->Q σ1 H1
def Eu(t:iR):TGs:=fun vs σ H Q=>∃vs' σ' H' Q',RPs K H vs' vs/\SR K B σ' H' σ H/\t vs' σ' H' Q'/\∀σ1' H1' σ1 H1,Q' σ1' H1'->SR K B σ1' H1' σ1 H1->Ev H' H H1' H1->Q σ1 H1
structure Walks (H1:Hp) (J:It) (J':It'):Prop where
 go:∀H' H i,Kp H1 H->HR K H' H->J'.ok H'->i<J'.items.length->J.go i H
 yld:∀H' H i x H2,Kp H1 H->HR K H' H->J'.ok H'->J.yld i H x H2->H2=H/\∀x',J'.items[i]?=some x'->RP K H x' x
 stop:∀H' H i,Kp H1 H->HR K H' H->J'.ok H'->J'.items.length≤i->J.stop i H
def GW(t:TI'):TI:=fun σ H R=>∃σ' H' R',SR K B σ' H' σ H/\t σ' H' R'/\∀J' H1' J H1,R' J' H1'->Walks K H1 J J'->SR K B σ' H1' σ H1->Ev H' H H1' H1->R J H1
end
section
variable {X:Cx}
theorem aF{e:Expr}{t1 t2:TE}(h:PE X e t2)(i:∀σ H Q,t1 σ H Q->t2 σ H Q):PE X e t1:=fun pins s σ H Q I q=>h pins s σ H Q I (i σ H Q q)
theorem mE{e:Expr}{t1 t2:TT}(h:PT X e t2)(i:∀σ H Q,t1 σ H Q->t2 σ H Q):PT X e t1:=fun pins s σ H Q I q=>h pins s σ H Q I (i σ H Q q)
theorem AK{e:Expr}{t1 t2:TT}(h:PW X e t2)(i:∀σ H Q,t1 σ H Q->t2 σ H Q):PW X e t1:=fun w pins s σ H Q I q=>h w pins s σ H Q I (i σ H Q q)
theorem rN{e:List Expr}{t1 t2:TA}(h:PA X e t2)(i:∀σ H Q,t1 σ H Q->t2 σ H Q):PA X e t1:=fun p pins s σ H Q I q=>h p pins s σ H Q I (i σ H Q q)
theorem cz{e:Stmt}{t1 t2:TS}(h:PS X e t2)(i:∀D σ H,t1 D σ H->t2 D σ H):PS X e t1:=fun pins s σ H D I q=>h pins s σ H D I (i D σ H q)
theorem ox{e:List Stmt}{t1 t2:TS}(h:PSs X e t2)(i:∀D σ H,t1 D σ H->t2 D σ H):PSs X e t1:=fun pins s σ H D I q=>h pins s σ H D I (i D σ H q)
theorem jB{e:Expr}{t1 t2:TG}(h:PG X e t2)(i:∀v σ H Q,t1 v σ H Q->t2 v σ H Q):PG X e t1:=fun pins s σ H v u Q I r q=>h pins s σ H v u Q I r (i v σ H Q q)
theorem nN{e:List Expr}{t1 t2:TGs}(h:PGs X e t2)(i:∀v σ H Q,t1 v σ H Q->t2 v σ H Q):PGs X e t1:=fun pins s σ H v u Q I r q=>h pins s σ H v u Q I r (i v σ H Q q)
theorem cK{tg e:Expr}{t1 t2:TI}(h:PI X tg e t2)(i:∀σ H Q,t1 σ H Q->t2 σ H Q):PI X tg e t1:=fun pins s σ H Q I q=>h pins s σ H Q I (i σ H Q q)
abbrev PE'(X:Cx)(B:Bs)(e:Expr)(t:TE'):Prop:=PE X e (low X.K B t)
abbrev PT'(X:Cx)(B:Bs)(e:Expr)(t:TT'):Prop:=PT X e (mL X.K B t)
abbrev PW'(X:Cx)(B:Bs)(e:Expr)(t:TT'):Prop:=PW X e (mL X.K B t)
abbrev PA'(X:Cx)(B:Bs)(e:List Expr)(t:TA'):Prop:=PA X e (sk X.K B t)
abbrev PS'(X:Cx)(B:Bs)(e:Stmt)(t:TS'):Prop:=PS X e (yM X.K B t)
abbrev gw(X:Cx)(B:Bs)(e:List Stmt)(t:TS'):Prop:=PSs X e (yM X.K B t)
abbrev PG'(X:Cx)(B:Bs)(e:Expr)(t:TG'):Prop:=PG X e (lowG X.K B t)
abbrev wM(X:Cx)(B:Bs)(e:List Expr)(t:iR):Prop:=PGs X e (Eu X.K B t)
abbrev PI'(X:Cx)(B:Bs)(tg e:Expr)(t:TI'):Prop:=PI X tg e (GW X.K B t)
structure tH (K:PySem.W.Frag) (H1:Hp) (J:It) (J':It'):Prop where
 go:∀H' H i,Kp H1 H->HR K H' H->J'.ok H'->i<J'.items.length->J.go i H
 yld:∀H' H i x H2,Kp H1 H->HR K H' H->J'.ok H'->J.yld i H x H2->HR K H' H2/\Ev H' H H' H2/\∀x',J'.items[i]?=some x'->RP K H2 x' x
 stop:∀H' H,Kp H1 H->HR K H' H->J'.ok H'->J.stop J'.items.length H
def xN(K:PySem.W.Frag)(B:Bs)(t:TI'):TI:=fun σ H R=>∃σ' H' R',SR K B σ' H' σ H/\t σ' H' R'/\∀J' H1' J H1,R' J' H1'->tH K H1 J J'->SR K B σ' H1' σ H1->Ev H' H H1' H1->R J H1
abbrev PIH(X:Cx)(B:Bs)(tg e:Expr)(t:TI'):Prop:=PI X tg e (xN X.K B t)
theorem Walks.toH{K:PySem.W.Frag}{H1:Hp}{J:It}{J':It'}(w:Walks K H1 J J'):tH K H1 J J':=⟨w.go,fun H' H i x H2 k hr o y=>by
 obtain⟨e,r⟩:=w.yld H' H i x H2 k hr o y;subst e;exact⟨hr,Ev.refl _ _,r⟩,fun H' H k hr o=>w.stop H' H _ k hr o (Hr _)⟩
theorem mW{X:Cx}{tg e:Expr}{t:TI'}(h:PI' X B tg e t):PIH X B tg e t:=cK h fun σ H R q=>by
 obtain⟨σ',H',R',s,h,k⟩:=q;exact⟨σ',H',R',s,h,fun J' H1' J H1 r w=>k J' H1' J H1 r w.toH⟩
def lM(o:Option (Option PV))(k:PV->Prop):Prop:=match o with
 | some (some v)=>k v
 | _=>False
theorem lM.ex{o:Option (Option PV)}{k:PV->Prop}(h:lM o k):∃v,o=some (some v)/\k v:=by
 unfold lM at h;split at h
 ·exact⟨_,rfl,h⟩
 ·exact h.elim
def t9(i:Nat):TE':=fun σ H Q=>lM σ[i]? fun v=>Q v H
def uC(v:PV):TE':=fun _ H Q=>Q v H
theorem qv(i:Nat){x:Str}{pos:Pos}(hN:X.N[i]?=some x:=by rfl)(hv:Vis X.env.scope x:=by first | exact Or.inl rfl | exact Or.inr (Or.inl rfl) | exact Or.inr (Or.inr rfl))(hd:(x==("__debug__":Str))=false:=by decide)
  (hcd:(x==("__classdict__":Str))=false:=by decide):PE' X B (.Name x pos) (t9 i):=aF (pv i hN hv hd hcd) fun σ H Q y_=>by
 obtain⟨σ',H',Q',s,h,k⟩:=y_;obtain⟨v',e,q⟩:=h.ex;obtain⟨v,a,b⟩:=s.loc i v' e;exact⟨v,a,k v' H' v H q b s (Ev.refl _ _)⟩
theorem Ae{K:PySem.W.Frag}{v':PV}{v:V}(r:∀H,RP K H v' v){σ:L2.St}{H:Hp}{Q:VK}(h:low K B (uC v') σ H Q):tC v σ H Q:=by
 obtain⟨σ',H',Q',s,h,k⟩:=h;exact k v' H' v H h (r H) s (Ev.refl _ _)
theorem ah{i j pos}:PE' X B (.Constant (.int i) j pos) (uC (.int i)):=aF A7 fun _ _ _ h=>Ae (fun _=>by simp[RP]) h
theorem gr{i j pos}:PE' X B (.Constant (.bool i) j pos) (uC (.bl i)):=aF CD fun _ _ _ h=>Ae (fun _=>by simp[RP]) h
theorem aT{i j pos}:PE' X B (.Constant (.str i) j pos) (uC (.str i)):=aF yZ fun _ _ _ h=>Ae (fun _=>by simp[RP]) h
abbrev R2':=PV->PV->PHp->VK'->Prop
def VR(K:PySem.W.Frag)(B:Bs)(r':R2')(r:R2):Prop:=∀(σ':St') (σ:L2.St) (H':PHp) (H:Hp) x' y' x y (Q':VK') (Q:VK),SR K B σ' H' σ H->RP K H x' x->RP K H y' y->r' x' y' H' Q' ->
 (∀v' H1' v H1,Q' v' H1'->RP K H1 v' v->SR K B σ' H1' σ H1->Ev H' H H1' H1->Q v H1)->r x y H Q
def uOp(r:R2')(ta tb:TE'):TE':=fun σ H Q=>ta σ H fun x H1=>tb σ H1 fun y H2=>r x y H2 Q
theorem jS{K:PySem.W.Frag}{r':R2'}{r:R2}{ta tb:TE'}(v:VR K B r' r){σ:L2.St}{H:Hp}{Q:VK}(h:low K B (uOp r' ta tb) σ H Q):tOp r (low K B ta) (low K B tb) σ H Q:=by
 obtain⟨σ',H',Q',s,h,k⟩:=h;refine⟨σ',H',_,s,h,fun x' H1' x H1 h1 rx s1 e1=>⟨σ',H1',_,s1,h1,fun y' H2' y H2 h2 ry s2 e2=>?_⟩⟩;exact v σ' σ H2' H2 x' y' x y Q' Q s2 (RP.kp K (e2.kp s1.hp) rx) ry h2 fun v' H3' v H3 q rv s3 e3=>k v' H3' v H3 q rv s3 (e1.trans (e2.trans e3))
variable {a b c:Expr}{ta tb tc:TE'}{pos:Pos}
theorem dE{op:Operator}{r':R2'}{r:R2}(ho:OpR X (binaryOp op) r)(v:VR X.K B r' r)(ha:PE' X B a ta)(hb:PE' X B b tb):PE' X B (.BinOp a op b pos) (uOp r' ta tb):=aF (ya ho ha hb) fun _ _ _ h=>jS v h
theorem tQ{op:CmpOp}{r':R2'}{r:R2}(ho:OpR X (compareOp op) r)(v:VR X.K B r' r)(ha:PE' X B a ta)(hb:PE' X B b tb)(hm:behindInMarks op b=false):PE' X B (.Compare a [op] [b] pos) (uOp r' ta tb) :=
 aF (vp ho ha hb hm) fun _ _ _ h=>jS v h
def cif(b:Bool)(A B:Prop):Prop:=match b with
 | true=>A
 | false=>B
theorem C4{A B:Prop}:cif true A B=A:=rfl
theorem Ei{A B:Prop}:cif false A B=B:=rfl
theorem cp{b:Bool}{A B:Prop}(h1:b=true->A)(h2:b=false->B):cif b A B:=by
 cases b
 ·exact h2 rfl
 ·exact h1 rfl
theorem aU{b:Bool}{A B:Prop}(h:b=true)(h1:A):cif b A B:=by subst h;exact h1
theorem aB{b:Bool}{A B:Prop}(h:b=false)(h1:B):cif b A B:=by subst h;exact h1
def d9(x:PV)(k:Bool->Prop):Prop:=match x with
 | .bl b=>k b
 | _=>False
theorem d9.ex{x:PV}{k:Bool->Prop}(h:d9 x k):∃v,x=.bl v/\k v:=by
 unfold d9 at h;split at h
 ·exact⟨_,rfl,h⟩
 ·exact h.elim
def bE(x:PV)(k:Int->Prop):Prop:=match x with
 | .int i=>k i
 | _=>False
theorem bE.ex{x:PV}{k:Int->Prop}(h:bE x k):∃v,x=.int v/\k v:=by
 unfold bE at h;split at h
 ·exact⟨_,rfl,h⟩
 ·exact h.elim
def ju(t:TE'):TT':=fun σ H Q=>t σ H fun x H1=>d9 x fun b=>Q b H1
theorem lL{K:PySem.W.Frag}{t:TE'}{σ:L2.St}{H:Hp}{Q:Bool->Hp->Prop}(h:mL K B (ju t) σ H Q):xO (low K B t) σ H Q:=by
 obtain⟨σ',H',Q',s,h,k⟩:=h;refine⟨σ',H',_,s,h,fun x' H1' x H1 h1 rx s1 e1=>?_⟩;obtain⟨b,rfl,q⟩:=h1.ex;simp only[RP]at rx;exact⟨b,rx,k b H1' H1 q s1 e1⟩
theorem BW{e:Expr}{t:TE'}(h:PE' X B e t)(he:∀whole,isTrue e X.env whole=(do let v←whole;standAt e.pos;holding [v] (truthy v)):=by intro _;rfl):PT' X B e (ju t):=mE (zT h he) fun _ _ _ h=>lL h
theorem tj{op:CmpOp}{r':R2'}{r:R2}(ho:OpR X (compareOp op) r)(v:VR X.K B r' r)(ha:PE' X B a ta)(hb:PE' X B b tb)(hm:behindInMarks op b=false):PT' X B (.Compare a [op] [b] pos) (ju (uOp r' ta tb)) :=
 mE (vC ho ha hb hm) fun _ _ _ h=>by
  obtain⟨σ',H',Q',s,h,k⟩:=lL h;exact jS v ⟨σ',H',Q',s,h,k⟩
def Ay(r r':R2')(ta tb tc:TE'):TE':=fun σ H Q=>ta σ H fun x H1=>tb σ H1 fun y H2=>r x y H2 fun z H3=>d9 z fun k=>cif k (tc σ H3 fun w' H4=>r' y w' H4 Q) (Q (.bl false) H3)
def uI(C:Int->Int->Prop)(g:Int->Int->PV):R2':=fun x y H Q=>bE x fun i=>bE y fun j=>C i j/\Q (g i j) H
def uI0(g:Int->Int->PV):R2':=fun x y H Q=>bE x fun i=>bE y fun j=>Q (g i j) H
theorem um{K:PySem.W.Frag}{C:Int->Int->Prop}{g':Int->Int->PV}{g:Int->Int->V}(r:∀i j H,RP K H (g' i j) (g i j)):VR K B (uI C g') (rI C g):=by
 intro σ' σ H' H x' y' x y Q' Q s rx ry h k;obtain⟨i,rfl,h1⟩:=bE.ex h;obtain⟨j,rfl,hc,h⟩:=bE.ex h1;simp only[RP]at rx ry;exact⟨i,j,rx,ry,hc,k _ H' _ H h (r i j H) s (Ev.refl _ _)⟩
theorem kX{K:PySem.W.Frag}{g':Int->Int->PV}{g:Int->Int->V}(r:∀i j H,RP K H (g' i j) (g i j)):VR K B (uI0 g') (rI0 g):=by
 intro σ' σ H' H x' y' x y Q' Q s rx ry h k;obtain⟨i,rfl,h1⟩:=bE.ex h;obtain⟨j,rfl,h⟩:=bE.ex h1;simp only[RP]at rx ry;exact⟨i,j,rx,ry,k _ H' _ H h (r i j H) s (Ev.refl _ _)⟩
abbrev FJ:R2':=uI0 fun i j=>.int (i+j)
abbrev Fd:R2':=uI0 fun i j=>.int (i - j)
abbrev uLt:R2':=uI0 fun i j=>.bl (decide (i<j))
abbrev uGt:R2':=uI0 fun i j=>.bl (decide (j<i))
abbrev uGe:R2':=uI0 fun i j=>.bl (decide (j≤i))
def Fit(i:Int):Prop:=i.natAbs.log2<9000
def lX(i j:Int):Prop:=zf i j∨(Fit i/\Fit j)
def jy(i j:Int):Prop:=j≠0/\Fit j
theorem lX.ok{i j:Int}(h:lX i j):IntMulOk i j:=by
 rcases h with h |⟨h1,h2⟩
 ·exact h.ok
 ·unfold IntMulOk;have e:∀x:Int,Fit x->Builtin.Int.intBits x≤9000:=fun x hx=>by
   unfold Builtin.Int.intBits Fit at *;split<;>omega
  have e1:=e i h1;have e2:=e j h2;have e3:Builtin.Int.intTooBig (Builtin.Int.intBits i+Builtin.Int.intBits j)=false:=by
   unfold Builtin.Int.intTooBig;refine Iz ?_;show ¬(bitsLine:Int)<_;have hb:(18000:Nat)≤bitsLine:=by decide +kernel
   omega
  rw[e3];simp
abbrev GH:R2':=uI lX fun i j=>.int (i*j)
abbrev DL:R2':=uI jy fun i j=>.int (i.fdiv j)
theorem uO{X:Cx}:OpR X (binaryOp .Mult) (rI lX fun i j=>.int (i*j)):=opI fun _ _ _ _ _ _ _ hc q=>mul_int q hc.ok
theorem tG{X:Cx}:OpR X (binaryOp .FloorDiv) (rI jy fun i j=>.int (i.fdiv j)):=opI fun _ _ _ _ _ _ _ hc q=>floordiv_int hc.1 q (.inl (PyProof.noPylong_of_log2 hc.2))
abbrev GG:R2':=uI (fun _ j=>j≠0) fun i j=>.int (i.fmod j)
abbrev FH:R2':=uI rM fun i j=>.int (i ^ j.toNat)
theorem fO(ha:PE' X B a ta)(hb:PE' X B b tb):PE' X B (.BinOp a .Add b pos) (uOp FJ ta tb):=dE BP (kX fun _ _ _=>by simp[RP]) ha hb
theorem kj(ha:PE' X B a ta)(hb:PE' X B b tb):PE' X B (.BinOp a .Sub b pos) (uOp Fd ta tb):=dE Bn (kX fun _ _ _=>by simp[RP]) ha hb
theorem bu(ha:PE' X B a ta)(hb:PE' X B b tb):PE' X B (.BinOp a .Mult b pos) (uOp GH ta tb):=dE uO (um fun _ _ _=>by simp[RP]) ha hb
theorem aV(ha:PE' X B a ta)(hb:PE' X B b tb):PE' X B (.BinOp a .FloorDiv b pos) (uOp DL ta tb):=dE tG (um fun _ _ _=>by simp[RP]) ha hb
theorem aO(ha:PE' X B a ta)(hb:PE' X B b tb):PE' X B (.BinOp a .Mod b pos) (uOp GG ta tb):=dE xq (um fun _ _ _=>by simp[RP]) ha hb
theorem l7(ha:PE' X B a ta)(hb:PE' X B b tb):PE' X B (.BinOp a .Pow b pos) (uOp FH ta tb):=dE AG (um fun _ _ _=>by simp[RP]) ha hb
theorem oH{K:PySem.W.Frag}:VR K B uLt (rI0 fun i j=>.bl (decide (i<j))):=kX fun _ _ _=>by simp[RP]
theorem xM{K:PySem.W.Frag}:VR K B uGt (rI0 fun i j=>.bl (decide (j<i))):=kX fun _ _ _=>by simp[RP]
theorem EA{K:PySem.W.Frag}:VR K B uGe (rI0 fun i j=>.bl (decide (j≤i))):=kX fun _ _ _=>by simp[RP]
end
end
section
variable {B:Bs}
section
variable {X:Cx}{a b c e o:Expr}{es rest:List Expr}{ta tb tc:TE'}{tA tB:TT'}{t:TA'}{pos:Pos}
def Gr(t u:TT'):TT':=fun σ H Q=>t σ H fun c H1=>cif c (u σ H1 Q) (Q false H1)
def uOr(t u:TT'):TT':=fun σ H Q=>t σ H fun c H1=>cif c (Q true H1) (u σ H1 Q)
def DB(t:TT'):TT':=fun σ H Q=>t σ H fun c H1=>Q (!c) H1
theorem m8(ha:PT' X B a tA):PW' X B (.BoolOp .Or [a] pos) tA:=Ap ha
theorem tV(ha:PT' X B a tA)(hb:PW' X B (.BoolOp .Or (b::rest) pos) tB):PW' X B (.BoolOp .Or (a::b::rest) pos) (uOr tA tB):=AK (Eb ha hb) fun σ H Q y_=>by
 obtain⟨σ',H',Q',s,h,k⟩:=y_;refine⟨σ',H',_,s,h,fun x H1' H1 h1 s1 e1=>?_⟩;cases x with
 | false=>exact r0 ⟨σ',H1',_,s1,h1,fun y H2' H2 h2 s2 e2=>k y H2' H2 h2 s2 (e1.trans e2)⟩
 | true=>exact sO (k true H1' H1 h1 s1 e1)
theorem jL(h:PW' X B e tA):PT' X B e tA:=PW.pt h
theorem zo(ha:PT' X B a tA):PT' X B (.UnaryOp .Not a pos) (DB tA):=mE (Ba ha) fun σ H Q ⟨σ',H',Q',s,h,k⟩=>⟨σ',H',_,s,h,fun x H1' H1 h1 s1 e1=>k _ H1' H1 h1 s1 e1⟩
def Dz(ta tb:TE'):TE':=fun σ H Q=>ta σ H fun x H1=>d9 x fun c=>cif c (tb σ H1 Q) (Q (.bl false) H1)
def FV(ta tb:TE'):TE':=fun σ H Q=>ta σ H fun x H1=>d9 x fun c=>cif c (Q (.bl true) H1) (tb σ H1 Q)
def Co(ta:TE'):TE':=fun σ H Q=>ta σ H fun x H1=>d9 x fun c=>Q (.bl (!c)) H1
def uIf(t:TT')(ta tb:TE'):TE':=fun σ H Q=>t σ H fun c H1=>cif c (ta σ H1 Q) (tb σ H1 Q)
theorem fh(hc:PT' X B c tA)(ha:PE' X B a ta)(hb:PE' X B b tb):PE' X B (.IfExp c a b pos) (uIf tA ta tb):=aF (tx hc ha hb) fun σ H Q y_=>by
 obtain⟨σ',H',Q',s,h,k⟩:=y_;refine⟨σ',H',_,s,h,fun x H1' H1 h1 s1 e1=>?_⟩;cases x with
 | true=>exact sO ⟨σ',H1',_,s1,h1,fun y H2' v2 H2 h2 r2 s2 e2=>k y H2' v2 H2 h2 r2 s2 (e1.trans e2)⟩
 | false=>exact r0 ⟨σ',H1',_,s1,h1,fun y H2' v2 H2 h2 r2 s2 e2=>k y H2' v2 H2 h2 r2 s2 (e1.trans e2)⟩
def uUn(r:PV->PHp->VK'->Prop)(ta:TE'):TE':=fun σ H Q=>ta σ H fun x H1=>r x H1 Q
theorem cU(ha:PE' X B a ta):PE' X B (.UnaryOp .USub a pos) (uUn (fun x H Q=>bE x fun i=>Q (.int (-i)) H) ta):=aF (Ex yR ha) fun σ H Q y_=>by
 obtain⟨σ',H',Q',s,h,k⟩:=y_;refine⟨σ',H',_,s,h,fun x H1' v H1 h1 r1 s1 e1=>?_⟩;obtain⟨i,rfl,h1⟩:=bE.ex h1;simp only[RP]at r1;exact⟨i,r1,k _ H1' _ H1 h1 (by simp[RP]) s1 e1⟩
def cc:TA':=fun _ H Q=>Q [] H
def aD(ta:TE')(tr:TA'):TA':=fun σ H Q=>ta σ H fun x H1=>tr σ H1 fun xs H2=>Q (x::xs) H2
theorem ae:PA' X B [] cc:=rN dP fun σ H Q ⟨σ',H',Q',s,h,k⟩=>k [] H' [] H h (RPs.nil _) s (Ev.refl _ _)
theorem ab(ha:PE' X B e ta)(hr:PA' X B es t)(hs:starEach (e::es) X.env=(false,eval e X.env)::starEach es X.env:=by rfl):PA' X B (e::es) (aD ta t):=rN (cM ha hr hs) fun σ H Q y_=>by
 obtain⟨σ',H',Q',s,h,k⟩:=y_;refine⟨σ',H',_,s,h,fun x H1' v H1 h1 r1 s1 e1=>⟨σ',H1',_,s1,h1,fun xs H2' vs H2 h2 r2 s2 e2=>?_⟩⟩;exact k _ H2' _ H2 h2 (RPs.cons _ (RP.kp _ (e2.kp s1.hp) r1) r2) s2 (e1.trans e2)
def DN(t:TA'):TE':=fun σ H Q=>t σ H fun xs H1=>xs.length≤sizeLine/\Q (.tup xs) H1
def aY(t:TA'):TE':=fun σ H Q=>t σ H fun xs H1=>xs.length≤sizeLine/\∀p,H1 p=none->Q (.ref p) (put H1 p (.lst xs))
theorem SR.hid{K:PySem.W.Frag}{σ':St'}{σ:L2.St}{H':PHp}{H:Hp}{p:Addr}{o:HO}(s:SR K B σ' H' σ H)(n:H p=none):SR K B σ' H' σ (upd H p o):=s.kp (Ev.hid n) (s.hp.hid n)
theorem SR.new{K:PySem.W.Frag}{σ':St'}{σ:L2.St}{H':PHp}{H:Hp}{p:Addr}{o:HO}{o':PO}(s:SR K B σ' H' σ H)(n:H p=none)(w:OAt K (upd H p o) p o'):SR K B σ' (put H' p o') σ (upd H p o):=s.kp (Ev.new n) (s.hp.new n w)
theorem SR.wr{K:PySem.W.Frag}{σ':St'}{σ:L2.St}{H':PHp}{H:Hp}{p:Addr}{o:HO}{o' u':PO}(s:SR K B σ' H' σ H)(n:H' p=some u')(w:OAt K (upd H p o) p o'):SR K B σ' (put H' p o') σ (upd H p o):=s.kp (Ev.wr n) (s.hp.wr n w)
theorem kU{K:PySem.W.Frag}{H:Hp}{p:Addr}{xs:List PV}{us:List V}(n:H p=none)(r:RPs K H xs us):RP K (upd H p (.tup us)) (.tup xs) (.ref p):=by
 simp only[RP];exact⟨p,us,rfl,SqT.of aE,RPs.kp K (dZ n) r⟩
theorem hU{K:PySem.W.Frag}{H:Hp}{p:Addr}{xs:List PV}{us:List V}(n:H p=none)(r:RPs K H xs us):OAt K (upd H p (.lst us)) p (.lst xs):=⟨us,aE,RPs.kp K (dZ n) r⟩
theorem wrL{K:PySem.W.Frag}{H':PHp}{H:Hp}{p:Addr}{u':PO}{xs:List PV}{us:List V}(h:HR K H' H)(n:H' p=some u')(r:RPs K H xs us):OAt K (upd H p (.lst us)) p (.lst xs):=⟨us,aE,RPs.kp K (h.kpw n) r⟩
theorem aN{x1}(h:PA' X B es t):PE' X B (.Tuple es x1 pos) (DN t):=aF (AR h) fun σ H Q y_=>by
 obtain⟨σ',H',Q',s,h,k⟩:=y_;refine⟨σ',H',_,s,h,fun xs H1' us H1 h1 r1 s1 e1=>⟨by rw[RPs.length _ r1];exact h1.1,fun p n=>?_⟩⟩;exact k _ H1' _ _ h1.2 (kU n r1) (s1.hid n) (e1.trans (Ev.hid n))
theorem aP(h:PA' X B es t):PE' X B (.List es pos) (aY t):=aF (Bp h) fun σ H Q y_=>by
 obtain⟨σ',H',Q',s,h,k⟩:=y_;refine⟨σ',H',_,s,h,fun xs H1' us H1 h1 r1 s1 e1=>⟨by rw[RPs.length _ r1];exact h1.1,fun p n=>?_⟩⟩;exact k _ _ _ _ (h1.2 p (s1.hp.free n)) (by simp[RP]) (s1.new n (hU n r1)) (e1.trans (Ev.new n))
def bX(x:PV)(H:PHp)(k:List PV->Prop):Prop:=match x with
 | .tup l=>k l
 | .fls l=>k l
 | .ref a=>∃l,H a=some (.lst l)/\k l
 | _=>False
theorem bX.ex{K:PySem.W.Frag}{σ':St'}{σ:L2.St}{x:PV}{v:V}{H':PHp}{H:Hp}{k:List PV->Prop}(h:bX x H' k)(s:SR K B σ' H' σ H)(r:RP K H x v):∃l us p,v=.ref p/\RPs K H l us/\(SqL K H p us∨SqT K H p us)/\k l:=by
 unfold bX at h;split at h
 ·simp only[RP]at r;obtain⟨a,us,e,q,r⟩:=r;exact⟨_,us,a,e,r,.inr q,h⟩
 ·simp only[RP]at r;obtain⟨a,us,e,q,r⟩:=r;exact⟨_,us,a,e,r,.inl q.sq,h⟩
 ·simp only[RP]at r;obtain⟨l,e,h⟩:=h;obtain⟨us,q,r2⟩:=s.hp _ _ e;exact⟨l,us,_,r,r2,.inl (SqL.of q),h⟩
 ·exact h.elim
theorem zq{K:PySem.W.Frag}{H:Hp}{l:List PV}{us:List V}{i:Int}{x:PV}(r:RPs K H l us)(e:atI l i=some x):∃u,atI us i=some u/\RP K H x u:=by
 unfold atI at e ⊢;rw[RPs.length _ r];cases q:ixN l.length i with
 | none=>rw[q]at e;cases e
 | some j =>
  rw[q]at e;obtain⟨u,e1,e2⟩:=RPs.get _ r (show l[j]?=some x from e);exact⟨u,e1,e2⟩
def jh(o:Option PV)(k:PV->Prop):Prop:=match o with
 | some v=>k v
 | none=>False
theorem jh.ex{o:Option PV}{k:PV->Prop}(h:jh o k):∃v,o=some v/\k v:=by
 unfold jh at h;split at h
 ·exact⟨_,rfl,h⟩
 ·exact h.elim
def uIx:R2':=fun x y H Q=>bX x H fun l=>bE y fun i=>jh (atI l i) fun v=>Q v H
theorem uQ{X:Cx}:IxR X (fun x y H Q=>Bw X.K x y H Q∨BK X.K x y H Q):=ux.or Ah
theorem C8{K:PySem.W.Frag}:VR K B uIx (fun x y H Q=>Bw K x y H Q∨BK K x y H Q):=by
 intro σ' σ H' H x' y' x y Q' Q s rx ry h k;obtain⟨l,us,p,rfl,r,q,h1⟩:=bX.ex h s rx;obtain⟨i,rfl,h2⟩:=bE.ex h1;obtain⟨v,e,h3⟩:=jh.ex h2;simp only[RP]at ry;obtain⟨u,e1,e2⟩:=zq r e;have:=k v H' u H h3 e2 s (Ev.refl _ _);rcases q with q | q
 ·exact .inl ⟨p,us,i,u,rfl,ry,q,e1,this⟩
 ·exact .inr ⟨p,us,i,u,rfl,ry,q,e1,this⟩
theorem B9(ha:PE' X B a ta)(hb:PE' X B b tb)(hs:gL b):PE' X B (.Subscript a b pos) (uOp uIx ta tb):=aF (Cg uQ ha hb hs) fun _ _ _ h=>jS C8 h
abbrev TO':=St'->PHp->(Option Int->PHp->Prop)->Prop
def FC(K:PySem.W.Frag)(B:Bs)(t:TO'):TO:=fun σ H Q=>∃σ' H' Q',SR K B σ' H' σ H/\t σ' H' Q'/\∀b H1' H1,Q' b H1'->SR K B σ' H1' σ H1->Ev H' H H1' H1->Q b H1
abbrev PO'(X:Cx)(B:Bs)(e:Option Expr)(t:TO'):Prop:=L2.PO X e (FC X.K B t)
theorem qQ{e:Option Expr}{t1 t2:TO}(h:L2.PO X e t2)(i:∀σ H Q,t1 σ H Q->t2 σ H Q):L2.PO X e t1:=fun pins s σ H Q I q=>h pins s σ H Q I (i σ H Q q)
def nW:TO':=fun _ H Q=>Q none H
def xP(t:TE'):TO':=fun σ H Q=>t σ H fun x H1=>bE x fun i=>Q (some i) H1
theorem jY:PO' X B none nW:=qQ uw fun σ H Q ⟨σ',H',Q',s,h,k⟩=>k none H' H h s (Ev.refl _ _)
theorem j4(h:PE' X B e ta):PO' X B (some e) (xP ta):=qQ (wu h) fun σ H Q y_=>by
 obtain⟨σ',H',Q',s,h,k⟩:=y_;refine⟨σ',H',_,s,h,fun x H1' v H1 h1 r1 s1 e1=>?_⟩;obtain⟨i,rfl,h1⟩:=bE.ex h1;simp only[RP]at r1;exact⟨i,r1,k _ H1' H1 h1 s1 e1⟩
def cT(xs:List PV)(lo hi:Option Int):List PV:=(xs.drop (HT.sIx xs.length 0 lo)).take (HT.sIx xs.length xs.length hi - HT.sIx xs.length 0 lo)
theorem nj{K:PySem.W.Frag}{H:Hp}{l:List PV}{us:List V}{lo hi:Option Int}(r:RPs K H l us):RPs K H (cT l lo hi) (lS us lo hi):=by
 unfold cT lS;rw[RPs.length _ r];exact RPs.take _ _ (RPs.drop _ _ r)
def sliceOf(x:PV)(lo hi:Option Int)(H3:PHp)(Q:VK'):Prop:=match x with
 | .fls l=>∀p,H3 p=none->Q (.ref p) (put H3 p (.lst (cT l lo hi)))
 | .ref a=>∃l,H3 a=some (.lst l)/\∀p,H3 p=none->Q (.ref p) (put H3 p (.lst (cT l lo hi)))
 | .tup l=>¬(HT.sIx l.length 0 lo=0/\HT.sIx l.length l.length hi=l.length)/\Q (.tup (cT l lo hi)) H3
 | _=>False
def qJ(ta:TE')(tl th:TO'):TE':=fun σ H Q=>ta σ H fun x H1=>tl σ H1 fun lo H2=>th σ H2 fun hi H3=>sliceOf x lo hi H3 Q
theorem iw{lo hi:Option Expr}{tl th:TO'}{p2:Pos}(he:PE' X B e ta)(hl:PO' X B lo tl)(hu:PO' X B hi th):PE' X B (.Subscript e (.Slice lo hi none p2) pos) (qJ ta tl th) :=
 aF (qH (xD.or yT) he hl hu) fun σ H Q y_=>by
 obtain⟨σ',H',Q',s,h,k⟩:=y_;refine⟨σ',H',_,s,h,fun x H1' v H1 h1 r1 s1 e1=>⟨σ',H1',_,s1,h1,fun l H2' H2 h2 s2 e2=>⟨σ',H2',_,s2,h2,fun u H3' H3 h3 s3 e3=>?_⟩⟩⟩;have r3:=RP.kp _ (e3.kp s2.hp) (RP.kp _ (e2.kp s1.hp) r1);have e123:=e1.trans (e2.trans e3);cases x with
 | fls xs =>
  simp only[RP]at r3;obtain⟨a,us,e,q,r⟩:=r3;refine .inl ⟨a,us,e,q.sq,fun p n=>?_⟩;exact k _ _ _ _ (h3 p (s3.hp.free n)) (by simp[RP]) (s3.new n (hU n (nj r))) (e123.trans (Ev.new n))
 | ref a =>
  simp only[RP]at r3;obtain⟨xs,q,h3⟩:=h3;obtain⟨us,q2,r⟩:=s3.hp _ _ q;refine .inl ⟨a,us,r3,SqL.of q2,fun p n=>?_⟩;exact k _ _ _ _ (h3 p (s3.hp.free n)) (by simp[RP]) (s3.new n (hU n (nj r))) (e123.trans (Ev.new n))
 | tup xs =>
  simp only[RP]at r3;obtain⟨a,us,e,q,r⟩:=r3;refine .inr ⟨a,us,e,q,by rw[RPs.length _ r];exact h3.1,fun p n=>?_⟩;exact k _ _ _ _ h3.2 (kU n (nj r)) (s3.hid n) (e123.trans (Ev.hid n))
 | _=>exact h3.elim
def VC(K:PySem.W.Frag)(B:Bs)(r':List PV->PHp->VK'->Prop)(r:List V->Hp->VK->Prop):Prop:=∀(σ':St') (σ:L2.St) (H':PHp) (H:Hp) xs' xs (Q':VK') (Q:VK),SR K B σ' H' σ H->RPs K H xs' xs->r' xs' H' Q' ->
 (∀v' H1' v H1,Q' v' H1'->RP K H1 v' v->SR K B σ' H1' σ H1->Ev H' H H1' H1->Q v H1)->r xs H Q
def uCB(r:List PV->PHp->VK'->Prop)(t:TA'):TE':=fun σ H Q=>t σ H fun vs H1=>r vs H1 Q
theorem qM{K:PySem.W.Frag}{r':List PV->PHp->VK'->Prop}{r:List V->Hp->VK->Prop}{t:TA'}(v:VC K B r' r){σ:L2.St}{H:Hp}{Q:VK}(h:low K B (uCB r' t) σ H Q):tCB r (sk K B t) σ H Q:=by
 obtain⟨σ',H',Q',s,h,k⟩:=h;exact⟨σ',H',_,s,h,fun xs' H1' xs H1 h1 rx s1 e1=>v σ' σ H1' H1 xs' xs Q' Q s1 rx h1 fun v' H3' v H3 q rv s3 e3=>k v' H3' v H3 q rv s3 (e1.trans e3)⟩
variable {x:Str}{p:Pos}
theorem aM{id:String}{r':List PV->PHp->VK'->Prop}{r:List V->Hp->VK->Prop}(hc:bH X (.builtin id) r)(v:VC X.K B r' r)(hg:Gl X x)(hm:X.mg x=none)(hv:bootBuiltins x=some (.builtin id))(ha:PA' X B (e::es) t)
  (hn:x≠"__name__":=by decide) (hdb:(x==("__debug__":Str))=false:=by decide) (he:starEach (e::es) X.env=(false,eval e X.env)::starEach es X.env:=by rfl) (hpl:(backTo pos (starEach es X.env)).any (·.1)=false:=by rfl) :
  PE' X B (.Call (.Name x p) (e::es) [] pos) (uCB r' t):=aF (kM hc hg hm hv ha hn hdb he hpl) fun _ _ _ h=>qM v h
theorem br{id:String}{r':List PV->PHp->VK'->Prop}{r:List V->Hp->VK->Prop}(hc:bH X (.type id) r)(v:VC X.K B r' r)(hg:Gl X x)(hm:X.mg x=none)(hv:bootBuiltins x=some (.type id))(ha:PA' X B (e::es) t)
  (hn:x≠"__name__":=by decide) (hdb:(x==("__debug__":Str))=false:=by decide) (he:starEach (e::es) X.env=(false,eval e X.env)::starEach es X.env:=by rfl) (hpl:(backTo pos (starEach es X.env)).any (·.1)=false:=by rfl) :
  PE' X B (.Call (.Name x p) (e::es) [] pos) (uCB r' t):=aF (fQ hc hg hm hv ha hn hdb he hpl) fun _ _ _ h=>qM v h
def bQ(f:PV->PHp->VK'->Prop):List PV->PHp->VK'->Prop:=fun xs H Q=>match xs with
 | [x]=>f x H Q
 | _=>False
theorem bQ.ex{K:PySem.W.Frag}{H:Hp}{f:PV->PHp->VK'->Prop}{xs':List PV}{xs:List V}{H':PHp}{Q':VK'}(h:bQ f xs' H' Q')(r:RPs K H xs' xs):∃x' x,xs'=[x']/\xs=[x]/\RP K H x' x/\f x' H' Q':=by
 unfold bQ at h;split at h
 ·simp only[RPs]at r;obtain⟨u,r,rfl,q,rfl⟩:=r;exact⟨_,u,rfl,rfl,q,h⟩
 ·exact h.elim
def Dq:List PV->PHp->VK'->Prop:=bQ fun x H Q=>bX x H fun l=>Q (.int l.length) H
theorem cy{K:PySem.W.Frag}:VC K B Dq (fun xs H Q=>∃p ys,xs=[.ref p]/\(SqL K H p ys∨SqT K H p ys)/\Q (.int ys.length) H):=by
 intro σ' σ H' H xs' xs Q' Q s r h k;obtain⟨x',x,rfl,rfl,rx,h⟩:=bQ.ex h r;obtain⟨l,us,p,rfl,r,q,h⟩:=bX.ex h s rx;exact⟨p,us,rfl,q,k _ H' _ H h (by simp[RP,RPs.length _ r]) s (Ev.refl _ _)⟩
def D9:List PV->PHp->VK'->Prop:=bQ fun x H Q=>bE x fun i=>Q (.int (if i<0 then -i else i)) H
theorem tD{K:PySem.W.Frag}:VC K B D9 (fun xs H Q=>∃i,xs=[.int i]/\Q (.int (if i<0 then -i else i)) H):=by
 intro σ' σ H' H xs' xs Q' Q s r h k;obtain⟨x',x,rfl,rfl,rx,h⟩:=bQ.ex h r;obtain⟨i,rfl,h⟩:=bE.ex h;simp only[RP]at rx;subst rx;exact⟨i,rfl,k _ H' _ H h (by simp[RP]) s (Ev.refl _ _)⟩
def b2n(b:Bool):Int:=if b then 1 else 0
def intOf(x:PV)(k:Int->Prop):Prop:=match x with
 | .int i=>k i
 | .bl b=>k (b2n b)
 | _=>False
def C6:List PV->PHp->VK'->Prop:=bQ fun x H Q=>intOf x fun i=>Q (.int i) H
theorem Ao{K:PySem.W.Frag}:VC K B C6 (fun xs H Q=>(∃i,xs=[.int i]/\Q (.int i) H)∨∃k,xs=[.bl k]/\Q (.int (if k then 1 else 0)) H):=by
 intro σ' σ H' H xs' xs Q' Q s r h k;obtain⟨x',x,rfl,rfl,rx,h⟩:=bQ.ex h r;cases x' with
 | int i=>simp only[RP]at rx;subst rx;exact .inl ⟨i,rfl,k _ H' _ H h (by simp[RP]) s (Ev.refl _ _)⟩
 | bl i=>simp only[RP]at rx;subst rx;exact .inr ⟨i,rfl,k _ H' _ H h (by simp[RP,b2n]) s (Ev.refl _ _)⟩
 | _=>exact h.elim
def yf:List PV->PHp->VK'->Prop:=bQ fun x H Q=>bX x H fun l=>∀p,H p=none->Q (.ref p) (put H p (.lst l))
theorem vU{K:PySem.W.Frag}:VC K B yf (fun xs H Q=>∃p ys,xs=[.ref p]/\(SqL K H p ys∨SqT K H p ys)/\∀l,H l=none->Q (.ref l) (upd H l (.lst ys))):=by
 intro σ' σ H' H xs' xs Q' Q s r h k;obtain⟨x',x,rfl,rfl,rx,h⟩:=bQ.ex h r;obtain⟨l,us,p,rfl,r,q,h⟩:=bX.ex h s rx;exact⟨p,us,rfl,q,fun p n=>k _ _ _ _ (h p (s.hp.free n)) (by simp[RP]) (s.new n (hU n r)) (Ev.new n)⟩
def ue:List PV->PHp->VK'->Prop:=bQ fun x H Q=>bX x H fun l=>Q (.tup l) H
theorem dU{K:PySem.W.Frag}:VC K B ue (fun xs H Q=>∃p ys,xs=[.ref p]/\((SqL K H p ys/\∀l,H l=none->Q (.ref l) (upd H l (.tup ys)))∨(SqT K H p ys/\Q (.ref p) H))):=by
 intro σ' σ H' H xs' xs Q' Q s r h k;obtain⟨x',x,rfl,rfl,rx,h⟩:=bQ.ex h r;obtain⟨l,us,p,rfl,r,q,h⟩:=bX.ex h s rx;refine⟨p,us,rfl,?_⟩;rcases q with q | q
 ·exact .inl ⟨q,fun p n=>k _ _ _ _ h (kU n r) (s.hid n) (Ev.hid n)⟩
 ·exact .inr ⟨q,k _ _ _ _ h (by simp only[RP];exact⟨p,us,rfl,q,r⟩) s (Ev.refl _ _)⟩
end
end
section
variable {B:Bs}
section
variable {X:Cx}{a b c e o:Expr}{es:List Expr}{ta tb te:TE'}{tA tB:TT'}{st:Stmt}{sts:List Stmt}{t u:TS'}{pos:Pos}
def xT:TS':=fun D σ H=>D.nx σ H
def wF(t u:TS'):TS':=fun D σ H=>t { D with nx:=u D } σ H
theorem aH:gw X B [] xT:=ox xk fun D σ H ⟨σ',H',D',s,h,d⟩=>d.nx _ _ _ _ h s (Ev.refl _ _)
theorem af(h1:PS' X B st t)(h2:gw X B sts u):gw X B (st::sts) (wF t u):=ox (tY h1 h2) fun D σ H ⟨σ',H',D',s,h,d⟩ =>
 ⟨σ',H',_,s,h,fun σ1' H1' σ1 H1 h1 s1 e1=>⟨σ1',H1',D',s1,h1,d.ev _ _ e1⟩,d.rt,d.bk,d.ct⟩
theorem au(h1:PS' X B st t):gw X B [st] t:=vd h1
def AM:TS':=fun D σ H=>D.bk σ H
def Ca:TS':=fun D σ H=>D.ct σ H
def yd(te:TE'):TS':=fun D σ H=>te σ H fun _ H1=>D.nx σ H1
theorem bM(he:PE' X B e te)(hs:swapsWith e none pos.line X.env=pure false:=by rfl):PS' X B (.Expr e pos) (yd te):=cz (xr he hs) fun D σ H ⟨σ',H',D',s,h,d⟩ =>
 ⟨σ',H',_,s,h,fun v' H1' v H1 h1 r1 s1 e1=>d.nx _ _ _ _ h1 s1 e1⟩
def zy(te:TE'):TS':=fun D σ H=>te σ H D.rt
theorem aA(he:PE' X B e te):PS' X B (.Return (some e) pos) (zy te):=cz (AH he) fun D σ H ⟨σ',H',D',s,h,d⟩ =>
 ⟨σ',H',_,s,h,fun v' H1' v H1 h1 r1 s1 e1=>d.rt _ _ _ _ h1 r1 s1.hp e1⟩
def Cr:TS':=fun D _ H=>D.rt .non H
def CZ(c:TT')(t u:TS'):TS':=fun D σ H=>c σ H fun b H1=>cif b (t D σ H1) (u D σ H1)
theorem bh{l1 l2:List Stmt}(hc:PT' X B c tA)(ha:gw X B l1 t)(hb:gw X B l2 u):PS' X B (.If c l1 l2 pos) (CZ tA t u):=cz (B8 hc ha hb) fun D σ H y_=>by
 obtain⟨σ',H',D',s,h,d⟩:=y_;refine⟨σ',H',_,s,h,fun x H1' H1 h1 s1 e1=>?_⟩;cases x with
 | true=>exact sO ⟨σ',H1',D',s1,h1,d.ev _ _ e1⟩
 | false=>exact r0 ⟨σ',H1',D',s1,h1,d.ev _ _ e1⟩
def yV:TS':=fun _ _ _=>False
theorem dy:gw X B sts yV:=fun _ _ _ _ _ _ ⟨_,_,_,_,h,_⟩=>h.elim
def bw(i:Nat):TG':=fun v σ H Q=>Q (σ.set i (some v)) H
theorem SR.set{K:PySem.W.Frag}{σ':St'}{H':PHp}{σ:L2.St}{H:Hp}{v':PV}{v:V}(s:SR K B σ' H' σ H)(r:RP K H v' v)(i:Nat):SR K B (σ'.set i (some v')) H' (σ.set i (some v)) H:=by
 refine⟨by simp[s.len],fun j w e=>?_,s.hp,s.ev⟩;by_cases hj:i=j
 ·subst hj;have hl:i<σ'.length:=by
   rcases Nat.lt_or_ge i σ'.length with h | h
   ·exact h
   ·rw[JI (by simpa using h)]at e;cases e
  rw[List.getElem?_set_self hl]at e;cases e;exact⟨v,List.getElem?_set_self (by rw[←s.len];exact hl),r⟩
 ·rw[List.getElem?_set_ne hj]at e ⊢;exact s.loc j w e
theorem xw{i:Nat}{x:Str}(hN:X.N.Nodup)(hi:X.N[i]?=some x)(hx:Loc X.env.scope x)(hf:X.fn x=true∨X.env.scope.names.lookup x=some .local:=by first | exact .inl rfl | exact .inr rfl | assumption):PG' X B (.Name x pos) (bw i) :=
 jB (xp hN hi hx hf) fun v σ H Q ⟨v',σ',H',Q',r,s,h,k⟩=>k _ _ _ _ h (s.set r i) (Ev.refl _ _)
def vH:iR:=fun vs σ H Q=>vs=[]/\Q σ H
def jm(t:TG')(u:iR):iR:=fun vs σ H Q=>match vs with
 | v::r=>t v σ H fun σ' H'=>u r σ' H' Q
 | []=>False
theorem dc:wM X B [] vH:=nN xb fun vs σ H Q y_=>by
 obtain⟨v',σ',H',Q',r,s,h,k⟩:=y_;obtain⟨rfl,h⟩:=h;simp only[RPs]at r;exact⟨r,k _ _ _ _ h s (Ev.refl _ _)⟩
theorem a9{t:TG'}{u:iR}(h1:PG' X B e t)(h2:wM X B es u)(hs:(assignEach (e::es) X.env).map (·.2)=assign e X.env::(assignEach es X.env).map (·.2):=by rfl):wM X B (e::es) (jm t u) :=
 nN (sQ h1 h2 hs) fun vs σ H Q y_=>by
 obtain⟨vs',σ',H',Q',r,s,h,k⟩:=y_;cases vs' with
 | nil=>exact h.elim
 | cons v' r' =>
  simp only[RPs]at r;obtain⟨v,w,rfl,rv,rw'⟩:=r;refine⟨v,w,rfl,v',σ',H',_,rv,s,h,fun σ1' H1' σ1 H1 h1 s1 e1=>⟨r',σ1',H1',Q',RPs.kp _ (e1.kp s.hp) rw',s1,h1,fun σ2' H2' σ2 H2 h2 s2 e2=>k _ _ _ _ h2 s2 (e1.trans e2)⟩⟩
def tf(n:Nat)(t:iR):TG':=fun v σ H Q=>match v with
 | .tup l=>l.length=n/\t l σ H Q
 | _=>False
theorem fN{k:Nat}{t:iR}{n:Nat}(hc:X.calm=true)(h:wM X B es t)(hn:(assignEach es X.env).length=n:=by rfl)(hst:(assignEach es X.env).findIdx? (·.1)=none:=by rfl):PG' X B (.Tuple es k pos) (tf n t) :=
 jB (zb hc h hn hst) fun v σ H Q y_=>by
 obtain⟨v',σ',H',Q',r,s,h,k⟩:=y_;cases v' with
 | tup l =>
  obtain⟨hl,h⟩:=h;simp only[RP]at r;obtain⟨a,us,rfl,q,r⟩:=r;exact⟨a,us,rfl,q,by rw[RPs.length _ r];exact hl,l,σ',H',Q',r,s,h,k⟩
 | _=>exact h.elim
def km(te:TE')(g:TG'):TS':=fun D σ H=>te σ H fun x H1=>g x σ H1 D.nx
theorem uZ{K:PySem.W.Frag}{te:TE'}{g:TG'}{D:Ends}{σ:L2.St}{H:Hp}(h:yM K B (km te g) D σ H):wm (low K B te) (lowG K B g) D σ H:=by
 obtain⟨σ',H',D',s,h,d⟩:=h;exact⟨σ',H',_,s,h,fun x H1' v H1 h1 r1 s1 e1=>⟨x,σ',H1',_,r1,s1,h1,fun σ2' H2' σ2 H2 h2 s2 e2=>d.nx _ _ _ _ h2 s2 (e1.trans e2)⟩⟩
theorem iG{tg:Expr}{g:TG'}(he:PE' X B e te)(hg:PG' X B tg g)(hs:swapsWithSole [tg] e pos.line X.env=pure false:=by rfl)(hw:swappedStores [tg] e X.env=pure none:=by rfl)
  (h1:(assignEach [tg] X.env).map (·.2)=[assign tg X.env]:=by rfl):PS' X B (.Assign [tg] e pos) (km te g):=cz (Bo he hg hs hw h1) fun _ _ _ h=>uZ h
theorem AL{i:Nat}{x:Str}{pos':Pos}(hN:X.N.Nodup)(hi:X.N[i]?=some x)(hx:Loc X.env.scope x)(he:PE' X B e te)(hs:swapsWith e (some (.Name x pos')) pos.line X.env=pure false:=by rfl)(hf:X.fn x=true∨X.env.scope.names.lookup x=some .local:=by first | exact .inl rfl | exact .inr rfl | assumption) :
  PS' X B (.Assign [.Name x pos'] e pos) (km te (bw i)):=cz (zJ hN hi hx he hs hf) fun D σ H h=>by
 obtain⟨σ',H',D',s,h,d⟩:=h;exact⟨σ',H',_,s,h,fun x H1' v H1 h1 r1 s1 e1=>d.nx _ _ _ _ h1 (s1.set r1 i) e1⟩
def sE(c:TT')(tb:TS'):TS':=fun D σ H=>∃W:Nat->St'->PHp->Prop,(∃m,W m σ H)/\∀m σ H,W m σ H ->
 c σ H fun b H1=>cif b (∃N:St'->PHp->Prop,(∀σ' H',N σ' H'->∃m',m'<m/\W m' σ' H')/\tb { D with nx:=N,ct:=N,bk:=D.nx } σ H1) (D.nx σ H1)
theorem lT{body:List Stmt}(hp:PassesOwn (model X.prog X.w) X.A X.env X.xe)(hc:PT' X B c tA)(hb:gw X B body t):PS' X B (.While c body [] pos) (sE tA t):=cz (si hp hc hb) fun D σ H y_=>by
 obtain⟨σ',H',D',s,⟨W,⟨m0,w0⟩,turn⟩,d⟩:=y_;refine⟨fun m σ1 H1=>∃σ1' H1',SR X.K B σ1' H1' σ1 H1/\Ev H' H H1' H1/\W m σ1' H1',⟨m0,σ',H',s,Ev.refl _ _,w0⟩,?_⟩;rintro m σ1 H1 ⟨σ1',H1',s1,e1,w1⟩;refine⟨σ1',H1',_,s1,turn m σ1' H1' w1,fun x H2' H2 h2 s2 e2=>?_⟩;cases x with
 | false=>exact r0 (d.nx _ _ _ _ h2 s2 (e1.trans e2))
 | true =>
  obtain⟨N,hN,h2⟩:=(show ∃N:St'->PHp->Prop,_ from h2);refine sO ⟨fun σ3 H3=>∃σ3' H3',SR X.K B σ3' H3' σ3 H3/\Ev H' H H3' H3/\N σ3' H3',?_,σ1',H2',_,s2,h2,?_,?_,?_,?_⟩
  ·rintro σ3 H3 ⟨σ3',H3',s3,e3,n3⟩;obtain⟨m',hm,w'⟩:=hN _ _ n3;exact⟨m',hm,σ3',H3',s3,e3,w'⟩
  ·intro σ3' H3' σ3 H3 n3 s3 e3;exact⟨σ3',H3',s3,(e1.trans e2).trans e3,n3⟩
  ·intro v' H3' v H3 n3 r3 s3 e3;exact d.rt _ _ _ _ n3 r3 s3 ((e1.trans e2).trans e3)
  ·intro σ3' H3' σ3 H3 n3 s3 e3;exact d.nx _ _ _ _ n3 s3 ((e1.trans e2).trans e3)
  ·intro σ3' H3' σ3 H3 n3 s3 e3;exact⟨σ3',H3',s3,(e1.trans e2).trans e3,n3⟩
theorem ij{c:TT'}{tb:TS'}{D:cF}{σ:St'}{H:PHp}(Pv:Nat->St'->PHp->Prop)(m0:Nat)(h0:Pv m0 σ H)
  (hs:∀m σ H,Pv m σ H->c σ H fun b H1=>cif b (∃N:St'->PHp->Prop,(∀σ' H',N σ' H'->∃m',m'<m/\Pv m' σ' H')/\tb { D with nx:=N,ct:=N,bk:=D.nx } σ H1) (D.nx σ H1)):sE c tb D σ H:=⟨Pv,⟨m0,h0⟩,hs⟩
def cS(ok:PHp->Prop)(g:TG')(tb:TS')(D:cF):List PV->St'->PHp->Prop
 | [],σ,H=>ok H/\D.nx σ H
 | x::r,σ,H=>ok H/\g x σ H fun σ2 H2=>tb { D with nx:=cS ok g tb D r,ct:=cS ok g tb D r,bk:=D.nx } σ2 H2
def yH(wi:TI')(g:TG')(tb:TS'):TS':=fun D σ H=>wi σ H fun J H1=>cS J.ok g tb D J.items σ H1
theorem dt{t:TS'}{iter tg:Expr}{body:List Stmt}{wi:TI'}{g:TG'}(hp:PassesOwn (model X.prog X.w) X.A X.env X.xe)(hc:X.calm=true)(hi:PIH X B tg iter wi)(hg:PG' X B tg g)(hb:gw X B body t)
  (hs:∀x,foldedSetIterable iter X.env x=pure x:=by intro _;rfl):PS' X B (.For tg iter body [] pos) (yH wi g t):=cz (AJ hp hc hi hg hb hs) fun D σ H y_=>by
 obtain⟨σ',H',D',s,h,d⟩:=y_;refine⟨σ',H',_,s,h,fun J' H1' J H1 h1 wk s1 e1=>?_⟩;refine⟨fun i m σ2 H2=>i≤J'.items.length/\m=J'.items.length - i/\∃σ2' H2',SR X.K B σ2' H2' σ2 H2/\Ev H1' H1 H2' H2/\cS J'.ok g t D' (J'.items.drop i) σ2' H2',⟨J'.items.length,JG _,by simp,σ',H1',s1,Ev.refl _ _,h1⟩,?_⟩;rintro i m σ2 H2 ⟨hi,rfl,σ2',H2',s2,e2,h2⟩;have k2:=e2.kp s1.hp;by_cases hlt:i<J'.items.length
 ·obtain⟨x',hx⟩:∃x',J'.items[i]?=some x':=⟨_,Hn hlt⟩;have hd:J'.items.drop i=x'::J'.items.drop (i+1):=by
   rw[Jr hlt];rw[Hn hlt]at hx;cases hx;rfl
  rw[hd]at h2;obtain⟨ok2,h2⟩:=(show J'.ok H2'/\_ from h2);refine .inr ⟨wk.go H2' H2 i k2 s2.hp ok2 hlt,fun σ3 H3=>∃σ3' H3',SR X.K B σ3' H3' σ3 H3/\Ev H1' H1 H3' H3/\cS J'.ok g t D' (J'.items.drop (i+1)) σ3' H3',?_,fun x H3 y=>?_⟩
  ·rintro σ3 H3 ⟨σ3',H3',s3,e3,h3⟩;exact⟨J'.items.length - (i+1),by omega,hlt,rfl,σ3',H3',s3,e3,h3⟩
  ·obtain⟨hr3,ev3,rx⟩:=wk.yld H2' H2 i x H3 k2 s2.hp ok2 y;have s2b:=s2.kp ev3 hr3;have e2b:=e2.trans ev3;refine⟨x',σ2',H2',_,rx x' hx,s2b,h2,fun σ3' H3' σ3 H3 h3 s3 e3=>⟨σ3',H3',_,s3,h3,?_,?_,?_,?_⟩⟩
   ·intro σ4' H4' σ4 H4 h4 s4 e4;exact⟨σ4',H4',s4,e2b.trans (e3.trans e4),h4⟩
   ·intro v' H4' v H4 h4 r4 s4 e4;exact d.rt _ _ _ _ h4 r4 s4 (e1.trans (e2b.trans (e3.trans e4)))
   ·intro σ4' H4' σ4 H4 h4 s4 e4;exact d.nx _ _ _ _ h4 s4 (e1.trans (e2b.trans (e3.trans e4)))
   ·intro σ4' H4' σ4 H4 h4 s4 e4;exact⟨σ4',H4',s4,e2b.trans (e3.trans e4),h4⟩
 ·have hi':i=J'.items.length:=by omega
  subst hi';rw[List.drop_length]at h2;obtain⟨ok2,h2⟩:=(show J'.ok H2'/\_ from h2);exact .inl ⟨wk.stop H2' H2 k2 s2.hp ok2,d.nx _ _ _ _ h2 s2 (e1.trans e2)⟩
theorem bI{iter tg:Expr}{body:List Stmt}{wi:TI'}{g:TG'}(hp:PassesOwn (model X.prog X.w) X.A X.env X.xe)(hc:X.calm=true)(hi:PI' X B tg iter wi)(hg:PG' X B tg g)(hb:gw X B body t)
  (hs:∀x,foldedSetIterable iter X.env x=pure x:=by intro _;rfl):PS' X B (.For tg iter body [] pos) (yH wi g t):=dt hp hc (mW hi) hg hb hs
def vQ(x:PV)(H1:PHp)(R:It'->PHp->Prop):Prop:=match x with
 | .tup l=>R ⟨l,fun _=>True⟩ H1
 | .fls l=>R ⟨l,fun _=>True⟩ H1
 | .ref a=>∃l,H1 a=some (.lst l)/\R ⟨l,fun H=>H a=some (.lst l)⟩ H1
 | _=>False
def xX(ta:TE'):TI':=fun σ H R=>ta σ H fun x H1=>vQ x H1 R
def Fj(K:PySem.W.Frag)(tl:TE):TI:=fun σ H R=>tl σ H fun x H1=>∃a,x=.ref a/\((∃xs,SqL K H1 a xs)/\R (Itl K a) H1∨(∃xs,SqT K H1 a xs)/\R (Itt K a) H1)
theorem yG{tg l:Expr}{tl:TE}(hl:PE X l tl):PI X tg l (Fj X.K tl):=by
 intro pins s σ H R I h;refine thn (hl pins s σ H _ I h) fun v s1 y_=>?_;obtain⟨x,H1,I1,r1,q1⟩:=y_;obtain⟨a,e,⟨⟨xs,hq⟩,q⟩ |⟨⟨xs,hq⟩,q⟩⟩:=q1
 ·subst e;cases r1;obtain⟨its,rv,p,hz⟩:=I1.list hq;refine wpAny_pyIter_list p.isList ?_;refine⟨s1.heap.objs.size,[s1.heap.objs.size],_,_,H1,rfl,I1.kept (t':=s1.toks) fun b o e=>Ho _ e,pP a _,⟨_,Hv _ rfl,rfl,rfl⟩,fun b hb=>?_,q⟩;have e:b=s1.heap.objs.size:=by simpa using hb
  subst e;exact I1.fpOk (Hr _) (I1.hok.fresh (Hr _))
 ·subst e;cases r1;obtain⟨its,rv,p,hz⟩:=I1.tuple hq;refine wpAny_pyIter_tuple (show s1.heap.IsTuple a its.toArray from p) ?_;refine⟨s1.heap.objs.size,[s1.heap.objs.size],_,_,H1,rfl,I1.kept (t':=s1.toks) fun b o e=>Ho _ e,m5 a _,⟨_,Hv _ rfl,rfl,rfl⟩,fun b hb=>?_,q⟩;have e:b=s1.heap.objs.size:=by simpa using hb
  subst e;exact I1.fpOk (Hr _) (I1.hok.fresh (Hr _))
theorem iy{K:PySem.W.Frag}{H1:Hp}{J':It'}{a:Addr}(h:∀H' H,Kp H1 H->HR K H' H->J'.ok H'->∃us,SqL K H a us/\RPs K H J'.items us):Walks K H1 (Itl K a) J' where
 go:=fun H' H i k s o hi=>by
  obtain⟨us,q,r⟩:=h H' H k s o;obtain⟨u,e,_⟩:=RPs.get _ r (Hn hi);exact⟨us,u,q,e⟩
 yld:=fun H' H i x H2 k s o y=>by
  obtain⟨us,q,r⟩:=h H' H k s o;refine⟨y.1,fun x' hx=>?_⟩;obtain⟨u,e,ru⟩:=RPs.get _ r hx;have:=y.2 us q;rw[e]at this;cases this;exact ru
 stop:=fun H' H i k s o hi=>by
  obtain⟨us,q,r⟩:=h H' H k s o;exact⟨us,q,by rw[RPs.length _ r];exact hi⟩
theorem qr{K:PySem.W.Frag}{H1:Hp}{J':It'}{a:Addr}(h:∀H' H,Kp H1 H->HR K H' H->J'.ok H'->∃us,SqT K H a us/\RPs K H J'.items us):Walks K H1 (Itt K a) J' where
 go:=fun H' H i k s o hi=>by
  obtain⟨us,q,r⟩:=h H' H k s o;obtain⟨u,e,_⟩:=RPs.get _ r (Hn hi);exact⟨us,u,q,e⟩
 yld:=fun H' H i x H2 k s o y=>by
  obtain⟨us,q,r⟩:=h H' H k s o;refine⟨y.1,fun x' hx=>?_⟩;obtain⟨u,e,ru⟩:=RPs.get _ r hx;have:=y.2 us q;rw[e]at this;cases this;exact ru
 stop:=fun H' H i k s o hi=>by
  obtain⟨us,q,r⟩:=h H' H k s o;exact⟨us,q,by rw[RPs.length _ r];exact hi⟩
theorem aQ{tg:Expr}(ha:PE' X B a ta):PI' X B tg a (xX ta):=cK (yG ha) fun σ H R y_=>by
 obtain⟨σ',H',R',s,h,k⟩:=y_;refine⟨σ',H',_,s,h,fun x' H1' x H1 h1 r1 s1 e1=>?_⟩;cases x' with
 | tup l =>
  simp only[RP]at r1;obtain⟨p,us,rfl,q,r⟩:=r1;exact⟨p,rfl,.inr ⟨⟨us,q⟩,k _ H1' _ H1 h1 (qr fun _ H2 k2 _ _=>⟨us,k2.sqT q,RPs.kp _ k2 r⟩) s1 e1⟩⟩
 | fls l =>
  simp only[RP]at r1;obtain⟨p,us,rfl,q,r⟩:=r1;exact⟨p,rfl,.inl ⟨⟨us,q.sq⟩,k _ H1' _ H1 h1 (iy fun _ H2 k2 _ _=>⟨us,(k2.fzL q).sq,RPs.kp _ k2 r⟩) s1 e1⟩⟩
 | ref p =>
  simp only[RP]at r1;obtain⟨l,q,h1⟩:=h1;obtain⟨us,q2,r⟩:=s1.hp _ _ q;refine⟨p,r1,.inl ⟨⟨us,SqL.of q2⟩,k _ H1' _ H1 h1 (iy fun H2' H2 k2 s2 o2=>?_) s1 e1⟩⟩;obtain⟨us2,q3,r3⟩:=s2 _ _ o2;exact⟨us2,SqL.of q3,r3⟩
 | _=>exact h1.elim
def bG(lo:Int)(n:Nat):List PV:=(List.range n).map fun k=>PV.int (lo+(k:Nat))
theorem qc{K:PySem.W.Frag}{H1:Hp}{lo:Int}{n:Nat}:Walks K H1 (Itr lo n) ⟨bG lo n,fun _=>True⟩ where
 go:=fun H' H i k s o hi=>by
  have h:i<n:=by simpa[bG]using hi
  exact h
 yld:=fun H' H i x H2 k s o y=>by
  obtain⟨e,rfl⟩:=y;refine⟨e,fun x' hx=>?_⟩;simp only[bG,Ht]at hx;cases q:(List.range n)[i]? with
  | none=>rw[q]at hx;cases hx
  | some j =>
   rw[q]at hx;obtain⟨h1,h2⟩:=Hs.mp q;rw[List.getElem_range]at h2;subst h2;cases hx;simp[RP]
 stop:=fun H' H i k s o hi=>by
  have h:n≤i:=by simpa[bG]using hi
  exact h
def uU(vs:List PV)(H1:PHp)(R:It'->PHp->Prop):Prop:=match vs with
 | [.int j]=>(-(2 ^ 62)≤j/\j<2 ^ 62)/\R ⟨bG 0 j.toNat,fun _=>True⟩ H1
 | _=>False
def xZ(t:TA'):TI':=fun σ H R=>t σ H fun vs H1=>uU vs H1 R
def BR(vs:List PV)(H1:PHp)(R:It'->PHp->Prop):Prop:=match vs with
 | [.int i,.int j]=>(-(2 ^ 62)≤i/\i<2 ^ 62/\-(2 ^ 62)≤j/\j<2 ^ 62)/\R ⟨bG i (j - i).toNat,fun _=>True⟩ H1
 | _=>False
def Cz(t:TA'):TI':=fun σ H R=>t σ H fun vs H1=>BR vs H1 R
theorem fq{tg:Expr}{t:TA'}{p:Pos}(hg:Gl X "range")(hm:X.mg "range"=none)(ha:PA' X B [a] t)(hs:starEach [a] X.env=[(false,eval a X.env)]:=by rfl):PI' X B tg (.Call (.Name "range" p) [a] [] pos) (xZ t) :=
 cK (ph hg hm ha hs) fun σ H R y_=>by
 obtain⟨σ',H',R',s,h,k⟩:=y_;refine⟨σ',H',_,s,h,fun vs' H1' vs H1 h1 r1 s1 e1=>?_⟩;unfold uU at h1;split at h1
 ·rename_i j;simp only[RPs,RP]at r1;obtain⟨u,r,rfl,rfl,rfl⟩:=r1;exact⟨j,rfl,h1.1.1,h1.1.2,k _ H1' _ H1 h1.2 qc s1 e1⟩
 ·exact h1.elim
end
end
section
variable {B:Bs}
abbrev Sp':=List PV->PHp->VK'->XK'->Prop
def gu(K:PySem.W.Frag)(sp:Sp'):Sp:=fun vs H Q E=>∃vs' H' Q' E',RPs K H vs' vs/\HR K H' H/\sp vs' H' Q' E'/\(∀v' H1' v H1,Q' v' H1'->RP K H1 v' v->HR K H1' H1->Ev H' H H1' H1->Q v H1) /\
 (∀c d H1' H1,E' c d H1'->HR K H1' H1->Ev H' H H1' H1->E c d H1)
abbrev aG(P:Program)(w:World)(K:PySem.W.Frag)(mg:Str->Option Value)(base:Heap)(CX:CXT)(k:Nat)(f:Addr)(fd:FuncData)(ps:List Str)(sp:Sp'):Prop:=iK P w K mg base CX k f fd ps (gu K sp)
def fy(N:List Str)(vs:List PV):St':=vs.map some++List.replicate (N.length - vs.length) none
theorem qX{K:PySem.W.Frag}{N:List Str}{vs':List PV}{vs:List V}{H':PHp}{H:Hp}(r:RPs K H vs' vs)(h:HR K H' H):SR K (H',H) (fy N vs') H' (L2.start N vs) H:=by
 have hl:=RPs.length _ r;refine⟨by simp[fy,L2.start,hl],fun i v' e=>?_,h,Ev.refl _ _⟩;unfold fy at e;unfold L2.start;by_cases hi:i<vs'.length
 ·rw[Jg (by simpa using hi)]at e;rw[Jg (by simpa[hl]using hi)];rw[Ht]at e ⊢;cases q:vs'[i]? with
  | none=>rw[q]at e;cases e
  | some w =>
   rw[q]at e;cases e;obtain⟨u,e1,e2⟩:=RPs.get _ r q;exact⟨u,by rw[e1];rfl,e2⟩
 ·rw[JC (by simpa using hi)]at e;rw[Jy]at e;split at e<;>cases e
def ends(Q:VK'):cF where
 nx:=fun _ H=>∃H3,Sub H3 H/\Q .non H3
 rt:=fun v H=>∃H3,Sub H3 H/\Q v H3
section
variable {P:Program}{w:World}{K:PySem.W.Frag}{mg:Str->Option Value}{base:Heap}
theorem okU{x qual:Str}{st:Stmt}{f:Addr}{fd:FuncData}{N ps:List Str}{k:Nat}{sp:Sp'}(F:Fun K x qual st f fd)(S:aC N ps (aw st))(len:∀vs H Q E,sp vs H Q E->vs.length=ps.length)
  (hbody:∀(cdv:Value) (A:Around) (outer:List Env) (s:Shared) (H:Hp) (E:XK) (B:Bs),bA k (A.deeper (envOfC qual (aw st) s.heap.objs.size f cdv)) ->
   ∃t,gw (m4 CX0 P w K mg base N qual (aw st) f cdv A outer s H E).nox B (cO st) t/\∀vs' H' Q' E',sp vs' H' Q' E'->t (ends Q') (fy N vs') H'):aG P w K mg base CX0 (k+1) f fd ps sp:=by
 refine F.ok S (fun vs H Q E zz=>?_) (fun cdv A outer s H vs Q E hr h=>?_)
 ·obtain⟨vs',H',Q',E',r,hr,h,_⟩:=zz;rw[RPs.length _ r];exact len _ _ _ _ h
 ·obtain⟨vs',H',Q',E',r,hh,h,k1,k2⟩:=h;obtain⟨t,ht,hq⟩:=hbody cdv A outer s H E (H',H) hr;refine⟨_,ht,fy N vs',H',_,qX r hh,hq vs' H' Q' E' h,?_,?_,?_,?_⟩
  ·rintro σ1' H1' σ1 H1 ⟨H3,sb,q⟩ s1 e1;exact k1 _ H3 _ H1 q (by simp[RP]) (s1.hp.sub sb) (e1.sub sb)
  ·rintro v' H1' v H1 ⟨H3,sb,q⟩ r1 s1 e1;exact k1 _ H3 _ H1 q r1 (s1.sub sb) (e1.sub sb)
  ·intro _ _ _ _ z;exact z.elim
  ·intro _ _ _ _ z;exact z.elim
end
section
variable {X:Cx}{CX:CXT}{k:Nat}{f C:Addr}{fd:FuncData}{ps:List Str}{sp:Sp'}{E:XK}{E':XK'}{x m:Str}{p pos apos:Pos}{e o:Expr}{es:List Expr}{ta:TE'}{t:TA'}
def tW(sp:Sp')(E':XK')(t:TA'):TE':=fun σ H Q=>t σ H fun vs H1=>sp vs H1 Q E'
abbrev X0:XK':=fun _ _ _=>False
theorem pI{K:PySem.W.Frag}{σ:L2.St}{H:Hp}{Q:VK}(h:low K B (tW sp X0 t) σ H Q):yp (gu K sp) [] E0 (sk K B t) σ H Q:=by
 obtain⟨σ',H',Q',s,h,k⟩:=h;refine⟨σ',H',_,s,h,fun vs' H1' vs H1 h1 r1 s1 e1=>?_⟩;show gu K sp (vs++[]) H1 Q E0;rw[IF];exact⟨vs',H1',Q',X0,r1,s1.hp,h1,fun v' H2' v H2 q r2 h2 e2=>k v' H2' v H2 q r2 (s1.kp e2 h2) (e1.trans e2),fun _ _ _ _ z=>z.elim⟩
theorem av(F:aG X.prog X.w X.K X.mg X.base CX0 k f fd ps sp)(hr:bA k X.A)(hg:Gl X x)(hm:X.mg x=some (.ref f))(hk:PySem.W.keepIn X.K (.ref f)=true)(hb:Binds X.K fd ps [])
  (ha:PA' X B (e::es) t) (hdb:(x==("__debug__":Str))=false:=by decide) (he:starEach (e::es) X.env=(false,eval e X.env)::starEach es X.env:=by rfl) (hpl:(backTo pos (starEach es X.env)).any (·.1)=false:=by rfl) :
  PE' X B (.Call (.Name x p) (e::es) [] pos) (tW sp X0 t):=aF (ve F hr hg hm hk hb .nil rC ha hdb he hpl) fun _ _ _ h=>pI h
theorem Ea{K:PySem.W.Frag}{H:Hp}{a:Addr}{xs:List V}(o:qo H)(h:SqL K H a xs):FzL K H a xs:=by
 rcases h with(h | h) | h
 ·rcases o a with z |⟨ob,ys,z⟩
  ·rw[z]at h;cases h
  ·rw[z]at h;cases h
 ·exact .inl h
 ·exact .inr h
def spL:Sp':=fun vs H Q _=>match vs with
 | [.fls l]=>∃ns:List Int,l=ns.map PV.int/\ns.length≤63/\Q (.bl true) H
 | _=>False
theorem pT{K:PySem.W.Frag}{H:Hp}{a:Addr}{ns:List Int}(hl:ns.length≤63)(o:qo H)(h:SqL K H a (ns.map V.int)):gu K spL [.ref a] H (fun v _=>v=.bl true) fun _ _ _=>False:=by
 refine⟨[.fls (ns.map PV.int)],fun _=>none,fun v _=>v=.bl true,X0,?_,fun _ _ z=>(nomatch z),⟨ns,rfl,hl,rfl⟩,fun v' _ v _ q r _ _=>?_,fun _ _ _ _ z=>z.elim⟩
 ·refine RPs.cons _ ?_ (RPs.nil _);simp only[RP];exact⟨a,_,rfl,Ea o h,RPs.ints _ _⟩
 ·subst q;simpa[RP]using r
end
end
section
variable {B:Bs}
mutual
def deq:PV->PV->Bool
 | .non,.non=>true
 | .bl a,.bl b=>a==b
 | .int a,.int b=>a==b
 | .bl a,.int b=>(if a then 1 else 0)==b
 | .int a,.bl b=>a==(if b then 1 else 0)
 | .str a,.str b=>a==b
 | .tup l,.tup m=>fR l m
 | .fls l,.fls m=>fR l m
 | _,_=>false
def fR:List PV->List PV->Bool
 | [],[]=>true
 | x::l,y::m=>deq x y&&fR l m
 | _,_=>false
end
def flat:Nat->PV->Bool
 | _,.non=>true
 | _,.bl _=>true
 | _,.int _=>true
 | _,.str _=>true
 | n+1,.tup l=>l.all (flat n)
 | n+1,.fls l=>l.all (flat n)
 | _,_=>false
theorem bC:∀(l m:List PV),fR l m=((List.range (min l.length m.length)).all (fun i=>deq (l.getD i .non) (m.getD i .non))&&l.length==m.length)
 | [],[]=>by simp[fR]
 | [],_::_=>by simp[fR]
 | _::_,[]=>by simp[fR]
 | x::l,y::m=>by
  simp only[fR,bC l m,Ig];rw[show min (l.length+1) (m.length+1)=min l.length m.length+1 by omega,List.range_succ_eq_map,List.all_cons,List.all_map];simp only[List.getD_cons_zero,Bool.and_assoc];congr 1;congr 1;simp
theorem fF{n:Nat}:∀(l:List PV),(∀x∈l,deq x x=true)->fR l l=true
 | [],_=>rfl
 | x::l,h=>by
  have h1:=h x (by simp);have h2:=fF (n:=n) l fun y hy=>h y (by simp[hy]);simp only[fR,h1,h2,Bool.and_self]
theorem eJ:∀{n:Nat} {x:PV},flat n x=true->deq x x=true
 | _,.non,_=>by simp[deq]
 | _,.bl _,_=>by simp[deq]
 | _,.int _,_=>by simp[deq]
 | _,.str _,_=>by simp[deq]
 | n+1,.tup l,h=>by
  simp only[flat,Ib]at h;simp only[deq];exact fF (n:=0) l fun x hx=>eJ (h x hx)
 | n+1,.fls l,h=>by
  simp only[flat,Ib]at h;simp only[deq];exact fF (n:=0) l fun x hx=>eJ (h x hx)
 | 0,.tup _,h=>by cases h
 | 0,.fls _,h=>by cases h
 | n,.ref _,h=>by cases n<;>cases h
 | n,.oth _,h=>by cases n<;>cases h
section
variable {X:Cx}{pins:List (Addr×Obj)}{σ:L2.St}{H:Hp}{s:Shared}
def RR(K:PySem.W.Frag)(H:Hp)(x:PV)(u:Value):Prop:=∃v,RP K H x v/\RelV v u
def RL(K:PySem.W.Frag)(H:Hp)(l:List PV)(us:List Value):Prop:=∃vs,RPs K H l vs/\Vals vs us
def RD(K:PySem.W.Frag)(H:Hp)(x:PV)(u:Value):Prop:=match x with
 | .fls l=>∃a vs,u=.ref a/\SqL K H a vs/\RPs K H l vs
 | x=>RR K H x u
theorem RL.get{K:PySem.W.Frag}{l:List PV}{us:List Value}(r:RL K H l us){i:Nat}{u:Value}(e:us[i]?=some u):∃x,l[i]?=some x/\RR K H x u:=by
 obtain⟨vs,r1,r2⟩:=r;have hl:=r2.length;have hl2:=RPs.length _ r1;have hi:i<l.length:=by
  have:=(Hs.mp e).1;omega
 obtain⟨v,e1,e2⟩:=RPs.get _ r1 (Hn hi);obtain⟨w,e3,e4⟩:=r2.get e1;rw[e]at e3;cases e3;exact⟨_,Hn hi,v,e2,e4⟩
theorem RL.length{K:PySem.W.Frag}{l:List PV}{us:List Value}(r:RL K H l us):us.length=l.length:=by
 obtain⟨vs,r1,r2⟩:=r;rw[←r2.length,RPs.length _ r1]
theorem RR.rd{K:PySem.W.Frag}{x:PV}{u:Value}(r:RR K H x u):RD K H x u:=by
 cases x with
 | fls l =>
  obtain⟨v,r1,r2⟩:=r;simp only[RP]at r1;obtain⟨a,us,rfl,q,rr⟩:=r1;cases r2;exact⟨a,us,rfl,q.sq,rr⟩
 | _=>exact r
theorem ba(I:Inv X pins σ H s){l:List PV}{u:Value}(r:RD X.K H (.tup l) u):∃a its,u=.ref a/\RL X.K H l its/\s.heap.IsTuple a its.toArray:=by
 obtain⟨v,r1,r2⟩:=r;simp only[RP]at r1;obtain⟨a,us,rfl,q,rr⟩:=r1;cases r2;obtain⟨its,rv,p,_⟩:=I.tuple q;exact⟨a,its,rfl,⟨us,rr,rv⟩,p⟩
theorem bb(I:Inv X pins σ H s){l:List PV}{u:Value}(r:RD X.K H (.fls l) u):∃a its,u=.ref a/\RL X.K H l its/\s.heap.IsList a its.toArray:=by
 obtain⟨a,us,rfl,q,rr⟩:=r;obtain⟨its,rv,p,_⟩:=I.list q;exact⟨a,its,rfl,⟨us,rr,rv⟩,p.isList⟩
theorem lE{a:Addr}{x y:Array Value}(h1:s.heap.IsTuple a x)(h2:s.heap.IsTuple a y):x=y:=by
 obtain⟨o,e,c,n,d⟩:=h1;obtain⟨o',e',c',n',d'⟩:=h2;rw[e]at e';cases e';rw[d]at d';cases d';rfl
theorem l0{a:Addr}{x y:Array Value}(h1:s.heap.IsList a x)(h2:s.heap.IsList a y):x=y:=by
 obtain⟨o,e,c,n,d⟩:=h1;obtain⟨o',e',c',n',d'⟩:=h2;rw[e]at e';cases e';rw[d]at d';cases d';rfl
theorem lZ{a:Addr}{x y:Array Value}(h1:s.heap.IsTuple a x)(h2:s.heap.IsList a y):False:=by
 obtain⟨o,e,c,n,d⟩:=h1;obtain⟨o',e',c',n',d'⟩:=h2;rw[e]at e';cases e';rw[c]at c';exact absurd c' (by decide)
theorem RL.list_inj{K:PySem.W.Frag}{n:Nat}(ih:∀{x y:PV} {u:Value},flat n x=true->flat n y=true->RD K H x u->RD K H y u->x=y){l m:List PV}{us:List Value}(h1:l.all (flat n)=true)(h2:m.all (flat n)=true)
  (r1:RL K H l us) (r2:RL K H m us):l=m:=by
 rw[Ib]at h1 h2;refine List.ext_getElem? fun i=>?_;cases e:us[i]? with
 | none =>
  have:=JH.mp e;rw[JI (by rw[←r1.length];exact this),JI (by rw[←r2.length];exact this)]
 | some u =>
  obtain⟨x,ex,rx⟩:=r1.get e;obtain⟨y,ey,ry⟩:=r2.get e;rw[ex,ey,ih (h1 x (Hz ex)) (h2 y (Hz ey)) rx.rd ry.rd]
theorem jP(I:Inv X pins σ H s):∀(n:Nat) {x y:PV} {u:Value},flat n x=true->flat n y=true->RD X.K H x u->RD X.K H y u->x=y:=by
 have sc:∀{x:PV} {u:Value},RD X.K H x u->(∀l,x≠.fls l)->RR X.K H x u:=fun {x u} r h=>by
  cases x with
  | fls l=>exact absurd rfl (h l)
  | _=>exact r
 intro n
 induction n with
 | zero =>
  intro x y u hx hy rx ry;cases x<;>first |(cases hx;done) | skip
  all_goals cases y<;>first |(cases hy;done) | skip
  all_goals
   obtain⟨v,r1,r2⟩:=sc rx (by intro l z;cases z);obtain⟨v',r1',r2'⟩:=sc ry (by intro l z;cases z);simp only[RP]at r1 r1';subst r1;subst r1';have:=RelV.inj r2 r2'
   first | rfl |(cases this;done) |(cases this;rfl)
 | succ n ih =>
  intro x y u hx hy rx ry;cases x with
  | tup l =>
   obtain⟨a,its,rfl,rl,p⟩:=ba I rx;cases y with
   | tup m =>
    obtain⟨b,its',e,rl',p'⟩:=ba I ry;cases e;have:=lE p p';have e2:its=its':=by simpa using this
    subst e2;rw[RL.list_inj (n:=n) ih hx hy rl rl']
   | fls m =>
    obtain⟨b,its',e,rl',p'⟩:=bb I ry;cases e;exact(lZ p p').elim
   | ref a=>cases hy
   | oth a=>cases hy
   | _ =>
    obtain⟨v',r1',r2'⟩:=sc ry (by intro l z;cases z);simp only[RP]at r1';subst r1';simp[L2.RelV]at r2'
  | fls l =>
   obtain⟨a,its,rfl,rl,p⟩:=bb I rx;cases y with
   | tup m =>
    obtain⟨b,its',e,rl',p'⟩:=ba I ry;cases e;exact(lZ p' p).elim
   | fls m =>
    obtain⟨b,its',e,rl',p'⟩:=bb I ry;cases e;have:=l0 p p';have e2:its=its':=by simpa using this
    subst e2;rw[RL.list_inj (n:=n) ih hx hy rl rl']
   | ref a=>cases hy
   | oth a=>cases hy
   | _ =>
    obtain⟨v',r1',r2'⟩:=sc ry (by intro l z;cases z);simp only[RP]at r1';subst r1';simp[L2.RelV]at r2'
  | ref a=>cases hx
  | oth a=>cases hx
  | _ =>
   cases y with
   | tup m =>
    obtain⟨b,its',e,rl',p'⟩:=ba I ry;subst e;obtain⟨v',r1',r2'⟩:=sc rx (by intro l z;cases z);simp only[RP]at r1';subst r1';simp[L2.RelV]at r2'
   | fls m =>
    obtain⟨b,its',e,rl',p'⟩:=bb I ry;subst e;obtain⟨v',r1',r2'⟩:=sc rx (by intro l z;cases z);simp only[RP]at r1';subst r1';simp[L2.RelV]at r2'
   | ref a=>cases hy
   | oth a=>cases hy
   | _ =>
    obtain⟨v,r1,r2⟩:=sc rx (by intro l z;cases z);obtain⟨v',r1',r2'⟩:=sc ry (by intro l z;cases z);simp only[RP]at r1 r1';subst r1;subst r1';have:=RelV.inj r2 r2'
    first | rfl |(cases this;done) |(cases this;rfl)
open SeqAt in
theorem gT(I:Inv X pins σ H s):∀(n:Nat) {A:Around} {x y:PV} {u w:Value},A.units+n<cLine->flat n x=true->flat n y=true->RD X.K H x u->RD X.K H y w->EqAt A s u w (deq x y)/\RcAt A s u w (deq x y):=by
 have sc:∀{x:PV} {u:Value},RD X.K H x u->(∀l,x≠.fls l)->RR X.K H x u:=fun {x u} r h=>by
  cases x with
  | fls l=>exact absurd rfl (h l)
  | _=>exact r
 have v_non:∀{u:Value},RD X.K H .non u->u=.none:=fun {u} r=>by
  obtain⟨v,r1,r2⟩:=sc r (by intro l z;cases z);simp only[RP]at r1;subst r1;exact r2
 have v_bl:∀{b:Bool} {u:Value},RD X.K H (.bl b) u->u=.bool b:=fun {b u} r=>by
  obtain⟨v,r1,r2⟩:=sc r (by intro l z;cases z);simp only[RP]at r1;subst r1;exact r2
 have v_int:∀{i:Int} {u:Value},RD X.K H (.int i) u->∃t,u=.int i t:=fun {b u} r=>by
  obtain⟨v,r1,r2⟩:=sc r (by intro l z;cases z);simp only[RP]at r1;subst r1;exact r2
 have v_str:∀{i:Str} {u:Value},RD X.K H (.str i) u->∃t,u=.str i t:=fun {b u} r=>by
  obtain⟨v,r1,r2⟩:=sc r (by intro l z;cases z);simp only[RP]at r1;subst r1;exact r2
 intro n
 induction n with
 | zero =>
  intro A x y u w hu hx hy rx ry;cases x with
  | non =>
   rw[v_non rx];cases y with
   | non=>rw[v_non ry];exact⟨EqAt.same _,RcAt.none_none⟩
   | bl b=>rw[v_bl ry];exact⟨EqAt.none_bool b,RcAt.none_bool b⟩
   | int b=>obtain⟨t,rfl⟩:=v_int ry;exact⟨EqAt.none_int b t,RcAt.none_int b t⟩
   | str b=>obtain⟨t,rfl⟩:=v_str ry;exact⟨EqAt.none_str b t,RcAt.none_str b t⟩
   | _=>cases hy
  | bl a =>
   rw[v_bl rx];cases y with
   | non=>rw[v_non ry];exact⟨EqAt.bool_none a,RcAt.bool_none a⟩
   | bl b=>rw[v_bl ry];exact⟨EqAt.bool_bool a b,RcAt.bool_bool a b⟩
   | int b=>obtain⟨t,rfl⟩:=v_int ry;exact⟨EqAt.bool_int a b t,RcAt.bool_int a b t⟩
   | str b=>obtain⟨t,rfl⟩:=v_str ry;exact⟨EqAt.bool_str a b t,RcAt.bool_str a b t⟩
   | _=>cases hy
  | int a =>
   obtain⟨t0,rfl⟩:=v_int rx;cases y with
   | non=>rw[v_non ry];exact⟨EqAt.int_none a t0,RcAt.int_none a t0⟩
   | bl b=>rw[v_bl ry];exact⟨EqAt.int_bool a t0 b,RcAt.int_bool a t0 b⟩
   | int b=>obtain⟨t,rfl⟩:=v_int ry;exact⟨EqAt.int_int a t0 b t,RcAt.int_int a t0 b t⟩
   | str b=>obtain⟨t,rfl⟩:=v_str ry;exact⟨EqAt.int_str a t0 b t,RcAt.int_str a t0 b t⟩
   | _=>cases hy
  | str a =>
   obtain⟨t0,rfl⟩:=v_str rx;cases y with
   | non=>rw[v_non ry];exact⟨EqAt.str_none a t0,RcAt.str_none a t0⟩
   | bl b=>rw[v_bl ry];exact⟨EqAt.str_bool a t0 b,RcAt.str_bool a t0 b⟩
   | int b=>obtain⟨t,rfl⟩:=v_int ry;exact⟨EqAt.str_int a t0 b t,RcAt.str_int a t0 b t⟩
   | str b=>obtain⟨t,rfl⟩:=v_str ry;exact⟨EqAt.str_str a t0 b t,RcAt.str_str a t0 b t⟩
   | _=>cases hy
  | _=>cases hx
 | succ n ih =>
  intro A x y u w hu hx hy rx ry;have hu0:A.units<cLine:=by omega
  have hu1:A.in1.units+n<cLine:=by show A.units+1+n<cLine;omega
  cases x with
  | tup l =>
   obtain⟨a,its,rfl,rl,p⟩:=ba I rx;cases y with
   | non=>rw[v_non ry];exact⟨EqAt.tuple_none p hu0,RcAt.tuple_none p hu0⟩
   | bl b=>rw[v_bl ry];exact⟨EqAt.tuple_bool b p hu0,RcAt.tuple_bool b p hu0⟩
   | int b=>obtain⟨t,rfl⟩:=v_int ry;exact⟨EqAt.tuple_int b t p hu0,RcAt.tuple_int b t p hu0⟩
   | str b=>obtain⟨t,rfl⟩:=v_str ry;exact⟨EqAt.tuple_str b t p hu0,RcAt.tuple_str b t p hu0⟩
   | tup m =>
    obtain⟨b,its',rfl,rl',p'⟩:=ba I ry;have key:RcAt A s (.ref a) (.ref b) (deq (.tup l) (.tup m)):=by
     have:=RcAt.tuples (e:=fun i=>deq (l.getD i .non) (m.getD i .non)) p p' hu0 fun j h1 h2=>by
      have h1':j<its.length:=by simpa using h1
      have h2':j<its'.length:=by simpa using h2
      obtain⟨x,ex,rx'⟩:=rl.get (Hn h1');obtain⟨y,ey,ry'⟩:=rl'.get (Hn h2');have q:=ih hu1 (Ib.mp hx x (Hz ex)) (Ib.mp hy y (Hz ey)) rx'.rd ry'.rd;have e1:l.getD j .non=x:=by rw[Hq,ex];rfl
      have e2:m.getD j .non=y:=by rw[Hq,ey];rfl
      rw[e1,e2];simpa using q.1
     have e:deq (.tup l) (.tup m)=((List.range (min its.toArray.size its'.toArray.size)).all (fun i=>deq (l.getD i .non) (m.getD i .non))&&its.toArray.size==its'.toArray.size):=by
      simp only[deq,bC,HS,rl.length,rl'.length]
     rw[e];exact this
    refine⟨?_,key⟩;by_cases hab:a=b
    ·subst hab;have:=jP I (n+1) hx hy rx ry;rw[←this,eJ hx];exact EqAt.same _
    ·exact EqAt.of_refs hab key
   | fls m =>
    obtain⟨b,its',rfl,rl',p'⟩:=bb I ry;exact⟨EqAt.tuple_list p p' hu0,RcAt.tuple_list p p' hu0⟩
   | _=>cases hy
  | fls l =>
   obtain⟨a,its,rfl,rl,p⟩:=bb I rx;cases y with
   | non=>rw[v_non ry];exact⟨EqAt.list_none p hu0,RcAt.list_none p hu0⟩
   | bl b=>rw[v_bl ry];exact⟨EqAt.list_bool b p hu0,RcAt.list_bool b p hu0⟩
   | int b=>obtain⟨t,rfl⟩:=v_int ry;exact⟨EqAt.list_int b t p hu0,RcAt.list_int b t p hu0⟩
   | str b=>obtain⟨t,rfl⟩:=v_str ry;exact⟨EqAt.list_str b t p hu0,RcAt.list_str b t p hu0⟩
   | tup m =>
    obtain⟨b,its',rfl,rl',p'⟩:=ba I ry;exact⟨EqAt.list_tuple p p' hu0,RcAt.list_tuple p p' hu0⟩
   | fls m =>
    obtain⟨b,its',rfl,rl',p'⟩:=bb I ry;have key:RcAt A s (.ref a) (.ref b) (deq (.fls l) (.fls m)):=by
     by_cases hs:its.length=its'.length
     ·have:=RcAt.lists (e:=fun i=>deq (l.getD i .non) (m.getD i .non)) p p' (by simpa using hs) hu0 fun j h1 h2=>by
       have h1':j<its.length:=by simpa using h1
       have h2':j<its'.length:=by simpa using h2
       obtain⟨x,ex,rx'⟩:=rl.get (Hn h1');obtain⟨y,ey,ry'⟩:=rl'.get (Hn h2');have q:=ih hu1 (Ib.mp hx x (Hz ex)) (Ib.mp hy y (Hz ey)) rx'.rd ry'.rd;have e1:l.getD j .non=x:=by rw[Hq,ex];rfl
       have e2:m.getD j .non=y:=by rw[Hq,ey];rfl
       rw[e1,e2];simpa using q.1
      have e:deq (.fls l) (.fls m)=(List.range its.toArray.size).all (fun i=>deq (l.getD i .non) (m.getD i .non)):=by
       have e0:l.length=m.length:=by rw[←rl.length,← rl'.length];exact hs
       simp[deq,bC,rl.length,e0]
      rw[e];exact this
     ·have e:deq (.fls l) (.fls m)=false:=by
       have e0:l.length≠m.length:=by rw[←rl.length,← rl'.length];exact hs
       simp[deq,bC,e0]
      rw[e];exact RcAt.lists_lengths p p' (by simpa using hs) hu0
    refine⟨?_,key⟩;by_cases hab:a=b
    ·subst hab;have:=jP I (n+1) hx hy rx ry;rw[←this,eJ hx];exact EqAt.same _
    ·exact EqAt.of_refs hab key
   | _=>cases hy
  | ref a=>cases hx
  | oth a=>cases hx
  | non =>
   cases y with
   | tup m=>obtain⟨b,its',rfl,rl',p'⟩:=ba I ry;rw[v_non rx];exact⟨EqAt.none_tuple p' hu0,RcAt.none_tuple p' hu0⟩
   | fls m=>obtain⟨b,its',rfl,rl',p'⟩:=bb I ry;rw[v_non rx];exact⟨EqAt.none_list p' hu0,RcAt.none_list p' hu0⟩
   | ref a=>cases hy
   | oth a=>cases hy
   | _=>exact ih (by omega) (by cases n<;>rfl) (by cases n<;>rfl) rx ry
  | bl i =>
   cases y with
   | tup m=>obtain⟨b,its',rfl,rl',p'⟩:=ba I ry;rw[v_bl rx];exact⟨EqAt.bool_tuple i p' hu0,RcAt.bool_tuple i p' hu0⟩
   | fls m=>obtain⟨b,its',rfl,rl',p'⟩:=bb I ry;rw[v_bl rx];exact⟨EqAt.bool_list i p' hu0,RcAt.bool_list i p' hu0⟩
   | ref a=>cases hy
   | oth a=>cases hy
   | _=>exact ih (by omega) (by cases n<;>rfl) (by cases n<;>rfl) rx ry
  | int i =>
   cases y with
   | tup m=>obtain⟨b,its',rfl,rl',p'⟩:=ba I ry;obtain⟨t,rfl⟩:=v_int rx;exact⟨EqAt.int_tuple i t p' hu0,RcAt.int_tuple i t p' hu0⟩
   | fls m=>obtain⟨b,its',rfl,rl',p'⟩:=bb I ry;obtain⟨t,rfl⟩:=v_int rx;exact⟨EqAt.int_list i t p' hu0,RcAt.int_list i t p' hu0⟩
   | ref a=>cases hy
   | oth a=>cases hy
   | _=>exact ih (by omega) (by cases n<;>rfl) (by cases n<;>rfl) rx ry
  | str i =>
   cases y with
   | tup m=>obtain⟨b,its',rfl,rl',p'⟩:=ba I ry;obtain⟨t,rfl⟩:=v_str rx;exact⟨EqAt.str_tuple i t p' hu0,RcAt.str_tuple i t p' hu0⟩
   | fls m=>obtain⟨b,its',rfl,rl',p'⟩:=bb I ry;obtain⟨t,rfl⟩:=v_str rx;exact⟨EqAt.str_list i t p' hu0,RcAt.str_list i t p' hu0⟩
   | ref a=>cases hy
   | oth a=>cases hy
   | _=>exact ih (by omega) (by cases n<;>rfl) (by cases n<;>rfl) rx ry
end
end
section
variable {B:Bs}
section
variable {X:Cx}{pins:List (Addr×Obj)}{σ:L2.St}{H:Hp}{s:Shared}
open SeqAt in
theorem wL(I:Inv X pins σ H s):∀(n:Nat) {A:Around} {x y:PV} {u w:Value},A.units+n<cLine->flat n x=true->flat n y=true->RD X.K H x u->RD X.K H y w->RcNeAt A s u w (!deq x y):=by
 have sc:∀{x:PV} {u:Value},RD X.K H x u->(∀l,x≠.fls l)->RR X.K H x u:=fun {x u} r h=>by
  cases x with
  | fls l=>exact absurd rfl (h l)
  | _=>exact r
 have v_non:∀{u:Value},RD X.K H .non u->u=.none:=fun {u} r=>by
  obtain⟨v,r1,r2⟩:=sc r (by intro l z;cases z);simp only[RP]at r1;subst r1;exact r2
 have v_bl:∀{b:Bool} {u:Value},RD X.K H (.bl b) u->u=.bool b:=fun {b u} r=>by
  obtain⟨v,r1,r2⟩:=sc r (by intro l z;cases z);simp only[RP]at r1;subst r1;exact r2
 have v_int:∀{i:Int} {u:Value},RD X.K H (.int i) u->∃t,u=.int i t:=fun {b u} r=>by
  obtain⟨v,r1,r2⟩:=sc r (by intro l z;cases z);simp only[RP]at r1;subst r1;exact r2
 have v_str:∀{i:Str} {u:Value},RD X.K H (.str i) u->∃t,u=.str i t:=fun {b u} r=>by
  obtain⟨v,r1,r2⟩:=sc r (by intro l z;cases z);simp only[RP]at r1;subst r1;exact r2
 intro n
 induction n with
 | zero =>
  intro A x y u w hu hx hy rx ry;cases x with
  | non =>
   rw[v_non rx];cases y with
   | non=>rw[v_non ry];exact RcNeAt.none_none
   | bl b=>rw[v_bl ry];exact RcNeAt.none_bool b
   | int b=>obtain⟨t,rfl⟩:=v_int ry;exact RcNeAt.none_int b t
   | str b=>obtain⟨t,rfl⟩:=v_str ry;exact RcNeAt.none_str b t
   | _=>cases hy
  | bl a =>
   rw[v_bl rx];cases y with
   | non=>rw[v_non ry];exact RcNeAt.bool_none a
   | bl b=>rw[v_bl ry];exact RcNeAt.bool_bool a b
   | int b=>obtain⟨t,rfl⟩:=v_int ry;exact RcNeAt.bool_int a b t
   | str b=>obtain⟨t,rfl⟩:=v_str ry;exact RcNeAt.bool_str a b t
   | _=>cases hy
  | int a =>
   obtain⟨t0,rfl⟩:=v_int rx;cases y with
   | non=>rw[v_non ry];exact RcNeAt.int_none a t0
   | bl b=>rw[v_bl ry];exact RcNeAt.int_bool a t0 b
   | int b=>obtain⟨t,rfl⟩:=v_int ry;exact RcNeAt.int_int a t0 b t
   | str b=>obtain⟨t,rfl⟩:=v_str ry;exact RcNeAt.int_str a t0 b t
   | _=>cases hy
  | str a =>
   obtain⟨t0,rfl⟩:=v_str rx;cases y with
   | non=>rw[v_non ry];exact RcNeAt.str_none a t0
   | bl b=>rw[v_bl ry];exact RcNeAt.str_bool a t0 b
   | int b=>obtain⟨t,rfl⟩:=v_int ry;exact RcNeAt.str_int a t0 b t
   | str b=>obtain⟨t,rfl⟩:=v_str ry;exact RcNeAt.str_str a t0 b t
   | _=>cases hy
  | _=>cases hx
 | succ n ih =>
  intro A x y u w hu hx hy rx ry;have hu0:A.units<cLine:=by omega
  have hu1:A.in1.units+n<cLine:=by show A.units+1+n<cLine;omega
  cases x with
  | tup l =>
   obtain⟨a,its,rfl,rl,p⟩:=ba I rx;cases y with
   | non=>rw[v_non ry];exact RcNeAt.tuple_none p hu0
   | bl b=>rw[v_bl ry];exact RcNeAt.tuple_bool b p hu0
   | int b=>obtain⟨t,rfl⟩:=v_int ry;exact RcNeAt.tuple_int b t p hu0
   | str b=>obtain⟨t,rfl⟩:=v_str ry;exact RcNeAt.tuple_str b t p hu0
   | tup m =>
    obtain⟨b,its',rfl,rl',p'⟩:=ba I ry;have key:RcNeAt A s (.ref a) (.ref b) (!deq (.tup l) (.tup m)):=by
     have:=RcNeAt.tuples (e:=fun i=>deq (l.getD i .non) (m.getD i .non)) p p' hu0 fun j h1 h2=>by
      have h1':j<its.length:=by simpa using h1
      have h2':j<its'.length:=by simpa using h2
      obtain⟨x,ex,rx'⟩:=rl.get (Hn h1');obtain⟨y,ey,ry'⟩:=rl'.get (Hn h2');have q:=gT I n hu1 (Ib.mp hx x (Hz ex)) (Ib.mp hy y (Hz ey)) rx'.rd ry'.rd;have e1:l.getD j .non=x:=by rw[Hq,ex];rfl
      have e2:m.getD j .non=y:=by rw[Hq,ey];rfl
      rw[e1,e2];simpa using q.1
     have e:deq (.tup l) (.tup m)=((List.range (min its.toArray.size its'.toArray.size)).all (fun i=>deq (l.getD i .non) (m.getD i .non))&&its.toArray.size==its'.toArray.size):=by
      simp only[deq,bC,HS,rl.length,rl'.length]
     rw[e];exact this
    exact key
   | fls m =>
    obtain⟨b,its',rfl,rl',p'⟩:=bb I ry;exact RcNeAt.tuple_list p p' hu0
   | _=>cases hy
  | fls l =>
   obtain⟨a,its,rfl,rl,p⟩:=bb I rx;cases y with
   | non=>rw[v_non ry];exact RcNeAt.list_none p hu0
   | bl b=>rw[v_bl ry];exact RcNeAt.list_bool b p hu0
   | int b=>obtain⟨t,rfl⟩:=v_int ry;exact RcNeAt.list_int b t p hu0
   | str b=>obtain⟨t,rfl⟩:=v_str ry;exact RcNeAt.list_str b t p hu0
   | tup m =>
    obtain⟨b,its',rfl,rl',p'⟩:=ba I ry;exact RcNeAt.list_tuple p p' hu0
   | fls m =>
    obtain⟨b,its',rfl,rl',p'⟩:=bb I ry;have key:RcNeAt A s (.ref a) (.ref b) (!deq (.fls l) (.fls m)):=by
     by_cases hs:its.length=its'.length
     ·have:=RcNeAt.lists (e:=fun i=>deq (l.getD i .non) (m.getD i .non)) p p' (by simpa using hs) hu0 fun j h1 h2=>by
       have h1':j<its.length:=by simpa using h1
       have h2':j<its'.length:=by simpa using h2
       obtain⟨x,ex,rx'⟩:=rl.get (Hn h1');obtain⟨y,ey,ry'⟩:=rl'.get (Hn h2');have q:=gT I n hu1 (Ib.mp hx x (Hz ex)) (Ib.mp hy y (Hz ey)) rx'.rd ry'.rd;have e1:l.getD j .non=x:=by rw[Hq,ex];rfl
       have e2:m.getD j .non=y:=by rw[Hq,ey];rfl
       rw[e1,e2];simpa using q.1
      have e:deq (.fls l) (.fls m)=(List.range its.toArray.size).all (fun i=>deq (l.getD i .non) (m.getD i .non)):=by
       have e0:l.length=m.length:=by rw[←rl.length,← rl'.length];exact hs
       simp[deq,bC,rl.length,e0]
      rw[e];exact this
     ·have e:deq (.fls l) (.fls m)=false:=by
       have e0:l.length≠m.length:=by rw[←rl.length,← rl'.length];exact hs
       simp[deq,bC,e0]
      rw[e];exact RcNeAt.lists_lengths p p' (by simpa using hs) hu0
    exact key
   | _=>cases hy
  | ref a=>cases hx
  | oth a=>cases hx
  | non =>
   cases y with
   | tup m=>obtain⟨b,its',rfl,rl',p'⟩:=ba I ry;rw[v_non rx];exact RcNeAt.none_tuple p' hu0
   | fls m=>obtain⟨b,its',rfl,rl',p'⟩:=bb I ry;rw[v_non rx];exact RcNeAt.none_list p' hu0
   | ref a=>cases hy
   | oth a=>cases hy
   | _=>exact ih (by omega) (by cases n<;>rfl) (by cases n<;>rfl) rx ry
  | bl i =>
   cases y with
   | tup m=>obtain⟨b,its',rfl,rl',p'⟩:=ba I ry;rw[v_bl rx];exact RcNeAt.bool_tuple i p' hu0
   | fls m=>obtain⟨b,its',rfl,rl',p'⟩:=bb I ry;rw[v_bl rx];exact RcNeAt.bool_list i p' hu0
   | ref a=>cases hy
   | oth a=>cases hy
   | _=>exact ih (by omega) (by cases n<;>rfl) (by cases n<;>rfl) rx ry
  | int i =>
   cases y with
   | tup m=>obtain⟨b,its',rfl,rl',p'⟩:=ba I ry;obtain⟨t,rfl⟩:=v_int rx;exact RcNeAt.int_tuple i t p' hu0
   | fls m=>obtain⟨b,its',rfl,rl',p'⟩:=bb I ry;obtain⟨t,rfl⟩:=v_int rx;exact RcNeAt.int_list i t p' hu0
   | ref a=>cases hy
   | oth a=>cases hy
   | _=>exact ih (by omega) (by cases n<;>rfl) (by cases n<;>rfl) rx ry
  | str i =>
   cases y with
   | tup m=>obtain⟨b,its',rfl,rl',p'⟩:=ba I ry;obtain⟨t,rfl⟩:=v_str rx;exact RcNeAt.str_tuple i t p' hu0
   | fls m=>obtain⟨b,its',rfl,rl',p'⟩:=bb I ry;obtain⟨t,rfl⟩:=v_str rx;exact RcNeAt.str_list i t p' hu0
   | ref a=>cases hy
   | oth a=>cases hy
   | _=>exact ih (by omega) (by cases n<;>rfl) (by cases n<;>rfl) rx ry
def RDv(K:PySem.W.Frag)(H:Hp)(d:PV)(x:V):Prop:=match d with
 | .fls l=>∃a vs,x=.ref a/\SqL K H a vs/\RPs K H l vs
 | d=>RP K H d x
theorem RDv.rd{K:PySem.W.Frag}{d:PV}{x:V}{u:Value}(h:RDv K H d x)(r:L2.RelV x u):RD K H d u:=by
 cases d with
 | fls l=>obtain⟨a,vs,rfl,q,rr⟩:=h;cases r;exact⟨a,vs,rfl,q,rr⟩
 | _=>exact⟨x,h,r⟩
def cu(x:PV)(H:PHp)(k:PV->Prop):Prop:=match x with
 | .ref a=>∃l,H a=some (.lst l)/\k (.fls l)
 | x=>k x
theorem cu.ex{K:PySem.W.Frag}{σ':St'}{x:PV}{v:V}{H':PHp}{k:PV->Prop}(h:cu x H' k)(s:SR K B σ' H' σ H)(r:RP K H x v):∃d,RDv K H d v/\k d:=by
 cases x with
 | ref a =>
  obtain⟨l,e,h⟩:=h;obtain⟨us,q,r2⟩:=s.hp _ _ e;simp only[RP]at r;exact⟨.fls l,⟨a,us,r,SqL.of q,r2⟩,h⟩
 | fls l =>
  simp only[RP]at r;obtain⟨a,us,e,q,r⟩:=r;exact⟨.fls l,⟨a,us,e,q.sq,r⟩,h⟩
 | non=>exact⟨.non,r,h⟩
 | bl b=>exact⟨.bl b,r,h⟩
 | int b=>exact⟨.int b,r,h⟩
 | str b=>exact⟨.str b,r,h⟩
 | tup b=>exact⟨.tup b,r,h⟩
 | oth b=>exact⟨.oth b,r,h⟩
def z0(K:PySem.W.Frag)(g:Bool->Bool):R2:=fun x y H Q=>∃d1 d2,flat 9 d1=true/\flat 9 d2=true/\RDv K H d1 x/\RDv K H d2 y/\Q (.bl (g (deq d1 d2))) H
theorem a8(hu:X.A.units+64<cLine):OpR X (compareOp .Eq) (z0 X.K fun b=>b):=by
 intro pins s σ H x y v u Q I rx ry h;obtain⟨d1,d2,f1,f2,r1,r2,q⟩:=h;exact(gT I 9 (by omega) f1 f2 (r1.rd rx) (r2.rd ry)).2 _ _ _ _ ⟨.bl _,H,I,rfl,q⟩
theorem dJ(hu:X.A.units+64<cLine):OpR X (compareOp .NotEq) (z0 X.K fun b=>!b):=by
 intro pins s σ H x y v u Q I rx ry h;obtain⟨d1,d2,f1,f2,r1,r2,q⟩:=h;exact wL I 9 (by omega) f1 f2 (r1.rd rx) (r2.rd ry) _ _ _ _ ⟨.bl _,H,I,rfl,q⟩
def C3(g:Bool->Bool):R2':=fun x y H Q=>cu x H fun d1=>cu y H fun d2=>flat 9 d1=true/\flat 9 d2=true/\Q (.bl (g (deq d1 d2))) H
theorem a7{K:PySem.W.Frag}{g:Bool->Bool}:VR K B (C3 g) (z0 K g):=by
 intro σ' σ H' H x' y' x y Q' Q s rx ry h k;obtain⟨d1,r1,h1⟩:=cu.ex h s rx;obtain⟨d2,r2,f1,f2,q⟩:=cu.ex h1 s ry;exact⟨d1,d2,f1,f2,r1,r2,k _ H' _ H q (by simp[RP]) s (Ev.refl _ _)⟩
def CK(K:PySem.W.Frag)(g:Bool->Bool):R2:=fun x y H Q=>∃d p l us,flat 8 d=true/\RDv K H d x/\y=.ref p/\l.all (flat 8)=true/\RPs K H l us/\(SqL K H p us∨SqT K H p us)/\Q (.bl (g (l.any fun z=>deq z d))) H
open Classical in
theorem kB(I:Inv X pins σ H s){A:Around}{d:PV}{v:Value}{l:List PV}{its:List Value}(hu:A.units+20<cLine)(fd:flat 8 d=true)(rd:RD X.K H d v)(fl:l.all (flat 8)=true)(rl:RL X.K H l its) :
  ∃e:Value->Bool,(∀y,y∈its.toArray->SeqAt.EqAt A.in1 s y v (e y))/\its.toArray.any e=l.any fun z=>deq z d:=by
 refine⟨fun u=>decide (∃z,flat 8 z=true/\RD X.K H z u/\deq z d=true),fun y hy=>?_,?_⟩
 ·have hy':y∈its:=by simpa using hy
  obtain⟨i,hi⟩:=List.mem_iff_getElem?.mp hy';obtain⟨z,ez,rz⟩:=rl.get hi;have fz:=Ib.mp fl z (Hz ez);have q:=(gT I 8 (A:=A.in1) (by show A.units+1+8<cLine;omega) fz fd rz.rd rd).1;have e:decide (∃z,flat 8 z=true/\RD X.K H z y/\deq z d=true)=deq z d:=by
   rw[Kb,decide_eq_true_iff];constructor
   ·rintro⟨z',f',r',e'⟩;rw[jP I 8 fz f' rz.rd r'];exact e'
   ·intro e;exact⟨z,fz,rz.rd,e⟩
  show SeqAt.EqAt A.in1 s y v (decide _);rw[e];exact q
 ·rw[Kb];simp only[List.any_toArray,List.any_eq_true,decide_eq_true_iff];constructor
  ·rintro⟨u,hu',z,fz,rz,ez⟩;obtain⟨i,hi⟩:=List.mem_iff_getElem?.mp hu';obtain⟨z2,ez2,rz2⟩:=rl.get hi;have fz2:=Ib.mp fl z2 (Hz ez2);refine⟨z2,Hz ez2,?_⟩;rw[jP I 8 fz2 fz rz2.rd rz];exact ez
  ·rintro⟨z,hz,ez⟩;obtain⟨i,hi⟩:=List.mem_iff_getElem?.mp hz;have hlt:i<its.length:=by
    have:=(Hs.mp hi).1;rw[rl.length];exact this
   obtain⟨z2,ez2,rz2⟩:=rl.get (Hn hlt);rw[hi]at ez2;cases ez2;exact⟨_,IH hlt,z,Ib.mp fl z hz,rz2.rd,ez⟩
theorem qb(hu:X.A.units+64<cLine):OpR X (compareOp .NotIn) (CK X.K fun b=>!b):=by
 intro pins s σ H x y v u Q I rx ry h;obtain⟨d,p,l,us,fd,rd,rfl,fl,rl,hq,q⟩:=h;cases ry;rcases hq with hq | hq
 ·obtain⟨its,rv,pl,_⟩:=I.list hq;obtain⟨e,h1,h2⟩:=kB I (A:=X.A) (by omega) fd (rd.rd rx) fl ⟨us,rl,rv⟩;exact SeqAt.notIn_listAt e pl.isList h1 (by rw[h2];exact⟨.bl _,H,I,rfl,q⟩)
 ·obtain⟨its,rv,pl,_⟩:=I.tuple hq;obtain⟨e,h1,h2⟩:=kB I (A:=X.A) (by omega) fd (rd.rd rx) fl ⟨us,rl,rv⟩;exact SeqAt.notIn_tupleAt e pl h1 (by rw[h2];exact⟨.bl _,H,I,rfl,q⟩)
def DI(g:Bool->Bool):R2':=fun x y H Q=>cu x H fun d=>bX y H fun l=>flat 8 d=true/\l.all (flat 8)=true/\Q (.bl (g (l.any fun z=>deq z d))) H
theorem Dp{K:PySem.W.Frag}{g:Bool->Bool}:VR K B (DI g) (CK K g):=by
 intro σ' σ H' H x' y' x y Q' Q s rx ry h k;obtain⟨d1,r1,h1⟩:=cu.ex h s rx;obtain⟨l,us,p,rfl,r2,hq,f1,f2,q⟩:=bX.ex h1 s ry;exact⟨d1,p,l,us,f1,r1,rfl,f2,r2,hq,k _ H' _ H q (by simp[RP]) s (Ev.refl _ _)⟩
def qB(g:Bool->Bool):R2':=fun x y H Q=>match y,x with
 | .non,.non=>Q (.bl (g true)) H
 | .non,.oth _=>False
 | .non,_=>Q (.bl (g false)) H
 | _,_=>False
inductive BT where | non | bool | int | str | list | tuple
def BT.nm:BT->String | .non=>"NoneType" | .bool=>"bool" | .int=>"int" | .str=>"str" | .list=>"list" | .tuple=>"tuple"
def BT.sub:BT->BT->Bool
 | .non,.non=>true | .bool,.bool=>true | .int,.int=>true | .str,.str=>true | .list,.list=>true | .tuple,.tuple=>true
 | .bool,.int=>true
 | _,_=>false
def cP(x:PV)(H:PHp)(k:BT->Prop):Prop:=match x with
 | .non=>k .non
 | .bl _=>k .bool
 | .int _=>k .int
 | .str _=>k .str
 | .tup _=>k .tuple
 | .fls _=>k .list
 | .ref a=>∃l,H a=some (.lst l)/\k .list
 | _=>False
def FE(c:BT):List PV->PHp->VK'->Prop:=fun xs H Q=>match xs with
 | [x,.oth (.ty n)]=>n=c.nm/\cP x H fun t=>Q (.bl (t.sub c)) H
 | _=>False
variable {e o:Expr}{es:List Expr}{to:TE'}{t:TA'}{name:Str}{apos cpos:Pos}
def isL(x:PV)(H1:PHp):Prop:=match x with
 | .ref a=>∃l,H1 a=some (.lst l)
 | _=>False
def uBM(r:PV->List PV->PHp->VK'->Prop)(to:TE')(t:TA'):TE':=fun σ H Q=>to σ H fun x H1=>isL x H1/\t σ H1 fun xs H2=>r x xs H2 Q
def CA(r:PV->List PV->PHp->VK'->Prop)(to:TE'):TE':=fun σ H Q=>to σ H fun x H1=>r x [] H1 Q
def VM(K:PySem.W.Frag)(B:Bs)(r':PV->List PV->PHp->VK'->Prop)(r:V->List V->Hp->VK->Prop):Prop:=∀(σ':St') (σ:L2.St) (H':PHp) (H:Hp) x' xs' x xs (Q':VK') (Q:VK),SR K B σ' H' σ H->RP K H x' x->RPs K H xs' xs->r' x' xs' H' Q' ->
 (∀v' H1' v H1,Q' v' H1'->RP K H1 v' v->SR K B σ' H1' σ H1->Ev H' H H1' H1->Q v H1)->r x xs H Q
theorem BA{K:PySem.W.Frag}{r':PV->List PV->PHp->VK'->Prop}{r:V->List V->Hp->VK->Prop}(v:VM K B r' r){σ:L2.St}{H:Hp}{Q:VK}(h:low K B (uBM r' to t) σ H Q):tBM K "list" r (low K B to) (sk K B t) σ H Q:=by
 obtain⟨σ',H',Q',s,h,k⟩:=h;refine⟨σ',H',_,s,h,fun x' H1' x H1 h1 rx s1 e1=>?_⟩;obtain⟨ty,h1⟩:=h1;constructor
 ·cases x' with
  | ref a =>
   obtain⟨l,e⟩:=ty;obtain⟨us,q,_⟩:=s1.hp _ _ e;simp only[RP]at rx;subst rx;exact .inl ⟨rfl,us,SqL.of q⟩
  | _=>exact ty.elim
 ·refine⟨σ',H1',_,s1,h1,fun xs' H2' xs H2 h2 r2 s2 e2=>?_⟩;exact v σ' σ H2' H2 x' xs' x xs Q' Q s2 (RP.kp K (e2.kp s1.hp) rx) r2 h2 fun v' H3' v H3 q rv s3 e3=>k v' H3' v H3 q rv s3 (e1.trans (e2.trans e3))
theorem gm{id:String}{r':PV->List PV->PHp->VK'->Prop}{r:V->List V->Hp->VK->Prop}(slot:Slot "list" name id)(hty:typeOf (.builtin id)=pure (.type "method_descriptor"))(hm:MtR X id r)(v:VM X.K B r' r)(ho:PE' X B o to)(ha:PA' X B (e::es) t)
  (hbase:attributeBase o name X.env (eval o X.env)=eval o X.env:=by rfl)
  (hfew:((backTo cpos (starEach (e::es) X.env)).all (fun x=>!x.1)&&(backToKw cpos (keywordEach [] X.env)).all (fun x=>x.1.isSome)
   && decide ((e::es).length+([]:List Keyword).length+(if ([]:List Keyword).isEmpty then 0 else 1)<30))=true:=by rfl)
  (hline:(apos.endLine==cpos.line)=true:=by rfl) (hs:starEach (e::es) X.env=(false,eval e X.env)::starEach es X.env:=by rfl) (hplain:(backTo cpos (starEach es X.env)).any (·.1)=false:=by rfl) :
  PE' X B (.Call (.Attribute o name apos) (e::es) [] cpos) (uBM r' to t):=aF (Di PySem.F.plainAttrs_list slot hty hm ho ha hbase hfew hline hs hplain) fun _ _ _ h=>BA v h
theorem ka{id:String}{r':PV->List PV->PHp->VK'->Prop}{r:V->List V->Hp->VK->Prop}(slot:Slot "list" name id)(hty:typeOf (.builtin id)=pure (.type "method_descriptor"))(hm:MtR X id r)(v:VM X.K B r' r)
  (hl:∀x H Q,r' x [] H Q->match x with | .ref a=>∃l,H a=some (.lst l) | _=>False) (ho:PE' X B o to)
  (hbase:attributeBase o name X.env (eval o X.env)=eval o X.env:=by rfl) (hline:(apos.endLine==cpos.line)=true:=by rfl) :
  PE' X B (.Call (.Attribute o name apos) [] [] cpos) (CA r' to):=aF (yJ PySem.F.plainAttrs_list slot hty hm ho hbase hline) fun σ H Q h=>by
 obtain⟨σ',H',Q',s,h,k⟩:=h;refine⟨σ',H',_,s,h,fun x' H1' x H1 h1 rx s1 e1=>?_⟩;constructor
 ·have ty:=hl _ _ _ h1;cases x' with
  | ref a =>
   obtain⟨l,e⟩:=ty;obtain⟨us,q,_⟩:=s1.hp _ _ e;simp only[RP]at rx;subst rx;exact .inl ⟨rfl,us,SqL.of q⟩
  | _=>exact ty.elim
 ·exact v σ' σ H1' H1 x' [] x [] Q' Q s1 rx (RPs.nil _) h1 fun v' H3' v H3 q rv s3 e3=>k v' H3' v H3 q rv s3 (e1.trans e3)
def kq:PV->List PV->PHp->VK'->Prop:=fun x vs H Q=>match x,vs with
 | .ref a,[y]=>∃l,H a=some (.lst l)/\l.length<sizeLine/\Q .non (put H a (.lst (l++[y])))
 | _,_=>False
theorem cg{K:PySem.W.Frag}:VM K B kq oI:=by
 intro σ' σ H' H x' xs' x xs Q' Q s rx r h k;unfold kq at h;split at h
 ·rename_i a y;obtain⟨l,e,hl,h⟩:=h;obtain⟨us,q,r2⟩:=s.hp _ _ e;simp only[RP,RPs]at rx r;obtain⟨u,r1,rfl,ru,rfl⟩:=r;subst rx;exact⟨a,us,u,rfl,rfl,q,by rw[RPs.length _ r2];exact hl,k _ _ _ _ h (by simp[RP]) (s.wr e (wrL s.hp e (RPs.append _ r2 (RPs.cons _ ru (RPs.nil _))))) (Ev.wr e)⟩
 ·exact h.elim
def jC:PV->List PV->PHp->VK'->Prop:=fun x vs H Q=>match x,vs with
 | .ref a,[.ref b]=>∃l m,H a=some (.lst l)/\H b=some (.lst m)/\l.length+m.length≤sizeLine/\Q .non (put H a (.lst (l++m)))
 | _,_=>False
theorem pY{K:PySem.W.Frag}:VM K B jC nM:=by
 intro σ' σ H' H x' xs' x xs Q' Q s rx r h k;unfold jC at h;split at h
 ·rename_i a b;obtain⟨l,m,e,e2,hl,h⟩:=h;obtain⟨us,q,r2⟩:=s.hp _ _ e;obtain⟨ws,q2,r3⟩:=s.hp _ _ e2;simp only[RP,RPs]at rx r;obtain⟨u,r1,rfl,ru,rfl⟩:=r;subst rx;subst ru;exact⟨a,b,us,ws,rfl,rfl,q,q2,by rw[RPs.length _ r2,RPs.length _ r3];exact hl,k _ _ _ _ h (by simp[RP]) (s.wr e (wrL s.hp e (RPs.append _ r2 r3))) (Ev.wr e)⟩
 ·exact h.elim
def wB:PV->List PV->PHp->VK'->Prop:=fun x vs H Q=>match x,vs with
 | .ref a,[]=>∃l y,H a=some (.lst l)/\l[l.length - 1]?=some y/\Q y (put H a (.lst l.dropLast))
 | _,_=>False
theorem kr{K:PySem.W.Frag}:VM K B wB Cw:=by
 intro σ' σ H' H x' xs' x xs Q' Q s rx r h k;unfold wB at h;split at h
 ·rename_i a;obtain⟨l,y,e,hl,h⟩:=h;obtain⟨us,q,r2⟩:=s.hp _ _ e;simp only[RP,RPs]at rx r;subst rx;subst r;obtain⟨u,e1,e2⟩:=RPs.get _ r2 hl;exact⟨a,us,u,rfl,rfl,q,by rw[RPs.length _ r2];exact e1,k _ _ _ _ h (RP.kp _ (s.hp.kpw e) e2) (s.wr e (wrL s.hp e (RPs.dropLast _ r2))) (Ev.wr e)⟩
 ·exact h.elim
end
end
section
variable {B:Bs}
theorem pO(lo:Int)(n i:Nat)(h:i<n):(bG lo n).drop i=PV.int (lo+(i:Nat))::(bG lo n).drop (i+1):=by
 have hl:i<(bG lo n).length:=by simpa[bG]using h
 rw[Jr hl];simp[bG]
theorem rn(lo:Int)(n:Nat):(bG lo n).drop n=[]:=by
 apply List.drop_of_length_le;simp[bG]
theorem vm{ok:PHp->Prop}{g:TG'}{tb:TS'}{D:cF}{lo:Int}{n:Nat}(Pv:Nat->St'->PHp->Prop)(hd:∀σ H,Pv n σ H->ok H/\D.nx σ H)
  (hs:∀(G:St'->PHp->Prop) i σ H,i<n->Pv i σ H->(∀σ' H',Pv (i+1) σ' H'->G σ' H')->ok H/\g (.int (lo+(i:Nat))) σ H fun σ2 H2=>tb { D with nx:=G,ct:=G,bk:=D.nx } σ2 H2)
  {σ:St'} {H:PHp} (h0:Pv 0 σ H):cS ok g tb D (bG lo n) σ H:=by
 have key:∀(k i:Nat) {σ:St'} {H:PHp},i+k=n->Pv i σ H->cS ok g tb D ((bG lo n).drop i) σ H:=by
  intro k
  induction k with
  | zero =>
   intro i σ H hk p;have:i=n:=hk;subst this;rw[rn];exact hd σ H p
  | succ k ih =>
   intro i σ H hk p;have hi:i<n:=hk▸Nat.lt_add_of_pos_right (Nat.succ_pos k);rw[pO lo n i hi];exact hs _ i σ H hi p fun σ' H' p'=>ih (i+1) ((Nat.succ_add_eq_add_succ i k).trans hk) p'
 exact key n 0 (Nat.zero_add n) h0
theorem rL{ok:PHp->Prop}{g:TG'}{tb:TS'}{D:cF}{xs:List PV}(Pv:Nat->St'->PHp->Prop)(hd:∀σ H,Pv xs.length σ H->ok H/\D.nx σ H)
  (hs:∀(G:St'->PHp->Prop) i x σ H,xs[i]?=some x->Pv i σ H->(∀σ' H',Pv (i+1) σ' H'->G σ' H')->ok H/\g x σ H fun σ2 H2=>tb { D with nx:=G,ct:=G,bk:=D.nx } σ2 H2)
  {σ:St'} {H:PHp} (h0:Pv 0 σ H):cS ok g tb D xs σ H:=by
 have key:∀(k i:Nat) {σ:St'} {H:PHp},xs.length - i=k->i≤xs.length->Pv i σ H->cS ok g tb D (xs.drop i) σ H:=by
  intro k
  induction k with
  | zero =>
   intro i σ H hk hi p;have:i=xs.length:=by omega
   subst this;rw[List.drop_length];exact hd σ H p
  | succ k ih =>
   intro i σ H hk hi p;have hl:i<xs.length:=by omega
   rw[Jr hl];exact hs _ i _ σ H (Hn hl) p fun σ' H' p'=>ih (i+1) (by omega) (by omega) p'
 have:=key xs.length 0 (by omega) (by omega) h0;simpa using this
theorem ki{m:List Int}{z:Int}(h0:0≤z)(h1:z<m.length):atI (m.map PV.int) z=some (.int (m.getD z.toNat 0)):=by
 unfold atI ixN;rw[HP h0,Hm,HP h1];show(m.map PV.int)[z.toNat]?=_;rw[Ht,Hq];have:z.toNat<m.length:=by omega
 rw[Hn this];rfl
theorem w_V{v:PV}{k:PV->Prop}:lM (some (some v)) k=k v:=rfl
theorem w_B{b:Bool}{k:Bool->Prop}:d9 (.bl b) k=k b:=rfl
theorem w_I{b:Int}{k:Int->Prop}:bE (.int b) k=k b:=rfl
theorem w_O{b:PV}{k:PV->Prop}:jh (some b) k=k b:=rfl
theorem Gm{l:List PV}{H:PHp}{k:List PV->Prop}:bX (.tup l) H k=k l:=rfl
theorem FD{l:List PV}{H:PHp}{k:List PV->Prop}:bX (.fls l) H k=k l:=rfl
theorem Fo{a:Addr}{H:PHp}{k:List PV->Prop}:bX (.ref a) H k=∃l,H a=some (.lst l)/\k l:=rfl
theorem FT{a:Addr}{H:PHp}{k:PV->Prop}:cu (.ref a) H k=∃l,H a=some (.lst l)/\k (.fls l):=rfl
theorem GU{H:PHp}{k:PV->Prop}:cu .non H k=k .non:=rfl
theorem Fe{b:Bool}{H:PHp}{k:PV->Prop}:cu (.bl b) H k=k (.bl b):=rfl
theorem GV{b:Int}{H:PHp}{k:PV->Prop}:cu (.int b) H k=k (.int b):=rfl
theorem Fz{b:Str}{H:PHp}{k:PV->Prop}:cu (.str b) H k=k (.str b):=rfl
theorem FX{b:List PV}{H:PHp}{k:PV->Prop}:cu (.tup b) H k=k (.tup b):=rfl
theorem Fc{b:List PV}{H:PHp}{k:PV->Prop}:cu (.fls b) H k=k (.fls b):=rfl
theorem Gg{H:PHp}{k:BT->Prop}:cP .non H k=k .non:=rfl
theorem FG{b:Bool}{H:PHp}{k:BT->Prop}:cP (.bl b) H k=k .bool:=rfl
theorem GF{b:Int}{H:PHp}{k:BT->Prop}:cP (.int b) H k=k .int:=rfl
theorem F8{b:Str}{H:PHp}{k:BT->Prop}:cP (.str b) H k=k .str:=rfl
theorem G4{b:List PV}{H:PHp}{k:BT->Prop}:cP (.tup b) H k=k .tuple:=rfl
theorem G2{b:List PV}{H:PHp}{k:BT->Prop}:cP (.fls b) H k=k .list:=rfl
theorem Gq{a:Addr}{H:PHp}{k:BT->Prop}:cP (.ref a) H k=∃l,H a=some (.lst l)/\k .list:=rfl
theorem ES{b:Int}{k:Int->Prop}:intOf (.int b) k=k b:=rfl
theorem Gz{b:Bool}{k:Int->Prop}:intOf (.bl b) k=k (b2n b):=rfl
theorem Gv{l:List PV}{lo hi:Option Int}{H:PHp}{Q:VK'}:sliceOf (.fls l) lo hi H Q=∀p,H p=none->Q (.ref p) (put H p (.lst (cT l lo hi))):=rfl
theorem GL{a:Addr}{lo hi:Option Int}{H:PHp}{Q:VK'}:sliceOf (.ref a) lo hi H Q=∃l,H a=some (.lst l)/\∀p,H p=none->Q (.ref p) (put H p (.lst (cT l lo hi))):=rfl
theorem EZ{l:List PV}{lo hi:Option Int}{H:PHp}{Q:VK'}:sliceOf (.tup l) lo hi H Q=(¬(HT.sIx l.length 0 lo=0/\HT.sIx l.length l.length hi=l.length)/\Q (.tup (cT l lo hi)) H):=rfl
theorem Fn{l:List PV}{H:PHp}{R:It'->PHp->Prop}:vQ (.tup l) H R=R ⟨l,fun _=>True⟩ H:=rfl
theorem FW{l:List PV}{H:PHp}{R:It'->PHp->Prop}:vQ (.fls l) H R=R ⟨l,fun _=>True⟩ H:=rfl
theorem Gs{a:Addr}{H:PHp}{R:It'->PHp->Prop}:vQ (.ref a) H R=∃l,H a=some (.lst l)/\R ⟨l,fun H=>H a=some (.lst l)⟩ H:=rfl
theorem w_1{f:PV->PHp->VK'->Prop}{x:PV}{H:PHp}{Q:VK'}:bQ f [x] H Q=f x H Q:=rfl
theorem Du{c:BT}{x:PV}{n:String}{H:PHp}{Q:VK'}:FE c [x,.oth (.ty n)] H Q=(n=c.nm/\cP x H fun t=>Q (.bl (t.sub c)) H):=rfl
theorem E4{g:Bool->Bool}{H:PHp}{Q:VK'}:qB g .non .non H Q=Q (.bl (g true)) H:=rfl
theorem GI{g:Bool->Bool}{a:Addr}{H:PHp}{Q:VK'}:qB g (.ref a) .non H Q=Q (.bl (g false)) H:=rfl
theorem Fu{g:Bool->Bool}{l:List PV}{H:PHp}{Q:VK'}:qB g (.tup l) .non H Q=Q (.bl (g false)) H:=rfl
theorem Gj{g:Bool->Bool}{l:Int}{H:PHp}{Q:VK'}:qB g (.int l) .non H Q=Q (.bl (g false)) H:=rfl
theorem E9{g:Bool->Bool}{l:Bool}{H:PHp}{Q:VK'}:qB g (.bl l) .non H Q=Q (.bl (g false)) H:=rfl
theorem G5{n:Nat}{t:iR}{l:List PV}{σ:St'}{H:PHp}{Q:St'->PHp->Prop}:tf n t (.tup l) σ H Q=(l.length=n/\t l σ H Q):=rfl
theorem Fl{t:TG'}{u:iR}{v:PV}{r:List PV}{σ:St'}{H:PHp}{Q:St'->PHp->Prop}:jm t u (v::r) σ H Q=t v σ H fun σ' H'=>u r σ' H' Q:=rfl
theorem FI{σ:St'}{H:PHp}{Q:St'->PHp->Prop}:vH [] σ H Q=(True/\Q σ H):=by simp[vH]
theorem Fi{t:TA'}{σ:St'}{H:PHp}{R:It'->PHp->Prop}:xZ t σ H R=t σ H fun vs H1=>uU vs H1 R:=rfl
theorem Dl{j:Int}{H1:PHp}{R:It'->PHp->Prop}:uU [.int j] H1 R=((-(2 ^ 62)≤j/\j<2 ^ 62)/\R ⟨bG 0 j.toNat,fun _=>True⟩ H1):=rfl
theorem FY{t:TA'}{σ:St'}{H:PHp}{R:It'->PHp->Prop}:Cz t σ H R=t σ H fun vs H1=>BR vs H1 R:=rfl
theorem B7{i j:Int}{H1:PHp}{R:It'->PHp->Prop}:BR [.int i,.int j] H1 R=((-(2 ^ 62)≤i/\i<2 ^ 62/\-(2 ^ 62)≤j/\j<2 ^ 62)/\R ⟨bG i (j - i).toNat,fun _=>True⟩ H1):=rfl
theorem Hc{a:Addr}{y:PV}{H:PHp}{Q:VK'}:kq (.ref a) [y] H Q=∃l,H a=some (.lst l)/\l.length<sizeLine/\Q .non (put H a (.lst (l++[y]))):=rfl
theorem Gh{a b:Addr}{H:PHp}{Q:VK'}:jC (.ref a) [.ref b] H Q=∃l m,H a=some (.lst l)/\H b=some (.lst m)/\l.length+m.length≤sizeLine/\Q .non (put H a (.lst (l++m))):=rfl
theorem GB{a:Addr}{H:PHp}{Q:VK'}:wB (.ref a) [] H Q=∃l y,H a=some (.lst l)/\l[l.length - 1]?=some y/\Q y (put H a (.lst l.dropLast)):=rfl
theorem He{r:PV->List PV->PHp->VK'->Prop}{to:TE'}{t:TA'}{σ:St'}{H:PHp}{Q:VK'}:uBM r to t σ H Q=to σ H fun x H1=>isL x H1/\t σ H1 fun xs H2=>r x xs H2 Q:=rfl
theorem FN{a:Addr}{H:PHp}:isL (.ref a) H=∃l,H a=some (.lst l):=rfl
theorem ak{n:Nat}(h:n≤1000):n≤sizeLine:=Nat.le_of_lt (aW h)
end
section
theorem aj{t u:TS'}{D:cF}{σ:St'}{H:PHp}(h:∀R:TS',R=u->wF t R D σ H):wF t u D σ H:=h u rfl
end
section
variable {B:Bs}
section
variable {X:Cx}{pins:List (Addr×Obj)}{σ:L2.St}{H H':Hp}{s:Shared}{h':Heap}{a C T:Addr}{fl:Value}
variable {M:Model}{E:Value->Shared->Prop}{Q:Unit->Shared->Prop}
end
end
end U
namespace U
open L2 PySem.W
section
variable {prog:Program}{w:World}{A:Around}{E:Value->Shared->Prop}{h:Heap}{g:Array GenState}{d:Drawn}{t:Nat}{os:OsState}{a C:Addr}{o:Obj}{K:Frag}
end
end U
namespace U
open L2
section
variable {B:Bs}
section
variable {P:Program}{w:World}{K:PySem.W.Frag}{mg:Str->Option Value}{base:Heap}
end
section
variable {X:Cx}{k:Nat}{f C D:Addr}{fd:FuncData}{ps:List Str}{sp:Sp'}{E:XK}{E':XK'}{x m n:Str}{p np pos apos cpos:Pos}{e o:Expr}{es:List Expr}{ta:TE'}{t:TA'}
end
end
section
variable {B:Bs}
section
variable {X:Cx}{pins:List (Addr×Obj)}{σ:L2.St}{H:Hp}{s:Shared}{a C T:Addr}{fl:Value}
abbrev mk(X:Cx)(e:Value):Cx:={ X with A:=X.A.mark (some e),calm:=false,xe:=fun _ _=>False }
end
end
section
variable {B:Bs}
section
variable {X:Cx}{k:Nat}{f C D:Addr}{fd:FuncData}{ps:List Str}{sp:Sp'}{x m n:Str}{p np pos apos cpos:Pos}{e o:Expr}{es:List Expr}{ta:TE'}{t:TA'}
end
end
section
def pr(p:Str×Bool):PV:=.tup [.str p.1,.bl p.2]
def told(xs:List (Str×Bool)):List PV:=(xs.filter (·.2)).map fun p=>PV.str p.1
end
section
def pairs:List (Str×TE')->List Bool->List PV
 |(n,_)::r,b::bs=>.tup [.str n,.bl b]::pairs r bs
 | _,_=>[]
end
end U
namespace U
theorem len0{P:List Value->Prop}(h:P [])(us:List Value)(hl:us.length=0):P us:=by
 cases us with
 | nil=>exact h
 | cons a r=>exact absurd hl (J4 _)
theorem Eh{P:List Value->Prop}(h:∀a,P [a])(us:List Value)(hl:us.length=1):P us:=by
 cases us with
 | nil=>exact absurd hl.symm (J4 _)
 | cons a r=>exact len0 (P:=fun r=>P (a::r)) (h a) r (J1 hl)
theorem CN{P:List Value->Prop}(h:∀a b,P [a,b])(us:List Value)(hl:us.length=2):P us:=by
 cases us with
 | nil=>exact absurd hl.symm (J4 _)
 | cons a r=>exact Eh (P:=fun r=>P (a::r)) (h a) r (J1 hl)
theorem Dd{P:List Value->Prop}(h:∀a b c,P [a,b,c])(us:List Value)(hl:us.length=3):P us:=by
 cases us with
 | nil=>exact absurd hl.symm (J4 _)
 | cons a r=>exact CN (P:=fun r=>P (a::r)) (h a) r (J1 hl)
theorem CV{P:List Value->Prop}(h:∀a b c d,P [a,b,c,d])(us:List Value)(hl:us.length=4):P us:=by
 cases us with
 | nil=>exact absurd hl.symm (J4 _)
 | cons a r=>exact Dd (P:=fun r=>P (a::r)) (h a) r (J1 hl)
end U
namespace U
open L2
variable {B:Bs}{X:Cx}
end U
namespace L2
section
def bK(X:Cx)(N2:List Str)(scope:Scope)(cl:List (Str×Addr))(s0:Shared)(H0:Hp)(fp:List Addr)(ps:List (Addr×Obj)):Cx :=
 { X with N:=N2,s₀:=s0,H₀:=H0,env:=compEnvC scope cl s0.heap.objs.size X.env,outer:=X.stack,stack:=X.stack,ex:=fp,fn:=fun x=>(cl.lookup x).isNone,pn:=ps,xe:=fun _ _=>False }
def lq(nt:Nat)(js:List Nat)(σ:St):St:=List.replicate nt none++js.map fun j=>(σ[j]?).join
theorem bY{env:Env}:∀{names:List (Str×NameKind)} {x:Str},names.lookup x=some .free ->
  (names.map fun(n,k)=>if (k==NameKind.free&&env.scope.kind==.function&&env.kindOf n==some .cell)then(n,NameKind.cell)else(n,k)).lookup x=some .cell ∨
  (names.map fun(n,k)=>if (k==NameKind.free&&env.scope.kind==.function&&env.kindOf n==some .cell)then(n,NameKind.cell)else(n,k)).lookup x=some .free
 | [],_,h=>by simp at h
 |(n,k)::r,x,h=>by
  have ih:=@bY env r x;show List.lookup x ((if (k==NameKind.free&&env.scope.kind==.function&&env.kindOf n==some .cell)=true then(n,NameKind.cell)else(n,k))::_)=_∨List.lookup x ((if (k==NameKind.free&&env.scope.kind==.function&&env.kindOf n==some .cell)=true then(n,NameKind.cell)else(n,k))::_)=_;cases hx:x==n with
  | true =>
   simp only[IQ,hx]at h;cases h;by_cases hc:(NameKind.free==NameKind.free&&env.scope.kind==.function&&env.kindOf n==some .cell)=true
   ·rw[HP hc];simp[IQ,hx]
   ·rw[HM hc];simp[IQ,hx]
  | false =>
   simp only[IQ,hx]at h;by_cases hc:(k==NameKind.free&&env.scope.kind==.function&&env.kindOf n==some .cell)=true
   ·rw[HP hc];simp only[IQ,hx];exact ih h
   ·rw[HM hc];simp only[IQ,hx];exact ih h
structure bz (X:Cx) (N2:List Str) (nt:Nat) (js:List Nat) (scope:Scope) (cl:List (Str × Addr)) (sc:Scope):Prop where
 clos:closureFor scope X.env=pure cl
 sub:∀x c,cl.lookup x=some c->X.env.cells.lookup x=some c
 xsc:X.env.scope=sc
 kind:scope.kind=.function
 nocell:∀y∈scope.names,y.2≠.cell
 loc:∀y∈scope.names,y.2=.local->scope.names.lookup y.1=some .local
 has:∀y∈scope.names,y.2=.free->y.1∈cl.map (·.1)
 frs:∀x∈N2.drop nt,scope.names.lookup x=some .free/\sc.names.lookup x=some .cell
 len:N2.length=nt+js.length
 pl:∀(k j:Nat),js[k]?=some j->X.N[j]?=N2[nt+k]?
theorem mem_lookup{α:Type}:∀{l:List (Str×α)} {x:Str},x∈l.map (·.1)->∃c,l.lookup x=some c
 | [],_,h=>by simp at h
 |(n,k)::r,x,h=>by
  cases hx:x==n with
  | true=>exact⟨k,by simp[IQ,hx]⟩
  | false =>
   have h':x=n∨x∈r.map (·.1):=by simpa using h
   have hn:x≠n:=by intro e;subst e;simp at hx
   obtain⟨c,e⟩:=mem_lookup (h'.resolve_left hn);exact⟨c,by simp[IQ,hx,e]⟩
theorem lookup_mem{α:Type}:∀{l:List (Str×α)} {x:Str} {c:α},l.lookup x=some c->(x,c)∈l
 | [],_,_,h=>by simp at h
 |(n,k)::r,x,c,h=>by
  cases hx:x==n with
  | true =>
   simp only[IQ,hx]at h;have e:x=n:=by simpa using hx
   cases h;subst e;exact HL
  | false =>
   simp only[IQ,hx]at h;exact HH _ (lookup_mem h)
section
variable {X:Cx}{pins:List (Addr×Obj)}{σ:St}{H:Hp}{s:Shared}{N2:List Str}{nt:Nat}{js:List Nat}{scope sc:Scope}{cl:List (Str×Addr)}{fp:List Addr}
theorem bz.kindOf(O:bz X N2 nt js scope cl sc){x:Str}{C:Addr}(h:(compEnvC scope cl C X.env).kindOf x=some .cell∨(compEnvC scope cl C X.env).kindOf x=some .free):∃c,cl.lookup x=some c:=by
 have h':(relabel scope X.env).names.lookup x=some .cell∨(relabel scope X.env).names.lookup x=some .free:=h;have key:∀(k:NameKind),(relabel scope X.env).names.lookup x=some k->(k=.cell∨k=.free)->∃y∈scope.names,y.1=x/\(y.2=.cell∨y.2=.free):=fun k e hk=>by
  have m:=lookup_mem e;obtain⟨⟨n,k'⟩,hm,e'⟩:=Hw.mp m;by_cases hc:(k'==NameKind.free&&X.env.scope.kind==.function&&X.env.kindOf n==some .cell)=true
  ·simp only[hc,Kg]at e';have e1:n=x:=congrArg Prod.fst e';refine⟨(n,k'),hm,e1,.inr ?_⟩;rw[IP,IP]at hc;exact beq_iff_eq.mp hc.1.1
  ·have e'':(n,k')=(x,k):=by
    dsimp only at e';rw[HM hc]at e';exact e'
   cases e'';exact⟨(x,k),hm,rfl,hk⟩
 obtain⟨y,hy,rfl,hk⟩:=h'.elim (fun e=>key _ e (.inl rfl)) fun e=>key _ e (.inr rfl);rcases hk with hk | hk
 ·exact absurd hk (O.nocell y hy)
 ·exact mem_lookup (O.has y hy hk)
theorem pZ(O:bz X N2 nt js scope cl sc)(I:Inv X pins σ H s)(hf:∀b∈fp,dB X pins H b)(hlt:∀b∈fp,b<s.heap.objs.size):(bK X N2 scope cl s H fp (X.pn++pins)).Ok where
 mod:=I.ok.mod
 kind:=O.kind
 glob:=I.ok.glob
 blt:=I.ok.blt
 above:=Hr _
 inj:=fun x y c h1 h2=>I.ok.inj x y c (O.sub x c h1) (O.sub y c h2)
 has:=fun x h=>O.kindOf h
 cab:=fun x c h1 h2=>by
  have h1':(cl.lookup x).isNone=true:=h1;have h2':cl.lookup x=some c:=h2;rw[h2']at h1';cases h1'
 hd:=I.ok.hd
 frames:=I.ok.frames
 stk:=.inl rfl
 exf:=fun b hb=>⟨HQ (hlt b hb),fun x c e=>(hf b hb).2.2.2.2.1 x c (O.sub x c e)⟩
 bs:=I.bs
 bsz:=HZ I.ok.bsz I.sz
 noex:=fun b o e hb=>by
  obtain⟨_,_,_,h3,_⟩:=hf b hb;rcases h3 with h3 | h3
  ·exact I.ok.noex b o e h3
  ·exact absurd (Ic (Hu (I.ok.bs b o e).1) h3) (J3 _)
 exfs:=fun b hb hs=>by
  obtain⟨_,h1,h2,_⟩:=hf b hb;rcases Hy.mp (I.stkSub b hs)with e | e
  ·exact h1 e
  ·exact h2 e
 funs:=I.stack
 frf:=I.stkFree
theorem m3(O:bz X N2 nt js scope cl sc)(I:Inv X pins σ H s)(hf:∀b∈fp,dB X pins H b)(hlt:∀b∈fp,b<s.heap.objs.size){h4:Heap}{t4:Nat}(hn:h4.Ns s.heap.objs.size fun _=>none)
  (hk:∀b o,s.heap.get? b=some o->h4.get? b=some o):Inv (bK X N2 scope cl s H fp (X.pn++pins)) [] (lq nt js σ) H { s with heap:=h4,toks:=t4 }:=by
 refine⟨pZ O I hf hlt,rfl,I.bare,Un.kept hk,⟨_,hn,fun i x v e1 e2 e3=>?_⟩,fun x c e=>?_,I.hok.fresh (Hr _),fun x c e=>I.freeC x c (O.sub x c e),fun p hp=>?_,I.hok.kept hk,?_⟩
 ·unfold lq at e2;by_cases hi:i<nt
  ·rw[Jg (by simpa using hi),Jy]at e2;split at e2<;>cases e2
  ·obtain⟨k,rfl⟩:∃k,i=nt+k:=⟨i - nt,by omega⟩;rw[JC (by simp),IX,Nat.add_sub_cancel_left,Ht]at e2;cases ej:js[k]? with
   | none=>rw[ej]at e2;cases e2
   | some j =>
    rw[ej]at e2;have e2':(σ[j]?).join=some v:=Im e2;have eσ:σ[j]?=some (some v):=by
     cases q:σ[j]? with
     | none=>rw[q]at e2';cases e2'
     | some o=>rw[q]at e2';exact congrArg some e2'
    have eN:X.N[j]?=some x:=(O.pl k j ej).trans e1;have hx:x∈N2.drop nt:=by
     have:(N2.drop nt)[k]?=some x:=by rw[List.getElem?_drop];exact e1
     exact Hz this
    obtain⟨f1,f2⟩:=O.frs x hx;have vis:Vis X.env.scope x:=.inr (.inl (by rw[O.xsc];exact f2));obtain⟨m,hnX,hl⟩:=I.loc;obtain⟨u,r,l⟩:=hl j x v eN eσ vis;refine⟨u,r,.inr ⟨?_,?_⟩⟩
    ·exact bY f1
    ·rcases l with⟨k1,_⟩ |⟨_,c,ec,ic⟩
     ·have k2:sc.names.lookup x=some .local:=by rw[←O.xsc];exact k1
      rw[f2]at k2;cases k2
     ·obtain⟨c',ec'⟩:=mem_lookup (O.has (x,.free) (lookup_mem f1) rfl);have:=O.sub x c' ec';rw[ec]at this;cases this;obtain⟨o,ho,hd⟩:=ic;exact⟨c,ec',o,hk _ _ ho,hd⟩
 ·obtain⟨v,o,ho,hd⟩:=I.cell x c (O.sub x c e);exact⟨v,o,hk _ _ ho,hd⟩
 ·have hp':p∈X.pn++pins:=by
   have hp2:p∈(X.pn++pins)++[]:=hp
   rwa [IF]at hp2
  obtain⟨e,n,ne,nf,d⟩:=I.pin p hp';refine⟨hk _ _ e,n,HQ (Hu e),fun hb=>?_,d⟩;rcases Hy.mp (I.stkSub p.1 hb)with z | z
  ·exact ne z
  ·exact nf z
 ·unfold lq;show _=N2.length;rw[HN,IX,Hm,O.len]
theorem sZ{σ':St}(I:Inv X pins σ H s)(hf:∀b∈fp,dB X pins H b)(J:Inv (bK X N2 scope cl s H fp (X.pn++pins)) pl σ' H' s'):Inv X pins σ H' s' :=
 I.call' (ch:=fp) J.os J.base J.hok J.bare fun b hb=>by
  obtain⟨h0,h1,h2,h3,h4,h5⟩:=hf b hb;exact⟨h3,h1,h4,h5⟩
end
end
section
def PIf(Y:Cx)(ifs:List Expr)(t:TT):Prop :=
 ∀(pins:List (Addr×Obj)) (s:Shared) (σ:St) (H:Hp) (Q:Bool->Hp->Prop),Inv Y pins σ H s->t σ H Q ->
  wpAny (model Y.prog Y.w) Y.A (forIn ifs true fun c r=>if r=true then do let ok←isTrue c Y.env (eval c Y.env);pure (ForInStep.yield ok)else pure (ForInStep.yield r)) (TP Y pins σ Q) Y.xe s
def G0:TT:=fun _ H Q=>Q true H
theorem vc:PIf Y [] G0:=fun _ _ _ H _ I h=>wpAny_tests_nil ⟨H,I,h⟩
theorem wD(h:PT Y c t):PIf Y [c] t:=fun pins s σ H Q I hw=>wpAny_tests_one (h pins s σ H Q I hw)
def yj(acc:Addr)(J:It)(g:TG)(tt:TT)(te:TE)(W:Nat->Nat->L2.St->Hp->Prop)(i m:Nat)(σ0:L2.St)(H:Hp):Prop :=
 J.go i H/\∀x H',J.yld i H x H'->g x σ0 H' fun σ3 H2=>tt σ3 H2 fun b H3 =>
  if b=true then te σ3 H3 fun y H4=>∃ys,H4 acc=some (.lst ys)/\ys.length<sizeLine/\∃m',m'<m/\W (i+1) m' σ3 (upd H4 acc (.lst (ys++[y])))
  else ∃m',m'<m/\W (i+1) m' σ3 H3
def tT(nt:Nat)(js:List Nat)(wi:TI)(g:TG)(tt:TT)(te:TE):TE:=fun σ H Q=>wi σ H fun J H1=>∀acc,H1 acc=none ->
 ∃W:Nat->Nat->L2.St->Hp->Prop,(∃m,W 0 m (lq nt js σ) (upd H1 acc (.lst [])))/\∀i m σ0 H,W i m σ0 H->(J.stop i H/\Q (.ref acc) H)∨yj acc J g tt te W i m σ0 H
structure tX (Y:Cx) (tg:Expr) (ifs:List Expr) (elt:Expr) (g:TG) (tt:TT) (te:TE):Prop where
 tgt:PG Y tg g
 tst:PIf Y ifs tt
 elt:PE Y elt te
theorem jE(I:Nat->Shared->Prop)
  (turn:∀n s,I n s->wpAny (model prog w) A (pyNext it) (fun r s₁=>match r with
   | none=>R (.ok .next) s₁
   | some v=>wpAny (model prog w) A (letOwnedTupleGo target it v) (fun _ s₀=>wpAny (model prog w) A (assign target env v) (fun _ s₂ =>
     wpAny (model prog w) A (forIn ifs true fun c r=>if r=true then do let ok←isTrue c env (eval c env);pure (ForInStep.yield ok)else pure (ForInStep.yield r)) (fun ok s₃ =>
      if ok=true then wpAny (model prog w) A (eval elt env) (fun x s₄ =>
       wpAny (model prog w) A (call (.builtin "list.append") [acc,x]) (fun _ s₅=>∃m,m<n/\I m s₅) (fun _ _=>False) s₄) (fun _ _=>False) s₃
      else ∃m,m<n/\I m s₃) (fun _ _=>False) s₂) (fun _ _=>False) s₀) (fun _ _=>False) s₁) (fun _ _=>False) s)
  (n:Nat) (h:I n s) :
  codeAny (model prog w) A (.compLoop (.ListComp elt [⟨target,iter,ifs,0⟩] scope pos) 0 it acc env) R s:=by
 refine codeAny_loop rfl I (fun n s hI=>?_) n h;show wpAny _ A ((compTurn (.ListComp elt [⟨target,iter,ifs,0⟩] scope pos) 0 it acc env).onRaise (fun x=>do noteFrame x env;theTreesLotGoes x)) _ _ s;refine wpAny_noted ?_;rw[compTurn_list];refine Hk (wpAny_standAt (Hk (JV (turn n s hI) (fun r s₁ h₁=>?_) fun _ _ h'=>h'.elim)));cases r with
 | none=>exact Hl h₁
 | some v =>
  refine Hk (JV h₁ (fun _ s₀ h₀=>?_) fun _ _ h'=>h'.elim);refine Hk (JV h₀ (fun _ s₂ h₂=>Hk (JV h₂ (fun ok s₃ h₃=>?_) fun _ _ h'=>h'.elim)) fun _ _ h'=>h'.elim);cases ok with
  | false=>exact Hl ⟨rfl,h₃⟩
  | true =>
   exact Hk (Hk (JV h₃ (fun x s₄ h₄=>Hk (JV h₄ (fun _ s₅ h₅=>Hl (Hl ⟨rfl,h₅⟩)) fun _ _ h'=>h'.elim)) fun _ _ h'=>h'.elim))
section
variable {X:Cx}{pins:List (Addr×Obj)}{σ:St}{H:Hp}{s:Shared}{N2:List Str}{nt:Nat}{js:List Nat}{scope sc:Scope}{cl:List (Str×Addr)}{fp:List Addr}{elt iter tg:Expr}{ifs:List Expr}{pos:Pos}
 {wi:TI} {g:TG} {tt:TT} {te:TE}
theorem lG(O:bz X N2 nt js scope cl sc)(hc:X.calm=true)(B:∀(s0:Shared) (H0:Hp) (fp:List Addr) (ps:List (Addr×Obj)),tX (bK X N2 scope cl s0 H0 fp ps) tg ifs elt g tt te)
  {it:Addr} {tn:Nat->Heap->Prop} {J:It} {E:Value->Shared->Prop} {Q:VK} {RR:Value->Addr->Result->Shared->Prop}
  (I:Inv X pins σ H s) (T:Turn X.prog X.w X.K tg J fp it tn) (st:tn 0 s.heap) (hf:∀b∈fp,dB X pins H b)
  (h:∀acc,H acc=none->∃W:Nat->Nat->L2.St->Hp->Prop,(∃m,W 0 m (lq nt js σ) (upd H acc (.lst [])))/\∀i m σ0 H,W i m σ0 H->(J.stop i H/\Q (.ref acc) H)∨yj acc J g tt te W i m σ0 H)
  (hRR:∀(acc C:Addr) (s':Shared) (H':Hp) (m:Str->Option Value),s'.heap.Ns C m->Inv X pins σ H' s'->H' C=none->C≠X.env.locals->X.s₀.heap.objs.size≤C->(∀x c,X.env.cells.lookup x=some c->c≠C)->(∀p∈X.pn++pins,p.1≠C)->Q (.ref acc) H'->RR (.ref acc) C (.ok .next) s') :
  wpAny (model X.prog X.w) X.A (newList []) (fun acc s₃=>wpAny (model X.prog X.w) X.A (newFunctionEnv scope X.env.globals cl [] X.env.qual none .none (some X.env)) (fun cenv s₄ =>
   codeAny (model X.prog X.w) X.A (.compStart (.ListComp elt [⟨tg,iter,ifs,0⟩] scope pos) 0 (.ref it) acc { cenv with scope:=relabel scope X.env }) (RR acc cenv.locals) s₄) E s₃) E s:=by
 have hlt:∀b∈fp,b<s.heap.objs.size:=fun b hb=>by
  obtain⟨o,e,_⟩:=T.obj _ _ st b hb;exact Hu e
 have hnA:H s.heap.objs.size=none:=I.hok.fresh (Hr _);obtain⟨W,⟨m0,w0⟩,turn⟩:=h s.heap.objs.size hnA;refine Io (wpAny_newFunctionEnv O.nocell (by intro y hy;simp at hy) (fun h₁ hns₁ hsb₁=>?_) O.kind);dsimp only at hns₁ hsb₁ ⊢;have I3:Inv X pins σ (upd H s.heap.objs.size (.lst [])) { s with heap:=s.heap.push { cls:=.type "list",dict:=none,data:=.seq ([]:List Value).toArray } } :=
  I.laid (t':=s.toks) (fun b u e=>Ho _ e) (Hr _) ⟨by show 0≤sizeLine;exact JG _,[],0,.nil,Hv _ rfl⟩
 generalize hs3:({ s with heap:=s.heap.push { cls:=.type "list",dict:=none,data:=.seq ([]:List Value).toArray } }:Shared)=s3 at I3;have e3:s3.heap=s.heap.push { cls:=.type "list",dict:=none,data:=.seq ([]:List Value).toArray }:=by rw[←hs3]
 rw[←e3]at hns₁ hsb₁ ⊢;have et:s3.toks=s.toks:=by rw[←hs3]
 have hf3:∀b∈fp,dB X pins (upd H s.heap.objs.size (.lst [])) b:=fun b hb=>by
  obtain⟨f0,f⟩:=hf b hb;exact⟨by rw[ay (HQ (hlt b hb))];exact f0,f⟩
 have hlt3:∀b∈fp,b<s3.heap.objs.size:=fun b hb=>by rw[e3,Ji];exact JR (hlt b hb)
 have hk4:∀b o,s3.heap.get? b=some o->h₁.get? b=some o:=fun b o e=>hsb₁.extBut b o (HQ (Hu e)) (Ho _ e);have hns':h₁.Ns s3.heap.objs.size fun _=>none:=hns₁;have I4:=m3 (t4:=s3.toks+([]:List (Str×Value)).length) O I3 hf3 hlt3 hns' hk4;have st4:tn 0 h₁:=T.keep _ _ _ st fun b hb o e=>hk4 b o (by rw[e3];exact Ho _ e);have B4:=B s3 (upd H s.heap.objs.size (.lst [])) fp (X.pn++pins);generalize hY:bK X N2 scope cl s3 (upd H s.heap.objs.size (.lst [])) fp (X.pn++pins)=Y at I4 B4;have yP:Y.prog=X.prog:=by rw[←hY];rfl
 have yw:Y.w=X.w:=by rw[←hY];rfl
 have yK:Y.K=X.K:=by rw[←hY];rfl
 have yA:Y.A=X.A:=by rw[←hY];rfl
 have yc:Y.calm=true:=by rw[←hY];exact hc
 have yx:Y.xe=fun _ _=>False:=by rw[←hY];rfl
 have ye:Y.env=compEnvC scope cl s3.heap.objs.size X.env:=by rw[←hY];rfl
 have fpY:∀{H':Hp},(∀b∈fp,H' b=none)->∀b∈fp,dB Y [] H' b:=fun hn b hb=>by
  obtain⟨f0,f1,f2,f3,f4,f5⟩:=hf3 b hb;rw[←hY];refine⟨hn b hb,HQ (hlt3 b hb),fun hs=>?_,.inl hb,fun x c e=>f4 x c (O.sub x c e),fun p hp=>?_⟩
  ·rcases Hy.mp (I3.stkSub b hs)with e | e
   ·exact f1 e
   ·exact f2 e
  ·have hp2:p∈(X.pn++pins)++[]:=hp;rw[IF]at hp2;exact f5 p hp2
 have fin:∀{σ':St} {H':Hp} {s':Shared} {pl:List (Addr×Obj)},Inv Y pl σ' H' s'->Q (.ref s.heap.objs.size) H'->RR (.ref s.heap.objs.size) s3.heap.objs.size (.ok .next) s':=fun {σ' H' s' pl} I' q=>by
  have J':Inv X pins σ H' s':=sZ I3 hf3 (hY▸I');obtain⟨m,hn,_⟩:=I'.loc;have hfr:=I'.free;rw[ye]at hn hfr;refine hRR _ _ s' H' m hn J' hfr (Jp I3.lt) I3.sz (fun x c e z=>?_) (fun p hp z=>?_) q
  ·obtain⟨v,q⟩:=I3.cell x c e;exact absurd (Ic q.lt (by rw[z];exact Hr _)) (J3 _)
  ·exact absurd (Ic (Hu (I3.pin p hp).1) (by rw[z];exact Hr _)) (J3 _)
 have loop:∀s4:Shared,s4={ s3 with heap:=h₁,toks:=s3.toks+([]:List (Str×Value)).length } ->
   codeAny (model X.prog X.w) X.A (.compLoop (.ListComp elt [⟨tg,iter,ifs,0⟩] scope pos) 0 (.ref it) (.ref s.heap.objs.size) (compEnvC scope cl s3.heap.objs.size X.env)) (RR (.ref s.heap.objs.size) s3.heap.objs.size) s4:=by
  rintro s4 rfl;refine jE (fun n s'=>∃i σ0 H',Inv Y [] σ0 H' s'/\tn i s'.heap/\(∀b∈fp,H' b=none)/\W i n σ0 H') ?_ m0
   ⟨0,_,_,I4,st4,fun b hb=>(hf3 b hb).1,w0⟩
  rintro n s5 ⟨i,σ5,H5,I5,st5,fr5,w5⟩;rcases turn i n σ5 H5 w5 with⟨stop,q⟩ |⟨go,step⟩
  ·have r:=T.done Y yP yw yK yc i [] s5 _ H5 (fun _ _=>False) I5 (fpY fr5) st5 stop;rw[yA]at r;refine thn r fun r s6 y_=>?_;obtain⟨hr,I6⟩:=y_;subst hr;exact fin I6 q
  ·have r:=T.item Y yP yw yK yc i [] s5 _ H5 (fun _ _=>False) I5 (fpY fr5) st5 go;rw[yA]at r;refine thn r fun r s6 y_=>?_;obtain⟨u,hr,h6⟩:=y_;subst hr;refine thn h6 fun _ s7 y_=>?_;obtain⟨x,H7,I7,r7,y7,st7,fr7⟩:=y_;have I7':=I7.pinned (fpY fr7) (T.obj _ _ st7);have r:=B4.tgt _ s7 _ H7 x u _ I7' r7 (step x H7 y7);rw[yP,yw,yA,yx,ye]at r;refine thn r fun _ s8 y_=>?_;obtain⟨σ8,H8,I8,q8⟩:=y_;have r:=B4.tst _ s8 σ8 H8 _ I8 q8;rw[yP,yw,yA,yx,ye]at r;refine thn r fun ok s9 y_=>?_;obtain⟨H9,I9,q9⟩:=y_;have back:∀{s':Shared} {H':Hp},Inv Y ([]++iJ fp s7.heap) σ8 H' s'->(Inv Y [] σ8 H' s'/\tn (i+1) s'.heap/\∀b∈fp,H' b=none):=fun {s' H'} I'=>by
    refine⟨I'.unpinned,T.keep _ _ _ st7 fun b hb o e=>(I'.pin (b,o) (IC _ (IC _ (cL hb e)))).1,fun b hb=>?_⟩;obtain⟨o,e,d⟩:=T.obj _ _ st7 b hb;exact(I'.pin (b,o) (IC _ (IC _ (cL hb e)))).2.1
   cases ok with
   | false =>
    have q9':∃m',m'<n/\W (i+1) m' σ8 H9:=q9;obtain⟨m',hm,w9⟩:=q9';obtain⟨b1,b2,b3⟩:=back I9;show ∃m,m<n/\_;exact⟨m',hm,i+1,σ8,H9,b1,b2,b3,w9⟩
   | true =>
    have q9':te σ8 H9 fun y H4=>∃ys,H4 s.heap.objs.size=some (.lst ys)/\ys.length<sizeLine/\∃m',m'<n/\W (i+1) m' σ8 (upd H4 s.heap.objs.size (.lst (ys++[y]))):=q9;have r:=B4.elt _ s9 σ8 H9 _ I9 q9';rw[yP,yw,yA,yx,ye]at r;show wpAny _ _ (eval elt _) _ _ s9;refine thn r fun y s10 y_=>?_;obtain⟨yv,H10,I10,r10,q10⟩:=y_;obtain⟨ys,a1,a2,m',hm,w10⟩:=q10;have r:=bL (X:=Y) _ s10 σ8 H10 (.ref s.heap.objs.size) [yv] (.ref s.heap.objs.size) [y] (fun _ H'=>H'=upd H10 s.heap.objs.size (.lst (ys++[yv]))) I10 rfl (.cons r10 .nil) ⟨_,ys,yv,rfl,rfl,a1,a2,rfl⟩;rw[yP,yw,yA,yx]at r;refine thn r fun _ s11 y_=>?_;obtain⟨_,H11,I11,_,e11⟩:=y_;subst e11;obtain⟨b1,b2,b3⟩:=back I11;exact⟨m',hm,i+1,σ8,_,b1,b2,b3,w10⟩
 have st4':tn 0 ({ s3 with heap:=h₁,toks:=s3.toks+([]:List (Str×Value)).length }:Shared).heap:=st4;have hs4:({ s with heap:=h₁,toks:=s.toks+([]:List (Str×Value)).length }:Shared)={ s3 with heap:=h₁,toks:=s3.toks+([]:List (Str×Value)).length }:=by rw[←hs3]
 exact codeAny_compStart_list (loop _ hs4) (T.self _ 0 _ _ _ st4 (loop _ hs4))
theorem sg(O:bz X N2 nt js scope cl sc)(hc:X.calm=true)(hi:PI X tg iter wi)(B:∀(s0:Shared) (H0:Hp) (fp:List Addr) (ps:List (Addr×Obj)),tX (bK X N2 scope cl s0 H0 fp ps) tg ifs elt g tt te)
  (hs:∀x,foldedSetIterable iter X.env x=pure x:=by intro _;rfl):PE X (.ListComp elt [⟨tg,iter,ifs,0⟩] scope pos) (tT nt js wi g tt te):=by
 intro pins s σ H Q I h;rw[eval_ListComp];refine wpAny_comprehension_free (use:=none) rfl hs O.clos O.kind O.loc (thn (hi pins s σ H _ I h) fun xv s1 h1=>thn h1 fun itv s2 h2=>?_);obtain⟨it,fp,tn,J,H2,e,I2,T,st2,f2,q⟩:=h2;subst e;refine lG (RR:=fun acc C=>compPost (model X.prog X.w) X.A X.xe none (EP X pins σ Q) acc C) O hc B I2 T st2 f2 q ?_;intro acc C s' H' m hn J' c1 c2 c3 c4 c5 q';refine⟨m,hn,fun h' hsb=>⟨.ref acc,H',?_,rfl,q'⟩⟩;exact J'.turned (t':=s'.toks) (fun b o hb e=>hsb.extBut b o hb e) c1 (Ne.symm c2 |> fun z=>fun y=>z y.symm) (.inr c3) c4 c5
theorem rR{i:Nat}{y:Str}{py spos:Pos}(hN:X.N.Nodup)(hy:X.N[i]?=some y)(hl:Loc X.env.scope y)(O:bz X N2 nt js scope cl sc)(hc:X.calm=true)(hi:PI X tg iter wi)
  (B:∀(s0:Shared) (H0:Hp) (fp:List Addr) (ps:List (Addr×Obj)),tX (bK X N2 scope cl s0 H0 fp ps) tg ifs elt g tt te)
  (hsw:swapsWith (.ListComp elt [⟨tg,iter,ifs,0⟩] scope pos) (some (.Name y py)) spos.line X.env=pure true:=by rfl)
  (hs:∀x,foldedSetIterable iter X.env x=pure x:=by intro _;rfl) (hfn:X.fn y=true∨X.env.scope.names.lookup y=some .local:=by first | exact .inl rfl | exact .inr rfl | assumption) :
  PS X (.Assign [.Name y py] (.ListComp elt [⟨tg,iter,ifs,0⟩] scope pos) spos) (wm (tT nt js wi g tt te) (oR i)):=by
 intro pins s σ H D I h;rw[exec_Assign_Name_used _ _ _ _ hsw];refine Hk (wpAny_standAt (Hk ?_));show wpAny _ X.A (do let _←comprehension (.ListComp elt [⟨tg,iter,ifs,0⟩] scope pos) scope X.env _ (newList []) false (eval iter X.env) (some (assign (.Name y py) X.env))) _ _ s;refine Hk (JV (wpAny_comprehension_free (use:=some (assign (.Name y py) X.env)) (Q:=fun _ s'=>SP X pins D .next s') rfl hs O.clos O.kind O.loc
  (thn (hi pins s σ H _ I h) fun xv s1 h1=>thn h1 fun itv s2 h2=>?_)) (fun _ s' hq=>Hl (Hl hq)) fun _ _ e=>e)
 obtain⟨it,fp,tn,J,H2,e,I2,T,st2,f2,q⟩:=h2;subst e;refine lG (Q:=fun v H1=>oR i v σ H1 D.nx) (RR:=fun acc C=>compPost (model X.prog X.w) X.A X.xe (some (assign (.Name y py) X.env)) (fun _ s'=>SP X pins D .next s') acc C) O hc B I2 T st2 f2 q ?_;intro acc C s' H' m hn J' c1 c2 c3 c4 c5 q';show wpAny _ X.A (assign (.Name y py) X.env (.ref acc)) _ _ _;refine wpAny_assign_Name (jo (v:=.ref acc) J' hN hy hl rfl (fun s2 I2' ⟨a,sb,ha⟩=>?_) hfn);have hCa:C≠a:=by
  rcases ha with ha | ha
  ·rw[ha];exact c2
  ·exact fun z=>c4 y a ha z.symm
 refine⟨m,hn.sameBut sb hCa,fun h' hsb=>⟨_,H',?_,q'⟩⟩;exact I2'.turned (t':=s2.toks) (fun b o hb e=>hsb.extBut b o hb e) c1 c2 (.inr c3) c4 c5
end
end
end L2
namespace U
open L2
section
variable {B:Bs}{X:Cx}{pos:Pos}
def wX(nt:Nat)(js:List Nat)(σ:St'):St':=List.replicate nt none++js.map fun j=>(σ[j]?).join
theorem SR.sig{K:PySem.W.Frag}(s:SR K B σ' H' σ H)(nt:Nat)(js:List Nat):SR K B (wX nt js σ') H' (lq nt js σ) H:=by
 refine⟨by simp[wX,lq],fun i v' e=>?_,s.hp,s.ev⟩;unfold wX at e;unfold lq;by_cases hi:i<nt
 ·rw[Jg (by simpa using hi),Jy]at e;split at e<;>cases e
 ·rw[JC (by simp;omega),IX,Ht]at e ⊢;cases ej:js[i - nt]? with
  | none=>rw[ej]at e;cases e
  | some j =>
   rw[ej]at e;have e2:(σ'[j]?).join=some v':=Im e;cases q:σ'[j]? with
   | none=>rw[q]at e2;cases e2
   | some o =>
    rw[q]at e2;have e3:σ'[j]?=some (some v'):=by rw[q];exact congrArg some e2
    obtain⟨v,a,b⟩:=s.loc j v' e3;exact⟨v,by show some ((σ[j]?).join)=_;rw[a];rfl,b⟩
def cZ(ok:PHp->Prop)(g:TG')(tt:TT')(te:TE')(acc:Addr)(Q:VK'):List PV->St'->PHp->Prop
 | [],σ,H=>ok H/\Q (.ref acc) H
 | x::r,σ,H=>ok H/\g x σ H fun σ3 H2=>tt σ3 H2 fun b H3=>cif b (te σ3 H3 fun y H4=>∃l,H4 acc=some (.lst l)/\l.length<sizeLine/\cZ ok g tt te acc Q r σ3 (put H4 acc (.lst (l++[y])))) (cZ ok g tt te acc Q r σ3 H3)
def gp(nt:Nat)(js:List Nat)(wi:TI')(g:TG')(tt:TT')(te:TE'):TE':=fun σ H Q=>wi σ H fun J H1=>∀acc,H1 acc=none->cZ J.ok g tt te acc Q J.items (wX nt js σ) (put H1 acc (.lst []))
def AV(Y:Cx)(B:Bs)(ifs:List Expr)(t:TT'):Prop:=PIf Y ifs (mL Y.K B t)
def DK:TT':=fun _ H Q=>Q true H
theorem bO:AV Y B [] DK:=fun pins s σ H Q I ⟨σ',H',Q',sr,h,k⟩=>vc pins s σ H Q I (k true H' H h sr (Ev.refl _ _))
theorem j7(h:PT' Y B c t):AV Y B [c] t:=wD h
theorem i9{K:PySem.W.Frag}(h:low K B (gp nt js wi g tt te) σ H Q) :
  tT nt js (xN K B wi) (lowG K B g) (mL K B tt) (low K B te) σ H Q:=by
 obtain⟨σ',H',Q',s,h,k⟩:=h;refine⟨σ',H',_,s,h,fun J' H1' J H1 h1 wk s1 e1 acc ha=>?_⟩;have h1:=h1 acc (s1.hp.free ha);have sn:SR K B σ' (put H1' acc (.lst [])) σ (upd H1 acc (.lst [])):=s1.new ha ⟨[],aE,RPs.nil _⟩;have en:Ev H1' H1 (put H1' acc (.lst [])) (upd H1 acc (.lst [])):=Ev.new ha;refine⟨fun i m σ2 H2=>i≤J'.items.length/\m=J'.items.length - i/\∃σ2' H2',SR K B σ2' H2' σ2 H2/\SR K B σ' H2' σ H2/\Ev H1' H1 H2' H2/\cZ J'.ok g tt te acc Q' (J'.items.drop i) σ2' H2',
  ⟨J'.items.length,JG _,by simp,_,_,sn.sig nt js,sn,en,h1⟩,?_⟩
 rintro i m σ2 H2 ⟨hi,rfl,σ2',H2',s2,so,e2,h2⟩;have k2:=e2.kp s1.hp;by_cases hlt:i<J'.items.length
 ·obtain⟨x',hx⟩:∃x',J'.items[i]?=some x':=⟨_,Hn hlt⟩;have hd:J'.items.drop i=x'::J'.items.drop (i+1):=by
   rw[Jr hlt];rw[Hn hlt]at hx;cases hx;rfl
  rw[hd]at h2;obtain⟨ok2,h2⟩:=(show J'.ok H2'/\_ from h2);refine .inr ⟨wk.go H2' H2 i k2 s2.hp ok2 hlt,fun x H3 y=>?_⟩;obtain⟨hr3,ev3,rx⟩:=wk.yld H2' H2 i x H3 k2 s2.hp ok2 y;have s2b:=s2.kp ev3 hr3;have sob:=so.kp ev3 hr3;have e2b:=e2.trans ev3;refine⟨x',σ2',H2',_,rx x' hx,s2b,h2,fun σ3' H3' σ3 H3 h3 s3 e3=>⟨σ3',H3',_,s3,h3,fun b H4' H4 h4 s4 e4=>?_⟩⟩;cases b with
  | false =>
   have e24:=e3.trans e4;exact r0 ⟨J'.items.length - (i+1),by omega,hlt,rfl,σ3',H4',s4,sob.kp e24 s4.hp,e2b.trans e24,h4⟩
  | true =>
   refine sO ⟨σ3',H4',_,s4,h4,fun y' H5' y H5 h5 ry5 s5 e5=>?_⟩;obtain⟨l,a1,a2,h5⟩:=h5;have e25:=(e3.trans e4).trans e5;obtain⟨us,q1,q2⟩:=s5.hp _ _ a1;have wr:=wrL s5.hp a1 (RPs.append _ q2 (RPs.cons _ ry5 (RPs.nil _)));refine⟨us,q1,by rw[RPs.length _ q2];exact a2,J'.items.length - (i+1),by omega,hlt,rfl,σ3',_,s5.wr a1 wr,(sob.kp e25 s5.hp).wr a1 wr,(e2b.trans e25).trans (Ev.wr a1),h5⟩
 ·have hi':i=J'.items.length:=by omega
  subst hi';rw[List.drop_length]at h2;obtain⟨ok2,h2⟩:=(show J'.ok H2'/\_ from h2);exact .inl ⟨wk.stop H2' H2 k2 s2.hp ok2,k _ _ _ _ h2 (by simp[RP]) so (e1.trans e2)⟩
section
variable {N2:List Str}{nt:Nat}{js:List Nat}{scope sc:Scope}{cl:List (Str×Addr)}{elt iter tg:Expr}{ifs:List Expr}{wi:TI'}{g:TG'}{tt:TT'}{te:TE'}
structure fA (Y:Cx) (B:Bs) (tg:Expr) (ifs:List Expr) (elt:Expr) (g:TG') (tt:TT') (te:TE'):Prop where
 tgt:PG' Y B tg g
 tst:AV Y B ifs tt
 elt:PE' Y B elt te
theorem ur(O:bz X N2 nt js scope cl sc)(hc:X.calm=true)(hi:PIH X B tg iter wi)(b:∀(s0:Shared) (H0:Hp) (fp:List Addr) (ps:List (Addr×Obj)),fA (bK X N2 scope cl s0 H0 fp ps) B tg ifs elt g tt te)
  (hs:∀x,foldedSetIterable iter X.env x=pure x:=by intro _;rfl):PE' X B (.ListComp elt [⟨tg,iter,ifs,0⟩] scope pos) (gp nt js wi g tt te) :=
 aF (sg (g:=lowG X.K B g) (tt:=mL X.K B tt) (te:=low X.K B te) O hc hi (fun s0 H0 fp ps=>⟨(b s0 H0 fp ps).tgt,(b s0 H0 fp ps).tst,(b s0 H0 fp ps).elt⟩) hs) fun _ _ _ h=>i9 h
theorem xn(O:bz X N2 nt js scope cl sc)(hc:X.calm=true)(hi:PI' X B tg iter wi)(b:∀(s0:Shared) (H0:Hp) (fp:List Addr) (ps:List (Addr×Obj)),fA (bK X N2 scope cl s0 H0 fp ps) B tg ifs elt g tt te)
  (hs:∀x,foldedSetIterable iter X.env x=pure x:=by intro _;rfl):PE' X B (.ListComp elt [⟨tg,iter,ifs,0⟩] scope pos) (gp nt js wi g tt te):=ur O hc (mW hi) b hs
theorem sm{i:Nat}{y:Str}{py spos:Pos}(hN:X.N.Nodup)(hy:X.N[i]?=some y)(hl:Loc X.env.scope y)(O:bz X N2 nt js scope cl sc)(hc:X.calm=true)(hi:PIH X B tg iter wi)
  (b:∀(s0:Shared) (H0:Hp) (fp:List Addr) (ps:List (Addr×Obj)),fA (bK X N2 scope cl s0 H0 fp ps) B tg ifs elt g tt te)
  (hsw:swapsWith (.ListComp elt [⟨tg,iter,ifs,0⟩] scope pos) (some (.Name y py)) spos.line X.env=pure true:=by rfl)
  (hs:∀x,foldedSetIterable iter X.env x=pure x:=by intro _;rfl) (hfn:X.fn y=true∨X.env.scope.names.lookup y=some .local:=by first | exact .inl rfl | exact .inr rfl | assumption) :
  PS' X B (.Assign [.Name y py] (.ListComp elt [⟨tg,iter,ifs,0⟩] scope pos) spos) (km (gp nt js wi g tt te) (bw i)) :=
 cz (rR (g:=lowG X.K B g) (tt:=mL X.K B tt) (te:=low X.K B te) hN hy hl O hc hi (fun s0 H0 fp ps=>⟨(b s0 H0 fp ps).tgt,(b s0 H0 fp ps).tst,(b s0 H0 fp ps).elt⟩) hsw hs hfn) fun D σ H y_=>by
  obtain⟨σ',H',D',s,h,d⟩:=y_;refine i9 ⟨σ',H',_,s,h,fun v' H1' v H1 q r s1 e1=>?_⟩;exact d.nx _ _ _ _ q (s1.set r i) e1
theorem xE{i:Nat}{y:Str}{py spos:Pos}(hN:X.N.Nodup)(hy:X.N[i]?=some y)(hl:Loc X.env.scope y)(O:bz X N2 nt js scope cl sc)(hc:X.calm=true)(hi:PI' X B tg iter wi)
  (b:∀(s0:Shared) (H0:Hp) (fp:List Addr) (ps:List (Addr×Obj)),fA (bK X N2 scope cl s0 H0 fp ps) B tg ifs elt g tt te)
  (hsw:swapsWith (.ListComp elt [⟨tg,iter,ifs,0⟩] scope pos) (some (.Name y py)) spos.line X.env=pure true:=by rfl)
  (hs:∀x,foldedSetIterable iter X.env x=pure x:=by intro _;rfl) (hfn:X.fn y=true∨X.env.scope.names.lookup y=some .local:=by first | exact .inl rfl | exact .inr rfl | assumption) :
  PS' X B (.Assign [.Name y py] (.ListComp elt [⟨tg,iter,ifs,0⟩] scope pos) spos) (km (gp nt js wi g tt te) (bw i)):=sm hN hy hl O hc (mW hi) b hsw hs hfn
end
end
section
def qt(cs:List (Str×Addr)):List (Str×Addr)->Prop
 | []=>True
 | p::r=>cs.lookup p.1=some p.2/\qt cs r
theorem qt.mem{cs:List (Str×Addr)}:∀{l:List (Str×Addr)} {p:Str×Addr},qt cs l->p∈l->cs.lookup p.1=some p.2
 | q::r,p,h,m=>by
  rcases Hy.mp m with rfl | m
  ·exact h.1
  ·exact qt.mem h.2 m
theorem cok(clos:closureFor scope X.env=pure cl)(sub:qt X.env.cells cl)(xsc:X.env.scope=sc)(kind:scope.kind=.function)
  (nocell:∀y∈scope.names,y.2≠.cell) (loc:∀y∈scope.names,y.2=.local->scope.names.lookup y.1=some .local) (names:cl.map (·.1)=((scope.names.filter (·.2==.free)).map (·.1)).reverse)
  (frs:∀x∈N2.drop nt,scope.names.lookup x=some .free/\sc.names.lookup x=some .cell) (len:N2.length=nt+js.length) (pl:js.map (fun j=>X.N[j]?)=(N2.drop nt).map some):bz X N2 nt js scope cl sc :=
 ⟨clos,fun x c e=>sub.mem (lookup_mem e),xsc,kind,nocell,loc,fun y m f=>by rw[names];exact List.mem_reverse.mpr (List.mem_map_of_mem (I0.mpr ⟨m,by rw[f];rfl⟩)),frs,len,fun k j e=>by
  have h:(js.map (fun j=>X.N[j]?))[k]?=((N2.drop nt).map some)[k]?:=by rw[pl]
  rw[Ht,Ht,e,List.getElem?_drop]at h;cases q:N2[nt+k]? with
  | none=>rw[q]at h;cases h
  | some x=>rw[q]at h;exact Im h⟩
end
section
end
end U
namespace L2
variable {X:Cx}{a b c d:Expr}{pos:Pos}{ta tb tc td:TE}
end L2
namespace U
open L2
variable {B:Bs}{X:Cx}{a b c d e o value:Expr}{pos pos' apos p:Pos}{ta tb tc td tv:TE'}{f m x:Str}{C g:Addr}
def xU(C:Addr)(f:Str)(x:PV)(H:PHp)(Q:VK'):Prop:=match x with
 | .ref a=>∃dx fs v,H a=some (.ins C dx fs)/\fs.lookup f=some v/\Q v H
 | _=>False
def DV(C:Addr)(f:Str)(ta:TE'):TE':=fun σ H Q=>ta σ H fun x H1=>xU C f x H1 Q
theorem lg{K:PySem.W.Frag}(h:c7 K H fs gs)(e:fs.lookup f=some v):∃u,gs.lookup f=some u/\RP K H v u:=by
 induction h with
 | nil=>simp at e
 | @cons a b _ _ h t ih =>
  obtain⟨n,y⟩:=a;obtain⟨m,z⟩:=b;obtain⟨rfl,hr⟩:=h;dsimp only at hr;cases hx:f==n with
  | true =>
   simp only[IQ,hx]at e ⊢;cases e;exact⟨z,rfl,hr⟩
  | false =>
   simp only[IQ,hx]at e ⊢;exact ih e
theorem pM{K:PySem.W.Frag}(h:c7 K H fs gs)(e:fs.lookup f=none):gs.lookup f=none:=by
 induction h with
 | nil=>rfl
 | @cons a b _ _ h t ih =>
  obtain⟨n,y⟩:=a;obtain⟨m,z⟩:=b;obtain⟨rfl,hr⟩:=h;cases hx:f==n with
  | true=>simp only[IQ,hx]at e;cases e
  | false =>
   simp only[IQ,hx]at e ⊢;exact ih e
theorem rP{K:PySem.W.Frag}{H:Hp}{gs:List (Str×V)}(h:c7 K H fs gs):gs.length=fs.length:=by
 induction h with
 | nil=>rfl
 | cons _ _ ih=>simp[ih]
theorem bD(ha:PE' X B e ta)(cl:Cls X.K C)(n:bT X.K C f)(hb:attributeBase e f X.env (eval e X.env)=eval e X.env):PE' X B (.Attribute e f pos) (DV C f ta):=aF (zW ha hb) fun σ H Q y_=>by
 obtain⟨σ',H',Q',s,h,k⟩:=y_;refine⟨σ',H',_,s,h,fun x' H1' x H1 h1 rx s1 e1=>?_⟩;cases x' with
 | ref a =>
  obtain⟨dx,fs,v,ea,l,q⟩:=h1;simp only[RP]at rx;subst rx;obtain⟨gs,eg,fr⟩:=s1.hp _ _ ea;obtain⟨u,lu,ru⟩:=lg fr l;exact⟨a,C,dx,gs,u,rfl,eg,cl,n,lu,k _ _ _ _ q ru s1 e1⟩
 | _=>exact h1.elim
def dM(f:Str)(v:PV):List (Str×PV)->List (Str×PV)
 | []=>[(f,v)]
 |(g,x)::r=>if g=f then(g,v)::r else(g,x)::dM f v r
theorem rX{K:PySem.W.Frag}(rv:RP K H v u){fs:List (Str×PV)}{gs:List (Str×V)}(h:c7 K H fs gs):c7 K H (dM f v fs) (cJ f u gs):=by
 induction h with
 | nil=>exact .cons ⟨rfl,rv⟩ .nil
 | @cons a b _ _ h t ih =>
  obtain⟨n,y⟩:=a;obtain⟨m,z⟩:=b;obtain⟨rfl,hr⟩:=h;unfold dM cJ;by_cases hn:n=f
  ·rw[HP hn,HP hn];exact .cons ⟨rfl,rv⟩ t
  ·rw[HM hn,HM hn];exact .cons ⟨rfl,hr⟩ ih
def x8(C:Addr)(f:Str)(x y:PV)(H:PHp)(Q:PHp->Prop):Prop:=match x with
 | .ref a=>∃dx fs,H a=some (.ins C dx fs)/\fs.length<1000/\Q (put H a (.ins C dx (dM f y fs)))
 | _=>False
def tZ(C:Addr)(f:Str)(ta tv:TE'):TS':=fun D σ H=>tv σ H fun y H1=>ta σ H1 fun x H2=>x8 C f x y H2 fun H3=>D.nx σ H3
theorem jM(ha:PE' X B o ta)(hv:PE' X B value tv)(cl:Cls X.K C)(n:bT X.K C f)(hs:swapsWith value (some (.Attribute o f pos')) pos.line X.env=pure false):PS' X B (.Assign [.Attribute o f pos'] value pos) (tZ C f ta tv):=cz (zA ha hv hs) fun D σ H y_=>by
 obtain⟨σ',H',D',s,h,dd⟩:=y_;refine⟨σ',H',_,s,h,fun y' H1' y H1 h1 ry s1 e1=>⟨σ',H1',_,s1,h1,fun x' H2' x H2 h2 rx s2 e2=>?_⟩⟩;cases x' with
 | ref a =>
  obtain⟨dx,fs,ea,l,q⟩:=h2;simp only[RP]at rx;subst rx;obtain⟨gs,eg,fr⟩:=s2.hp _ _ ea;have ry2:=RP.kp X.K (e2.kp s1.hp) ry;have new:OAt X.K (upd H2 a (.ins C dx (cJ f y gs))) a (.ins C dx (dM f y' fs)):=⟨_,aE,c7.kp (s2.hp.kpw ea) (rX ry2 fr)⟩;exact⟨a,C,dx,gs,rfl,eg,cl,n,by rw[rP fr];exact l,dd.nx _ _ _ _ q (s2.wr ea new) ((e1.trans e2).trans (Ev.wr ea))⟩
 | _=>exact h2.elim
def isIn(C:Addr)(m:Str)(x:PV)(H:PHp):Prop:=match x with
 | .ref a=>∃dx fs,H a=some (.ins C dx fs)/\fs.lookup m=none
 | _=>False
def sv(C:Addr)(m:Str)(sp:Sp')(E':XK')(ta:TE')(t:TA'):TE':=fun σ H Q=>ta σ H fun x H1=>isIn C m x H1/\t σ H1 fun vs H2=>sp (x::vs) H2 Q E'
section
variable {k:Nat}{fd:FuncData}{ps:List Str}{sp:Sp'}{es:List Expr}{t:TA'}
theorem oX{K:PySem.W.Frag}(h:low K B (sv C m sp X0 ta t) σ H Q):yh C m (gu K sp) [] E0 (low K B ta) (sk K B t) σ H Q:=by
 obtain⟨σ',H',Q',s,h,k⟩:=h;refine⟨σ',H',_,s,h,fun x' H1' x H1 h1 rx s1 e1=>?_⟩;obtain⟨hi,h1⟩:=h1;cases x' with
 | ref a =>
  obtain⟨dx,fs,ea,l⟩:=hi;simp only[RP]at rx;subst rx;obtain⟨gs,eg,fr⟩:=s1.hp _ _ ea;refine⟨a,dx,gs,rfl,eg,pM fr l,σ',H1',_,s1,h1,fun vs' H2' vs H2 h2 r2 s2 e2=>?_⟩;show gu K sp (V.ref a::(vs++[])) H2 Q E0;rw[IF];exact⟨.ref a::vs',H2',Q',X0,RPs.cons _ (by simp[RP]) r2,s2.hp,h2,fun v' H3' v H3 q r3 h3 e3=>k v' H3' v H3 q r3 (s2.kp e3 h3) ((e1.trans e2).trans e3),fun _ _ _ _ z=>z.elim⟩
 | _=>exact hi.elim
theorem dq{pl:Sem Bool}(he:PE' X B o ta)(cl:Cls X.K C)(hm:Meth X.K C m g)(F:aG X.prog X.w X.K X.mg X.base CX0 k g fd ps sp)(hr:bA k X.A)(hb:Binds X.K fd ps [])(ha:PA' X B (e::es) t)
  (hst:starEach (e::es) X.env=(false,eval e X.env)::starEach es X.env:=by rfl) (hpl:(backTo pos (starEach es X.env)).any (·.1)=false:=by rfl)
  (ht:eval (.Call (.Attribute o m apos) (e::es) [] pos) X.env=(do
   let ov←eval o X.env
   standAt apos.atName
   let (f,first)←holding [ov] (getMethod ov m pl)
   callWith pos f first (backTo pos (starEach (e::es) X.env)) (backToKw pos (keywordEach [] X.env))):=by rfl) :
  PE' X B (.Call (.Attribute o m apos) (e::es) [] pos) (sv C m sp X0 ta t):=aF (vj he cl hm F hr hb .nil rC ha hst hpl ht) fun _ _ _ h=>oX h
def yy(C:Addr)(sp:Sp')(E':XK')(t:TA'):TE':=fun σ H Q=>t σ H fun vs H1=>∀x dx,H1 x=none->H1 dx=none->dx≠x->sp (.ref x::vs) (put H1 x (.ins C dx [])) (fun v H2=>v=.non/\Q (.ref x) H2) E'
theorem v5(M:Mk X.K C g)(F:aG X.prog X.w X.K X.mg X.base CX0 k g fd ps sp)(hr:bA (k+1) X.A)(hg:Gl X x)(hm:X.mg x=some (.ref C))(hb:Binds X.K fd ps [])
  (ha:PA' X B (e::es) t) (hdb:(x==("__debug__":Str))=false:=by decide) (he:starEach (e::es) X.env=(false,eval e X.env)::starEach es X.env:=by rfl) (hpl:(backTo pos (starEach es X.env)).any (·.1)=false:=by rfl) :
  PE' X B (.Call (.Name x p) (e::es) [] pos) (yy C sp X0 t):=aF (vx M F hr hg hm hb .nil rC ha hdb he hpl) fun σ H Q y_=>by
 obtain⟨σ',H',Q',s,h,k⟩:=y_;refine⟨σ',H',_,s,h,fun vs' H1' vs H1 h1 r1 s1 e1=>?_⟩;intro x dx nx nd ne;have h2:=h1 x dx (s1.hp.free nx) (s1.hp.free nd) ne;have nx2:upd H1 dx (.own x) x=none:=by rw[ay (Ne.symm ne)];exact nx
 have sd:=s1.hid (o:=.own x) nd;have new:OAt X.K (upd (upd H1 dx (.own x)) x (.ins C dx [])) x (.ins C dx []):=⟨[],aE,.nil⟩;have s2:=sd.new nx2 new;have e2:Ev H1' H1 (put H1' x (.ins C dx [])) (upd (upd H1 dx (.own x)) x (.ins C dx [])):=(Ev.hid nd).trans (Ev.new nx2);show gu X.K sp (.ref x::(vs++[])) _ _ E0;rw[IF];refine⟨.ref x::vs',_,_,X0,RPs.cons _ (by simp[RP]) (RPs.kp X.K (e2.kp s1.hp) r1),s2.hp,h2,fun v' H3' v H3 q r3 h3 e3=>?_,fun _ _ _ _ z=>z.elim⟩;obtain⟨rfl,q⟩:=q;simp only[RP]at r3;exact⟨r3,k _ _ _ _ q (by simp[RP]) (s2.kp e3 h3) ((e1.trans e2).trans e3)⟩
end
end U
namespace L2
variable {X:Cx}
end L2
namespace U
open L2
variable {B:Bs}{X:Cx}
theorem k7{K:PySem.W.Frag}{H:Hp}:∀{bs:List Int} {us:List V},RPs K H (bs.map PV.int) us->us=bs.map V.int
 | [],us,h=>by simpa[RPs]using h
 | b::bs,us,h=>by
  simp only[HV,RPs,RP]at h;obtain⟨u,r,rfl,rfl,h2⟩:=h;rw[k7 h2];rfl
theorem lK{K:PySem.W.Frag}{H:Hp}:∀{bs:List Int},RPs K H (bs.map PV.int) (bs.map V.int)
 | []=>RPs.nil _
 | b::bs=>RPs.cons _ (by simp[RP]) lK
def FQ:List PV->PHp->VK'->Prop:=bQ fun x H Q=>match x with
 | .ref a=>∃bs:List Bool,H a=some (.lst (bs.map PV.bl))/\Q (.bl (bs.all id)) H
 | _=>False
end U
namespace SP
def hs:List Int:=[-1950498447580522560,7204814214171964562,-3550055125485641917,-4734289103435588629,-1440771752368011620,
 8409376899596376432,1773351652666409796,-6333845781340707986,3516302870623680066,1079245023883434373,
 -3119722376306286570,173794974761290439,-8422800446983873125,7586885779985432798,-1009709641759730766]
def hp(p:Int×Int):Int:=reduceHash (Builtin.Tuple.tupleHashOf [p.1,p.2])
def runs(mask:Nat):Nat->Nat->Nat->List Nat
 | 0,_,_=>[]
 | f+1,i,pt=>((List.range (SetTable.runEnd mask i+1 - i)).map (i+·))++runs mask f (SetTable.leap mask i pt).1 (SetTable.leap mask i pt).2
end SP
namespace SP
section
variable {prog:Program}{w:World}{A:Around}{E:Value->Shared->Prop}{s:Shared}
structure xF (h:Heap) (S:Addr) (done:List (Int × Int)):Prop where
 is:∃es ep t,h.get? S=some { cls:=.type "set",dict:=none,data:=.set es ep t }/\t.dummies=#[]/\t.place.size=es.size/\es.size=done.length/\((t.mask=7/\es.size≤4)∨(t.mask=31/\es.size≤18)) /\
  ∀e∈es.toList,∃p∈done,e.1=hp p
end
end SP
namespace L2
variable {X:Cx}
end L2
namespace U
open L2
section
variable {B:Bs}{X:Cx}{e:Expr}{ta:TE'}{p p2 pos pos2:Pos}
def prV(p:Int×Int):PV:=.tup [.int p.1,.int p.2]
end
section
variable {B:Bs}{X:Cx}{a b:Expr}{ta tb:TE'}{pos:Pos}
def CM:R2':=uI (fun _ j=>0≤j) fun i j=>.int (i / 2 ^ j.toNat)
theorem zR(ha:PE' X B a ta)(hb:PE' X B b tb):PE' X B (.BinOp a .RShift b pos) (uOp CM ta tb):=dE zh (um fun _ _ _=>by simp[RP]) ha hb
end
end U
namespace ST
open PySem.W
def key(K:Nat->Int)(p:Array Nat)(i:Nat):Int:=K ((p[i]?).getD 0)
structure Ok (n:Nat) (p:Array Nat):Prop where
 perm:p.toList.Perm (List.range n)
def S(K:Nat->Int)(p:Array Nat)(m:Nat):Prop:=∀i j,i<j->j<m->key K p i<key K p j
theorem Ok.size(h:Ok n p):p.size=n:=by
 have:=h.perm.length_eq;simpa using this
theorem Ok.lt(h:Ok n p)(h0:0<n)(i:Nat):p.getD i 0<n:=by
 rw[Array.getD_eq_getD_getElem?];cases e:p[i]? with
 | none=>exact h0
 | some x =>
  have:x∈p.toList:=by
   obtain⟨hi,rfl⟩:=Array.getElem?_eq_some_iff.mp e;simp
  exact IJ.mp (h.perm.mem_iff.mp this)
theorem Ok.of(h:Ok n p)(r:q.Perm p):Ok n q:=⟨(Array.perm_iff_toList_perm.mp r).trans h.perm⟩
section
variable {cmp:Nat->Nat->(Bool->Shared->Prop)->Shared->Prop}{s:Shared}{n:Nat}{K:Nat->Int}{p:Array Nat}
theorem Ok.ne(hK:∀i j,i<n->j<n->K i=K j->i=j)(h:Ok n p){i j:Nat}(hi:i<n)(hj:j<n)(hne:i≠j):key K p i≠key K p j:=by
 intro e;have hs:=h.size;have h0:0<n:=by omega
 unfold key at e;rw[HU (by omega),HU (by omega)]at e;simp only[Option.getD_some]at e;have nd:p.toList.Nodup:=(h.perm.nodup_iff).mpr List.nodup_range;have l1:p[i]<n:=by have:=h.lt h0 i;rwa [Array.getD_eq_getD_getElem?,HU (by omega)]at this
 have l2:p[j]<n:=by have:=h.lt h0 j;rwa [Array.getD_eq_getD_getElem?,HU (by omega)]at this
 have q:=hK _ _ l1 l2 e;have:i=j:=by
  exact(List.getElem_inj nd (h₀:=by simpa[hs]using hi) (h₁:=by simpa[hs]using hj)).mp (by simpa using q)
 exact hne this
theorem kL(K:Nat->Int)(p:Array Nat)(i:Nat):K (p.getD i 0)=key K p i:=by
 unfold key;rw[Array.getD_eq_getD_getElem?]
variable (hc:∀i j C,i<n->j<n->C (decide (K i<K j)) s->cmp i j C s)(hK:∀i j,i<n->j<n->K i=K j->i=j)
include hc
theorem g7(h0:0<n)(ok:Ok n p){i j:Nat}(h:G (decide (key K p i<key K p j)) s):cmp (p.getD i 0) (p.getD j 0) G s:=by
 refine hc _ _ _ (ok.lt h0 i) (ok.lt h0 j) ?_;rw[kL K p i,kL K p j];exact h
include hK
theorem fo(ok:Ok n p)(hi:i<n)(hj:j<n)(hne:i≠j)(h:¬key K p i<key K p j):key K p j<key K p i:=by
 have:=ok.ne hK hi hj hne;omega
theorem asc(ok:Ok n p):∀(f m:Nat) {G:Nat->Shared->Prop},1≤m->m+f≤n->S K p m ->
  (∀m',m≤m'->m'≤m+f->S K p m'->(m'<m+f->key K p m'<key K p (m' - 1))->G m' s)->(kas_asc p f m).kasWp cmp G s
 | 0,m,G,_,_,hS,h=>h m (Hr _) (Hr _) hS fun q=>absurd q (J3 _)
 | f+1,m,G,h1,hm,hS,h=>by
  refine g7 hc (by omega) ok (G:=fun c s'=>(if c=true then KasT.ret m else kas_asc p f (m+1)).kasWp cmp G s') ?_;by_cases q:key K p m<key K p (m - 1)
  ·rw[ID q];show G m s;exact h m (Hr _) (by omega) hS fun _=>q
  ·rw[Iz q];show(kas_asc p f (m+1)).kasWp cmp G s;have q':=fo hc hK ok (by omega) (by omega) (by omega) q;refine asc ok f (m+1) (by omega) (by omega) ?_ fun m' a b c d=>h m' (by omega) (by omega) c fun e=>d (by omega);intro i j hij hj;by_cases hjm:j<m
   ·exact hS i j hij hjm
   ·have:j=m:=by omega
    subst this;by_cases him:i=j - 1
    ·subst him;exact q'
    ·have:=hS i (j - 1) (by omega) (by omega);omega
theorem desc(ok:Ok n p):∀(f m:Nat) {G:Array Nat×Nat×Nat->Shared->Prop},1≤m->m+f≤n->(∀i j,i<j->j<m->key K p j<key K p i) ->
  (∀m',m≤m'->m'≤m+f->(∀i j,i<j->j<m'->key K p j<key K p i)->G (p,m',0) s)->(kas_desc f p m 0).kasWp cmp G s
 | 0,m,G,_,_,hS,h=>h m (Hr _) (Hr _) hS
 | f+1,m,G,h1,hm,hS,h=>by
  refine g7 hc (by omega) ok (G:=fun c s'=>(if c=true then(if 0>0 then kas_desc f (kas_rev p (m - (0+1)) m) (m+1) 0 else kas_desc f p (m+1) 0)
   else KasT.ask (p.getD (m - 1) 0) (p.getD m 0) fun d=>if d=true then KasT.ret (p,m,0)else kas_desc f p (m+1) (0+1)).kasWp cmp G s') ?_
  by_cases q:key K p m<key K p (m - 1)
  ·rw[ID q,HP rfl,HM (by omega)];refine desc ok f (m+1) (by omega) (by omega) ?_ fun m' a b c=>h m' (by omega) (by omega) c;intro i j hij hj;by_cases hjm:j<m
   ·exact hS i j hij hjm
   ·have:j=m:=by omega
    subst this;by_cases him:i=j - 1
    ·subst him;exact q
    ·have:=hS i (j - 1) (by omega) (by omega);omega
  ·rw[Iz q];have q':=fo hc hK ok (by omega) (by omega) (by omega) q;refine g7 hc (by omega) ok (G:=fun d s'=>(if d=true then KasT.ret (p,m,0)else kas_desc f p (m+1) (0+1)).kasWp cmp G s') ?_;rw[ID q',HP rfl];exact h m (Hr _) (by omega) hS
theorem oC(ok:Ok n p)(hm:m≤n)(i:Nat):key K (kas_rev p 0 m) i=if i<m then key K p (m - 1 - i)else key K p i:=by
 unfold key kas_rev;rw[getElem?_mirror_all (by rw[ok.size];exact hm)];by_cases h:i<m
 ·rw[HP ⟨JG _,h⟩,HP h];congr 3;omega
 ·rw[HM (by omega),HM h]
theorem count(ok:Ok n p)(h1:1≤n)(h:∀m p',Ok n p'->1≤m->m≤n->S K p' m->G (m,p') s):(kas_count n p).kasWp cmp G s:=by
 unfold kas_count;rw[KasT.kasWp_bind];refine asc hc hK ok (n - 1) 1 (Hr _) (by omega) (fun i j a b=>by omega) fun m' a b hS st=>?_;by_cases e:m'=n
 ·subst e;rw[HP (by simp)];exact h _ _ ok (by omega) (Hr _) hS
 ·rw[HM (by simpa using e)];by_cases e1:m'>1
  ·rw[HP e1];refine g7 hc (by omega) ok (G:=fun c s'=>(if c=true then KasT.ret (m',p)else kas_descPart m' n (kas_rev p 0 m')).kasWp cmp G s') ?_;rw[ID (hS 0 (m' - 1) (by omega) (by omega)),HP rfl];exact h _ _ ok (by omega) (by omega) hS
  ·rw[HM e1];have:m'=1:=by omega
   subst this;unfold kas_descPart;rw[KasT.kasWp_bind];have st1:=st (by omega);refine desc hc hK ok (n - (1+1)) (1+1) (by omega) (by omega) (fun i j hij hj=>?_) fun m' a b hD=>?_
   ·have h1:j=1:=by omega
    have h2:i=0:=by omega
    subst h1;subst h2;exact st1
   ·rw[HM (by simp)];unfold kas_tail3;rw[KasT.kasWp_bind];have ok2:Ok n (kas_rev p 0 m'):=ok.of (mirror_perm _ _ _ _);refine asc hc hK ok2 (n - m') m' (by omega) (by omega) (fun i j hij hj=>?_) fun m2 a2 b2 hS2 _=>?_
    ·rw[oC hc hK ok (by omega),oC hc hK ok (by omega),HP (by omega),HP hj];exact hD _ _ (by omega) (by omega)
    ·exact h m2 _ ok2 (by omega) (by omega) hS2
theorem place(ok:Ok n p){k:Nat}(hk:k<n)(hS:S K p k):∀(f l r:Nat) {G:Nat->Shared->Prop},l≤r->r≤k->r - l≤f->(∀i,i<l->key K p i<key K p k)->(∀i,r≤i->i<k->key K p k<key K p i) ->
  (∀l',l'≤k->(∀i,i<l'->key K p i<key K p k)->(∀i,l'≤i->i<k->key K p k<key K p i)->G l' s)->(kas_place p k f l r).kasWp cmp G s
 | 0,l,r,G,h1,h2,h3,ha,hb,h=>h l (by omega) ha fun i x y=>hb i (by omega) y
 | f+1,l,r,G,h1,h2,h3,ha,hb,h=>by
  unfold kas_place;by_cases e:l≥r
  ·rw[HP e];exact h l (by omega) ha fun i x y=>hb i (by omega) y
  ·rw[HM e];refine g7 hc (by omega) ok (G:=fun c s'=>(if c=true then kas_place p k f l ((l+r) / 2)else kas_place p k f ((l+r) / 2+1) r).kasWp cmp G s') ?_;have hmid:(l+r) / 2<k:=by omega
   generalize hm:(l+r) / 2=mid at *;by_cases q:key K p k<key K p mid
   ·rw[ID q,HP rfl];refine place ok hk hS f l mid (by omega) (by omega) (by omega) ha (fun i x y=>?_) h;by_cases z:i=mid
    ·subst z;exact q
    ·have:=hS mid i (by omega) y;omega
   ·rw[Iz q,HM (by simp)];have q':=fo hc hK ok hk (by omega) (by omega) q;refine place ok hk hS f (mid+1) r (by omega) h2 (by omega) (fun i x=>?_) hb h;by_cases z:i=mid
    ·subst z;exact q'
    ·have:=hS i mid (by omega) hmid;omega
end
end ST
namespace ST
open PySem.W
def pk(p:Int×Int):Int:=6*p.1+p.2
section
variable {prog:Program}{w:World}{A:Around}{E:Value->Shared->Prop}{s:Shared}
end
end ST
namespace L2
variable {X:Cx}
end L2
namespace U
open L2
section
variable {B:Bs}{X:Cx}{a b:Expr}{ta tb:TE'}{pos:Pos}
theorem fB{α:Type}(l:List α)(d:α){q:List Nat}(h:q.Perm (List.range l.length)):(q.map fun i=>l.getD i d).Perm l:=by
 refine(h.map _).trans ?_;have:(List.range l.length).map (fun i=>l.getD i d)=l:=by
  apply List.ext_getElem
  ·simp
  ·intro i h1 h2;simp[Hq,Hn h2]
 rw[this]
end
section
theorem aX(f:PV->PV)(pz:PV->Bool)(Iv:St'->Prop)(hlen:xs.length≤1000)(hok:∀l,ok (put H1 acc (.lst l)))
  (hs:∀x∈xs,∀(l:List PV) (σ:St') (R:St'->PHp->Prop),Iv σ->l.length<sizeLine->(pz x=true->∀σ3,Iv σ3->R σ3 (put H1 acc (.lst (l++[f x]))))->(pz x=false->∀σ3,Iv σ3->R σ3 (put H1 acc (.lst l))) ->
   g x σ (put H1 acc (.lst l)) fun σ3 H2=>tt σ3 H2 fun b H3=>cif b (te σ3 H3 fun y H4=>∃l',H4 acc=some (.lst l')/\l'.length<sizeLine/\R σ3 (put H4 acc (.lst (l'++[y])))) (R σ3 H3))
  (hq:Q (.ref acc) (put H1 acc (.lst ((xs.filter pz).map f)))) {σ:St'} (h0:Iv σ):cZ ok g tt te acc Q xs σ (put H1 acc (.lst [])):=by
 have key:∀(r d:List PV) (σ:St'),xs=d++r->Iv σ->cZ ok g tt te acc Q r σ (put H1 acc (.lst ((d.filter pz).map f))):=by
  intro r
  induction r with
  | nil =>
   intro d σ e hv;have:d=xs:=by rw[e,IF]
   subst this;exact⟨hok _,hq⟩
  | cons x r ih =>
   intro d σ e hv;have hd:((d.filter pz).map f).length<sizeLine:=by
    have h1:d.length+(r.length+1)=xs.length:=by rw[e,HN,Ig]
    have h2:=List.length_filter_le pz d;have:=aW (n:=1000) (by decide);rw[Hm];omega
   refine⟨hok _,hs x (by rw[e];simp) _ σ _ hv hd (fun hp σ3 h3=>?_) (fun hp σ3 h3=>?_)⟩
   ·have:=ih (d++[x]) σ3 (by rw[e];simp) h3;rw[List.filter_append,HW]at this;simpa[hp]using this
   ·have:=ih (d++[x]) σ3 (by rw[e];simp) h3;rw[List.filter_append,HW]at this;simpa[hp]using this
 exact key xs [] σ rfl h0
end
section
theorem FL:xU C f (.ref a) H Q=∃dx fs v,H a=some (.ins C dx fs)/\fs.lookup f=some v/\Q v H:=rfl
theorem GO:x8 C f (.ref a) y H Q=∃dx fs,H a=some (.ins C dx fs)/\fs.length<1000/\Q (put H a (.ins C dx (dM f y fs))):=rfl
theorem G3:isIn C m (.ref a) H=∃dx fs,H a=some (.ins C dx fs)/\fs.lookup m=none:=rfl
theorem G9:FQ [.ref a] H Q=∃bs:List Bool,H a=some (.lst (bs.map PV.bl))/\Q (.bl (bs.all id)) H:=rfl
end
end U
namespace SI
def subs:List (List Nat):=(List.range 64).map fun b=>(List.range 6).filter fun i=>b / 2 ^ i % 2==1
def tb(led:Bool)(L:List Nat):SetTable:={ mask:=if L.length≤4 then 7 else 31,place:=L.toArray,dummies:=#[],finger:=0,led:=led,moves:=if L.length≤4 then 0 else 1,plain:=true }
def pos(L:List Nat)(x:Nat):Nat:=(L.filter (·<x)).length
def ins(L:List Nat)(x:Nat):List Nat:=L.take (pos L x)++x::L.drop (pos L x)
def tp(led:Bool)(L:List Nat)(x:Nat):SetTable:={ tb led L with place:=(ins L x).toArray }
theorem Dj:∀led∈[true,false],∀L∈subs,∀x∈List.range 6,x∉L->(tb led L).freeSlot x=some (x,false)/\(tb led L).put x=(tp led L x,pos L x):=by decide +kernel
theorem Cb:∀led∈[true,false],∀L∈subs,∀x∈List.range 6,x∉L->(tp led L x).fits (ins L x).length=true/\(if L.length=4 then(tp led L x).tooFull=true/\(tp led L x).relaid ((ins L x).map Int.ofNat).toArray 20=some (tb led (ins L x),#[0,1,2,3,4])else(tp led L x).tooFull=false/\tp led L x=tb led (ins L x)):=by decide +kernel
theorem fI:∀L∈subs,(∀x∈L,x<6)/\L.length≤6/\L.Nodup/\(∀x∈List.range 6,x∉L->ins L x∈subs):=by decide +kernel
theorem pC:∀L∈subs,∀led∈[true,false],(tb led L).fits L.length=true/\SetTable.below L.toArray 0=0/\∀i∈List.range L.length,SetTable.below L.toArray (L.getD i 0+1)=i+1:=by decide +kernel
def ent(i:Nat)(tk:Tok):Int×Value:=((i:Int),.int (i:Int) tk)
def cf(es:Array (Int×Value))(L:List Nat):Prop:=∃tks:List Tok,tks.length=L.length/\es.toList=List.zipWith ent L tks
theorem cf.size(h:cf es L):es.size=L.length:=by
 obtain⟨tks,hl,e⟩:=h;rw[←Jd,e,List.length_zipWith,hl,Nat.min_self]
theorem cf.get{es:Array (Int×Value)}{L:List Nat}(h:cf es L){i:Nat}(hi:i<L.length):∃tk,es[i]?=some (ent (L.getD i 0) tk):=by
 obtain⟨tks,hl,e⟩:=h;refine⟨tks[i],?_⟩;rw[←Iu,e,List.getElem?_zipWith,Hn hi,Hn (by omega),Hq,Hn hi];rfl
theorem cf.mem(h:cf es L){e:Int×Value}(he:e∈es.toList):∃x∈L,∃tk,e=ent x tk:=by
 obtain⟨i,hi,rfl⟩:=List.mem_iff_getElem.mp he;have hi':i<L.length:=by rw[←h.size];simpa using hi
 obtain⟨tk,e⟩:=h.get hi';refine⟨L.getD i 0,by rw[Hq,Hn hi'];exact IH hi',tk,?_⟩;rw[HU (by simpa using hi)]at e;simpa using Im e
theorem cf.of(h:cf es L){x:Nat}(hx:x∈L):∃tk,ent x tk∈es.toList:=by
 obtain⟨i,hi,rfl⟩:=List.mem_iff_getElem.mp hx;obtain⟨tk,e⟩:=h.get hi;refine⟨tk,?_⟩;rw[Hq,Hn hi]at e;rw[←Iu]at e;exact Hz e
theorem cf.ins(h:cf es L)(x:Nat)(tk:Tok):cf (SetTable.insertAt es (pos L x) (ent x tk)) (SI.ins L x):=by
 obtain⟨tks,hl,e⟩:=h;refine⟨tks.take (pos L x)++tk::tks.drop (pos L x),?_,?_⟩
 ·unfold SI.ins;simp only[HN,Ig,Ij,List.length_drop];omega
 ·rw[SetTable.toList_insertAt,e];unfold SI.ins;rw[List.zipWith_append (by simp only[Ij];omega),J2,List.take_zipWith,List.drop_zipWith]
structure bV (h:Heap) (S:Addr) (led:Bool) (L:List Nat):Prop where
 is:L∈subs/\∃es ep,h.get? S=some { cls:=.type "set",dict:=none,data:=.set es ep (tb led L) }/\cf es L
theorem cw(led:Bool):led∈[true,false]:=by cases led<;>simp
theorem hE{α:Type}(es:Array α)(h:es.size=5):(#[0,1,2,3,4]:Array Nat).filterMap (es[·]?)=es:=by
 have e:=PySem.filterMap_getElem?_range es;rw[h]at e;apply Array.toList_inj.mp;rw[Array.toList_filterMap];exact e
section
variable {prog:Program}{w:World}{A:Around}{E:Value->Shared->Prop}{s:Shared}
theorem cf.elems(h:cf es L)(hL:L∈subs):ElemsOf (intKind prog w) es.toList:=fun e he=>by
 obtain⟨x,hx,tk,rfl⟩:=h.mem he;refine⟨⟨(x:Int),Kf _ _ _ _,?_⟩,rfl⟩;have:x<6:=(fI L hL).1 x hx;have hh:∀y∈List.range 6,((y:Nat):Int)=(intKind prog w).hash ((y:Nat):Int):=by
  intro y hy;have:y=0∨y=1∨y=2∨y=3∨y=4∨y=5:=by have:=IJ.mp hy;omega
  rcases this with rfl | rfl | rfl | rfl | rfl | rfl<;>rfl
 exact hh x (IJ.mpr this)
theorem eK(hx:x<6):(intKind prog w).hash ((x:Nat):Int)=((x:Nat):Int):=by
 have:x=0∨x=1∨x=2∨x=3∨x=4∨x=5:=by omega
 rcases this with rfl | rfl | rfl | rfl | rfl | rfl<;>rfl
theorem ik(hP:bV s.heap S led L)(hx:x<6)
  (h:∀b h' tks,Heap.SameBut S s.heap h'->bV h' S led (if x∈L then L else ins L x)->Q b { s with heap:=h',toks:=tks }):wpAny (model prog w) A (setAdd S (.int (x:Int) tk)) Q E s:=by
 obtain⟨hL,es,ep,ho,he⟩:=hP.is;unfold setAdd;refine Iy ?_;refine Hk ((intKind prog w).pyHash (k:=(x:Int)) (Kf _ _ _ _) ?_);rw[eK hx];generalize hs':({ s with toks:=s.toks+1 }:Shared)=s1;have e1:s1.heap=s.heap:=by rw[←hs']
 have hs1:∀hh':Heap,({ s1 with heap:=hh' }:Shared)={ s with heap:=hh',toks:=s1.toks }:=fun hh'=>by rw[←hs']
 have ho1:s1.heap.get? S=some { cls:=.type "set",dict:=none,data:=.set es ep (tb led L) }:=by rw[e1];exact ho
 have hf:(tb led L).fits es.size=true:=by rw[he.size];exact(pC L hL led (cw led)).1
 have hel:=he.elems (prog:=prog) (w:=w) hL;have h6:=(fI L hL).2.1;have hbd:es.size<scanBound:=by rw[he.size];unfold scanBound;omega
 have scan:∀{Q':ScanMet->Shared->Prop},Q' (match es.toList.findIdx? (fun e=>(intKind prog w).is ((x:Nat):Int) e.2)with | some j=>.found (0+j) | none=>.absent) s1->wpAny (model prog w) A (setScan S (.int ((x:Nat):Int) tk) ((x:Nat):Int) true es) Q' E s1:=by
  intro Q' hq;have:=wpAny_setScan_of (knd:=intKind prog w) (adding:=true) (x:=.int ((x:Nat):Int) tk) (k:=((x:Nat):Int)) (A:=A) (E:=E) (Q:=Q') (Kf _ _ _ _) ho1 rfl hf hel hq
  rwa [eK hx]at this
 unfold setAddHashed setAddHashedIn;refine Iy (Hk (IL ho1 rfl hf ?_));dsimp only;rw[byScan_of (knd:=intKind prog w) rfl hbd hel];simp only[↓reduceIte];unfold setAddByScan;refine Hk ?_;refine Hk (JW ?_);refine Hk (scan ?_);cases hr:List.findIdx? (fun e=>(intKind prog w).is ((x:Nat):Int) e.2) es.toList with
 | some j =>
  dsimp only;obtain⟨hj,hpj,_⟩:=List.findIdx?_eq_some_iff_getElem.mp hr;obtain⟨y,hy,tk',ee⟩:=he.mem (IH hj);have hxy:x=y:=by
   rw[ee]at hpj;have q:(intKind prog w).is ((x:Nat):Int) (.int ((y:Nat):Int) tk')=true:=hpj;have:=(intKind prog w).inj _ _ _ q (Kf _ _ _ _);omega
  subst hxy;refine Hl (Hl ?_);have:=h false s.heap s1.toks (Heap.SameBut.refl S s.heap) (by rw[HP hy];exact hP);have e:s1={ s with heap:=s.heap,toks:=s1.toks }:=by rw[←hs1];cases s1;simp only at e1;rw[e1]
  rw[e];exact this
 | none =>
  dsimp only;have hn:x∉L:=fun hm=>by
   obtain⟨tk',hm'⟩:=he.of hm;have:=List.findIdx?_eq_none_iff.mp hr _ hm';have q:(intKind prog w).is ((x:Nat):Int) (.int ((x:Nat):Int) tk')=true:=Kf _ _ _ _;have this':(intKind prog w).is ((x:Nat):Int) (.int ((x:Nat):Int) tk')=false:=this;rw[q]at this';cases this'
  obtain⟨f1,f2⟩:=Dj led (cw led) L hL x (IJ.mpr hx) hn;obtain⟨f3,f4⟩:=Cb led (cw led) L hL x (IJ.mpr hx) hn;have hins:=(fI L hL).2.2.2 x (IJ.mpr hx) hn;have hin2:=he.ins x tk;have hsz2:=hin2.size;have hln:(ins L x).length=L.length+1:=by unfold ins;simp only[HN,Ig,Ij,List.length_drop];omega
  have hlay:layNew (tb led L) es ((x:Nat):Int) (.int ((x:Nat):Int) tk)=(SetTable.insertAt es (pos L x) (ent x tk),tp led L x,false,false):=by
   unfold layNew;rw[f1];dsimp only;rw[f2];dsimp only;have e2:(tp led L x).fits (SetTable.insertAt es (pos L x) (ent x tk)).size=true:=by rw[hsz2];exact f3
   show(SetTable.insertAt es (pos L x) (ent x tk),(tp led L x).orStandIn (SetTable.insertAt es (pos L x) (ent x tk)).size,false,!(tp led L x).fits (SetTable.insertAt es (pos L x) (ent x tk)).size)=_;unfold SetTable.orStandIn;rw[HP e2,e2];rfl
  rw[hlay];dsimp only;refine Hk (Hl ?_);have hpl:(tp led L x).plain=true:=rfl;rw[hpl];simp only[↓reduceIte];refine Hk ?_;rw[hashByValue_scannable 8 (x:=.int ((x:Nat):Int) tk) rfl];refine Hl ?_;have hpk:plainKind (.int ((x:Nat):Int) tk)=true:=rfl;rw[hpk];simp only[↓reduceIte];have hz:(SetTable.insertAt es (pos L x) (ent x tk)).size≤sizeLine:=by rw[hsz2,hln,IA];omega
  refine Hk (JS ho1 rfl ?_ hz);have hg:(s1.heap.update S (Obj.putSet (SetTable.insertAt es (pos L x) (ent x tk)) (tp led L x))).get? S=some { cls:=.type "set",dict:=none,data:=.set (SetTable.insertAt es (pos L x) (ent x tk)) (ep+1) (tp led L x) } :=
   Iw _ ho1 rfl
  have sb1:Heap.SameBut S s.heap (s1.heap.update S (Obj.putSet (SetTable.insertAt es (pos L x) (ent x tk)) (tp led L x))):=by rw[e1];exact Ih ..
  by_cases h4:L.length=4
  ·rw[HP h4]at f4;rw[f4.1];simp only[JE,Bool.and_self,↓reduceIte];have hw:SetTable.grown (SetTable.insertAt es (pos L x) (ent x tk)).size=20:=by rw[hsz2,hln,h4];rfl
   have hmp:(SetTable.insertAt es (pos L x) (ent x tk)).map (·.1)=((ins L x).map Int.ofNat).toArray:=by
    obtain⟨tks,q1,q2⟩:=hin2;apply Array.toList_inj.mp;rw[Array.toList_map,q2];have gen:∀(L:List Nat) (tks:List Tok),tks.length=L.length->(List.zipWith ent L tks).map (·.1)=L.map Int.ofNat:=by
     intro L
     induction L with
     | nil=>intro tks _;rfl
     | cons a L ih =>
      intro tks hl;cases tks with
      | nil=>simp at hl
      | cons b tks=>simp only[J2,HV,ih tks (by simpa using hl)];rfl
    exact gen _ _ q1
   have h5:(SetTable.insertAt es (pos L x) (ent x tk)).size=5:=by rw[hsz2,hln,h4]
   have hrl:relayAll (tp led L x) (SetTable.insertAt es (pos L x) (ent x tk)) (SetTable.grown (SetTable.insertAt es (pos L x) (ent x tk)).size)=(SetTable.insertAt es (pos L x) (ent x tk),tb led (ins L x),false):=by
    unfold relayAll;rw[hw,hmp,f4.2];dsimp only;rw[hE _ h5];have c1:coversAll #[0,1,2,3,4] (SetTable.insertAt es (pos L x) (ent x tk)).size=true:=by rw[h5];decide +kernel
    have c2:(tb led (ins L x)).fits (SetTable.insertAt es (pos L x) (ent x tk)).size=true:=by rw[hsz2];exact(pC _ hins led (cw led)).1
    rw[c1,c2];rfl
   rw[hrl];dsimp only;refine Hk (Hl ?_);refine Hk (JS hg rfl ?_ hz);have hg3:=Iw (Obj.putSet (SetTable.insertAt es (pos L x) (ent x tk)) (tb led (ins L x))) hg rfl;refine Hl (Hl ?_);rw[hs1];refine h true _ _ (sb1.trans (Ih ..)) ?_;rw[HM hn];exact⟨hins,_,_,hg3,hin2⟩
  ·rw[HM h4]at f4;rw[f4.1];simp only[JE,Bool.and_false,HX,↓reduceIte];refine Hl (Hl ?_);rw[hs1];refine h true _ _ sb1 ?_;rw[HM hn];rw[f4.2]at hg;rw[f4.2];exact⟨hins,_,_,hg,hin2⟩
end
end SI
namespace SI
theorem slot_next:Slot "set_iterator" "__next__" "set_iterator.__next__":=.of (owner:="set_iterator") (n:="__next__") (by rw[typeLookup_type,JJ];kernel_rfl) (by decide +kernel) (by decide +kernel) (by decide +kernel) (by first | exact .inl (by decide +kernel) | exact .inr (by decide +kernel)) (by rw[isSubtype_type];kernel_rfl)
theorem nT:Slot "set_iterator" "__iter__" "set_iterator.__iter__":=.of (owner:="set_iterator") (n:="__iter__") (by rw[typeLookup_type,JJ];kernel_rfl) (by decide +kernel) (by decide +kernel) (by decide +kernel) (by first | exact .inl (by decide +kernel) | exact .inr (by decide +kernel)) (by rw[isSubtype_type];kernel_rfl)
theorem entry_next:entryFor table "set_iterator.__next__"=some Builtin.«set_iterator.__next__»:=entryFor_of_tree (by kernel_rfl)
theorem tP:entryFor table "set_iterator.__iter__"=some Builtin.«dict_keyiterator.__iter__»:=entryFor_alias (id':="dict_keyiterator.__iter__") (by kernel_rfl) rfl (by decide +kernel) (by kernel_rfl)
theorem mK:entryFor table "set.__iter__"=some Builtin.«frozenset.__iter__»:=entryFor_alias (id':="frozenset.__iter__") (by kernel_rfl) rfl (by decide +kernel) (by kernel_rfl)
theorem hG{α:Type}:∀(l:List α) (i:Nat) (h:i<l.length),(l[i]::l.eraseIdx i).Perm l
 | x::l,0,_=>List.Perm.refl _
 | x::l,i+1,h=>by
  have ih:=hG l i (by simpa using h);have h':i<l.length:=by simpa using h
  show(l[i]::x::l.eraseIdx i).Perm (x::l);exact(List.Perm.swap _ _ _).trans (ih.cons x)
theorem args_next(a:Value):argsOk "set_iterator.__next__" ⟨[a],[]⟩:=by unfold argsOk;kernel_rfl
theorem vD(a:Value):argsOk "set_iterator.__iter__" ⟨[a],[]⟩:=by unfold argsOk;kernel_rfl
def mC(h:Heap)(it S:Addr)(k i n ep:Nat):Prop:=h.get? it=some { cls:=.type "set_iterator",data:=.fields #[.int k 0,.int i 0,.ref S,.int n 0,.int ep 0] }
theorem mC.ty{s:Shared}(h:mC s.heap it S k i n ep):s.TypeIs (.ref it) "set_iterator":=⟨_,h,rfl⟩
theorem fB{α:Type}(next:Nat->Nat):∀(f k:Nat) (l:List α) (out:Array α),f=l.length->(pickOrder.go next f k l out).toList.Perm (out.toList++l)
 | 0,k,l,out,h=>by
  have:l=[]:=Jz.mp h.symm;subst this;show out.toList.Perm _;rw[IF]
 | f+1,k,l,out,h=>by
  have hlt:next k % l.length<l.length:=Nat.mod_lt _ (by omega)
  unfold pickOrder.go;rw[Hn hlt];dsimp only;refine(fB next f (k+1) _ _ (by rw[List.length_eraseIdx_of_lt hlt];omega)).trans ?_;rw[Array.toList_push,List.append_assoc];refine List.Perm.append_left _ ?_;exact hG l _ hlt
def walk(w:World)(S:Addr)(es:Array (Int×Value))(ep:Nat):Array (Int×Value):=if w.params.followText "set-order"=true then pickOrder (w.params.setOrder S ep) es else es
theorem cG(w:World)(S:Addr)(es:Array (Int×Value))(ep:Nat):(walk w S es ep).toList.Perm es.toList:=by
 unfold walk;split
 ·have:=fB (w.params.setOrder S ep) es.size 0 es.toList #[] (by simp);simpa[pickOrder]using this
 ·exact List.Perm.refl _
theorem cD(w:World)(S:Addr)(es:Array (Int×Value))(ep:Nat):(walk w S es ep).size=es.size:=by
 have:=(cG w S es ep).length_eq;simpa using this
def slotAt(w:World)(L:List Nat)(i:Nat):Nat:=if w.params.followText "set-order"=true then 0 else if i=0 then 0 else L.getD (i - 1) 0+1
section
variable {prog:Program}{w:World}{A:Around}{E:Value->Shared->Prop}{s:Shared}
def ax(w:World):Bool:=!w.params.followText "set-order"
structure Tb (t:SetTable) (led:Bool) (L:List Nat):Prop where
 pl:t.plain=true
 ld:t.led=led
 pc:t.place=L.toArray
 dm:t.dummies=#[]
 fg:t.finger=0
 ft:t.fits L.length=true
theorem yC(hL:L∈subs):Tb (tb led L) led L:=⟨rfl,rfl,rfl,rfl,rfl,(pC L hL led (cw led)).1⟩
structure dD (h:Heap) (S:Addr) (led:Bool) (L:List Nat):Prop where
 is:L∈subs/\∃es ep t,h.get? S=some { cls:=.type "set",dict:=none,data:=.set es ep t }/\Tb t led L/\cf es L
theorem bV.j(x:bV h S led L):dD h S led L:=by
 obtain⟨hL,es,ep,ho,he⟩:=x.is;exact⟨hL,es,ep,_,ho,yC hL,he⟩
theorem below_at(hL:L∈subs)(hb:¬w.params.followText "set-order"=true){i:Nat}(hi:i≤L.length):SetTable.below L.toArray (slotAt w L i)=i:=by
 unfold slotAt;rw[HM hb];obtain⟨_,a,b⟩:=pC L hL true (by simp);cases i with
 | zero=>exact a
 | succ i =>
  rw[HM (by omega)];exact b i (IJ.mpr (by omega))
theorem uf(ht:Tb t (ax w) L)(hL:L∈subs)(ho:s.heap.get? S=some { cls:=.type "set",dict:=none,data:=.set es ep t })(he:cf es L)
  (hQ:Q (.ref s.heap.objs.size) { s with heap:=s.heap.push { cls:=.type "set_iterator",data:=.fields #[.int 0 0,.int 0 0,.ref S,.int es.size 0,.int ep 0] } }):wpAny (model prog w) A (pyIter (.ref S)) Q E s:=by
 have ty:s.TypeIs (.ref S) "set":=⟨_,ho,rfl⟩;have hf:t.fits es.size=true:=by rw[he.size];exact ht.ft
 refine wpAny_pyIter_slot ty F.slot_set_iter (Ik F.slot_set_iter ty mK ?_ (F.args_set_iter_1 _));unfold Builtin.«frozenset.__iter__» Builtin.Frozenset.slot0;refine Hk (Hk (Hl (Hl ?_)));unfold Builtin.Frozenset.sizeOf;refine Hk (Hk (Jl ho rfl hf (Hl ?_)));unfold setDrawn setsByText;refine Hk (Hk (IL ho rfl hf ?_));dsimp only;refine Hk (Hk (Jq (Hl (Hl ?_))));refine IG (fun hx=>?_) (fun _=>Hk (Hl ?_))
 ·exfalso;have hx':(!(w.params.followText "set-order")&&(!t.plain&&decide (es.size>1)))=true:=hx;have hp:t.plain=true:=ht.pl;rw[hp]at hx';simp at hx'
 ·refine Hk (wpAny_setEpoch_of ho rfl hf ?_);simp only[newFields];refine Hk (Io (Hl ⟨_,rfl,"set_iterator",_,⟨_,Hv _ rfl,rfl⟩,slot_next.lookup,?_⟩));exact hQ
theorem lI(ht:Tb t (ax w) L)(hL:L∈subs)(ho:s.heap.get? S=some { cls:=.type "set",dict:=none,data:=.set es ep t })(he:cf es L)(hi:i≤es.size)
  (hq:Q' (((walk w S es ep)[i]?).map fun e=>(e.2,slotAt w L (i+1))) s):wpAny (model prog w) A (setNext S (slotAt w L i) i ep) Q' E s:=by
 have hf:t.fits es.size=true:=by rw[he.size];exact ht.ft
 unfold setNext;refine Hk (IL ho rfl hf ?_);dsimp only;unfold setsByText;refine Hk (Hk (Jq (Hl ?_)));refine IG (fun hb=>?_) (fun hb=>?_)
 ·have hb':w.params.followText "set-order"=true:=hb;refine IG (fun hx=>absurd hx (by simp)) (fun _=>?_);unfold setWalk setsByText;refine Hk (Hk (IL ho rfl hf ?_));dsimp only;refine Hk (Hk (Jq (Hl ?_)));refine IG (fun _=>?_) (fun hc=>absurd hb hc);refine Hk (Jq (Hl (Hl ?_)));unfold walk slotAt at hq;rw[HP hb',HP hb']at hq;unfold slotAt;rw[HP hb'];exact hq
 ·have hb':¬w.params.followText "set-order"=true:=hb;refine IG (fun hx=>?_) (fun _=>?_)
  ·exfalso;have hx':(!t.plain&&decide (es.size>1))=true:=hx;have hp:t.plain=true:=ht.pl;rw[hp]at hx';simp at hx'
  ·have hled:ax w=true:=by unfold ax;simpa using hb'
   refine Hk ?_;refine(show wpAny (model prog w) A (if (!t.led&&!es.isEmpty)=true then unsupported "set:maker-not-led" else pure ()) _ E s from ?_);refine IG (fun hx=>?_) (fun _=>Hl (Hl ?_))
   ·exfalso;have hl2:t.led=true:=ht.ld.trans hled;rw[hl2]at hx;simp at hx
   ·have hbl:=below_at (w:=w) hL hb' (i:=i) (by rw[←he.size];exact hi);have hpl:t.place=L.toArray:=ht.pc;rw[hpl,hbl];unfold walk at hq;rw[HM hb']at hq;by_cases hlt:i<es.size
    ·have hlt2:i<L.length:=by rw[←he.size];exact hlt
     rw[HU hlt]at hq ⊢;have e2:L.toArray[i]?=some L[i]:=by simp[hlt2]
     rw[e2];unfold slotAt at hq;rw[HM hb',HM (by omega),Nat.add_sub_cancel,Hq,Hn hlt2]at hq;exact hq
    ·rw[II (by omega)]at hq ⊢;exact hq
theorem next_item(ht:Tb t (ax w) L)(hL:L∈subs)(ho:s.heap.get? S=some { cls:=.type "set",dict:=none,data:=.set es ep t })(he:cf es L)
  (hit:mC s.heap it S (slotAt w L i) i es.size ep) (hx:(walk w S es ep)[i]?=some e)
  (hQ:∀h',mC h' it S (slotAt w L (i+1)) (i+1) es.size ep->Heap.SameBut it s.heap h'->Q (some e.2) { s with heap:=h' }):wpAny (model prog w) A (pyNext (.ref it)) Q E s:=by
 have hf:t.fits es.size=true:=by rw[he.size];exact ht.ft
 have hi:i<es.size:=by
  rw[←cD w S es ep];exact(Array.getElem?_eq_some_iff.mp hx).1
 unfold pyNext;refine Hk (Ke (IB (name:=Str.ofString "__next__") hit.ty slot_next (Ik slot_next hit.ty entry_next ?_ (args_next _))));unfold Builtin.«set_iterator.__next__»;refine Hk (Hl ?_);refine Hk (wpAny_fieldsOf hit rfl ?_);dsimp only;refine Hk (Jl ho rfl hf ?_);rw[HM (by simp)];simp only[Int.toNat_natCast];refine Hk (lI ht hL ho he (by omega) ?_);rw[hx];dsimp only[Option.map_some];refine Hk (Kh hit rfl (by simp) ?_);have h1:=Iw (Obj.mapFields (·.setIfInBounds 0 (rawInt ((slotAt w L (i+1):Nat):Int)))) hit rfl;refine Hk (Kh h1 rfl (by simp[Obj.mapFields]) ?_);have h2:=Iw (Obj.mapFields (·.setIfInBounds 1 (rawInt ((i:Nat)+1:Int)))) h1 rfl;refine Hl ⟨_,rfl,Hl (hQ _ ?_ ((Ih ..).trans (Ih ..)))⟩;exact h2
theorem next_end(hh:A.handled=none){t:SetTable}(ht:Tb t (ax w) L)(hL:L∈subs)(ho:s.heap.get? S=some { cls:=.type "set",dict:=none,data:=.set es ep t })(he:cf es L)
  (hit:mC s.heap it S (slotAt w L es.size) es.size es.size ep) (hQ:∀h',Heap.ExtBut it s.heap h'->Q none { s with heap:=h' }):wpAny (model prog w) A (pyNext (.ref it)) Q E s:=by
 have hf:t.fits es.size=true:=by rw[he.size];exact ht.ft
 unfold pyNext;refine Hk (Ke (IB (name:=Str.ofString "__next__") hit.ty slot_next (Ik slot_next hit.ty entry_next ?_ (args_next _))));unfold Builtin.«set_iterator.__next__»;refine Hk (Hl ?_);refine Hk (wpAny_fieldsOf hit rfl ?_);dsimp only;refine Hk (Jl ho rfl hf ?_);rw[HM (by simp)];simp only[Int.toNat_natCast];refine Hk (lI ht hL ho he (Hr _) ?_);rw[II (by rw[cD];exact Hr _)];dsimp only[Option.map_none];refine Hk (Kh hit rfl (by simp) ?_);refine Hk ?_;simp only[newExc,newTuple];refine Hk (Io (Hk (m:=firstArgMember _ _) (wpAny_of_eq (a:=Value.none) (by first | rfl |(simp only[firstArgMember];rfl)) (Io ?_ (by size_fits)))) (by size_fits));simp only[raiseNew];refine Hk (wpAny_handled ?_);have hh1:A.in1.handled=none:=hh;rw[hh1];refine Hk (Hl (wpAny_throw ?_));refine Hk (IE (T:="StopIteration") (b:=true) ⟨_,Hv _ rfl,rfl⟩ isSubtype_stop (Hl (hQ _ (((Ih ..).extBut.push _).push _))))
theorem o8(hh:A.handled=none){I S:Addr}{L:List Nat}{es:Array (Int×Value)}{ep:Nat}{t:SetTable}(ht:Tb t (ax w) L)(hne:S≠I)(hL:L∈subs)(he:cf es L) :
  Walks prog w A I [I,S] [I] es.size (fun i v=>∃e,(walk w S es ep)[i]?=some e/\v=e.2) (fun i h=>mC h I S (slotAt w L i) i es.size ep/\h.get? S=some { cls:=.type "set",dict:=none,data:=.set es ep t }) where
 sub:=fun b hb=>by simp at hb;simp[hb]
 frame:=fun _ _ _ st hk=>⟨hk I (by simp) _ st.1,hk S (by simp) _ st.2⟩
 item:=fun i s Q E hi st hQ=>by
  have hw:i<(walk w S es ep).size:=by rw[cD];exact hi
  have hx:(walk w S es ep)[i]?=some (walk w S es ep)[i]:=HU hw;refine next_item ht hL st.2 he st.1 hx fun h' it' sb=>?_;exact hQ _ h' s.toks ⟨_,hx,rfl⟩ ⟨it',sb.extBut S _ hne st.2⟩ fun b o hb e=>sb.extBut b o (fun h=>hb (by simp[h])) e
 done:=fun s Q E st hQ=>next_end hh ht hL st.2 he st.1 fun h' eb=>hQ h' s.toks fun b o hb e=>eb b o (fun h=>hb (by simp[h])) e
 self:=fun i s Q E st hQ=>by
  refine wpAny_pyIter_slot st.1.ty nT (Ik nT st.1.ty tP ?_ (vD _));show wpAny _ _ (ret (.ref I)) _ _ s;exact Hl ⟨_,rfl,"set_iterator",_,st.1.ty,slot_next.lookup,hQ⟩
def add(L:List Nat)(x:Nat):List Nat:=if x∈L then L else ins L x
def lof(ns:List Nat):List Nat:=ns.foldl add []
theorem uP:y∈ins L x↔y=x∨y∈L:=by
 unfold ins;rw[Ii,Hy];have:y∈L↔y∈L.take (pos L x)∨y∈L.drop (pos L x):=by
  rw[←Ii,List.take_append_drop]
 rw[this];constructor
 ·rintro(h | h | h)
  ·exact .inr (.inl h)
  ·exact .inl h
  ·exact .inr (.inr h)
 ·rintro(h | h | h)
  ·exact .inr (.inl h)
  ·exact .inl h
  ·exact .inr (.inr h)
theorem nL:y∈add L x↔y=x∨y∈L:=by
 unfold add;split
 ·rename_i h;exact⟨.inr,fun q=>q.elim (fun e=>e▸h) id⟩
 ·exact uP
theorem kJ{y:Nat}:∀(ns L:List Nat),y∈ns.foldl add L↔y∈ns∨y∈L
 | [],L=>by simp
 | n::ns,L=>by
  rw[List.foldl_cons,kJ ns,nL,Hy];constructor
  ·rintro(h | h | h)
   ·exact .inl (.inr h)
   ·exact .inl (.inl h)
   ·exact .inr h
  ·rintro((h | h) | h)
   ·exact .inr (.inl h)
   ·exact .inl h
   ·exact .inr (.inr h)
theorem iM:[]∈subs:=by decide +kernel
theorem gU:y∈lof ns↔y∈ns:=by
 unfold lof;rw[kJ];simp
theorem lR{ns:List Nat}(h:i<ns.length):lof (ns.take (i+1))=add (lof (ns.take i)) ns[i]:=by
 unfold lof;rw[Ip,Hn h,List.foldl_append];rfl
end
end SI
namespace SI
section
variable {prog:Program}{w:World}{A:Around}{E:Value->Shared->Prop}{s:Shared}
def kZ(vs:List Value)(ns:List Nat):Prop:=vs.length=ns.length/\∀(i:Nat) (v:Value),vs[i]?=some v->∃tk,v=Value.int ((ns.getD i 0:Nat):Int) tk
theorem DD(hh:A.in1.handled=none)(hT:kZ vs ns)(hin:∀n∈ns,n<6)(hSI:S≠I)(hSl:S≠l)(hlI:l≠I) :
  ∀(k i:Nat) (s:Shared),ns.length - i=k->i≤ns.length->s.heap.IsListIter I l i->s.heap.IsList l vs.toArray->bV s.heap S led (lof (ns.take i)) ->
   (∀h' tk,(∀b o,b≠S->b≠I->s.heap.get? b=some o->h'.get? b=some o)->bV h' S led (lof ns)->R (.ok (.ret .none)) { s with heap:=h',toks:=tk }) ->
   codeAny (model prog w) A (.builtin "set.update.loop" ⟨[.ref S,.ref I],[]⟩) R s:=by
 intro k
 induction k with
 | zero =>
  intro i s hk hi hit hl hP hR;have e:i=ns.length:=by omega
  subst e;rw[Iq]at hP;refine Je F.entry_set_update_loop ?_;rw[IM JA _];show wpAny _ A.in1 (pyNext (.ref I) >>= _) _ _ s;refine Hk (wpAny_pyNext_list_end hh hit hl (by simp[hT.1]) fun h' eb=>?_);show wpAny _ A.in1 (ret Value.none) _ _ _;refine Hl (hR h' s.toks (fun b o _ hb e=>eb b o hb e) ?_);obtain⟨hL,es,ep,ho,r⟩:=hP.is;exact⟨hL,es,ep,eb S _ hSI ho,r⟩
 | succ k ih =>
  intro i s hk hi hit hl hP hR;have hlt:i<ns.length:=by omega
  have hvl:i<vs.length:=by rw[hT.1];exact hlt
  have hvi:vs[i]?=some vs[i]:=Hn hvl;obtain⟨tk,ev⟩:=hT.2 i _ hvi;have en:ns.getD i 0=ns[i]:=by rw[Hq,Hn hlt];rfl
  rw[en]at ev;refine Je F.entry_set_update_loop ?_;rw[IM JA _];show wpAny _ A.in1 (pyNext (.ref I) >>= _) _ _ s;refine Hk (wpAny_pyNext_list_item hit hl (x:=Value.int ((ns[i]:Nat):Int) tk) (by rw[←ev];simp) fun h1 hit1 sb1=>?_);have k1:∀b o,b≠I->s.heap.get? b=some o->h1.get? b=some o:=fun b o hb e=>sb1.extBut b o hb e;have hP1:bV h1 S led (lof (ns.take i)):=by
   obtain⟨hL,es,epo,ho,r⟩:=hP.is;exact⟨hL,es,epo,k1 S _ hSI ho,r⟩
  show wpAny _ A.in1 (holding [Value.int ((ns[i]:Nat):Int) tk] (setAdd S (Value.int ((ns[i]:Nat):Int) tk)) >>= _) _ _ _;refine Hk (Iy (ik (A:=A.in1) hP1 (hin _ (IH hlt)) fun b h2 tk2 sb2 hP2=>?_));have k2:∀b o,b≠S->h1.get? b=some o->h2.get? b=some o:=fun b o hb e=>sb2.extBut b o hb e;have hP3:bV h2 S led (lof (ns.take (i+1))):=by rw[lR hlt];exact hP2
  refine Hl ⟨plainId_quiet JA _,ih (i+1) { s with heap:=h2,toks:=tk2 } (by omega) (by omega) (hit1.extBut (fun b o hb e=>k2 b o hb e) (Ne.symm hSI)) ?_ hP3 ?_⟩
  ·exact(hl.extBut (fun b o hb e=>k1 b o hb e) hlI).extBut (fun b o hb e=>k2 b o hb e) (Ne.symm hSl)
  ·intro h3 tk3 kp hP4;exact hR h3 tk3 (fun b o hb hb' e=>kp b o hb hb' (k2 b o hb (k1 b o hb' e))) hP4
theorem nE(a:Value){Q₁:Value->Shared->Prop}(h:Q₁ (.ref s.heap.objs.size) { s with heap:=s.heap.push { cls:=.type "set",dict:=none,data:=.set #[] 0 (.fresh 0 0 (ax w)) } }) :
  codeAny (model prog w) A (.call (.builtin "set.__new__") ⟨[.type "set",a],[]⟩) (wants Q₁ E) s:=by
 refine codeAny_of_tree ?_;show wpAny (model prog w) A.in1 (do checkBuiltinCall "set.__new__" ⟨[.type "set",a],[]⟩;again (.builtin "set.__new__" ⟨[.type "set",a],[]⟩)) _ _ _;refine Hk (wpAny_of_eq (F.newCall_set_1 a) (Hl ⟨plainId_quiet F.plain_set_new _,?_⟩));refine Je F.entry_set_new ?_;rw[IM F.plain_set_new _];unfold Builtin.«set.__new__»;unfold Builtin.Frozenset.newClass;have sub1:=sub_set_self;obtain⟨hp,g,d,tk,os⟩:=s;dsimp only
 wp_walk
 refine Jq (Hl ?_);dsimp only;simp only[newObj];refine Hk (wpAny_alloc (Hl (Hl ?_)));exact h
set_option maxHeartbeats 4000000 in
theorem iS(hh:A.handled=none)(hl:s.heap.IsList l vs.toArray)(hT:kZ vs ns)(hin:∀n∈ns,n<6)
  (h:∀h' tk,(∀b o,b<s.heap.objs.size->s.heap.get? b=some o->h'.get? b=some o)->bV h' s.heap.objs.size (ax w) (lof ns)->Q (.ref s.heap.objs.size) { s with heap:=h',toks:=tk }) :
  wpAny (model prog w) A (call (.type "set") [.ref l]) Q E s:=by
 obtain⟨c0,tl0,mro0⟩:=F.called_set.mro;have made0:=F.called_set.made;have sub0:=F.called_set.sub;have nt0:=F.called_set.notType;have cc0:=F.called_set.canCreate;have tc0:=F.typeCall_set_1 (.ref l);refine wpAny_call (codeAny_of_tree ?_);show wpAny (model prog w) _ (callAny (.type "set") _) _ _ _;refine Hl ⟨Code.quiet_builtin _ (by decide +kernel),Je F.entry_type_call ?_⟩;rw[Around.under_plain (weight_type_call_type "set" [.ref l] []) rfl]
 repeat (any_goals (first | assumption | wp_step))
 refine Kj (nE (.ref l) (E:=E) (Q₁:=fun obj s1=>obj=.ref s.heap.objs.size /\
  s1={ s with heap:=s.heap.push { cls:=.type "set",dict:=none,data:=.set #[] 0 (.fresh 0 0 (ax w)) } }) ⟨rfl,rfl⟩) fun r s1 hr=>?_
 cases r with
 | error e=>exact hr
 | ok fl =>
  cases fl with
  | ret obj =>
   obtain⟨rfl,rfl⟩:=hr;generalize hH:s.heap.push { cls:=.type "set",dict:=none,data:=.set #[] 0 (.fresh 0 0 (ax w)) }=H1;have hS:H1.get? s.heap.objs.size=some { cls:=.type "set",dict:=none,data:=.set #[] 0 (.fresh 0 0 (ax w)) }:=by rw[←hH];exact Hv _ rfl
   have old:∀b o,s.heap.get? b=some o->H1.get? b=some o:=fun b o e=>by rw[←hH];exact Ho _ e
   have hsz:H1.objs.size=s.heap.objs.size+1:=by rw[←hH,Ji]
   have tyS:Shared.TypeIs { s with heap:=H1 } (.ref s.heap.objs.size) "set":=⟨_,hS,rfl⟩;have li0:=F.called_set.init.lookup;have bi0:=F.called_set.init.bind (.ref s.heap.objs.size)
   repeat (any_goals (first | assumption | wp_step))
   refine Kj (codeAny_call_builtin (R:=wants (fun r s2=>r=.none/\∃h' tk,s2={ s with heap:=h',toks:=tk }/\bV h' s.heap.objs.size (ax w) (lof ns) /\
    (∀b o,b<s.heap.objs.size->s.heap.get? b=some o->h'.get? b=some o)) E) F.called_set.init.plain F.entry_set_init (check_set_init_1 tyS ?_)) fun r2 s2 hr2=>?_
   ·obtain⟨ol,hol,hcl,nl,hdl⟩:=hl;obtain⟨oc,od,oda,osl⟩:=ol;simp only at hcl hdl;subst hcl;subst hdl;have hol1:H1.get? l=some { cls:=.type "list",dict:=od,data:=.seq vs.toArray nl,slots:=osl }:=old _ _ hol;have sls:=F.sub_list_set;have slf:=F.sub_list_frozenset;have nld:(Value.type "list"==Value.type "dict")=false:=by decide
    have hl1:H1.IsList l vs.toArray:=⟨_,hol1,rfl,nl,rfl⟩;have llt:l<s.heap.objs.size:=Hu hol;unfold Builtin.«set.__init__» noKeywords Builtin.Frozenset.updateFrom;generalize hPI:pyIter=PI
    wp_walk
    subst hPI;refine wpAny_pyIter_list hl1 ?_;refine Hk (wpAny_runValue ?_);generalize hH2:H1.push { cls:=.type "list_iterator",data:=.fields #[.ref l,.int 0 0] }=H2;have old2:∀b o,H1.get? b=some o->H2.get? b=some o:=fun b o e=>by rw[←hH2];exact Ho _ e
    refine DD (l:=l) (ns:=ns) (vs:=vs) (led:=ax w) (by simp[hh]) hT hin (by show s.heap.objs.size≠H1.objs.size;rw[hsz];exact HQ (Nat.lt_succ_self _)) (Jp llt) (by show l≠H1.objs.size;rw[hsz];exact HQ (JR llt)) ns.length 0 _ (by omega) (JG _) ?_ ?_ ?_ ?_
    ·rw[←hH2];exact⟨_,Hv _ rfl,rfl,rfl⟩
    ·exact⟨_,old2 _ _ hol1,rfl,nl,rfl⟩
    ·refine⟨iM,#[],0,old2 _ _ hS,[],rfl,rfl⟩
    ·intro h' tk kp hP;show wpAny _ _ (pure ()) _ _ _;refine Hl ?_;show wpAny _ _ (ret Value.none) _ _ _;refine Hl ⟨rfl,h',tk,rfl,hP,fun b o hb e=>?_⟩;refine kp b o (HQ hb) ?_ (old2 _ _ (old _ _ e));show b≠H1.objs.size;rw[hsz];exact HQ (JR hb)
   ·cases r2 with
    | error e=>exact hr2
    | ok f2 =>
     cases f2 with
     | ret r =>
      obtain⟨rfl,h',tk,rfl,hP,hk⟩:=hr2
      repeat (any_goals (first | assumption | wp_step))
      exact h _ _ hk hP
     | _=>exact hr2.elim
  | _=>exact hr.elim
theorem qZ(hT:s.TypeIs (.ref r) "set")(h:Q false s):wpAny (model prog w) A (Builtin.List.listLengthHint (.ref r)) Q E s:=by
 unfold Builtin.List.listLengthHint;refine Hk (Jw hT PySem.F.slot_set_len.lookup ?_);generalize hid:("set.__len__":String)=id0
 wp_delta
 rw[show splitId id0=some ("set","__len__")from by subst hid;decide +kernel];subst hid;refine Hk (IE (T:="set") (b:=true) hT (by rw[isSubtype_type];kernel_rfl) (IG (fun hab=>absurd hab (by decide)) (fun _=>IG (fun _=>?_) (fun hab=>absurd (by decide +kernel) hab))));exact Hk (Kk hT (Hl h))
theorem xG(ht:Tb t (ax w) L)(hL:L∈subs)(he:cf es L) :
  PySem.W.KdlSrc prog w "set" S S es.size (fun i v=>∃e,(walk w S es ep)[i]?=some e/\v=e.2) (fun h=>h.get? S=some { cls:=.type "set",dict:=none,data:=.set es ep t }) where
 type:=fun s ho=>⟨_,ho,rfl⟩
 there:=fun h ho=>⟨Hu ho,Hu ho⟩
 keep:=fun h h' ho k=>k S (.inl rfl) _ ho
 notList:=by decide
 notTuple:=by decide
 hint:=fun A E s Q ho q=>qZ ⟨_,ho,rfl⟩ q
 iter:=fun A s hh ho=>⟨_,_,fun E Q q=>uf ht hL ho he q,o8 hh ht (HQ (Hu ho)) hL he,⟨by
  show mC _ _ _ (slotAt w L 0) 0 _ _;have:slotAt w L 0=0:=by unfold slotAt;split<;>rfl
  rw[this];exact Hv _ rfl,Ho _ ho⟩⟩
theorem lF(hh:A.handled=none){t:SetTable}(ht:Tb t (ax w) L)(hL:L∈subs)(he:cf es L)(ho:s.heap.get? S=some { cls:=.type "set",dict:=none,data:=.set es ep t })
  (h:∀h' tk,s.heap.objs.size<h'.objs.size->(∀b o,s.heap.get? b=some o->h'.get? b=some o)->Q ((walk w S es ep).toList.map (·.2)) { s with heap:=h',toks:=tk }):wpAny (model prog w) A (collect (.ref S)) Q E s:=by
 have hlt:S<s.heap.objs.size:=Hu ho;have h6:=(fI L hL).2.1;generalize hN:s.heap.objs.size=N;have hNS:N≠S:=by rw[←hN];exact Jp hlt
 have key:∀R:Result->Shared->Prop,(∀h' tk acc c,(∀b o,s.heap.get? b=some o->h'.get? b=some o)->h'.get? N=some { cls:=.type "list",dict:=none,data:=.seq acc c,slots:=#[] } ->
   ItemsOf (fun i v=>∃e,(walk w S es ep)[i]?=some e/\v=e.2) acc es.size->R (.ok (.ret (.ref N))) { s with heap:=h',toks:=tk })->codeAny (model prog w) A (.builtin "proto.collect" ⟨[.ref S],[]⟩) R s:=by
  intro R hR;refine Je PyProof.Rows.entry_proto_collect' ?_;rw[IM PySem.F.plain_proto_collect _];show wpAny (model prog w) A.in1 (newList [] >>= fun l=>again (.builtin "list.__iadd__" ⟨[l,.ref S],[]⟩)) _ _ s;refine Hk (Io ?_);refine Hl ⟨plainId_quiet PySem.F.plain_list_iadd _,Je PySem.F.entry_list_iadd ?_⟩;rw[IM PySem.F.plain_list_iadd _];rw[hN];show wpAny (model prog w) A.in1 (Builtin.List.listExtendWith (.ref N) (.ref S) (.ref N)) _ _ _;have hS:(s.heap.push { cls:=.type "list",data:=.seq ([]:List Value).toArray }).get? N=some { cls:=.type "list",data:=.seq #[] 0 }:=by rw[←hN];exact Hv _ rfl
  refine PySem.W.kdl_extend (s:={ s with heap:=s.heap.push { cls:=.type "list",data:=.seq ([]:List Value).toArray } }) (xG (ep:=ep) ht hL he) (by simpa using hh) (Ho _ ho) N hNS hNS (.ref N) 0 hS (fun h' tk acc c kp hS' hacc=>?_) (by rw[he.size,IA];omega);exact hR h' tk acc c (fun b o q=>kp b o (by rw[←hN];exact HQ (Hu q)) (Ho _ q)) hS' hacc
 unfold collect;refine Hk (wpAny_runValue (key _ fun h' tk acc c kp hS' hacc=>?_));show wpAny (model prog w) A (load N >>= _) _ _ _;refine Hk (wpAny_load hS' ?_);refine Hl ?_;have e:acc.toList=(walk w S es ep).toList.map (·.2):=by
  apply List.ext_getElem?;intro j;by_cases hj:j<acc.size
  ·obtain⟨e,e1,e2⟩:=hacc.2 j _ (HU hj);rw[Iu,HU hj,Ht,Iu,e1,e2];rfl
  ·have hz:(walk w S es ep).size≤j:=by rw[cD];have:=hacc.1;omega
   rw[Iu,II (by omega),Ht,Iu,II hz];rfl
 show Q acc.toList _;rw[e];exact h h' tk (by rw[hN];exact Hu hS') kp
theorem mi(hh:A.handled=none)(hP:dD s.heap S (ax w) L)
  (h:∀(r:Addr) (h':Heap) (tk n:Nat) (out:List Value) (ms:List Int),s.heap.objs.size≤r->(∀b o,s.heap.get? b=some o->h'.get? b=some o)->h'.get? r=some (seqObj "list" out.toArray n)->IntsAre out ms->ms.Pairwise (·≤·)->ms.Perm (L.map fun(i:Nat)=>(i:Int))->Q (.ref r) { s with heap:=h',toks:=tk }) :
  wpAny (model prog w) A (call (.builtin "sorted") [.ref S]) Q E s:=by
 obtain⟨hL,es,ep,t,ho,ht,he⟩:=hP.is;have h6:=(fI L hL).2.1;refine Calls.call_function_entry kind_sorted plain_sorted entry_sorted (args_sorted1 _) ?_;unfold Builtin.«sorted»;refine Hk (m:=checkCount "sorted" 1 1 _) (Hl ?_);refine Hk (lF (by simpa using hh) ht hL he ho fun h1 tk1 hgt k1=>?_);have hil:∃ns:List Int,IntsAre ((walk w S es ep).toList.map (·.2)) ns/\ns.Perm (L.map fun(i:Nat)=>(i:Int)):=by
  have hp:=cG w S es ep;obtain⟨tks,q1,q2⟩:=he;have gen:∀(l:List (Int×Value)),(∀e∈l,∃x tk,e=ent x tk)->IntsAre (l.map (·.2)) (l.map (·.1)):=by
   intro l
   induction l with
   | nil=>intro _;exact .nil
   | cons e l ih =>
    intro hm;obtain⟨x,tk,rfl⟩:=hm e HL;exact .cons _ _ (ih fun e he=>hm e (HH _ he))
  refine⟨(walk w S es ep).toList.map (·.1),gen _ fun e hm=>?_,?_⟩
  ·obtain⟨x,_,tk,e⟩:=cf.mem ⟨tks,q1,q2⟩ (hp.mem_iff.mp hm);exact⟨x,tk,e⟩
  ·refine(hp.map _).trans ?_;rw[q2];have gen2:∀(L:List Nat) (tks:List Tok),tks.length=L.length->(List.zipWith ent L tks).map (·.1)=L.map fun(i:Nat)=>(i:Int):=by
    intro L
    induction L with
    | nil=>intro tks _;rfl
    | cons a L ih =>
     intro tks hl;cases tks with
     | nil=>simp at hl
     | cons b tks=>simp only[J2,HV,ih tks (by simpa using hl)];rfl
   rw[gen2 L tks q1]
 obtain⟨ns,hi,hpm⟩:=hil;generalize (walk w S es ep).toList.map (·.2)=vs at hi ⊢;have hlen:vs.length=L.length:=by
  have a:=hpm.length_eq;have b:=IntsAre.length hi;rw[Hm]at a;omega
 refine Hk (wpAny_newList ?_ (by rw[hlen,IA];omega));have hoL:(h1.push (seqObj "list" vs.toArray 0)).get? h1.objs.size=some (seqObj "list" vs.toArray 0):=Hv _ rfl;show wpAny (model prog w) _ _ _ _ { s with heap:=h1.push (seqObj "list" vs.toArray 0),toks:=tk1 };refine Hk (Iy (Ik slot_list_sort ⟨_,hoL,rfl⟩ entry_list_sort (list_sort_tree hoL hi (by omega) fun out ms a1 a2 a3=>⟨_,rfl,?_⟩) (args_list_sort _)));refine Hl ⟨_,rfl,?_⟩;obtain⟨e,he2⟩:=sortedHeap_at (out:=out) hoL;have hge:s.heap.objs.size≤h1.objs.size:=Nat.le_of_lt hgt;refine h h1.objs.size (sortedHeap (h1.push (seqObj "list" vs.toArray 0)) h1.objs.size vs out) tk1 e out.toList ms hge (fun b o q=>?_) (by simpa using he2) a1 a3 (a2.trans hpm);rw[sortedHeap_old (HQ (Hu (k1 b o q))) (by rw[Ji];exact JR (Hu (k1 b o q)))];exact Ho _ (k1 b o q)
end
end SI
namespace L2
variable {X:Cx}
def dO(w:World)(S:Addr)(L:List Nat):Heap->Prop:=fun h=>SI.dD h S (SI.ax w) L
def wA(n:Nat):V:=.int (n:Int)
theorem fD:∀{ns:List Nat} {us:List Value},Vals (ns.map wA) us->SI.kZ us ns
 | [],_,.nil=>⟨rfl,fun i v h=>by simp at h⟩
 | n::ns,_,.cons r t=>by
  obtain⟨tk,rfl⟩:=r;obtain⟨a,b⟩:=fD t;refine⟨by simp[a],fun i v h=>?_⟩;cases i with
  | zero=>simp at h;exact⟨tk,h.symm⟩
  | succ i=>simpa using b i v (by simpa using h)
theorem mT(hc:X.calm=true):bH X (.builtin "sorted") (fun xs H Q=>∃(S:Addr) (L:List Nat),xs=[.ref S]/\H S=some (.ext (dO X.w S L))/\∀(r:Addr) (ms:List Int),H r=none->ms.Pairwise (·≤·)->ms.Perm (L.map fun(i:Nat)=>(i:Int))->Q (.ref r) (upd H r (.lst (ms.map V.int)))):=by
 intro pins s σ H xs us Q I r h;obtain⟨S,L,rfl,hS,q⟩:=h;obtain⟨u,rfl,ru⟩:=Vals.one r;cases ru;obtain⟨P,_,_⟩:=(show aI X.prog X.w H s.heap S (.ext (dO X.w S L))from I.hok S _ hS);have h6:=(SI.fI L P.is.1).2.1;refine SI.mi (I.ok.hd hc) P fun r h' tk n out ms hge kp ho hi hs hp=>?_;have hn:H r=none:=I.hok.fresh hge;have hl:ms.length≤6:=by have:=hp.length_eq;rw[Hm]at this;omega
 refine⟨.ref r,_,I.laid (t':=tk) (o:=.lst (ms.map V.int)) (fun b o e=>kp b o e) hge ?_,rfl,q r ms hn hs hp⟩;exact⟨by rw[Hm,IA];omega,out,n,fG hi,ho⟩
def lH(K:PySem.W.Frag):V->List V->Hp->VK->Prop:=fun x vs H Q=>∃l b xs zs,x=.ref l/\vs=[.ref b]/\H l=some (.lst xs)/\SqT K H b zs/\xs.length+zs.length≤sizeLine/\Q .non (upd H l (.lst (xs++zs)))
end L2
namespace U
open L2
variable {B:Bs}{X:Cx}{e:Expr}{ta:TE'}{p p2 pos pos2:Pos}
def gy(n:Nat):PV:=.int (n:Int)
theorem hZ{K:PySem.W.Frag}{H:Hp}:∀{ns:List Nat} {us:List V},RPs K H (ns.map gy) us->us=ns.map wA
 | [],us,h=>by simpa[RPs]using h
 | b::bs,us,h=>by
  simp only[HV,RPs,RP,gy]at h;obtain⟨u,r,rfl,rfl,h2⟩:=h;rw[hZ h2];rfl
def EB(x:PV)(H:PHp)(Q:VK'):Prop:=match x with
 | .ref a=>∃ns:List Nat,H a=some (.lst (ns.map gy))/\(∀n∈ns,n<6)/\∀(r:Addr) (ms:List Nat),H r=none->ms.Pairwise (·<·)->(∀x,x∈ms↔x∈ns)->Q (.ref r) (put H r (.lst (ms.map gy)))
 | _=>False
theorem k9{L:List Nat}:∀{ms:List Int},(∀x∈ms,∃n∈L,x=((n:Nat):Int))->ms=(ms.map Int.toNat).map fun(n:Nat)=>(n:Int)
 | [],_=>rfl
 | x::ms,h=>by
  obtain⟨n,_,rfl⟩:=h x HL;rw[HV,HV,← k9 (ms:=ms) fun y hy=>h y (HH _ hy)];rfl
end U
namespace L2
variable {X:Cx}{tg:Expr}
theorem mP:MtM X "list.extend" (lH X.K):=by
 intro pins s σ H x vs v us Q I rx rv h;obtain⟨l,b,xs,zs,rfl,rfl,hH,hB,hz,q⟩:=h;cases rx;obtain⟨u,rfl,ru⟩:=rv.one;cases ru;obtain⟨z,its,n,r,hl,e⟩:=I.lstM hH;obtain⟨is2,r2,⟨o2,ho2,hc2,n2,hd2⟩,hz2⟩:=I.tuple hB;have hne:l≠b:=by
  rintro rfl;rw[e]at ho2;cases ho2;exact absurd (show Value.type "list"=Value.type "tuple" from hc2) (by decide)
 have hlen2:=r2.length;refine Ik F.slot_list_extend ⟨_,e,rfl⟩ F.entry_list_extend ?_ (F.args_list_extend_2 _ _);show wpAny _ _ (Builtin.List.listExtendWith (.ref l) (.ref b) .none) _ _ _;unfold Builtin.List.listExtendWith;refine Hk (Kk (T:="tuple") ⟨o2,ho2,hc2⟩ ?_);rw[HP (by rw[show(Value.type "tuple"==Value.type "tuple")=true from rfl];simp)];refine Hk (listItems_at ho2 hd2 ?_);refine Hk (listItems_at (xs:=its.toArray) (n:=n) e rfl ?_);have hsz:its.toArray.size+is2.toArray.size≤sizeLine:=by rw[HS,HS];omega
 rw[HM (by rw[h9 hsz,Bool.and_false];exact Jh)];refine Hk (listUpdate_at (xs:=its.toArray) (n:=n) e rfl ?_ (by rw[HS];omega) (by show(its.toArray++is2.toArray).size≤_;rw[Array.size_append];omega));refine Hl ⟨_,rfl,?_⟩;refine⟨.non,_,I.lset (its':=its++is2) hH e (by simp) (r.append r2) ?_,rfl,q⟩;rw[HN];omega
def Itd(lo:Int)(n:Nat):It:=⟨fun i _=>i<n,fun i H x H'=>H'=H/\x=.int (lo - i),fun i _=>n≤i⟩
theorem pG{K:PySem.W.Frag}(it:Addr)(lo:Int)(n:Nat):Turn P w K tg (Itd lo n) [it] it (fun i h=>IsRangeIter h it (lo+(i:Nat)*(-1)) ((n:Int) - (i:Nat)) (-1)) where
 mem:=by simp
 obj:=fun i h st b hb=>by
  have q:b=it:=by simpa using hb
  subst q;exact⟨_,st,fun v z=>by
   have z':Data.fields _=Data.cell v:=z;cases z'⟩
 keep:=fun i h h' st k=>k it (by simp) _ st
 item:=by
  intro X hP hw hK hc i pins s σ H E I hf st hg;subst hP hw hK;obtain⟨f0,f1,f2,f3,f4,f5⟩:=hf it (by simp);have W:=Walks.range (prog:=X.prog) (w:=X.w) (I.ok.hd hc) it lo (-1) n;refine W.item i s _ _ hg st fun v h' tk hv st' kk=>?_;obtain⟨t,rfl⟩:=hv;have J:Inv X pins σ H { s with heap:=h',toks:=tk }:=I.turned (fun b o hb e=>kk b o (by simpa using hb) e) f0 f1 f3 f4 f5;refine⟨_,rfl,jq (s:={ s with heap:=h',toks:=tk }) (n:="range_iterator") st' rfl rfl (by decide) ⟨.int (lo - i),H,J,⟨t,?_⟩,⟨rfl,rfl⟩,st',fun b hb=>(hf b hb).1⟩⟩;congr 1;omega
 done:=by
  intro X hP hw hK hc i pins s σ H E I hf st hg;subst hP hw hK;obtain⟨f0,f1,f2,f3,f4,f5⟩:=hf it (by simp);exact wpAny_pyNext_range_end (I.ok.hd hc) st (by have q:n≤i:=hg;omega) fun h' eb=>⟨rfl,I.turned (t':=s.toks) (fun b o hb e=>eb b o hb e) f0 f1 f3 f4 f5⟩
 self:=fun _ _ _ _ _ st h=>wpAny_pyIter_rangeiter st h
def CG(ta:TA):TI:=fun σ H R=>ta σ H fun vs H1=>∃j:Int,vs=[.int j,.int (-1),.int (-1)]/\-1≤j/\j<1000/\R (Itd j (j+1).toNat) H1
theorem jv(h:-1≤j):Builtin.Range.rangeSize j (-1) (-1)=j+1:=by
 unfold Builtin.Range.rangeSize;rw[HM (by decide)];have e:-(-1:Int)=1:=rfl;rw[e,Int.ediv_one];split<;>omega
theorem mJ(h:-1≤j)(h2:j<1000):Builtin.Range.small j (-1) (-1)=true:=by
 unfold Builtin.Range.small;rw[jv h];simp only[Builtin.Range.rangeFitsLong,IP,Bool.or_eq_true,Jn,beq_iff_eq];refine⟨⟨⟨⟨by omega,by decide⟩,by decide⟩,by omega⟩,.inr (by decide)⟩
theorem uY{a b c:Expr}{ta:TA}{p pos:Pos}(hg:Gl X "range")(hm:X.mg "range"=none)(ha:PA X [a,b,c] ta)(hs:starEach [a,b,c] X.env=[(false,eval a X.env),(false,eval b X.env),(false,eval c X.env)]:=by rfl)
  (hs2:starEach [b,c] X.env=[(false,eval b X.env),(false,eval c X.env)]:=by rfl):PI X tg (.Call (.Name "range" p) [a,b,c] [] pos) (CG ta):=by
 intro pins s σ H R I h;refine Call_ (bt I hg hm boot_range (Ia (thn (ha pos pins s σ H _ I h) fun us s1 ⟨vs,H1,I1,r1,q1⟩=>?_) (by rw[hs,hs2]) (by rw[hs2];rfl)));obtain⟨j,e,q1,q2,q⟩:=q1;subst e;cases r1 with
 | cons r rr =>
  cases rr with
  | cons r' rr =>
   cases rr with
   | cons r'' rr =>
    cases rr;obtain⟨t,rfl⟩:=r;obtain⟨t',rfl⟩:=r';obtain⟨t'',rfl⟩:=r'';refine call_range_3 (by decide) ?_ (Or.inl (PyProof.noPylong_of_log2 (by decide +kernel)));generalize hh:s1.heap.push { cls:=.type "range",data:=.fields #[.int j t,.int (-1) t',.int (-1) t''] }=h2;have I2:Inv X pins σ H1 { s1 with heap:=h2 }:=by rw[←hh];exact I1.kept (t':=s1.toks) fun b o e=>Ho _ e
    refine wpAny_pyIter_range (s:={ s1 with heap:=h2,toks:=s1.toks }) (by rw[←hh];exact IsRange.new ..) (mJ q1 q2) ?_;refine⟨h2.objs.size,[h2.objs.size],_,_,H1,rfl,I2.kept (t':=s1.toks) fun b o e=>Ho _ e,pG _ j (j+1).toNat,?_,fun b hb=>?_,q⟩
    ·show IsRangeIter _ _ (j+((0:Nat):Int)*(-1)) ((((j+1).toNat:Nat):Int) - ((0:Nat):Int)) (-1);have e1:j+((0:Nat):Int)*(-1)=j:=by simp
     have e2:(((j+1).toNat:Nat):Int) - ((0:Nat):Int)=Builtin.Range.rangeSize j (-1) (-1):=by rw[jv q1];omega
     rw[e1,e2];exact Hv _ rfl
    ·have e:b=h2.objs.size:=by simpa using hb
     subst e;exact I2.fpOk (Hr _) (I2.hok.fresh (Hr _))
end L2
namespace U
open L2
section
variable {B:Bs}{X:Cx}{a b c:Expr}{pos:Pos}
def qW:PV->List PV->PHp->VK'->Prop:=fun x vs H Q=>match x,vs with
 | .ref a,[.tup m]=>∃l,H a=some (.lst l)/\l.length+m.length≤sizeLine/\Q .non (put H a (.lst (l++m)))
 | _,_=>False
theorem Fs{a:Addr}:qW (.ref a) [.tup m] H Q=∃l,H a=some (.lst l)/\l.length+m.length≤sizeLine/\Q .non (put H a (.lst (l++m))):=rfl
theorem vz{K:PySem.W.Frag}:VM K B qW (lH K):=by
 intro σ' σ H' H x' xs' x xs Q' Q s rx r h k;unfold qW at h;split at h
 ·rename_i a m;obtain⟨l,e,hl,h⟩:=h;obtain⟨us,q,r2⟩:=s.hp _ _ e;simp only[RP,RPs]at rx r;obtain⟨u,r1,rfl,⟨b,ws,rfl,hb,r3⟩,rfl⟩:=r;subst rx;exact⟨a,b,us,ws,rfl,rfl,q,hb,by rw[RPs.length _ r2,RPs.length _ r3];exact hl,k _ _ _ _ h (by simp[RP]) (s.wr e (wrL s.hp e (RPs.append _ r2 r3))) (Ev.wr e)⟩
 ·exact h.elim
def iU(lo:Int)(n:Nat):List PV:=(List.range n).map fun k=>PV.int (lo - (k:Nat))
theorem oY{K:PySem.W.Frag}{lo:Int}:Walks K H1 (Itd lo n) ⟨iU lo n,fun _=>True⟩ where
 go:=fun H' H i _ _ _ hi=>by
  have q:i<n:=by simpa[iU]using hi
  exact q
 yld:=fun H' H i x H2 _ _ _ y=>by
  obtain⟨rfl,rfl⟩:=y;refine⟨rfl,fun x' hx=>?_⟩;unfold iU at hx;rw[Ht]at hx;cases q:(List.range n)[i]? with
  | none=>rw[q]at hx;cases hx
  | some j =>
   rw[q]at hx;have:j=i:=by
    have:=(Hs.mp q).2;simpa using this.symm
   subst this;cases hx;simp[RP]
 stop:=fun H' H i _ _ _ hi=>by
  have q:n≤i:=by simpa[iU]using hi
  exact q
def sT(vs:List PV)(H1:PHp)(R:It'->PHp->Prop):Prop:=match vs with
 | [.int j,.int e,.int f]=>e=-1/\f=-1/\-1≤j/\j<1000/\R ⟨iU j (j+1).toNat,fun _=>True⟩ H1
 | _=>False
theorem ER:sT [.int j,.int e,.int f] H1 R=(e=-1/\f=-1/\-1≤j/\j<1000/\R ⟨iU j (j+1).toNat,fun _=>True⟩ H1):=rfl
def yk(t:TA'):TI':=fun σ H R=>t σ H fun vs H1=>sT vs H1 R
theorem pJ{tg:Expr}{t:TA'}{p:Pos}(hg:Gl X "range")(hm:X.mg "range"=none)(ha:PA' X B [a,b,c] t)(hs:starEach [a,b,c] X.env=[(false,eval a X.env),(false,eval b X.env),(false,eval c X.env)]:=by rfl)
  (hs2:starEach [b,c] X.env=[(false,eval b X.env),(false,eval c X.env)]:=by rfl):PI' X B tg (.Call (.Name "range" p) [a,b,c] [] pos) (yk t) :=
 cK (uY hg hm ha hs hs2) fun σ H R y_=>by
  obtain⟨σ',H',R',s,h,k⟩:=y_;refine⟨σ',H',_,s,h,fun vs' H1' vs H1 h1 r1 s1 e1=>?_⟩;unfold sT at h1;split at h1
  ·rename_i j e f;obtain⟨rfl,rfl,h2,h3,q⟩:=h1;simp only[RPs,RP]at r1;obtain⟨u,r,rfl,rfl,u2,r2,rfl,rfl,u3,r3,rfl,rfl,rfl⟩:=r1;exact⟨j,rfl,h2,h3,k _ _ _ _ q oY s1 e1⟩
  ·exact h1.elim
end
section
variable {B:Bs}{X:Cx}{a b:Expr}{ta tb:TE'}{pos:Pos}
def vR:R2':=fun x y H Q=>match x,y with
 | .ref a,.ref b=>∃l m,H a=some (.lst l)/\H b=some (.lst m)/\l.length+m.length≤sizeLine/\∀p,H p=none->Q (.ref p) (put H p (.lst (l++m)))
 | _,_=>False
theorem Fx{a b:Addr}:vR (.ref a) (.ref b) H Q=∃l m,H a=some (.lst l)/\H b=some (.lst m)/\l.length+m.length≤sizeLine/\∀p,H p=none->Q (.ref p) (put H p (.lst (l++m))):=rfl
theorem AQ{K:PySem.W.Frag}:VR K B vR Cy:=by
 intro σ' σ H' H x' y' x y Q' Q s rx ry h k;unfold vR at h;split at h
 ·rename_i a b;obtain⟨l,m,e1,e2,hl,h⟩:=h;simp only[RP]at rx ry;subst rx;subst ry;obtain⟨us,q1,r1⟩:=s.hp _ _ e1;obtain⟨ws,q2,r2⟩:=s.hp _ _ e2;refine⟨a,b,us,ws,rfl,rfl,q1,q2,by rw[RPs.length _ r1,RPs.length _ r2];exact hl,fun p hp=>?_⟩;exact k _ _ _ _ (h p (s.hp.free hp)) (by simp[RP]) (s.new hp (hU hp (RPs.append _ r1 r2))) (Ev.new hp)
 ·exact h.elim
theorem tR(ha:PE' X B a ta)(hb:PE' X B b tb):PE' X B (.BinOp a .Add b pos) (uOp vR ta tb):=dE BB AQ ha hb
theorem oh{F:List Int}(h:∀x∈F,0≤x/\x<6):F.map PV.int=(F.map Int.toNat).map gy:=by
 rw[HY];refine Ie fun x hx=>?_;have:=h x hx;show PV.int x=PV.int ((x.toNat:Nat):Int);congr 1;omega
end
end U
namespace SI
section
variable {prog:Program}{w:World}{A:Around}{E:Value->Shared->Prop}{s:Shared}{T:String}{r d:Addr}{n:Nat}{P:Nat->Value->Prop}{OK:Heap->Prop}
end
end SI
namespace L2
variable {X:Cx}
end L2
namespace U
open L2
section
variable {B:Bs}{X:Cx}{a b o i value:Expr}{ta tb td ty:TE'}{pos pos':Pos}
def dkP(ks:List Int):PO:=.dK (ks.map fun n=>(Sum.inl n,PV.bl true))
def G1(y x:PV)(H:PHp)(Q:VK'):Prop:=match y,x with
 | .int n,.ref a=>∃ks,H a=some (dkP ks)/\Q (.bl (!decide (n∈ks))) H
 | _,_=>False
def GZ:List PV->PHp->VK'->Prop:=bQ fun x H Q=>match x with
 | .ref a=>∃ks:List Int,H a=some (dkP ks)/\ks.length<64/\∀(r:Addr) (ms:List Int),H r=none->ms.Pairwise (·≤·)->ms.Perm ks->Q (.ref r) (put H r (.lst (ms.map PV.int)))
 | _=>False
end
section
theorem jK:∀x H Q,wB x [] H Q->match x with | .ref a=>∃l,H a=some (.lst l) | _=>False:=by
 intro x H Q h;cases x with
 | ref a=>obtain⟨l,y,e,_⟩:=h;exact⟨l,e⟩
 | _=>exact h
end
end U
namespace L2
variable {X:Cx}
end L2
namespace U
open L2
variable {B:Bs}{X:Cx}{a b e:Expr}{ta tb:TE'}{p p2 pos pos2:Pos}
end U
namespace SI
section
variable {prog:Program}{w:World}{A:Around}{E:Value->Shared->Prop}{s:Shared}
theorem rD(hP:bV s.heap S led L)(hx:x<6)
  (h:∀b h' tks,Heap.SameBut S s.heap h'->bV h' S led (if x∈L then L else ins L x)->Q b { s with heap:=h',toks:=tks }):wpAny (model prog w) A (setAddHashed S (.int (x:Int) tk) (x:Int)) Q E s:=by
 obtain⟨hL,es,ep,ho,he⟩:=hP.is;obtain⟨s1,hs'⟩:∃s1,({ s with toks:=s.toks }:Shared)=s1:=⟨_,rfl⟩
 suffices g:wpAny (model prog w) A (setAddHashed S (.int (x:Int) tk) (x:Int)) Q E s1 from(show s=s1 from hs')▸g
 have e1:s1.heap=s.heap:=by rw[←hs']
 have hs1:∀hh':Heap,({ s1 with heap:=hh' }:Shared)={ s with heap:=hh',toks:=s1.toks }:=fun hh'=>by rw[←hs']
 have ho1:s1.heap.get? S=some { cls:=.type "set",dict:=none,data:=.set es ep (tb led L) }:=by rw[e1];exact ho
 have hf:(tb led L).fits es.size=true:=by rw[he.size];exact(pC L hL led (cw led)).1
 have hel:=he.elems (prog:=prog) (w:=w) hL;have h6:=(fI L hL).2.1;have hbd:es.size<scanBound:=by rw[he.size];unfold scanBound;omega
 have scan:∀{Q':ScanMet->Shared->Prop},Q' (match es.toList.findIdx? (fun e=>(intKind prog w).is ((x:Nat):Int) e.2)with | some j=>.found (0+j) | none=>.absent) s1->wpAny (model prog w) A (setScan S (.int ((x:Nat):Int) tk) ((x:Nat):Int) true es) Q' E s1:=by
  intro Q' hq;have:=wpAny_setScan_of (knd:=intKind prog w) (adding:=true) (x:=.int ((x:Nat):Int) tk) (k:=((x:Nat):Int)) (A:=A) (E:=E) (Q:=Q') (Kf _ _ _ _) ho1 rfl hf hel hq
  rwa [eK hx]at this
 unfold setAddHashed setAddHashedIn;refine Iy (Hk (IL ho1 rfl hf ?_));dsimp only;rw[byScan_of (knd:=intKind prog w) rfl hbd hel];simp only[↓reduceIte];unfold setAddByScan;refine Hk ?_;refine Hk (JW ?_);refine Hk (scan ?_);cases hr:List.findIdx? (fun e=>(intKind prog w).is ((x:Nat):Int) e.2) es.toList with
 | some j =>
  dsimp only;obtain⟨hj,hpj,_⟩:=List.findIdx?_eq_some_iff_getElem.mp hr;obtain⟨y,hy,tk',ee⟩:=he.mem (IH hj);have hxy:x=y:=by
   rw[ee]at hpj;have q:(intKind prog w).is ((x:Nat):Int) (.int ((y:Nat):Int) tk')=true:=hpj;have:=(intKind prog w).inj _ _ _ q (Kf _ _ _ _);omega
  subst hxy;refine Hl (Hl ?_);have:=h false s.heap s1.toks (Heap.SameBut.refl S s.heap) (by rw[HP hy];exact hP);have e:s1={ s with heap:=s.heap,toks:=s1.toks }:=by rw[←hs1];cases s1;simp only at e1;rw[e1]
  rw[e];exact this
 | none =>
  dsimp only;have hn:x∉L:=fun hm=>by
   obtain⟨tk',hm'⟩:=he.of hm;have:=List.findIdx?_eq_none_iff.mp hr _ hm';have q:(intKind prog w).is ((x:Nat):Int) (.int ((x:Nat):Int) tk')=true:=Kf _ _ _ _;have this':(intKind prog w).is ((x:Nat):Int) (.int ((x:Nat):Int) tk')=false:=this;rw[q]at this';cases this'
  obtain⟨f1,f2⟩:=Dj led (cw led) L hL x (IJ.mpr hx) hn;obtain⟨f3,f4⟩:=Cb led (cw led) L hL x (IJ.mpr hx) hn;have hins:=(fI L hL).2.2.2 x (IJ.mpr hx) hn;have hin2:=he.ins x tk;have hsz2:=hin2.size;have hln:(ins L x).length=L.length+1:=by unfold ins;simp only[HN,Ig,Ij,List.length_drop];omega
  have hlay:layNew (tb led L) es ((x:Nat):Int) (.int ((x:Nat):Int) tk)=(SetTable.insertAt es (pos L x) (ent x tk),tp led L x,false,false):=by
   unfold layNew;rw[f1];dsimp only;rw[f2];dsimp only;have e2:(tp led L x).fits (SetTable.insertAt es (pos L x) (ent x tk)).size=true:=by rw[hsz2];exact f3
   show(SetTable.insertAt es (pos L x) (ent x tk),(tp led L x).orStandIn (SetTable.insertAt es (pos L x) (ent x tk)).size,false,!(tp led L x).fits (SetTable.insertAt es (pos L x) (ent x tk)).size)=_;unfold SetTable.orStandIn;rw[HP e2,e2];rfl
  rw[hlay];dsimp only;refine Hk (Hl ?_);have hpl:(tp led L x).plain=true:=rfl;rw[hpl];simp only[↓reduceIte];refine Hk ?_;rw[hashByValue_scannable 8 (x:=.int ((x:Nat):Int) tk) rfl];refine Hl ?_;have hpk:plainKind (.int ((x:Nat):Int) tk)=true:=rfl;rw[hpk];simp only[↓reduceIte];have hz:(SetTable.insertAt es (pos L x) (ent x tk)).size≤sizeLine:=by rw[hsz2,hln,IA];omega
  refine Hk (JS ho1 rfl ?_ hz);have hg:(s1.heap.update S (Obj.putSet (SetTable.insertAt es (pos L x) (ent x tk)) (tp led L x))).get? S=some { cls:=.type "set",dict:=none,data:=.set (SetTable.insertAt es (pos L x) (ent x tk)) (ep+1) (tp led L x) } :=
   Iw _ ho1 rfl
  have sb1:Heap.SameBut S s.heap (s1.heap.update S (Obj.putSet (SetTable.insertAt es (pos L x) (ent x tk)) (tp led L x))):=by rw[e1];exact Ih ..
  by_cases h4:L.length=4
  ·rw[HP h4]at f4;rw[f4.1];simp only[JE,Bool.and_self,↓reduceIte];have hw:SetTable.grown (SetTable.insertAt es (pos L x) (ent x tk)).size=20:=by rw[hsz2,hln,h4];rfl
   have hmp:(SetTable.insertAt es (pos L x) (ent x tk)).map (·.1)=((ins L x).map Int.ofNat).toArray:=by
    obtain⟨tks,q1,q2⟩:=hin2;apply Array.toList_inj.mp;rw[Array.toList_map,q2];have gen:∀(L:List Nat) (tks:List Tok),tks.length=L.length->(List.zipWith ent L tks).map (·.1)=L.map Int.ofNat:=by
     intro L
     induction L with
     | nil=>intro tks _;rfl
     | cons a L ih =>
      intro tks hl;cases tks with
      | nil=>simp at hl
      | cons b tks=>simp only[J2,HV,ih tks (by simpa using hl)];rfl
    exact gen _ _ q1
   have h5:(SetTable.insertAt es (pos L x) (ent x tk)).size=5:=by rw[hsz2,hln,h4]
   have hrl:relayAll (tp led L x) (SetTable.insertAt es (pos L x) (ent x tk)) (SetTable.grown (SetTable.insertAt es (pos L x) (ent x tk)).size)=(SetTable.insertAt es (pos L x) (ent x tk),tb led (ins L x),false):=by
    unfold relayAll;rw[hw,hmp,f4.2];dsimp only;rw[hE _ h5];have c1:coversAll #[0,1,2,3,4] (SetTable.insertAt es (pos L x) (ent x tk)).size=true:=by rw[h5];decide +kernel
    have c2:(tb led (ins L x)).fits (SetTable.insertAt es (pos L x) (ent x tk)).size=true:=by rw[hsz2];exact(pC _ hins led (cw led)).1
    rw[c1,c2];rfl
   rw[hrl];dsimp only;refine Hk (Hl ?_);refine Hk (JS hg rfl ?_ hz);have hg3:=Iw (Obj.putSet (SetTable.insertAt es (pos L x) (ent x tk)) (tb led (ins L x))) hg rfl;refine Hl (Hl ?_);rw[hs1];refine h true _ _ (sb1.trans (Ih ..)) ?_;rw[HM hn];exact⟨hins,_,_,hg3,hin2⟩
  ·rw[HM h4]at f4;rw[f4.1];simp only[JE,Bool.and_false,HX,↓reduceIte];refine Hl (Hl ?_);rw[hs1];refine h true _ _ sb1 ?_;rw[HM hn];rw[f4.2]at hg;rw[f4.2];exact⟨hins,_,_,hg,hin2⟩
theorem sR(hP:dD s.heap O led L)(hx:x<6)(h1:x∈L->∀i,Q (some i) s)(h2:x∉L->Q none s):wpAny (model prog w) A (setFind O (.int (x:Int) tk) (x:Int)) Q E s:=by
 obtain⟨hL,es,ep,t,ho,ht,he⟩:=hP.is;have hf:t.fits es.size=true:=by rw[he.size];exact ht.ft
 have hel:=he.elems (prog:=prog) (w:=w) hL;have h6:=(fI L hL).2.1;have hbd:es.size<scanBound:=by rw[he.size];unfold scanBound;omega
 have scan:∀{Q':ScanMet->Shared->Prop},Q' (match es.toList.findIdx? (fun e=>(intKind prog w).is ((x:Nat):Int) e.2)with | some j=>.found (0+j) | none=>.absent) s->wpAny (model prog w) A (setScan O (.int ((x:Nat):Int) tk) ((x:Nat):Int) false es) Q' E s:=by
  intro Q' hq;have:=wpAny_setScan_of (knd:=intKind prog w) (adding:=false) (x:=.int ((x:Nat):Int) tk) (k:=((x:Nat):Int)) (A:=A) (E:=E) (Q:=Q') (Kf _ _ _ _) ho rfl hf hel hq
  rwa [eK hx]at this
 unfold setFind setFindIn;refine Hk (IL ho rfl hf ?_);dsimp only;rw[byScan_of (knd:=intKind prog w) rfl hbd hel];simp only[↓reduceIte];refine Hk (JW (Hk (scan ?_)));cases hr:List.findIdx? (fun e=>(intKind prog w).is ((x:Nat):Int) e.2) es.toList with
 | some j =>
  dsimp only;obtain⟨hj,hpj,_⟩:=List.findIdx?_eq_some_iff_getElem.mp hr;obtain⟨y,hy,tk',ee⟩:=he.mem (IH hj);have hxy:x=y:=by
   rw[ee]at hpj;have q:(intKind prog w).is ((x:Nat):Int) (.int ((y:Nat):Int) tk')=true:=hpj;have:=(intKind prog w).inj _ _ _ q (Kf _ _ _ _);omega
  subst hxy;exact Hl (h1 hy _)
 | none =>
  dsimp only;refine Hl (h2 fun hm=>?_);obtain⟨tk',hm'⟩:=he.of hm;have this':(intKind prog w).is ((x:Nat):Int) (.int ((x:Nat):Int) tk')=false:=List.findIdx?_eq_none_iff.mp hr _ hm';rw[Kf]at this';cases this'
theorem eQ{S:Addr}{L:List Nat}{es:Array (Int×Value)}{ep:Nat}{t:SetTable}{others:List Addr}{f:Option Addr}{Q:Array (Int×Value)->Shared->Prop}(ht:Tb t (ax w) L)(ho:s.heap.get? S=some { cls:=.type "set",dict:=none,data:=.set es ep t })(he:cf es L)(q:Q (walk w S es ep) s) :
  wpAny (model prog w) A (setWalkUnseen S others f) Q E s:=by
 have hf:t.fits es.size=true:=by rw[he.size];exact ht.ft
 unfold setWalkUnseen setsByText;refine Hk (IL ho rfl hf ?_);dsimp only;refine Hk (Hk (Jq (Hl ?_)));have hc:(w.params.followText "set-order"||(t.led&&t.plain)||decide (es.size≤1))=true:=by
  rw[ht.ld,ht.pl];unfold ax;cases w.params.followText "set-order"<;>simp
 refine IG (fun _=>?_) (fun hn=>absurd hc hn);unfold setWalk setsByText;refine Hk (IL ho rfl hf ?_);dsimp only;refine Hk (Hk (Jq (Hl ?_)));unfold walk at q;refine IG (fun hb=>?_) (fun hb=>?_)
 ·have hb':w.params.followText "set-order"=true:=hb;rw[HP hb']at q;exact Hk (Jq (Hl q))
 ·have hb':¬w.params.followText "set-order"=true:=hb;rw[HM hb']at q;refine IG (fun hx=>?_) (fun _=>?_)
  ·exfalso;have hx':(!t.plain&&decide (es.size>1))=true:=hx;rw[ht.pl]at hx';simp at hx'
  ·have hled:t.led=true:=ht.ld.trans (by unfold ax;simpa using hb');refine Hk ?_;refine(show wpAny (model prog w) A (if (!t.led&&decide (es.size>1))=true then unsupported "set:maker-not-led" else pure ()) _ E s from ?_);refine IG (fun hx=>?_) (fun _=>Hl (Hl q));exfalso;rw[hled]at hx;simp at hx
theorem mh{id:String}(hne:S≠O)(hS:dD s.heap S (ax w) L)(hO:dD s.heap O (ax w) M)(hsm:¬L.length / 4>M.length)
  (h:∀h' tk L',(∀b o,s.heap.get? b=some o->h'.get? b=some o)->dD h' s.heap.objs.size (ax w) L'->(∀x,x∈L'↔x∈L/\x∉M)->Q (.ref s.heap.objs.size) { s with heap:=h',toks:=tk }) :
  wpAny (model prog w) A (Builtin.Frozenset.difference id S (.ref O)) Q E s:=by
 obtain⟨hL,es,ep,t,ho,ht,he⟩:=hS.is;obtain⟨hM,fs,fp,u,go,gt,ge⟩:=hO.is;have hf:t.fits es.size=true:=by rw[he.size];exact ht.ft
 have gf:u.fits fs.size=true:=by rw[ge.size];exact gt.ft
 have tyO:s.TypeIs (.ref O) "set":=⟨_,go,rfl⟩;have tyS:s.TypeIs (.ref S) "set":=⟨_,ho,rfl⟩;have sub1:=sub_set_self;unfold Builtin.Frozenset.difference Builtin.Frozenset.isAnySet orM;dsimp only;refine Hk (Hk (IE tyO sub1 (Hl ?_)));simp only[Jf,Bool.false_and,HX,IU,Kg,↓reduceIte];refine Hk (m:=Builtin.Frozenset.addrOf (.ref O)) (Hl ?_);unfold Builtin.Frozenset.sizeOf;refine Hk (Hk (Jl go rfl gf (Hl ?_)));refine Hk (Hk (Jl ho rfl hf (Hl ?_)));rw[HM (by rw[he.size,ge.size];exact hsm)];unfold Builtin.Frozenset.baseOf;refine Hk (Hk (IE tyS sub1 (Hl ?_)));simp only[↓reduceIte];unfold newSet setsByText;refine Hk (Hk (Hk (Jq (Hl ?_))));dsimp only;refine Io ?_;generalize hH:s.heap.push { cls:=Value.type "set",data:=Data.set #[] 0 (SetTable.fresh 0 0 !(model prog w).w.params.followText "set-order") }=H1;have hR:H1.get? s.heap.objs.size=some { cls:=Value.type "set",data:=Data.set #[] 0 (SetTable.fresh 0 0 !(model prog w).w.params.followText "set-order") }:=by rw[←hH];exact Hv _ rfl
 have old:∀b o,s.heap.get? b=some o->H1.get? b=some o:=fun b o e=>by rw[←hH];exact Ho _ e
 have bN:∀b o,s.heap.get? b=some o->b≠s.heap.objs.size:=fun b o e=>HQ (Hu e);generalize s.heap.objs.size=N at *;have hR0:bV H1 N (ax w) []:=⟨iM,#[],0,hR,[],rfl,rfl⟩;have mem:∀x:Nat,(∃tk,ent x tk∈(walk w S es ep).toList)↔x∈L:=fun x=>by
  constructor
  ·rintro⟨tk,h⟩;obtain⟨y,hy,tk',e⟩:=he.mem ((cG w S es ep).mem_iff.mp h);have e1:((x:Nat):Int)=((y:Nat):Int):=congrArg Prod.fst e;have e2:x=y:=by omega
   rw[e2];exact hy
  ·intro h;obtain⟨tk,h⟩:=he.of h;exact⟨tk,(cG w S es ep).mem_iff.mpr h⟩
 refine Hk (m:=Builtin.Frozenset.addrOf (.ref N)) (Hl ?_);refine Hk (wpAny_setEpoch_of (s:={ s with heap:=H1,toks:=s.toks }) (old S _ ho) rfl hf ?_);refine Hk (Iy (Hk (eQ (s:={ s with heap:=H1,toks:=s.toks }) ht (old S _ ho) he (Hk ?_))));rw[←Jx];refine wpAny_forIn_list _ (fun rest _ s'=>∃h' tk L' done,s'={ s with heap:=h',toks:=tk }/\(walk w S es ep).toList=done++rest/\(∀b o,s.heap.get? b=some o->h'.get? b=some o)/\bV h' N (ax w) L'/\∀x,x∈L'↔(∃tk,ent x tk∈done)/\x∉M) _ ?_ ?_ _ _ ⟨H1,s.toks,[],[],rfl,rfl,old,hR0,by simp⟩
 ·rintro e rest r s' ⟨h',tk,L',done,rfl,hw,kp,hI,hm⟩;obtain⟨x,hx,tk',rfl⟩:=he.mem ((cG w S es ep).mem_iff.mp (by rw[hw];simp:e∈(walk w S es ep).toList));have x6:x<6:=(fI L hL).1 x hx;have hO':dD h' O (ax w) M:=⟨hM,fs,fp,u,kp O _ go,gt,ge⟩;have fin:∀(R:ForInStep PUnit->Shared->Prop) h'' tk'',(∀b o,s.heap.get? b=some o->h''.get? b=some o)->R (.yield PUnit.unit) { s with heap:=h'',toks:=tk'' }->wpAny (model prog w) A (do Builtin.Frozenset.unchanged id S ep;pure (ForInStep.yield PUnit.unit)) R E { s with heap:=h'',toks:=tk'' }:=by
   intro R h'' tk'' k2 q;unfold Builtin.Frozenset.unchanged;refine Hk (Hk (wpAny_setEpoch_of (s:={ s with heap:=h'',toks:=tk'' }) (k2 S _ ho) rfl hf ?_));rw[HM (by simp)];exact Hl (Hl q)
  have hw2:(walk w S es ep).toList=(done++[ent x tk'])++rest:=by rw[hw,List.append_assoc];rfl
  have more:∀y:Nat,(∃tk,ent y tk∈done++[ent x tk'])↔(∃tk,ent y tk∈done)∨y=x:=fun y=>by
   constructor
   ·rintro⟨tk,h⟩;rcases Ii.mp h with h | h
    ·exact .inl ⟨tk,h⟩
    ·rw[Hx]at h;have e1:((y:Nat):Int)=((x:Nat):Int):=congrArg Prod.fst h;exact .inr (by omega)
   ·rintro(⟨tk,h⟩ | rfl)
    ·exact⟨tk,JM _ h⟩
    ·exact⟨tk',by simp⟩
  refine Hk (Iy (Hk (sR (s:={ s with heap:=h',toks:=tk }) hO' x6 (fun xm i=>?_) (fun xm=>?_))))
  ·refine Hk (Hl ?_);simp only[Option.isSome_some,Jf,HX,IU];refine Hl (fin _ h' tk kp ⟨h',tk,L',_,rfl,hw2,kp,hI,fun y=>?_⟩);rw[hm y,more y];exact⟨fun q=>⟨.inl q.1,q.2⟩,fun q=>⟨q.1.elim (fun z=>z) fun e=>absurd (e▸xm) q.2,q.2⟩⟩
  ·refine Hk (Hl ?_);simp only[Option.isSome_none,JE,Kg];refine Hk (rD (s:={ s with heap:=h',toks:=tk }) hI x6 fun b h2 tk2 sb i2=>Hl ?_);have k2:∀b o,s.heap.get? b=some o->h2.get? b=some o:=fun b o e=>(sb.2 b (bN b o e)).trans (kp b o e);refine fin _ h2 tk2 k2 ⟨h2,tk2,_,_,rfl,hw2,k2,i2,fun y=>?_⟩;show y∈add L' x↔_;rw[nL,hm y,more y];constructor
   ·rintro(rfl | q)
    ·exact⟨.inr rfl,xm⟩
    ·exact⟨.inl q.1,q.2⟩
   ·rintro⟨q | q,n⟩
    ·exact .inr ⟨q,n⟩
    ·exact .inl q
 ·rintro r s' ⟨h',tk,L',done,rfl,hw,kp,hI,hm⟩;rw[IF]at hw;refine Hl (Hl (h h' tk L' kp hI.j fun x=>?_));rw[hm x,← hw,mem x]
end
end SI
namespace SI
def t15(led:Bool)(L:List Nat):SetTable:={ mask:=15,place:=L.toArray,dummies:=#[],finger:=0,led:=led,moves:=1,plain:=true }
theorem Fw:∀led∈[true,false],∀L∈subs,5≤L.length->(SetTable.fresh 0 0 led).roomFor L.length=some (L.length*2)/\SetTable.sizeAbove (L.length*2)=16/\(SetTable.fresh 0 0 led).relaid #[] (L.length*2)=some (t15 led [],#[]) /\
  SetTable.laid 15 0 1 led true (L.map Int.ofNat).toArray=some (t15 led L,(List.range L.length).toArray)/\(t15 led L).fits L.length=true/\(tb led L).mask=31:=by decide +kernel
theorem Fg:∀led∈[true,false],∀L∈subs,L.length=4->(SetTable.fresh 0 0 led).roomFor L.length=none/\(tb led L).mask=7/\({ tb led L with finger:=0,led:=led&&led,moves:=0,plain:=true&&true }:SetTable)=tb led L:=by decide +kernel
section
variable {prog:Program}{w:World}{A:Around}{E:Value->Shared->Prop}{s:Shared}
theorem tM(hS:bV s.heap S (ax w) L)(h4:4≤L.length)
  (h:∀h' tk,(∀b o,s.heap.get? b=some o->h'.get? b=some o)->dD h' s.heap.objs.size (ax w) L->Q (.ref s.heap.objs.size) { s with heap:=h',toks:=tk }) :
  wpAny (model prog w) A (Builtin.Frozenset.copyOf S) Q E s:=by
 obtain⟨hL,es,ep,ho,he⟩:=hS.is;have ht:=yC (led:=ax w) hL;have hf:(tb (ax w) L).fits es.size=true:=by rw[he.size];exact ht.ft
 have tyS:s.TypeIs (.ref S) "set":=⟨_,ho,rfl⟩;have sub1:=sub_set_self;unfold Builtin.Frozenset.copyOf Builtin.Frozenset.baseOf;refine Hk (Hk (IE tyS sub1 (Hl ?_)));simp only[↓reduceIte];unfold newSet setsByText;refine Hk (Hk (Hk (Jq (Hl ?_))));dsimp only;refine Io ?_;generalize hH:s.heap.push { cls:=Value.type "set",data:=Data.set #[] 0 (SetTable.fresh 0 0 !(model prog w).w.params.followText "set-order") }=H1;have hR:H1.get? s.heap.objs.size=some { cls:=Value.type "set",data:=Data.set #[] 0 (SetTable.fresh 0 0 (ax w)) }:=by rw[←hH];exact Hv _ rfl
 have old:∀b o,s.heap.get? b=some o->H1.get? b=some o:=fun b o e=>by rw[←hH];exact Ho _ e
 have bN:∀b o,s.heap.get? b=some o->b≠s.heap.objs.size:=fun b o e=>HQ (Hu e);generalize s.heap.objs.size=N at *;have nNS:(N==S)=false:=Jc.mpr (Ne.symm (bN S _ ho));refine Hk (m:=Builtin.Frozenset.addrOf (.ref N)) (Hl ?_);unfold setMerge;refine Hk ?_;rw[nNS];simp only[HX,IU];refine Hk (IL (s:={ s with heap:=H1,toks:=s.toks }) (old S _ ho) rfl hf ?_);dsimp only;have ne:es.isEmpty=false:=by
  rw[Array.isEmpty_eq_false_iff,← Array.size_pos_iff,he.size];omega
 rw[ne];simp only[HX,IU];unfold setRoomFor;refine Hk (Hk (IL (s:={ s with heap:=H1,toks:=s.toks }) hR rfl rfl ?_));dsimp only;rw[he.size];by_cases l4:L.length=4
 ·obtain⟨r1,r2,r3⟩:=Fg (ax w) (cw _) L hL l4;rw[r1];dsimp only;refine Hl ?_;refine Hk (IL (s:={ s with heap:=H1,toks:=s.toks }) hR rfl rfl ?_);dsimp only;have rd:(SetTable.fresh 0 0 (ax w)).road (tb (ax w) L)=.slotForSlot:=by
   unfold SetTable.road;rw[r2];rfl
  rw[rd];dsimp only;refine JS (s:={ s with heap:=H1,toks:=s.toks }) hR rfl ?_ (by rw[he.size,IA];omega);refine Hl (h _ _ (fun b o e=>((Ih ..).2 b (bN b o e)).trans (old b o e)) ⟨hL,es,1,_,Iw _ hR rfl,⟨rfl,?_,rfl,rfl,rfl,ht.ft⟩,he⟩);show(ax w&&ax w)=ax w;cases ax w<;>rfl
 ·obtain⟨r1,r2,r3,r4,r5,r6⟩:=Fw (ax w) (cw _) L hL (by omega);rw[r1];dsimp only;unfold setRelay;refine Hk (IL (s:={ s with heap:=H1,toks:=s.toks }) hR rfl rfl ?_);dsimp only;rw[r2,HM (by decide),show(Array.map (fun x=>x.fst) (#[]:Array (Int×Value)))=#[]from by simp,r3];refine Hk (show wpAny (model prog w) A (pure ((#[]:Array (Int×Value)),t15 (ax w) [])) _ E _ from Hl ?_);dsimp only;refine JS (s:={ s with heap:=H1,toks:=s.toks }) hR rfl ?_ (by simp);have hR2:=Iw (Obj.putSet #[] (t15 (ax w) [])) hR rfl;have old2:∀b o,s.heap.get? b=some o->(H1.update N (Obj.putSet #[] (t15 (ax w) []))).get? b=some o:=fun b o e=>((Ih ..).2 b (bN b o e)).trans (old b o e);generalize H1.update N (Obj.putSet #[] (t15 (ax w) []))=H2 at *;refine Hk (IL (s:={ s with heap:=H2,toks:=s.toks }) (o:={ cls:=Value.type "set",data:=Data.set #[] 1 (t15 (ax w) []) }) hR2 rfl rfl ?_);dsimp only;have rd:(t15 (ax w) []).road (tb (ax w) L)=.clean:=by
   unfold SetTable.road;rw[r6];rfl
  rw[rd];dsimp only;have hmp:es.map (fun x=>x.fst)=(L.map Int.ofNat).toArray:=by
   obtain⟨tks,q1,q2⟩:=he;apply Array.toList_inj.mp;rw[Array.toList_map,q2];have gen:∀(L:List Nat) (tks:List Tok),tks.length=L.length->(List.zipWith ent L tks).map (fun x=>x.fst)=L.map Int.ofNat:=by
    intro L
    induction L with
    | nil=>intro tks _;rfl
    | cons a L ih =>
     intro tks hl;cases tks with
     | nil=>simp at hl
     | cons b tks=>simp only[J2,HV,ih tks (by simpa using hl)];rfl
   exact gen _ _ q1
  have ll:((t15 (ax w) []).led&&(tb (ax w) L).led)=ax w:=by show(ax w&&ax w)=ax w;cases ax w<;>rfl
  rw[hmp,ll];have e4:SetTable.laid (t15 (ax w) []).mask (t15 (ax w) []).finger (t15 (ax w) []).moves (ax w) ((t15 (ax w) []).plain&&(tb (ax w) L).plain) (List.map Int.ofNat L).toArray=some (t15 (ax w) L,(List.range L.length).toArray):=r4;rw[e4];have fm:(List.range L.length).toArray.filterMap (fun x=>es[x]?)=es:=by
   have e:=PySem.filterMap_getElem?_range es;rw[he.size]at e;apply Array.toList_inj.mp;rw[Array.toList_filterMap];exact e
  refine Hk ?_;refine(show wpAny (model prog w) A (ite ((((List.range L.length).toArray.filterMap (fun x=>es[x]?)).size !=es.size)=true) _ (pure ((List.range L.length).toArray.filterMap (fun x=>es[x]?),t15 (ax w) L))) _ E _ from ?_);rw[fm,HM (by simp)];refine Hl ?_;dsimp only;refine JS (s:={ s with heap:=H2,toks:=s.toks }) (o:={ cls:=Value.type "set",data:=Data.set #[] 1 (t15 (ax w) []) }) hR2 rfl ?_ (by rw[he.size,IA];have:=(fI L hL).2.1;omega);refine Hl (h _ _ (fun b o e=>((Ih ..).2 b (bN b o e)).trans (old2 b o e)) ⟨hL,es,2,t15 (ax w) L,Iw _ hR2 rfl,⟨rfl,rfl,rfl,rfl,rfl,r5⟩,he⟩)
theorem pW{id:String}(hS:bV s.heap S (ax w) L)(hO:dD s.heap O (ax w) M)(hsm:L.length / 4>M.length)
  (h:∀h' tk L',(∀b o,s.heap.get? b=some o->h'.get? b=some o)->dD h' s.heap.objs.size (ax w) L'->(∀x,x∈L'↔x∈L/\x∉M)->Q (.ref s.heap.objs.size) { s with heap:=h',toks:=tk }) :
  wpAny (model prog w) A (Builtin.Frozenset.difference id S (.ref O)) Q E s:=by
 obtain⟨hL,es,ep,t,ho,ht,he⟩:=hS.j.is;obtain⟨hM,fs,fp,u,go,gt,ge⟩:=hO.is;have hf:t.fits es.size=true:=by rw[he.size];exact ht.ft
 have gf:u.fits fs.size=true:=by rw[ge.size];exact gt.ft
 have l6:=(fI L hL).2.1;have M0:M=[]:=Jz.mp (by omega);have tyO:s.TypeIs (.ref O) "set":=⟨_,go,rfl⟩;have sub1:=sub_set_self;have oN:O≠s.heap.objs.size:=HQ (Hu go);unfold Builtin.Frozenset.difference Builtin.Frozenset.isAnySet orM;dsimp only;refine Hk (Hk (IE tyO sub1 (Hl ?_)));simp only[Jf,Bool.false_and,HX,IU,Kg,↓reduceIte];refine Hk (m:=Builtin.Frozenset.addrOf (.ref O)) (Hl ?_);unfold Builtin.Frozenset.sizeOf;refine Hk (Hk (Jl go rfl gf (Hl ?_)));refine Hk (Hk (Jl ho rfl hf (Hl ?_)));rw[HP (by rw[he.size,ge.size];exact hsm)];refine Hk (JW (Hk (tM hS (by omega) fun h' tk kp hJ=>?_)));generalize s.heap.objs.size=N at *;refine Hk (m:=Builtin.Frozenset.addrOf (.ref N)) (Hl ?_);obtain⟨_,es',ep',t',go',ht',he'⟩:=hJ.is;have hf':t'.fits es'.size=true:=by rw[he'.size];exact ht'.ft
 have tyO':Shared.TypeIs { s with heap:=h',toks:=tk } (.ref O) "set":=⟨_,kp O _ go,rfl⟩;refine Hk (Iy ?_);unfold Builtin.Frozenset.differenceUpdate Builtin.Frozenset.isAnySet orM;have eON:(Value.ref O==Value.ref N)=false:=by simpa using oN
 rw[eON];simp only[HX,IU];refine Hk (Hk (IE tyO' sub1 (Hl ?_)));simp only[↓reduceIte];refine Hk (m:=Builtin.Frozenset.addrOf (.ref O)) (Hl ?_);unfold Builtin.Frozenset.sizeOf;refine Hk (Hk (Jl (s:={ s with heap:=h',toks:=tk }) (kp O _ go) rfl gf (Hl ?_)));refine Hk (Hk (Jl (s:={ s with heap:=h',toks:=tk }) go' rfl hf' (Hl ?_)));rw[HM (by rw[he'.size,ge.size,M0];simp)];refine Hk (wpAny_setEpoch_of (s:={ s with heap:=h',toks:=tk }) (kp O _ go) rfl gf ?_);have w0:walk w O fs fp=#[]:=Array.eq_empty_of_size_eq_zero (by rw[cD,ge.size,M0];rfl);refine Hk (Iy (Hk (eQ (s:={ s with heap:=h',toks:=tk }) gt (kp O _ go) ge ?_)));rw[w0];refine Hk ?_;rw[←Jx];show wpAny _ _ (forIn ([]:List (Int×Value)) _ _) _ _ _;rw[JO];refine Hl (Hl ?_);unfold setTidy;refine Hk (IL (s:={ s with heap:=h',toks:=tk }) go' rfl hf' ?_);dsimp only;have td:t'.tooManyDummies=false:=by unfold SetTable.tooManyDummies;rw[ht'.dm];simp
 rw[td];simp only[HX,IU];exact Hl (Hl (h h' tk L kp hJ fun x=>by rw[M0];simp))
theorem rf{id:String}(hne:S≠O)(hS:bV s.heap S (ax w) L)(hO:dD s.heap O (ax w) M)
  (h:∀h' tk L',(∀b o,s.heap.get? b=some o->h'.get? b=some o)->dD h' s.heap.objs.size (ax w) L'->(∀x,x∈L'↔x∈L/\x∉M)->Q (.ref s.heap.objs.size) { s with heap:=h',toks:=tk }) :
  wpAny (model prog w) A (Builtin.Frozenset.difference id S (.ref O)) Q E s:=by
 by_cases c:L.length / 4>M.length
 ·exact pW hS hO c h
 ·exact mh hne hS.j hO c h
end
end SI
namespace SI
section
variable {prog:Program}{w:World}{A:Around}{E:Value->Shared->Prop}{s:Shared}
theorem entry_sub:entryFor table "set.__sub__"=some Builtin.«frozenset.__sub__»:=entryFor_alias (id':="frozenset.__sub__") (by kernel_rfl) rfl (by decide +kernel) (by kernel_rfl)
theorem uu(hne:S≠O)(hS:bV s.heap S (ax w) L)(hO:dD s.heap O (ax w) M)
  (h:∀h' tk L',(∀b o,s.heap.get? b=some o->h'.get? b=some o)->dD h' s.heap.objs.size (ax w) L'->(∀x,x∈L'↔x∈L/\x∉M)->Q (.ref s.heap.objs.size) { s with heap:=h',toks:=tk }) :
  wpAny (model prog w) A (binaryOp .Sub (.ref S) (.ref O)) Q E s:=by
 obtain⟨hL,es,ep,t,ho,ht,he⟩:=hS.j.is;obtain⟨hM,fs,fp,u,go,gt,ge⟩:=hO.is;have tyS:s.TypeIs (.ref S) "set":=⟨_,ho,rfl⟩;have tyO:s.TypeIs (.ref O) "set":=⟨_,go,rfl⟩;have sub1:=sub_set_self;refine wpAny_binaryOp_same (op:=.Sub) (T:="set") tyS tyO F.fills_set_sub F.slot_set_sub (Ik F.slot_set_sub tyS entry_sub ?_ (F.args_set_sub_2 _ _));show wpAny _ _ (Bind.bind (Builtin.Frozenset.slot1 "__sub__" ⟨[.ref S,.ref O],[]⟩) _) _ _ s;unfold Builtin.Frozenset.slot1;refine Hk (Hk (Hl (Hl ?_)));unfold Builtin.Frozenset.isAnySet;simp only[andM,orM,HX,IU];refine Hk (Hk (Hk (IE tyS sub1 (Hl ?_))));refine Hk (IE tyO sub1 (Hl ?_));rw[HM (by decide)];refine Hk (m:=Builtin.Frozenset.addrOf (.ref S)) (Hl (Hk (rf hne hS hO fun h' tk L' kp hJ hm=>Hl ⟨_,rfl,by simp,h h' tk L' kp hJ hm⟩)))
end
end SI
namespace SI
section
variable {prog:Program}{w:World}{A:Around}{E:Value->Shared->Prop}{s:Shared}
theorem DX(hh:A.in1.handled=none)(hT:kZ vs ns)(hin:∀n∈ns,n<6)(hSI:S≠I)(hSl:S≠l)(hlI:l≠I) :
  ∀(k i:Nat) (s:Shared),ns.length - i=k->i≤ns.length->s.heap.IsTupleIter I l i->s.heap.IsTuple l vs.toArray->bV s.heap S led (lof (ns.take i)) ->
   (∀h' tk,(∀b o,b≠S->b≠I->s.heap.get? b=some o->h'.get? b=some o)->bV h' S led (lof ns)->R (.ok (.ret .none)) { s with heap:=h',toks:=tk }) ->
   codeAny (model prog w) A (.builtin "set.update.loop" ⟨[.ref S,.ref I],[]⟩) R s:=by
 intro k
 induction k with
 | zero =>
  intro i s hk hi hit hl hP hR;have e:i=ns.length:=by omega
  subst e;rw[Iq]at hP;refine Je F.entry_set_update_loop ?_;rw[IM JA _];show wpAny _ A.in1 (pyNext (.ref I) >>= _) _ _ s;refine Hk (wpAny_pyNext_tuple_end hh hit hl (by simp[hT.1]) fun h' eb=>?_);show wpAny _ A.in1 (ret Value.none) _ _ _;refine Hl (hR h' s.toks (fun b o _ hb e=>eb b o hb e) ?_);obtain⟨hL,es,ep,ho,r⟩:=hP.is;exact⟨hL,es,ep,eb S _ hSI ho,r⟩
 | succ k ih =>
  intro i s hk hi hit hl hP hR;have hlt:i<ns.length:=by omega
  have hvl:i<vs.length:=by rw[hT.1];exact hlt
  have hvi:vs[i]?=some vs[i]:=Hn hvl;obtain⟨tk,ev⟩:=hT.2 i _ hvi;have en:ns.getD i 0=ns[i]:=by rw[Hq,Hn hlt];rfl
  rw[en]at ev;refine Je F.entry_set_update_loop ?_;rw[IM JA _];show wpAny _ A.in1 (pyNext (.ref I) >>= _) _ _ s;refine Hk (wpAny_pyNext_tuple_item hit hl (x:=Value.int ((ns[i]:Nat):Int) tk) (by rw[←ev];simp) fun h1 hit1 sb1=>?_);have k1:∀b o,b≠I->s.heap.get? b=some o->h1.get? b=some o:=fun b o hb e=>sb1.extBut b o hb e;have hP1:bV h1 S led (lof (ns.take i)):=by
   obtain⟨hL,es,epo,ho,r⟩:=hP.is;exact⟨hL,es,epo,k1 S _ hSI ho,r⟩
  show wpAny _ A.in1 (holding [Value.int ((ns[i]:Nat):Int) tk] (setAdd S (Value.int ((ns[i]:Nat):Int) tk)) >>= _) _ _ _;refine Hk (Iy (ik (A:=A.in1) hP1 (hin _ (IH hlt)) fun b h2 tk2 sb2 hP2=>?_));have k2:∀b o,b≠S->h1.get? b=some o->h2.get? b=some o:=fun b o hb e=>sb2.extBut b o hb e;have hP3:bV h2 S led (lof (ns.take (i+1))):=by rw[lR hlt];exact hP2
  refine Hl ⟨plainId_quiet JA _,ih (i+1) { s with heap:=h2,toks:=tk2 } (by omega) (by omega) (hit1.extBut (fun b o hb e=>k2 b o hb e) (Ne.symm hSI)) ?_ hP3 ?_⟩
  ·exact(hl.extBut (fun b o hb e=>k1 b o hb e) hlI).extBut (fun b o hb e=>k2 b o hb e) (Ne.symm hSl)
  ·intro h3 tk3 kp hP4;exact hR h3 tk3 (fun b o hb hb' e=>kp b o hb hb' (k2 b o hb (k1 b o hb' e))) hP4
theorem jR(hh:A.handled=none)(hl:s.heap.IsTuple l vs.toArray)(hT:kZ vs ns)(hin:∀n∈ns,n<6)
  (h:∀h' tk,(∀b o,b<s.heap.objs.size->s.heap.get? b=some o->h'.get? b=some o)->bV h' s.heap.objs.size (ax w) (lof ns)->Q (.ref s.heap.objs.size) { s with heap:=h',toks:=tk }) :
  wpAny (model prog w) A (call (.type "set") [.ref l]) Q E s:=by
 obtain⟨c0,tl0,mro0⟩:=F.called_set.mro;have made0:=F.called_set.made;have sub0:=F.called_set.sub;have nt0:=F.called_set.notType;have cc0:=F.called_set.canCreate;have tc0:=F.typeCall_set_1 (.ref l);refine wpAny_call (codeAny_of_tree ?_);show wpAny (model prog w) _ (callAny (.type "set") _) _ _ _;refine Hl ⟨Code.quiet_builtin _ (by decide +kernel),Je F.entry_type_call ?_⟩;rw[Around.under_plain (weight_type_call_type "set" [.ref l] []) rfl]
 repeat (any_goals (first | assumption | wp_step))
 refine Kj (nE (.ref l) (E:=E) (Q₁:=fun obj s1=>obj=.ref s.heap.objs.size /\
  s1={ s with heap:=s.heap.push { cls:=.type "set",dict:=none,data:=.set #[] 0 (.fresh 0 0 (ax w)) } }) ⟨rfl,rfl⟩) fun r s1 hr=>?_
 cases r with
 | error e=>exact hr
 | ok fl =>
  cases fl with
  | ret obj =>
   obtain⟨rfl,rfl⟩:=hr;generalize hH:s.heap.push { cls:=.type "set",dict:=none,data:=.set #[] 0 (.fresh 0 0 (ax w)) }=H1;have hS:H1.get? s.heap.objs.size=some { cls:=.type "set",dict:=none,data:=.set #[] 0 (.fresh 0 0 (ax w)) }:=by rw[←hH];exact Hv _ rfl
   have old:∀b o,s.heap.get? b=some o->H1.get? b=some o:=fun b o e=>by rw[←hH];exact Ho _ e
   have hsz:H1.objs.size=s.heap.objs.size+1:=by rw[←hH,Ji]
   have tyS:Shared.TypeIs { s with heap:=H1 } (.ref s.heap.objs.size) "set":=⟨_,hS,rfl⟩;have li0:=F.called_set.init.lookup;have bi0:=F.called_set.init.bind (.ref s.heap.objs.size)
   repeat (any_goals (first | assumption | wp_step))
   refine Kj (codeAny_call_builtin (R:=wants (fun r s2=>r=.none/\∃h' tk,s2={ s with heap:=h',toks:=tk }/\bV h' s.heap.objs.size (ax w) (lof ns) /\
    (∀b o,b<s.heap.objs.size->s.heap.get? b=some o->h'.get? b=some o)) E) F.called_set.init.plain F.entry_set_init (check_set_init_1 tyS ?_)) fun r2 s2 hr2=>?_
   ·obtain⟨ol,hol,hcl,nl,hdl⟩:=hl;obtain⟨oc,od,oda,osl⟩:=ol;simp only at hcl hdl;subst hcl;subst hdl;have hol1:H1.get? l=some { cls:=.type "tuple",dict:=od,data:=.seq vs.toArray nl,slots:=osl }:=old _ _ hol;have sls:=F.sub_tuple_set;have slf:=F.sub_tuple_frozenset;have nld:(Value.type "tuple"==Value.type "dict")=false:=by decide
    have hl1:H1.IsTuple l vs.toArray:=⟨_,hol1,rfl,nl,rfl⟩;have llt:l<s.heap.objs.size:=Hu hol;unfold Builtin.«set.__init__» noKeywords Builtin.Frozenset.updateFrom;generalize hPI:pyIter=PI
    wp_walk
    subst hPI;refine wpAny_pyIter_tuple hl1 ?_;refine Hk (wpAny_runValue ?_);generalize hH2:H1.push { cls:=.type "tuple_iterator",data:=.fields #[.ref l,.int 0 0] }=H2;have old2:∀b o,H1.get? b=some o->H2.get? b=some o:=fun b o e=>by rw[←hH2];exact Ho _ e
    refine DX (l:=l) (ns:=ns) (vs:=vs) (led:=ax w) (by simp[hh]) hT hin (by show s.heap.objs.size≠H1.objs.size;rw[hsz];exact HQ (Nat.lt_succ_self _)) (Jp llt) (by show l≠H1.objs.size;rw[hsz];exact HQ (JR llt)) ns.length 0 _ (by omega) (JG _) ?_ ?_ ?_ ?_
    ·rw[←hH2];exact⟨_,Hv _ rfl,rfl,rfl⟩
    ·exact⟨_,old2 _ _ hol1,rfl,nl,rfl⟩
    ·refine⟨iM,#[],0,old2 _ _ hS,[],rfl,rfl⟩
    ·intro h' tk kp hP;show wpAny _ _ (pure ()) _ _ _;refine Hl ?_;show wpAny _ _ (ret Value.none) _ _ _;refine Hl ⟨rfl,h',tk,rfl,hP,fun b o hb e=>?_⟩;refine kp b o (HQ hb) ?_ (old2 _ _ (old _ _ e));show b≠H1.objs.size;rw[hsz];exact HQ (JR hb)
   ·cases r2 with
    | error e=>exact hr2
    | ok f2 =>
     cases f2 with
     | ret r =>
      obtain⟨rfl,h',tk,rfl,hP,hk⟩:=hr2
      repeat (any_goals (first | assumption | wp_step))
      exact h _ _ hk hP
     | _=>exact hr2.elim
  | _=>exact hr.elim
end
end SI
namespace L2
variable {X:Cx}
def pe(w:World)(S:Addr)(L:List Nat):Heap->Prop:=fun h=>SI.bV h S (SI.ax w) L
theorem pj(hc:X.calm=true):bH X (.type "set") (fun xs H Q=>∃(a:Addr) (ns:List Nat),xs=[.ref a]/\SqL X.K H a (ns.map wA)/\(∀n∈ns,n<6)/\∀S,H S=none->Q (.ref S) (upd H S (.ext (pe X.w S (SI.lof ns))))):=by
 intro pins s σ H xs us Q I r h;obtain⟨a,ns,rfl,hq,hin,q⟩:=h;obtain⟨u,rfl,ru⟩:=Vals.one r;cases ru;obtain⟨its,rv,p,hz⟩:=I.list hq;refine SI.iS (ns:=ns) (I.ok.hd hc) p.isList (fD rv) hin fun h' tk kp P=>?_;have hn:H s.heap.objs.size=none:=I.hok.fresh (Hr _);refine⟨.ref s.heap.objs.size,_,I.laid (t':=tk) (o:=.ext (pe X.w s.heap.objs.size (SI.lof ns))) (fun b o e=>kp b o (Hu e) e) (Hr _) ?_,rfl,q _ hn⟩;obtain⟨hL,es,ep,ho,he⟩:=P.is;exact⟨P,⟨_,ho⟩,fun h1 h2 x k=>by obtain⟨a,es,ep,e,l⟩:=x.is;exact⟨a,es,ep,k _ e,l⟩⟩
theorem oU(J:SI.dD h S (SI.ax w) L):aI P w H h S (.ext (dO w S L)):=by
 obtain⟨hL,es,ep,t,ho,he⟩:=J.is;exact⟨J,⟨_,ho⟩,fun h1 h2 x k=>by obtain⟨a,es,ep,t,e,l⟩:=x.is;exact⟨a,es,ep,t,k _ e,l⟩⟩
theorem qp(hc:X.calm=true):bH X (.type "set") (fun xs H Q=>∃(b:Addr) (ns:List Nat),xs=[.ref b]/\SqT X.K H b (ns.map wA)/\(∀n∈ns,n<6)/\∀S,H S=none->Q (.ref S) (upd H S (.ext (dO X.w S (SI.lof ns))))):=by
 intro pins s σ H xs us Q I r h;obtain⟨b,ns,rfl,hq,hin,q⟩:=h;obtain⟨u,rfl,ru⟩:=Vals.one r;cases ru;obtain⟨its,rv,p,hz⟩:=I.tuple hq;refine SI.jR (ns:=ns) (I.ok.hd hc) p (fD rv) hin fun h' tk kp P=>?_;have hn:H s.heap.objs.size=none:=I.hok.fresh (Hr _);exact⟨.ref s.heap.objs.size,_,I.laid (t':=tk) (o:=.ext (dO X.w s.heap.objs.size (SI.lof ns))) (fun b o e=>kp b o (Hu e) e) (Hr _) (oU P.j),rfl,q _ hn⟩
theorem uT:OpR X (binaryOp .Sub) (fun x y H Q=>∃S O L M,x=.ref S/\y=.ref O/\S≠O/\H S=some (.ext (pe X.w S L))/\H O=some (.ext (dO X.w O M))/\∀R L',H R=none->L'∈SI.subs->(∀x,x∈L'↔x∈L/\x∉M)->Q (.ref R) (upd H R (.ext (dO X.w R L')))):=by
 intro pins s σ H x y v u Q I rx ry h;obtain⟨S,O,L,M,rfl,rfl,hne,hS,hO,q⟩:=h;cases rx;cases ry;obtain⟨P,_,_⟩:=(show aI X.prog X.w H s.heap S (.ext (pe X.w S L))from I.hok S _ hS);obtain⟨J,_,_⟩:=(show aI X.prog X.w H s.heap O (.ext (dO X.w O M))from I.hok O _ hO);refine SI.uu hne P J fun h' tk L' kp hJ hm=>?_;have hn:H s.heap.objs.size=none:=I.hok.fresh (Hr _);exact⟨.ref s.heap.objs.size,_,I.laid (t':=tk) (o:=.ext (dO X.w s.heap.objs.size L')) (fun b o e=>kp b o e) (Hr _) (oU hJ),rfl,q _ L' hn hJ.is.1 hm⟩
end L2
namespace U
open L2
variable {B:Bs}{X:Cx}{a b:Expr}{ta tb:TE'}{p p2 p3 pos pos2 pos3 bpos:Pos}
def Ds(x:PV)(H1:PHp)(k:List Nat->Prop):Prop:=match x with
 | .ref a=>∃ns:List Nat,H1 a=some (.lst (ns.map gy))/\(∀n∈ns,n<6)/\k ns
 | _=>False
def subB(y:PV)(k:List Nat->Prop):Prop:=match y with
 | .tup m=>∃ms:List Nat,m=ms.map gy/\(∀n∈ms,n<6)/\k ms
 | _=>False
theorem Fq{a:Addr}:Ds (.ref a) H1 k=∃ns:List Nat,H1 a=some (.lst (ns.map gy))/\(∀n∈ns,n<6)/\k ns:=rfl
theorem G7:subB (.tup m) k=∃ms:List Nat,m=ms.map gy/\(∀n∈ms,n<6)/\k ms:=rfl
def lY(ta tb:TE'):TE':=fun σ H Q=>ta σ H fun x H1=>Ds x H1 fun ns=>tb σ H1 fun y H2=>subB y fun ms=>∀(r:Addr) (ks:List Nat),H2 r=none->ks.Pairwise (·<·)->(∀x,x∈ks↔x∈ns/\x∉ms)->Q (.ref r) (put H2 r (.lst (ks.map gy)))
theorem iY(hc:X.calm=true)(hgl:Gl X "sorted")(hml:X.mg "sorted"=none)(hgs:Gl X "set")(hms:X.mg "set"=none)(bs:bootBuiltins "set"=some (.type "set"))(ha:PE' X B a ta)(hb:PE' X B b tb)(bo:bootBuiltins "sorted"=some (.builtin "sorted"):=by decide +kernel)
  (he:starEach [.BinOp (.Call (.Name "set" p2) [a] [] pos2) .Sub (.Call (.Name "set" p3) [b] [] pos3) bpos] X.env=[(false,eval (.BinOp (.Call (.Name "set" p2) [a] [] pos2) .Sub (.Call (.Name "set" p3) [b] [] pos3) bpos) X.env)]:=by rfl) (he2:starEach [a] X.env=[(false,eval a X.env)]:=by rfl) (he3:starEach [b] X.env=[(false,eval b X.env)]:=by rfl) :
  PE' X B (.Call (.Name "sorted" p) [.BinOp (.Call (.Name "set" p2) [a] [] pos2) .Sub (.Call (.Name "set" p3) [b] [] pos3) bpos] [] pos) (lY ta tb) :=
 aF (kM (mT hc) hgl hml bo (cM (ya uT (fQ (pj hc) hgs hms bs (cM ha dP he2) (by decide) (by decide) he2 rfl) (fQ (qp hc) hgs hms bs (cM hb dP he3) (by decide) (by decide) he3 rfl)) dP he) (by decide) (by decide) he rfl) fun σ H Q h=>by
  obtain⟨σ',H',Q',s,h,k⟩:=h;refine⟨σ',H',_,s,h,fun x' H1' x H1 h1 rx s1 e1=>?_⟩;cases x' with
  | ref a =>
   obtain⟨ns,ea,hin,h2⟩:=h1;simp only[RP]at rx;subst rx;obtain⟨us,eg,r2⟩:=s1.hp _ _ ea;rw[hZ r2]at eg;refine⟨a,ns,rfl,.inl (.inl eg),hin,fun S hS=>?_⟩;have s2:=s1.hid (o:=.ext (pe X.w S (SI.lof ns))) hS;have ev2:Ev H1' H1 H1' (upd H1 S (.ext (pe X.w S (SI.lof ns)))):=Ev.hid hS;refine⟨σ',H1',_,s2,h2,fun y' H2' y H2 h3 ry s3 e3=>?_⟩;cases y' with
   | tup m =>
    obtain⟨ms,rfl,hin2,h4⟩:=h3;simp only[RP]at ry;obtain⟨b,vs,rfl,hb,r3⟩:=ry;rw[hZ r3]at hb;have hS2:=e3 S _ aE (s1.hp.free hS);refine⟨b,ms,rfl,hb,hin2,fun O hO=>?_⟩;have nSO:S≠O:=az hS2.1 hO;have s4:=s3.hid (o:=.ext (dO X.w O (SI.lof ms))) hO;have ev4:Ev H2' H2 H2' (upd H2 O (.ext (dO X.w O (SI.lof ms)))):=Ev.hid hO;generalize hH3:upd H2 O (.ext (dO X.w O (SI.lof ms)))=H3 at *;refine⟨S,O,_,_,rfl,rfl,nSO,by rw[←hH3];exact(ay nSO).trans hS2.1,by rw[←hH3];exact aE,fun R L' hR hL' hm=>?_⟩;have s5:=s4.hid (o:=.ext (dO X.w R L')) hR;have ev5:Ev H2' H3 H2' (upd H3 R (.ext (dO X.w R L'))):=Ev.hid hR;refine⟨R,L',rfl,aE,fun r os hr hs hp=>?_⟩;have nd:=(SI.fI _ hL').2.2.1;have ho:∀x∈os,∃n∈L',x=((n:Nat):Int):=fun x hx=>by
     obtain⟨n,h1,h2⟩:=Hw.mp (hp.mem_iff.mp hx);exact⟨n,h1,h2.symm⟩
    have em:=k9 ho;generalize os.map Int.toNat=ks at em;subst em;have pk:ks.Perm L':=by
     have:=hp.map Int.toNat
     simpa[HY,Function.comp_def]using this
    have ndk:ks.Nodup:=pk.nodup_iff.mpr nd;have hsk:ks.Pairwise (·<·):=by
     rw[List.pairwise_map]at hs;refine List.Pairwise.imp₂ (fun a b h1 h2=>?_) hs ndk;have:a≠b:=h2;omega
    have hq:=h4 r ks (s5.hp.free hr) hsk fun x=>pk.mem_iff.trans ((hm x).trans ⟨fun q=>⟨SI.gU.mp q.1,fun z=>q.2 (SI.gU.mpr z)⟩,fun q=>⟨SI.gU.mpr q.1,fun z=>q.2 (SI.gU.mp z)⟩⟩);have rr:RPs X.K (upd H3 R (.ext (dO X.w R L'))) (ks.map gy) ((ks.map fun(n:Nat)=>(n:Int)).map V.int):=by
     have e3:ks.map gy=(ks.map fun(n:Nat)=>(n:Int)).map PV.int:=by rw[HY];rfl
     rw[e3];exact lK
    exact k _ _ _ _ hq (by simp[RP]) (s5.new hr (hU hr rr)) (((((e1.trans ev2).trans e3).trans ev4).trans ev5).trans (Ev.new hr))
   | _=>exact h3.elim
  | _=>exact h1.elim
end U
namespace L2
variable {X:Cx}{tg:Expr}
def ItB(lo:Int)(n:Nat):It:=⟨fun i _=>i<n,fun i H x H'=>H'=H/\x=.int (lo+2*i),fun i _=>n≤i⟩
theorem sP{K:PySem.W.Frag}(it:Addr)(lo:Int)(n:Nat):Turn P w K tg (ItB lo n) [it] it (fun i h=>IsRangeIter h it (lo+(i:Nat)*2) ((n:Int) - (i:Nat)) 2) where
 mem:=by simp
 obj:=fun i h st b hb=>by
  have q:b=it:=by simpa using hb
  subst q;exact⟨_,st,fun v z=>by
   have z':Data.fields _=Data.cell v:=z;cases z'⟩
 keep:=fun i h h' st k=>k it (by simp) _ st
 item:=by
  intro X hP hw hK hc i pins s σ H E I hf st hg;subst hP hw hK;obtain⟨f0,f1,f2,f3,f4,f5⟩:=hf it (by simp);have W:=Walks.range (prog:=X.prog) (w:=X.w) (I.ok.hd hc) it lo 2 n;refine W.item i s _ _ hg st fun v h' tk hv st' kk=>?_;obtain⟨t,rfl⟩:=hv;have J:Inv X pins σ H { s with heap:=h',toks:=tk }:=I.turned (fun b o hb e=>kk b o (by simpa using hb) e) f0 f1 f3 f4 f5;refine⟨_,rfl,jq (s:={ s with heap:=h',toks:=tk }) (n:="range_iterator") st' rfl rfl (by decide) ⟨.int (lo+2*i),H,J,⟨t,?_⟩,⟨rfl,rfl⟩,st',fun b hb=>(hf b hb).1⟩⟩;congr 1;omega
 done:=by
  intro X hP hw hK hc i pins s σ H E I hf st hg;subst hP hw hK;obtain⟨f0,f1,f2,f3,f4,f5⟩:=hf it (by simp);exact wpAny_pyNext_range_end (I.ok.hd hc) st (by have q:n≤i:=hg;omega) fun h' eb=>⟨rfl,I.turned (t':=s.toks) (fun b o hb e=>eb b o hb e) f0 f1 f3 f4 f5⟩
 self:=fun _ _ _ _ _ st h=>wpAny_pyIter_rangeiter st h
def by2(lo hi:Int):Nat:=((hi - lo+1) / 2).toNat
def E8(ta:TA):TI:=fun σ H R=>ta σ H fun vs H1=>∃lo hi:Int,vs=[.int lo,.int hi,.int 2]/\0≤lo/\lo<1000/\0≤hi/\hi<1000/\R (ItB lo (by2 lo hi)) H1
theorem kY{lo hi:Int}:Builtin.Range.rangeSize lo hi 2=(by2 lo hi:Nat):=by
 unfold Builtin.Range.rangeSize by2;rw[HP (by decide)];split<;>omega
theorem pK{lo hi:Int}(h1:0≤lo)(h2:lo<1000)(h3:0≤hi)(h4:hi<1000):Builtin.Range.small lo hi 2=true:=by
 unfold Builtin.Range.small;rw[kY];have:by2 lo hi≤600:=by unfold by2;omega
 generalize by2 lo hi=n at this;simp only[Builtin.Range.rangeFitsLong,IP,Bool.or_eq_true,Jn,beq_iff_eq];refine⟨⟨⟨⟨by omega,by omega⟩,by decide⟩,by omega⟩,?_⟩;refine .inr ?_;rw[HP (by decide),IP,Jn,Jn];exact⟨by omega,by omega⟩
theorem BO{a b c:Expr}{ta:TA}{p pos:Pos}(hg:Gl X "range")(hm:X.mg "range"=none)(ha:PA X [a,b,c] ta)(hs:starEach [a,b,c] X.env=[(false,eval a X.env),(false,eval b X.env),(false,eval c X.env)]:=by rfl)
  (hs2:starEach [b,c] X.env=[(false,eval b X.env),(false,eval c X.env)]:=by rfl):PI X tg (.Call (.Name "range" p) [a,b,c] [] pos) (E8 ta):=by
 intro pins s σ H R I h;refine Call_ (bt I hg hm boot_range (Ia (thn (ha pos pins s σ H _ I h) fun us s1 ⟨vs,H1,I1,r1,q1⟩=>?_) (by rw[hs,hs2]) (by rw[hs2];rfl)));obtain⟨lo,hi,e,q1,q2,q3,q4,q⟩:=q1;subst e;cases r1 with
 | cons r rr =>
  cases rr with
  | cons r' rr =>
   cases rr with
   | cons r'' rr =>
    cases rr;obtain⟨t,rfl⟩:=r;obtain⟨t',rfl⟩:=r';obtain⟨t'',rfl⟩:=r'';refine call_range_3 (by decide) ?_ (Or.inl (PyProof.noPylong_of_log2 (by decide +kernel)));generalize hh:s1.heap.push { cls:=.type "range",data:=.fields #[.int lo t,.int hi t',.int 2 t''] }=h2;have I2:Inv X pins σ H1 { s1 with heap:=h2 }:=by rw[←hh];exact I1.kept (t':=s1.toks) fun b o e=>Ho _ e
    refine wpAny_pyIter_range (s:={ s1 with heap:=h2,toks:=s1.toks }) (by rw[←hh];exact IsRange.new ..) (pK q1 q2 q3 q4) ?_;refine⟨h2.objs.size,[h2.objs.size],_,_,H1,rfl,I2.kept (t':=s1.toks) fun b o e=>Ho _ e,sP _ lo (by2 lo hi),?_,fun b hb=>?_,q⟩
    ·show IsRangeIter _ _ (lo+((0:Nat):Int)*2) (((by2 lo hi:Nat):Int) - ((0:Nat):Int)) 2;have e1:lo+((0:Nat):Int)*2=lo:=by simp
     have e2:((by2 lo hi:Nat):Int) - ((0:Nat):Int)=Builtin.Range.rangeSize lo hi 2:=by rw[kY];omega
     rw[e1,e2];exact Hv _ rfl
    ·have e:b=h2.objs.size:=by simpa using hb
     subst e;exact I2.fpOk (Hr _) (I2.hok.fresh (Hr _))
end L2
namespace U
open L2
variable {B:Bs}{X:Cx}{a b c:Expr}{pos:Pos}
def eZ(lo:Int)(n:Nat):List PV:=(List.range n).map fun k=>PV.int (lo+2*(k:Nat))
theorem qk{K:PySem.W.Frag}{lo:Int}:Walks K H1 (ItB lo n) ⟨eZ lo n,fun _=>True⟩ where
 go:=fun H' H i _ _ _ hi=>by
  have q:i<n:=by simpa[eZ]using hi
  exact q
 yld:=fun H' H i x H2 _ _ _ y=>by
  obtain⟨rfl,rfl⟩:=y;refine⟨rfl,fun x' hx=>?_⟩;unfold eZ at hx;rw[Ht]at hx;cases q:(List.range n)[i]? with
  | none=>rw[q]at hx;cases hx
  | some j =>
   rw[q]at hx;have:j=i:=by
    have:=(Hs.mp q).2;simpa using this.symm
   subst this;cases hx;simp[RP]
 stop:=fun H' H i _ _ _ hi=>by
  have q:n≤i:=by simpa[eZ]using hi
  exact q
def rW(vs:List PV)(H1:PHp)(R:It'->PHp->Prop):Prop:=match vs with
 | [.int lo,.int hi,.int f]=>f=2/\0≤lo/\lo<1000/\0≤hi/\hi<1000/\R ⟨eZ lo (by2 lo hi),fun _=>True⟩ H1
 | _=>False
theorem F4{lo hi f:Int}:rW [.int lo,.int hi,.int f] H1 R=(f=2/\0≤lo/\lo<1000/\0≤hi/\hi<1000/\R ⟨eZ lo (by2 lo hi),fun _=>True⟩ H1):=rfl
def DG(t:TA'):TI':=fun σ H R=>t σ H fun vs H1=>rW vs H1 R
theorem A8{tg:Expr}{t:TA'}{p:Pos}(hg:Gl X "range")(hm:X.mg "range"=none)(ha:PA' X B [a,b,c] t)(hs:starEach [a,b,c] X.env=[(false,eval a X.env),(false,eval b X.env),(false,eval c X.env)]:=by rfl)
  (hs2:starEach [b,c] X.env=[(false,eval b X.env),(false,eval c X.env)]:=by rfl):PI' X B tg (.Call (.Name "range" p) [a,b,c] [] pos) (DG t) :=
 cK (BO hg hm ha hs hs2) fun σ H R y_=>by
  obtain⟨σ',H',R',s,h,k⟩:=y_;refine⟨σ',H',_,s,h,fun vs' H1' vs H1 h1 r1 s1 e1=>?_⟩;unfold rW at h1;split at h1
  ·rename_i lo hi f;obtain⟨rfl,h2,h3,h4,h5,q⟩:=h1;simp only[RPs,RP]at r1;obtain⟨u,r,rfl,rfl,u2,r2,rfl,rfl,u3,r3,rfl,rfl,rfl⟩:=r1;exact⟨lo,hi,rfl,h2,h3,h4,h5,k _ _ _ _ q qk s1 e1⟩
  ·exact h1.elim
end U
namespace L2
variable {X:Cx}
theorem pre_take(ns:List Int):∀i,i≤ns.length->preSum (fun j=>ns.getD j 0) i=(ns.take i).sum
 | 0,_=>by simp[preSum]
 | i+1,h=>by
  have hi:i<ns.length:=by omega
  rw[preSum,pre_take ns i (by omega),List.take_succ,Hn hi,List.sum_append];simp[Hq,Hn hi]
theorem i8(hc:X.calm=true):bH X (.builtin "sum") (fun xs H Q=>∃(a:Addr) (ns:List Int),xs=[.ref a]/\SqL X.K H a (ns.map V.int)/\Q (.int ns.sum) H):=by
 intro pins s σ H xs us Q I r h;obtain⟨a,ns,rfl,hq,q⟩:=h;obtain⟨u,rfl,ru⟩:=Vals.one r;cases ru;obtain⟨its,rv,p,hz⟩:=I.list hq;have hl:s.heap.IsList a its.toArray:=p.isList;have llt:a<s.heap.objs.size:=by obtain⟨o,e,_⟩:=hl;exact Hu e
 have hne:a≠s.heap.objs.size:=HQ llt;have hlen:its.length=ns.length:=by have:=Paired.length rv;rw[Hm]at this;exact this.symm
 refine call_sum_walkAnyS (wpAny_pyIter_list hl ?_);refine⟨s.heap.objs.size,[s.heap.objs.size,a],[s.heap.objs.size],_,its.toArray.size,_,_,fun i=>ns.getD i 0,rfl,(Walks.list (by simpa using I.ok.hd hc) _ a hne _).toS,⟨⟨_,Hv _ rfl,rfl,rfl⟩,hl.at fun o e=>Ho _ e⟩,fun b hb=>?_,fun i v hv=>?_,fun s' t' hm=>?_⟩
 ·rw[Ji];simp only[Hy,Il,JK]at hb;rcases hb with e | e
  ·rw[e];exact Nat.lt_succ_self _
  ·rw[e];exact JR llt
 ·have hv':its[i]?=some v:=by simpa using hv
  have hi:i<ns.length:=by rw[←hlen];exact(Hs.mp hv').1
  obtain⟨u,eu,ru⟩:=rv.get (Hn (by rw[Hm];exact hi));rw[hv']at eu;cases eu;rw[List.getElem_map]at ru;obtain⟨tk,rfl⟩:=ru;refine⟨tk,?_⟩;show _=Value.int (ns.getD i 0) tk;rw[Hq,Hn hi];rfl
 ·have e:preSum (fun i=>ns.getD i 0) its.toArray.size=ns.sum:=by
   rw[HS,hlen,pre_take ns ns.length (Hr _),Iq]
  rw[e,Moved.eq_with hm];refine⟨.int ns.sum,H,I.kept (t':=s'.toks) fun b o e=>?_,⟨_,rfl⟩,q⟩;exact hm.heap b o (by simpa using HQ (Hu e)) (Ho _ e)
end L2
namespace U
open L2
variable {B:Bs}{X:Cx}{a b:Expr}{ta tb:TE'}{pos:Pos}
def Ar:List PV->PHp->VK'->Prop:=bQ fun x H Q=>match x with
 | .ref a=>∃ns:List Int,H a=some (.lst (ns.map PV.int))/\Q (.int ns.sum) H
 | _=>False
theorem GQ{a:Addr}:Ar [.ref a] H Q=∃ns:List Int,H a=some (.lst (ns.map PV.int))/\Q (.int ns.sum) H:=rfl
theorem rh{K:PySem.W.Frag}:VC K B Ar (fun xs H Q=>∃(a:Addr) (ns:List Int),xs=[.ref a]/\SqL K H a (ns.map V.int)/\Q (.int ns.sum) H):=by
 intro σ' σ H' H xs' xs Q' Q s r h k;obtain⟨x',x,rfl,rfl,rx,h⟩:=bQ.ex h r;cases x' with
 | ref a =>
  obtain⟨ns,ea,q⟩:=h;simp only[RP]at rx;subst rx;obtain⟨us,e,r2⟩:=s.hp _ _ ea;rw[k7 r2]at e;exact⟨a,ns,rfl,.inl (.inl e),k _ _ _ _ q (by simp[RP]) s (Ev.refl _ _)⟩
 | _=>exact h.elim
def AX:List PV->PHp->VK'->Prop:=fun xs H Q=>match xs with
 | [.int i,.int j]=>Q (.int (if j<i then j else i)) H
 | _=>False
theorem EH:AX [.int i,.int j] H Q=Q (.int (if j<i then j else i)) H:=rfl
theorem A3{K:PySem.W.Frag}:VC K B AX (fun xs H Q=>∃i j,xs=[.int i,.int j]/\Q (.int (if j<i then j else i)) H):=by
 intro σ' σ H' H xs' xs Q' Q s r h k;unfold AX at h;split at h
 ·rename_i i j;simp only[RPs,RP]at r;obtain⟨_,_,rfl,rfl,_,_,rfl,rfl,rfl⟩:=r;exact⟨i,j,rfl,k _ _ _ _ h (by simp[RP]) s (Ev.refl _ _)⟩
 ·exact h.elim
end U
namespace L2
variable {X:Cx}
theorem qG{ws:List Value}(ht:IsTup s.heap t ([]:List Value).toArray)(hb:IsTup s.heap b ws.toArray)(h:Q (.ref b) s):wpAny (model prog w) A (binaryOp .Add (.ref t) (.ref b)) Q E s:=by
 obtain⟨⟨cls,dd,data,sl⟩,g,hc,n,g2⟩:=id ht;obtain⟨⟨cls2,dd2,data2,sl2⟩,k,hc2,n2,k2⟩:=id hb;simp only at hc g2 hc2 k2;subst hc g2 hc2 k2;exact concat_meets ⟨_,g,rfl⟩ ⟨_,k,rfl⟩ noFill_tuple_add seq_tuple_add PySem.F.slot_tuple_add PySem.F.entry_tuple_add (PySem.F.args_tuple_add_2 _ _) (tuple_addW0 t b _ ws.toArray n n2 dd dd2 sl sl2 rfl) ⟨g,k,h⟩
def yg(K:PySem.W.Frag):R2:=fun x y H Q=>∃a b xs ys,x=.ref a/\y=.ref b/\SqT K H a xs/\SqT K H b ys/\xs.length+ys.length≤sizeLine/\(xs=[]->Q (.ref b) H)/\(ys=[]->Q (.ref a) H)/\(ys≠[]->∀p,H p=none->Q (.ref p) (upd H p (.tup (xs++ys))))
theorem xl:OpR X (binaryOp .Add) (yg X.K):=by
 intro pins s σ H x y v u Q I rx ry h;obtain⟨a,b,xs,ys,rfl,rfl,ha,hb,hz,q0,q1,q2⟩:=h;by_cases e:xs=[]
 ·cases rx;cases ry;subst e;obtain⟨its,r1,p1,_⟩:=I.tuple ha;obtain⟨its2,r2,p2,_⟩:=I.tuple hb;cases r1;exact qG p1 p2 ⟨.ref b,H,I,rfl,q0 rfl⟩
 ·exact wQ pins s σ H _ _ v u Q I rx ry ⟨a,b,xs,ys,rfl,rfl,ha,hb,e,hz,q1,q2⟩
end L2
namespace U
open L2
variable {B:Bs}{X:Cx}{a b:Expr}{ta tb:TE'}{pos:Pos}
def lW:R2':=fun x y H Q=>match x,y with
 | .tup l,.tup m=>l.length+m.length≤sizeLine/\Q (.tup (l++m)) H
 | _,_=>False
theorem Hg:lW (.tup l) (.tup m) H Q=(l.length+m.length≤sizeLine/\Q (.tup (l++m)) H):=rfl
theorem vF{K:PySem.W.Frag}:VR K B lW (yg K):=by
 intro σ' σ H' H x' y' x y Q' Q s rx ry h k;unfold lW at h;split at h
 ·rename_i l m;obtain⟨hl,q⟩:=h;have rx':=rx;have ry':=ry;simp only[RP]at rx ry;obtain⟨a,us,rfl,ha,r1⟩:=rx;obtain⟨b,ws,rfl,hb,r2⟩:=ry;have l1:=RPs.length _ r1;have l2:=RPs.length _ r2;refine⟨a,b,us,ws,rfl,rfl,ha,hb,by rw[l1,l2];exact hl,fun e=>?_,fun e=>?_,fun e p hp=>?_⟩
  ·have:l=[]:=Jz.mp (by rw[←l1,e];rfl);rw[this,List.nil_append]at q;exact k _ _ _ _ q ry' s (Ev.refl _ _)
  ·have:m=[]:=Jz.mp (by rw[←l2,e];rfl);rw[this,IF]at q;exact k _ _ _ _ q rx' s (Ev.refl _ _)
  ·exact k _ _ _ _ q (kU hp (RPs.append _ r1 r2)) (s.hid hp) (Ev.hid hp)
 ·exact h.elim
theorem om(ha:PE' X B a ta)(hb:PE' X B b tb):PE' X B (.BinOp a .Add b pos) (uOp lW ta tb):=dE xl vF ha hb
end U
namespace RL
variable {prog:Program}{w:World}{A:Around}{E:Value->Shared->Prop}{s:Shared}{it l:Addr}{items:Array Value}
theorem BQ:typeLookup (.type "list_reverseiterator") "__len__"=pure none:=by rw[typeLookup_type,JJ];kernel_rfl
theorem ud:typeLookup (.type "list_reverseiterator") "__length_hint__"=pure (some (.builtin "list_reverseiterator.__length_hint__")):=by rw[typeLookup_type,JJ];kernel_rfl
theorem hint(ty:s.TypeIs (.ref it) "list_reverseiterator")(h:Q false s):wpAny (model prog w) A (Builtin.List.listLengthHint (.ref it)) Q E s:=by
 unfold Builtin.List.listLengthHint;refine Hk (Jw ty BQ ?_);dsimp only;refine IG (fun hab=>absurd hab (by decide +kernel)) (fun _=>?_);refine IG (fun hab=>absurd hab (by decide +kernel)) (fun _=>?_);refine Hk (Jw ty ud ?_);generalize hid:("list_reverseiterator.__length_hint__":String)=id0
 wp_delta
 rw[show splitId id0=some ("list_reverseiterator","__length_hint__")from by subst hid;decide +kernel];subst hid;refine Hk (IE (T:="list_reverseiterator") (b:=true) ty (by rw[isSubtype_type];kernel_rfl) ?_);refine IG (fun hab=>absurd hab (by decide)) (fun _=>?_);refine IG (fun _=>?_) (fun hab=>absurd (by decide +kernel) hab);refine IG (fun hab=>absurd hab (by decide +kernel)) (fun _=>?_);exact Hl h
theorem extend(hh:A.handled=none)(hit:s.heap.IsRevIter it l ((items.size:Int) - 1))(hl:s.heap.IsList l items)(hne:l≠it)(S:Addr)(hSi:S≠it)(hSl:S≠l)(res:Value)(c₀:Nat)(hS:s.heap.get? S=some { cls:=.type "list",data:=.seq #[] c₀ })(hn:items.size≤sizeLine)
  (hR:∀h' tk acc c',(∀b o,b≠S->b≠it->s.heap.get? b=some o->h'.get? b=some o)->h'.get? S=some { cls:=.type "list",dict:=none,data:=.seq acc c',slots:=#[] }->ItemsOf (fun i v=>items[items.size - 1 - i]?=some v) acc items.size->R (.ok (.ret res)) { s with heap:=h',toks:=tk }) :
  wpAny (model prog w) A.in1 (Builtin.List.listExtendWith (.ref S) (.ref it) res)
   (fun fin s'=>match fin with | .done f=>R (.ok f) s' | .again c'=>c'.quiet=true/\codeAny (model prog w) A c' R s') (fun e s'=>R (.error e) s') s:=by
 have W:=Walks.listRev (prog:=prog) (w:=w) (A:=A.in1) hh it l hne items;have hSf:S∉[it,l]:=by simp only[Hy,Il,JK,not_or];exact⟨hSi,hSl⟩
 have st:(0:Nat)≤items.size/\s.heap.IsRevIter it l ((items.size:Int) - 1 - ((0:Nat):Int))/\s.heap.IsList l items:=⟨JG _,by simpa using hit,hl⟩;have ty:=hit.typeIs;have key:∀(h:Heap) (c₁ tk:Nat),((0:Nat)≤items.size/\h.IsRevIter it l ((items.size:Int) - 1 - ((0:Nat):Int))/\h.IsList l items)->(∀b o,b≠S->s.heap.get? b=some o->h.get? b=some o) ->
   h.get? S=some { cls:=.type "list",data:=.seq #[] c₁ }->codeAny (model prog w) A (.builtin "list.extend.loop" ⟨[.ref S,.ref it,res],[]⟩) R { s with heap:=h,toks:=tk }:=by
  intro h c₁ tk hst hk hS₁;refine codeAny_extend_loopS W.toS hn S hSf res items.size 0 _ #[] c₁ rfl (JG _) hst hS₁ (ItemsOf.nil _) fun s' acc' c' hm hS' hacc=>?_;rw[Moved.eq_with hm];refine hR s'.heap s'.toks acc' c' (fun b o hb hb2 e=>hm.heap b o (fun hmem=>?_) (hk b o hb e)) hS' hacc;rcases Hy.mp hmem with e' | q
  ·exact hb e'
  ·exact hb2 (Hx.mp q)
 unfold Builtin.List.listExtendWith;refine Hk (Kk (T:="list_reverseiterator") ty ?_);have h1:Builtin.List.listSameRef (.ref S) (.ref it)=false:=by simp[Builtin.List.listSameRef,hSi]
 simp only[h1,show(Value.type "list_reverseiterator"==Value.type "list")=false by decide,show(Value.type "list_reverseiterator"==Value.type "tuple")=false by decide,Bool.or_false,HX,IU];refine Hk (wpAny_pyIter_revIter hit ?_);refine Hk (Iy (hint ty ?_));refine IG (fun hab=>?_) (fun _=>Hl ⟨plainId_quiet PySem.F.plain_extend_loop _,key s.heap c₀ s.toks st (fun b o _ e=>e) hS⟩);exact absurd hab (by decide +kernel)
theorem init(hh:A.handled=none)(hit:s.heap.IsRevIter it l ((items.size:Int) - 1))(hl:s.heap.IsList l items)(hne:l≠it)(S:Addr)(hSi:S≠it)(hSl:S≠l)(hS:s.heap.get? S=some { cls:=.type "list",data:=.seq #[] })(hn:items.size≤sizeLine)
  (hR:∀h' tk acc c',(∀b o,b≠S->b≠it->s.heap.get? b=some o->h'.get? b=some o)->h'.get? S=some { cls:=.type "list",dict:=none,data:=.seq acc c',slots:=#[] }->ItemsOf (fun i v=>items[items.size - 1 - i]?=some v) acc items.size->R (.ok (.ret .none)) { s with heap:=h',toks:=tk }) :
  wpAny (model prog w) A.in1 (Builtin.«list.__init__» ⟨[.ref S,.ref it],[]⟩)
   (fun fin s'=>match fin with | .done f=>R (.ok f) s' | .again c'=>c'.quiet=true/\codeAny (model prog w) A c' R s') (fun e s'=>R (.error e) s') s:=by
 show wpAny _ _ (do let old←Builtin.List.listItems (.ref S);Builtin.List.listUpdate (.ref S) (fun _=>#[]);letGo old.toList.reverse;Builtin.List.listExtendWith (.ref S) (.ref it) .none) _ _ s;refine Hk ?_;unfold Builtin.List.listItems;refine Hk (Jj hS rfl (Hl ?_));show wpAny _ _ (Bind.bind (updateSeq S (fun _=>#[])) fun _=>Bind.bind (letGo (#[]:Array Value).toList.reverse) fun _=>Builtin.List.listExtendWith (.ref S) (.ref it) .none) _ _ s;refine Hk (wpAny_updateSeq hS rfl ?_);have g2:=Iw (Obj.mapSeq (fun _=>(#[]:Array Value))) hS rfl;have oth:∀b o,b≠S->s.heap.get? b=some o->(s.heap.update S (Obj.mapSeq (fun _=>(#[]:Array Value)))).get? b=some o:=fun b o hb e=>(Heap.get?_update_other _ _ (Ne.symm hb)).trans e;refine Hk (wpAny_letGo ?_);refine extend hh (hit.at fun o e=>oth it o hSi.symm e) (hl.at fun o e=>oth l o hSl.symm e) hne S hSi hSl .none _ g2 hn fun h' tk acc c' hk hS' hacc=>?_;exact hR h' tk acc c' (fun b o hb hb2 e=>hk b o hb hb2 (oth b o hb e)) hS' hacc
theorem iZ(hh:A.handled=none)(hit:s.heap.IsRevIter it l ((items.size:Int) - 1))(hl:s.heap.IsList l items)(hne:l≠it)(hlt:it<s.heap.objs.size)(hlt2:l<s.heap.objs.size)(hn:items.size≤sizeLine)
  (hQ:∀h' tk acc c',(∀b o,b≠it->s.heap.get? b=some o->h'.get? b=some o)->h'.get? s.heap.objs.size=some { cls:=.type "list",dict:=none,data:=.seq acc c',slots:=#[] }->ItemsOf (fun i v=>items[items.size - 1 - i]?=some v) acc items.size->Q (.ref s.heap.objs.size) { s with heap:=h',toks:=tk }) :
  wpAny (model prog w) A (call (.type "list") [.ref it]) Q E s:=by
 refine callType_codes (Q₁:=fun obj s₁=>obj=.ref s.heap.objs.size/\s₁={ s with heap:=s.heap.push { cls:=.type "list",data:=.seq #[] } }) PySem.F.called_list (PySem.F.typeCall_list_1 _) PySem.F.entry_list_init (code_list_new _ ⟨rfl,rfl⟩) fun obj s₁ h₁=>?_;obtain⟨rfl,rfl⟩:=h₁;have hS:(s.heap.push { cls:=.type "list",data:=.seq #[] }).get? s.heap.objs.size=some { cls:=.type "list",data:=.seq #[] }:=Hv _ rfl;refine⟨⟨_,hS,rfl⟩,PySem.F.args_list_init_2 _ _,init (A:=A.in1) hh (hit.at fun o e=>Ho _ e) (hl.at fun o e=>Ho _ e) hne _ (Jp hlt) (Jp hlt2) hS hn fun h' tk acc c' hk hS' hacc=>?_⟩;exact⟨rfl,hQ h' tk acc c' (fun b o hb e=>hk b o (HQ (Hu e)) hb (Ho _ e)) hS' hacc⟩
end RL
namespace L2
variable {X:Cx}{a:Expr}{ta:TE}{p p2 pos pos2:Pos}
theorem ua{R:α->β->Prop}{l l2:List α}{m m2:List β}(h:Paired R l m)(h2:Paired R l2 m2):Paired R (l++l2) (m++m2):=by
 induction h with
 | nil=>exact h2
 | cons a _ ih=>exact .cons a ih
theorem ug(h:Vals us its):Vals us.reverse its.reverse:=by
 induction h with
 | nil=>exact .nil
 | cons h t ih =>
  rw[List.reverse_cons,List.reverse_cons];exact ua ih (.cons h .nil)
theorem qa{its:List Value}(h:ItemsOf (fun i v=>its.toArray[its.toArray.size - 1 - i]?=some v) acc its.toArray.size):acc.toList=its.reverse:=by
 have h2:=h.2;have h1:acc.size=its.length:=by have:=h.1;simpa using this
 apply List.ext_getElem?;intro j;rw[Iu];by_cases hj:j<acc.size
 ·have e:=h2 j _ (HU hj);rw[HU hj,List.getElem?_reverse (by omega),← e,HS];simp
 ·rw[II (by omega),JI (by rw[List.length_reverse];omega)]
def G6(K:PySem.W.Frag)(ta:TE):TE:=fun σ H Q=>ta σ H fun x H1=>∃b us,[x]=[V.ref b]/\SqL K H1 b us/\∀r,H1 r=none->Q (.ref r) (upd H1 r (.lst us.reverse))
theorem A9(hc:X.calm=true)(hg:Gl X "list")(hm:X.mg "list"=none)(hg2:Gl X "reversed")(hm2:X.mg "reversed"=none)(b1:bootBuiltins "list"=some (.type "list"))(b2:bootBuiltins "reversed"=some (.type "reversed"))(ha:PE X a ta)
  (he:starEach [.Call (.Name "reversed" p2) [a] [] pos2] X.env=[(false,eval (.Call (.Name "reversed" p2) [a] [] pos2) X.env)]:=by rfl) (he2:starEach [a] X.env=[(false,eval a X.env)]:=by rfl) (hpl:(backTo pos (starEach [] X.env)).any (·.1)=false:=by rfl) (hpl2:(backTo pos2 (starEach [] X.env)).any (·.1)=false:=by rfl) :
  PE X (.Call (.Name "list" p) [.Call (.Name "reversed" p2) [a] [] pos2] [] pos) (G6 X.K ta):=by
 intro pins s σ H Q I h;refine IT (bt I hg hm b1 ?_ (by decide) (by decide));refine Ia ?_ he hpl;rw[he];show wpAny _ _ (spliced ((false,eval (.Call (.Name "reversed" p2) [a] [] pos2) X.env)::[])) _ _ s;refine Calls.spliced_cons ?_;refine IT (bt I hg2 hm2 b2 ?_ (by decide) (by decide));refine Ia ?_ he2 hpl2;refine thn (cM ha dP he2 pos2 pins s σ H (fun xs H1=>∃b us,xs=[.ref b]/\SqL X.K H1 b us/\∀r,H1 r=none->Q (.ref r) (upd H1 r (.lst us.reverse))) I ?_) fun us s1 ⟨vs,H1,I1,r1,q1⟩=>?_
 ·exact h
 obtain⟨b,ws,rfl,hq,q⟩:=q1;obtain⟨u,rfl,ru⟩:=vals1 r1;cases ru;obtain⟨its,rv,pl,hz⟩:=I1.list hq;have hl:s1.heap.IsList b its.toArray:=pl.isList;have hb:b<s1.heap.objs.size:=by obtain⟨o,e,_⟩:=hl;exact Hu e
 refine call_reversed_list hl ?_;refine Calls.spliced_nil ?_;have hlen:=rv.length;have lt:s1.heap.objs.size<(s1.heap.push (revObj b ((its.toArray.size:Int) - 1))).objs.size:=by rw[Ji];exact Nat.lt_succ_self _
 refine RL.iZ (l:=b) (items:=its.toArray) (I.ok.hd hc) ⟨_,Hv _ rfl,rfl,rfl⟩ (hl.at fun o e=>Ho _ e) (HQ hb) lt (Nat.lt_trans hb lt) (by simp only[HS];omega) fun h' tk acc c kp hS hacc=>?_;have hle:s1.heap.objs.size≤(s1.heap.push (revObj b ((its.toArray.size:Int) - 1))).objs.size:=Nat.le_of_lt lt;refine⟨.ref _,_,I1.laid (t':=tk) (o:=.lst ws.reverse) (fun b o e=>kp b o (HQ (Hu e)) (Ho _ e)) hle ?_,rfl,q _ (I1.hok.fresh hle)⟩;refine⟨by rw[List.length_reverse];exact hz,its.reverse,c,ug rv,?_⟩;rw[hS,← qa hacc]
end L2
namespace U
open L2
variable {B:Bs}{X:Cx}{a:Expr}{ta:TE'}{p p2 pos pos2:Pos}
def DC(x:PV)(H1:PHp)(k:List PV->Prop):Prop:=match x with
 | .ref b=>∃l,H1 b=some (.lst l)/\k l
 | _=>False
theorem EG:DC (.ref b) H1 k=∃l,H1 b=some (.lst l)/\k l:=rfl
def Dc(ta:TE'):TE':=fun σ H Q=>ta σ H fun x H1=>DC x H1 fun l=>∀r,H1 r=none->Q (.ref r) (put H1 r (.lst l.reverse))
theorem oQ{K:PySem.W.Frag}{H:Hp}:∀{l:List PV} {us:List V},RPs K H l us->RPs K H l.reverse us.reverse
 | [],_,h=>by simp only[RPs]at h;subst h;simp[RPs]
 | x::l,_,h=>by
  simp only[RPs]at h;obtain⟨u,r,rfl,a,b⟩:=h;rw[List.reverse_cons,List.reverse_cons];exact RPs.append K (oQ b) (RPs.cons K a (RPs.nil K))
theorem Bc(hc:X.calm=true)(hg:Gl X "list")(hm:X.mg "list"=none)(hg2:Gl X "reversed")(hm2:X.mg "reversed"=none)(b1:bootBuiltins "list"=some (.type "list"))(b2:bootBuiltins "reversed"=some (.type "reversed"))(ha:PE' X B a ta)
  (he:starEach [.Call (.Name "reversed" p2) [a] [] pos2] X.env=[(false,eval (.Call (.Name "reversed" p2) [a] [] pos2) X.env)]:=by rfl) (he2:starEach [a] X.env=[(false,eval a X.env)]:=by rfl) (hpl:(backTo pos (starEach [] X.env)).any (·.1)=false:=by rfl) (hpl2:(backTo pos2 (starEach [] X.env)).any (·.1)=false:=by rfl) :
  PE' X B (.Call (.Name "list" p) [.Call (.Name "reversed" p2) [a] [] pos2] [] pos) (Dc ta) :=
 aF (A9 hc hg hm hg2 hm2 b1 b2 ha he he2 hpl hpl2) fun σ H Q h=>by
  obtain⟨σ',H',Q',s,h,k⟩:=h;refine⟨σ',H',_,s,h,fun x' H1' x H1 h1 rx s1 e1=>?_⟩;cases x' with
  | ref b =>
   obtain⟨l,eb,q⟩:=h1;simp only[RP]at rx;subst rx;obtain⟨us,e,r⟩:=s1.hp _ _ eb;exact⟨b,us,rfl,.inl (.inl e),fun r' hr=>k _ _ _ _ (q r' (s1.hp.free hr)) (by simp[RP]) (s1.new hr (hU hr (oQ r))) (e1.trans (Ev.new hr))⟩
  | _=>exact h1.elim
end U
namespace L2
variable {X:Cx}{o e:Expr}{es:List Expr}{to:TE}{t:TA}{name:Str}{apos cpos:Pos}{id:String}{r:V->List V->Hp->VK->Prop}{P:Program}{w:World}
def Gn(P:Program)(w:World)(r:V->List V->Hp->VK->Prop)(to:TE)(t:TA):TE:=fun σ H Q=>to σ H fun x H1=>(∃d ks as,x=.ref d/\H1 d=some (.ext (bZ P w d ks as)))/\t σ H1 fun xs H2=>r x xs H2 Q
theorem zP(slot:Slot "dict" name id)(hty:typeOf (.builtin id)=pure (.type "method_descriptor"))(hm:MtM X id r)(ho:PE X o to)(ha:PA X (e::es) t)
  (hbase:attributeBase o name X.env (eval o X.env)=eval o X.env:=by rfl)
  (hfew:((backTo cpos (starEach (e::es) X.env)).all (fun x=>!x.1)&&(backToKw cpos (keywordEach [] X.env)).all (fun x=>x.1.isSome)
   && decide ((e::es).length+([]:List Keyword).length+(if ([]:List Keyword).isEmpty then 0 else 1)<30))=true:=by rfl)
  (hline:(apos.endLine==cpos.line)=true:=by rfl) (hs:starEach (e::es) X.env=(false,eval e X.env)::starEach es X.env:=by rfl) (hplain:(backTo cpos (starEach es X.env)).any (·.1)=false:=by rfl) :
  PE X (.Call (.Attribute o name apos) (e::es) [] cpos) (Gn P w r to t):=by
 intro pins s σ H Q I h;refine wpAny_Call_method_late hbase hfew hline rfl (thn (ho pins s σ H _ I h) fun v s1 y_=>?_);obtain⟨x,H1,I1,r1,ty,q1⟩:=y_;obtain⟨d,ks,as,rfl,hd⟩:=ty;cases r1;obtain⟨hN,_,_⟩:=(show aI X.prog X.w H1 s1.heap d (.ext (bZ P w d ks as))from I1.hok d _ hd);obtain⟨_,ob,_,_,_,g,ex,_⟩:=hN;refine⟨"dict",id,PySem.F.plainAttrs_dict,slot,hty,⟨ob,g,ex.1⟩,fun a e2=>?_,?_⟩
 ·cases e2;exact⟨ob,g,ex.2.1⟩
 ·have hA:=ha cpos pins s1 σ H1 _ I1 q1;rw[hs]at hA ⊢;refine Calls.callWith_builtin (by show(false||(backTo cpos (starEach es X.env)).any (·.1))=false;rw[hplain]<;>rfl) (Calls.evalArgs_plain ?_);exact thn hA fun us s2 ⟨vs,H2,I2,r2,q2⟩=>hm pins s2 σ H2 (.ref d) vs (.ref d) us Q I2 rfl r2 q2
end L2
namespace U
open L2
variable {B:Bs}{X:Cx}{o e:Expr}{es:List Expr}{to:TE'}{t:TA'}{name:Str}{pos apos cpos:Pos}
theorem kh{K:PySem.W.Frag}{H:Hp}:∀{ns:List Int} {us:List V},RPs K H (ns.map PV.int) us->us=ns.map V.int
 | [],_,h=>by simpa[RPs]using h
 | n::ns,_,h=>by
  simp only[HV,RPs,RP]at h;obtain⟨u,r,rfl,rfl,h2⟩:=h;rw[kh h2];rfl
theorem nJ{K:PySem.W.Frag}(h:RP K H (ndV k) v):∃a,v=.ref a/\jW K H k a:=by
 simp only[ndV,RP,RPs]at h;obtain⟨t,ws,rfl,ht,h⟩:=h;obtain⟨_,_,rfl,rfl,_,_,rfl,⟨b,us,rfl,hb,r1⟩,_,_,rfl,⟨c,vs,rfl,hc,r2⟩,rfl⟩:=h;rw[kh r1]at hb;rw[kh r2]at hc;exact⟨t,rfl,b,c,ht,hb,hc⟩
theorem jc{K:PySem.W.Frag}{H:Hp}:∀{ks:List NK.Nd} {as:List Addr},RPs K H (ks.map ndV) (as.map V.ref)->nv K H ks as
 | [],[],_=>.nil
 | [],a::as,h=>by simp[RPs]at h
 | k::ks,[],h=>by
  simp only[HV,J0,RPs]at h;obtain⟨u,r,e,_⟩:=h;cases e
 | k::ks,a::as,h=>by
  simp only[HV,RPs]at h;obtain⟨u,r,e,h1,h2⟩:=h;cases e;obtain⟨a',e,n⟩:=nJ h1;cases e;exact .cons n (jc h2)
def mY(P:Program)(w:World):TE':=fun _ H Q=>∀p,H p=none->Q (.ref p) (put H p (.dN P w []))
theorem sf:PE' X B (.Dict [] [] pos) (mY X.prog X.w):=aF rT fun σ H Q y_=>by
 obtain⟨σ',H',Q',s,h,k⟩:=y_;intro p hp;have new:OAt X.K (upd H p (.ext (bZ X.prog X.w p [] []))) p (.dN X.prog X.w []):=⟨[],aE,by simp[RPs]⟩;exact k _ _ _ _ (h p (s.hp.free hp)) (by simp[RP]) (s.new hp new) (Ev.new hp)
def yD(P:Program)(w:World):List PV->PHp->VK'->Prop:=bQ fun x H Q=>match x with
 | .ref a=>∃ks,H a=some (.dN P w ks)/\ks.length<1000/\Q (.int (ks.length:Nat)) H
 | _=>False
theorem EE:yD P w [.ref a] H Q=∃ks,H a=some (.dN P w ks)/\ks.length<1000/\Q (.int (ks.length:Nat)) H:=rfl
theorem uF{K:PySem.W.Frag}:VC K B (yD P w) (fun xs H Q=>∃d ks as,xs=[.ref d]/\H d=some (.ext (bZ P w d ks as))/\ks.length<1000/\Q (.int (ks.length:Nat)) H):=by
 intro σ' σ H' H xs' xs Q' Q s r h k;obtain⟨x',x,rfl,rfl,rx,h⟩:=bQ.ex h r;cases x' with
 | ref a =>
  obtain⟨ks,ea,hl,q⟩:=h;simp only[RP]at rx;subst rx;obtain⟨as,e,_⟩:=s.hp _ _ ea;exact⟨a,ks,as,rfl,e,hl,k _ _ _ _ q (by simp[RP]) s (Ev.refl _ _)⟩
 | _=>exact h.elim
def rm(P:Program)(w:World):List PV->PHp->VK'->Prop:=bQ fun x H Q=>match x with
 | .ref a=>∃ks,H a=some (.dN P w ks)/\ks.length<1000/\∀r,H r=none->Q (.ref r) (put H r (.lst (ks.map ndV)))
 | _=>False
theorem F5:rm P w [.ref a] H Q=∃ks,H a=some (.dN P w ks)/\ks.length<1000/\∀r,H r=none->Q (.ref r) (put H r (.lst (ks.map ndV))):=rfl
theorem tO{K:PySem.W.Frag}:VC K B (rm P w) (fun xs H Q=>∃d ks as,xs=[.ref d]/\H d=some (.ext (bZ P w d ks as))/\ks.length<1000/\∀r,H r=none->Q (.ref r) (upd H r (.lst (as.map V.ref)))):=by
 intro σ' σ H' H xs' xs Q' Q s r h k;obtain⟨x',x,rfl,rfl,rx,h⟩:=bQ.ex h r;cases x' with
 | ref a =>
  obtain⟨ks,ea,hl,q⟩:=h;simp only[RP]at rx;subst rx;obtain⟨as,e,rr⟩:=s.hp _ _ ea;exact⟨a,ks,as,rfl,e,hl,fun r hr=>k _ _ _ _ (q r (s.hp.free hr)) (by simp[RP]) (s.new hr (hU hr rr)) (Ev.new hr)⟩
 | _=>exact h.elim
def kR(P:Program)(w:World):PV->List PV->PHp->VK'->Prop:=fun x vs H Q=>match x,vs with
 | .ref d,[y,.int n]=>∃ks k,H d=some (.dN P w ks)/\y=ndV k/\n=(ks.length:Nat)/\ks.length<1000/\(∀i:Nat,ks[i]?=some k->Q (.int i) H)/\(k∉ks->Q (.int (ks.length:Nat)) (put H d (.dN P w (ks++[k]))))
 | _,_=>False
theorem Hb:kR P w (.ref d) [y,.int n] H Q=∃ks k,H d=some (.dN P w ks)/\y=ndV k/\n=(ks.length:Nat)/\ks.length<1000/\(∀i:Nat,ks[i]?=some k->Q (.int i) H)/\(k∉ks->Q (.int (ks.length:Nat)) (put H d (.dN P w (ks++[k])))):=rfl
theorem vW{K:PySem.W.Frag}:VM K B (kR P w) (xR P w K):=by
 intro σ' σ H' H x' xs' x xs Q' Q s rx r h k;unfold kR at h;split at h
 ·rename_i d y n;obtain⟨ks,kk,ea,rfl,rfl,hl,q1,q2⟩:=h;simp only[RP]at rx;subst rx;obtain⟨as,e,rr⟩:=s.hp _ _ ea;simp only[RPs]at r;obtain⟨u,r1,rfl,ra,u2,r2,rfl,rb,rfl⟩:=r;obtain⟨a,rfl,hn⟩:=nJ ra;simp only[RP]at rb;subst rb;refine⟨d,ks,as,kk,a,rfl,rfl,e,jc rr,hn,hl,fun i hi=>k _ _ _ _ (q1 i hi) (by simp[RP]) s (Ev.refl _ _),fun hk=>?_⟩;have new:OAt K (upd H d (.ext (bZ P w d (ks++[kk]) (as++[a])))) d (.dN P w (ks++[kk])):=by
   refine⟨as++[a],aE,?_⟩;rw[HW,HW];refine RPs.kp K (s.hp.kpw ea) (RPs.append _ rr ?_);simp only[HV,J0,RPs];exact⟨_,_,rfl,ra,rfl⟩
  exact k _ _ _ _ (q2 hk) (by simp[RP]) (s.wr ea new) (Ev.wr ea)
 ·exact h.elim
def zH(P:Program)(w:World)(r:PV->List PV->PHp->VK'->Prop)(to:TE')(t:TA'):TE':=fun σ H Q=>to σ H fun x H1=>(match x with | .ref a=>∃ks,H1 a=some (.dN P w ks) | _=>False)/\t σ H1 fun xs H2=>r x xs H2 Q
theorem wO(hu:X.A.units+64<cLine)(ho:PE' X B o to)(ha:PA' X B (e::es) t)
  (hbase:attributeBase o "setdefault" X.env (eval o X.env)=eval o X.env:=by rfl)
  (hfew:((backTo cpos (starEach (e::es) X.env)).all (fun x=>!x.1)&&(backToKw cpos (keywordEach [] X.env)).all (fun x=>x.1.isSome)
   && decide ((e::es).length+([]:List Keyword).length+(if ([]:List Keyword).isEmpty then 0 else 1)<30))=true:=by rfl)
  (hline:(apos.endLine==cpos.line)=true:=by rfl) (hs:starEach (e::es) X.env=(false,eval e X.env)::starEach es X.env:=by rfl) (hplain:(backTo cpos (starEach es X.env)).any (·.1)=false:=by rfl) :
  PE' X B (.Call (.Attribute o "setdefault" apos) (e::es) [] cpos) (zH X.prog X.w (kR X.prog X.w) to t):=aF (zP (P:=X.prog) (w:=X.w) PySem.F.slot_dict_setdefault PySem.F.type_dict_setdefault (xh hu) ho ha hbase hfew hline hs hplain) fun σ H Q h=>by
 obtain⟨σ',H',Q',s,h,k⟩:=h;refine⟨σ',H',_,s,h,fun x' H1' x H1 h1 rx s1 e1=>?_⟩;obtain⟨ty,h1⟩:=h1;constructor
 ·cases x' with
  | ref a =>
   obtain⟨ks,e⟩:=ty;obtain⟨as,q,_⟩:=s1.hp _ _ e;simp only[RP]at rx;subst rx;exact⟨a,ks,as,rfl,q⟩
  | _=>exact ty.elim
 ·refine⟨σ',H1',_,s1,h1,fun xs' H2' xs H2 h2 r2 s2 e2=>?_⟩;exact vW σ' σ H2' H2 x' xs' x xs Q' Q s2 (RP.kp X.K (e2.kp s1.hp) rx) r2 h2 fun v' H3' v H3 q rv s3 e3=>k v' H3' v H3 q rv s3 (e1.trans (e2.trans e3))
end U
namespace EN
section
variable {prog:Program}{w:World}{A:Around}{E:Value->Shared->Prop}{s:Shared}
theorem jU(hi:s.heap.IsTupleIter it a j)(ht:s.heap.IsTuple a its)(hx:its[j]?=some x)
  (q:∀h1,h1.IsTupleIter it a (j+1)->Heap.SameBut it s.heap h1->Q x { s with heap:=h1 }):wpAny (model prog w) A (Builtin.SmallTypes.nextOf (.ref it)) Q E s:=by
 obtain⟨u,hu,k1,k2⟩:=id hi;obtain⟨v,hv,_,m,k3⟩:=ht;unfold Builtin.SmallTypes.nextOf;refine Hk (IB (name:=Str.ofString "__next__") hi.typeIs F.slot_tuple_iterator_next (Ik F.slot_tuple_iterator_next hi.typeIs F.entry_tuple_iterator_next ?_ (F.args_tuple_iterator_next_1 _)));show wpAny _ _ (field (Value.ref it) 0 >>= _) _ _ s;refine Hk (IZ hu k2 (x:=.ref a) rfl ?_);show wpAny _ _ (if (Value.ref a==Value.none)=true then _ else _) _ _ s;rw[HM (show ¬(Value.ref a==Value.none)=true from Jh)];show wpAny _ _ (field (Value.ref it) 1 >>= _) _ _ s;refine Hk (IZ hu k2 (x:=.int j 0) rfl ?_);show wpAny _ _ (seqItems? (Value.ref a) >>= _) _ _ s;refine Hk (Jj hv k3 ?_);simp only[Int.toNat_natCast,hx];refine Hk (Kh hu k2 (by simp) (Hl ⟨x,rfl,Hl (q _ ?_ (Ih ..))⟩));refine⟨_,Iw _ hu (Obj.isFreed_of_fields (Obj.data_mapFields k2 _)),(Obj.cls_mapFields ..).trans k1,?_⟩;rw[Obj.data_mapFields k2];simp[rawInt]
theorem yl(hA:A.handled=none)(hi:s.heap.IsTupleIter it a j)(ht:s.heap.IsTuple a its)(hx:its[j]?=none)
  (q:∀h1 e,Heap.ExtBut it s.heap h1->(∃o,h1.get? e=some o/\o.cls=.type "StopIteration")->E (.ref e) { s with heap:=h1 }):wpAny (model prog w) A (Builtin.SmallTypes.nextOf (.ref it)) Q E s:=by
 obtain⟨u,hu,k1,k2⟩:=id hi;obtain⟨v,hv,_,m,k3⟩:=ht;unfold Builtin.SmallTypes.nextOf;refine Hk (IB (name:=Str.ofString "__next__") hi.typeIs F.slot_tuple_iterator_next (Ik F.slot_tuple_iterator_next hi.typeIs F.entry_tuple_iterator_next ?_ (F.args_tuple_iterator_next_1 _)));show wpAny _ _ (field (Value.ref it) 0 >>= _) _ _ s;refine Hk (IZ hu k2 (x:=.ref a) rfl ?_);show wpAny _ _ (if (Value.ref a==Value.none)=true then _ else _) _ _ s;rw[HM (show ¬(Value.ref a==Value.none)=true from Jh)];show wpAny _ _ (field (Value.ref it) 1 >>= _) _ _ s;refine Hk (IZ hu k2 (x:=.int j 0) rfl ?_);show wpAny _ _ (seqItems? (Value.ref a) >>= _) _ _ s;refine Hk (Jj hv k3 ?_);simp only[Int.toNat_natCast,hx];refine Hk (JW (Hk (Kh hu k2 (by simp) ?_)));show wpAny _ _ (newExc (Value.type "StopIteration") [] >>= _) _ _ _;refine Hk (?_);simp only[newTuple,newExc];refine Hk (Io (?_) (by size_fits));refine Hk (m:=firstArgMember _ _) (wpAny_of_eq (a:=Value.none) (by first | rfl |(simp only[firstArgMember];rfl)) (?_));refine Io (?_) (by size_fits);simp only[raiseNew,bind_assoc];refine Hk (wpAny_handled (?_))
 first | rw[show A.in1.handled=none from hA] | rw[hA]
 refine Hk (Hl (wpAny_throw (?_)));exact q _ _ (((Ih ..).extBut.push _).push _) ⟨_,Hv _ rfl,rfl⟩
end
end EN
namespace L2
theorem kg{h:Heap}(ha:h.get? a=some o)(hb:h.get? b=some u)(ca:o.cls=.type n)(cb:u.cls=.type m)(ne:(Value.type n:Value)≠.type m):a≠b:=by
 rintro rfl;rw[ha]at hb;cases hb;exact ne (ca.symm.trans cb)
section
variable {X:Cx}
theorem xc:bootBuiltins "enumerate"=some (.type "enumerate"):=by decide +kernel
end
end L2
namespace U
open L2
variable {B:Bs}{X:Cx}{pos:Pos}
def eO(l:List PV):List PV:=l.mapIdx fun i x=>.tup [.int (i:Nat),x]
def en1(vs:List PV)(H1:PHp)(R:It'->PHp->Prop):Prop:=match vs with
 | [.tup l]=>R ⟨eO l,fun _=>True⟩ H1
 | _=>False
theorem EU:en1 [.tup l] H R=R ⟨eO l,fun _=>True⟩ H:=rfl
def uEn(t:TA'):TI':=fun σ H R=>t σ H fun vs H1=>en1 vs H1 R
end U
namespace L2
section
variable {X:Cx}{pins:List (Addr×Obj)}{σ:St}{H:Hp}{s:Shared}{h':Heap}
theorem Inv.turnedN{ch:List Addr}(I:Inv X pins σ H s)(k:∀b o,b∉ch->s.heap.get? b=some o->h'.get? b=some o)(hf:∀b∈ch,dB X pins H b):Inv X pins σ H { s with heap:=h',toks:=t' }:=by
 have nit:∀b u,H b=some u->b∉ch:=fun b u e z=>by rw[(hf b z).1]at e;cases e
 refine I.step (g':=s.gens) (d':=s.drawn) (ch:=ch) (fun b hb=>?_) (fun b o _ _ hc e _=>k b o hc e) (fun b o _ _ hc e _=>⟨o.slots,k b o hc e⟩) (fun _ _ _ _ n=>n)
  (fun b o hc e=>⟨o,k b o hc e⟩) (fun _ _ e=>e) (fun _ _ _ e=>e) (fun b ps e=>⟨#[],by rw[e];simp⟩) (fun m hm=>?_) (fun b u e=>?_) I.bare
 ·have f:=hf b hb;exact⟨f.2.2.2.1,f.2.1,f.2.2.2.2.1,f.2.2.2.2.2⟩
 ·obtain⟨o,es,ep,ho,r⟩:=hm;exact⟨o,es,ep,k _ o (fun z=>(hf _ z).2.1 rfl) ho,r⟩
 ·refine(I.hok b u e).stay (fun c z hc q2=>?_) (fun c q2=>q2) fun c ys q2=>q2;have nn:c∉ch:=by
   rcases hc with z | z
   ·rw[z];exact nit b u e
   ·exact nit c _ z
  exact k c z nn q2
end
def Itz(K:PySem.W.Frag)(a b:Addr):It :=
 ⟨fun i H=>∃xs ys x y,SqL K H a xs/\SqL K H b ys/\xs[i]?=some x/\ys[i]?=some y,fun i H x H'=>∃T u v,H T=none/\x=.ref T/\H'=upd H T (.tup [u,v])/\∀xs ys,SqL K H a xs->SqL K H b ys->xs[i]?=some u/\ys[i]?=some v,
  fun i H=>∃xs ys,SqL K H a xs/\SqL K H b ys/\(xs[i]?=none∨ys[i]?=none)⟩
theorem fv:∀{xs:List V} {its:List Value} {i:Nat},Vals xs its->xs[i]?=none->its[i]?=none:=fun {xs its i} r h=>by
 have hl:=r.length;rw[JH]at h ⊢;omega
theorem rF{K:PySem.W.Frag}(z TI TO i1 i2 a b:Addr)(D:ZipApart z TI TO i1 i2 a b):Turn P w K (.Tuple elts k1 tpos) (Itz K a b) [z,TI,TO,i1,i2] z
  (fun i h=>IsZip h z TI TO .none/\IsPair h TI (.ref i1) (.ref i2)/\(∃x y,IsPair h TO x y)/\h.IsListIter i1 a i/\h.IsListIter i2 b i) where
 mem:=by simp
 obj:=fun i h st c hc=>by
  obtain⟨hz,hI,⟨x,y,hO⟩,⟨o1,e1,c1,d1⟩,⟨o2,e2,c2,d2⟩⟩:=st;simp only[Hy,Il,JK]at hc;rcases hc with rfl | rfl | rfl | rfl | rfl
  ·exact⟨_,hz,fun v q=>by cases (show Data.fields _=Data.cell v from q)⟩
  ·exact⟨_,hI,fun v q=>by cases (show Data.seq _ _=Data.cell v from q)⟩
  ·exact⟨_,hO,fun v q=>by cases (show Data.seq _ _=Data.cell v from q)⟩
  ·exact⟨_,e1,fun v q=>by rw[d1]at q;cases q⟩
  ·exact⟨_,e2,fun v q=>by rw[d2]at q;cases q⟩
 keep:=fun i h h' st k=>by
  obtain⟨hz,hI,⟨x,y,hO⟩,h1,h2⟩:=st;exact⟨k z (by simp) _ hz,k TI (by simp) _ hI,⟨x,y,k TO (by simp) _ hO⟩,h1.at fun o e=>k i1 (by simp) o e,h2.at fun o e=>k i2 (by simp) o e⟩
 item:=by
  intro X hP hw hK hc i pins s σ H E I hf st hg;subst hP hw hK;obtain⟨xs,ys,x,y,qx,qy,hx,hy⟩:=hg;obtain⟨its,rv,p,_⟩:=I.list qx;obtain⟨jts,rw',p',_⟩:=I.list qy;obtain⟨u,hu,ru⟩:=rv.get hx;obtain⟨v,hv,rv2⟩:=rw'.get hy;obtain⟨hz,hI,⟨x0,y0,hO⟩,h1,h2⟩:=st;refine wpAny_pyNext_zip_item D hz hI hO h1 h2 p.isList p'.isList (show its.toArray[i]?=some u by simpa using hu) (show jts.toArray[i]?=some v by simpa using hv) fun h' a1 a2 a3 a4 a5 a6 hk=>?_;refine⟨_,rfl,wpAny_letOwnedTupleGo_zip (s:={ s with heap:=h' }) a1 fun h2 hz2 sb=>?_⟩;have sb2:Heap.SameBut z h' h2:=sb;have hzlt:z<s.heap.objs.size:=Hu hz;have hT2:h2.get? s.heap.objs.size=some { cls:=.type "tuple",data:=.seq #[u,v] }:=(sb2.2 _ (Jp hzlt)).trans a5;have kk:∀c o,c∉[z,TO,i1,i2]->s.heap.get? c=some o->h2.get? c=some o:=fun c o n q=>by
   simp only[Hy,Il,JK,not_or]at n;exact(sb2.2 c n.1).trans (hk c o n.1 n.2.1 n.2.2.1 n.2.2.2 q)
  have hn:H s.heap.objs.size=none:=I.hok.fresh (Hr _);have hf4:∀c∈[z,TO,i1,i2],dB X pins H c:=fun c hc=>hf c (by simp only[Hy,Il,JK]at hc ⊢;rcases hc with e | e | e | e<;>simp[e]);have nit:∀c v,H c=some v->c∉[z,TO,i1,i2]:=fun c v q zc=>by rw[(hf4 c zc).1]at q;cases q
  have ltT:∀{c o},s.heap.get? c=some o->c≠s.heap.objs.size:=fun e=>HQ (Hu e);have up:∀{c o},c≠z->h'.get? c=some o->h2.get? c=some o:=fun {c o} n e=>(sb2.2 c n).trans e;refine⟨.ref s.heap.objs.size,upd H s.heap.objs.size (.tup [x,y]),?_,rfl,⟨_,x,y,hn,rfl,rfl,fun zs ws q1 q2=>⟨by rw[I.list_inj q1 qx];exact hx,by rw[I.list_inj q2 qy];exact hy⟩⟩,?_,fun c hc=>?_⟩
  ·show Inv X pins σ _ { s with heap:=h2,toks:=s.toks };refine I.step (h':=h2) (g':=s.gens) (d':=s.drawn) (t':=s.toks) (ch:=[z,TO,i1,i2]) (fun c hc=>?_) (fun c o _ _ hc q _=>kk c o hc q) (fun c o _ _ hc q _=>⟨o.slots,kk c o hc q⟩)
    (fun c o _ q n=>by rw[ay (ltT q)];exact n) (fun c o hc q=>⟨o,kk c o hc q⟩) (fun c ys q=>by rw[ay (az q hn)];exact q) (fun c o v q=>by rw[ay (az q hn)];exact q)
    (fun c ps q=>⟨#[],by rw[ay (az q hn),q];simp⟩) (fun m hm=>?_) (fun c v' q=>?_) I.bare
   ·have f:=hf4 c hc;exact⟨f.2.2.2.1,f.2.1,f.2.2.2.2.1,f.2.2.2.2.2⟩
   ·obtain⟨o,es,ep,q,r⟩:=hm;exact⟨o,es,ep,kk _ o (fun zc=>(hf4 _ zc).2.1 rfl) q,r⟩
   ·by_cases hb:c=s.heap.objs.size
    ·subst hb;rw[aE]at q;cases q;exact⟨by show 2≤sizeLine;rw[IA];omega,[u,v],.cons ru (.cons rv2 .nil),⟨_,hT2,rfl,_,rfl⟩⟩
    ·rw[ay hb]at q;refine(I.hok c v' q).stay (fun d zd hd q2=>?_) (fun d q2=>by rw[ay (az q2 hn)];exact q2) fun d ys q2=>by rw[ay (az q2 hn)];exact q2
     have nn:d∉[z,TO,i1,i2]:=by
      rcases hd with e | e
      ·rw[e];exact nit c v' q
      ·exact nit d _ e
     exact kk d zd nn q2
  ·refine⟨hz2,?_,⟨_,_,up D.TOz a2⟩,a3.at fun o e=>up D.i1z e,a4.at fun o e=>up D.i2z e⟩;exact up D.TIz (hk _ _ D.TIz D.TITO D.TIi1 D.TIi2 hI)
  ·have hc2:c<s.heap.objs.size:=by
    simp only[Hy,Il,JK]at hc;rcases hc with rfl | rfl | rfl | rfl | rfl
    ·exact hzlt
    ·exact Hu hI
    ·exact Hu hO
    ·obtain⟨_,e,_⟩:=h1;exact Hu e
    ·obtain⟨_,e,_⟩:=h2;exact Hu e
   rw[ay (HQ hc2)];exact(hf c hc).1
 done:=by
  intro X hP hw hK hc i pins s σ H E I hf st hg;subst hP hw hK;obtain⟨xs,ys,qx,qy,hend⟩:=hg;obtain⟨its,rv,p,_⟩:=I.list qx;obtain⟨jts,rw',p',_⟩:=I.list qy;obtain⟨hz,hI,⟨x0,y0,hO⟩,h1,h2⟩:=st;have hend':its.toArray[i]?=none∨jts.toArray[i]?=none:=by
   rcases hend with e | e
   ·exact .inl (by simpa using fv rv e)
   ·exact .inr (by simpa using fv rw' e)
  refine wpAny_pyNext_zip_end (I.ok.hd hc) D hz hI hO h1 h2 p.isList p'.isList hend' fun h' hk=>⟨rfl,I.turnedN (t':=s.toks) (ch:=[z,TO,i1,i2]) (fun c o n q=>?_) fun c hc=>hf c ?_⟩
  ·simp only[Hy,Il,JK,not_or]at n;exact hk c o n.1 n.2.1 n.2.2.1 n.2.2.2 q
  ·simp only[Hy,Il,JK]at hc ⊢;rcases hc with e | e | e | e<;>simp[e]
 self:=fun _ _ _ _ _ st h=>wpAny_pyIter_zip st.1 h
section
variable {X:Cx}
def E1(K:PySem.W.Frag)(ta:TA):TI:=fun σ H R=>ta σ H fun vs H1=>∃a b,vs=[.ref a,.ref b]/\(∃xs,SqL K H1 a xs)/\(∃ys,SqL K H1 b ys)/\R (Itz K a b) H1
theorem yW{elts:List Expr}{k1}{tpos:Pos}{c d:Expr}{ta:TA}{p pos:Pos}(hg:Gl X "zip")(hm:X.mg "zip"=none)(ha:PA X [c,d] ta)(hs:starEach [c,d] X.env=[(false,eval c X.env),(false,eval d X.env)]:=by rfl)(hs2:starEach [d] X.env=[(false,eval d X.env)]:=by rfl) :
  PI X (.Tuple elts k1 tpos) (.Call (.Name "zip" p) [c,d] [] pos) (E1 X.K ta):=by
 intro pins s σ H R I h;refine Call_ (bt I hg hm PyProof.Rows.boot_zip (Ia (thn (ha pos pins s σ H _ I h) fun us s1 ⟨vs,H1,I1,r1,q1⟩=>?_) (by rw[hs,hs2]) (by rw[hs2];rfl)));obtain⟨a,b,e,⟨xs,qx⟩,⟨ys,qy⟩,q⟩:=q1;subst e;cases r1 with
 | cons r rr =>
  cases rr with
  | cons r' rr =>
   cases rr;cases r;cases r';obtain⟨its,rv,p,_⟩:=I1.list qx;obtain⟨jts,rw',p',_⟩:=I1.list qy;obtain⟨_,ea,_⟩:=id p.isList;obtain⟨_,eb,_⟩:=id p'.isList;refine call_zip_2 p.isList p'.isList fun h1 hz hI hO l1 l2 hsz kk=>wpAny_pyIter_zip hz ?_;refine⟨_,_,_,_,H1,rfl,I1.kept (t':=s1.toks) kk,rF _ _ _ _ _ a b (PyProof.Rows.zipApart_new (Hu ea) (Hu eb)),⟨hz,hI,⟨_,_,hO⟩,l1,l2⟩,fun c hc=>?_,q⟩;have hb2:s1.heap.objs.size≤c:=by
    simp only[Hy,Il,JK]at hc;rcases hc with rfl | rfl | rfl | rfl | rfl
    ·exact J5 _ _
    ·exact J5 _ _
    ·exact J5 _ _
    ·exact Hr _
    ·exact J5 _ _
   exact I1.fpOk hb2 (I1.hok.fresh hb2)
end
end L2
namespace U
open L2
variable {B:Bs}{X:Cx}{pos:Pos}
def cH:List PV->List PV->List PV
 | x::xs,y::ys=>.tup [x,y]::cH xs ys
 | _,_=>[]
theorem ir:∀(l m:List PV),(cH l m).length=min l.length m.length
 | [],_=>by simp[cH]
 | _::_,[]=>by simp[cH]
 | x::l,y::m=>by simp[cH,ir l m]
theorem da:∀{l m:List PV} {i:Nat} {z:PV},(cH l m)[i]?=some z->∃x y,l[i]?=some x/\m[i]?=some y/\z=.tup [x,y]
 | [],_,i,z,h=>by simp[cH]at h
 | _::_,[],i,z,h=>by simp[cH]at h
 | x::l,y::m,0,z,h=>⟨x,y,rfl,rfl,by simpa[cH]using h.symm⟩
 | x::l,y::m,i+1,z,h=>by
  have:=da (l:=l) (m:=m) (i:=i) (z:=z) (by simpa[cH]using h);simpa using this
def zip2(vs:List PV)(H1:PHp)(R:It'->PHp->Prop):Prop:=match vs with
 | [.ref a,.ref b]=>∃l m,H1 a=some (.lst l)/\H1 b=some (.lst m)/\R ⟨cH l m,fun H=>H a=some (.lst l)/\H b=some (.lst m)⟩ H1
 | _=>False
theorem Es:zip2 [.ref a,.ref b] H R=∃l m,H a=some (.lst l)/\H b=some (.lst m)/\R ⟨cH l m,fun H=>H a=some (.lst l)/\H b=some (.lst m)⟩ H:=rfl
def Cv(t:TA'):TI':=fun σ H R=>t σ H fun vs H1=>zip2 vs H1 R
theorem Au{elts:List Expr}{k1}{tpos:Pos}{c d:Expr}{t:TA'}{p:Pos}(hg:Gl X "zip")(hm:X.mg "zip"=none)(ha:PA' X B [c,d] t)(hs:starEach [c,d] X.env=[(false,eval c X.env),(false,eval d X.env)]:=by rfl)(hs2:starEach [d] X.env=[(false,eval d X.env)]:=by rfl) :
  PIH X B (.Tuple elts k1 tpos) (.Call (.Name "zip" p) [c,d] [] pos) (Cv t):=cK (yW hg hm ha hs hs2) fun σ H R y_=>by
 obtain⟨σ',H',R',s,h,k⟩:=y_;refine⟨σ',H',_,s,h,fun vs' H1' vs H1 h1 r1 s1 e1=>?_⟩;unfold zip2 at h1;split at h1
 ·rename_i a b;simp only[RPs,RP]at r1;obtain⟨u,r,rfl,rfl,u2,r2,rfl,rfl,rfl⟩:=r1;obtain⟨l,m,ha,hb,h1⟩:=h1;obtain⟨us,q1,_⟩:=s1.hp _ _ ha;obtain⟨ws,q2,_⟩:=s1.hp _ _ hb;have lk:∀H2' H2,HR X.K H2' H2->H2' a=some (.lst l)/\H2' b=some (.lst m)->∃us ws,SqL X.K H2 a us/\SqL X.K H2 b ws/\RPs X.K H2 l us/\RPs X.K H2 m ws:=fun H2' H2 hr o=>by
   obtain⟨us,a1,a2⟩:=hr _ _ o.1;obtain⟨ws,b1,b2⟩:=hr _ _ o.2;exact⟨us,ws,SqL.of a1,SqL.of b1,a2,b2⟩
  refine⟨a,b,rfl,⟨us,SqL.of q1⟩,⟨ws,SqL.of q2⟩,k _ H1' _ H1 h1 ⟨fun H2' H2 i k2 hr o hi=>?_,fun H2' H2 i x H3 k2 hr o y=>?_,fun H2' H2 k2 hr o=>?_⟩ s1 e1⟩
  ·obtain⟨us,ws,c1,c2,d1,d2⟩:=lk _ _ hr o;obtain⟨x,y,e1,e2,_⟩:=da (Hn hi);obtain⟨u,f1,_⟩:=RPs.get _ d1 e1;obtain⟨v,f2,_⟩:=RPs.get _ d2 e2;exact⟨us,ws,u,v,c1,c2,f1,f2⟩
  ·obtain⟨T,u,v,hT,rfl,rfl,hy⟩:=y;obtain⟨us,ws,c1,c2,d1,d2⟩:=lk _ _ hr o;refine⟨hr.hid hT,Ev.hid hT,fun x' hx=>?_⟩;obtain⟨x,y,e1,e2,rfl⟩:=da hx;obtain⟨u',f1,g1⟩:=RPs.get _ d1 e1;obtain⟨v',f2,g2⟩:=RPs.get _ d2 e2;obtain⟨y1,y2⟩:=hy us ws c1 c2;rw[f1]at y1;cases y1;rw[f2]at y2;cases y2;exact kU hT (RPs.cons _ g1 (RPs.cons _ g2 (RPs.nil _)))
  ·obtain⟨us,ws,c1,c2,d1,d2⟩:=lk _ _ hr o;refine⟨us,ws,c1,c2,?_⟩;show us[(cH l m).length]?=none∨ws[(cH l m).length]?=none;rw[ir,JH,JH,RPs.length _ d1,RPs.length _ d2];omega
 ·exact h1.elim
end U
namespace L2
def Cp(K:PySem.W.Frag)(a:Addr):It :=
 ⟨fun i H=>∃xs x,SqL K H a xs/\xs[i]?=some x,fun i H x H'=>∃T y,H T=none/\x=.ref T/\H'=upd H T (.tup [.int (i:Nat),y])/\∀xs,SqL K H a xs->xs[i]?=some y,fun i H=>∃xs,SqL K H a xs/\xs.length=i⟩
theorem r8{K:PySem.W.Frag}(a it e:Addr):Turn P w K (.Tuple elts k1 tpos) (Cp K a) [e,it] e (fun i h=>(∃old,IsEnum h e it (i:Nat) old)/\h.IsListIter it a i) where
 mem:=by simp
 obj:=fun i h st b hb=>by
  obtain⟨⟨old,he⟩,o,ho,hc,hd⟩:=st;rcases Hy.mp hb with rfl | hb
  ·exact⟨_,he,fun v z=>by
    have z':Data.fields _=Data.cell v:=z;cases z'⟩
  ·rw[Hx.mp hb];exact⟨o,ho,fun v z=>by rw[hd]at z;cases z⟩
 keep:=fun i h h' st k=>by
  obtain⟨⟨old,he⟩,hi⟩:=st;exact⟨⟨old,k e (by simp) _ he⟩,hi.at fun o x=>k it (by simp) o x⟩
 item:=by
  intro X hP hw hK hc i pins s σ H E I hf st hg;subst hP hw hK;obtain⟨xs,x,hq,hx⟩:=hg;obtain⟨its,rv,p,hz⟩:=I.list hq;obtain⟨u,hu,ru⟩:=rv.get hx;obtain⟨⟨old,he⟩,hi⟩:=st;have p':s.heap.IsList a its.toArray:=p.isList;obtain⟨oa,ha,ca,_⟩:=id p';obtain⟨oi,hoi,ci,_⟩:=id hi;have nai:a≠it:=kg ha hoi ca ci (by decide);have nei:e≠it:=kg he hoi rfl ci (by decide);have nea:e≠a:=kg he ha rfl ca (by decide);refine wpAny_pyNext_enum_item (x:=u) he hi p' (by simpa using hu) nei fun h1 ho hs1 hT hsz hk=>?_;refine⟨_,rfl,wpAny_letOwnedTupleGo_enum (s:={ s with heap:=h1,toks:=s.toks+1 }) ho fun h2 he2 sb=>?_⟩;have sb2:Heap.SameBut e h1 h2:=sb;have hlte:e<s.heap.objs.size:=Hu he;have hT2:h2.get? s.heap.objs.size=some { cls:=.type "tuple",data:=.seq #[.int i s.toks,u] }:=(sb2.2 _ (Jp hlte)).trans hT;have kk:∀b o,b≠e->b≠it->s.heap.get? b=some o->h2.get? b=some o:=fun b o n1 n2 q=>(sb2.2 b n1).trans (hk b o n1 n2 q);have hn:H s.heap.objs.size=none:=I.hok.fresh (Hr _);have fe:=hf e (by simp);have fi:=hf it (by simp);have nit:∀b v,H b=some v->b≠e/\b≠it:=fun b v q=>⟨fun z=>(by rw[z,fe.1]at q;cases q),fun z=>(by rw[z,fi.1]at q;cases q)⟩;refine⟨.ref s.heap.objs.size,upd H s.heap.objs.size (.tup [.int (i:Nat),x]),?_,rfl,⟨_,x,hn,rfl,rfl,fun ys hy'=>by rw[I.list_inj hy' hq];exact hx⟩,⟨⟨u,by simpa using he2⟩,?_⟩,fun b hb=>?_⟩
  ·show Inv X pins σ _ { s with heap:=h2,toks:=s.toks+1 };refine I.step (h':=h2) (g':=s.gens) (d':=s.drawn) (t':=s.toks+1) (ch:=[e,it]) (fun b hb=>?_) (fun b o _ _ hc q _=>kk b o (fun z=>hc (by simp[z])) (fun z=>hc (by simp[z])) q) (fun b o _ _ hc q _=>⟨o.slots,kk b o (fun z=>hc (by simp[z])) (fun z=>hc (by simp[z])) q⟩)
    (fun b o _ q n=>by rw[ay (HQ (Hu q))];exact n) (fun b o hc q=>⟨o,kk b o (fun z=>hc (by simp[z])) (fun z=>hc (by simp[z])) q⟩) (fun b ys q=>by rw[ay (az q hn)];exact q) (fun b o v q=>by rw[ay (az q hn)];exact q)
    (fun b ps q=>⟨#[],by rw[ay (az q hn),q];simp⟩) (fun m hm=>?_) (fun b v q=>?_) I.bare
   ·rcases Hy.mp hb with rfl | hb
    ·exact⟨fe.2.2.2.1,fe.2.1,fe.2.2.2.2.1,fe.2.2.2.2.2⟩
    ·rw[Hx.mp hb];exact⟨fi.2.2.2.1,fi.2.1,fi.2.2.2.2.1,fi.2.2.2.2.2⟩
   ·obtain⟨o,es,ep,q,r⟩:=hm;exact⟨o,es,ep,kk _ o (Ne.symm fe.2.1) (Ne.symm fi.2.1) q,r⟩
   ·by_cases hb:b=s.heap.objs.size
    ·subst hb;rw[aE]at q;cases q;exact⟨by show 2≤sizeLine;rw[IA];omega,[.int i s.toks,u],.cons ⟨s.toks,rfl⟩ (.cons ru .nil),⟨_,hT2,rfl,_,rfl⟩⟩
    ·rw[ay hb]at q;refine(I.hok b v q).stay (fun c z hc q2=>?_) (fun c q2=>by rw[ay (az q2 hn)];exact q2) fun c ys q2=>by rw[ay (az q2 hn)];exact q2
     have nn:c≠e/\c≠it:=by
      rcases hc with z | z
      ·rw[z];exact nit b v q
      ·exact nit c _ z
     exact kk c z nn.1 nn.2 q2
  ·obtain⟨o,q,r⟩:=hs1;exact⟨o,(sb2.2 _ (Ne.symm nei)).trans q,r⟩
  ·have hb2:b<s.heap.objs.size:=by
    rcases Hy.mp hb with rfl | hb
    ·exact hlte
    ·rw[Hx.mp hb];exact Hu hoi
   rw[ay (HQ hb2)];exact(hf b hb).1
 done:=by
  intro X hP hw hK hc i pins s σ H E I hf st hg;subst hP hw hK;obtain⟨xs,hq,rfl⟩:=hg;obtain⟨its,rv,p,hz⟩:=I.list hq;obtain⟨⟨old,he⟩,hi⟩:=st;have p':s.heap.IsList a its.toArray:=p.isList;obtain⟨oa,ha,ca,_⟩:=id p';obtain⟨oi,hoi,ci,_⟩:=id hi;have nai:a≠it:=kg ha hoi ca ci (by decide);have hl:=rv.length;have es:xs.length=its.toArray.size:=by simp;omega
  obtain⟨f0,f1,f2,f3,f4,f5⟩:=hf it (by simp);refine wpAny_pyNext_enum_end (I.ok.hd hc) he hi p' (by simp;omega) fun h1 eb=>⟨rfl,I.turned (t':=s.toks) (fun b o hb q=>eb b o hb q) f0 f1 f3 f4 f5⟩
 self:=fun _ _ _ _ _ st h=>let ⟨⟨_,he⟩,_⟩:=st;wpAny_pyIter_enum he h
section
variable {X:Cx}
def GK(K:PySem.W.Frag)(ta:TA):TI:=fun σ H R=>ta σ H fun vs H1=>∃a,vs=[.ref a]/\(∃xs,SqL K H1 a xs)/\R (Cp K a) H1
theorem Am{elts:List Expr}{k1}{tpos:Pos}{c:Expr}{ta:TA}{p pos:Pos}(hg:Gl X "enumerate")(hm:X.mg "enumerate"=none)(ha:PA X [c] ta)(hs:starEach [c] X.env=[(false,eval c X.env)]:=by rfl) :
  PI X (.Tuple elts k1 tpos) (.Call (.Name "enumerate" p) [c] [] pos) (GK X.K ta):=by
 intro pins s σ H R I h;refine Call_ (bt I hg hm xc (Ia (thn (ha pos pins s σ H _ I h) fun us s1 ⟨vs,H1,I1,r1,q1⟩=>?_) hs rfl));obtain⟨a,e,⟨xs,hq⟩,q⟩:=q1;subst e;cases r1 with
 | cons r rr =>
  cases rr;cases r;obtain⟨its,rv,p,hz⟩:=I1.list hq;refine call_enumerate_list p.isList fun h1 he hi hsz kk=>wpAny_pyIter_enum he ?_;refine⟨s1.heap.objs.size+1,[s1.heap.objs.size+1,s1.heap.objs.size],_,_,H1,rfl,I1.kept (t':=s1.toks) kk,r8 a _ _,⟨⟨_,he⟩,hi⟩,fun b hb=>?_,q⟩;have hb2:s1.heap.objs.size≤b:=by
   rcases Hy.mp hb with rfl | hb
   ·exact Nat.le_succ _
   ·rw[Hx.mp hb];exact Hr _
  exact I1.fpOk hb2 (I1.hok.fresh hb2)
end
end L2
namespace U
open L2
variable {B:Bs}{X:Cx}{pos:Pos}
def zx(vs:List PV)(H1:PHp)(R:It'->PHp->Prop):Prop:=match vs with
 | [.ref a]=>∃l,H1 a=some (.lst l)/\R ⟨eO l,fun H=>H a=some (.lst l)⟩ H1
 | _=>False
theorem yB:zx [.ref a] H R=(∃l,H a=some (.lst l)/\R ⟨eO l,fun H=>H a=some (.lst l)⟩ H):=rfl
def CL(t:TA'):TI':=fun σ H R=>t σ H fun vs H1=>zx vs H1 R
theorem ma{elts:List Expr}{k1}{tpos:Pos}{c:Expr}{t:TA'}{p:Pos}(hg:Gl X "enumerate")(hm:X.mg "enumerate"=none)(ha:PA' X B [c] t)(hs:starEach [c] X.env=[(false,eval c X.env)]:=by rfl) :
  PIH X B (.Tuple elts k1 tpos) (.Call (.Name "enumerate" p) [c] [] pos) (CL t):=cK (Am hg hm ha hs) fun σ H R y_=>by
 obtain⟨σ',H',R',s,h,k⟩:=y_;refine⟨σ',H',_,s,h,fun vs' H1' vs H1 h1 r1 s1 e1=>?_⟩;unfold zx at h1;split at h1
 ·rename_i a;simp only[RPs,RP]at r1;obtain⟨u,r,rfl,rfl,rfl⟩:=r1;obtain⟨l,ha,h1⟩:=h1;obtain⟨us,q1,_⟩:=s1.hp _ _ ha;have lk:∀H2' H2,HR X.K H2' H2->H2' a=some (.lst l)->∃us,SqL X.K H2 a us/\RPs X.K H2 l us:=fun H2' H2 hr o=>by
   obtain⟨us,a1,a2⟩:=hr _ _ o;exact⟨us,SqL.of a1,a2⟩
  refine⟨a,rfl,⟨us,SqL.of q1⟩,k _ H1' _ H1 h1 ⟨fun H2' H2 i k2 hr o hi=>?_,fun H2' H2 i x H3 k2 hr o y=>?_,fun H2' H2 k2 hr o=>?_⟩ s1 e1⟩
  ·obtain⟨us,c1,d1⟩:=lk _ _ hr o;have hi':i<l.length:=by simpa[eO]using hi
   obtain⟨u,e,_⟩:=RPs.get _ d1 (Hn hi');exact⟨us,u,c1,e⟩
  ·obtain⟨T,y1,hT,rfl,rfl,hy⟩:=y;obtain⟨us,c1,d1⟩:=lk _ _ hr o;refine⟨hr.hid hT,Ev.hid hT,fun x' hx=>?_⟩;obtain⟨z,hz,rfl⟩:∃z,l[i]?=some z/\x'=.tup [.int (i:Nat),z]:=by
    unfold eO at hx;rw[List.getElem?_mapIdx]at hx;cases e:l[i]? with
    | none=>rw[e]at hx;cases hx
    | some z=>rw[e]at hx;exact⟨z,rfl,(Im hx).symm⟩
   obtain⟨u,e,ru⟩:=RPs.get _ d1 hz;have ey:=hy us c1;rw[e]at ey;cases ey;exact kU hT (RPs.cons _ (by simp[RP]) (RPs.cons _ ru (RPs.nil _)))
  ·obtain⟨us,c1,d1⟩:=lk _ _ hr o;refine⟨us,c1,?_⟩;rw[RPs.length _ d1];simp[eO]
 ·exact h1.elim
end U
namespace TR
section
variable {prog:Program}{w:World}{A:Around}{E:Value->Shared->Prop}{s:Shared}
theorem iV{n:Nat}(hh:A.handled=none)(hr:IsRange s.heap r a b c t u v)(hs:Builtin.Range.small a b c=true)(hn:Builtin.Range.rangeSize a b c=n)(hl:n≤2 ^ 24)
  (q:∀(h':Heap) tk acc,(∀b o,s.heap.get? b=some o->h'.get? b=some o)->ItemsOf (fun i v=>∃t,v=.int (a+i*c) t) acc n->Q acc.toList { s with heap:=h',toks:=tk }):wpAny (model prog w) A (collect (.ref r)) Q E s:=by
 unfold collect;refine Hk (wpAny_runValue (Je F.entry_proto_collect ?go))
 case go =>
  rw[IM F.plain_proto_collect _];show wpAny _ A.in1 (newList [] >>= fun l=>again (.builtin "list.__iadd__" ⟨[l,.ref r],[]⟩)) _ _ s;refine Hk (Io (Hl ⟨plainId_quiet F.plain_list_iadd _,Je F.entry_list_iadd ?_⟩));rw[IM F.plain_list_iadd _];show wpAny _ A.in1 (Builtin.List.listExtendWith (.ref s.heap.objs.size) (.ref r) (.ref s.heap.objs.size)) _ _ _;have hS0:(s.heap.push { cls:=.type "list",data:=.seq ([]:List Value).toArray }).get? s.heap.objs.size=some { cls:=.type "list",data:=.seq #[] }:=Hv _ rfl;refine wpAny_extend_range (R:=fun r s'=>match r with | .ok (.ret v)=>wpAny (model prog w) A (match v with | .ref a=>(do match (← load a).data with | .seq xs _=>pure xs.toList | _=>unsupported "internal:collect") | _=>unsupported "internal:collect") Q E s' | .ok _=>False | .error e=>E e s') (s:={ s with heap:=s.heap.push { cls:=.type "list",data:=.seq ([]:List Value).toArray } }) hh (Ho _ hr) hs hn hl _ _ 0 hS0 fun h' tk acc c' hk hS hacc=>?_;show wpAny _ A (load s.heap.objs.size >>= _) _ _ _;exact Hk (wpAny_load hS (Hl (q h' tk acc (fun b o e=>hk b o (HQ (Hu e)) (Ho _ e)) hacc)))
end
open AutoSeq1 (wpAny_loadPart')
theorem pR{n:Nat}(hs:Builtin.Range.small a b c=true)(hn:Builtin.Range.rangeSize a b c=n)(hl:n≤2 ^ 24) :
  Meets (Builtin.«tuple.__new__» ⟨[.type "tuple",.ref r],[]⟩)
   (fun A R s=>A.handled=none/\IsRange s.heap r a b c t u v/\∀(h':Heap) tk acc,(∀b o,s.heap.get? b=some o->h'.get? b=some o)->ItemsOf (fun i v=>∃t,v=.int (a+i*c) t) acc n ->
    R (.ok (.ret (.ref h'.objs.size))) { s with heap:=h'.push { cls:=.type "tuple",data:=.seq acc },toks:=tk }) :=
 .of_wp fun prog w A R s h=>by
  obtain⟨hh,hr,h⟩:=h;have hsub:=sub_tuple_self;have hinit:=init_tuple_lookup;have hmh:=madeHere_tuple;have hT:s.TypeIs (.ref r) "range":=⟨_,hr,rfl⟩;have hh1:A.in1.handled=none:=hh
  wp_walk using Kk hT,iV hh1 hr hs hn hl
  intro h' tk acc hk hacc;show wpAny _ _ (Builtin.Tuple.tupleExact acc.toList.toArray >>= fun v=>ret v) _ _ _;unfold Builtin.Tuple.tupleExact;have e:acc.toList.toArray=acc:=by simp
  rw[e];refine Hk (Io (Hl ⟨_,rfl,h h' tk acc hk hacc⟩) (show acc.size≤sizeLine by rw[hacc.1,IA];omega))
section
variable {prog:Program}{w:World}{A:Around}{E:Value->Shared->Prop}{s:Shared}
theorem fH{n:Nat}(hh:A.handled=none)(hr:IsRange s.heap r a b c t u v)(hs:Builtin.Range.small a b c=true)(hn:Builtin.Range.rangeSize a b c=n)(hl:n≤2 ^ 24)
  (q:∀(h':Heap) tk acc,(∀b o,s.heap.get? b=some o->h'.get? b=some o)->ItemsOf (fun i v=>∃t,v=.int (a+i*c) t) acc n->Q (.ref h'.objs.size) { s with heap:=h'.push { cls:=.type "tuple",data:=.seq acc },toks:=tk }) :
  wpAny (model prog w) A (call (.type "tuple") [.ref r]) Q E s :=
 callType_new F.called_tuple (by decide) (F.typeCall_tuple_1 _) (F.newCall_tuple_1 _) (fun obj=>F.args_object_init_2 obj _) F.entry_tuple_new
  (pR (r:=r) (t:=t) (u:=u) (v:=v) hs hn hl) ⟨hh,hr,fun h' tk acc hk hacc=>⟨⟨_,Hv _ rfl,rfl⟩,q h' tk acc hk hacc⟩⟩
end
end TR
namespace L2
variable {X:Cx}{a:Expr}{ta:TE}{p p2 pos pos2:Pos}
def fU(n:Nat):List V:=(List.range n).map fun k=>V.int ((k:Nat):Int)
theorem lU{n:Nat}(h:n<1000):Builtin.Range.rangeSize 0 (n:Int) 1=(n:Nat)/\Builtin.Range.small 0 (n:Int) 1=true:=by
 have e:Builtin.Range.rangeSize 0 (n:Int) 1=(n:Nat):=by
  unfold Builtin.Range.rangeSize;rw[HP (by decide)];split<;>omega
 refine⟨e,?_⟩;unfold Builtin.Range.small;rw[e];have hn:((n:Nat):Int)≤1000:=by omega
 have h0:(0:Int)≤((n:Nat):Int):=by omega
 generalize ((n:Nat):Int)=m at *;simp only[Builtin.Range.rangeFitsLong,IP,Bool.or_eq_true,Jn,beq_iff_eq];refine⟨⟨⟨⟨by omega,by omega⟩,by decide⟩,by omega⟩,?_⟩;refine .inr ?_;rw[HP (by decide),IP,Jn,Jn];exact⟨by omega,by omega⟩
theorem kW(h:ItemsOf (fun i v=>∃t,v=Value.int (0+i*1) t) acc n):Vals (fU n) acc.toList:=by
 obtain⟨h1,h2⟩:=h;have key:∀(l:List Value) (k:Nat),(∀j v,l[j]?=some v->∃t,v=Value.int ((k+j:Nat):Int) t)->Vals ((List.range l.length).map fun j=>V.int ((k+j:Nat):Int)) l:=by
  intro l
  induction l with
  | nil=>intro k _;exact .nil
  | cons v l ih =>
   intro k hh;rw[Ig,List.range_succ_eq_map,HV,HY];obtain⟨t,e⟩:=hh 0 v rfl;have:=ih (k+1) fun j v hj=>by
    have:=hh (j+1) v (by simpa using hj);rw[show k+1+j=k+(j+1) by omega];exact this
   refine .cons ⟨t,e⟩ ?_;have ee:((fun j=>V.int ((k+j:Nat):Int)) ∘ Nat.succ)=fun j=>V.int ((k+1+j:Nat):Int):=by
    funext j;show V.int ((k+(j+1):Nat):Int)=_;rw[show k+(j+1)=k+1+j by omega]
   rw[ee];exact this
 have:=key acc.toList 0 fun j v hj=>by
  obtain⟨t,e⟩:=h2 j v (by simpa using hj);exact⟨t,by rw[e];congr 1;omega⟩
 rw[Jd,h1]at this;unfold fU;simpa using this
def DZ(ta:TE):TE:=fun σ H Q=>ta σ H fun x H1=>∃n:Nat,[x]=[V.int (n:Nat)]/\n<1000/\∀q,H1 q=none->Q (.ref q) (upd H1 q (.tup (fU n)))
theorem xa(hc:X.calm=true)(hg:Gl X "tuple")(hm:X.mg "tuple"=none)(hg2:Gl X "range")(hm2:X.mg "range"=none)(b1:bootBuiltins "tuple"=some (.type "tuple"))(ha:PE X a ta)
  (he:starEach [.Call (.Name "range" p2) [a] [] pos2] X.env=[(false,eval (.Call (.Name "range" p2) [a] [] pos2) X.env)]:=by rfl) (he2:starEach [a] X.env=[(false,eval a X.env)]:=by rfl) (hpl:(backTo pos (starEach [] X.env)).any (·.1)=false:=by rfl) (hpl2:(backTo pos2 (starEach [] X.env)).any (·.1)=false:=by rfl) :
  PE X (.Call (.Name "tuple" p) [.Call (.Name "range" p2) [a] [] pos2] [] pos) (DZ ta):=by
 intro pins s σ H Q I h;refine IT (bt I hg hm b1 ?_ (by decide) (by decide));refine Ia ?_ he hpl;rw[he];show wpAny _ _ (spliced ((false,eval (.Call (.Name "range" p2) [a] [] pos2) X.env)::[])) _ _ s;refine Calls.spliced_cons ?_;refine IT (bt I hg2 hm2 boot_range ?_ (by decide) (by decide));refine Ia ?_ he2 hpl2;refine thn (cM ha dP he2 pos2 pins s σ H (fun xs H1=>∃n:Nat,xs=[.int (n:Nat)]/\n<1000/\∀q,H1 q=none->Q (.ref q) (upd H1 q (.tup (fU n)))) I h) fun us s1 y_=>?_;obtain⟨vs,H1,I1,r1,q1⟩:=y_;obtain⟨n,rfl,hn,q⟩:=q1;obtain⟨u,rfl,t,rfl⟩:=vals1 r1;obtain⟨e1,e2⟩:=lU hn;refine call_range_1 ?_;refine Calls.spliced_nil ?_;refine TR.fH (I.ok.hd hc) (IsRange.new ..) e2 e1 (by omega) fun h' tk acc kp hacc=>?_;have k2:∀b o,s1.heap.get? b=some o->h'.get? b=some o:=fun b o e=>kp b o (Ho _ e);have I2:Inv X pins σ H1 { s1 with heap:=h',toks:=tk }:=I1.kept (t':=tk) k2;refine⟨.ref _,_,I2.laid (t':=tk) (o:=.tup (fU n)) (fun b o e=>Ho _ e) (Hr _) ?_,rfl,q _ (I2.hok.fresh (Hr _))⟩;refine⟨by unfold fU;rw[Hm,JT,IA];omega,acc.toList,kW hacc,?_⟩;have e:acc.toList.toArray=acc:=by simp
 rw[e];exact IsTup.new _ _
end L2
namespace U
open L2
variable {B:Bs}{X:Cx}{a:Expr}{ta:TE'}{p p2 pos pos2:Pos}
def Dh(x:PV)(H:PHp)(Q:VK'):Prop:=match x with
 | .int i=>0≤i/\i<1000/\Q (.tup (bG 0 i.toNat)) H
 | _=>False
theorem EF:Dh (.int i) H Q=(0≤i/\i<1000/\Q (.tup (bG 0 i.toNat)) H):=rfl
def xY(ta:TE'):TE':=fun σ H Q=>ta σ H fun x H1=>Dh x H1 Q
theorem nY{K:PySem.W.Frag}:RPs K H (bG 0 n) (fU n):=by
 have e1:bG 0 n=((List.range n).map fun k=>((k:Nat):Int)).map PV.int:=by
  unfold bG;rw[HY];refine Ie fun k _=>?_;show PV.int (0+((k:Nat):Int))=PV.int ((k:Nat):Int);rw[Int.zero_add]
 have e2:fU n=((List.range n).map fun k=>((k:Nat):Int)).map V.int:=by unfold fU;rw[HY];rfl
 rw[e1,e2];exact RPs.ints K _
theorem vJ(hc:X.calm=true)(hg:Gl X "tuple")(hm:X.mg "tuple"=none)(hg2:Gl X "range")(hm2:X.mg "range"=none)(b1:bootBuiltins "tuple"=some (.type "tuple"))(ha:PE' X B a ta)
  (he:starEach [.Call (.Name "range" p2) [a] [] pos2] X.env=[(false,eval (.Call (.Name "range" p2) [a] [] pos2) X.env)]:=by rfl) (he2:starEach [a] X.env=[(false,eval a X.env)]:=by rfl) (hpl:(backTo pos (starEach [] X.env)).any (·.1)=false:=by rfl) (hpl2:(backTo pos2 (starEach [] X.env)).any (·.1)=false:=by rfl) :
  PE' X B (.Call (.Name "tuple" p) [.Call (.Name "range" p2) [a] [] pos2] [] pos) (xY ta) :=
 aF (xa hc hg hm hg2 hm2 b1 ha he he2 hpl hpl2) fun σ H Q h=>by
  obtain⟨σ',H',Q',s,h,k⟩:=h;refine⟨σ',H',_,s,h,fun x' H1' x H1 h1 rx s1 e1=>?_⟩;cases x' with
  | int i =>
   obtain⟨h0,h3,q⟩:=h1;simp only[RP]at rx;refine⟨i.toNat,by rw[rx,Int.toNat_of_nonneg h0],by omega,fun q' hq=>?_⟩;exact k _ _ _ _ q (kU hq nY) (s1.hid hq) (e1.trans (Ev.hid hq))
  | _=>exact h1.elim
end U
namespace L2
variable {X:Cx}{a:Expr}{ta:TE}{p p2 pos pos2:Pos}
def ET(ta:TE):TE:=fun σ H Q=>ta σ H fun x H1=>∃n:Nat,[x]=[V.int (n:Nat)]/\n<1000/\∀q,H1 q=none->Q (.ref q) (upd H1 q (.lst (fU n)))
theorem Aa(hc:X.calm=true)(hg:Gl X "list")(hm:X.mg "list"=none)(hg2:Gl X "range")(hm2:X.mg "range"=none)(b1:bootBuiltins "list"=some (.type "list"))(ha:PE X a ta)
  (he:starEach [.Call (.Name "range" p2) [a] [] pos2] X.env=[(false,eval (.Call (.Name "range" p2) [a] [] pos2) X.env)]:=by rfl) (he2:starEach [a] X.env=[(false,eval a X.env)]:=by rfl) (hpl:(backTo pos (starEach [] X.env)).any (·.1)=false:=by rfl) (hpl2:(backTo pos2 (starEach [] X.env)).any (·.1)=false:=by rfl) :
  PE X (.Call (.Name "list" p) [.Call (.Name "range" p2) [a] [] pos2] [] pos) (ET ta):=by
 intro pins s σ H Q I h;refine IT (bt I hg hm b1 ?_ (by decide) (by decide));refine Ia ?_ he hpl;rw[he];show wpAny _ _ (spliced ((false,eval (.Call (.Name "range" p2) [a] [] pos2) X.env)::[])) _ _ s;refine Calls.spliced_cons ?_;refine IT (bt I hg2 hm2 boot_range ?_ (by decide) (by decide));refine Ia ?_ he2 hpl2;refine thn (cM ha dP he2 pos2 pins s σ H (fun xs H1=>∃n:Nat,xs=[.int (n:Nat)]/\n<1000/\∀q,H1 q=none->Q (.ref q) (upd H1 q (.lst (fU n)))) I h) fun us s1 y_=>?_;obtain⟨vs,H1,I1,r1,q1⟩:=y_;obtain⟨n,rfl,hn,q⟩:=q1;obtain⟨u,rfl,t,rfl⟩:=vals1 r1;obtain⟨e1,e2⟩:=lU hn;refine call_range_1 ?_;refine Calls.spliced_nil ?_;refine call_list_range (I.ok.hd hc) (IsRange.new ..) e2 e1 (by omega) fun h' tk acc c' kp hS hacc=>?_;have k2:∀b o,s1.heap.get? b=some o->h'.get? b=some o:=fun b o e=>kp b o (Ho _ e);have hp:s1.heap.objs.size≤(s1.heap.push { cls:=.type "range",data:=.fields #[.int 0 s1.toks,.int (n:Nat) t,.int 1 (s1.toks+1)] }).objs.size:=by rw[Ji];exact Nat.le_succ _
 refine⟨.ref _,_,I1.laid (t':=tk) (o:=.lst (fU n)) k2 hp ?_,rfl,q _ (I1.hok.fresh hp)⟩;refine⟨by unfold fU;rw[Hm,JT,IA];omega,acc.toList,c',kW hacc,?_⟩;have e:acc.toList.toArray=acc:=by simp
 rw[e];exact hS
end L2
namespace U
open L2
variable {B:Bs}{X:Cx}{a:Expr}{ta:TE'}{p p2 pos pos2:Pos}
def lsR(x:PV)(H:PHp)(Q:VK'):Prop:=match x with
 | .int i=>0≤i/\i<1000/\∀r,H r=none->Q (.ref r) (put H r (.lst (bG 0 i.toNat)))
 | _=>False
theorem E2:lsR (.int i) H Q=(0≤i/\i<1000/\∀r,H r=none->Q (.ref r) (put H r (.lst (bG 0 i.toNat)))):=rfl
def CJ(ta:TE'):TE':=fun σ H Q=>ta σ H fun x H1=>lsR x H1 Q
theorem AO(hc:X.calm=true)(hg:Gl X "list")(hm:X.mg "list"=none)(hg2:Gl X "range")(hm2:X.mg "range"=none)(b1:bootBuiltins "list"=some (.type "list"))(ha:PE' X B a ta)
  (he:starEach [.Call (.Name "range" p2) [a] [] pos2] X.env=[(false,eval (.Call (.Name "range" p2) [a] [] pos2) X.env)]:=by rfl) (he2:starEach [a] X.env=[(false,eval a X.env)]:=by rfl) (hpl:(backTo pos (starEach [] X.env)).any (·.1)=false:=by rfl) (hpl2:(backTo pos2 (starEach [] X.env)).any (·.1)=false:=by rfl) :
  PE' X B (.Call (.Name "list" p) [.Call (.Name "range" p2) [a] [] pos2] [] pos) (CJ ta) :=
 aF (Aa hc hg hm hg2 hm2 b1 ha he he2 hpl hpl2) fun σ H Q h=>by
  obtain⟨σ',H',Q',s,h,k⟩:=h;refine⟨σ',H',_,s,h,fun x' H1' x H1 h1 rx s1 e1=>?_⟩;cases x' with
  | int i =>
   obtain⟨h0,h3,q⟩:=h1;simp only[RP]at rx;refine⟨i.toNat,by rw[rx,Int.toNat_of_nonneg h0],by omega,fun r hr=>?_⟩;exact k _ _ _ _ (q r (s1.hp.free hr)) (by simp[RP]) (s1.new hr (hU hr nY)) (e1.trans (Ev.new hr))
  | _=>exact h1.elim
end U
namespace EN
section
variable {prog:Program}{w:World}{A:Around}{E:Value->Shared->Prop}{s:Shared}
theorem cB{n i j:Nat}(h:i≠j):n+i≠n+j:=by omega
theorem wg{n a b k:Nat}{Q:Value->Shared->Prop}(ha:a<n)(hb:b<n)
  (hz:IsZip s.heap (n+4) (n+2) (n+3) .none) (hI:IsPair s.heap (n+2) (.ref n) (.ref (n+1))) (hO:IsPair s.heap (n+3) p q)
  (i1:s.heap.IsTupleIter n a k) (i2:s.heap.IsTupleIter (n+1) b k) (t1:s.heap.IsTuple a xs) (t2:s.heap.IsTuple b ys)
  (e1:xs[k]?=some x) (e2:ys[k]?=some y)
  (k0:∀h1,IsZip h1 (n+4) (n+2) (n+3) (rawInt s.heap.objs.size)->IsPair h1 (n+3) x y->h1.IsTupleIter n a (k+1)->h1.IsTupleIter (n+1) b (k+1)->IsPair h1 s.heap.objs.size x y ->
   (∀d o,d≠n->d≠n+1->d≠n+3->d≠n+4->s.heap.get? d=some o->h1.get? d=some o)->Q (.ref s.heap.objs.size) { s with heap:=h1 }) :
  wpAny (model prog w) A (Builtin.«zip.__next__» ⟨[.ref (n+4)],[]⟩) (fun fin s1=>∃v,fin=.done (.ret v)/\Q v s1) E s:=by
 have a5:a≠n+4:=by omega
 have b5:b≠n+4:=by omega
 have b4:b≠n+3:=by omega
 have b0:b≠n:=by omega
 have n5:n≠n+4:=by omega
 have n4:n≠n+3:=by omega
 have n1:n≠n+1:=by omega
 show wpAny _ _ (field (Value.ref (n+4)) 2 >>= _) _ _ _;refine Hk (IZ hz rfl (x:=Value.bool false) rfl ?_);show wpAny _ _ (field (Value.ref (n+4)) 3 >>= _) _ _ _;refine Hk (IZ hz rfl (x:=Value.ref (n+2)) rfl ?_);refine Hk (Jj hI rfl ?_);show wpAny _ _ (Builtin.SmallTypes.ownedTupleIsFree (Value.ref (n+4)) >>= _) _ _ _;refine Hk ?_;unfold Builtin.SmallTypes.ownedTupleIsFree;refine Hk (IZ hz rfl (x:=Value.none) rfl (Hl ?_));simp only[Kg];refine Hk (JW ?_);refine Hk (IZ hz rfl (x:=Value.ref (n+3)) rfl ?_);refine Hk (J7 hz (by simp) fun g1 z1 s1=>?_)
 replace z1:IsZip g1 (n+4) (n+2) (n+3) .ellipsis:=z1
 refine Hk ?_;simp only[List.zipIdx_cons,List.zipIdx_nil,Ja,JO];have B1:=s1.extBut;refine Hk (Hk (wpAny_onRaise ?_));show wpAny _ _ (Builtin.SmallTypes.nextOf (Value.ref n) >>= _) _ _ _;refine Hk (jU (i1.extBut B1 n5) (t1.extBut B1 a5) e1 fun g2 j1 s2=>Hl ?_);have B2:=s2.extBut;have o2:IsPair g2 (n+3) p q:=B2 _ _ (Ne.symm n4) (B1 _ _ (cB (by decide)) hO);refine Hk (Jj o2 rfl ?_);refine Hk (wpAny_updateSeq_pair o2 fun g3 o3 s3=>?_)
 replace o3:IsPair g3 (n+3) x q:=o3
 have B3:=s3.extBut;refine Hk (wpAny_letGo (Hl ?_));refine Hk (Hk (wpAny_onRaise ?_));show wpAny _ _ (Builtin.SmallTypes.nextOf (Value.ref (n+1)) >>= _) _ _ _;refine Hk (jU (((i2.extBut B1 (cB (by decide))).extBut B2 (Ne.symm n1)).extBut B3 (cB (by decide))) (((t2.extBut B1 b5).extBut B2 b0).extBut B3 b4) e2 fun g4 j2 s4=>Hl ?_);have B4:=s4.extBut;have o4:IsPair g4 (n+3) x q:=B4 _ _ (cB (by decide)) o3;refine Hk (Jj o4 rfl ?_);refine Hk (wpAny_updateSeq_pair o4 fun g5 o5 s5=>?_)
 replace o5:IsPair g5 (n+3) x y:=o5
 have B5:=s5.extBut;refine Hk (wpAny_letGo (Hl (Hl ?_)));refine Hk (Jj o5 rfl ?_);refine Hk (wpAny_newTuple ?_);have sz:g5.objs.size=s.heap.objs.size:=by rw[s5.1,s4.1,s3.1,s2.1,s1.1]
 have z5:IsZip g5 (n+4) (n+2) (n+3) .ellipsis:=B5 _ _ (cB (by decide)) (B4 _ _ (cB (by decide)) (B3 _ _ (cB (by decide)) (B2 _ _ (Ne.symm n5) z1)));have k5:∀d o,d≠n->d≠n+1->d≠n+3->d≠n+4->s.heap.get? d=some o->g5.get? d=some o:=fun d o d0 d1 d4 d5 e =>
  B5 _ _ d4 (B4 _ _ d1 (B3 _ _ d4 (B2 _ _ d0 (B1 _ _ d5 e))))
 have f1:g5.IsTupleIter n a (k+1):=((j1.extBut B3 n4).extBut B4 n1).extBut B5 n4;have f2:g5.IsTupleIter (n+1) b (k+1):=j2.extBut B5 (cB (by decide));have lz:n+4<g5.objs.size:=Hu z5;show wpAny _ _ (Builtin.SmallTypes.ownedTupleHandOut (Value.ref (n+4)) (Value.ref g5.objs.size) >>= _) _ _ _;refine Hk ?_;unfold Builtin.SmallTypes.ownedTupleHandOut;have z8:IsZip (g5.push { cls:=.type "tuple",data:=.seq #[x,y] }) (n+4) (n+2) (n+3) .ellipsis:=Ho _ z5;refine Hk (J7 z8 (by simp) fun g8 z9 s8=>?_)
 replace z9:IsZip g8 (n+4) (n+2) (n+3) (rawInt g5.objs.size):=z9
 refine J7 z9 (by simp) fun g9 z10 s9=>?_
 replace z10:IsZip g9 (n+4) (n+2) (n+3) (rawInt g5.objs.size):=z10
 have up:∀d o,d≠n+4->g5.get? d=some o->g9.get? d=some o:=fun d o ne e=>s9.extBut _ _ ne (s8.extBut _ _ ne (Ho _ e));have T9:IsPair g9 g5.objs.size x y:=s9.extBut _ _ (Jp lz) (s8.extBut _ _ (Jp lz) (Hv _ rfl));rw[sz]at z10 T9;refine Hl ⟨_,rfl,?_⟩;show Q (.ref g5.objs.size) _;rw[sz];exact k0 g9 z10 (up _ _ (cB (by decide)) o5) (f1.at fun o e=>up _ o n5 e) (f2.at fun o e=>up _ o (cB (by decide)) e) T9 fun d o d0 d1 d4 d5 e=>up d o d5 (k5 d o d0 d1 d4 d5 e)
theorem By{n a k:Nat}(hA:A.handled=none)(ha:a<n)
  (hz:IsZip s.heap (n+4) (n+2) (n+3) .none) (hI:IsPair s.heap (n+2) (.ref n) (.ref (n+1)))
  (i1:s.heap.IsTupleIter n a k) (t1:s.heap.IsTuple a xs) (e1:xs[k]?=none)
  (q:∀h1 e,(∀d o,d≠n->d≠n+4->s.heap.get? d=some o->h1.get? d=some o)->(∃o,h1.get? e=some o/\o.cls=.type "StopIteration")->E (.ref e) { s with heap:=h1 }) :
  wpAny (model prog w) A (Builtin.«zip.__next__» ⟨[.ref (n+4)],[]⟩) Q E s:=by
 have a5:a≠n+4:=by omega
 have n5:n≠n+4:=by omega
 show wpAny _ _ (field (Value.ref (n+4)) 2 >>= _) _ _ _;refine Hk (IZ hz rfl (x:=Value.bool false) rfl ?_);show wpAny _ _ (field (Value.ref (n+4)) 3 >>= _) _ _ _;refine Hk (IZ hz rfl (x:=Value.ref (n+2)) rfl ?_);refine Hk (Jj hI rfl ?_);show wpAny _ _ (Builtin.SmallTypes.ownedTupleIsFree (Value.ref (n+4)) >>= _) _ _ _;refine Hk ?_;unfold Builtin.SmallTypes.ownedTupleIsFree;refine Hk (IZ hz rfl (x:=Value.none) rfl (Hl ?_));simp only[Kg];refine Hk (JW ?_);refine Hk (IZ hz rfl (x:=Value.ref (n+3)) rfl ?_);refine Hk (J7 hz (by simp) fun g1 z1 s1=>?_)
 replace z1:IsZip g1 (n+4) (n+2) (n+3) .ellipsis:=z1
 refine Hk ?_;simp only[List.zipIdx_cons,List.zipIdx_nil,Ja,JO];refine Hk (Hk (wpAny_onRaise ?_));show wpAny _ _ (Builtin.SmallTypes.nextOf (Value.ref n) >>= _) _ _ _;refine Hk (yl hA (i1.extBut s1.extBut n5) (t1.extBut s1.extBut a5) e1 fun g2 e s2 he=>?_);obtain⟨oe,hoe,hce⟩:=he;have z2:IsZip g2 (n+4) (n+2) (n+3) .ellipsis:=s2 _ _ (Ne.symm n5) z1;have ne:e≠n+4:=fun x=>by subst x;rw[z2]at hoe;cases hoe;simp at hce
 refine J7 z2 (by simp) fun g3 _ s3=>q g3 e (fun d o d0 d5 x=>s3.extBut _ _ d5 (s2 _ _ d0 (s1.extBut _ _ d5 x))) ⟨oe,s3.extBut _ _ ne hoe,hce⟩
theorem nx2{n a b k:Nat}(ha:a<n)(hb:b<n)
  (hz:IsZip s.heap (n+4) (n+2) (n+3) .none) (hI:IsPair s.heap (n+2) (.ref n) (.ref (n+1))) (hO:IsPair s.heap (n+3) p q)
  (i1:s.heap.IsTupleIter n a k) (i2:s.heap.IsTupleIter (n+1) b k) (t1:s.heap.IsTuple a xs) (t2:s.heap.IsTuple b ys)
  (e1:xs[k]?=some x) (e2:ys[k]?=some y)
  (k0:∀h1,IsZip h1 (n+4) (n+2) (n+3) (rawInt s.heap.objs.size)->IsPair h1 (n+3) x y->h1.IsTupleIter n a (k+1)->h1.IsTupleIter (n+1) b (k+1)->IsPair h1 s.heap.objs.size x y ->
   (∀d o,d≠n->d≠n+1->d≠n+3->d≠n+4->s.heap.get? d=some o->h1.get? d=some o)->Q (some (.ref s.heap.objs.size)) { s with heap:=h1 }) :
  wpAny (model prog w) A (pyNext (.ref (n+4))) Q E s:=by
 have hT:s.TypeIs (.ref (n+4)) "zip":=⟨_,hz,rfl⟩;unfold pyNext;refine Hk (Ke (IB (name:=Str.ofString "__next__") hT JZ (Ik JZ hT F.entry_zip_next ?_ (F.args_zip_next_1 _))));exact wg ha hb hz hI hO i1 i2 t1 t2 e1 e2 fun h1 w1 w2 w3 w4 w5 w6=>Hl (k0 h1 w1 w2 w3 w4 w5 w6)
theorem Er{n a k:Nat}(hA:A.handled=none)(ha:a<n)
  (hz:IsZip s.heap (n+4) (n+2) (n+3) .none) (hI:IsPair s.heap (n+2) (.ref n) (.ref (n+1)))
  (i1:s.heap.IsTupleIter n a k) (t1:s.heap.IsTuple a xs) (e1:xs[k]?=none)
  (q:∀h1,(∀d o,d≠n->d≠n+4->s.heap.get? d=some o->h1.get? d=some o)->Q none { s with heap:=h1 }):wpAny (model prog w) A (pyNext (.ref (n+4))) Q E s:=by
 have hT:s.TypeIs (.ref (n+4)) "zip":=⟨_,hz,rfl⟩;unfold pyNext;refine Hk (Ke (IB (name:=Str.ofString "__next__") hT JZ (Ik JZ hT F.entry_zip_next ?_ (F.args_zip_next_1 _))));refine By hA ha hz hI i1 t1 e1 fun h1 e hk he=>?_;obtain⟨o,ho,hc⟩:=he;refine Hk (IE (T:="StopIteration") (b:=true) ⟨o,ho,hc⟩ isSubtype_stop (Hl (q _ hk)))
end
abbrev yg2(h:Heap)(a b:Addr):Heap:=(h.push { cls:=.type "tuple_iterator",data:=.fields #[.ref a,.int 0 0] }).push { cls:=.type "tuple_iterator",data:=.fields #[.ref b,.int 0 0] }
abbrev yg3(h:Heap)(a b:Addr):Heap:=(yg2 h a b).push { cls:=.type "tuple",data:=.seq #[.ref h.objs.size,.ref (h.push { cls:=.type "tuple_iterator",data:=.fields #[.ref a,.int 0 0] }).objs.size] }
abbrev yg4(h:Heap)(a b:Addr):Heap:=(yg3 h a b).push { cls:=.type "tuple",data:=.seq #[.none,.none] }
abbrev yg5(h:Heap)(a b:Addr):Heap:=(yg4 h a b).push { cls:=.type "zip",data:=.fields #[.none,.bool false,.bool false,.ref (yg2 h a b).objs.size,.ref (yg3 h a b).objs.size] }
theorem qP(a b:Addr)(xs ys:Array Value) :
  Meets (Builtin.«zip.__new__» ⟨[.type "zip",.ref a,.ref b],[]⟩) (fun _ R s=>s.heap.IsTuple a xs/\s.heap.IsTuple b ys/\R (.ok (.ret (.ref (yg4 s.heap a b).objs.size))) { s with heap:=yg5 s.heap a b }) :=
 .of_wp fun prog w A R s h=>by
  obtain⟨hp,g,d,tk,os⟩:=s;obtain⟨t1,t2,h⟩:=h;have hsub:=sub_zip;have u1:Heap.IsTuple (Shared.heap ⟨hp,g,d,tk,os⟩) a xs:=t1;have u2:Heap.IsTuple (Shared.heap ⟨hp.push { cls:=.type "tuple_iterator",data:=.fields #[.ref a,.int 0 0] },g,d,tk,os⟩) b ys:=Heap.IsTuple.push t2 _
  wp_walk using wpAny_pyIter_tuple u1,wpAny_pyIter_tuple u2
  exact⟨_,rfl,h⟩
theorem nZ{s:Shared}(t1:s.heap.IsTuple a xs)(t2:s.heap.IsTuple b ys)
  (h:∀h1,IsZip h1 (s.heap.objs.size+4) (s.heap.objs.size+2) (s.heap.objs.size+3) .none->IsPair h1 (s.heap.objs.size+2) (.ref s.heap.objs.size) (.ref (s.heap.objs.size+1)) ->
   IsPair h1 (s.heap.objs.size+3) .none .none->h1.IsTupleIter s.heap.objs.size a 0->h1.IsTupleIter (s.heap.objs.size+1) b 0 ->
   (∀d o,s.heap.get? d=some o->h1.get? d=some o)->Q (.ref (s.heap.objs.size+4)) { s with heap:=h1 }) :
  wpAny (model prog w) A (call (.type "zip") [.ref a,.ref b]) Q E s:=by
 refine callType_new F.called_zip (by decide) (F.typeCall_zip_2 _ _) (F.newCall_zip_2 _ _) (fun obj=>F.args_object_init_3 obj _ _) F.entry_zip_new (qP a b xs ys) ⟨t1,t2,?_⟩;have z1:(s.heap.push { cls:=.type "tuple_iterator",data:=.fields #[.ref a,.int 0 0] }).objs.size=s.heap.objs.size+1:=Ji ..;have z2:(yg2 s.heap a b).objs.size=s.heap.objs.size+2:=by rw[Ji,z1]
 have z3:(yg3 s.heap a b).objs.size=s.heap.objs.size+3:=by rw[Ji,z2]
 have z4:(yg4 s.heap a b).objs.size=s.heap.objs.size+4:=by rw[Ji,z3]
 have g5:(yg5 s.heap a b).get? (yg4 s.heap a b).objs.size=some _:=Hv _ rfl;have g4:(yg5 s.heap a b).get? (yg3 s.heap a b).objs.size=some _:=Ho _ (Hv _ rfl);have g3:(yg5 s.heap a b).get? (yg2 s.heap a b).objs.size=some _:=Ho _ (Ho _ (Hv _ rfl));have g2:(yg5 s.heap a b).get? (s.heap.push { cls:=.type "tuple_iterator",data:=.fields #[.ref a,.int 0 0] }).objs.size=some _:=Ho _ (Ho _ (Ho _ (Hv _ rfl)));have g1:(yg5 s.heap a b).get? s.heap.objs.size=some _:=Ho _ (Ho _ (Ho _ (Ho _ (Hv _ rfl))));show _/\_;rw[z2,z3,z4]at g5;rw[z3]at g4;rw[z1,z2]at g3;rw[z1]at g2;rw[z4];exact⟨⟨_,g5,rfl⟩,h _ g5 g3 g4 ⟨_,g1,rfl,rfl⟩ ⟨_,g2,rfl,rfl⟩ fun d o x=>Ho _ (Ho _ (Ho _ (Ho _ (Ho _ x))))⟩
end EN
namespace L2
open EN
def Iz2(K:PySem.W.Frag)(a b:Addr):It :=
 ⟨fun i H=>∃xs ys x y,SqT K H a xs/\SqT K H b ys/\xs[i]?=some x/\ys[i]?=some y,
  fun i H v H'=>∃T x y,H T=none/\v=.ref T/\H'=upd H T (.tup [x,y])/\∀xs ys,SqT K H a xs->SqT K H b ys->xs[i]?=some x/\ys[i]?=some y,
  fun i H=>∃xs,SqT K H a xs/\xs[i]?=none⟩
section
variable {X:Cx}{pins:List (Addr×Obj)}{σ:St}{H:Hp}{s:Shared}
theorem y4{n:Nat}(I:Inv X pins σ H s)(hf:∀d∈[n,n+1,n+3,n+4],dB X pins H d)
  (T2:g.get? s.heap.objs.size=some { cls:=.type "tuple",data:=.seq #[x',y'] }) (rx:RelV x x') (ry:RelV y y')
  (kk:∀d o,d∉[n,n+1,n+3,n+4]->s.heap.get? d=some o->g.get? d=some o):Inv X pins σ (upd H s.heap.objs.size (.tup [x,y])) { s with heap:=g }:=by
 have hn:H s.heap.objs.size=none:=I.hok.fresh (Hr _);have nit:∀d v,H d=some v->d∉[n,n+1,n+3,n+4]:=fun d v q m=>by rw[(hf d m).1]at q;cases q
 show Inv X pins σ _ { s with heap:=g,toks:=s.toks };refine I.step (h':=g) (g':=s.gens) (d':=s.drawn) (t':=s.toks) (ch:=[n,n+1,n+3,n+4]) (fun d hd=>?_) (fun d o _ _ m q _=>kk d o m q) (fun d o _ _ m q _=>⟨o.slots,kk d o m q⟩)
  (fun d o _ q m=>by rw[ay (HQ (Hu q))];exact m) (fun d o m q=>⟨o,kk d o m q⟩) (fun d ys q=>by rw[ay (az q hn)];exact q) (fun d o v q=>by rw[ay (az q hn)];exact q)
  (fun d ps q=>⟨#[],by rw[ay (az q hn),q];simp⟩) (fun m hm=>?_) (fun d v q=>?_) I.bare
 ·have f:=hf d hd;exact⟨f.2.2.2.1,f.2.1,f.2.2.2.2.1,f.2.2.2.2.2⟩
 ·obtain⟨o,es,ep,q,r⟩:=hm;exact⟨o,es,ep,kk _ o (fun m=>(hf _ m).2.1 rfl) q,r⟩
 ·by_cases hd:d=s.heap.objs.size
  ·subst hd;rw[aE]at q;cases q;exact⟨by show 2≤sizeLine;rw[IA];omega,[x',y'],.cons rx (.cons ry .nil),⟨_,T2,rfl,_,rfl⟩⟩
  ·rw[ay hd]at q;refine(I.hok d v q).stay (fun e z he q2=>?_) (fun e q2=>by rw[ay (az q2 hn)];exact q2) fun e ys q2=>by rw[ay (az q2 hn)];exact q2
   have m:e∉[n,n+1,n+3,n+4]:=by
    rcases he with z | z
    ·rw[z];exact nit d v q
    ·exact nit e _ z
   exact kk e z m q2
end
def Z2(n a b:Nat)(i:Nat)(h:Heap):Prop:=IsZip h (n+4) (n+2) (n+3) .none/\IsPair h (n+2) (.ref n) (.ref (n+1))/\(∃x y,IsPair h (n+3) x y)/\h.IsTupleIter n a i/\h.IsTupleIter (n+1) b i
theorem vX{K:PySem.W.Frag}(n a b:Nat)(ha:a<n)(hb:b<n):Turn P w K (.Tuple elts k1 tpos) (Iz2 K a b) [n,n+1,n+2,n+3,n+4] (n+4) (Z2 n a b) where
 mem:=by simp
 obj:=fun i h st d hd=>by
  obtain⟨hz,hI,⟨x,y,hO⟩,⟨o1,e1,_,d1⟩,⟨o2,e2,_,d2⟩⟩:=st;simp only[Hy,Il,JK]at hd;rcases hd with rfl | rfl | rfl | rfl | rfl
  ·exact⟨_,e1,fun v q=>by rw[d1]at q;cases q⟩
  ·exact⟨_,e2,fun v q=>by rw[d2]at q;cases q⟩
  ·exact⟨_,hI,fun v q=>by cases (show Data.seq _ _=Data.cell v from q)⟩
  ·exact⟨_,hO,fun v q=>by cases (show Data.seq _ _=Data.cell v from q)⟩
  ·exact⟨_,hz,fun v q=>by cases (show Data.fields _=Data.cell v from q)⟩
 keep:=fun i h h' st k=>by
  obtain⟨hz,hI,⟨x,y,hO⟩,i1,i2⟩:=st;exact⟨k (n+4) (by simp) _ hz,k (n+2) (by simp) _ hI,⟨x,y,k (n+3) (by simp) _ hO⟩,i1.at fun o e=>k n (by simp) o e,i2.at fun o e=>k (n+1) (by simp) o e⟩
 item:=by
  intro X hP hw hK hc i pins s σ H E I hf st hg;subst hP hw hK;obtain⟨xs,ys,x,y,qx,qy,hx,hy⟩:=hg;obtain⟨l1,r1,p1,_⟩:=I.tuple qx;obtain⟨l2,r2,p2,_⟩:=I.tuple qy;obtain⟨x',hx',rx⟩:=r1.get hx;obtain⟨y',hy',ry⟩:=r2.get hy;obtain⟨hz,hI,⟨x0,y0,hO⟩,i1,i2⟩:=st;refine nx2 ha hb hz hI hO i1 i2 (show s.heap.IsTuple a l1.toArray from p1) (show s.heap.IsTuple b l2.toArray from p2) (x:=x') (y:=y') (by simpa using hx') (by simpa using hy') fun h' w1 w2 w3 w4 w6 hk=>?_;refine⟨_,rfl,wpAny_letOwnedTupleGo_zip (s:={ s with heap:=h' }) w1 fun g gz sb=>?_⟩;have sb2:Heap.SameBut (n+4) h' g:=sb;have lz:n+4<s.heap.objs.size:=Hu hz;have T2:g.get? s.heap.objs.size=some { cls:=.type "tuple",data:=.seq #[x',y'] }:=(sb2.2 _ (Jp lz)).trans w6;have kk:∀d o,d∉[n,n+1,n+3,n+4]->s.heap.get? d=some o->g.get? d=some o:=fun d o m q=>by
   simp only[Hy,Il,JK,not_or]at m;exact(sb2.2 d m.2.2.2).trans (hk d o m.1 m.2.1 m.2.2.1 m.2.2.2 q)
  have hn:H s.heap.objs.size=none:=I.hok.fresh (Hr _);have hf5:∀d∈[n,n+1,n+3,n+4],dB X pins H d:=fun d hd=>hf d (by
   simp only[Hy,Il,JK]at hd ⊢;rcases hd with e | e | e | e<;>simp[e])
  have up:∀{d o},d≠n+4->h'.get? d=some o->g.get? d=some o:=fun {d o} m e=>(sb2.2 d m).trans e;refine⟨.ref s.heap.objs.size,upd H s.heap.objs.size (.tup [x,y]),y4 I hf5 T2 rx ry kk,rfl,⟨_,x,y,hn,rfl,rfl,fun as bs q1 q2=>⟨by rw[I.tuple_inj q1 qx];exact hx,by rw[I.tuple_inj q2 qy];exact hy⟩⟩,?_,fun d hd=>?_⟩
  ·refine⟨gz,?_,⟨_,_,up (cB (by decide)) w2⟩,w3.at fun o e=>up (HQ (Nat.lt_add_of_pos_right (by decide))) e,w4.at fun o e=>up (cB (by decide)) e⟩;exact kk _ _ (by simp) hI
  ·have d2:d<s.heap.objs.size:=by
    have lz':d≤n+4:=by
     simp only[Hy,Il,JK]at hd;rcases hd with e | e | e | e | e<;>rw[e]
     ·exact J5 n 4
     all_goals exact Nat.add_le_add_left (by decide) n
    exact Nat.lt_of_le_of_lt lz' lz
   rw[ay (HQ d2)];exact(hf d hd).1
 done:=by
  intro X hP hw hK hc i pins s σ H E I hf st hg;subst hP hw hK;obtain⟨xs,qx,hend⟩:=hg;obtain⟨l1,r1,p1,_⟩:=I.tuple qx;obtain⟨hz,hI,_,i1,_⟩:=st;refine Er (I.ok.hd hc) ha hz hI i1 (show s.heap.IsTuple a l1.toArray from p1) (by simpa using fv r1 hend) fun h' hk=>⟨rfl,I.turnedN (t':=s.toks) (ch:=[n,n+4]) (fun d o m q=>?_) fun d hd=>hf d ?_⟩
  ·simp only[Hy,Il,JK,not_or]at m;exact hk d o m.1 m.2 q
  ·simp only[Hy,Il,JK]at hd ⊢;rcases hd with e | e<;>simp[e]
 self:=fun _ _ _ _ _ st h=>wpAny_pyIter_zip st.1 h
section
variable {X:Cx}
def iZ2(K:PySem.W.Frag)(ta:TA):TI:=fun σ H R=>ta σ H fun vs H1=>∃a b,vs=[.ref a,.ref b]/\(∃xs,SqT K H1 a xs)/\(∃ys,SqT K H1 b ys)/\R (Iz2 K a b) H1
theorem De{elts:List Expr}{k1}{tpos:Pos}{c d:Expr}{ta:TA}{p pos:Pos}(hg:Gl X "zip")(hm:X.mg "zip"=none)(ha:PA X [c,d] ta)
  (hs:starEach [c,d] X.env=[(false,eval c X.env),(false,eval d X.env)]:=by rfl) (hs2:starEach [d] X.env=[(false,eval d X.env)]:=by rfl) :
  PI X (.Tuple elts k1 tpos) (.Call (.Name "zip" p) [c,d] [] pos) (iZ2 X.K ta):=by
 intro pins s σ H R I h;refine Call_ (bt I hg hm PyProof.Rows.boot_zip (Ia (thn (ha pos pins s σ H _ I h) fun us s1 ⟨vs,H1,I1,r1,q1⟩=>?_) (by rw[hs,hs2]) (by rw[hs2];rfl)));obtain⟨a,b,e,⟨xs,qx⟩,⟨ys,qy⟩,q⟩:=q1;subst e;obtain⟨u,v,rfl,r,r'⟩:=vals2 r1;cases r;cases r';obtain⟨l1,_,p1,_⟩:=I1.tuple qx;obtain⟨l2,_,p2,_⟩:=I1.tuple qy;have p1':s1.heap.IsTuple a l1.toArray:=p1;have p2':s1.heap.IsTuple b l2.toArray:=p2;obtain⟨_,ea,_⟩:=id p1';obtain⟨_,eb,_⟩:=id p2';refine nZ p1' p2' fun h1 hz hI hO i1 i2 kk=>wpAny_pyIter_zip hz ?_;refine⟨_,_,_,_,H1,rfl,I1.kept (t':=s1.toks) kk,vX _ a b (Hu ea) (Hu eb),⟨hz,hI,⟨_,_,hO⟩,i1,i2⟩,fun f hf=>?_,q⟩;have hb2:s1.heap.objs.size≤f:=by
  simp only[Hy,Il,JK]at hf;rcases hf with e | e | e | e | e<;>rw[e]
  ·exact Hr _
  all_goals exact J5 _ _
 exact I1.fpOk hb2 (I1.hok.fresh hb2)
end
end L2
namespace U
open L2
variable {B:Bs}{X:Cx}{pos:Pos}
def rO(vs:List PV)(H1:PHp)(R:It'->PHp->Prop):Prop:=match vs with
 | [.tup l,.tup m]=>m.length=l.length/\R ⟨cH l m,fun _=>True⟩ H1
 | _=>False
theorem Dv:rO [.tup l,.tup m] H R=(m.length=l.length/\R ⟨cH l m,fun _=>True⟩ H):=rfl
def uZ2(t:TA'):TI':=fun σ H R=>t σ H fun vs H1=>rO vs H1 R
theorem CI{elts:List Expr}{k1}{tpos:Pos}{c d:Expr}{t:TA'}{p:Pos}(hg:Gl X "zip")(hm:X.mg "zip"=none)(ha:PA' X B [c,d] t)
  (hs:starEach [c,d] X.env=[(false,eval c X.env),(false,eval d X.env)]:=by rfl) (hs2:starEach [d] X.env=[(false,eval d X.env)]:=by rfl) :
  PIH X B (.Tuple elts k1 tpos) (.Call (.Name "zip" p) [c,d] [] pos) (uZ2 t):=cK (De hg hm ha hs hs2) fun σ H R y_=>by
 obtain⟨σ',H',R',s,h,k⟩:=y_;refine⟨σ',H',_,s,h,fun vs' H1' vs H1 h1 r1 s1 e1=>?_⟩;unfold rO at h1;split at h1
 ·rename_i l m;simp only[RPs,RP]at r1;obtain⟨v1,r1,rfl,⟨a,us,rfl,q1,rl⟩,v2,r2,rfl,⟨c,ws,rfl,q3,rr⟩,rfl⟩:=r1;obtain⟨lm,h1⟩:=h1;have zl:(cH l m).length=l.length:=by rw[ir];omega
  refine⟨a,c,rfl,⟨us,q1⟩,⟨ws,q3⟩,k _ H1' _ H1 h1 ⟨fun H2' H2 i k2 hr o hi=>?_,fun H2' H2 i x H3 k2 hr o y=>?_,fun H2' H2 k2 hr o=>?_⟩ s1 e1⟩
  ·obtain⟨x,y,f1,f2,_⟩:=da (Hn hi);obtain⟨u,g1,_⟩:=RPs.get _ rl f1;obtain⟨v,g2,_⟩:=RPs.get _ rr f2;exact⟨us,ws,u,v,k2.sqT q1,k2.sqT q3,g1,g2⟩
  ·obtain⟨T,u,v,hT,rfl,rfl,hy⟩:=y;refine⟨hr.hid hT,Ev.hid hT,fun x' hx=>?_⟩;obtain⟨x,y,f1,f2,rfl⟩:=da hx;obtain⟨u',g1,g1'⟩:=RPs.get _ (RPs.kp _ k2 rl) f1;obtain⟨v',g2,g2'⟩:=RPs.get _ (RPs.kp _ k2 rr) f2;obtain⟨y1,y2⟩:=hy us ws (k2.sqT q1) (k2.sqT q3);rw[g1]at y1;cases y1;rw[g2]at y2;cases y2;exact kU hT (RPs.cons _ g1' (RPs.cons _ g2' (RPs.nil _)))
  ·refine⟨us,k2.sqT q1,?_⟩;show us[(cH l m).length]?=none;rw[zl,JH,RPs.length _ rl];exact Hr _
 ·exact h1.elim
end U
namespace EN
abbrev iT(h:Heap)(z TI TO:Addr)(f0:Value)(b:Bool):Prop:=h.get? z=some { cls:=.type "zip",dict:=none,data:=.fields #[f0,.bool b,.bool false,.ref TI,.ref TO],slots:=#[] }
section
variable {prog:Program}{w:World}{A:Around}{E:Value->Shared->Prop}{s:Shared}
theorem alive(hT:s.heap.get? T=some o)(q:Q (some o) s):wpAny (model prog w) A (loadIfAlive T) Q E s:=by
 intro Γ p hc;show Q (s.heap.get? T) s;rw[hT];exact q
theorem nC{z TI TO T:Addr}(hz:iT s.heap z TI TO (rawInt T) b)(hT:s.heap.get? T=some o)
  (q:∀h1,iT h1 z TI TO (rawInt T) true->Heap.SameBut z s.heap h1->Q false { s with heap:=h1 }):wpAny (model prog w) A (Builtin.SmallTypes.ownedTupleIsFree (.ref z)) Q E s:=by
 unfold Builtin.SmallTypes.ownedTupleIsFree;refine Hk (IZ hz rfl (x:=rawInt T) rfl ?_);show wpAny _ _ (loadIfAlive _ >>= _) _ _ _;refine Hk (alive (T:=T) (by simpa using hT) ?_);simp only[Option.isNone_some,HX,IU];refine Hk (IZ hz rfl (x:=.bool b) rfl ?_);cases b with
 | true =>
  rw[HM (by decide)];exact Hl (q s.heap hz ⟨rfl,fun _ _=>rfl⟩)
 | false =>
  rw[HP (by decide)];refine Hk (J7 hz (by simp) fun h1 z1 s1=>Hl (q h1 z1 s1))
theorem wV{n a b k T:Nat}{Q:Value->Shared->Prop}(ha:a<n)(hb:b<n)
  (hz:iT s.heap (n+4) (n+2) (n+3) (rawInt T) f) (hT:s.heap.get? T=some oT) (hI:IsPair s.heap (n+2) (.ref n) (.ref (n+1)))
  (i1:s.heap.IsTupleIter n a k) (i2:s.heap.IsTupleIter (n+1) b k) (t1:s.heap.IsTuple a xs) (t2:s.heap.IsTuple b ys)
  (e1:xs[k]?=some x) (e2:ys[k]?=some y)
  (k0:∀h1,iT h1 (n+4) (n+2) (n+3) (rawInt T) true->h1.IsTupleIter n a (k+1)->h1.IsTupleIter (n+1) b (k+1)->IsPair h1 s.heap.objs.size x y ->
   (∀d o,d≠n->d≠n+1->d≠n+4->s.heap.get? d=some o->h1.get? d=some o)->Q (.ref s.heap.objs.size) { s with heap:=h1 }) :
  wpAny (model prog w) A (Builtin.«zip.__next__» ⟨[.ref (n+4)],[]⟩) (fun fin s1=>∃v,fin=.done (.ret v)/\Q v s1) E s:=by
 have a5:a≠n+4:=by omega
 have b5:b≠n+4:=by omega
 have b0:b≠n:=by omega
 have n5:n≠n+4:=by omega
 have n1:n≠n+1:=by omega
 show wpAny _ _ (field (Value.ref (n+4)) 2 >>= _) _ _ _;refine Hk (IZ hz rfl (x:=Value.bool false) rfl ?_);show wpAny _ _ (field (Value.ref (n+4)) 3 >>= _) _ _ _;refine Hk (IZ hz rfl (x:=Value.ref (n+2)) rfl ?_);refine Hk (Jj hI rfl ?_);show wpAny _ _ (Builtin.SmallTypes.ownedTupleIsFree (Value.ref (n+4)) >>= _) _ _ _;refine Hk (nC hz hT fun g1 z1 s1=>?_);have B1:=s1.extBut;simp only[HX,IU];refine Hk ?_;simp only[←Jx,Ja,JO];refine Hk (Hk (Iy ?_));show wpAny _ _ (Builtin.SmallTypes.nextOf (Value.ref n) >>= _) _ _ _;refine Hk (jU (i1.extBut B1 n5) (t1.extBut B1 a5) e1 fun g2 j1 s2=>Hl (Hl ?_));have B2:=s2.extBut;refine Hk (Hk (Iy ?_));show wpAny _ _ (Builtin.SmallTypes.nextOf (Value.ref (n+1)) >>= _) _ _ _;refine Hk (jU ((i2.extBut B1 (cB (by decide))).extBut B2 (Ne.symm n1)) ((t2.extBut B1 b5).extBut B2 b0) e2 fun g3 j2 s3=>Hl (Hl (Hl ?_)));have B3:=s3.extBut;show wpAny _ _ (newTuple [x,y] >>= _) _ _ _;refine Hk (wpAny_newTuple (Hl ⟨_,rfl,?_⟩));have sz:g3.objs.size=s.heap.objs.size:=by rw[s3.1,s2.1,s1.1]
 have z3:iT g3 (n+4) (n+2) (n+3) (rawInt T) true:=B3 _ _ (cB (by decide)) (B2 _ _ (Ne.symm n5) z1);show Q (.ref g3.objs.size) _;have T9:IsPair (g3.push { cls:=.type "tuple",data:=.seq #[x,y] }) g3.objs.size x y:=Hv _ rfl;have k5:∀d o,d≠n->d≠n+1->d≠n+4->s.heap.get? d=some o->(g3.push { cls:=.type "tuple",data:=.seq #[x,y] }).get? d=some o:=fun d o d0 d1 d5 e =>
  Ho _ (B3 _ _ d1 (B2 _ _ d0 (B1 _ _ d5 e)))
 rw[sz]at T9 ⊢;exact k0 _ (Ho _ z3) ((j1.extBut B3 n1).at fun o e=>Ho _ e) (j2.at fun o e=>Ho _ e) T9 k5
theorem zB{n a k T:Nat}(hA:A.handled=none)(ha:a<n)
  (hz:iT s.heap (n+4) (n+2) (n+3) (rawInt T) f) (hT:s.heap.get? T=some oT) (hI:IsPair s.heap (n+2) (.ref n) (.ref (n+1)))
  (i1:s.heap.IsTupleIter n a k) (t1:s.heap.IsTuple a xs) (e1:xs[k]?=none)
  (q:∀h1 e,(∀d o,d≠n->d≠n+4->s.heap.get? d=some o->h1.get? d=some o)->(∃o,h1.get? e=some o/\o.cls=.type "StopIteration")->E (.ref e) { s with heap:=h1 }) :
  wpAny (model prog w) A (Builtin.«zip.__next__» ⟨[.ref (n+4)],[]⟩) Q E s:=by
 have a5:a≠n+4:=by omega
 have n5:n≠n+4:=by omega
 show wpAny _ _ (field (Value.ref (n+4)) 2 >>= _) _ _ _;refine Hk (IZ hz rfl (x:=Value.bool false) rfl ?_);show wpAny _ _ (field (Value.ref (n+4)) 3 >>= _) _ _ _;refine Hk (IZ hz rfl (x:=Value.ref (n+2)) rfl ?_);refine Hk (Jj hI rfl ?_);show wpAny _ _ (Builtin.SmallTypes.ownedTupleIsFree (Value.ref (n+4)) >>= _) _ _ _;refine Hk (nC hz hT fun g1 z1 s1=>?_);simp only[HX,IU];refine Hk ?_;simp only[←Jx,Ja,JO];refine Hk (Hk (Iy ?_));show wpAny _ _ (Builtin.SmallTypes.nextOf (Value.ref n) >>= _) _ _ _;exact Hk (yl hA (i1.extBut s1.extBut n5) (t1.extBut s1.extBut a5) e1 fun g2 e s2 he=>q g2 e (fun d o d0 d5 x=>s2 _ _ d0 (s1.extBut _ _ d5 x)) he)
theorem nxs{n a b k T:Nat}(ha:a<n)(hb:b<n)
  (hz:iT s.heap (n+4) (n+2) (n+3) (rawInt T) f) (hT:s.heap.get? T=some oT) (hI:IsPair s.heap (n+2) (.ref n) (.ref (n+1)))
  (i1:s.heap.IsTupleIter n a k) (i2:s.heap.IsTupleIter (n+1) b k) (t1:s.heap.IsTuple a xs) (t2:s.heap.IsTuple b ys)
  (e1:xs[k]?=some x) (e2:ys[k]?=some y)
  (k0:∀h1,iT h1 (n+4) (n+2) (n+3) (rawInt T) true->h1.IsTupleIter n a (k+1)->h1.IsTupleIter (n+1) b (k+1)->IsPair h1 s.heap.objs.size x y ->
   (∀d o,d≠n->d≠n+1->d≠n+4->s.heap.get? d=some o->h1.get? d=some o)->Q (some (.ref s.heap.objs.size)) { s with heap:=h1 }) :
  wpAny (model prog w) A (pyNext (.ref (n+4))) Q E s:=by
 have hy:s.TypeIs (.ref (n+4)) "zip":=⟨_,hz,rfl⟩;unfold pyNext;refine Hk (Ke (IB (name:=Str.ofString "__next__") hy JZ (Ik JZ hy F.entry_zip_next ?_ (F.args_zip_next_1 _))));exact wV ha hb hz hT hI i1 i2 t1 t2 e1 e2 fun h1 w1 w2 w3 w4 w5=>Hl (k0 h1 w1 w2 w3 w4 w5)
theorem ends{n a k T:Nat}(hA:A.handled=none)(ha:a<n)
  (hz:iT s.heap (n+4) (n+2) (n+3) (rawInt T) f) (hT:s.heap.get? T=some oT) (hI:IsPair s.heap (n+2) (.ref n) (.ref (n+1)))
  (i1:s.heap.IsTupleIter n a k) (t1:s.heap.IsTuple a xs) (e1:xs[k]?=none)
  (q:∀h1,(∀d o,d≠n->d≠n+4->s.heap.get? d=some o->h1.get? d=some o)->Q none { s with heap:=h1 }):wpAny (model prog w) A (pyNext (.ref (n+4))) Q E s:=by
 have hy:s.TypeIs (.ref (n+4)) "zip":=⟨_,hz,rfl⟩;unfold pyNext;refine Hk (Ke (IB (name:=Str.ofString "__next__") hy JZ (Ik JZ hy F.entry_zip_next ?_ (F.args_zip_next_1 _))));refine zB hA ha hz hT hI i1 t1 e1 fun h1 e hk he=>?_;obtain⟨o,ho,hc⟩:=he;refine Hk (IE (T:="StopIteration") (b:=true) ⟨o,ho,hc⟩ isSubtype_stop (Hl (q _ hk)))
end
end EN
namespace EN
theorem Aq:typeLookup (.type "zip") "__getattr__"=pure none:=by rw[typeLookup_type,JJ];kernel_rfl
theorem rG:typeLookup (.type "zip") "keys"=pure none:=by rw[typeLookup_type,JJ];kernel_rfl
theorem E5:entryFor table "zip.__getattribute__"=some Builtin.«object.__getattribute__» :=
 entryFor_alias (id':="object.__getattribute__") (by kernel_rfl) (by first | rfl | decide +kernel) (by decide +kernel) (by kernel_rfl)
theorem B6(a:Addr)(vs:Array Value)(u:Tok):Meets (Builtin.«object.__getattribute__» ⟨[.ref a,.str "keys" u],[]⟩) (fun A R s=>s.heap.get? a=some { cls:=.type "zip",dict:=none,data:=.fields vs,slots:=#[] }/\raisesAttr (.ref a) "keys" A R s) :=
 Meets.of_wp fun prog w A R s hs=>by
  obtain⟨hp,g,d,tk,os⟩:=s;obtain⟨hx,hs⟩:=hs;have hT:(⟨hp,g,d,tk,os⟩:Shared).TypeIs (.ref a) "zip":=⟨_,hx,rfl⟩;have hm:=rG;unfold Builtin.«object.__getattribute__»
  repeat (any_goals (first | assumption | wp_step))
  exact wpAny_raiseAttrError hs.1 hs.2 (attrMsg_fits (by decide +kernel) (by size_fits))
section
variable {prog:Program}{w:World}{A:Around}{E:Value->Shared->Prop}{s:Shared}
theorem Br(hx:s.heap.get? a=some { cls:=.type "zip",dict:=none,data:=.fields vs,slots:=#[] })(hA:A.handled=none)
  (q:∀h' tk,(∀b o,s.heap.get? b=some o->h'.get? b=some o)->Q none { s with heap:=h',toks:=tk }):wpAny (model prog w) A (getAttr? (.ref a) "keys") Q E s:=by
 obtain⟨hp,g,d,tk,os⟩:=s;have hT:∀tk',(⟨hp,g,d,tk',os⟩:Shared).TypeIs (.ref a) "zip":=fun _=>⟨_,hx,rfl⟩;have f1:=sub_AttributeError;have f3:=F.slot_zip_getattribute.lookup;have f4:=F.slot_zip_getattribute.bind (.ref a);have f5:=Aq;unfold getAttr? getAttrBy? getAttrBy
 repeat (any_goals (first | assumption | exact hT _ |((with_reducible show wpAny _ _ (call (Value.builtin "zip.__getattribute__") _ _) _ _ _);refine call_meets F.slot_zip_getattribute (hT _) E5 (F.args_zip_getattribute_2 _ _) (B6 a vs _) ⟨hx,hA,fun h' tk' e hx'=>?_⟩) | wp_step))
 obtain⟨t',u',he⟩:=hx'.there;show wpAny _ _ (getattributeRaised _ _ _ _ _ _ _) _ _ _;unfold getattributeRaised
 repeat (any_goals (first | assumption | wp_step))
 exact q _ _ hx'.keeps
end
end EN
namespace EN
open L2
def dzf:List (Key×Value)->List Int->List Value->List (Key×Value)
 | acc,k::ks,u::us=>dzf (stored acc (.inl k) u) ks us
 | acc,_,_=>acc
def Zo(n d:Nat)(h:Heap):Prop:=IsZip h (n+4) (n+2) (n+3) .none∨∃(T:Nat) (f:Bool) (o:Obj),iT h (n+4) (n+2) (n+3) (rawInt T) f/\h.get? T=some o/\d<T
def Zs(n a b d i:Nat)(h:Heap):Prop:=Zo n d h/\IsPair h (n+2) (.ref n) (.ref (n+1))/\(∃x y,IsPair h (n+3) x y)/\h.IsTupleIter n a i/\h.IsTupleIter (n+1) b i
theorem nF:plainId "dict.update.loop"=true:=by decide +kernel
theorem oB:entryFor table "dict.update.loop"=some Builtin.«dict.update.loop»:=entryFor_of_tree (by kernel_rfl)
section
variable {prog:Program}{w:World}{A:Around}{R:Result->Shared->Prop}{n a b d:Nat}{xs ys:Array Value}
theorem v9(ha:a<n)(hb:b<n)(hd:n+4<d)(hds:d<s.heap.objs.size)(Z:Zs n a b d i s.heap)(t1:s.heap.IsTuple a xs)(t2:s.heap.IsTuple b ys)(e1:xs[i]?=some x)(e2:ys[i]?=some y)
  (k0:∀h1,Zs n a b d (i+1) h1->IsPair h1 s.heap.objs.size x y->(∀c o,c≠n->c≠n+1->c≠n+3->c≠n+4->s.heap.get? c=some o->h1.get? c=some o)->Q (some (.ref s.heap.objs.size)) { s with heap:=h1 }):wpAny (model prog w) A (pyNext (.ref (n+4))) Q E s:=by
 obtain⟨hz,hI,⟨p,q,hO⟩,i1,i2⟩:=Z;rcases hz with hz |⟨T,f,o,hz,hT,hdT⟩
 ·refine nx2 ha hb hz hI hO i1 i2 t1 t2 e1 e2 fun h1 w1 w2 w3 w4 w5 w6=>k0 h1 ⟨.inr ⟨_,false,_,w1,w5,hds⟩,w6 _ _ ?_ (cB (by decide)) (cB (by decide)) (cB (by decide)) hI,⟨_,_,w2⟩,w3,w4⟩ w5 w6;omega
 ·refine nxs ha hb hz hT hI i1 i2 t1 t2 e1 e2 fun h1 w1 w2 w3 w4 w5=>k0 h1 ⟨.inr ⟨T,true,o,w1,w5 _ _ ?_ ?_ ?_ hT,hdT⟩,w5 _ _ ?_ (cB (by decide)) (cB (by decide)) hI,⟨p,q,w5 _ _ ?_ (cB (by decide)) (cB (by decide)) hO⟩,w2,w3⟩ w4 fun c o c0 c1 _ c4 e=>w5 c o c0 c1 c4 e
  all_goals omega
theorem Ab(hA:A.handled=none)(ha:a<n)(Z:Zs n a b d i s.heap)(t1:s.heap.IsTuple a xs)(e1:xs[i]?=none)
  (q:∀h1,(∀c o,c≠n->c≠n+4->s.heap.get? c=some o->h1.get? c=some o)->Q none { s with heap:=h1 }):wpAny (model prog w) A (pyNext (.ref (n+4))) Q E s:=by
 obtain⟨hz,hI,_,i1,_⟩:=Z;rcases hz with hz |⟨T,f,o,hz,hT,hdT⟩
 ·exact Er hA ha hz hI i1 t1 e1 q
 ·exact ends hA ha hz hT hI i1 t1 e1 q
theorem nA(hA:A.handled=none)(ha:a<n)(hb:b<n)(hd:n+4<d)(hl:ys.size=xs.size)(hz:xs.size≤1000)(ks:List Int)(hk:Vals (ks.map V.int) xs.toList) :
  ∀(m i:Nat) (s:Shared) (kvs:List (Key×Value)) (tk:Tok),i+m=xs.size->kvs.length≤i->Zs n a b d i s.heap->s.heap.IsTuple a xs->s.heap.IsTuple b ys->s.heap.DictOf (aJ prog w) d kvs ->
   (∀h' tk',h'.DictOf (aJ prog w) d (dzf kvs (ks.drop i) (ys.toList.drop i))->(∀c o,c∉[n,n+1,n+3,n+4,d]->s.heap.get? c=some o->h'.get? c=some o)->R (.ok (.ret .none)) { s with heap:=h',toks:=tk' }) ->
   codeAny (model prog w) A (.builtin "dict.update.loop" ⟨[.ref d,.ref (n+4),.int i tk,.none],[]⟩) R s
 | 0,i,s,kvs,tk,em,hkv,Z,t1,t2,D,q=>by
  refine Je oB ?_;rw[IM nF _];have e1:xs[i]?=none:=II (by omega);refine Hk (Ab (A:=A.in1) hA ha Z t1 e1 fun h1 w1=>?_);refine Hk (Hl ?_);refine Hl ?_;have lk:ks.length=xs.size:=by have:=hk.length;simpa using this
  have e2:ks.drop i=[]:=List.drop_eq_nil_of_le (by omega);rw[e2]at q;have D1:h1.DictOf (aJ prog w) d kvs:=by
   obtain⟨o,es,ep,ho,r⟩:=D;exact⟨o,es,ep,w1 d o (by omega) (by omega) ho,r⟩
  refine q h1 s.toks D1 fun c o hc e=>w1 c o ?_ ?_ e
  ·intro z;exact hc (by simp[z])
  ·intro z;exact hc (by simp[z])
 | m+1,i,s,kvs,tk,em,hkv,Z,t1,t2,D,q=>by
  refine Je oB ?_;rw[IM nF _];have hi:i<xs.size:=by omega
  have lk:ks.length=xs.size:=by have:=hk.length;simpa using this
  have e1:xs[i]?=some xs[i]:=HU hi;have hj:i<ys.size:=by omega
  have e2:ys[i]?=some ys[i]:=HU hj;have hik:i<ks.length:=by omega
  have rk:RelV (kV (.inl ks[i])) xs[i]:=by
   obtain⟨u,hu,ru⟩:=hk.get (i:=i) (x:=V.int ks[i]) (by rw[Ht,Hn hik];rfl);rw[Iu,e1]at hu;cases hu;exact ru
  have hds:d<s.heap.objs.size:=by obtain⟨o,es,ep,ho,_⟩:=D;exact Hu ho
  refine Hk (v9 (A:=A.in1) ha hb hd hds Z t1 t2 e1 e2 fun h1 Z1 P1 w1=>?_);refine Hk (Iy ?_);refine Hk (wpAny_tryCatch ?_);unfold Builtin.Dict.pairItems;have hT:(Shared.TypeIs { s with heap:=h1 } (.ref s.heap.objs.size) "tuple"):=⟨_,P1,rfl⟩;refine Hk (Kk hT ?_);rw[HP (by decide)];refine Hk (Jj P1 rfl (Hl ?_));have D1:h1.DictOf (aJ prog w) d kvs:=by
   obtain⟨o,es,ep,ho,r⟩:=D;exact⟨o,es,ep,w1 d o (by omega) (by omega) (by omega) (by omega) ho,r⟩
  show wpAny _ _ (holding [xs[i],ys[i]] (dictSet d xs[i] ys[i])) _ _ _;refine Iy (wpAny_dictSet_pairs (knd:=aJ prog w) (lj rk) D1 (fun h2 D2 s2=>?_) (by rw[IA];omega));have s2':Heap.SameBut d h1 h2:=s2;refine Hl ⟨Code.quiet_builtin _ (by decide +kernel),?_⟩;have up:∀c o,c≠d->h1.get? c=some o->h2.get? c=some o:=fun c o hc e=>(s2'.2 c hc).trans e;have k2:∀c o,c∉[n,n+1,n+3,n+4,d]->s.heap.get? c=some o->h2.get? c=some o:=fun c o hc e=>by
   simp only[Hy,Il,JK,not_or]at hc;exact up c o hc.2.2.2.2 (w1 c o hc.1 hc.2.1 hc.2.2.1 hc.2.2.2.1 e)
  refine nA hA ha hb hd hl hz ks hk m (i+1) { s with heap:=h2,toks:=s.toks+1 } (stored kvs (.inl ks[i]) ys[i]) _ (by omega) ?_ ?_ ?_ ?_ D2 ?_
  ·exact HZ (stored_length_le ..) (by omega)
  ·obtain⟨hz,hI,⟨p,q,hO⟩,i1,i2⟩:=Z1;refine⟨?_,up _ _ (by omega) hI,⟨p,q,up _ _ (by omega) hO⟩,i1.at fun o e=>up _ o (by omega) e,i2.at fun o e=>up _ o (by omega) e⟩;rcases hz with hz |⟨T,f,o,hz,hT,hdT⟩
   ·exact .inl (up _ _ (by omega) hz)
   ·exact .inr ⟨T,f,o,up _ _ (by omega) hz,up _ _ (by omega) hT,hdT⟩
  ·obtain⟨o,ho,r⟩:=t1;exact⟨o,k2 a o (by simp;omega) ho,r⟩
  ·obtain⟨o,ho,r⟩:=t2;exact⟨o,k2 b o (by simp;omega) ho,r⟩
  ·intro h' tk' D' k';have d1:ks.drop i=ks[i]::ks.drop (i+1):=(Jr hik);have d2:ys.toList.drop i=ys[i]::ys.toList.drop (i+1):=by rw[Jr (by simpa using hj)];simp
   rw[d1,d2]at q;exact q h' tk' D' fun c o hc e=>k' c o hc (k2 c o hc e)
theorem wz(hA:A.handled=none)(ha:a<n)(hb:b<n)(hl:ys.size=xs.size)(hz:xs.size≤1000)(ks:List Int)(hk:Vals (ks.map V.int) xs.toList)
  (z:IsZip s.heap (n+4) (n+2) (n+3) .none) (hI:IsPair s.heap (n+2) (.ref n) (.ref (n+1))) (hO:∃x y,IsPair s.heap (n+3) x y) (i1:s.heap.IsTupleIter n a 0) (i2:s.heap.IsTupleIter (n+1) b 0) (t1:s.heap.IsTuple a xs) (t2:s.heap.IsTuple b ys)
  (q:∀h' tk',h'.DictOf (aJ prog w) s.heap.objs.size (dzf [] ks ys.toList)->(∀c o,c∉[n,n+1,n+3,n+4]->s.heap.get? c=some o->h'.get? c=some o)->Q (.ref s.heap.objs.size) { s with heap:=h',toks:=tk' }) :
  wpAny (model prog w) A (call (.type "dict") [.ref (n+4)]) Q E s:=by
 refine callType_codes (Q₁:=fun obj s₁=>obj=.ref s.heap.objs.size/\s₁={ s with heap:=s.heap.push { cls:=.type "dict",data:=.dict #[] } }) F.kt_called_dict (F.kt_typeCall_dict_1 _) F.entry_dict_init (kt_code_dict_new _ ⟨rfl,rfl⟩) ?_;rintro obj s₁ ⟨rfl,rfl⟩;have hnew:(s.heap.push { cls:=.type "dict",data:=.dict #[] }).DictOf (aJ prog w) s.heap.objs.size []:=Heap.DictOf.new s.heap;have z1:IsZip (s.heap.push { cls:=.type "dict",data:=.dict #[] }) (n+4) (n+2) (n+3) .none:=Ho _ z;have hT:(Shared.TypeIs { s with heap:=s.heap.push { cls:=.type "dict",data:=.dict #[] } } (.ref (n+4)) "zip"):=⟨_,z1,rfl⟩;refine⟨hnew.typeIs,F.args_dict_init_2 _ _,?_⟩;unfold Builtin.«dict.__init__»;refine Hk ?_;unfold Builtin.Dict.selfAndRest;refine Hk (wpAny_notOrdered_dict hnew.typeIs ?_);refine Hl ?_;show wpAny _ _ (Builtin.Dict.updateFrom "dict.__init__" s.heap.objs.size (.ref (n+4)) [] .none) _ _ _;unfold Builtin.Dict.updateFrom;refine Hk (Kk hT ?_);rw[HP (by decide)];refine Hk (Br z1 hA fun h1 tk1 w1=>?_);simp only[Option.isNone_none,Kg];refine Hk (JW ?_);have z2:IsZip h1 (n+4) (n+2) (n+3) .none:=w1 _ _ z1;refine Hk (wpAny_pyIter_zip (s:={ s with heap:=h1,toks:=tk1 }) z2 ?_);refine Hl ⟨Code.quiet_builtin _ (by decide +kernel),?_⟩;have up:∀c o,s.heap.get? c=some o->h1.get? c=some o:=fun c o e=>w1 c o (Ho _ e);obtain⟨p,p',hO⟩:=hO;have lz:n+4<s.heap.objs.size:=Hu z;refine nA (A:=A.in1) hA ha hb lz hl hz ks hk xs.size 0 { s with heap:=h1,toks:=tk1 } [] _ (by omega) (Hr _) ⟨.inl z2,up _ _ hI,⟨p,p',up _ _ hO⟩,i1.at fun o e=>up _ o e,i2.at fun o e=>up _ o e⟩ ?_ ?_ ?_ ?_
 ·obtain⟨o,ho,r⟩:=t1;exact⟨o,up _ _ ho,r⟩
 ·obtain⟨o,ho,r⟩:=t2;exact⟨o,up _ _ ho,r⟩
 ·obtain⟨o,es,ep,ho,r⟩:=hnew;exact⟨o,es,ep,w1 _ _ ho,r⟩
 ·intro h' tk' D k';refine⟨rfl,q h' tk' D fun c o hc e=>k' c o ?_ (up c o e)⟩;have lc:c<s.heap.objs.size:=Hu e;simp only[Hy,Il,JK,not_or]at hc ⊢;exact⟨hc.1,hc.2.1,hc.2.2.1,hc.2.2.2,by omega⟩
end
end EN
namespace U
open L2
variable {B:Bs}{X:Cx}{o i:Expr}{pos pos':Pos}{td ty:TE'}
theorem oy{K:PySem.W.Frag}(h:RP K H (tI t) v):∃b,v=.ref b/\o7 K H t b:=by
 unfold tI at h;simp only[RP]at h;obtain⟨b,us,e,q,r⟩:=h;have:=RPs.ints_eq K r;subst this;exact⟨b,e,q⟩
theorem gZ{K:PySem.W.Frag}{H:Hp}:∀{ks:List (List Int)} {as:List Addr},RPs K H (ks.map tI) (as.map V.ref)->jl K H ks as
 | [],[],_=>.nil
 | [],a::as,h=>by simp[RPs]at h
 | k::ks,[],h=>by
  simp only[HV,J0,RPs]at h;obtain⟨u,r,e,_⟩:=h;cases e
 | k::ks,a::as,h=>by
  simp only[HV,RPs]at h;obtain⟨u,r,e,h1,h2⟩:=h;cases e;obtain⟨a',e,n⟩:=oy h1;cases e;exact .cons n (gZ h2)
def ix(P:Program)(w:World):TE':=fun _ H Q=>∀p,H p=none->Q (.ref p) (put H p (.dI P w [] 0))
theorem iu:PE' X B (.Dict [] [] pos) (ix X.prog X.w):=aF tE fun σ H Q y_ p hp=>by
 obtain⟨σ',H',Q',s,h,k⟩:=y_;have hp':=s.hp.free hp;exact k _ _ _ _ (h p hp') (by simp[RP]) (s.new hp ⟨[],[],aE,RPs.nil _,RPs.nil _⟩) (Ev.new hp)
def Bk(P:Program)(w:World)(f:Bool->Bool):R2':=fun x y H Q=>match x,y with
 | .tup l,.ref d=>∃k:List Int,∃kvs ep,l=k.map PV.int/\H d=some (.dI P w kvs ep)/\Q (.bl (f (decide (k∈kvs.map (·.1))))) H
 | _,_=>False
theorem w_inI:Bk P w f (.tup l) (.ref d) H Q=(∃k:List Int,∃kvs ep,l=k.map PV.int/\H d=some (.dI P w kvs ep)/\Q (.bl (f (decide (k∈kvs.map (·.1))))) H):=rfl
theorem yQ{K:PySem.W.Frag}:VR K B (Bk P w f) (DT P w K f):=by
 intro σ' σ H' H x' y' x y Q' Q s rx ry h k;unfold Bk at h;split at h
 ·rename_i l d;obtain⟨t,kvs,ep,rfl,hd,q⟩:=h;obtain⟨a,rfl,ha⟩:=oy (t:=t) rx;simp only[RP]at ry;subst ry;obtain⟨as,vs,ha2,hr,_⟩:=s.hp _ _ hd;exact⟨a,d,t,_,as,vs,ep,rfl,ha,rfl,ha2,gZ hr,k _ _ _ _ q (by simp[RP]) s (Ev.refl _ _)⟩
 ·exact h.elim
def lk(kvs:List (List Int×PV))(k:List Int):Option PV:=(kvs.find? fun p=>decide (p.1=k)).map (·.2)
theorem xQ{K:PySem.W.Frag}{H:Hp}{k:List Int}{v:PV}:∀{kvs:List (List Int×PV)} {vs:List V},RPs K H (kvs.map (·.2)) vs->lk kvs k=some v->k∈kvs.map (·.1)/\∀u,cx ((kvs.map (·.1)).zip vs) k=some u->RP K H v u
 | [],_,_,e=>by cases e
 |(j,y)::kvs,vs,r,e=>by
  simp only[HV,RPs]at r;obtain⟨u,us,rfl,r1,r2⟩:=r;by_cases q:j=k
  ·have e2:lk ((j,y)::kvs) k=some y:=by unfold lk;simp[IS,q]
   rw[e2]at e;cases e;refine⟨by simp[q],fun w hw=>?_⟩;have e3:cx ((j,u)::(kvs.map (·.1)).zip us) k=some u:=cY q;have hw:cx ((j,u)::(kvs.map (·.1)).zip us) k=some w:=hw;rw[e3]at hw;cases hw;exact r1
  ·have e2:lk ((j,y)::kvs) k=lk kvs k:=by unfold lk;simp[IS,q]
   rw[e2]at e;obtain⟨a,b⟩:=xQ r2 e;refine⟨HH _ a,fun w hw=>b w ?_⟩;have hw:cx ((j,u)::(kvs.map (·.1)).zip us) k=some w:=hw
   rwa [cX (show ¬(j,u).1=k from q)]at hw
def jt(P:Program)(w:World)(td ty:TE'):TE':=fun σ H Q=>td σ H fun x H1=>ty σ H1 fun y H2=>match x,y with
 | .ref d,.tup l=>∃k:List Int,∃kvs ep v,l=k.map PV.int/\H2 d=some (.dI P w kvs ep)/\lk kvs k=some v/\Q v H2
 | _,_=>False
theorem gX(hu:X.A.units+64<cLine)(ho:PE' X B o td)(hi:PE' X B i ty)(hs:uq i):PE' X B (.Subscript o i pos) (jt X.prog X.w td ty):=aF (uS hu ho hi hs) fun σ H Q y_=>by
 obtain⟨σ',H',Q',s,h,k⟩:=y_;refine⟨σ',H',_,s,h,fun x' H1' x H1 h1 rx s1 e1=>⟨σ',H1',_,s1,h1,fun y' H2' y H2 h2 ry s2 e2=>?_⟩⟩;split at h2
 ·rename_i d l;obtain⟨t,kvs,ep,v,rfl,hd,hv,q⟩:=h2;have rx2:=RP.kp X.K (e2.kp s1.hp) rx;simp only[RP]at rx2;subst rx2;obtain⟨a,rfl,ha⟩:=oy (t:=t) ry;obtain⟨as,vs,ha2,hr,hw⟩:=s2.hp _ _ hd;obtain⟨hm,hu⟩:=xQ hw hv;exact⟨d,a,t,_,as,vs,ep,rfl,rfl,ha,ha2,gZ hr,hm,fun u e=>k _ _ _ _ q (hu u e) s2 (e1.trans e2)⟩
 ·exact h2.elim
def cC(kvs:List (List Int×PV))(k:List Int)(v:PV):List (List Int×PV):=if k∈kvs.map (·.1)then kvs.map (fun p=>if p.1=k then(p.1,v)else p)else kvs++[(k,v)]
def Aw(P:Program)(w:World)(o i v:PV)(H:PHp)(Q:PHp->Prop):Prop:=match o,i with
 | .ref d,.tup l=>∃k:List Int,∃kvs ep,l=k.map PV.int/\H d=some (.dI P w kvs ep)/\kvs.length<1000/\∀ep',Q (put H d (.dI P w (cC kvs k v) ep'))
 | _,_=>False
theorem Bb:Aw P w (.ref d) (.tup l) v H Q=(∃k:List Int,∃kvs ep,l=k.map PV.int/\H d=some (.dI P w kvs ep)/\kvs.length<1000/\∀ep',Q (put H d (.dI P w (cC kvs k v) ep'))):=rfl
def jz(P:Program)(w:World)(to ti:TE'):TG':=fun v σ H Q=>to σ H fun o H1=>ti σ H1 fun i H2=>Aw P w o i v H2 fun H3=>Q σ H3
theorem dF(h:k∈kvs.map (·.1)):(cC kvs k v).map (·.1)=kvs.map (·.1):=by
 unfold cC;rw[HP h,HY];refine Ie fun p _=>?_;show(if p.1=k then(p.1,v)else p).1=p.1;split<;>rfl
theorem jw{K:PySem.W.Frag}{H:Hp}{k:List Int}{v:PV}{u:V}(r:RP K H v u):∀{kvs:List (List Int×PV)} {vs:List V},RPs K H (kvs.map (·.2)) vs->RPs K H ((kvs.map fun p=>if p.1=k then(p.1,v)else p).map (·.2)) (lD (kvs.map (·.1)) vs k u)
 | [],_,h=>by simp only[J0,RPs]at h;subst h;exact RPs.nil _
 |(j,y)::kvs,vs,h=>by
  simp only[HV,RPs]at h;obtain⟨x,us,rfl,h1,h2⟩:=h;refine RPs.cons _ ?_ (jw r h2);show RP K H (if j=k then(j,v)else(j,y)).2 (if j=k then u else x);split
  ·exact r
  ·exact h1
theorem gY{to ti:TE'}(hu:X.A.units+64<cLine)(ho:PE' X B o to)(hi:PE' X B i ti) (ha:∀v,assign (.Subscript o i pos) X.env v=(do
   let ov←holding [v] (eval o X.env);let iv←holding [v,ov] (eval i X.env)
   standAt pos;holding [v,ov,iv] (setItem ov iv v);release [v,ov,iv] []):=by intro _;rfl):PG' X B (.Subscript o i pos) (jz X.prog X.w to ti):=jB (tU ho hi (BG hu) ha) fun v σ H Q h=>by
 obtain⟨v',σ',H',Q',rv,s,h,k⟩:=h;refine⟨σ',H',_,s,h,fun o' H1' o H1 h1 ro s1 e1=>⟨σ',H1',_,s1,h1,fun i' H2' i H2 h2 ri s2 e2=>?_⟩⟩;unfold Aw at h2;split at h2
 ·rename_i d l;obtain⟨t,kvs,ep,rfl,ed,hl,q⟩:=h2;have ro2:=RP.kp X.K (e2.kp s1.hp) ro;have rv2:=RP.kp X.K (e2.kp s1.hp) (RP.kp X.K (e1.kp s.hp) rv);simp only[RP]at ro2;subst ro2;obtain⟨a,rfl,hk⟩:=oy (t:=t) ri;obtain⟨as,vs,ha2,hr,hw⟩:=s2.hp _ _ ed;refine⟨d,_,as,vs,ep,t,a,rfl,rfl,ha2,gZ hr,hk,by rw[Hm];exact hl,fun ep'=>⟨fun hm=>?_,fun hm=>?_⟩⟩
  ·refine k _ _ _ _ (q ep') (s2.wr ed ⟨as,lD (kvs.map (·.1)) vs t v,?_,?_,?_⟩) (e1.trans (e2.trans (Ev.wr ed)))
   ·rw[dF hm];exact aE
   ·rw[dF hm];exact RPs.kp X.K (s2.hp.kpw ed) hr
   ·unfold cC;rw[HP hm];exact RPs.kp X.K (s2.hp.kpw ed) (jw rv2 hw)
  ·have e:cC kvs t v'=kvs++[(t,v')]:=by unfold cC;rw[HM hm]
   have q:=q ep';rw[e]at q;refine k _ _ _ _ q (s2.wr ed ⟨as++[a],vs++[v],?_,?_,?_⟩) (e1.trans (e2.trans (Ev.wr ed)))
   ·rw[HW];exact aE
   ·rw[HW,HW,HW];exact RPs.kp X.K (s2.hp.kpw ed) (RPs.append _ hr (RPs.cons _ ri (RPs.nil _)))
   ·rw[HW];exact RPs.kp X.K (s2.hp.kpw ed) (RPs.append _ hw (RPs.cons _ rv2 (RPs.nil _)))
 ·exact h2.elim
def sM(P:Program)(w:World):List PV->PHp->VK'->Prop:=bQ fun x H Q=>match x with
 | .ref d=>∃kvs ep,H d=some (.dI P w kvs ep)/\kvs.length<1000/\∀r,H r=none->Q (.ref r) (put H r (.lst ((kvs.map (·.1)).map tI)))
 | _=>False
theorem uW:sM P w [.ref d] H Q=(∃kvs ep,H d=some (.dI P w kvs ep)/\kvs.length<1000/\∀r,H r=none->Q (.ref r) (put H r (.lst ((kvs.map (·.1)).map tI)))):=rfl
theorem qY{K:PySem.W.Frag}:VC K B (sM P w) (su P w):=by
 intro σ' σ H' H xs' xs Q' Q s r h k;obtain⟨x',x,rfl,rfl,rx,h⟩:=bQ.ex h r;cases x' with
 | ref d =>
  obtain⟨kvs,ep,ed,hl,q⟩:=h;simp only[RP]at rx;subst rx;obtain⟨as,vs,ha2,hr,hw⟩:=s.hp _ _ ed;exact⟨d,_,as,vs,ep,rfl,ha2,by rw[Hm];exact hl,fun r hn=>k _ _ _ _ (q r (s.hp.free hn)) (by simp[RP]) (s.new hn (hU hn hr)) (Ev.new hn)⟩
 | _=>exact h.elim
def DE(P:Program)(w:World)(ta:TE'):TI':=fun σ H R=>ta σ H fun x H1=>match x with
 | .ref d=>∃kvs ep,H1 d=some (.dI P w kvs ep)/\R ⟨(kvs.map (·.1)).map tI,fun H=>H d=some (.dI P w kvs ep)⟩ H1
 | _=>False
theorem CU(ha:PE' X B a ta):PIH X B tg a (DE X.prog X.w ta):=cK (El ha) fun σ H R y_=>by
 obtain⟨σ',H',R',s,h,k⟩:=y_;refine⟨σ',H',_,s,h,fun x' H1' x H1 h1 rx s1 e1=>?_⟩;cases x' with
 | ref d =>
  simp only[RP]at rx;subst rx;obtain⟨kvs,ep,ed,h1⟩:=h1;obtain⟨as,vs,ha2,hr,hw⟩:=s1.hp _ _ ed;refine⟨d,_,as,vs,ep,rfl,ha2,k _ H1' _ H1 h1 ⟨fun H2' H2 i k2 hr o hi=>?_,fun H2' H2 i x H3 k2 hr o y=>?_,fun H2' H2 k2 hr o=>?_⟩ s1 e1⟩
  ·obtain⟨as,vs,a1,_⟩:=hr _ _ o;exact⟨⟨_,as,vs,a1,rfl⟩,by simpa using hi⟩
  ·obtain⟨rfl,q⟩:=y;obtain⟨as,vs,a1,a2,_⟩:=hr _ _ o;obtain⟨b,hb,rfl⟩:=q _ _ _ a1;refine⟨hr,Ev.refl _ _,fun x' hx=>?_⟩;obtain⟨u,eu,ru⟩:=RPs.get _ a2 hx;rw[Ht,hb]at eu;cases eu;exact ru
  ·obtain⟨as,vs,a1,_⟩:=hr _ _ o;exact⟨⟨_,as,vs,a1,rfl⟩,by simp⟩
 | _=>exact h1.elim
end U
namespace L2
open EN
variable {X:Cx}
def bR(kvs:List (Int×Int))(k v:Int):List (Int×Int):=if (kvs.any fun p=>decide (p.1=k))=true then kvs.map (fun p=>if p.1=k then(p.1,v)else p)else kvs++[(k,v)]
def dzJ:List (Int×Int)->List Int->List Int->List (Int×Int)
 | acc,k::ks,v::vs=>dzJ (bR acc k v) ks vs
 | acc,_,_=>acc
def bp(kvs:List (Int×Int)):List (Key×V):=kvs.map fun p=>(Sum.inl p.1,V.int p.2)
def lkJ(kvs:List (Int×Int))(k:Int):Option Int:=(kvs.find? fun p=>decide (p.1=k)).map (·.2)
theorem nG:((Sum.inl a:Key)=Sum.inl b)↔a=b:=⟨fun h=>Sum.inl.inj h,fun h=>by rw[h]⟩
theorem nq:putK (bp kvs) (Sum.inl k) (V.int v)=bp (bR kvs k v):=by
 have e:((bp kvs).any fun kv=>decide (kv.1=Sum.inl k))=kvs.any fun p=>decide (p.1=k):=by
  unfold bp;rw[List.any_map];congr 1;funext p;simp[Function.comp]
 unfold putK bR;rw[e];split
 ·unfold bp;rw[HY,HY];refine Ie fun p _=>?_;simp only[Function.comp,nG];split<;>rfl
 ·unfold bp;rw[HW];rfl
theorem xV:cx (bp kvs) (Sum.inl k)=(lkJ kvs k).map V.int:=by
 unfold cx lkJ bp
 induction kvs with
 | nil=>rfl
 | cons p r ih =>
  simp only[HV,IS,nG];by_cases e:p.1=k
  ·simp[e]
  ·simp[e];simpa using ih
theorem ip:(lkJ kvs k).isSome=decide (k∈kvs.map (·.1)):=by
 unfold lkJ
 induction kvs with
 | nil=>rfl
 | cons p r ih =>
  simp only[IS,HV,Hy];by_cases e:p.1=k
  ·simp[e]
  ·have e':¬k=p.1:=fun z=>e z.symm;simp[e,e'];simpa using ih
theorem lb:(bR kvs k v).length≤kvs.length+1:=by
 unfold bR;split
 ·rw[Hm];omega
 ·rw[HN];exact Hr _
theorem gA:∀{ks vs:List Int} {acc:List (Int×Int)},(dzJ acc ks vs).length≤acc.length+ks.length
 | [],_,acc=>by unfold dzJ;omega
 | _::_,[],acc=>by unfold dzJ;omega
 | k::ks,v::vs,acc=>by
  unfold dzJ;have h1:=gA (ks:=ks) (vs:=vs) (acc:=bR acc k v);have h2:=lb (kvs:=acc) (k:=k) (v:=v);rw[Ig];omega
theorem sI:∀{ks vs:List Int} {us:List Value} {acc:List (Int×Int)} {acc':List (Key×Value)},KV (bp acc) acc'->Vals (vs.map V.int) us->KV (bp (dzJ acc ks vs)) (dzf acc' ks us)
 | [],_,us,acc,acc',r,_=>by unfold dzJ dzf;exact r
 | _::_,[],us,acc,acc',r,h=>by cases h;unfold dzJ dzf;exact r
 | k::ks,v::vs,us,acc,acc',r,h=>by
  cases h with
  | cons h1 h2 =>
   unfold dzJ dzf;refine sI ?_ h2;rw[←nq];exact r.put _ h1
def tDZ(K:PySem.W.Frag)(ta:TA):TE:=fun σ H Q=>ta σ H fun us H1=>∃a b ks vs,us=[.ref a,.ref b]/\SqT K H1 a (ks.map V.int)/\SqT K H1 b (vs.map V.int)/\vs.length=ks.length/\ks.length≤1000/\∀p,H1 p=none->Q (.ref p) (upd H1 p (.dK (bp (dzJ [] ks vs))))
theorem vM{c d:Expr}{ta:TA}{p p2 pos pos2:Pos}(hc:X.calm=true)(hgd:Gl X "dict")(hmd:X.mg "dict"=none)(bd:bootBuiltins "dict"=some (.type "dict"))(hgz:Gl X "zip")(hmz:X.mg "zip"=none)(ha:PA X [c,d] ta)
  (he:starEach [.Call (.Name "zip" p2) [c,d] [] pos2] X.env=[(false,eval (.Call (.Name "zip" p2) [c,d] [] pos2) X.env)]:=by rfl)
  (hs:starEach [c,d] X.env=[(false,eval c X.env),(false,eval d X.env)]:=by rfl) (hs2:starEach [d] X.env=[(false,eval d X.env)]:=by rfl) :
  PE X (.Call (.Name "dict" p) [.Call (.Name "zip" p2) [c,d] [] pos2] [] pos) (tDZ X.K ta):=by
 intro pins s σ H Q I h;refine IT (bt I hgd hmd bd ?_);refine Ia ?_ he (by rfl);rw[he];show wpAny _ _ (spliced ((false,eval (.Call (.Name "zip" p2) [c,d] [] pos2) X.env)::[])) _ _ s;refine Calls.spliced_cons ?_;refine IT (bt I hgz hmz PyProof.Rows.boot_zip ?_);refine Ia (thn (ha pos2 pins s σ H _ I h) fun us s1 ⟨vs,H1,I1,r1,q1⟩=>?_) (by rw[hs,hs2]) (by rw[hs2];rfl);obtain⟨a,b,ks,ws,e,qx,qy,hl,hz,q⟩:=q1;subst e;obtain⟨u,v,rfl,r,r'⟩:=vals2 r1;cases r;cases r';obtain⟨l1,v1,p1,_⟩:=I1.tuple qx;obtain⟨l2,v2,p2,_⟩:=I1.tuple qy;have p1':s1.heap.IsTuple a l1.toArray:=p1;have p2':s1.heap.IsTuple b l2.toArray:=p2;have n1:l1.length=ks.length:=by have:=v1.length;simpa using this.symm
 have n2:l2.length=ws.length:=by have:=v2.length;simpa using this.symm
 obtain⟨_,ea,_⟩:=id p1';obtain⟨_,eb,_⟩:=id p2';refine nZ p1' p2' fun h1 z hI hO i1 i2 kk=>?_;have up:∀c o,s1.heap.get? c=some o->h1.get? c=some o:=kk;have t1:h1.IsTuple a l1.toArray:=by obtain⟨o,ho,r⟩:=p1';exact⟨o,up _ _ ho,r⟩
 have t2:h1.IsTuple b l2.toArray:=by obtain⟨o,ho,r⟩:=p2';exact⟨o,up _ _ ho,r⟩
 refine Hl ?_;have lz:s1.heap.objs.size+4<h1.objs.size:=Hu z;have le1:s1.heap.objs.size≤h1.objs.size:=by omega
 have hn:H1 h1.objs.size=none:=I1.hok.fresh le1;refine wz (s:={ s1 with heap:=h1 }) (I.ok.hd hc) (Hu ea) (Hu eb) (by simp[n1,n2,hl]) (by simpa[n1]using hz) ks (by simpa using v1) z hI ⟨_,_,hO⟩ i1 i2 t1 t2 fun h2 tk D k2=>?_;refine⟨.ref h1.objs.size,_,I1.laid (a:=h1.objs.size) (o:=.dK (bp (dzJ [] ks ws))) (t':=tk) (fun b o e=>k2 b o ?_ (up b o e)) le1 ?_,rfl,q _ hn⟩
 ·have hb:b<s1.heap.objs.size:=Hu e;simp only[Hy,Il,JK,not_or];refine⟨HQ hb,?_,?_,?_⟩<;>(intro z;rw[z]at hb;exact absurd hb (Nat.not_lt.mpr (J5 _ _)))
 ·refine⟨?_,Jc.mpr (Ne.symm (HQ (Ic I1.big le1))),_,sI (acc:=[]) .nil (by simpa using v2),D⟩;have:=gA (ks:=ks) (vs:=ws) (acc:=[]);unfold bp;rw[Hm,IA];simp only[JX]at this;omega
def Ef:R2:=fun x y H Q=>∃n d kvs,x=.int n/\y=.ref d/\H d=some (.dK (bp kvs))/\Q (.bl (decide (n∈kvs.map (·.1)))) H
theorem zV(hu:X.A.units+64<cLine):OpR X (compareOp .In) Ef:=by
 intro pins s σ H x y v u Q I rx ry h;obtain⟨n,d,kvs,rfl,rfl,hd,q⟩:=h;cases ry;refine GP (by omega) I (kS.k (k:=Sum.inl n) hd) rx fun s' I'=>⟨.bl _,H,I',rfl,?_⟩;rw[xV,Option.isSome_map,ip];exact q
def DS:V->V->V->Hp->(Hp->Prop)->Prop:=fun o i v H Q=>∃d kvs n m,o=.ref d/\i=.int n/\v=.int m/\H d=some (.dK (bp kvs))/\kvs.length<1000/\Q (upd H d (.dK (bp (bR kvs n m))))
theorem Ez(hu:X.A.units+64<cLine):xF X DS:=by
 intro pins s σ H o i v ov iv u Q I ro ri rv h;obtain⟨d,kvs,n,m,rfl,rfl,rfl,hd,hl,q⟩:=h;cases ro;refine pq (by omega) I (uz.k (k:=Sum.inl n) hd (by unfold bp;rw[Hm,IA];omega)) ri rv fun s' I'=>⟨_,I',?_⟩;rw[nq];exact q
def ub:List V->Hp->VK->Prop:=fun xs H Q=>∃d kvs,xs=[.ref d]/\H d=some (.dK (bp kvs))/\kvs.length<1000/\∀r,H r=none->Q (.ref r) (upd H r (.dK (bp kvs)))
theorem mN:bH X (.type "dict") ub:=by
 intro pins s σ H xs us Q I r h;obtain⟨d,kvs,rfl,hd,hl,q⟩:=h;obtain⟨u,rfl,ru⟩:=Vals.one r;cases ru;obtain⟨z,lo,vs,rel,dd⟩:=lA I.hok hd;have hz:vs.length≤sizeLine:=by rw[←rel.length];exact z
 have hn:H s.heap.objs.size=none:=I.hok.fresh (Hr _);refine kt_call_dict lo dd hz fun h' hm hs=>⟨.ref s.heap.objs.size,_,I.laid (a:=s.heap.objs.size) (o:=.dK (bp kvs)) (t':=s.toks) (fun b o e=>?_) (Hr _) ⟨z,Jc.mpr (Ne.symm (HQ I.big)),vs,rel,hm⟩,rfl,q _ hn⟩;exact(hs.2 b (HQ (Hu e))).trans (Ho _ e)
end L2
namespace U
open L2 EN
variable {B:Bs}{X:Cx}{o i:Expr}{pos pos':Pos}{td ty:TE'}
def dij(kvs:List (Int×Int)):List (Key×PV):=kvs.map fun p=>(Sum.inl p.1,PV.int p.2)
theorem x4{K:PySem.W.Frag}{H:Hp}:∀{kvs:List (Int×Int)},c7 K H (dij kvs) (bp kvs)
 | []=>.nil
 | _::_=>.cons ⟨rfl,by simp[RP]⟩ x4
theorem qU{K:PySem.W.Frag}{H:Hp}:∀{kvs:List (Int×Int)} {ws:List (Key×V)},c7 K H (dij kvs) ws->ws=bp kvs
 | [],_,h=>by cases h;rfl
 | p::r,_,h=>by
  cases h with
  | cons h1 h2 =>
   rename_i q qs;obtain⟨a,b⟩:=h1;simp only[RP]at b;rw[qU h2];obtain⟨q1,q2⟩:=q;simp only at a b;subst a b;rfl
theorem fx{K:PySem.W.Frag}(h:HR K H' H)(e:H' d=some (.dK (dij kvs))):H d=some (.dK (bp kvs)):=by
 obtain⟨ws,e1,r⟩:=h _ _ e;rw[qU r]at e1;exact e1
theorem gR{K:PySem.W.Frag}:OAt K (upd H p (.dK (bp kvs))) p (.dK (dij kvs)):=⟨_,aE,x4⟩
def qD(vs:List PV)(H:PHp)(Q:VK'):Prop:=match vs with
 | [.tup l,.tup m]=>∃ks ws:List Int,l=ks.map PV.int/\m=ws.map PV.int/\ws.length=ks.length/\ks.length≤1000/\∀p,H p=none->Q (.ref p) (put H p (.dK (dij (dzJ [] ks ws))))
 | _=>False
theorem Fm:qD [.tup l,.tup m] H Q=∃ks ws:List Int,l=ks.map PV.int/\m=ws.map PV.int/\ws.length=ks.length/\ks.length≤1000/\∀p,H p=none->Q (.ref p) (put H p (.dK (dij (dzJ [] ks ws)))):=rfl
def uDz(t:TA'):TE':=fun σ H Q=>t σ H fun vs H1=>qD vs H1 Q
theorem j5{c d:Expr}{t:TA'}{p p2 pos2:Pos}(hc:X.calm=true)(hgd:Gl X "dict")(hmd:X.mg "dict"=none)(bd:bootBuiltins "dict"=some (.type "dict"))(hgz:Gl X "zip")(hmz:X.mg "zip"=none)(ha:PA' X B [c,d] t)
  (he:starEach [.Call (.Name "zip" p2) [c,d] [] pos2] X.env=[(false,eval (.Call (.Name "zip" p2) [c,d] [] pos2) X.env)]:=by rfl)
  (hs:starEach [c,d] X.env=[(false,eval c X.env),(false,eval d X.env)]:=by rfl) (hs2:starEach [d] X.env=[(false,eval d X.env)]:=by rfl) :
  PE' X B (.Call (.Name "dict" p) [.Call (.Name "zip" p2) [c,d] [] pos2] [] pos) (uDz t):=aF (vM hc hgd hmd bd hgz hmz ha he hs hs2) fun σ H Q y_=>by
 obtain⟨σ',H',Q',s,h,k⟩:=y_;refine⟨σ',H',_,s,h,fun vs' H1' vs H1 h1 r1 s1 e1=>?_⟩;unfold qD at h1;split at h1
 ·rename_i l m;obtain⟨ks,ws,rfl,rfl,hl,hz,q⟩:=h1;simp only[RPs,RP]at r1;obtain⟨v1,r1,rfl,⟨a,us,rfl,q1,rl⟩,v2,r2,rfl,⟨c,ts,rfl,q3,rr⟩,rfl⟩:=r1;rw[RPs.ints_eq X.K rl]at q1;rw[RPs.ints_eq X.K rr]at q3;exact⟨a,c,ks,ws,rfl,q1,q3,hl,hz,fun p hn=>k _ _ _ _ (q p (s1.hp.free hn)) (by simp[RP]) (s1.new hn gR) (e1.trans (Ev.new hn))⟩
 ·exact h1.elim
def yX:R2':=fun x y H Q=>match x,y with
 | .int n,.ref d=>∃kvs,H d=some (.dK (dij kvs))/\Q (.bl (decide (n∈kvs.map (·.1)))) H
 | _,_=>False
theorem Cj:yX (.int n) (.ref d) H Q=∃kvs,H d=some (.dK (dij kvs))/\Q (.bl (decide (n∈kvs.map (·.1)))) H:=rfl
theorem BC{K:PySem.W.Frag}:VR K B yX Ef:=by
 intro σ' σ H' H x' y' x y Q' Q s rx ry h k;unfold yX at h;split at h
 ·rename_i n d;obtain⟨kvs,hd,q⟩:=h;simp only[RP]at rx ry;exact⟨n,d,kvs,rx,ry,fx s.hp hd,k _ _ _ _ q (by simp[RP]) s (Ev.refl _ _)⟩
 ·exact h.elim
def x5(td ty:TE'):TE':=fun σ H Q=>td σ H fun x H1=>ty σ H1 fun y H2=>match x,y with
 | .ref d,.int n=>∃kvs v,H2 d=some (.dK (dij kvs))/\lkJ kvs n=some v/\Q (.int v) H2
 | _,_=>False
theorem nR(hu:X.A.units+64<cLine)(ho:PE' X B o td)(hi:PE' X B i ty)(hs:uq i):PE' X B (.Subscript o i pos) (x5 td ty):=aF (wx (by omega) ho hi hs) fun σ H Q y_=>by
 obtain⟨σ',H',Q',s,h,k⟩:=y_;refine⟨σ',H',_,s,h,fun x' H1' x H1 h1 rx s1 e1=>⟨σ',H1',_,s1,h1,fun y' H2' y H2 h2 ry s2 e2=>?_⟩⟩;split at h2
 ·rename_i d n;obtain⟨kvs,v,hd,hv,q⟩:=h2;have rx2:=RP.kp X.K (e2.kp s1.hp) rx;simp only[RP]at rx2 ry;subst rx2 ry;refine⟨d,.int v,rfl,?_,k _ _ _ _ q (by simp[RP]) s2 (e1.trans e2)⟩;have:=kS.k (k:=Sum.inl n) (fx s2.hp hd);rw[xV,hv]at this;exact this
 ·exact h2.elim
def Bj(o i v:PV)(H:PHp)(Q:PHp->Prop):Prop:=match o,i,v with
 | .ref d,.int n,.int m=>∃kvs,H d=some (.dK (dij kvs))/\kvs.length<1000/\Q (put H d (.dK (dij (bR kvs n m))))
 | _,_,_=>False
theorem BM:Bj (.ref d) (.int n) (.int m) H Q=∃kvs,H d=some (.dK (dij kvs))/\kvs.length<1000/\Q (put H d (.dK (dij (bR kvs n m)))):=rfl
def tq(to ti:TE'):TG':=fun v σ H Q=>to σ H fun o H1=>ti σ H1 fun i H2=>Bj o i v H2 fun H3=>Q σ H3
theorem vv{to ti:TE'}(hu:X.A.units+64<cLine)(ho:PE' X B o to)(hi:PE' X B i ti) (ha:∀v,assign (.Subscript o i pos) X.env v=(do
   let ov←holding [v] (eval o X.env);let iv←holding [v,ov] (eval i X.env)
   standAt pos;holding [v,ov,iv] (setItem ov iv v);release [v,ov,iv] []):=by intro _;rfl):PG' X B (.Subscript o i pos) (tq to ti):=jB (tU ho hi (Ez hu) ha) fun v σ H Q h=>by
 obtain⟨v',σ',H',Q',rv,s,h,k⟩:=h;refine⟨σ',H',_,s,h,fun o' H1' o H1 h1 ro s1 e1=>⟨σ',H1',_,s1,h1,fun i' H2' i H2 h2 ri s2 e2=>?_⟩⟩;unfold Bj at h2;split at h2
 ·rename_i d n m;obtain⟨kvs,ed,hl,q⟩:=h2;have ro2:=RP.kp X.K (e2.kp s1.hp) ro;simp only[RP]at ro2 ri rv;subst ro2 ri rv;exact⟨d,kvs,n,m,rfl,rfl,rfl,fx s2.hp ed,hl,k _ _ _ _ q (s2.wr ed gR) (e1.trans (e2.trans (Ev.wr ed)))⟩
 ·exact h2.elim
def sG:List PV->PHp->VK'->Prop:=bQ fun x H Q=>match x with
 | .ref d=>∃kvs,H d=some (.dK (dij kvs))/\kvs.length<1000/\∀r,H r=none->Q (.ref r) (put H r (.dK (dij kvs)))
 | _=>False
theorem vn:sG [.ref d] H Q=∃kvs,H d=some (.dK (dij kvs))/\kvs.length<1000/\∀r,H r=none->Q (.ref r) (put H r (.dK (dij kvs))):=rfl
theorem rK{K:PySem.W.Frag}:VC K B sG ub:=by
 intro σ' σ H' H xs' xs Q' Q s r h k;obtain⟨x',x,rfl,rfl,rx,h⟩:=bQ.ex h r;cases x' with
 | ref d =>
  obtain⟨kvs,ed,hl,q⟩:=h;simp only[RP]at rx;subst rx;exact⟨d,kvs,rfl,fx s.hp ed,hl,fun r hn=>k _ _ _ _ (q r (s.hp.free hn)) (by simp[RP]) (s.new hn gR) (Ev.new hn)⟩
 | _=>exact h.elim
end U
namespace L2
open EN
variable {X:Cx}{o e:Expr}{es:List Expr}{to:TE}{t:TA}{name:Str}{apos cpos:Pos}{id:String}{r:V->List V->Hp->VK->Prop}
def Gy(r:V->List V->Hp->VK->Prop)(to:TE)(t:TA):TE:=fun σ H Q=>to σ H fun x H1=>(∃d kvs,x=.ref d/\H1 d=some (.dK kvs))/\t σ H1 fun xs H2=>r x xs H2 Q
theorem BI(slot:Slot "dict" name id)(hty:typeOf (.builtin id)=pure (.type "method_descriptor"))(hm:MtM X id r)(ho:PE X o to)(ha:PA X (e::es) t)
  (hbase:attributeBase o name X.env (eval o X.env)=eval o X.env:=by rfl)
  (hfew:((backTo cpos (starEach (e::es) X.env)).all (fun x=>!x.1)&&(backToKw cpos (keywordEach [] X.env)).all (fun x=>x.1.isSome)
   && decide ((e::es).length+([]:List Keyword).length+(if ([]:List Keyword).isEmpty then 0 else 1)<30))=true:=by rfl)
  (hline:(apos.endLine==cpos.line)=true:=by rfl) (hs:starEach (e::es) X.env=(false,eval e X.env)::starEach es X.env:=by rfl) (hplain:(backTo cpos (starEach es X.env)).any (·.1)=false:=by rfl) :
  PE X (.Call (.Attribute o name apos) (e::es) [] cpos) (Gy r to t):=by
 intro pins s σ H Q I h;refine wpAny_Call_method_late hbase hfew hline rfl (thn (ho pins s σ H _ I h) fun v s1 y_=>?_);obtain⟨x,H1,I1,r1,ty,q1⟩:=y_;obtain⟨d,kvs,rfl,hd⟩:=ty;cases r1;obtain⟨_,_,vs,_,ob,_,_,g,ex,_⟩:=lA I1.hok hd;refine⟨"dict",id,PySem.F.plainAttrs_dict,slot,hty,⟨ob,g,ex.1⟩,fun a e2=>?_,?_⟩
 ·cases e2;exact⟨ob,g,ex.2.1⟩
 ·have hA:=ha cpos pins s1 σ H1 _ I1 q1;rw[hs]at hA ⊢;refine Calls.callWith_builtin (by show(false||(backTo cpos (starEach es X.env)).any (·.1))=false;rw[hplain]<;>rfl) (Calls.evalArgs_plain ?_);exact thn hA fun us s2 ⟨vs,H2,I2,r2,q2⟩=>hm pins s2 σ H2 (.ref d) vs (.ref d) us Q I2 rfl r2 q2
def upJ(kvs more:List (Int×Int)):List (Int×Int):=more.foldl (fun acc p=>bR acc p.1 p.2) kvs
theorem tN:∀{more kvs:List (Int×Int)} {ms vs:List (Key×Value)},KV (bp kvs) vs->KV (bp more) ms->KV (bp (upJ kvs more)) (merged vs ms)
 | [],kvs,ms,vs,r,h=>by cases h;exact r
 | p::more,kvs,ms,vs,r,h=>by
  cases h with
  | cons h1 h2 =>
   rename_i q qs;obtain⟨a,b⟩:=h1;show KV (bp (upJ (bR kvs p.1 p.2) more)) (merged (stored vs q.1 q.2) qs);refine tN ?_ h2;rw[←nq,← a];exact r.put _ b
theorem jG:∀{more kvs:List (Int×Int)},(upJ kvs more).length≤kvs.length+more.length
 | [],kvs=>Hr _
 | p::more,kvs=>by
  have h1:=jG (more:=more) (kvs:=bR kvs p.1 p.2);have h2:=lb (kvs:=kvs) (k:=p.1) (v:=p.2);show(upJ (bR kvs p.1 p.2) more).length≤_;rw[Ig];omega
def Gb:V->List V->Hp->VK->Prop:=fun x vs H Q=>∃d o kvs more,x=.ref d/\vs=[.ref o]/\d≠o/\H d=some (.dK (bp kvs))/\H o=some (.dK (bp more))/\kvs.length+more.length<1000/\Q .non (upd H d (.dK (bp (upJ kvs more))))
theorem zG:MtM X "dict.update" Gb:=by
 intro pins s σ H x vs v us Q I rx rv h;obtain⟨d,o,kvs,more,rfl,rfl,hne,hd,ho,hz,q⟩:=h;cases rx;obtain⟨u,rfl,ru⟩:=rv.one;cases ru;obtain⟨z1,b1,v1,r1,d1⟩:=lA I.hok hd;obtain⟨z2,b2,v2,r2,d2⟩:=lA I.hok ho;have l1:v1.length=kvs.length:=by have:=r1.length;unfold bp at this;rw[Hm]at this;exact this.symm
 have l2:v2.length=more.length:=by have:=r2.length;unfold bp at this;rw[Hm]at this;exact this.symm
 refine call_meetsIn PySem.F.slot_dict_update d1.typeIs PySem.F.entry_dict_update (PySem.F.args_dict_update_2 _ _) (meets_dict_update (aJ X.prog X.w) d o hne b2) ⟨v1,v2,d1,d2,by rw[IA];omega,fun h' e1 e2 hs=>⟨.non,_,?_,rfl,q⟩⟩;have lu:=jG (more:=more) (kvs:=kvs);have e1':=e1;obtain⟨ob,es,ep,hob,_⟩:=e1';exact I.write (x:=d) (e:=d) (o:=.dK (bp (upJ kvs more))) (by rw[hd];exact trivial) (.inl rfl) (fun b u hb hu=>(hs.2 b hb).trans hu) ⟨ob,hob⟩ ⟨by unfold bp;rw[Hm,IA];omega,b1,_,tN r1 r2,e1⟩
end L2
namespace U
open L2 EN
variable {B:Bs}{X:Cx}{o e:Expr}{es:List Expr}{to:TE'}{t:TA'}{apos cpos:Pos}
def AA(x:PV)(vs:List PV)(H:PHp)(Q:VK'):Prop:=match x,vs with
 | .ref d,[.ref o]=>∃kvs more,d≠o/\H d=some (.dK (dij kvs))/\H o=some (.dK (dij more))/\kvs.length+more.length<1000/\Q .non (put H d (.dK (dij (upJ kvs more))))
 | _,_=>False
theorem yi{d o:Addr}:AA (.ref d) [.ref o] H Q=∃kvs more,d≠o/\H d=some (.dK (dij kvs))/\H o=some (.dK (dij more))/\kvs.length+more.length<1000/\Q .non (put H d (.dK (dij (upJ kvs more)))):=rfl
def isJ(x:PV)(H:PHp):Prop:=match x with | .ref a=>∃kvs,H a=some (.dK kvs) | _=>False
theorem Dk:isJ (.ref a) H=∃kvs,H a=some (.dK kvs):=rfl
def DP(to:TE')(t:TA'):TE':=fun σ H Q=>to σ H fun x H1=>isJ x H1/\t σ H1 fun xs H2=>AA x xs H2 Q
theorem uV(ho:PE' X B o to)(ha:PA' X B (e::es) t)
  (hbase:attributeBase o "update" X.env (eval o X.env)=eval o X.env:=by rfl)
  (hfew:((backTo cpos (starEach (e::es) X.env)).all (fun x=>!x.1)&&(backToKw cpos (keywordEach [] X.env)).all (fun x=>x.1.isSome)
   && decide ((e::es).length+([]:List Keyword).length+(if ([]:List Keyword).isEmpty then 0 else 1)<30))=true:=by rfl)
  (hline:(apos.endLine==cpos.line)=true:=by rfl) (hs:starEach (e::es) X.env=(false,eval e X.env)::starEach es X.env:=by rfl) (hplain:(backTo cpos (starEach es X.env)).any (·.1)=false:=by rfl) :
  PE' X B (.Call (.Attribute o "update" apos) (e::es) [] cpos) (DP to t):=aF (BI PySem.F.slot_dict_update PySem.F.type_dict_update zG ho ha hbase hfew hline hs hplain) fun σ H Q h=>by
 obtain⟨σ',H',Q',s,h,k⟩:=h;refine⟨σ',H',_,s,h,fun x' H1' x H1 h1 rx s1 e1=>?_⟩;obtain⟨ty,h1⟩:=h1;cases x' with
 | ref a =>
  obtain⟨kv0,e0⟩:=ty;obtain⟨ws0,q0,_⟩:=s1.hp _ _ e0;simp only[RP]at rx;subst rx;refine⟨⟨a,ws0,rfl,q0⟩,σ',H1',_,s1,h1,fun xs' H2' xs H2 h2 r2 s2 e2=>?_⟩;have h2:AA (.ref a) xs' H2' Q':=h2
  match xs',h2,r2 with
  | [.ref o'],h2,r2 =>
   rw[yi]at h2;obtain⟨kvs,more,hne,hd,hoo,hz,q⟩:=h2;simp only[RPs,RP]at r2;obtain⟨u,r,rfl,rfl,rfl⟩:=r2;exact⟨_,o',kvs,more,rfl,rfl,hne,fx s2.hp hd,fx s2.hp hoo,hz,k _ _ _ _ q (by simp[RP]) (s2.wr hd gR) (e1.trans (e2.trans (Ev.wr hd)))⟩
 | _=>exact ty.elim
end U
namespace NM
open Sem (wp)
variable {prog:Program}{w:World}{A:Around}{E:Value->Shared->Prop}{s:Shared}
def b2(b:Bool):Int:=if b then 1 else 0
end NM
namespace L2
variable {X:Cx}
end L2
namespace U
open L2
variable {B:Bs}{X:Cx}{pos:Pos}
def rH:TE':=fun _ H Q=>∀p,H p=none->Q (.ref p) (put H p (.dK []))
theorem kC:PE' X B (.Dict [] [] pos) rH:=aF qI fun σ H Q y_ p hp=>by
 obtain⟨σ',H',Q',s,h,k⟩:=y_;have hp':=s.hp.free hp;refine k _ _ _ _ (h p hp') (by simp[RP]) (s.new hp ⟨[],aE,.nil⟩) (Ev.new hp)
end U
namespace L2
variable {X:Cx}
end L2
namespace U
open L2
section
variable {B:Bs}{X:Cx}{pos:Pos}
def CQ(t1 t2:TI'):TI':=fun σ H R=>t1 σ H R∨t2 σ H R
theorem D7(h1:PIH X B tg e t1)(h2:PIH X B tg e t2):PIH X B tg e (CQ t1 t2):=fun pins s σ H R I q=>by
 obtain⟨σ',H',R',sr,h,k⟩:=q;rcases h with h | h
 ·exact h1 pins s σ H R I ⟨σ',H',R',sr,h,k⟩
 ·exact h2 pins s σ H R I ⟨σ',H',R',sr,h,k⟩
end
section
variable {B:Bs}{X:Cx}{pos:Pos}{x:Str}{a b e:Expr}{ta tb te:TE'}
theorem gN(i:Nat)(hN:X.N.Nodup)(hi:X.N[i]?=some x:=by rfl)(hx:Loc X.env.scope x:=by first | exact Or.inl rfl | exact Or.inr rfl)(hf:X.fn x=true∨X.env.scope.names.lookup x=some .local:=by first | exact .inl rfl | exact .inr rfl | assumption):PG' X B (.Name x pos) (bw i):=xw hN hi hx hf
theorem sN{pos':Pos}(i:Nat)(hN:X.N.Nodup)(he:PE' X B e te)(hi:X.N[i]?=some x:=by rfl)(hx:Loc X.env.scope x:=by first | exact Or.inl rfl | exact Or.inr rfl)(hs:swapsWith e (some (.Name x pos')) pos.line X.env=pure false:=by rfl)(hf:X.fn x=true∨X.env.scope.names.lookup x=some .local:=by first | exact .inl rfl | exact .inr rfl | assumption):PS' X B (.Assign [.Name x pos'] e pos) (km te (bw i)):=AL hN hi hx he hs hf
theorem iX(ha:PE' X B a ta)(hb:PE' X B b tb)(hs:gL b:=by exact fun _ _=>rfl):PE' X B (.Subscript a b pos) (uOp uIx ta tb):=B9 ha hb hs
theorem cW{op:CmpOp}{r':R2'}{r:R2}(ho:OpR X (compareOp op) r)(v:VR X.K B r' r)(ha:PE' X B a ta)(hb:PE' X B b tb)(hm:behindInMarks op b=false:=by with_unfolding_all rfl):PT' X B (.Compare a [op] [b] pos) (ju (uOp r' ta tb)):=tj ho v ha hb hm
theorem cN{op:CmpOp}{r':R2'}{r:R2}(ho:OpR X (compareOp op) r)(v:VR X.K B r' r)(ha:PE' X B a ta)(hb:PE' X B b tb)(h1:op≠.In:=by decide)(h2:op≠.NotIn:=by decide):PT' X B (.Compare a [op] [b] pos) (ju (uOp r' ta tb)):=tj ho v ha hb (mM _ h1 h2)
section
variable {N2:List Str}{nt:Nat}{js:List Nat}{scope sc:Scope}{cl:List (Str×Addr)}{elt iter tg:Expr}{ifs:List Expr}{wi:TI'}{g:TG'}{tt:TT'}{y:Str}{py spos:Pos}
theorem cE(N2:List Str)(nt:Nat)(js:List Nat)(O:bz X N2 nt js scope cl sc)(hi:PI' X B tg iter wi)(b:∀(s0:Shared) (H0:Hp) (fp:List Addr) (ps:List (Addr×Obj)),fA (bK X N2 scope cl s0 H0 fp ps) B tg ifs elt g tt te)(hc:X.calm=true:=by rfl)(hs:∀x,foldedSetIterable iter X.env x=pure x:=by intro _;rfl) :
  PE' X B (.ListComp elt [⟨tg,iter,ifs,0⟩] scope pos) (gp nt js wi g tt te):=xn O hc hi b hs
theorem sC(i:Nat)(hN:X.N.Nodup)(N2:List Str)(nt:Nat)(js:List Nat)(O:bz X N2 nt js scope cl sc)(hi:PI' X B tg iter wi)(b:∀(s0:Shared) (H0:Hp) (fp:List Addr) (ps:List (Addr×Obj)),fA (bK X N2 scope cl s0 H0 fp ps) B tg ifs elt g tt te)
  (hy:X.N[i]?=some y:=by rfl) (hl:Loc X.env.scope y:=by first | exact Or.inl rfl | exact Or.inr rfl) (hc:X.calm=true:=by rfl) (hsw:swapsWith (.ListComp elt [⟨tg,iter,ifs,0⟩] scope pos) (some (.Name y py)) spos.line X.env=pure true:=by rfl) (hs:∀x,foldedSetIterable iter X.env x=pure x:=by intro _;rfl)
  (hf:X.fn y=true∨X.env.scope.names.lookup y=some .local:=by first | exact .inl rfl | exact .inr rfl | assumption):PS' X B (.Assign [.Name y py] (.ListComp elt [⟨tg,iter,ifs,0⟩] scope pos) spos) (km (gp nt js wi g tt te) (bw i)):=xE hN hy hl O hc hi b hsw hs hf
end
def ckB(ns sc:List (Str×NameKind))(N:List Str):Bool:=ns.all (fun y=>decide (y.2≠.cell)&&(decide (y.2≠.local)||decide (ns.lookup y.1=some .local)))&&N.all fun x=>decide (ns.lookup x=some .free)&&decide (sc.lookup x=some .cell)
theorem cA{X:Cx}{N2:List Str}{nt:Nat}{js:List Nat}{scope:Scope}{cl:List (Str×Addr)}(st:Stmt)(clos:closureFor scope X.env=pure cl:=by exact rfl)(sub:qt X.env.cells cl:=by repeat (first | exact trivial | refine⟨rfl,?_⟩))(xsc:X.env.scope=aw st:=by rfl)(kind:scope.kind=.function:=by rfl)
  (ck:ckB scope.names (aw st).names (N2.drop nt)=true:=by decide +kernel) (names:cl.map (·.1)=((scope.names.filter (·.2==.free)).map (·.1)).reverse:=by rfl)
  (len:N2.length=nt+js.length:=by rfl) (pl:js.map (fun j=>X.N[j]?)=(N2.drop nt).map some:=by rfl):bz X N2 nt js scope cl (aw st):=by
 unfold ckB at ck;rw[IP,Ib,Ib]at ck;obtain⟨h1,h2⟩:=ck;refine cok clos sub xsc kind (fun y m=>?_) (fun y m e=>?_) names (fun x m=>?_) len pl
 ·have:=h1 y m;rw[IP]at this;exact Jm this.1
 ·have:=h1 y m;rw[IP,Bool.or_eq_true]at this;exact this.2.elim (fun z=>absurd e (Jm z)) Jm
 ·have:=h2 x m;rw[IP]at this;exact⟨Jm this.1,Jm this.2⟩
theorem _root_.L2.bA.mo{j k:Nat}{A:Around}(r:bA k A)(h:j≤k:=by decide):bA j A:=r.mono h
end
section
section
variable {X:Cx}{B:Bs}
def Em(i j:Nat)(ta:TA'):TS':=fun D σ H=>ta σ H fun vs H1=>∃v w,vs=[v,w]/\D.nx ((σ.set i (some v)).set j (some w)) H1
theorem y6{i j:Nat}{x y:Str}{a b:Expr}{ta:TA'}{px py pt pos:Pos}{kt k2 pt2}(hc:X.calm=true)(hN:X.N.Nodup)(hi:X.N[i]?=some x)(hj:X.N[j]?=some y)(hij:i≠j)
  (hx:X.env.scope.names.lookup x=some .local) (hy:X.env.scope.names.lookup y=some .local) (ha:PA' X B [a,b] ta)
  (hw:swappedStores [.Tuple [.Name x px,.Name y py] kt pt] (.Tuple [a,b] k2 pt2) X.env=pure (some [x,y]))
  (hs:swapsWithSole [.Tuple [.Name x px,.Name y py] kt pt] (.Tuple [a,b] k2 pt2) pos.line X.env=pure false:=by rfl) :
  PS' X B (.Assign [.Tuple [.Name x px,.Name y py] kt pt] (.Tuple [a,b] k2 pt2) pos) (Em i j ta):=cz (AN hc hN hi hj hij hx hy ha hw hs) fun D σ H y_=>by
 obtain⟨σ',H',D',s,h,d⟩:=y_;refine⟨σ',H',_,s,h,fun vs' H1' vs H1 h1 r1 s1 e1=>?_⟩;obtain⟨v',w',rfl,h1⟩:=h1;simp only[RPs]at r1;obtain⟨v,_,rfl,rv,w,_,rfl,rw',rfl⟩:=r1;exact⟨v,w,rfl,d.nx _ _ _ _ h1 ((s1.set rv i).set rw' j) e1⟩
def y8:List PV->PHp->VK'->Prop:=fun xs H Q=>match xs with
 | [.int i,.int j]=>Q (.int (if j>i then j else i)) H
 | _=>False
theorem F3:y8 [.int i,.int j] H Q=Q (.int (if j>i then j else i)) H:=rfl
theorem zL{K:PySem.W.Frag}:VC K B y8 (fun xs H Q=>∃i j,xs=[.int i,.int j]/\Q (.int (if j>i then j else i)) H):=by
 intro σ' σ H' H xs' xs Q' Q s r h k;unfold y8 at h;split at h
 ·rename_i i j;simp only[RPs,RP]at r;obtain⟨_,_,rfl,rfl,_,_,rfl,rfl,rfl⟩:=r;exact⟨i,j,rfl,k _ _ _ _ h (by simp[RP]) s (Ev.refl _ _)⟩
 ·exact h.elim
end
end
section
variable {B:Bs}{X:Cx}{a b:Expr}{ta tb:TE'}{pos:Pos}
theorem BE{K:PySem.W.Frag}(r:RPs K H l us)(k:Nat):RPs K H (List.replicate k l).flatten (List.replicate k us).flatten:=by
 induction k with
 | zero=>exact RPs.nil _
 | succ k ih =>
  rw[Jk,Jk,JQ,JQ];exact RPs.append _ r ih
def vi:R2':=fun x y H Q=>match x,y with
 | .ref a,.int k=>∃l,H a=some (.lst l)/\(0≤k/\k≤100)/\l.length≤100/\∀p,H p=none->Q (.ref p) (put H p (.lst (List.replicate k.toNat l).flatten))
 | _,_=>False
theorem Ej{a:Addr}:vi (.ref a) (.int k) H Q=∃l,H a=some (.lst l)/\(0≤k/\k≤100)/\l.length≤100/\∀p,H p=none->Q (.ref p) (put H p (.lst (List.replicate k.toNat l).flatten)):=rfl
theorem zw{K:PySem.W.Frag}:VR K B vi D0:=by
 intro σ' σ H' H x' y' x y Q' Q s rx ry h k;unfold vi at h;split at h
 ·rename_i a n;obtain⟨l,e1,hn,hl,h⟩:=h;simp only[RP]at rx ry;subst rx;subst ry;obtain⟨us,q1,r1⟩:=s.hp _ _ e1;have lu:=RPs.length _ r1;refine⟨a,n,us,rfl,rfl,q1,by omega,by omega,?_,fun p hp=>?_⟩
  ·have:us.length*n.toNat≤100*100:=JP (by omega) (by omega);rw[IA];omega
  ·exact k _ _ _ _ (h p (s.hp.free hp)) (by simp[RP]) (s.new hp (hU hp (BE r1 _))) (Ev.new hp)
 ·exact h.elim
theorem zp(ha:PE' X B a ta)(hb:PE' X B b tb):PE' X B (.BinOp a .Mult b pos) (uOp vi ta tb):=dE Bi zw ha hb
end
end U
namespace L2
variable {X:Cx}
end L2
namespace U
open L2
variable {B:Bs}{X:Cx}{a b o e:Expr}{es:List Expr}{ta tb to:TE'}{t:TA'}{pos apos cpos:Pos}{name:Str}
def Hj:R2':=fun x y H Q=>match x,y with
 | .str z,.int i=>z.length≤sizeLine/\∃c,atI z.cps.toList i=some c/\Q (.str ⟨#[c]⟩) H
 | _,_=>False
def Hi:PV->List PV->PHp->VK'->Prop:=fun x vs H Q=>match x,vs with
 | .str z,[.ref a]=>∃ys:List Str,H a=some (.lst (ys.map PV.str))/\z.length≤16/\(ys.map (·.length)).sum+ys.length≤1048576/\Q (.str (Txt.join z ys)) H
 | _,_=>False
def D6(o i v:PV)(H:PHp)(Q:PHp->Prop):Prop:=match o,i with
 | .ref a,.int k=>∃l j,H a=some (.lst l)/\ixN l.length k=some j/\Q (put H a (.lst (l.set j v)))
 | _,_=>False
theorem EV{a:Addr}:D6 (.ref a) (.int k) v H Q=∃l j,H a=some (.lst l)/\ixN l.length k=some j/\Q (put H a (.lst (l.set j v))):=rfl
def Fp(to ti:TE'):TG':=fun v σ H Q=>to σ H fun o H1=>ti σ H1 fun i H2=>D6 o i v H2 fun H3=>Q σ H3
end U
namespace FM
abbrev Nd:=NK.Nd
inductive F where
 | one
 | seen (ns:List Int)
 | sum (ns:List Int) (f:F)
 | times (a b:F)
 | over (a b:F)
def sz:F->Nat
 | .one=>1
 | .seen _=>1
 | .sum _ f=>sz f+1
 | .times a b=>sz a+sz b+1
 | .over a b=>sz a+sz b+1
def Nm(ns:List Int):Prop:=ns.Pairwise (·<·)/\∀x∈ns,0≤x/\x<6
def Ok:F->Prop
 | .one=>True
 | .seen ns=>Nm ns
 | .sum ns f=>Nm ns/\Ok f
 | .times a b=>Ok a/\Ok b
 | .over a b=>Ok a/\Ok b
def dp:F->Nat
 | .one=>0
 | .seen _=>0
 | .sum _ f=>dp f+1
 | .times a b=>max (dp a) (dp b)+1
 | .over a b=>max (dp a) (dp b)+1
def Op:F->Int->Prop
 | .one,_=>False
 | .seen ns,x=>x∈ns
 | .sum ns f,x=>Op f x/\x∉ns
 | .times a b,x=>Op a x∨Op b x
 | .over a b,x=>Op a x∨Op b x
inductive Den (ks:List Nd):Nat→F→Prop where
 | one {i:Nat} (h:ks[i]?=some (("one":Str),([]:List Int),([]:List Int))):Den ks i .one
 | seen {i:Nat} {ns:List Int} (h:ks[i]?=some (("seen":Str),ns,([]:List Int))):Den ks i (.seen ns)
 | sum {i j:Nat} {ns:List Int} {f:F} (h:ks[i]?=some (("sum":Str),ns,[(j:Int)])) (hj:j<i) (d:Den ks j f):Den ks i (.sum ns f)
 | times {i j k:Nat} {a b:F} (h:ks[i]?=some (("times":Str),([]:List Int),[(j:Int),(k:Int)])) (hj:j<i) (hk:k<i) (d:Den ks j a) (e:Den ks k b):Den ks i (.times a b)
 | over {i j k:Nat} {a b:F} (h:ks[i]?=some (("over":Str),([]:List Int),[(j:Int),(k:Int)])) (hj:j<i) (hk:k<i) (d:Den ks j a) (e:Den ks k b):Den ks i (.over a b)
theorem dY{n m:Nd}{i:Nat}(h:ks[i]?=some m):(ks++[n])[i]?=some m:=by
 rw[Jg (Hs.mp h).1];exact h
theorem Den.app(d:Den ks i f):Den (ks++[n]) i f:=by
 induction d with
 | one h=>exact .one (dY h)
 | seen h=>exact .seen (dY h)
 | sum h hj _ ih=>exact .sum (dY h) hj ih
 | times h hj hk _ _ ih1 ih2=>exact .times (dY h) hj hk ih1 ih2
 | over h hj hk _ _ ih1 ih2=>exact .over (dY h) hj hk ih1 ih2
theorem Den.uniq(d:Den ks i f):∀{g:F},Den ks i g->f=g:=by
 induction d with
 | one h =>
  intro g e;cases e with
  | one _=>rfl
  | seen h2=>rw[h]at h2;exact absurd (congrArg (fun z=>z.map (·.1)) h2) (by simp only[Option.map_some];decide)
  | sum h2=>rw[h]at h2;exact absurd (congrArg (fun z=>z.map (·.1)) h2) (by simp only[Option.map_some];decide)
  | times h2=>rw[h]at h2;exact absurd (congrArg (fun z=>z.map (·.1)) h2) (by simp only[Option.map_some];decide)
  | over h2=>rw[h]at h2;exact absurd (congrArg (fun z=>z.map (·.1)) h2) (by simp only[Option.map_some];decide)
 | seen h =>
  intro g e;cases e with
  | one h2=>rw[h]at h2;exact absurd (congrArg (fun z=>z.map (·.1)) h2) (by simp only[Option.map_some];decide)
  | seen h2=>rw[h]at h2;cases h2;rfl
  | sum h2=>rw[h]at h2;exact absurd (congrArg (fun z=>z.map (·.1)) h2) (by simp only[Option.map_some];decide)
  | times h2=>rw[h]at h2;exact absurd (congrArg (fun z=>z.map (·.1)) h2) (by simp only[Option.map_some];decide)
  | over h2=>rw[h]at h2;exact absurd (congrArg (fun z=>z.map (·.1)) h2) (by simp only[Option.map_some];decide)
 | sum h hj _ ih =>
  intro g e;cases e with
  | one h2=>rw[h]at h2;exact absurd (congrArg (fun z=>z.map (·.1)) h2) (by simp only[Option.map_some];decide)
  | seen h2=>rw[h]at h2;exact absurd (congrArg (fun z=>z.map (·.1)) h2) (by simp only[Option.map_some];decide)
  | sum h2 hj2 d2 =>
   rw[h]at h2;have e1:=congrArg (fun z=>z.map fun(y:Nd)=>y.2.1) h2;have e2:=congrArg (fun z=>z.map fun(y:Nd)=>y.2.2) h2;simp only[Option.map_some,JF,JY,and_true]at e1 e2;have e3:=Jb e2;subst e1;subst e3;rw[ih d2]
  | times h2=>rw[h]at h2;exact absurd (congrArg (fun z=>z.map (·.1)) h2) (by simp only[Option.map_some];decide)
  | over h2=>rw[h]at h2;exact absurd (congrArg (fun z=>z.map (·.1)) h2) (by simp only[Option.map_some];decide)
 | times h hj hk _ _ ih1 ih2 =>
  intro g e;cases e with
  | one h2=>rw[h]at h2;exact absurd (congrArg (fun z=>z.map (·.1)) h2) (by simp only[Option.map_some];decide)
  | seen h2=>rw[h]at h2;exact absurd (congrArg (fun z=>z.map (·.1)) h2) (by simp only[Option.map_some];decide)
  | sum h2=>rw[h]at h2;exact absurd (congrArg (fun z=>z.map (·.1)) h2) (by simp only[Option.map_some];decide)
  | times h2 _ _ d2 d3 =>
   rw[h]at h2;have e2:=congrArg (fun z=>z.map fun(y:Nd)=>y.2.2) h2;simp only[Option.map_some,JF,JY,and_true]at e2;have e3:=Jb e2.1;have e4:=Jb e2.2;subst e3;subst e4;rw[ih1 d2,ih2 d3]
  | over h2=>rw[h]at h2;exact absurd (congrArg (fun z=>z.map (·.1)) h2) (by simp only[Option.map_some];decide)
 | over h hj hk _ _ ih1 ih2 =>
  intro g e;cases e with
  | one h2=>rw[h]at h2;exact absurd (congrArg (fun z=>z.map (·.1)) h2) (by simp only[Option.map_some];decide)
  | seen h2=>rw[h]at h2;exact absurd (congrArg (fun z=>z.map (·.1)) h2) (by simp only[Option.map_some];decide)
  | sum h2=>rw[h]at h2;exact absurd (congrArg (fun z=>z.map (·.1)) h2) (by simp only[Option.map_some];decide)
  | times h2=>rw[h]at h2;exact absurd (congrArg (fun z=>z.map (·.1)) h2) (by simp only[Option.map_some];decide)
  | over h2 _ _ d2 d3 =>
   rw[h]at h2;have e2:=congrArg (fun z=>z.map fun(y:Nd)=>y.2.2) h2;simp only[Option.map_some,JF,JY,and_true]at e2;have e3:=Jb e2.1;have e4:=Jb e2.2;subst e3;subst e4;rw[ih1 d2,ih2 d3]
theorem Den.lt(d:Den ks i f):i<ks.length:=by
 cases d with
 | one h=>exact(Hs.mp h).1
 | seen h=>exact(Hs.mp h).1
 | sum h=>exact(Hs.mp h).1
 | times h=>exact(Hs.mp h).1
 | over h=>exact(Hs.mp h).1
inductive Kid (ks:List Nd):Nd→F→Prop where
 | one:Kid ks (("one":Str),([]:List Int),([]:List Int)) .one
 | seen {ns:List Int}:Kid ks (("seen":Str),ns,([]:List Int)) (.seen ns)
 | sum {j:Nat} {ns:List Int} {f:F} (d:Den ks j f):Kid ks (("sum":Str),ns,[(j:Int)]) (.sum ns f)
 | times {j k:Nat} {a b:F} (d:Den ks j a) (e:Den ks k b):Kid ks (("times":Str),([]:List Int),[(j:Int),(k:Int)]) (.times a b)
 | over {j k:Nat} {a b:F} (d:Den ks j a) (e:Den ks k b):Kid ks (("over":Str),([]:List Int),[(j:Int),(k:Int)]) (.over a b)
theorem Kid.new(k:Kid ks n f):Den (ks++[n]) ks.length f:=by
 have h:(ks++[n])[ks.length]?=some n:=by simp
 cases k with
 | one=>exact .one h
 | seen=>exact .seen h
 | sum d=>exact .sum h d.lt d.app
 | times d e=>exact .times h d.lt e.lt d.app e.app
 | over d e=>exact .over h d.lt e.lt d.app e.app
theorem Kid.old(k:Kid ks n f)(h:ks[i]?=some n)(d:Den ks i g):g=f:=by
 cases k with
 | one =>
  cases d with
  | one _=>rfl
  | seen h2=>rw[h]at h2;exact absurd (congrArg (fun z=>z.map (·.1)) h2) (by simp only[Option.map_some];decide)
  | sum h2=>rw[h]at h2;exact absurd (congrArg (fun z=>z.map (·.1)) h2) (by simp only[Option.map_some];decide)
  | times h2=>rw[h]at h2;exact absurd (congrArg (fun z=>z.map (·.1)) h2) (by simp only[Option.map_some];decide)
  | over h2=>rw[h]at h2;exact absurd (congrArg (fun z=>z.map (·.1)) h2) (by simp only[Option.map_some];decide)
 | seen =>
  cases d with
  | one h2=>rw[h]at h2;exact absurd (congrArg (fun z=>z.map (·.1)) h2) (by simp only[Option.map_some];decide)
  | seen h2 =>
   rw[h]at h2;have e1:=congrArg (fun z=>z.map fun(y:Nd)=>y.2.1) h2;simp only[Option.map_some,JF]at e1;rw[e1]
  | sum h2=>rw[h]at h2;exact absurd (congrArg (fun z=>z.map (·.1)) h2) (by simp only[Option.map_some];decide)
  | times h2=>rw[h]at h2;exact absurd (congrArg (fun z=>z.map (·.1)) h2) (by simp only[Option.map_some];decide)
  | over h2=>rw[h]at h2;exact absurd (congrArg (fun z=>z.map (·.1)) h2) (by simp only[Option.map_some];decide)
 | sum d1 =>
  cases d with
  | one h2=>rw[h]at h2;exact absurd (congrArg (fun z=>z.map (·.1)) h2) (by simp only[Option.map_some];decide)
  | seen h2=>rw[h]at h2;exact absurd (congrArg (fun z=>z.map (·.1)) h2) (by simp only[Option.map_some];decide)
  | sum h2 _ d2 =>
   rw[h]at h2;have e1:=congrArg (fun z=>z.map fun(y:Nd)=>y.2.1) h2;have e2:=congrArg (fun z=>z.map fun(y:Nd)=>y.2.2) h2;simp only[Option.map_some,JF,JY,and_true]at e1 e2;have e3:=Jb e2;subst e1;subst e3;rw[d1.uniq d2]
  | times h2=>rw[h]at h2;exact absurd (congrArg (fun z=>z.map (·.1)) h2) (by simp only[Option.map_some];decide)
  | over h2=>rw[h]at h2;exact absurd (congrArg (fun z=>z.map (·.1)) h2) (by simp only[Option.map_some];decide)
 | times d1 e1 =>
  cases d with
  | one h2=>rw[h]at h2;exact absurd (congrArg (fun z=>z.map (·.1)) h2) (by simp only[Option.map_some];decide)
  | seen h2=>rw[h]at h2;exact absurd (congrArg (fun z=>z.map (·.1)) h2) (by simp only[Option.map_some];decide)
  | sum h2=>rw[h]at h2;exact absurd (congrArg (fun z=>z.map (·.1)) h2) (by simp only[Option.map_some];decide)
  | times h2 _ _ d2 d3 =>
   rw[h]at h2;have e2:=congrArg (fun z=>z.map fun(y:Nd)=>y.2.2) h2;simp only[Option.map_some,JF,JY,and_true]at e2;have e3:=Jb e2.1;have e4:=Jb e2.2;subst e3;subst e4;rw[d1.uniq d2,e1.uniq d3]
  | over h2=>rw[h]at h2;exact absurd (congrArg (fun z=>z.map (·.1)) h2) (by simp only[Option.map_some];decide)
 | over d1 e1 =>
  cases d with
  | one h2=>rw[h]at h2;exact absurd (congrArg (fun z=>z.map (·.1)) h2) (by simp only[Option.map_some];decide)
  | seen h2=>rw[h]at h2;exact absurd (congrArg (fun z=>z.map (·.1)) h2) (by simp only[Option.map_some];decide)
  | sum h2=>rw[h]at h2;exact absurd (congrArg (fun z=>z.map (·.1)) h2) (by simp only[Option.map_some];decide)
  | times h2=>rw[h]at h2;exact absurd (congrArg (fun z=>z.map (·.1)) h2) (by simp only[Option.map_some];decide)
  | over h2 _ _ d2 d3 =>
   rw[h]at h2;have e2:=congrArg (fun z=>z.map fun(y:Nd)=>y.2.2) h2;simp only[Option.map_some,JF,JY,and_true]at e2;have e3:=Jb e2.1;have e4:=Jb e2.2;subst e3;subst e4;rw[d1.uniq d2,e1.uniq d3]
def All(N:Nat)(ks:List Nd):Prop:=∀i,i<ks.length->∃g,Den ks i g/\sz g<N/\Ok g
theorem All.up(h:All N ks)(l:N≤M):All M ks:=fun i hi=>by
 obtain⟨g,d,z,o⟩:=h i hi;exact⟨g,d,Ic z l,o⟩
structure Laid (f:F) (ks:List Nd) (i:Nat) (ks':List Nd):Prop where
 den:Den ks' i f
 keep:∀j g,Den ks j g->Den ks' j g
 all:∀N,All N ks->sz f<N->All N ks'
 len:ks'.length≤ks.length+sz f
 last:All (sz f) ks->i+1=ks'.length
theorem Laid.there(k:Kid ks2 n f)(keep:∀j g,Den ks j g->Den ks2 j g)(all:∀N,All N ks->sz f≤N->All N ks2)(len:ks2.length+1≤ks.length+sz f)(ok:All N ks)(h:ks2[i]?=some n):Laid f ks i ks2:=by
 have hi:i<ks2.length:=(Hs.mp h).1;obtain⟨g,d,_⟩:=all (N+sz f) (ok.up (by omega)) (by omega) i hi;have e:=k.old h d;subst e;refine⟨d,keep,fun M a z=>all M a (by omega),by omega,fun a=>?_⟩;obtain⟨g2,d2,z2,_⟩:=all _ a (Hr _) i hi;rw[d.uniq d2]at z2;omega
theorem Laid.fresh(ok:Ok f)(k:Kid ks2 n f)(keep:∀j g,Den ks j g->Den ks2 j g)(all:∀N,All N ks->sz f≤N->All N ks2)(len:ks2.length+1≤ks.length+sz f):Laid f ks ks2.length (ks2++[n]):=by
 refine⟨k.new,fun j g d=>(keep j g d).app,fun M a z i hi=>?_,by rw[HN,IY];omega,fun _=>by rw[HN,IY]⟩;rw[HN,IY]at hi;by_cases e:i<ks2.length
 ·obtain⟨g,d,z2⟩:=all M a (by omega) i e;exact⟨g,d.app,z2⟩
 ·have:i=ks2.length:=by omega
  subst this;exact⟨f,k.new,z,ok⟩
def bW(ks:List Nd)(os:List (List Int)):Prop:=∀i ms,os[i]?=some ms->∃g,Den ks i g/\ms.Pairwise (·<·)/\∀x,x∈ms↔Op g x
theorem bW.step{os:List (List Int)}(h:bW ks os)(d:Den ks os.length g)(up:ms.Pairwise (·<·))(iff:∀x,x∈ms↔Op g x):bW ks (os++[ms]):=by
 intro i ns hi;rw[List.getElem?_append]at hi;by_cases e:i<os.length
 ·rw[HP e]at hi;exact h i ns hi
 ·rw[HM e]at hi;cases q:i - os.length with
  | zero =>
   rw[q]at hi;have e1:i=os.length:=by omega
   have e2:ms=ns:=by simpa using hi
   subst e1;subst e2;exact⟨g,d,up,iff⟩
  | succ j=>rw[q]at hi;simp at hi
theorem bW.at{os:List (List Int)}(h:bW ks os)(hi:os[i]?=some ms)(d:Den ks i g):ms.Pairwise (·<·)/\∀x,x∈ms↔Op g x:=by
 obtain⟨g',d',up,iff⟩:=h i ms hi;rw[d'.uniq d]at iff;exact⟨up,iff⟩
end FM
namespace My
def gd(a b:Int):Int:=(Int.gcd a b:Nat)
theorem oz(a:Int):gd a 0=if a<0 then -a else a:=by
 unfold gd;rw[Int.gcd_zero_right];split<;>omega
theorem zM(a b:Int):gd (if a<0 then -a else a) (if b<0 then -b else b)=gd a b:=by
 unfold gd;have h:∀x:Int,(if x<0 then -x else x)=(x.natAbs:Int):=fun x=>by split<;>omega
 rw[h,h];simp[Int.gcd]
theorem vh(a b:Int):gd b (Int.fmod a b)=gd a b:=by
 unfold gd;congr 1;apply Nat.dvd_antisymm
 ·apply Int.dvd_gcd
  ·have h1:=Int.gcd_dvd_left b (a.fmod b);have h2:=Kc b (a.fmod b);have e:a=b*a.fdiv b+a.fmod b:=by rw[Int.fmod_def];omega
   have h3:((b.gcd (a.fmod b):Nat):Int) ∣ b*a.fdiv b+a.fmod b:=Int.dvd_add (Int.dvd_mul_of_dvd_left h1) h2;rw[←e]at h3;exact h3
  ·exact Int.gcd_dvd_left b (a.fmod b)
 ·apply Int.dvd_gcd
  ·exact Kc a b
  ·have h1:=Int.gcd_dvd_left a b;have h2:=Kc a b;rw[Int.fmod_def];exact Int.dvd_sub h1 (Int.dvd_mul_of_dvd_left h2)
theorem jJ(a b:Int)(h:b≠0):0<gd a b:=by
 unfold gd;have:0<a.gcd b:=Int.gcd_pos_iff.mpr (Or.inr h);omega
theorem qK(a b:Int):gd a b ∣ a:=Int.gcd_dvd_left a b
theorem qA(a b:Int):gd a b ∣ b:=Kc a b
theorem D4(a b:Int)(h:b≠0):gd a b≤if b<0 then -b else b:=by
 have d:=qA a b;have:gd a b ∣ (if b<0 then -b else b):=by
  split
  ·exact Int.dvd_neg.mpr d
  ·exact d
 exact Int.le_of_dvd (by split<;>omega) this
theorem mS(h:gd a b=gd c d)(p:0≤b)(z:b≠0):0≤b/\0≤Int.fmod a b/\gd b (Int.fmod a b)=gd c d :=
 ⟨p,Int.fmod_nonneg_of_pos a (by omega),(vh a b).trans h⟩
theorem DQ(h:gd a b=gd c d)(h0:0≤a)(z:b=0):a=gd c d:=by
 subst z;rw[←h,oz,HM (by omega)]
theorem jX(a b:Int):0<b->0<gd a b/\gd a b≤b:=fun h=>by
 have:=D4 a b (by omega);rw[HM (by omega)]at this;exact⟨jJ a b (by omega),this⟩
theorem zg(hg:g≠0)(d:g ∣ a):a=g*Int.fdiv a g:=by
 rw[Int.fdiv_eq_ediv_of_dvd d];exact(Int.mul_ediv_cancel' d).symm
end My
namespace My
open U
theorem lp(a b:Int)(h:b≠0):(a.fmod b).natAbs<b.natAbs:=by
 rcases (show 0<b∨b<0 by omega)with hb | hb
 ·have h1:=Int.fmod_nonneg_of_pos a hb;have h2:=Int.fmod_lt_of_pos a hb;omega
 ·have e:a.fmod b=-((-a).fmod (-b)):=by rw[Int.neg_fmod_neg];omega
  have h1:=Int.fmod_nonneg_of_pos (-a) (show 0 < -b by omega);have h2:=Int.fmod_lt_of_pos (-a) (show 0 < -b by omega);omega
def BN(n:Nat)(i:Int):Prop:=i.natAbs<2 ^ n
theorem BN.fit(h:BN n i)(hn:n≤9000):Fit i:=by
 unfold Fit;unfold BN at h;rcases Nat.eq_zero_or_pos i.natAbs with h0 | hp
 ·rw[h0,Nat.log2_zero];omega
 ·have:=(Nat.log2_lt (Jp hp)).mpr h;omega
theorem BN.mul(h:BN n i)(g:BN m j):BN (n+m) (i*j):=by
 unfold BN at *;rw[Int.natAbs_mul,Kd];exact Nat.mul_lt_mul'' h g
theorem BN.mono(h:BN n i)(k:n≤m):BN m i:=Ic h (IK (by decide) k)
def num(c:Int):Int:=if c.fmod 4=0 then(c.fdiv 4*982451653).fmod (2*10 ^ 60 - 1) - 10 ^ 60+1 else if c.fmod 4=1 then(c.fdiv 4).fmod 2001 - 1000 else(c.fdiv 4).fmod 25 - 12
end My
namespace WM
open FM
def rp(q:Rat):Int×Int:=(q.num,(q.den:Int))
def aZ:List Rat->Rat
 | []=>0
 | q::l=>q+aZ l
theorem AZ(hb:0<b):(a.fdiv (My.gd a b),b.fdiv (My.gd a b))=rp (Rat.divInt a b):=by
 unfold rp;rw[Rat.num_divInt,Rat.den_divInt,HM (by omega)];have hg:0<My.gd a b:=My.jJ a b (by omega);have e:My.gd a b=((Int.gcd b a:Nat):Int):=by unfold My.gd;rw[Int.gcd_comm]
 rw[JB _ (by omega),JB _ (by omega),e,Int.sign_eq_one_of_pos hb,Int.one_mul];congr 1;rw[Int.natCast_ediv,Int.natAbs_of_nonneg (by omega)]
theorem zt(q:Rat):q=(q.num:Rat) / ((q.den:Int):Rat):=by
 rw[←Rat.divInt_eq_div];exact(Rat.num_divInt_den q).symm
theorem den_pos(q:Rat):0<(q.den:Int):=by have:=q.den_nz;omega
theorem yE(q:Rat):((q.den:Int):Rat)≠0:=fun h=>by
 have:=Rat.intCast_eq_zero_iff.mp h;have:=den_pos q;omega
theorem vk(q:Rat):q*((q.den:Int):Rat)=(q.num:Rat):=by
 have:=zt q;have h:(q.num:Rat) / ((q.den:Int):Rat)*((q.den:Int):Rat)=(q.num:Rat):=Rat.div_mul_cancel (yE q);rw[←this]at h;exact h
theorem vq(hd:(q.den:Int) ∣ B):((q.num*B.fdiv q.den:Int):Rat)=q*(B:Rat):=by
 obtain⟨k,rfl⟩:=hd;have e:((q.den:Int)*k).fdiv q.den=k:=by rw[Int.mul_comm];exact Int.mul_fdiv_cancel _ (by have:=den_pos q;omega)
 rw[e,Rat.intCast_mul,Rat.intCast_mul,← Rat.mul_assoc,vk]
theorem lV{B:Int}:∀{qs:List Rat},(∀q∈qs,(q.den:Int) ∣ B)->(((qs.map fun q=>q.num*B.fdiv q.den).sum:Int):Rat)=aZ qs*(B:Rat)
 | [],_=>by simp[aZ]
 | q::qs,h=>by
  rw[HV,List.sum_cons,Rat.intCast_add,vq (h q HL),lV fun x hx=>h x (HH _ hx)];show _=(q+aZ qs)*(B:Rat);rw[Rat.add_mul]
theorem jk(hB:0<B)(h:∀q∈qs,(q.den:Int) ∣ B):Rat.divInt ((qs.map fun q=>q.num*B.fdiv q.den).sum) B=aZ qs:=by
 have hb:(B:Rat)≠0:=fun e=>by have:=Rat.intCast_eq_zero_iff.mp e;omega
 rw[Rat.divInt_eq_div,lV h];exact Rat.mul_div_cancel hb
theorem cI(a b:Rat):Rat.divInt (a.num*b.num) (a.den*b.den)=a*b:=by
 rw[Rat.mul_def',← Rat.divInt_ofNat];congr 1
theorem eE(a b:Rat):Rat.divInt (a.num*b.den) (a.den*b.num)=a / b:=by
 rw[Rat.div_def,Rat.inv_def]
 conv=>rhs;rw[←Rat.num_divInt_den a]
 rw[Rat.divInt_mul_divInt]
theorem sX(a b:Rat):Rat.divInt (a.num*b.den+b.num*a.den) (a.den*b.den)=a+b:=by
 rw[Rat.add_def',← Rat.divInt_ofNat];congr 1
theorem lN:∀{l m:List Rat},aZ (l++m)=aZ l+aZ m
 | [],m=>by show aZ m=0+aZ m;rw[Rat.zero_add]
 | q::l,m=>by show q+aZ (l++m)=q+aZ l+aZ m;rw[lN,Rat.add_assoc]
theorem c9:∀{l:List Rat},l≠[]->(∀q∈l,0<q)->0<aZ l
 | [],h,_=>absurd rfl h
 | [q],_,h=>by show 0<q+0;rw[Rat.add_zero];exact h q HL
 | q::r::l,_,h=>by
  have h1:=h q HL;have h2:=c9 (l:=r::l) (by simp) fun x hx=>h x (HH _ hx);show 0<q+aZ (r::l);have:=(Rat.add_lt_add_left (c:=q)).mpr h2;rw[Rat.add_zero]at this;exact Rat.lt_iff_le_and_ne.mpr ⟨Rat.le_trans (JL h1) (JL this),fun e=>by rw[←e]at this;exact Rat.lt_irrefl (Rat.lt_iff_le_and_ne.mpr ⟨Rat.le_trans (JL h1) (Rat.le_refl),fun z=>by rw[←z]at h1;exact Rat.lt_irrefl h1⟩ |> fun t=>by
   have hq:q<0:=this;have:(0:Rat)<0:=by
    have a:=JL h1;have b:=JL hq;have c:=Rat.le_antisymm a b;rw[←c]at h1;exact h1
   exact this)⟩
end WM
namespace WM
open FM
def eI(told:List (List Int))(n:Int):List (List Int):=told.flatMap fun u=>(List.range n.toNat).map fun k:Nat=>u++[(k:Int)]
def wys(ns:List Int):List (List Int):=ns.foldl eI [[]]
theorem snoc_ind{α:Type}{P:List α->Prop}(h0:P [])(h1:∀l x,P l->P (l++[x])):∀l,P l:=fun l=>by
 have:∀n (l:List α),l.length=n->P l:=fun n=>by
  induction n with
  | zero=>intro l e;rw[Jz.mp e];exact h0
  | succ n ih =>
   intro l e;have hn:l≠[]:=fun z=>by rw[z]at e;cases e
   rw[←List.dropLast_concat_getLast hn];exact h1 _ _ (ih _ (by rw[JN,e];rfl))
 exact this _ l rfl
theorem cv:wys (ns++[n])=eI (wys ns) n:=by unfold wys;rw[List.foldl_append];rfl
def Rg(ns u:List Int):Prop:=u.length=ns.length/\∀k:Nat,k<ns.length->0≤u.getD k 0/\u.getD k 0<ns.getD k 0
theorem bq{x:Int}{k:Nat}(h:k<l.length):(l++[x]).getD k 0=l.getD k 0:=by
 rw[Hq,Hq,Jg h]
theorem getD_snoc{x:Int}:(l++[x]).getD l.length 0=x:=by
 rw[Hq,JC (Hr _)];simp
theorem bc:∀ns u,u∈wys ns↔Rg ns u:=by
 refine snoc_ind (fun u=>?_) (fun ns n ih u=>?_)
 ·constructor
  ·intro h;have:u=[]:=by simpa[wys]using h
   subst this;exact⟨rfl,fun k h=>by cases h⟩
  ·intro h;have:u=[]:=Jz.mp h.1;subst this;simp[wys]
 ·rw[cv];unfold eI;rw[List.mem_flatMap];constructor
  ·rintro⟨v,hv,hu⟩;obtain⟨k,hk,rfl⟩:=Hw.mp hu;have hk:=IJ.mp hk;obtain⟨h1,h2⟩:=(ih v).mp hv;refine⟨by simp[h1],fun j hj=>?_⟩;rw[HN,IY]at hj;by_cases e:j<ns.length
   ·rw[bq (by omega),bq e];exact h2 j e
   ·have ej:j=ns.length:=by omega
    subst ej;have e1:(v++[(k:Int)]).getD ns.length 0=k:=by rw[←h1];exact getD_snoc
    rw[e1,getD_snoc];omega
  ·rintro⟨h1,h2⟩;rw[HN,IY]at h1;have hn:u≠[]:=fun z=>by rw[z]at h1;simp at h1
   have eu:=List.dropLast_concat_getLast hn;have ld:u.dropLast.length=ns.length:=by rw[JN,h1];rfl
   have hl:=h2 ns.length (by simp);have el:u.getD ns.length 0=u.getLast hn:=by
    conv=>lhs;rw[←eu]
    rw[←ld];exact getD_snoc
   rw[el,getD_snoc]at hl;refine⟨u.dropLast,(ih _).mpr ⟨ld,fun k hk=>?_⟩,Hw.mpr ⟨(u.getLast hn).toNat,IJ.mpr (by omega),?_⟩⟩
   ·have:=h2 k (by simp;omega);rw[bq hk]at this;have e2:u.getD k 0=u.dropLast.getD k 0:=by
     conv=>lhs;rw[←eu]
     exact bq (by omega)
    rw[←e2];exact this
   ·rw[Int.toNat_of_nonneg hl.1];exact eu
theorem me(h:∀n∈ns,1≤n):wys ns≠[]:=by
 have:∀ns:List Int,(∀n∈ns,1≤n)->wys ns≠[]:=by
  refine snoc_ind (fun _=>by simp[wys]) (fun l n ih h=>?_);have a:=ih fun x hx=>h x (JM _ hx);have b:=h n (IC _ HL);rw[cv];unfold eI;intro z;rw[List.flatMap_eq_nil_iff]at z;cases hw:wys l with
  | nil=>exact a hw
  | cons u r =>
   have:=z u (by rw[hw];exact HL);rw[List.map_eq_nil_iff,List.range_eq_nil]at this;omega
 exact this ns h
abbrev Env:=Int->Int
def szN(ns:List Int)(n:Int):Int:=ns.getD n.toNat 0
def ag(a:List Int)(v:Env)(w:List Int):Bool:=a.all fun n=>decide (w.getD n.toNat 0=v n)
def up:Env->List Int->List Int->Env
 | v,n::ns,u::us=>up (fun x=>if x=n then u else v x) ns us
 | v,_,_=>v
def val(ns:List Int)(T:List Int->Rat):F->Env->Rat
 | .one,_=>1
 | .seen a,v=>aZ (((wys ns).filter (ag a v)).map T)
 | .sum a f,v=>aZ ((wys (a.map (szN ns))).map fun u=>val ns T f (up v a u))
 | .times f g,v=>val ns T f v*val ns T g v
 | .over f g,v=>val ns T f v / val ns T g v
theorem fE:∀{u:List Int} {v:Env} {x:Int},x∉a->up v a u x=v x:=by
 induction a with
 | nil=>intro u v x _;rfl
 | cons n a ih =>
  intro u v x h;cases u with
  | nil=>rfl
  | cons b u =>
   show up (fun y=>if y=n then b else v y) a u x=v x;rw[ih (fun z=>h (HH _ z))];exact HM fun z=>h (by rw[z];exact HL)
theorem rJ:∀{u:List Int} {v v':Env} {x:Int},u.length=a.length->(x∉a->v x=v' x)->up v a u x=up v' a u x:=by
 induction a with
 | nil=>intro u v v' x _ h;cases u<;>exact h (by simp)
 | cons n a ih =>
  intro u v v' x hl h;cases u with
  | nil=>cases hl
  | cons b u =>
   refine ih (J1 hl) fun hx=>?_;by_cases e:x=n
   ·rw[HP e,HP e]
   ·rw[HM e,HM e];exact h fun z=>(Hy.mp z).elim e hx
theorem val_congr{ns:List Int}{T:List Int->Rat}:∀{f:F} {v v':Env},(∀x,Op f x->v x=v' x)->val ns T f v=val ns T f v'
 | .one,_,_,_=>rfl
 | .seen a,v,v',h=>by
  unfold val;congr 2;refine List.filter_congr fun w _=>?_;unfold ag;rw[Kb,Ib,Ib];constructor
  ·intro q n hn;rw[←h n hn];exact q n hn
  ·intro q n hn;rw[h n hn];exact q n hn
 | .sum a f,v,v',h=>by
  unfold val;congr 1;refine Ie fun u hu=>?_;have hl:=((bc _ _).mp hu).1;rw[Hm]at hl;exact val_congr fun x hx=>rJ hl fun hn=>h x ⟨hx,hn⟩
 | .times f g,v,v',h=>by
  unfold val;rw[val_congr (f:=f) fun x hx=>h x (.inl hx),val_congr (f:=g) fun x hx=>h x (.inr hx)]
 | .over f g,v,v',h=>by
  unfold val;rw[val_congr (f:=f) fun x hx=>h x (.inl hx),val_congr (f:=g) fun x hx=>h x (.inr hx)]
structure Wd (ns:List Int) (T:List Int→Rat):Prop where
 n1:∀n∈ns,1≤n
 pos:∀w∈wys ns,0<T w
def In(m:Nat):F->Prop
 | .one=>True
 | .seen a=>∀n∈a,0≤n/\n<m
 | .sum a f=>(∀n∈a,0≤n/\n<m)/\In m f
 | .times f g=>In m f/\In m g
 | .over f g=>In m f/\In m g
def VR(ns:List Int)(v:Env):Prop:=∀n:Int,0≤n->n<ns.length->0≤v n/\v n<szN ns n
def wOf(ns:List Int)(v:Env):List Int:=(List.range ns.length).map fun k:Nat=>v (k:Int)
theorem gQ(h0:0≤n)(h1:n<ns.length):(wOf ns v).getD n.toNat 0=v n:=by
 unfold wOf;rw[Hq,Ht,List.getElem?_range (by omega)];show v ((n.toNat:Nat):Int)=v n;rw[Int.toNat_of_nonneg h0]
theorem ko(h:VR ns v):wOf ns v∈wys ns:=by
 refine(bc _ _).mpr ⟨by unfold wOf;simp,fun k hk=>?_⟩;have a:=h (k:Int) (by omega) (by omega);have b:=gQ (ns:=ns) (v:=v) (n:=(k:Int)) (by omega) (by omega);rw[Int.toNat_natCast]at b;unfold szN at a;rw[Int.toNat_natCast]at a;rw[b];exact a
theorem VR.up{ns:List Int}:∀{a u:List Int} {v:Env},VR ns v->(∀n∈a,0≤n/\n<ns.length)->Rg (a.map (szN ns)) u->VR ns (up v a u)
 | [],u,v,h,_,_=>by cases u<;>exact h
 | n::a,[],v,h,_,r=>by have:=r.1;simp at this
 | n::a,b::u,v,h,hn,r=>by
  refine VR.up (v:=fun x=>if x=n then b else v x) ?_ (fun x hx=>hn x (HH _ hx)) ⟨J1 r.1,fun k hk=>?_⟩
  ·intro x h0 h1;show 0≤(if x=n then b else v x)/\(if x=n then b else v x)<szN ns x;by_cases e:x=n
   ·rw[HP e,e];have:=r.2 0 (by simp);simpa using this
   ·rw[HM e];exact h x h0 h1
  ·have:=r.2 (k+1) (by rw[Hm]at hk ⊢;simp;exact hk);simpa using this
theorem bx{ns:List Int}{T:List Int->Rat}(W:Wd ns T):∀{f:F} {v:Env},In ns.length f->VR ns v->0<val ns T f v
 | .one,_,_,_=>by show(0:Rat)<1;decide
 | .seen a,v,hi,hv=>by
  unfold val;refine c9 ?_ fun q hq=>?_
  ·intro z;have z:=List.map_eq_nil_iff.mp z;have:wOf ns v∈(wys ns).filter (ag a v):=I0.mpr ⟨ko hv,by
    unfold ag;rw[Ib];intro n hn;obtain⟨h0,h1⟩:=hi n hn;exact ID (gQ h0 (by omega))⟩
   rw[z]at this;cases this
  ·obtain⟨w,hw,rfl⟩:=Hw.mp hq;exact W.pos w (I0.mp hw).1
 | .sum a f,v,hi,hv=>by
  unfold val;refine c9 ?_ fun q hq=>?_
  ·intro z;refine me (ns:=a.map (szN ns)) (fun n hn=>?_) (List.map_eq_nil_iff.mp z);obtain⟨x,hx,rfl⟩:=Hw.mp hn;obtain⟨h0,h1⟩:=hi.1 x hx;refine W.n1 _ ?_;unfold szN;rw[Hq,Hn (by omega)];exact IH _
  ·obtain⟨u,hu,rfl⟩:=Hw.mp hq;exact bx W hi.2 (hv.up (fun n hn=>by obtain⟨h0,h1⟩:=hi.1 n hn;exact⟨h0,by omega⟩) ((bc _ _).mp hu))
 | .times f g,v,hi,hv=>Rat.mul_pos (bx W hi.1 hv) (bx W hi.2 hv)
 | .over f g,v,hi,hv=>by
  unfold val;rw[Rat.div_def];exact Rat.mul_pos (bx W hi.1 hv) (Rat.inv_pos.mpr (bx W hi.2 hv))
end WM
namespace WM
open FM
def pr:List Int->Nat
 | []=>1
 | n::l=>n.toNat*pr l
theorem oE{n:Int}:∀{l:List Int},pr (l++[n])=pr l*n.toNat
 | []=>by simp[pr]
 | m::l=>by show m.toNat*pr (l++[n])=m.toNat*pr l*n.toNat;rw[oE,Nat.mul_assoc]
theorem nX:∀ns,(wys ns).length=pr ns:=by
 refine snoc_ind rfl (fun l n ih=>?_);rw[cv,oE,← ih];unfold eI;rw[List.length_flatMap];have e:((wys l).map fun u=>((List.range n.toNat).map fun k:Nat=>u++[(k:Int)]).length)=(wys l).map fun _=>n.toNat:=Ie fun u _=>by simp
 rw[e]
 induction wys l with
 | nil=>simp
 | cons u r ih=>rw[HV,List.sum_cons,ih,Ig,Nat.succ_mul,Nat.add_comm]
theorem zY(s:a.Sublist b)(h:∀n∈b,1≤n):pr a≤pr b:=by
 induction s with
 | slnil=>exact Hr _
 | cons x s ih =>
  have b:=h x HL;exact HZ (ih fun y hy=>h y (HH _ hy)) (Nat.le_mul_of_pos_left _ (by omega))
 | cons_cons x s ih=>exact Nat.mul_le_mul_left _ (ih fun y hy=>h y (HH _ hy))
theorem md:∀(l:List Int) (k:Int) (a:List Int),a.Pairwise (·<·)->(∀n∈a,k≤n/\n<k+l.length)->(a.map fun n=>l.getD (n - k).toNat 0).Sublist l
 | l,k,[],_,_=>List.nil_sublist _
 | [],k,n::a,_,h=>by have:=h n HL;simp at this;omega
 | x::l,k,n::a,hp,h=>by
  have hn:=h n HL;rw[List.pairwise_cons]at hp;have tl:∀m:Int,k+1≤m->(x::l).getD (m - k).toNat 0=l.getD (m - (k+1)).toNat 0:=fun m hm=>by
   have:(m - k).toNat=(m - (k+1)).toNat+1:=by omega
   rw[this];simp
  have h':∀m∈n::a,m<(k+1)+l.length:=fun m hm=>by have:=(h m hm).2;rw[Ig]at this;omega
  by_cases e:n=k
  ·rw[HV];have e0:(x::l).getD (n - k).toNat 0=x:=by
    have:(n - k).toNat=0:=by omega
    rw[this];rfl
   rw[e0];refine List.Sublist.cons_cons x ?_;have em:(a.map fun n=>(x::l).getD (n - k).toNat 0)=a.map fun n=>l.getD (n - (k+1)).toNat 0:=Ie fun m hm=>tl m (by have:=hp.1 m hm;omega);rw[em];exact md l (k+1) a hp.2 fun m hm=>⟨by have:=hp.1 m hm;omega,h' m (HH _ hm)⟩
  ·refine List.Sublist.cons x ?_;have lo:∀m∈n::a,k+1≤m:=fun m hm=>by
    rcases Hy.mp hm with rfl | hm
    ·omega
    ·have:=hp.1 m hm;omega
   have em:((n::a).map fun n=>(x::l).getD (n - k).toNat 0)=(n::a).map fun n=>l.getD (n - (k+1)).toNat 0:=Ie fun m hm=>tl m (lo m hm);rw[em];exact md l (k+1) (n::a) (List.pairwise_cons.mpr hp) fun m hm=>⟨lo m hm,h' m hm⟩
theorem dr{ns a:List Int}(h1:∀n∈ns,1≤n)(hp:a.Pairwise (·<·))(h:∀n∈a,0≤n/\n<ns.length):(wys (a.map (szN ns))).length≤(wys ns).length:=by
 rw[nX,nX];refine zY ?_ h1;have:=md ns 0 a hp fun n hn=>⟨(h n hn).1,by have:=(h n hn).2;omega⟩;have e:(a.map fun n=>ns.getD (n - 0).toNat 0)=a.map (szN ns):=Ie fun n _=>by unfold szN;rw[Int.sub_zero]
 rw[e]at this;exact this
def eG:List Nat->Nat
 | []=>1
 | n::l=>n*eG l
theorem eD{p:Nat}:∀{l:List Nat},(∀n∈l,n≤2 ^ p)->eG l≤2 ^ (p*l.length)
 | [],_=>Hr _
 | n::l,h=>by
  have a:=h n HL;have b:=eD (l:=l) fun x hx=>h x (HH _ hx);rw[Ig,Nat.mul_succ,Nat.add_comm,Kd];exact JP a b
theorem dh:∀{l:List Nat},(∀n∈l,0<n)->0<eG l
 | [],_=>by decide
 | n::l,h=>Nat.mul_pos (h n HL) (dh fun x hx=>h x (HH _ hx))
theorem dA{n:Nat}:∀{l:List Nat},n∈l->n ∣ eG l
 | m::l,h=>by
  rcases Hy.mp h with rfl | h
  ·exact Nat.dvd_mul_right _ _
  ·exact Nat.dvd_trans (dA h) (Nat.dvd_mul_left _ _)
theorem eh(hb:0<b):((Rat.divInt a b).den:Int) ∣ b:=by
 rw[Rat.den_divInt,HM (by omega)];have:(Int.gcd b a) ∣ b.natAbs:=Int.gcd_dvd_natAbs_left b a;obtain⟨k,hk⟩:=this;have hg:0<Int.gcd b a:=Int.gcd_pos_of_ne_zero_left _ (by omega);have e:b.natAbs / Int.gcd b a=k:=by rw[hk];exact Nat.mul_div_cancel_left _ hg
 rw[e];refine⟨(Int.gcd b a:Nat),?_⟩;have hb':b=(b.natAbs:Int):=by omega
 rw[hb',← Int.natCast_mul];congr 1;rw[←hb',hk,Nat.mul_comm]
theorem rg:∀{l:List Rat},0<C->(∀q∈l,q.den ∣ C)->(aZ l).den ∣ C:=fun {l} hC h=>by
 have e:=jk (B:=(C:Int)) (qs:=l) (by omega) fun q hq=>JU.mpr (h q hq);rw[←e];exact JU.mp (eh (by omega))
theorem nS{p:Nat}:∀{l:List Rat},(∀q∈l,q≤(p:Rat))->aZ l≤((l.length*p:Nat):Rat)
 | [],_=>by simp[aZ]
 | q::l,h=>by
  have a:=h q HL;have b:=nS (l:=l) fun x hx=>h x (HH _ hx);show q+aZ l≤_;rw[Ig,Nat.succ_mul,Rat.natCast_add];refine Rat.le_trans (Rat.add_le_add_right.mpr a) ?_;rw[Rat.add_comm ((l.length*p:Nat):Rat)];exact Rat.add_le_add_left.mpr b
theorem BX(h:0<q):q≤(q.num.natAbs:Rat):=by
 have hn:0<q.num:=by
  have:=Rat.num_nonneg.mpr (JL h);have h2:q.num≠0:=fun z=>by have:=Rat.num_eq_zero.mp z;rw[this]at h;exact Rat.lt_irrefl h
  omega
 rw[Rat.le_iff];have hd:=den_pos q;simp only[Rat.num_natCast,Rat.den_natCast];rw[Int.natAbs_of_nonneg (by omega)];have:q.num*1≤q.num*(q.den:Int):=Int.mul_le_mul_of_nonneg_left (by omega) (by omega);simpa using this
theorem Bx{p d:Nat}(h:0<q)(hq:q≤(p:Rat))(hd:q.den≤d):q.num.natAbs≤p*d:=by
 rw[Rat.le_iff]at hq;simp only[Rat.num_natCast,Rat.den_natCast]at hq;have hn:0≤q.num:=Rat.num_nonneg.mpr (JL h);have a:q.num≤(p:Int)*(q.den:Int):=by simpa using hq
 have b:(p:Int)*(q.den:Int)≤(p:Int)*(d:Int):=Int.mul_le_mul_of_nonneg_left (by omega) (by omega);have c:q.num≤((p*d:Nat):Int):=by rw[Int.natCast_mul];omega
 omega
theorem d6{m:Nat}:∀{f:F} {x:Int},In m f->Op f x->0≤x/\x<m
 | .seen a,x,h,o=>h x o
 | .sum a f,x,h,o=>d6 h.2 o.1
 | .times f g,x,h,o=>o.elim (d6 h.1) (d6 h.2)
 | .over f g,x,h,o=>o.elim (d6 h.1) (d6 h.2)
theorem uL(ig:In ns.length g):val ns T g (fun n=>(wOf ns v).getD n.toNat 0)=val ns T g v :=
 val_congr fun x hx=>by
  obtain⟨h0,h1⟩:=d6 ig hx;exact gQ h0 h1
theorem m7(h:w∈wys ns):VR ns (fun n=>w.getD n.toNat 0):=fun n h0 h1=>by
 have:=((bc _ _).mp h).2 n.toNat (by omega);exact this
structure Bd (ns:List Int) (T:List Int→Rat) (f:F) (p q c:Nat):Prop where
 num:∀v,VR ns v->(val ns T f v).num.natAbs≤2 ^ p
 den:∀v,VR ns v->(val ns T f v).den≤2 ^ q
 cm:∃C:Nat,0<C/\C≤2 ^ c/\∀v,VR ns v->(val ns T f v).den ∣ C
theorem Bd.mono(b:Bd ns T f p q c)(hp:p≤p')(hq:q≤q')(hc:c≤c'):Bd ns T f p' q' c':=by
 obtain⟨C,c1,c2,c3⟩:=b.cm;exact⟨fun v hv=>HZ (b.num v hv) (IK (by decide) hp),fun v hv=>HZ (b.den v hv) (IK (by decide) hq),C,c1,HZ c2 (IK (by decide) hc),c3⟩
section
variable {ns:List Int}{T:List Int->Rat}(W:Wd ns T)(h8:(wys ns).length≤8)
include W h8
theorem mX(hl:l≠[])(l8:l.length≤8)(hpos:∀q∈l,0<q)(hn:∀q∈l,q.num.natAbs≤2 ^ p)(c1:0<C)(c2:C≤2 ^ c)(hd:∀q∈l,q.den ∣ C) :
  (aZ l).num.natAbs≤2 ^ (p+3+c)/\(aZ l).den≤2 ^ c/\(aZ l).den ∣ C:=by
 have a:=rg c1 hd;have b:=Nat.le_of_dvd c1 a;have e:=nS (p:=2 ^ p) (l:=l) fun q hq=>Rat.le_trans (BX (hpos q hq)) (Rat.natCast_le_natCast.mpr (hn q hq));have d:=Bx (c9 hl hpos) e b;refine⟨?_,HZ b c2,a⟩;rw[Kd,Kd];refine HZ d (JP ?_ c2);rw[Nat.mul_comm];exact Nat.mul_le_mul_left _ (HZ l8 (by decide))
theorem sJ{a:List Int}(hp:a.Pairwise (·<·))(ha:∀n∈a,0≤n/\n<ns.length)(hi:In ns.length f)(b:Bd ns T f p q c):Bd ns T (.sum a f) (p+3+c) c c:=by
 obtain⟨C,c1,c2,c3⟩:=b.cm;have key:∀v,VR ns v->(val ns T (.sum a f) v).num.natAbs≤2 ^ (p+3+c)/\(val ns T (.sum a f) v).den≤2 ^ c/\(val ns T (.sum a f) v).den ∣ C:=fun v hv=>by
  have ok:∀u∈wys (a.map (szN ns)),VR ns (up v a u):=fun u hu=>hv.up ha ((bc _ _).mp hu);unfold val;refine mX W h8 (fun z=>?_) ?_ (fun q hq=>?_) (fun q hq=>?_) c1 c2 (fun q hq=>?_)
  ·refine me (ns:=a.map (szN ns)) (fun n hn=>?_) (List.map_eq_nil_iff.mp z);obtain⟨x,hx,rfl⟩:=Hw.mp hn;obtain⟨h0,h1⟩:=ha x hx;refine W.n1 _ ?_;unfold szN;rw[Hq,Hn (by omega)];exact IH _
  ·rw[Hm];exact HZ (dr W.n1 hp ha) h8
  ·obtain⟨u,hu,rfl⟩:=Hw.mp hq;exact bx W hi (ok u hu)
  ·obtain⟨u,hu,rfl⟩:=Hw.mp hq;exact b.num _ (ok u hu)
  ·obtain⟨u,hu,rfl⟩:=Hw.mp hq;exact c3 _ (ok u hu)
 exact⟨fun v hv=>(key v hv).1,fun v hv=>(key v hv).2.1,C,c1,c2,fun v hv=>(key v hv).2.2⟩
theorem v7{q:Rat}(h:0<q):0<q.num.natAbs:=by
 have h2:q.num≠0:=fun z=>by have:=Rat.num_eq_zero.mp z;rw[this]at h;exact Rat.lt_irrefl h
 omega
theorem oq(hb:0<b):(Rat.divInt a b).num.natAbs≤a.natAbs:=by
 rw[Rat.num_divInt,Int.sign_eq_one_of_pos hb,Int.one_mul,Int.natAbs_ediv_of_dvd (Kc b a)];exact Nat.div_le_self _ _
theorem kE(hf:Bd ns T f p q c)(hg:Bd ns T g p' q' c'):Bd ns T (.times f g) (p+p') (q+q') (c+c'):=by
 obtain⟨C,c1,c2,c3⟩:=hf.cm;obtain⟨D,d1,d2,d3⟩:=hg.cm;have pos:∀v,0<((val ns T f v).den:Int)*((val ns T g v).den:Int):=fun v=>Int.mul_pos (den_pos _) (den_pos _);refine⟨fun v hv=>?_,fun v hv=>?_,C*D,Nat.mul_pos c1 d1,by rw[Kd];exact JP c2 d2,fun v hv=>?_⟩
 ·show(val ns T f v*val ns T g v).num.natAbs≤_;rw[←cI];refine HZ (oq W h8 (pos v)) ?_;rw[Int.natAbs_mul,Kd];exact JP (hf.num v hv) (hg.num v hv)
 ·show(val ns T f v*val ns T g v).den≤_;rw[←cI];have:=Int.le_of_dvd (pos v) (eh (a:=(val ns T f v).num*(val ns T g v).num) (pos v));have m:=JP (hf.den v hv) (hg.den v hv);rw[←Kd]at m;have m2:((val ns T f v).den:Int)*((val ns T g v).den:Int)≤((2 ^ (q+q'):Nat):Int):=by rw[←Int.natCast_mul];exact Int.ofNat_le.mpr m
  exact Int.ofNat_le.mp (Int.le_trans this m2)
 ·show(val ns T f v*val ns T g v).den ∣ _;rw[←cI];have a:=eh (a:=(val ns T f v).num*(val ns T g v).num) (pos v);rw[←Int.natCast_mul]at a;exact Nat.dvd_trans (JU.mp a) (Nat.mul_dvd_mul (c3 v hv) (d3 v hv))
theorem nQ(ig:In ns.length g)(hf:Bd ns T f p q c)(hg:Bd ns T g p' q' c'):Bd ns T (.over f g) (p+q') (q+p') (c+p'*8):=by
 obtain⟨C,c1,c2,c3⟩:=hf.cm;have np:∀v,VR ns v->0<(val ns T g v).num:=fun v hv=>by
  have h:=bx W ig hv;have:=Rat.num_nonneg.mpr (JL h);have h2:=v7 W h8 h;omega
 have pos:∀v,VR ns v->0<((val ns T f v).den:Int)*(val ns T g v).num:=fun v hv=>Int.mul_pos (den_pos _) (np v hv);have dv:∀v,VR ns v->(val ns T (.over f g) v).den ∣ (val ns T f v).den*(val ns T g v).num.natAbs:=fun v hv=>by
  show(val ns T f v / val ns T g v).den ∣ _;rw[←eE];have a:=eh (a:=(val ns T f v).num*((val ns T g v).den:Int)) (pos v hv);have e:((val ns T f v).den:Int)*(val ns T g v).num=(((val ns T f v).den*(val ns T g v).num.natAbs:Nat):Int):=by
   rw[Int.natCast_mul,Int.natAbs_of_nonneg (by have:=np v hv;omega)]
  have a':=a;rw[e]at a';have:=JU.mp a';rw[←e]at this;exact this
 refine⟨fun v hv=>?_,fun v hv=>?_,C*eG ((wys ns).map fun w=>(val ns T g (fun n=>w.getD n.toNat 0)).num.natAbs),?_,?_,fun v hv=>?_⟩
 ·show(val ns T f v / val ns T g v).num.natAbs≤_;rw[←eE];refine HZ (oq W h8 (pos v hv)) ?_;rw[Int.natAbs_mul,Kd,Int.natAbs_natCast];exact JP (hf.num v hv) (hg.den v hv)
 ·have hp:0<(val ns T f v).den*(val ns T g v).num.natAbs:=Nat.mul_pos (by have:=den_pos (val ns T f v);omega) (by have:=np v hv;omega);refine HZ (Nat.le_of_dvd hp (dv v hv)) ?_;rw[Kd];exact JP (hf.den v hv) (hg.num v hv)
 ·refine Nat.mul_pos c1 (dh fun n hn=>?_);obtain⟨w,hw,rfl⟩:=Hw.mp hn;have:=np _ (m7 hw);omega
 ·rw[Kd];refine JP c2 (HZ (eD (p:=p') fun n hn=>?_) (IK (by decide) (Nat.mul_le_mul_left _ (by rw[Hm];exact h8))));obtain⟨w,hw,rfl⟩:=Hw.mp hn;exact hg.num _ (m7 hw)
 ·refine Nat.dvd_trans (dv v hv) (Nat.mul_dvd_mul (c3 v hv) (dA (Hw.mpr ⟨wOf ns v,ko hv,?_⟩)));rw[uL ig]
end
end WM
namespace WM
open FM
section
variable {ns:List Int}{T:List Int->Rat}(W:Wd ns T)(h8:(wys ns).length≤8)(hT:∀w∈wys ns,(T w).num.natAbs≤2 ^ 67/\(T w).den≤2 ^ 14)
include W h8
theorem mB:Bd ns T .one 0 0 0:=⟨fun _ _=>Hr _,fun _ _=>Hr _,1,by decide,Hr _,fun _ _=>Nat.dvd_refl _⟩
include hT
theorem j6(hi:In ns.length (.seen a)):Bd ns T (.seen a) 182 112 112:=by
 have c1:0<eG ((wys ns).map fun w=>(T w).den):=dh fun n hn=>by
  obtain⟨w,_,rfl⟩:=Hw.mp hn;have:=den_pos (T w);omega
 have c2:eG ((wys ns).map fun w=>(T w).den)≤2 ^ 112:=by
  have l8:14*((wys ns).map fun w=>(T w).den).length≤112:=by rw[Hm];omega
  refine HZ (eD (p:=14) fun n hn=>?_) (IK (by decide) l8);obtain⟨w,hw,rfl⟩:=Hw.mp hn;exact(hT w hw).2
 have key:∀v,VR ns v->(val ns T (.seen a) v).num.natAbs≤2 ^ (67+3+112)/\(val ns T (.seen a) v).den≤2 ^ 112/\(val ns T (.seen a) v).den ∣ eG ((wys ns).map fun w=>(T w).den):=fun v hv=>by
  have hp:=bx W hi hv;unfold val at hp ⊢;refine mX W h8 (fun z=>?_) ?_ (fun q hq=>?_) (fun q hq=>?_) c1 c2 (fun q hq=>?_)
  ·rw[z]at hp;exact Rat.lt_irrefl hp
  ·rw[Hm];exact HZ (List.length_filter_le _ _) h8
  ·obtain⟨w,hw,rfl⟩:=Hw.mp hq;exact W.pos w (I0.mp hw).1
  ·obtain⟨w,hw,rfl⟩:=Hw.mp hq;exact(hT w (I0.mp hw).1).1
  ·obtain⟨w,hw,rfl⟩:=Hw.mp hq;exact dA (Hw.mpr ⟨w,(I0.mp hw).1,rfl⟩)
 exact⟨fun v hv=>(key v hv).1,fun v hv=>(key v hv).2.1,_,c1,c2,fun v hv=>(key v hv).2.2⟩
theorem bd0(hi:In ns.length f)(hd:dp f≤0):Bd ns T f 182 112 112:=by
 cases f with
 | one=>exact(mB W h8).mono (by decide) (by decide) (by decide)
 | seen a=>exact j6 W h8 hT hi
 | sum a f=>simp only[dp]at hd;omega
 | times a b=>simp only[dp]at hd;omega
 | over a b=>simp only[dp]at hd;omega
theorem bd1(ok:Ok f)(hi:In ns.length f)(hd:dp f≤1):Bd ns T f 364 294 1568:=by
 cases f with
 | one=>exact(mB W h8).mono (by decide) (by decide) (by decide)
 | seen a=>exact(j6 W h8 hT hi).mono (by decide) (by decide) (by decide)
 | sum a f =>
  simp only[dp]at hd;exact(sJ W h8 ok.1.1 hi.1 hi.2 (bd0 W h8 hT hi.2 (by omega))).mono (by decide) (by decide) (by decide)
 | times a b =>
  simp only[dp]at hd;exact(kE W h8 (bd0 W h8 hT hi.1 (by omega)) (bd0 W h8 hT hi.2 (by omega))).mono (by decide) (by decide) (by decide)
 | over a b =>
  simp only[dp]at hd;exact(nQ W h8 hi.2 (bd0 W h8 hT hi.1 (by omega)) (bd0 W h8 hT hi.2 (by omega))).mono (by decide) (by decide) (by decide)
theorem bd2(ok:Ok f)(hi:In ns.length f)(hd:dp f≤2):Bd ns T f 1935 1568 4480:=by
 cases f with
 | one=>exact(mB W h8).mono (by decide) (by decide) (by decide)
 | seen a=>exact(j6 W h8 hT hi).mono (by decide) (by decide) (by decide)
 | sum a f =>
  simp only[dp]at hd;exact(sJ W h8 ok.1.1 hi.1 hi.2 (bd1 W h8 hT ok.2 hi.2 (by omega))).mono (by decide) (by decide) (by decide)
 | times a b =>
  simp only[dp]at hd;exact(kE W h8 (bd1 W h8 hT ok.1 hi.1 (by omega)) (bd1 W h8 hT ok.2 hi.2 (by omega))).mono (by decide) (by decide) (by decide)
 | over a b =>
  simp only[dp]at hd;exact(nQ W h8 hi.2 (bd1 W h8 hT ok.1 hi.1 (by omega)) (bd1 W h8 hT ok.2 hi.2 (by omega))).mono (by decide) (by decide) (by decide)
end
end WM
namespace WM
open FM
def rgI(n:Int):List Int:=(List.range n.toNat).map fun k:Nat=>(k:Int)
def stC(told:List (List Int))(cs:List Int):List (List Int):=told.flatMap fun u=>cs.map fun k=>u++[k]
theorem rB:stC told (rgI n)=eI told n:=by
 unfold stC eI rgI;congr 1;funext u;rw[HY];rfl
def cho(f:Int->Option Int)(i:Nat)(n:Int):List Int:=match f (i:Int)with
 | some v=>[v]
 | none=>rgI n
def wC(f:Int->Option Int)(ns:List Int):List (List Int):=(ns.mapIdx (cho f)).foldl stC [[]]
theorem d7:wC f (ns++[n])=stC (wC f ns) (cho f ns.length n):=by
 unfold wC;rw[List.mapIdx_concat,List.foldl_append];rfl
theorem jN:∀ns,wC (fun _=>none) ns=wys ns:=by
 refine snoc_ind rfl (fun l n ih=>?_);rw[d7,cv,ih];exact rB
def agM(m:Nat)(a:List Int)(v:Env)(w:List Int):Bool:=a.all fun n=>!decide (n<m)||decide (w.getD n.toNat 0=v n)
theorem mZ(h0:0≤x)(h1:x<n):(rgI n).filter (fun k=>decide (k=x))=[x]:=by
 have gen:∀m:Nat,x<m->((List.range m).map fun k:Nat=>(k:Int)).filter (fun k=>decide (k=x))=[x]:=by
  intro m
  induction m with
  | zero=>intro h;omega
  | succ m ih =>
   intro h;rw[List.range_succ,HW,List.filter_append];by_cases e:x<m
   ·rw[ih e];have:¬((m:Nat):Int)=x:=by omega
    simp[this]
   ·have ex:x=(m:Nat):=by omega
    have nil:((List.range m).map fun k:Nat=>(k:Int)).filter (fun k=>decide (k=x))=[]:=by
     rw[List.filter_eq_nil_iff];intro y hy;obtain⟨k,hk,rfl⟩:=Hw.mp hy;have:=IJ.mp hk;simp;omega
    rw[nil,ex];simp
 exact gen n.toNat (by omega)
theorem pE{a:List Int}(ha:∀n∈a,0≤n)(hf:∀n,f n=if n∈a then some (v n)else none):∀ns:List Int,(∀n∈a,n<ns.length->0≤v n/\v n<szN ns n)->wC f ns=(wys ns).filter (agM ns.length a v):=by
 refine snoc_ind (fun _=>?_) (fun ns n ih hv=>?_)
 ·have:agM ([]:List Int).length a v []=true:=by
   unfold agM;rw[Ib];intro x hx;have:=ha x hx;simp;omega
  show [[]]=([[]]:List (List Int)).filter _;rw[List.filter_cons,HP this];rfl
 ·have ih:=ih fun x hx hl=>by
   have:=hv x hx (by rw[HN,IY];omega);unfold szN at this ⊢;rw[bq (by have:=ha x hx;omega)]at this;exact this
  rw[d7,cv,ih];unfold stC eI;rw[List.filter_flatMap];have hm:∀u∈wys ns,u.length=ns.length:=fun u hu=>((bc _ _).mp hu).1;generalize wys ns=W at hm
  induction W with
  | nil=>rfl
  | cons u W ihW =>
   have hu:=hm u HL;have key:∀k:Int,agM (ns++[n]).length a v (u++[k])=(agM ns.length a v u&&(!decide (((ns.length:Nat):Int)∈a)||decide (k=v (ns.length:Nat)))):=fun k=>by
    have e1:∀x:Int,0≤x->x<ns.length->(u++[k]).getD x.toNat 0=u.getD x.toNat 0:=fun x h0 h1=>bq (by omega);have e2:(u++[k]).getD ((ns.length:Nat):Int).toNat 0=k:=by rw[Int.toNat_natCast,← hu];exact getD_snoc
    rw[Kb,IP];unfold agM;rw[Ib,Ib];simp only[Bool.or_eq_true,Bool.not_eq_true',decide_eq_false_iff_not,Jn,HN,IY];constructor
    ·intro h;refine⟨fun x hx=>?_,?_⟩
     ·by_cases e:x<ns.length
      ·right;have:=h x hx;rw[e1 x (ha x hx) e]at this;rcases this with q | q
       ·exact absurd (by omega) q
       ·exact q
      ·exact .inl e
     ·by_cases e:((ns.length:Nat):Int)∈a
      ·right;have:=h _ e;rw[e2]at this;rcases this with q | q
       ·exact absurd (by omega) q
       ·exact q
      ·exact .inl e
    ·rintro⟨h1,h2⟩ x hx;by_cases e:x<ns.length
     ·right;rw[e1 x (ha x hx) e];exact(h1 x hx).elim (fun z=>absurd e z) id
     ·by_cases e':x=ns.length
      ·right;rw[e',e2];exact h2.elim (fun z=>absurd (by rw[←e'];exact hx) z) id
      ·left;have:=ha x hx;omega
   have one:List.filter (agM (ns++[n]).length a v) ((List.range n.toNat).map fun k:Nat=>u++[(k:Int)])=if agM ns.length a v u=true then(cho f ns.length n).map fun k=>u++[k]else []:=by
    have e3:((List.range n.toNat).map fun k:Nat=>u++[(k:Int)])=(rgI n).map fun k=>u++[k]:=by unfold rgI;rw[HY];rfl
    rw[e3,List.filter_map];by_cases q:agM ns.length a v u=true
    ·rw[HP q];congr 1;unfold cho;rw[hf];by_cases e:((ns.length:Nat):Int)∈a
     ·rw[HP e];have:=hv _ e (by rw[HN,IY];omega);unfold szN at this;rw[Int.toNat_natCast,getD_snoc]at this;show _=[v ((ns.length:Nat):Int)];rw[←mZ this.1 this.2];refine List.filter_congr fun k _=>?_;simp only[Function.comp];rw[key,q];simp[e]
     ·rw[HM e];refine Js.mpr fun k _=>?_;simp only[Function.comp];rw[key,q];simp[e]
    ·rw[HM q];rw[List.map_eq_nil_iff,List.filter_eq_nil_iff];intro k _;simp only[Function.comp];rw[key];simp[q]
   rw[List.filter_cons,Jo];rw[one];have ihW:=ihW fun x hx=>hm x (HH _ hx);by_cases q:agM ns.length a v u=true
   ·rw[HP q,HP q,Jo,ihW]
   ·rw[HM q,HM q,ihW];rfl
theorem zi{m:Nat}{a:List Int}(h:∀n∈a,n<m):agM m a v w=ag a v w:=by
 unfold agM ag;rw[Kb,Ib,Ib];constructor
 ·intro q n hn;have:=q n hn;simp[h n hn]at this ⊢;exact this
 ·intro q n hn;have:=q n hn;simp at this ⊢;exact .inr this
end WM
namespace My
theorem cj:∀(m:Nat) (f:List Int),f.Nodup->(∀x∈f,0≤x/\x<(m:Int))->f.length≤m
 | 0,f,_,h=>by
  cases f with
  | nil=>exact Hr _
  | cons x f=>have:=h x HL;omega
 | m+1,f,hn,h=>by
  have q:=cj m (f.erase (m:Int)) (hn.erase _) (fun x hx=>by
   have hx':=List.mem_of_mem_erase hx;have:=h x hx';have ne:x≠(m:Int):=(List.Nodup.mem_erase_iff hn).mp hx |>.1
   omega)
  by_cases hm:(m:Int)∈f
  ·rw[List.length_erase_of_mem hm]at q;omega
  ·rw[List.erase_of_not_mem hm]at q;omega
theorem hW:∀{xs ys:List Int},xs.Pairwise (·<·)->ys.Pairwise (·<·)->(∀x,x∈xs↔x∈ys)->xs=ys
 | [],[],_,_,_=>rfl
 | [],y::ys,_,_,h=>absurd ((h y).mpr HL) (by simp)
 | x::xs,[],_,_,h=>absurd ((h x).mp HL) (by simp)
 | x::xs,y::ys,hx,hy,h=>by
  rw[List.pairwise_cons]at hx hy;have e:x=y:=by
   have h1:=(h x).mp HL;have h2:=(h y).mpr HL;rcases Hy.mp h1 with h1 | h1
   ·exact h1
   ·rcases Hy.mp h2 with h2 | h2
    ·exact h2.symm
    ·have:=hx.1 y h2;have:=hy.1 x h1;omega
  subst e;rw[hW hx.2 hy.2 fun z=>?_];constructor
  ·intro hz;rcases Hy.mp ((h z).mp (HH _ hz))with q | q
   ·have:=hx.1 z hz;omega
   ·exact q
  ·intro hz;rcases Hy.mp ((h z).mpr (HH _ hz))with q | q
   ·have:=hy.1 z hz;omega
   ·exact q
end My
namespace Lw
open L2 U
theorem boot_set:bootBuiltins "set"=some (.type "set"):=by decide +kernel
theorem boot_sum:bootBuiltins "sum"=some (.builtin "sum"):=by decide +kernel
theorem boot_min:bootBuiltins "min"=some (.builtin "min"):=by decide +kernel
theorem boot_reversed:bootBuiltins "reversed"=some (.type "reversed"):=by decide +kernel
theorem boot_max:bootBuiltins "max"=some (.builtin "max"):=by decide +kernel
theorem boot_dict:bootBuiltins "dict"=some (.type "dict"):=by decide +kernel
theorem bS:starEach (.List a p::es) env=(false,eval (.List a p) env)::starEach es env:=by simp only[starEach]
abbrev szE:Expr:=(PySem.Expr.List (elts:=[(PySem.Expr.List [(PySem.Expr.Constant (PySem.Const.int 2) 0 ⟨188,13,188,14⟩)] ⟨188,12,188,15⟩),(PySem.Expr.List [(PySem.Expr.Constant (PySem.Const.int 3) 0 ⟨188,18,188,19⟩)] ⟨188,17,188,20⟩),(PySem.Expr.List (elts:=[(PySem.Expr.Constant (PySem.Const.int 2) 0 ⟨188,23,188,24⟩),(PySem.Expr.Constant (PySem.Const.int 2) 0 ⟨188,26,188,27⟩)]) (pos:=⟨188,22,188,28⟩)),(PySem.Expr.List (elts:=[(PySem.Expr.Constant (PySem.Const.int 2) 0 ⟨188,31,188,32⟩),(PySem.Expr.Constant (PySem.Const.int 2) 0 ⟨188,34,188,35⟩),(PySem.Expr.Constant (PySem.Const.int 2) 0 ⟨188,37,188,38⟩)]) (pos:=⟨188,30,188,39⟩)),(PySem.Expr.List [(PySem.Expr.Constant (PySem.Const.int 4) 0 ⟨188,42,188,43⟩)] ⟨188,41,188,44⟩),(PySem.Expr.List (elts:=[(PySem.Expr.Constant (PySem.Const.int 2) 0 ⟨188,47,188,48⟩),(PySem.Expr.Constant (PySem.Const.int 3) 0 ⟨188,50,188,51⟩)]) (pos:=⟨188,46,188,52⟩)),(PySem.Expr.List (elts:=[(PySem.Expr.Constant (PySem.Const.int 3) 0 ⟨188,55,188,56⟩),(PySem.Expr.Constant (PySem.Const.int 2) 0 ⟨188,58,188,59⟩)]) (pos:=⟨188,54,188,60⟩)),(PySem.Expr.List (elts:=[(PySem.Expr.Constant (PySem.Const.int 2) 0 ⟨188,63,188,64⟩),(PySem.Expr.Constant (PySem.Const.int 2) 0 ⟨188,66,188,67⟩),(PySem.Expr.Constant (PySem.Const.int 2) 0 ⟨188,69,188,70⟩)]) (pos:=⟨188,62,188,71⟩))]) (pos:=⟨188,11,188,72⟩))
section
variable {X:Cx}{B:Bs}
theorem C9(h1:PE' X B (.List e1 p1) (aY t1))(h2:PE' X B (.List e2 p2) (aY t2))(h3:PE' X B (.List e3 p3) (aY t3))(h4:PE' X B (.List e4 p4) (aY t4))(h5:PE' X B (.List e5 p5) (aY t5))(h6:PE' X B (.List e6 p6) (aY t6))(h7:PE' X B (.List e7 p7) (aY t7))(h8:PE' X B (.List e8 p8) (aY t8)) :
  PE' X B (.List [.List e1 p1,.List e2 p2,.List e3 p3,.List e4 p4,.List e5 p5,.List e6 p6,.List e7 p7,.List e8 p8] pos) (aY (aD (aY t1) (aD (aY t2) (aD (aY t3) (aD (aY t4) (aD (aY t5) (aD (aY t6) (aD (aY t7) (aD (aY t8) cc))))))))) :=
 aP (ab h1 (ab h2 (ab h3 (ab h4 (ab h5 (ab h6 (ab h7 (ab h8 ae bS) bS) bS) bS) bS) bS) bS) bS)
theorem ql1:PE' X B (.List [.Constant (.int i0) j0 p0] p) (aY (aD (uC (.int i0)) cc)):=aP (ab ah ae)
theorem ql2:PE' X B (.List [.Constant (.int i0) j0 p0,.Constant (.int i1) j1 p1] p) (aY (aD (uC (.int i0)) (aD (uC (.int i1)) cc))):=aP (ab ah (ab ah ae))
theorem ql3:PE' X B (.List [.Constant (.int i0) j0 p0,.Constant (.int i1) j1 p1,.Constant (.int i2) j2 p2] p) (aY (aD (uC (.int i0)) (aD (uC (.int i1)) (aD (uC (.int i2)) cc)))):=aP (ab ah (ab ah (ab ah ae)))
theorem AI:PE' X B szE (aY (aD (aY (aD (uC (.int 2)) cc)) (aD (aY (aD (uC (.int 3)) cc)) (aD (aY (aD (uC (.int 2)) (aD (uC (.int 2)) cc))) (aD (aY (aD (uC (.int 2)) (aD (uC (.int 2)) (aD (uC (.int 2)) cc)))) (aD (aY (aD (uC (.int 4)) cc)) (aD (aY (aD (uC (.int 2)) (aD (uC (.int 3)) cc))) (aD (aY (aD (uC (.int 3)) (aD (uC (.int 2)) cc))) (aD (aY (aD (uC (.int 2)) (aD (uC (.int 2)) (aD (uC (.int 2)) cc)))) cc))))))))):=by with_reducible exact C9 ql1 ql1 ql2 ql3 ql1 ql2 ql2 ql3
theorem uy(e0:b0=[.Return (some (.Subscript szE b pos2)) pos3])(hb:PE' X B b tb)(hs:gL b):gw X B b0 (zy (uOp uIx (aY (aD (aY (aD (uC (.int 2)) cc)) (aD (aY (aD (uC (.int 3)) cc)) (aD (aY (aD (uC (.int 2)) (aD (uC (.int 2)) cc))) (aD (aY (aD (uC (.int 2)) (aD (uC (.int 2)) (aD (uC (.int 2)) cc)))) (aD (aY (aD (uC (.int 4)) cc)) (aD (aY (aD (uC (.int 2)) (aD (uC (.int 3)) cc))) (aD (aY (aD (uC (.int 3)) (aD (uC (.int 2)) cc))) (aD (aY (aD (uC (.int 2)) (aD (uC (.int 2)) (aD (uC (.int 2)) cc)))) cc))))))))) tb)):=by subst e0;with_reducible exact au (aA (iX AI hb hs))
end
theorem zE{x y:PV}:atI [x,y] 0=some x:=rfl
theorem Bz{x y:PV}:atI [x,y] 1=some y:=rfl
def top(i:Nat):Stmt:=PySem.Challenge.pw_doingbook_k33_whole_worth_in_parts.main.body.getD i (.Pass ⟨0,0,0,0⟩)
abbrev vT:Stmt:=top 1
local macro_rules | `(tactic| walk_at "q") => `(tactic| exact ⟨rfl, rfl, rfl, by decide +kernel, rfl, by decide +kernel, by decide +kernel⟩)
theorem gj:aC ["sizes","fixed","told","place","size","choices","longer","way"] ["sizes","fixed"] (aw vT):=by walk_at "q"
abbrev za:Stmt:=top 2
theorem Ec:aC ["sizes"] ["sizes"] (aw za):=by walk_at "q"
abbrev Ak:Stmt:=top 8
theorem nD:aC ["a","b","rest"] ["a","b"] (aw Ak):=by walk_at "q"
abbrev yL:Stmt:=top 9
theorem sU:aC ["top","bottom","divisor"] ["top","bottom"] (aw yL):=by walk_at "q"
abbrev BH:Stmt:=top 10
theorem Ci:aC ["a","b"] ["a","b"] (aw BH):=by walk_at "q"
abbrev zC:Stmt:=top 11
theorem Dm:aC ["a","b"] ["a","b"] (aw zC):=by walk_at "q"
abbrev BJ:Stmt:=top 12
theorem oA:aC ["parts","bottom","part"] ["parts"] (aw BJ):=by walk_at "q"
abbrev uX:Stmt:=top 13
theorem Cf:aC ["parts","bottom"] ["parts","bottom"] (aw uX):=by walk_at "q"
abbrev AS:Stmt:=top 14
theorem yu:aC ["parts","bottom"] ["parts"] (aw AS):=by walk_at "q"
abbrev yS:Stmt:=top 16
theorem Cc:aC ["formula"] ["formula"] (aw yS):=by walk_at "q"
abbrev Be:Stmt:=top 17
theorem DA:aC ["formula"] ["formula"] (aw Be):=by walk_at "q"
abbrev zu:Stmt:=top 18
theorem ky:aC ["formula","places","inner","part","node"] ["formula","places"] (aw zu):=by walk_at "q"
abbrev AF:Stmt:=top 19
theorem ym:aC ["formula","places"] ["formula"] (aw AF):=by walk_at "q"
abbrev BU:Stmt:=top 20
theorem ji:aC ["nodes","opens","node","named","place","bound"] ["nodes"] (aw BU):=by walk_at "q"
abbrev Al:Stmt:=top 21
theorem D5:aC ["formula"] ["formula"] (aw Al):=by walk_at "q"
abbrev vt:Stmt:=top 22
theorem Ce:aC ["names","values"] ["names","values"] (aw vt):=by walk_at "q"
abbrev zm:Stmt:=inClass (top 23) 0
theorem Dt:aC ["self","formula","sizes","table"] ["self","formula","sizes","table"] (aw zm):=by walk_at "q"
abbrev rq:Stmt:=inClass (top 23) 1
theorem jg:aC ["self","place","key","node","values","part","told","way"] ["self","place","key"] (aw rq):=by walk_at "q"
abbrev vV:Stmt:=inClass (top 23) 2
theorem jx:aC ["self","values","needed","place","key","part","inner_key"] ["self","values"] (aw vV):=by walk_at "q"
abbrev xx:Stmt:=inClass (top 23) 3
theorem yb:aC ["self","names","key","fixed"] ["self","names","key"] (aw xx):=by walk_at "q"
abbrev xf:Stmt:=inClass (top 23) 4
theorem rj:aC ["self","place","key","worths","word","found"] ["self","place","key","worths"] (aw xf):=by walk_at "q"
abbrev zj:Stmt:=inClass (top 23) 5
theorem i6:aC ["self","values","worths","place","keys","known","key"] ["self","values"] (aw zj):=by walk_at "q"
abbrev zI:Stmt:=top 24
theorem Eg:aC ["formula","sizes","table","values"] ["formula","sizes","table","values"] (aw zI):=by walk_at "q"
abbrev B0:Stmt:=top 26
theorem Dr:aC ["_law_script","_law_k"] ["_law_script","_law_k"] (aw B0):=by walk_at "q"
abbrev vK:Stmt:=top 27
theorem gk:aC ["_law_script","_law_at","_law_parts","_law_unit","_law_found","_law_first","_law_rest","_law_k"] ["_law_script","_law_at","_law_parts"] (aw vK):=by walk_at "q"
abbrev uM:Stmt:=top 28
theorem DW:aC ["_law_digit","_law_count"] ["_law_digit","_law_count"] (aw uM):=by walk_at "q"
abbrev Ac:Stmt:=top 29
theorem iI:aC ["_law_purse","_law_count","_law_down","_law_digit","_law_way","_law_names","_law_one"] ["_law_purse","_law_count","_law_down"] (aw Ac):=by walk_at "q"
abbrev wt:Stmt:=top 30
theorem iL:aC ["_law_sizes_here","_law_got","_law_size","_law_more","_law_way"] ["_law_sizes_here"] (aw wt):=by walk_at "q"
abbrev yO:Stmt:=top 31
theorem oo:aC ["_law_top","_law_bottom","_law_one","_law_other"] ["_law_top","_law_bottom"] (aw yO):=by walk_at "q"
abbrev vZ:Stmt:=top 32
theorem Ck:aC ["_law_purse"] ["_law_purse"] (aw vZ):=by walk_at "q"
abbrev BF:Stmt:=top 33
theorem hX:aC ["_law_sizes_here","_law_script","_law_table_here","_law_k","_law_way","_law_number","_law_top","_law_bottom"] ["_law_sizes_here","_law_script"] (aw BF):=by walk_at "q"
abbrev zv:Stmt:=top 34
theorem nO:aC ["_law_values","_law_names","_law_way","_law_inner","_law_name","_law_value"] ["_law_values","_law_names","_law_way"] (aw zv):=by walk_at "q"
abbrev wU:Stmt:=top 35
theorem iF:aC ["_law_sizes_here","_law_table_here","_law_a","_law_b","_law_names","_law_values","_law_one","_law_other","_law_due","_law_way"] ["_law_sizes_here","_law_table_here","_law_a","_law_b","_law_names","_law_values"] (aw wU):=by walk_at "q"
abbrev xK:Stmt:=top 36
theorem cq:aC ["_law_script","_law_purse","_law_sizes_here","_law_table_here","_law_a","_law_b","_law_names","_law_every","_law_loose","_law_ways_here","_law_start","_law_way","_law_values","_law_other"] ["_law_script"] (aw xK):=by walk_at "q"
set_option genInjectivity false
structure Ad where
 a_zt:Addr
 d_zt:FuncData
 a_zz:Addr
 d_zz:FuncData
 a_ze:Addr
 d_ze:FuncData
 a_zB:Addr
 d_zB:FuncData
 a_zF:Addr
 d_zF:FuncData
 a_zI:Addr
 d_zI:FuncData
 a_zh:Addr
 d_zh:FuncData
 a_zq:Addr
 d_zq:FuncData
 a_zG:Addr
 d_zG:FuncData
 a_zv:Addr
 d_zv:FuncData
 a_zy:Addr
 d_zy:FuncData
 a_zL:Addr
 d_zL:FuncData
 a_zx:Addr
 d_zx:FuncData
 a_zw:Addr
 d_zw:FuncData
 a_zn:Addr
 d_zn:FuncData
 a_zD:Addr
 d_zD:FuncData
 a_zi:Addr
 d_zi:FuncData
 a_zb:Addr
 d_zb:FuncData
 a_za:Addr
 d_za:FuncData
 a_zd:Addr
 d_zd:FuncData
 a_zc:Addr
 d_zc:FuncData
 a_zg:Addr
 d_zg:FuncData
 a_zE:Addr
 d_zE:FuncData
 a_zk:Addr
 d_zk:FuncData
 a_zm:Addr
 d_zm:FuncData
 a_zj:Addr
 d_zj:FuncData
 a_zs:Addr
 d_zs:FuncData
 a_zA:Addr
 d_zA:FuncData
 a_zp:Addr
 d_zp:FuncData
 a_zu:Addr
 d_zu:FuncData
 a_zr:Addr
 d_zr:FuncData
 a_zC:Addr
 d_zC:FuncData
 a_zf:Addr
 d_zf:FuncData
 a_zK:Addr
 d_zK:FuncData
 a_A:Addr
abbrev kX1(K:PySem.W.Frag)(a b:Addr):=PySem.W.kitOne K (.ref a) (.ref b)=some false
abbrev nX1(K:PySem.W.Frag)(x:Str)(a:Addr):=PySem.W.nsIn K mainGlobals x=some (some (.ref a))
abbrev nX2(K:PySem.W.Frag)(x:Str):=PySem.W.nsIn K mainGlobals x=some none
abbrev fX1(K:PySem.W.Frag)(c:Addr)(x:Str)(a:Addr):=PySem.W.findIn K (.ref c) x=some (some (.ref a))
structure Tx (K:PySem.W.Frag) (mg:Str→Option Value) (t:Ad):Prop where
 F_zt:Fun K "ways_with" "ways_with" vT t.a_zt t.d_zt
 B_zt:Binds K t.d_zt ["sizes","fixed"] []
 g_zt:mg "ways_with"=some (.ref t.a_zt)
 F_zz:Fun K "all_ways" "all_ways" za t.a_zz t.d_zz
 B_zz:Binds K t.d_zz ["sizes"] []
 g_zz:mg "all_ways"=some (.ref t.a_zz)
 F_ze:Fun K "greatest_divisor" "greatest_divisor" Ak t.a_ze t.d_ze
 B_ze:Binds K t.d_ze ["a","b"] []
 g_ze:mg "greatest_divisor"=some (.ref t.a_ze)
 F_zB:Fun K "fraction" "fraction" yL t.a_zB t.d_zB
 B_zB:Binds K t.d_zB ["top","bottom"] []
 g_zB:mg "fraction"=some (.ref t.a_zB)
 F_zF:Fun K "times" "times" BH t.a_zF t.d_zF
 B_zF:Binds K t.d_zF ["a","b"] []
 g_zF:mg "times"=some (.ref t.a_zF)
 F_zI:Fun K "over" "over" zC t.a_zI t.d_zI
 B_zI:Binds K t.d_zI ["a","b"] []
 g_zI:mg "over"=some (.ref t.a_zI)
 F_zh:Fun K "common_bottom" "common_bottom" BJ t.a_zh t.d_zh
 B_zh:Binds K t.d_zh ["parts"] []
 g_zh:mg "common_bottom"=some (.ref t.a_zh)
 F_zq:Fun K "tops_over" "tops_over" uX t.a_zq t.d_zq
 B_zq:Binds K t.d_zq ["parts","bottom"] []
 g_zq:mg "tops_over"=some (.ref t.a_zq)
 F_zG:Fun K "total" "total" AS t.a_zG t.d_zG
 B_zG:Binds K t.d_zG ["parts"] []
 g_zG:mg "total"=some (.ref t.a_zG)
 F_zv:Fun K "names_of" "names_of" yS t.a_zv t.d_zv
 B_zv:Binds K t.d_zv ["formula"] []
 g_zv:mg "names_of"=some (.ref t.a_zv)
 F_zy:Fun K "parts_of" "parts_of" Be t.a_zy t.d_zy
 B_zy:Binds K t.d_zy ["formula"] []
 g_zy:mg "parts_of"=some (.ref t.a_zy)
 F_zL:Fun K "lay" "lay" zu t.a_zL t.d_zL
 B_zL:Binds K t.d_zL ["formula","places"] []
 g_zL:mg "lay"=some (.ref t.a_zL)
 F_zx:Fun K "laid_out" "laid_out" AF t.a_zx t.d_zx
 B_zx:Binds K t.d_zx ["formula"] []
 g_zx:mg "laid_out"=some (.ref t.a_zx)
 F_zw:Fun K "opens_of" "opens_of" BU t.a_zw t.d_zw
 B_zw:Binds K t.d_zw ["nodes"] []
 g_zw:mg "opens_of"=some (.ref t.a_zw)
 F_zn:Fun K "open_names" "open_names" Al t.a_zn t.d_zn
 B_zn:Binds K t.d_zn ["formula"] []
 g_zn:mg "open_names"=some (.ref t.a_zn)
 F_zD:Fun K "key_of" "key_of" vt t.a_zD t.d_zD
 B_zD:Binds K t.d_zD ["names","values"] []
 g_zD:mg "key_of"=some (.ref t.a_zD)
 F_zi:Fun K "__init__" "Reckoner.__init__" zm t.a_zi t.d_zi
 B_zi:Binds K t.d_zi ["self","formula","sizes","table"] []
 F_zb:Fun K "inner_keys" "Reckoner.inner_keys" rq t.a_zb t.d_zb
 B_zb:Binds K t.d_zb ["self","place","key"] []
 m_zb:Meth K t.a_A "inner_keys" t.a_zb
 F_za:Fun K "needed_keys" "Reckoner.needed_keys" vV t.a_za t.d_za
 B_za:Binds K t.d_za ["self","values"] []
 m_za:Meth K t.a_A "needed_keys" t.a_za
 F_zd:Fun K "seen_share" "Reckoner.seen_share" xx t.a_zd t.d_zd
 B_zd:Binds K t.d_zd ["self","names","key"] []
 m_zd:Meth K t.a_A "seen_share" t.a_zd
 F_zc:Fun K "worked_out" "Reckoner.worked_out" xf t.a_zc t.d_zc
 B_zc:Binds K t.d_zc ["self","place","key","worths"] []
 m_zc:Meth K t.a_A "worked_out" t.a_zc
 F_zg:Fun K "reckon" "Reckoner.reckon" zj t.a_zg t.d_zg
 B_zg:Binds K t.d_zg ["self","values"] []
 m_zg:Meth K t.a_A "reckon" t.a_zg
 F_zE:Fun K "worth" "worth" zI t.a_zE t.d_zE
 B_zE:Binds K t.d_zE ["formula","sizes","table","values"] []
 g_zE:mg "worth"=some (.ref t.a_zE)
 F_zk:Fun K "_law_cell_at" "_law_cell_at" B0 t.a_zk t.d_zk
 B_zk:Binds K t.d_zk ["_law_script","_law_k"] []
 g_zk:mg "_law_cell_at"=some (.ref t.a_zk)
 F_zm:Fun K "_law_digits" "_law_digits" vK t.a_zm t.d_zm
 B_zm:Binds K t.d_zm ["_law_script","_law_at","_law_parts"] []
 g_zm:mg "_law_digits"=some (.ref t.a_zm)
 F_zj:Fun K "_law_names_by" "_law_names_by" uM t.a_zj t.d_zj
 B_zj:Binds K t.d_zj ["_law_digit","_law_count"] []
 g_zj:mg "_law_names_by"=some (.ref t.a_zj)
 F_zs:Fun K "_law_grown" "_law_grown" Ac t.a_zs t.d_zs
 B_zs:Binds K t.d_zs ["_law_purse","_law_count","_law_down"] []
 g_zs:mg "_law_grown"=some (.ref t.a_zs)
 F_zA:Fun K "_law_ways" "_law_ways" wt t.a_zA t.d_zA
 B_zA:Binds K t.d_zA ["_law_sizes_here"] []
 g_zA:mg "_law_ways"=some (.ref t.a_zA)
 F_zp:Fun K "_law_lowest" "_law_lowest" yO t.a_zp t.d_zp
 B_zp:Binds K t.d_zp ["_law_top","_law_bottom"] []
 g_zp:mg "_law_lowest"=some (.ref t.a_zp)
 F_zu:Fun K "_law_sizes" "_law_sizes" vZ t.a_zu t.d_zu
 B_zu:Binds K t.d_zu ["_law_purse"] []
 g_zu:mg "_law_sizes"=some (.ref t.a_zu)
 F_zr:Fun K "_law_table" "_law_table" BF t.a_zr t.d_zr
 B_zr:Binds K t.d_zr ["_law_sizes_here","_law_script"] []
 g_zr:mg "_law_table"=some (.ref t.a_zr)
 F_zC:Fun K "_law_put" "_law_put" zv t.a_zC t.d_zC
 B_zC:Binds K t.d_zC ["_law_values","_law_names","_law_way"] []
 g_zC:mg "_law_put"=some (.ref t.a_zC)
 F_zf:Fun K "_law_parts_right" "_law_parts_right" wU t.a_zf t.d_zf
 B_zf:Binds K t.d_zf ["_law_sizes_here","_law_table_here","_law_a","_law_b","_law_names","_law_values"] []
 g_zf:mg "_law_parts_right"=some (.ref t.a_zf)
 F_zK:Fun K "law" "law" xK t.a_zK t.d_zK
 B_zK:Binds K t.d_zK ["_law_script"] []
 g_zK:mg "law"=some (.ref t.a_zK)
 g_A:mg "Reckoner"=some (.ref t.a_A)
 cl_A:Cls K t.a_A
 mk_A:Mk K t.a_A t.a_zi
 b_abs:mg "abs"=none
 b_dict:mg "dict"=none
 b_enumerate:mg "enumerate"=none
 b_int:mg "int"=none
 b_len:mg "len"=none
 b_list:mg "list"=none
 b_max:mg "max"=none
 b_min:mg "min"=none
 b_range:mg "range"=none
 b_reversed:mg "reversed"=none
 b_set:mg "set"=none
 b_sorted:mg "sorted"=none
 b_sum:mg "sum"=none
 b_tuple:mg "tuple"=none
 b_zip:mg "zip"=none
 nf_Reckoner_nodes:bT K t.a_A "nodes"
 nf_Reckoner_opens:bT K t.a_A "opens"
 nf_Reckoner_sizes:bT K t.a_A "sizes"
 nf_Reckoner_table:bT K t.a_A "table"
section
variable {P:Program}{w:World}{K:PySem.W.Frag}{mg:Str->Option Value}{base:Heap}{t:Ad}
open FM (F Nd Op Ok dp sz Nm Den Kid Laid All bW)
open WM (rp aZ val VR szN wys Rg ag)
def wd:F->Str
 | .one=>"one"
 | .seen _=>"seen"
 | .sum _ _=>"sum"
 | .times _ _=>"times"
 | .over _ _=>"over"
def nmF:F->List Int
 | .seen ns=>ns
 | .sum ns _=>ns
 | _=>[]
def kids:F->List F
 | .sum _ f=>[f]
 | .times a b=>[a,b]
 | .over a b=>[a,b]
 | _=>[]
def nsV(ns:List Int):PV:=.tup (ns.map PV.int)
def fV:F->PV
 | .one=>.tup [.str "one"]
 | .seen ns=>.tup [.str "seen",.tup (ns.map PV.int)]
 | .sum ns f=>.tup [.str "sum",.tup (ns.map PV.int),fV f]
 | .times a b=>.tup [.str "times",fV a,fV b]
 | .over a b=>.tup [.str "over",fV a,fV b]
theorem vo:∀f:F,∃r,fV f=.tup (.str (wd f)::r)
 | .one=>⟨_,rfl⟩
 | .seen _=>⟨_,rfl⟩
 | .sum _ _=>⟨_,rfl⟩
 | .times _ _=>⟨_,rfl⟩
 | .over _ _=>⟨_,rfl⟩
theorem dH{x:PV}:atI (x::l) 0=some x:=by
 unfold atI ixN;rw[HP (by omega),HP (by simp only[Ig];omega)];rfl
theorem zk{x y z:PV}:atI [x,y,z] 1=some y:=rfl
theorem AW{x y z:PV}:atI [x,y,z] 2=some z:=rfl
theorem BL(h:g∈kids f):sz g<sz f/\dp g<dp f/\(Ok f->Ok g):=by
 cases f with
 | one=>cases h
 | seen ns=>cases h
 | sum ns f =>
  have:=Hx.mp h;subst this;exact⟨by simp only[sz];omega,by simp only[dp];omega,fun o=>o.2⟩
 | times a b =>
  rcases Hy.mp h with rfl | h
  ·exact⟨by simp only[sz];omega,by simp only[dp];omega,fun o=>o.1⟩
  ·have:=Hx.mp h;subst this;exact⟨by simp only[sz];omega,by simp only[dp];omega,fun o=>o.2⟩
 | over a b =>
  rcases Hy.mp h with rfl | h
  ·exact⟨by simp only[sz];omega,by simp only[dp];omega,fun o=>o.1⟩
  ·have:=Hx.mp h;subst this;exact⟨by simp only[sz];omega,by simp only[dp];omega,fun o=>o.2⟩
theorem gE(f:F):((kids f).map sz).sum+1=sz f/\(kids f).length≤2:=by
 cases f<;>simp[kids,sz]<;>omega
structure Mid (f:F) (ks:List Nd) (gs:List F) (js:List Int) (ks2:List Nd):Prop where
 keep:∀j g,Den ks j g->Den ks2 j g
 all:∀N,All N ks->sz f≤N->All N ks2
 len:ks2.length≤ks.length+(gs.map sz).sum
 den:Paired (fun(j:Int) g=>∃n:Nat,j=(n:Int)/\Den ks2 n g) js gs
theorem Mid.nil:Mid f ks [] [] ks:=⟨fun _ _ d=>d,fun _ a _=>a,by simp,.nil⟩
theorem Mid.step(m:Mid f ks gs js ks2)(hg:sz g<sz f)(l:Laid g ks2 i ks3):Mid f ks (gs++[g]) (js++[(i:Int)]) ks3:=by
 refine⟨fun j h d=>l.keep j h (m.keep j h d),fun N a z=>l.all N (m.all N a z) (by omega),?_,?_⟩
 ·have h1:=l.len;have h2:=m.len;rw[HW,List.sum_append];simp only[HV,J0,List.sum_cons,List.sum_nil];omega
 ·refine ua (Paired.mapP m.den fun j h y_=>by obtain⟨n,e,d⟩:=y_;exact ⟨n,e,l.keep n h d⟩) (.cons ⟨i,rfl,l.den⟩ .nil)
theorem Mid.kid(m:Mid f ks (kids f) js ks2):Kid ks2 (wd f,nmF f,js) f:=by
 have h:=m.den;cases f with
 | one=>cases h;exact .one
 | seen ns=>cases h;exact .seen
 | sum ns f =>
  cases h with
  | cons a t=>cases t;obtain⟨n,rfl,d⟩:=a;exact .sum d
 | times x y =>
  cases h with
  | cons a t =>
   cases t with
   | cons b t=>cases t;obtain⟨n,rfl,d⟩:=a;obtain⟨k,rfl,e⟩:=b;exact .times d e
 | over x y =>
  cases h with
  | cons a t =>
   cases t with
   | cons b t=>cases t;obtain⟨n,rfl,d⟩:=a;obtain⟨k,rfl,e⟩:=b;exact .over d e
def eU:Sp':=fun vs H Q _=>match vs with
 | [v]=>∃f,v=fV f/\Q (.tup ((nmF f).map PV.int)) H
 | _=>False
theorem v8:eU [v] H Q E=∃f,v=fV f/\Q (.tup ((nmF f).map PV.int)) H:=rfl
def eL:Sp':=fun vs H Q _=>match vs with
 | [v]=>∃f,v=fV f/\∀p,H p=none->Q (.ref p) (put H p (.lst ((kids f).map fV)))
 | _=>False
theorem wI:eL [v] H Q E=∃f,v=fV f/\∀p,H p=none->Q (.ref p) (put H p (.lst ((kids f).map fV))):=rfl
def cQ(P:Program)(w:World)(n:Nat):Sp':=fun vs H Q _=>match vs with
 | [v,.ref d]=>∃f ks N,v=fV f/\dp f<n/\Ok f/\H d=some (.dN P w ks)/\All N ks/\ks.length+sz f<900/\∀(i:Nat) ks',Laid f ks i ks'->Q (.int i) (put H d (.dN P w ks'))
 | _=>False
theorem Cs:cQ P w n [v,.ref d] H Q E=∃f ks N,v=fV f/\dp f<n/\Ok f/\H d=some (.dN P w ks)/\All N ks/\ks.length+sz f<900/\∀(i:Nat) ks',Laid f ks i ks'->Q (.int i) (put H d (.dN P w ks')):=rfl
def gW:Sp':=fun vs H Q _=>match vs with
 | [v]=>∃f,v=fV f/\dp f≤44/\Ok f/\sz f<900/\∀r (i:Nat) ks,H r=none->Laid f [] i ks->Q (.ref r) (put H r (.lst (ks.map ndV)))
 | _=>False
theorem Bl:gW [v] H Q E=∃f,v=fV f/\dp f≤44/\Ok f/\sz f<900/\∀r (i:Nat) ks,H r=none->Laid f [] i ks->Q (.ref r) (put H r (.lst (ks.map ndV))):=rfl
def eP:Sp':=fun vs H Q _=>match vs with
 | [.ref a]=>∃ks N,H a=some (.lst (ks.map ndV))/\All N ks/\ks.length<900/\∀r os,H r=none->os.length=ks.length->bW ks os->Q (.ref r) (put H r (.lst (os.map nsV)))
 | _=>False
theorem wY:eP [.ref a] H Q E=∃ks N,H a=some (.lst (ks.map ndV))/\All N ks/\ks.length<900/\∀r os,H r=none->os.length=ks.length->bW ks os->Q (.ref r) (put H r (.lst (os.map nsV))):=rfl
def CO(f:F)(ms:List Int):Prop:=ms.Pairwise (·<·)/\∀x,x∈ms↔Op f x
def oF:Sp':=fun vs H Q _=>match vs with
 | [v]=>∃f,v=fV f/\dp f≤44/\Ok f/\sz f<900/\∀ms,CO f ms->Q (.tup (ms.map PV.int)) H
 | _=>False
theorem FO:oF [v] H Q E=∃f,v=fV f/\dp f≤44/\Ok f/\sz f<900/\∀ms,CO f ms->Q (.tup (ms.map PV.int)) H:=rfl
def gC:Sp':=fun vs H Q _=>match vs with
 | [.fls l,.int k]=>(0≤k/\k<100)/\∃ns:List Int,l=ns.map PV.int/\Q (.int (ns.getD k.toNat 0)) H
 | _=>False
theorem ze:gC [.fls l,.int k] H Q E=((0≤k/\k<100)/\∃ns:List Int,l=ns.map PV.int/\Q (.int (ns.getD k.toNat 0)) H):=rfl
def Nn(xs:List Int):Prop:=∀x∈xs,0≤x
def dz:Sp':=fun vs H Q _=>match vs with
 | [.fls l,.int k,.int n]=>n=2/\(0≤k/\k<2)/\∃ns:List Int,l=ns.map PV.int/\∀p (xs:List Int),H p=none->xs.length=90->Nn xs->Q (.ref p) (put H p (.lst (xs.map PV.int)))
 | _=>False
theorem sY:dz [.fls l,.int k,.int n] H Q E=(n=2/\(0≤k/\k<2)/\∃ns:List Int,l=ns.map PV.int/\∀p (xs:List Int),H p=none->xs.length=90->Nn xs->Q (.ref p) (put H p (.lst (xs.map PV.int)))):=rfl
def oO:Sp':=fun vs H Q _=>match vs with
 | [.int d,.int c]=>(0≤d/\1≤c/\c≤6)/\∀L:List Int,Nm L->(∀x∈L,x<c)->Q (.tup (L.map PV.int)) H
 | _=>False
theorem FU:oO [.int d,.int c] H Q E=((0≤d/\1≤c/\c≤6)/\∀L:List Int,Nm L->(∀x∈L,x<c)->Q (.tup (L.map PV.int)) H):=rfl
def need:Nat->Nat
 | 0=>0
 | n+1=>2*need n+1
def bJ(n:Nat):Sp':=fun vs H Q _=>match vs with
 | [.ref p,.int c,.int d]=>(d+1=(n:Nat)/\0≤d)/\(1≤c/\c≤6)/\∃xs:List Int,H p=some (.lst (xs.map PV.int))/\Nn xs/\need n≤xs.length /\
  ∀f (ys:List Int),Ok f->WM.In c.toNat f->dp f<n->sz f≤need n->Nn ys->xs.length≤ys.length+need n->Q (fV f) (put H p (.lst (ys.map PV.int)))
 | _=>False
theorem xI:bJ n [.ref p,.int c,.int d] H Q E=((d+1=(n:Nat)/\0≤d)/\(1≤c/\c≤6)/\∃xs:List Int,H p=some (.lst (xs.map PV.int))/\Nn xs/\need n≤xs.length /\
  ∀f (ys:List Int),Ok f->WM.In c.toNat f->dp f<n->sz f≤need n->Nn ys->xs.length≤ys.length+need n->Q (fV f) (put H p (.lst (ys.map PV.int)))):=rfl
theorem j8(s:U.Sub A B)(h:B x=some o):U.Sub (put A x o) B:=fun a u e=>by
 by_cases q:a=x
 ·subst q;rw[ai]at e;cases e;exact h
 ·rw[ao q]at e;exact s a u e
theorem iA(s:∀a u,a≠x->A a=some u->B a=some u)(h:B x=some o):U.Sub (put A x o) B:=fun a u e=>by
 by_cases q:a=x
 ·subst q;rw[ai]at e;cases e;exact h
 ·rw[ao q]at e;exact s a u q e
theorem fm{a b:Int}(h:0<b):0≤a.fmod b/\a.fmod b<b:=by
 rw[Int.fmod_eq_emod_of_nonneg _ (by omega)];exact⟨Int.emod_nonneg _ (by omega),Int.emod_lt_of_pos _ h⟩
theorem fd{a b:Int}(h0:0≤a)(h:0<b):0≤a.fdiv b:=by
 rw[JB _ (by omega)];exact Int.ediv_nonneg h0 (by omega)
theorem lC(h:j≠0)(f:j.natAbs<2 ^ 64):jy i j:=⟨h,(show My.BN 64 j from f).fit (by decide)⟩
theorem kP:∀(l:List Nat) (i:Nat),(l.take i).sum≤l.sum
 | [],i=>by simp
 | x::l,0=>by simp
 | x::l,i+1=>by
  have:=kP l i;simp only[List.take_succ_cons,List.sum_cons];omega
theorem fM{l:List Int}:(l.map PV.int).all (flat 8)=true:=by
 rw[Ib];intro z hz;obtain⟨p,_,rfl⟩:=Hw.mp hz;rfl
theorem wq{l:List Int}:((l.map PV.int).any fun z=>deq z (.int n))=decide (n∈l):=by
 rw[Kb,List.any_eq_true,Jn];constructor
 ·rintro⟨z,hz,e⟩;obtain⟨p,hp,rfl⟩:=Hw.mp hz;have:p=n:=by simpa[deq]using e
  rw[←this];exact hp
 ·intro h;exact⟨_,Hw.mpr ⟨_,h,rfl⟩,by simp[deq]⟩
theorem cR{x:Int}:∀{f:F},Ok f->Op f x->0≤x/\x<6
 | .one,_,h=>h.elim
 | .seen _,o,h=>o.2 _ h
 | .sum _ _,o,h=>cR o.2 h.1
 | .times _ _,o,h=>h.elim (cR o.1) (cR o.2)
 | .over _ _,o,h=>h.elim (cR o.1) (cR o.2)
def b0(nd:Nd):List Int:=if nd.1==("seen":Str)then nd.2.1 else []
def bd(nd:Nd):List Int:=if nd.1==("sum":Str)then nd.2.1 else []
def oG(os:List (List Int))(p:Int):List Int:=os.getD p.toNat []
theorem lO{os:List (List Int)}(ho:bW ks os)(hj:j<os.length)(d:Den ks j g):∀x,x∈oG os (j:Int)↔Op g x:=by
 intro x;unfold oG;rw[Int.toNat_natCast,Hq,Hn hj];exact(ho.at (Hn hj) d).2 x
theorem zZ{os:List (List Int)}(ho:bW ks os)(all:All N ks)(hj:j<os.length):(oG os (j:Int)).length≤6:=by
 unfold oG;rw[Int.toNat_natCast,Hq,Hn hj];obtain⟨g,d,up,iff⟩:=ho j _ (Hn hj);obtain⟨g2,d2,_,o⟩:=all j d.lt;rw[d2.uniq d]at o;exact My.cj 6 _ (up.imp fun h=>by omega) fun x hx=>cR o ((iff x).mp hx)
structure NodeOk (os:List (List Int)) (nd:Nd) (f:F):Prop where
 pl:∀p∈nd.2.2,∃j:Nat,p=(j:Int)/\j<os.length
 len:nd.2.2.length≤2
 op:∀x,(x∈b0 nd++nd.2.2.flatMap (oG os)/\x∉bd nd)↔Op f x
 lo:∀x∈b0 nd++nd.2.2.flatMap (oG os),0≤x/\x<6
 lob:∀x∈bd nd,0≤x/\x<6
 bl:(b0 nd).length≤6
theorem vY{os:List (List Int)}(ho:bW ks os)(d:Den ks os.length f)(h:ks[os.length]?=some nd)(ok:Ok f):NodeOk os nd f:=by
 cases d with
 | one h2 =>
  rw[h]at h2;cases h2;exact⟨fun p hp=>(by cases hp),(by decide),fun x=>⟨fun q=>(by cases q.1),fun q=>q.elim⟩,fun x hx=>(by cases hx),fun x hx=>(by cases hx),by decide⟩
 | seen h2 =>
  rw[h]at h2;cases h2;rename_i ns;have e:b0 (("seen":Str),ns,([]:List Int))=ns:=rfl;have e2:bd (("seen":Str),ns,([]:List Int))=[]:=rfl;refine⟨fun p hp=>(by cases hp),by simp,fun x=>?_,fun x hx=>?_,fun x hx=>(by rw[e2]at hx;cases hx),by rw[e];exact My.cj 6 _ (ok.1.imp fun h=>by omega) ok.2⟩
  ·rw[e,e2];simp[Op]
  ·rw[e]at hx;exact ok.2 x (by simpa using hx)
 | sum h2 hj dj =>
  rw[h]at h2;cases h2;rename_i j ns g;have e:b0 (("sum":Str),ns,[(j:Int)])=[]:=rfl;have e2:bd (("sum":Str),ns,[(j:Int)])=ns:=rfl;have og:=lO ho hj dj;refine⟨fun p hp=>⟨j,Hx.mp hp,hj⟩,by simp,fun x=>?_,fun x hx=>?_,fun x hx=>(by rw[e2]at hx;exact ok.1.2 x hx),by rw[e];decide⟩
  ·rw[e,e2];simp only[List.nil_append,Jo,List.flatMap_nil,IF,Op,og]
  ·rw[e]at hx;simp only[List.nil_append,Jo,List.flatMap_nil,IF]at hx;exact cR ok.2 ((og x).mp hx)
 | times h2 hj hk dj dk =>
  rw[h]at h2;cases h2;rename_i j k a b;have e:b0 (("times":Str),([]:List Int),[(j:Int),(k:Int)])=[]:=rfl;have e2:bd (("times":Str),([]:List Int),[(j:Int),(k:Int)])=[]:=rfl;have oj:=lO ho hj dj;have ok':=lO ho hk dk;refine⟨fun p hp=>?_,by simp,fun x=>?_,fun x hx=>?_,fun x hx=>(by rw[e2]at hx;cases hx),by rw[e];decide⟩
  ·rcases Hy.mp hp with rfl | hp
   ·exact⟨j,rfl,hj⟩
   ·exact⟨k,Hx.mp hp,hk⟩
  ·rw[e,e2];simp only[List.nil_append,Jo,List.flatMap_nil,IF,Ii,Il,not_false_eq_true,and_true,Op,oj,ok']
  ·rw[e]at hx;simp only[List.nil_append,Jo,List.flatMap_nil,IF,Ii,oj,ok']at hx;exact hx.elim (cR ok.1) (cR ok.2)
 | over h2 hj hk dj dk =>
  rw[h]at h2;cases h2;rename_i j k a b;have e:b0 (("over":Str),([]:List Int),[(j:Int),(k:Int)])=[]:=rfl;have e2:bd (("over":Str),([]:List Int),[(j:Int),(k:Int)])=[]:=rfl;have oj:=lO ho hj dj;have ok':=lO ho hk dk;refine⟨fun p hp=>?_,by simp,fun x=>?_,fun x hx=>?_,fun x hx=>(by rw[e2]at hx;cases hx),by rw[e];decide⟩
  ·rcases Hy.mp hp with rfl | hp
   ·exact⟨j,rfl,hj⟩
   ·exact⟨k,Hx.mp hp,hk⟩
  ·rw[e,e2];simp only[List.nil_append,Jo,List.flatMap_nil,IF,Ii,Il,not_false_eq_true,and_true,Op,oj,ok']
  ·rw[e]at hx;simp only[List.nil_append,Jo,List.flatMap_nil,IF,Ii,oj,ok']at hx;exact hx.elim (cR ok.1) (cR ok.2)
def onI(q:Int->Bool)(y:PV):Bool:=match y with | .int u=>q u | _=>false
theorem fX{q:Int->Bool}:∀{l:List Int},((l.map PV.int).filter (onI q)).map (fun x=>x)=(l.filter q).map PV.int
 | []=>rfl
 | k::l=>by
  have e:onI q (PV.int k)=q k:=rfl;have ih:=fX (q:=q) (l:=l);rw[List.map_id'' (fun _=>rfl)]at ih ⊢;rw[HV,List.filter_cons,List.filter_cons,e];by_cases h:q k=true
  ·rw[HP h,HP h,HV,ih]
  ·rw[HM h,HM h,ih]
def ulN(c:Int):List Int:=(List.range c.toNat).map fun k=>((k:Nat):Int)
theorem CS(c:Int):(ulN c).Pairwise (·<·):=by
 unfold ulN;rw[List.pairwise_map];exact List.pairwise_lt_range.imp fun h=>by omega
theorem jD:x∈ulN c↔0≤x/\x<c:=by
 unfold ulN;simp only[Hw,IJ];constructor
 ·rintro⟨k,hk,rfl⟩;omega
 ·intro h;exact⟨x.toNat,by omega,by omega⟩
theorem A2:bG 0 c.toNat=(ulN c).map PV.int:=by
 unfold bG ulN;rw[HY];refine Ie fun k _=>?_;show PV.int (0+((k:Nat):Int))=PV.int ((k:Nat):Int);rw[Int.zero_add]
theorem A6:(ulN c).length=c.toNat:=by unfold ulN;rw[Hm,JT]
theorem xo{xs:List Int}(h:0<xs.length):∃y,(xs.map PV.int)[(xs.map PV.int).length - 1]?=some (.int y)/\y∈xs/\(xs.map PV.int).dropLast=xs.dropLast.map PV.int/\xs.dropLast.length+1=xs.length/\∀z∈xs.dropLast,z∈xs:=by
 have hl:xs.length - 1<xs.length:=by omega
 refine⟨xs[xs.length - 1],?_,IH _,?_,?_,fun z hz=>List.dropLast_subset _ hz⟩
 ·rw[Hm,Ht,Hn hl];rfl
 ·rw[List.map_dropLast]
 ·rw[JN];omega
theorem eX{x:PV}(h:l[l.length - 1]?=some x):atI l (-1)=some x:=by
 have hl:0<l.length:=by
  cases l with
  | nil=>cases h
  | cons a b=>simp
 unfold atI ixN;rw[HM (by omega),HP (by omega)];show l[((-1:Int)+(l.length:Int)).toNat]?=some x;rw[show((-1:Int)+(l.length:Int)).toNat=l.length - 1 by omega];exact h
theorem aR(Pv:Nat->St'->PHp->Prop)(hd:∀σ H,Pv xs.length σ H->ok H/\D.nx σ H)
  (hs:∀(D':cF) i x σ H,xs[i]?=some x->Pv i σ H->(∀σ' H',Pv (i+1) σ' H'->D'.nx σ' H')->ok H/\g x σ H fun σ2 H2=>tb D' σ2 H2)
  {σ:St'} {H:PHp} (h0:Pv 0 σ H):cS ok g tb D xs σ H:=rL Pv hd (fun G i x σ H hx p k=>hs _ i x σ H hx p k) h0
theorem qC{lo:Int}(Pv:Nat->St'->PHp->Prop)(hd:∀σ H,Pv n σ H->ok H/\D.nx σ H)
  (hs:∀(D':cF) i σ H,i<n->Pv i σ H->(∀σ' H',Pv (i+1) σ' H'->D'.nx σ' H')->ok H/\g (.int (lo+(i:Nat))) σ H fun σ2 H2=>tb D' σ2 H2)
  {σ:St'} {H:PHp} (h0:Pv 0 σ H):cS ok g tb D (bG lo n) σ H:=vm Pv hd (fun G i σ H hi p k=>hs _ i σ H hi p k) h0
theorem qe{js:List Int}{h:Int->List Int}(e:js[i]?=some p):(js.take (i+1)).flatMap h=(js.take i).flatMap h++h p:=by
 rw[Ip,e,List.flatMap_append];simp
theorem tF{js:List Int}{h:Int->List Int}(hl:∀p∈js,(h p).length≤6):(js.flatMap h).length≤6*js.length:=by
 induction js with
 | nil=>simp
 | cons p js ih =>
  have h1:=hl p HL;have h2:=ih fun q hq=>hl q (HH _ hq);rw[Jo,HN,Ig];omega
theorem jI{os:List (List Int)}(h:j<os.length):atI (os.map nsV) (j:Int)=some (.tup ((oG os (j:Int)).map PV.int)):=by
 unfold atI ixN;rw[HP (by omega),HP (by rw[Hm];omega)];show(os.map nsV)[((j:Nat):Int).toNat]?=_;unfold oG;rw[Int.toNat_natCast,Ht,Hn h,Hq,Hn h];rfl
theorem xH{lo hi:Int}(h:y∈eZ lo (by2 lo hi)):∃u,y=.int u/\lo≤u/\u<hi:=by
 unfold eZ at h;obtain⟨k,hk,rfl⟩:=Hw.mp h;rw[IJ]at hk;unfold by2 at hk;exact⟨_,rfl,by omega,by omega⟩
theorem tJ{lo hi:Int}(h0:0≤lo)(h1:hi≤63):(eZ lo (by2 lo hi)).length≤1000:=by
 unfold eZ by2;rw[Hm,JT];omega
def gI(ns:List Int)(y:PV):Int:=match y with | .int u=>ns.getD u.toNat 0 | _=>0
theorem Aj(h:Nn xs)(hx:0≤x):Nn (xs++[x]):=fun z hz=>by
 rcases Ii.mp hz with hz | hz
 ·exact h z hz
 ·rw[Hx.mp hz];exact hx
theorem Af(h:0≤x/\x<6):Nm [x]:=⟨List.pairwise_singleton _ _,fun z hz=>by rw[Hx.mp hz];exact h⟩
theorem ix2(h0:0≤d)(h:d<2):(d=0/\atI [PV.str "times",PV.str "over"] d=some (.str "times"))∨(d=1/\atI [PV.str "times",PV.str "over"] d=some (.str "over")):=by
 have:d=0∨d=1:=by omega
 rcases this with rfl | rfl
 ·exact .inl ⟨rfl,rfl⟩
 ·exact .inr ⟨rfl,rfl⟩
theorem F9{P:List Value->Prop}(h:∀a b c d e,P [a,b,c,d,e])(us:List Value)(hl:us.length=5):P us:=by
 cases us with
 | nil=>exact absurd hl.symm (J4 _)
 | cons a r=>exact CV (P:=fun r=>P (a::r)) (h a) r (J1 hl)
theorem F0{P:List Value->Prop}(h:∀a b c d e f,P [a,b,c,d,e,f])(us:List Value)(hl:us.length=6):P us:=by
 cases us with
 | nil=>exact absurd hl.symm (J4 _)
 | cons a r=>exact F9 (P:=fun r=>P (a::r)) (h a) r (J1 hl)
theorem dR(I:Nat->St'->PHp->Prop)
  (hs:∀(i:Nat) (x:PV) (σ:St') (H:PHp) (R:St'->PHp->Prop),xs[i]?=some x->I i σ H->(∀σ' H',I (i+1) σ' H'->R σ' H') ->
   ok H/\g x σ H fun σ3 H2=>tt σ3 H2 fun b H3=>cif b (te σ3 H3 fun y H4=>∃l',H4 acc=some (.lst l')/\l'.length<sizeLine/\R σ3 (put H4 acc (.lst (l'++[y])))) (R σ3 H3))
  (hq:∀σ H,I xs.length σ H->ok H/\Q (.ref acc) H) {σ:St'} {H:PHp} (h0:I 0 σ H):cZ ok g tt te acc Q xs σ H:=by
 have key:∀(r d:List PV) (σ:St') (H:PHp),xs=d++r->I d.length σ H->cZ ok g tt te acc Q r σ H:=by
  intro r
  induction r with
  | nil =>
   intro d σ H e hv;rw[IF]at e;subst e;exact hq σ H hv
  | cons x r ih =>
   intro d σ H e hv;refine hs d.length x σ H _ (by rw[e];simp) hv fun σ' H' h'=>?_;exact ih (d++[x]) σ' H' (by rw[e];simp) (by rw[HN];exact h')
 exact key xs [] σ H rfl h0
def prV(p:Int×Int):PV:=.tup [.int p.1,.int p.2]
def fr(q:Rat):PV:=.tup [.int q.num,.int (q.den:Int)]
def Bt(n:Nat)(q:Rat):Prop:=0<q/\q.num.natAbs≤2 ^ n/\q.den≤2 ^ n
theorem bnL(h:i.natAbs≤2 ^ n)(hn:n<m):My.BN m i:=Nat.lt_of_le_of_lt h (Nat.pow_lt_pow_right (by decide) hn)
theorem je(h0:0≤a)(h:a≤b)(hb:My.BN n b):My.BN n a:=Nat.lt_of_le_of_lt (by omega) hb
theorem kx(h0:0<a)(hb:0<b)(h:a ∣ b)(q:My.BN n b):My.BN n a:=je (by omega) (Int.le_of_dvd hb h) q
theorem uo(h:My.BN 8900 i):Fit i:=h.fit (by decide)
theorem oZ(h0:0<j)(h:My.BN 8900 j):jy i j:=⟨by omega,uo h⟩
theorem cV(h:Bt n q):0<q.num:=by
 have a:=Rat.num_nonneg.mpr (JL h.1);have b:q.num≠0:=fun z=>by have:=Rat.num_eq_zero.mp z;rw[this]at h;exact Rat.lt_irrefl h.1
 omega
def gO:Sp':=fun vs H Q _=>match vs with
 | [.int a,.int b]=>(0≤a/\0≤b)/\Q (.int (My.gd a b)) H
 | _=>False
theorem BD:gO [.int a,.int b] H Q E=((0≤a/\0≤b)/\Q (.int (My.gd a b)) H):=rfl
def bj:Sp':=fun vs H Q _=>match vs with
 | [.int a,.int b]=>(0≤a/\0<b/\My.BN 8900 b)/\Q (fr (Rat.divInt a b)) H
 | _=>False
theorem mI:bj [.int a,.int b] H Q E=((0≤a/\0<b/\My.BN 8900 b)/\Q (fr (Rat.divInt a b)) H):=rfl
def fk:Sp':=fun vs H Q _=>match vs with
 | [u,v]=>∃a b,u=fr a/\v=fr b/\Bt 4000 a/\Bt 4000 b/\Q (fr (a*b)) H
 | _=>False
theorem wG:fk [u,v] H Q E=∃a b,u=fr a/\v=fr b/\Bt 4000 a/\Bt 4000 b/\Q (fr (a*b)) H:=rfl
def gK:Sp':=fun vs H Q _=>match vs with
 | [u,v]=>∃a b,u=fr a/\v=fr b/\Bt 4000 a/\Bt 4000 b/\Q (fr (a / b)) H
 | _=>False
theorem An:gK [u,v] H Q E=∃a b,u=fr a/\v=fr b/\Bt 4000 a/\Bt 4000 b/\Q (fr (a / b)) H:=rfl
def CB(qs:List Rat)(C:Nat):Prop:=0<C/\C≤2 ^ 8000/\∀q∈qs,q.den ∣ C
def gD:Sp':=fun vs H Q _=>match vs with
 | [.ref a]=>∃(qs:List Rat) (C:Nat),H a=some (.lst (qs.map fr))/\CB qs C/\∀B:Int,0<B->B ∣ (C:Int)->(∀q∈qs,(q.den:Int) ∣ B)->Q (.int B) H
 | _=>False
theorem yU:gD [.ref a] H Q E=∃(qs:List Rat) (C:Nat),H a=some (.lst (qs.map fr))/\CB qs C/\∀B:Int,0<B->B ∣ (C:Int)->(∀q∈qs,(q.den:Int) ∣ B)->Q (.int B) H:=rfl
def gF:Sp':=fun vs H Q _=>match vs with
 | [.ref a,.int B]=>∃qs:List Rat,H a=some (.lst (qs.map fr))/\qs.length≤1000/\(0<B/\My.BN 8900 B)/\(∀q∈qs,(q.den:Int) ∣ B/\My.BN 8900 q.num)/\∀p,H p=none->Q (.ref p) (put H p (.lst ((qs.map fun q=>q.num*B.fdiv q.den).map PV.int)))
 | _=>False
theorem Ag:gF [.ref a,.int B] H Q E=∃qs:List Rat,H a=some (.lst (qs.map fr))/\qs.length≤1000/\(0<B/\My.BN 8900 B)/\(∀q∈qs,(q.den:Int) ∣ B/\My.BN 8900 q.num)/\∀p,H p=none->Q (.ref p) (put H p (.lst ((qs.map fun q=>q.num*B.fdiv q.den).map PV.int))):=rfl
def dS:Sp':=fun vs H Q _=>match vs with
 | [.ref a]=>∃(qs:List Rat) (C:Nat),H a=some (.lst (qs.map fr))/\qs.length≤1000/\CB qs C/\(∀q∈qs,0<q/\My.BN 8900 q.num)/\Q (fr (aZ qs)) H
 | _=>False
theorem uA:dS [.ref a] H Q E=∃(qs:List Rat) (C:Nat),H a=some (.lst (qs.map fr))/\qs.length≤1000/\CB qs C/\(∀q∈qs,0<q/\My.BN 8900 q.num)/\Q (fr (aZ qs)) H:=rfl
theorem jQ{a b:Int}(ha:0≤a)(hb:0<b):0≤a.fdiv b/\a.fdiv b≤a:=by
 rw[JB _ (by omega)];exact⟨Int.ediv_nonneg ha (by omega),Int.ediv_le_self _ ha⟩
theorem rV(hb:0<b):fr (Rat.divInt a b)=.tup [.int (a.fdiv (My.gd a b)),.int (b.fdiv (My.gd a b))]:=by
 have:=WM.AZ (a:=a) hb;unfold WM.rp at this;unfold fr;rw[←(Prod.mk.inj this).1,← (Prod.mk.inj this).2]
theorem zU{B b s:Int}(hB:0<B)(hb:0<b)(h1:B ∣ s)(h2:b ∣ s):0<B.fdiv (My.gd B b)*b/\B ∣ B.fdiv (My.gd B b)*b/\b ∣ B.fdiv (My.gd B b)*b/\B.fdiv (My.gd B b)*b ∣ s:=by
 have g1:=My.jJ B b (by omega);have e:=My.zg (a:=B) (g:=My.gd B b) (by omega) (My.qK B b);have x0:0≤B.fdiv (My.gd B b):=Int.fdiv_nonneg (by omega) (by omega);have x1:0<B.fdiv (My.gd B b):=by
  rcases Int.lt_or_eq_of_le x0 with h | h
  ·exact h
  ·rw[←h,Int.mul_zero]at e;omega
 have hl:((Int.lcm B b:Nat):Int)=B.fdiv (My.gd B b)*b:=by
  have q:Int.gcd B b*Int.lcm B b=B.natAbs*b.natAbs:=Int.gcd_mul_lcm B b;have q2:My.gd B b*((Int.lcm B b:Nat):Int)=B*b:=by
   unfold My.gd;rw[←Int.natCast_mul,q,Int.natCast_mul,Int.natAbs_of_nonneg (Int.le_of_lt hB),Int.natAbs_of_nonneg (Int.le_of_lt hb)]
  refine Int.eq_of_mul_eq_mul_left (show My.gd B b≠0 by omega) ?_;rw[q2,← Int.mul_assoc,← e]
 refine⟨Int.mul_pos x1 hb,?_,⟨B.fdiv (My.gd B b),by rw[Int.mul_comm]⟩,?_⟩
 ·rw[←hl];exact Int.dvd_lcm_left _ _
 ·rw[←hl];exact Int.coe_lcm_dvd h1 h2
theorem rQ{a b:Int}(hb:0<b)(h:a.fmod b=0):b ∣ a:=by
 rw[Int.fmod_eq_emod_of_nonneg _ (by omega)]at h;exact Int.dvd_of_emod_eq_zero h
def fT(B:Int)(y:PV):PV:=match y with | .tup [.int a,.int b]=>.int (a*B.fdiv b) | _=>.non
theorem oJ:∀{l:List Int},(∀x∈l,0≤x)->0≤l.sum
 | [],_=>by simp
 | x::l,h=>by
  have a:=h x HL;have b:=oJ (l:=l) fun y hy=>h y (HH _ hy);rw[List.sum_cons];omega
theorem j3(h:n≤100000):n≤sizeLine:=by rw[IA];omega
theorem GX:bG 0 n=(List.range n).map fun k=>PV.int (k:Nat):=by
 unfold bG;refine Ie fun k _=>?_;rw[Int.zero_add]
theorem iO:bG 0 n.toNat=(WM.rgI n).map PV.int:=by rw[GX];unfold WM.rgI;rw[HY];rfl
theorem jA{i:Nat}{y:PV}(h:(eO xs)[i]?=some y):∃x,xs[i]?=some x/\y=.tup [.int (i:Nat),x]:=by
 unfold eO at h;rw[List.getElem?_mapIdx]at h;cases e:xs[i]? with
 | none=>rw[e]at h;cases h
 | some x=>rw[e]at h;exact⟨x,rfl,(Im h).symm⟩
def fC(u:List Int)(y:PV):PV:=match y with | .int k=>tI (u++[k]) | _=>.non
theorem xS:fC u (.int k)=.tup (u.map PV.int++[.int k]):=by
 show PV.tup ((u++[k]).map PV.int)=_;rw[HW];rfl
theorem yz{u cs:List Int}:(((cs.map PV.int).filter fun _=>true).map (fC u))=(cs.map fun k=>u++[k]).map tI:=by
 rw[Js.mpr (fun _ _=>rfl),HY,HY];rfl
theorem jT(h:n≤4):(WM.cho f i n).length≤4:=by
 unfold WM.cho WM.rgI;split
 ·simp
 ·rw[Hm,JT];omega
theorem mQ{told:List (List Int)}(h:cs.length≤4):(WM.stC told cs).length≤told.length*4:=by
 unfold WM.stC
 induction told with
 | nil=>simp
 | cons u r ih=>rw[Jo,HN,Hm,Ig];omega
theorem sW:∀{ns:List Int},(∀n∈ns,n≤4)->ns.length≤6->(WM.wC f ns).length≤4096:=fun {ns} h h6=>by
 have gen:∀ns:List Int,(∀n∈ns,n≤4)->(WM.wC f ns).length≤4 ^ ns.length:=by
  refine WM.snoc_ind (fun _=>by simp[WM.wC]) (fun l n ih h=>?_);rw[WM.d7];have a:=ih fun x hx=>h x (JM _ hx);have b:=mQ (told:=WM.wC f l) (jT (f:=f) (i:=l.length) (h n (IC _ HL)));rw[HN,IY,Nat.pow_succ];omega
 refine HZ (gen ns h) ?_;exact HZ (IK (by decide) h6) (by decide)
theorem rY:∀{ns:List Int} {u:List Int},u∈WM.wC f ns->u.length=ns.length:=fun {ns}=>by
 refine WM.snoc_ind (P:=fun ns=>∀{u:List Int},u∈WM.wC f ns->u.length=ns.length) (fun {u} h=>?_) (fun l n ih {u} h=>?_) ns
 ·have:u=[]:=by simpa[WM.wC]using h
  rw[this]
 ·rw[WM.d7]at h;unfold WM.stC at h;obtain⟨v,hv,hu⟩:=List.mem_flatMap.mp h;obtain⟨k,_,rfl⟩:=Hw.mp hu;rw[HN,HN,ih hv];rfl
theorem lJ:WM.stC (l++[u]) cs=WM.stC l cs++cs.map fun k=>u++[k]:=by
 unfold WM.stC;rw[List.flatMap_append];simp
theorem ui{i:Nat}(h:lkJ kvs (i:Int)=some v):WM.cho (lkJ kvs) i n=[v]:=by unfold WM.cho;rw[h]
theorem qR{i:Nat}(h:lkJ kvs (i:Int)=none):WM.cho (lkJ kvs) i n=WM.rgI n:=by unfold WM.cho;rw[h]
def Sz(ns:List Int):Prop:=ns.length≤6/\∀n∈ns,1≤n/\n≤4
def eA:Sp':=fun vs H Q _=>match vs with
 | [.ref a,.ref d]=>∃ns kvs,H a=some (.lst (ns.map PV.int))/\H d=some (.dK (dij kvs))/\Sz ns/\∀p H1,Sub H H1->H p=none->H1 p=some (.lst ((WM.wC (lkJ kvs) ns).map tI))->Q (.ref p) H1
 | _=>False
theorem vB:eA [.ref a,.ref d] H Q E=∃ns kvs,H a=some (.lst (ns.map PV.int))/\H d=some (.dK (dij kvs))/\Sz ns/\∀p H1,Sub H H1->H p=none->H1 p=some (.lst ((WM.wC (lkJ kvs) ns).map tI))->Q (.ref p) H1:=rfl
def gH:Sp':=fun vs H Q _=>match vs with
 | [.ref a]=>∃ns:List Int,H a=some (.lst (ns.map PV.int))/\Sz ns/\∀p H1,Sub H H1->H p=none->H1 p=some (.lst ((wys ns).map tI))->Q (.ref p) H1
 | _=>False
theorem A5:gH [.ref a] H Q E=∃ns:List Int,H a=some (.lst (ns.map PV.int))/\Sz ns/\∀p H1,Sub H H1->H p=none->H1 p=some (.lst ((wys ns).map tI))->Q (.ref p) H1:=rfl
def eB:Sp':=fun vs H Q _=>match vs with
 | [.ref a]=>∃ns:List Int,H a=some (.lst (ns.map PV.int))/\Sz ns/\∀p H1,Sub H H1->H p=none->H1 p=some (.lst ((wys ns).map tI))->Q (.ref p) H1
 | _=>False
theorem wb:eB [.ref a] H Q E=∃ns:List Int,H a=some (.lst (ns.map PV.int))/\Sz ns/\∀p H1,Sub H H1->H p=none->H1 p=some (.lst ((wys ns).map tI))->Q (.ref p) H1:=rfl
def Tells(kvs:List (Int×Int))(ns:List Int)(v:WM.Env):Prop:=∀n∈ns,lkJ kvs n=some (v n)
def jH:Sp':=fun vs H Q _=>match vs with
 | [.tup l,.ref d]=>∃ns kvs v,l=ns.map PV.int/\H d=some (.dK (dij kvs))/\ns.length≤6/\Tells kvs ns v/\Q (tI (ns.map v)) H
 | _=>False
theorem C5:jH [.tup l,.ref d] H Q E=∃ns kvs v,l=ns.map PV.int/\H d=some (.dK (dij kvs))/\ns.length≤6/\Tells kvs ns v/\Q (tI (ns.map v)) H:=rfl
def vI(v:WM.Env)(y:PV):PV:=match y with | .int n=>.int (v n) | _=>.non
theorem Bh:lkJ (bR kvs k x) n=if n=k then some x else lkJ kvs n:=by
 unfold bR;by_cases a:(kvs.any fun p=>decide (p.1=k))=true
 ·rw[HP a];unfold lkJ
  induction kvs with
  | nil=>simp at a
  | cons p r ih =>
   simp only[HV,IS];by_cases e:p.1=k
   ·rw[HP e];by_cases q:n=k
    ·simp[e,q]
    ·have h1:¬p.1=n:=fun z=>q (z.symm.trans e);have h2:¬k=n:=fun z=>q z.symm;simp only[e,h2,decide_false,h1,q,IU];by_cases ar:(r.any fun p=>decide (p.1=k))=true
     ·have:=ih ar;simpa[q]using this
     ·have er:(r.map fun p=>if p.1=k then(p.1,x)else p)=r:=by
       have:∀y∈r,(if y.1=k then(y.1,x)else y)=y:=fun y hy=>HM fun z=>ar (List.any_eq_true.mpr ⟨y,hy,ID z⟩);exact(Ie this).trans (List.map_id' r)
      rw[er]
   ·rw[HM e];rw[List.any_cons,Iz e,Bool.false_or]at a;by_cases q:p.1=n
    ·have:¬n=k:=fun z=>e (q.trans z);simp[q,this]
    ·simp only[q,decide_false];exact ih a
 ·rw[HM a];unfold lkJ;rw[List.find?_append];by_cases q:n=k
  ·subst q;have:kvs.find? (fun p=>decide (p.1=n))=none:=List.find?_eq_none.mpr fun y hy z=>a (List.any_eq_true.mpr ⟨y,hy,z⟩);rw[this];simp
  ·have h2:¬k=n:=fun z=>q z.symm;simp[h2,q]
theorem iQ:∀{a u:List Int} {kvs:List (Int×Int)},u.length=a.length->lkJ (upJ kvs (a.zip u)) n=if n∈a then some (WM.up v a u n)else lkJ kvs n:=fun {a}=>by
 induction a generalizing v with
 | nil=>intro u kvs hl;rfl
 | cons k a ih =>
  intro u kvs hl;cases u with
  | nil=>cases hl
  | cons x u =>
   show lkJ (upJ (bR kvs k x) (a.zip u)) n=if n∈k::a then some (WM.up (fun y=>if y=k then x else v y) a u n)else lkJ kvs n;rw[ih (v:=fun y=>if y=k then x else v y) (J1 hl),Bh];by_cases m:n∈a
   ·rw[HP m,HP (HH _ m)]
   ·rw[HM m];by_cases e:n=k
    ·rw[HP e,HP (by rw[e];exact HL),WM.fE m,HP e]
    ·rw[HM e,HM (fun z=>(Hy.mp z).elim e m)]
theorem yq:∀{a u:List Int} {acc:List (Int×Int)},dzJ acc a u=upJ acc (a.zip u)
 | [],u,acc=>by cases u<;>rfl
 | k::a,[],acc=>rfl
 | k::a,x::u,acc=>by show dzJ (bR acc k x) a u=upJ (bR acc k x) (a.zip u);exact yq
theorem zF:lkJ [] n=none:=rfl
theorem tS{v:WM.Env}(hn:n∈a):∀{v0:WM.Env},WM.up v0 a (a.map v) n=v n:=by
 induction a with
 | nil=>cases hn
 | cons k a ih =>
  intro v0;show WM.up (fun y=>if y=k then v k else v0 y) a (a.map v) n=v n;by_cases m:n∈a
  ·exact ih m
  ·rw[WM.fE m];have:n=k:=(Hy.mp hn).elim id fun z=>absurd z m;rw[this,HP rfl]
theorem yr{v:WM.Env}(n:Int):lkJ (dzJ [] a (a.map v)) n=if n∈a then some (v n)else none:=by
 rw[yq,iQ (v:=v) (by rw[Hm]),zF];by_cases m:n∈a
 ·rw[HP m,HP m,tS m]
 ·rw[HM m,HM m]
theorem ib{kvs:List (Int×Int)}{k x:Int}(h:k∉kvs.map (·.1)):bR kvs k x=kvs++[(k,x)]:=by
 unfold bR;rw[HM];intro z;obtain⟨y,hy,e⟩:=List.any_eq_true.mp z;exact h (Hw.mpr ⟨y,hy,Jm e⟩)
theorem qN:∀{a u:List Int} {acc:List (Int×Int)},u.length=a.length->a.Nodup->(∀n∈a,n∉acc.map (·.1))->dzJ acc a u=acc++a.zip u
 | [],[],acc,_,_,_=>by simp[dzJ]
 | k::a,x::u,acc,hl,nd,h=>by
  rw[Ka]at nd;show dzJ (bR acc k x) a u=_;rw[ib (h k HL),qN (J1 hl) nd.2 (fun n hn=>?_)]
  ·simp
  ·rw[HW];intro z;rcases Ii.mp z with z | z
   ·exact h n (HH _ hn) z
   ·have:n=k:=by simpa using z
    exact nd.1 (this▸hn)
theorem As(hl:u.length=a.length)(nd:a.Nodup):dzJ [] a u=a.zip u:=by
 rw[qN hl nd (fun _ _=>by simp)];rfl
theorem yY(hl:u.length=a.length)(nd:a.Nodup)(n:Int):lkJ (upJ kvs (dzJ [] a u)) n=if n∈a then some (WM.up v a u n)else lkJ kvs n:=by
 rw[As hl nd];exact iQ hl
def Gd(m:Nat)(g:F):Prop:=Ok g/\WM.In m g/\dp g≤3
structure Wc (ks:List Nd) (os:List (List Int)) (ns:List Int) (Tt:List Int→Rat):Prop where
 opn:bW ks os
 len:os.length=ks.length
 l9:ks.length<900
 sz:Sz ns
 wd:WM.Wd ns Tt
 w8:(wys ns).length≤8
 tb:∀w∈wys ns,(Tt w).num.natAbs≤2 ^ 67/\(Tt w).den≤2 ^ 14
def tab(ns:List Int)(Tt:List Int->Rat):List (List Int×PV):=(wys ns).map fun u=>(u,fr (Tt u))
def RkF(a1 a2 a3 a4:Addr):List (Str×PV):=[("nodes",.ref a1),("opens",.ref a2),("sizes",.ref a3),("table",.ref a4)]
def Rk(t:Ad)(P:Program)(w:World)(H:PHp)(x:Addr)(ks:List Nd)(os:List (List Int))(ns:List Int)(Tt:List Int->Rat):Prop :=
 ∃dx a1 a2 a3 a4 ep,H x=some (.ins t.a_A dx (RkF a1 a2 a3 a4))/\H a1=some (.lst (ks.map ndV))/\H a2=some (.lst (os.map nsV))/\H a3=some (.lst (ns.map PV.int))/\H a4=some (.dI P w (tab ns Tt) ep)
theorem Rk.up{os:List (List Int)}(r:Rk t P w H x ks os ns Tt)(s:Sub H H1):Rk t P w H1 x ks os ns Tt:=by
 obtain⟨dx,a1,a2,a3,a4,ep,h0,h1,h2,h3,h4⟩:=r;exact⟨dx,a1,a2,a3,a4,ep,s _ _ h0,s _ _ h1,s _ _ h2,s _ _ h3,s _ _ h4⟩
def inn(os:List (List Int))(ns:List Int)(nd:Nd)(v:WM.Env):List (Int×List Int) :=
 if nd.1==("sum":Str)then(wys (nd.2.1.map (szN ns))).map fun u=>(nd.2.2.headD 0,(oG os (nd.2.2.headD 0)).map (WM.up v nd.2.1 u))else nd.2.2.map fun p=>(p,(oG os p).map v)
def pkV(p:Int×List Int):PV:=.tup [.int p.1,tI p.2]
def dW(t:Ad)(P:Program)(w:World):Sp':=fun vs H Q _=>match vs with
 | [.ref x,.int j,.tup l]=>∃(ks:List Nd) (os:List (List Int)) (ns:List Int) (Tt:List Int->Rat) (n:Nat) (nd:Nd) (g:F) (v:WM.Env),j=(n:Nat)/\ks[n]?=some nd/\Den ks n g/\Gd ns.length g/\l=((oG os (n:Int)).map v).map PV.int/\Rk t P w H x ks os ns Tt/\Wc ks os ns Tt/\∀r H1,Sub H H1->H r=none->H1 r=some (.lst ((inn os ns nd v).map pkV))->Q (.ref r) H1
 | _=>False
theorem xB:dW t P w [.ref x,.int j,.tup l] H Q E=∃(ks:List Nd) (os:List (List Int)) (ns:List Int) (Tt:List Int->Rat) (n:Nat) (nd:Nd) (g:F) (v:WM.Env),j=(n:Nat)/\ks[n]?=some nd/\Den ks n g/\Gd ns.length g/\l=((oG os (n:Int)).map v).map PV.int/\Rk t P w H x ks os ns Tt/\Wc ks os ns Tt/\∀r H1,Sub H H1->H r=none->H1 r=some (.lst ((inn os ns nd v).map pkV))->Q (.ref r) H1:=rfl
theorem dG{ks:List Nd}{n:Nat}(h:ks[n]?=some nd):atI (ks.map ndV) (n:Int)=some (ndV nd):=by
 have hl:=(Hs.mp h).1;unfold atI ixN;rw[HP (by omega),HP (by rw[Hm];omega)];show(ks.map ndV)[((n:Nat):Int).toNat]?=_;rw[Int.toNat_natCast,Ht,h];rfl
theorem bU{os:List (List Int)}(wc:Wc ks os ns Tt)(d:Den ks n g)(ok:Ok g):(oG os (n:Int)).length≤6/\(oG os (n:Int)).Pairwise (·<·)/\∀x,x∈oG os (n:Int)↔Op g x:=by
 have hn:n<os.length:=by rw[wc.len];exact d.lt
 obtain⟨g2,d2,up,iff⟩:=wc.opn n _ (Hn hn);have e:=d2.uniq d;subst e;have eo:oG os (n:Int)=os[n]:=by unfold oG;rw[Int.toNat_natCast,Hq,Hn hn];rfl
 rw[eo];exact⟨My.cj 6 _ (up.imp fun h=>by omega) fun x hx=>cR ok ((iff x).mp hx),up,iff⟩
def fK(os:List (List Int))(v:WM.Env)(y:PV):PV:=match y with | .int q=>pkV (q,(oG os q).map v) | _=>.non
def fS(ns:List Int)(y:PV):PV:=match y with | .int q=>.int (szN ns q) | _=>.non
theorem qL{ns:List Int}{n:Int}(h0:0≤n)(h1:n<ns.length):atI (ns.map PV.int) n=some (.int (szN ns n)):=by
 have:=ki (m:=ns) (z:=n) h0 h1;exact this
def Kv(ks:List Nd)(os:List (List Int))(ns:List Int)(j:Nat)(key:List Int):Prop:=∃(nd:Nd) (g:F) (v:WM.Env),ks[j]?=some nd/\Den ks j g/\Gd ns.length g/\VR ns v/\key=(oG os (j:Int)).map v
def Okk(ks:List Nd)(os:List (List Int))(ns:List Int)(kss:List (List (List Int)))(j:Nat)(key:List Int):Prop:=∃(nd:Nd) (g:F) (v:WM.Env),ks[j]?=some nd/\Den ks j g/\Gd ns.length g/\VR ns v/\key=(oG os (j:Int)).map v/\∀pk∈inn os ns nd v,∃m:Nat,pk.1=(m:Int)/\m<j/\pk.2∈kss.getD m []
def fL(kss:List (List (List Int)))(m:Nat)(k:List Int):List (List (List Int)):=kss.set m (if k∈kss.getD m []then kss.getD m []else kss.getD m []++[k])
def tru(l:List (List Int)):List (List Int×PV):=l.map fun k=>(k,PV.bl true)
theorem iE:(tru l).map (·.1)=l:=by unfold tru;rw[HY];exact List.map_id'' (fun _=>rfl) l
theorem vy:cC (tru l) k (.bl true)=tru (if k∈l then l else l++[k]):=by
 unfold cC;rw[iE];by_cases h:k∈l
 ·rw[HP h,HP h];unfold tru;rw[HY];refine Ie fun x _=>?_;simp only[Function.comp];split<;>rfl
 ·rw[HM h,HM h];unfold tru;rw[HW];rfl
def Nk(P:Program)(w:World)(H:PHp)(r:Addr)(ds:List Addr)(kss:List (List (List Int))):Prop :=
 H r=some (.lst (ds.map PV.ref))/\ds.length=kss.length/\ds.Nodup/\r∉ds/\∀(j:Nat) d,ds[j]?=some d->∃ep,H d=some (.dI P w (tru (kss.getD j [])) ep)
theorem qO{α:Type}{l:List α}{x d:α}(h:i<l.length):(l.set i x).getD j d=if j=i then x else l.getD j d:=by
 rw[Hq,List.getElem?_set];by_cases e:i=j
 ·rw[HP e,HP e.symm,HP h];rfl
 ·rw[HM e,HM (fun z=>e z.symm),Hq]
theorem de(h:m<kss.length):(fL kss m k).getD j []=if j=m then(if k∈kss.getD m []then kss.getD m []else kss.getD m []++[k])else kss.getD j []:=qO h
theorem iB:(fL kss m k).length=kss.length:=by unfold fL;rw[List.length_set]
theorem nV(h:m<kss.length):k∈(fL kss m k).getD m []:=by
 rw[de h,HP rfl];split
 ·assumption
 ·exact IC _ HL
theorem d8(h:m<kss.length)(hx:x∈kss.getD j []):x∈(fL kss m k).getD j []:=by
 rw[de h];by_cases e:j=m
 ·rw[HP e];subst e;split
  ·exact hx
  ·exact JM _ hx
 ·rw[HM e];exact hx
theorem iD(h:m<kss.length)(hx:x∈(fL kss m k).getD j []):x∈kss.getD j []∨(j=m/\x=k):=by
 rw[de h]at hx;by_cases e:j=m
 ·rw[HP e]at hx;subst e;split at hx
  ·exact .inl hx
  ·rcases Ii.mp hx with q | q
   ·exact .inl q
   ·exact .inr ⟨rfl,Hx.mp q⟩
 ·rw[HM e]at hx;exact .inl hx
theorem oP(h:m<kss.length)(nd:∀j,(kss.getD j []).Nodup):∀j,((fL kss m k).getD j []).Nodup:=fun j=>by
 rw[de h];by_cases e:j=m
 ·rw[HP e];split
  ·exact nd m
  ·rename_i hk;exact List.nodup_append.mpr ⟨nd m,by simp,fun a ha b hb e=>hk (by rw[←Hx.mp hb,← e];exact ha)⟩
 ·rw[HM e];exact nd j
theorem Okk.up{os:List (List Int)}(h:Okk ks os ns kss j key)(s:∀m x,x∈kss.getD m []->x∈kss'.getD m []):Okk ks os ns kss' j key:=by
 obtain⟨nd,g,v,h1,h2,h3,h4,h5,h6⟩:=h;refine⟨nd,g,v,h1,h2,h3,h4,h5,fun pk hp=>?_⟩;obtain⟨m,e,l,q⟩:=h6 pk hp;exact⟨m,e,l,s m _ q⟩
theorem i4{α:Type}[DecidableEq α]:∀{l m:List α},l.Nodup->(∀x∈l,x∈m)->l.length≤m.length
 | [],_,_,_=>JG _
 | x::l,m,nd,h=>by
  rw[Ka]at nd;have hx:=h x HL;have:=i4 (l:=l) (m:=m.erase x) nd.2 fun y hy=>(List.mem_erase_of_ne (fun e=>nd.1 (by rw[←e];exact hy))).mpr (h y (HH _ hy));rw[List.length_erase_of_mem hx]at this;have hl:0<m.length:=List.length_pos_of_mem hx;rw[Ig];omega
theorem jZ{os:List (List Int)}{l:List (List Int)}(wc:Wc ks os ns Tt)(nd:l.Nodup)(h:∀k∈l,Kv ks os ns j k):l.length≤8:=by
 refine HZ (i4 (m:=(wys ns).map fun u=>(oG os (j:Int)).map fun n=>u.getD n.toNat 0) nd fun k hk=>?_) (by rw[Hm];exact wc.w8);obtain⟨_,g,v,_,dn,gd,vr,rfl⟩:=h k hk;refine Hw.mpr ⟨WM.wOf ns v,WM.ko vr,?_⟩;refine Ie fun n hn=>?_;obtain⟨h0,h1⟩:=WM.d6 gd.2.1 (((bU wc dn gd.1).2.2 n).mp hn);exact WM.gQ h0 h1
theorem AU{os:List (List Int)}(wc:Wc ks os ns Tt)(hn:ks[j]?=some nd)(dn:Den ks j g)(gd:Gd ns.length g)(vr:VR ns v):∀pk∈inn os ns nd v,∃m:Nat,pk.1=(m:Int)/\m<j/\Kv ks os ns m pk.2:=by
 have fin:∀(m:Nat) (g':F) (v':WM.Env),Den ks m g'->Gd ns.length g'->VR ns v'->Kv ks os ns m ((oG os (m:Int)).map v'):=fun m g' v' d gd' vr'=>⟨_,g',v',Hn d.lt,d,gd',vr',rfl⟩;intro pk hp;cases dn with
 | one h5=>rw[hn]at h5;cases h5;cases hp
 | seen h5=>rw[hn]at h5;cases h5;cases hp
 | sum h5 hj d =>
  rw[hn]at h5;cases h5;unfold inn at hp;rw[HP (by rfl)]at hp;obtain⟨u,hu,rfl⟩:=Hw.mp hp;have dl:=gd.2.2;simp only[dp]at dl;exact⟨_,rfl,hj,fin _ _ _ d ⟨gd.1.2,gd.2.1.2,by omega⟩ (vr.up gd.2.1.1 ((WM.bc _ _).mp hu))⟩
 | times h5 hj hk d e =>
  rw[hn]at h5;cases h5;have dl:=gd.2.2;simp only[dp]at dl;rcases Hy.mp hp with rfl | hp
  ·exact⟨_,rfl,hj,fin _ _ _ d ⟨gd.1.1,gd.2.1.1,by omega⟩ vr⟩
  ·rw[Hx.mp hp];exact⟨_,rfl,hk,fin _ _ _ e ⟨gd.1.2,gd.2.1.2,by omega⟩ vr⟩
 | over h5 hj hk d e =>
  rw[hn]at h5;cases h5;have dl:=gd.2.2;simp only[dp]at dl;rcases Hy.mp hp with rfl | hp
  ·exact⟨_,rfl,hj,fin _ _ _ d ⟨gd.1.1,gd.2.1.1,by omega⟩ vr⟩
  ·rw[Hx.mp hp];exact⟨_,rfl,hk,fin _ _ _ e ⟨gd.1.2,gd.2.1.2,by omega⟩ vr⟩
def gJ(t:Ad)(P:Program)(w:World):Sp':=fun vs H Q _=>match vs with
 | [.ref x,.ref d]=>∃(ks:List Nd) (os:List (List Int)) (ns:List Int) (Tt:List Int->Rat) (f:F) (kvs:List (Int×Int)) (v:WM.Env),Rk t P w H x ks os ns Tt/\Wc ks os ns Tt/\0<ks.length/\Den ks (ks.length - 1) f/\Gd ns.length f/\H d=some (.dK (dij kvs))/\(∀y,Op f y->lkJ kvs y=some (v y))/\VR ns v /\
   ∀r ds kss H1,Sub H H1->H r=none->Nk P w H1 r ds kss->kss.length=ks.length->(∀j key,key∈kss.getD j []->Okk ks os ns kss j key)->(oG os ((ks.length - 1:Nat):Int)).map v∈kss.getD (ks.length - 1) []->(∀j,(kss.getD j []).Nodup)->Q (.ref r) H1
 | _=>False
theorem Bq:gJ t P w [.ref x,.ref d] H Q E=∃(ks:List Nd) (os:List (List Int)) (ns:List Int) (Tt:List Int->Rat) (f:F) (kvs:List (Int×Int)) (v:WM.Env),Rk t P w H x ks os ns Tt/\Wc ks os ns Tt/\0<ks.length/\Den ks (ks.length - 1) f/\Gd ns.length f/\H d=some (.dK (dij kvs))/\(∀y,Op f y->lkJ kvs y=some (v y))/\VR ns v /\
   ∀r ds kss H1,Sub H H1->H r=none->Nk P w H1 r ds kss->kss.length=ks.length->(∀j key,key∈kss.getD j []->Okk ks os ns kss j key)->(oG os ((ks.length - 1:Nat):Int)).map v∈kss.getD (ks.length - 1) []->(∀j,(kss.getD j []).Nodup)->Q (.ref r) H1:=rfl
theorem Nk.add(nk:Nk P w H r ds kss){m:Nat}{dm:Addr}(hm:ds[m]?=some dm)(k:List Int)(ep:Nat):Nk P w (put H dm (.dI P w (cC (tru (kss.getD m [])) k (.bl true)) ep)) r ds (fL kss m k):=by
 obtain⟨h1,h2,h3,h4,h5⟩:=nk;have hl:=(Hs.mp hm).1;have nr:r≠dm:=fun e=>h4 (by rw[e];exact Hz hm);refine⟨(ao nr).trans h1,by rw[iB];exact h2,h3,h4,fun j d hd=>?_⟩;rw[de (by omega)];by_cases e:j=m
 ·subst e;rw[hm]at hd;cases hd;rw[HP rfl,← vy];exact⟨ep,ai⟩
 ·rw[HM e];have nd:d≠dm:=fun z=>by
   have hj:=(Hs.mp hd).1;have e1:=(Hs.mp hd).2;have e2:=(Hs.mp hm).2;exact e ((List.getElem_inj h3).mp (by rw[e1,e2,z]))
  obtain⟨ep',q⟩:=h5 j d hd;exact⟨ep',(ao nd).trans q⟩
theorem Nk.mv(nk:Nk P w H r ds kss)(s:Sub H H1):Nk P w H1 r ds kss:=by
 obtain⟨h1,h2,h3,h4,h5⟩:=nk;exact⟨s _ _ h1,h2,h3,h4,fun j d hd=>let ⟨ep,q⟩:=h5 j d hd;⟨ep,s _ _ q⟩⟩
theorem fw:(List.replicate n ([]:List (List Int))).getD j []=[]:=by
 rw[Hq,Jy];split<;>rfl
theorem c8{ds:List Addr}{n:Nat}(h:ds[n]?=some d):atI (ds.map PV.ref) (n:Int)=some (.ref d):=by
 have hl:=(Hs.mp h).1;unfold atI ixN;rw[HP (by omega),HP (by rw[Hm];omega)];show(ds.map PV.ref)[((n:Nat):Int).toNat]?=_;rw[Int.toNat_natCast,Ht,h];rfl
theorem oV{os:List (List Int)}(h:0<os.length):atI (os.map nsV) (-1)=some (.tup ((oG os ((os.length - 1:Nat):Int)).map PV.int)):=by
 refine eX ?_;unfold oG;have hl:os.length - 1<os.length:=by omega
 rw[Hm,Int.toNat_natCast,Ht,Hn hl,Hq,Hn hl];rfl
theorem kH{α:Type}{l:List α}{x y:α}(h:(l++[x])[j]?=some y):l[j]?=some y∨(j=l.length/\y=x):=by
 rw[List.getElem?_append]at h;by_cases e:j<l.length
 ·rw[HP e]at h;exact .inl h
 ·rw[HM e]at h;cases q:j - l.length with
  | zero=>rw[q]at h;exact .inr ⟨by omega,(Im h).symm⟩
  | succ n=>rw[q]at h;simp at h
theorem vE{lo:Int}(h:(iU lo n)[i]?=some y):i<n/\y=.int (lo - (i:Nat)):=by
 unfold iU at h;have hl:=(Hs.mp h).1;rw[Hm,JT]at hl;rw[Ht,List.getElem?_range hl]at h;exact⟨hl,(Im h).symm⟩
theorem vG{lo:Int}:(iU lo n).length=n:=by unfold iU;rw[Hm,JT]
structure Nd2 (ks:List Nd) (os:List (List Int)) (ns:List Int) (v:WM.Env) (kss:List (List (List Int))) (p:Nat):Prop where
 len:kss.length=ks.length
 kv:∀j key,key∈kss.getD j []->Kv ks os ns j key
 ok:∀j key,p≤j->key∈kss.getD j []->Okk ks os ns kss j key
 nd:∀j,(kss.getD j []).Nodup
 last:(oG os ((ks.length - 1:Nat):Int)).map v∈kss.getD (ks.length - 1) []
theorem Nd2.add{os:List (List Int)}(h:Nd2 ks os ns v kss p)(hm:m<p)(hk:m<ks.length)(kv:Kv ks os ns m k):Nd2 ks os ns v (fL kss m k) p:=by
 have hl:m<kss.length:=by rw[h.len];exact hk
 refine⟨by rw[iB];exact h.len,fun j key q=>?_,fun j key hj q=>?_,oP hl h.nd,d8 hl h.last⟩
 ·rcases iD hl q with q |⟨rfl,rfl⟩
  ·exact h.kv j key q
  ·exact kv
 ·rcases iD hl q with q |⟨rfl,rfl⟩
  ·exact(h.ok j key hj q).up fun m' x hx=>d8 hl hx
  ·omega
theorem mH{Tt:List Int->Rat}{u:List Int}:∀{W:List (List Int)},u∈W->lk (W.map fun u=>(u,fr (Tt u))) u=some (fr (Tt u))
 | x::W,h=>by
  unfold lk;rw[HV,IS];by_cases e:x=u
  ·subst e;simp
  ·have e':decide ((x,fr (Tt x)).1=u)=false:=Iz e;rw[e'];exact mH ((Hy.mp h).elim (fun z=>absurd z.symm e) id)
theorem se:(tab ns Tt).map (·.1)=wys ns:=by unfold tab;rw[HY];exact List.map_id'' (fun _=>rfl) _
def fW(Tt:List Int->Rat)(y:PV):PV:=match y with | .tup l=>fr (Tt (l.map fun z=>match z with | .int i=>i | _=>0)) | _=>.non
theorem xW:fW Tt (tI u)=fr (Tt u):=by
 unfold tI fW;have e:((u.map PV.int).map fun z=>match z with | .int i=>i | _=>0)=u:=by rw[HY];exact List.map_id'' (fun _=>rfl) u
 simp only[e]
def eC(t:Ad)(P:Program)(w:World):Sp':=fun vs H Q _=>match vs with
 | [.ref x,.tup l,.tup k]=>∃(ks:List Nd) (os:List (List Int)) (ns:List Int) (Tt:List Int->Rat) (a:List Int) (v:WM.Env),l=a.map PV.int/\k=(a.map v).map PV.int/\Rk t P w H x ks os ns Tt/\Wc ks os ns Tt/\Nm a/\WM.In ns.length (.seen a)/\VR ns v/\Q (fr (val ns Tt (.seen a) v)) H
 | _=>False
theorem xA:eC t P w [.ref x,.tup l,.tup k] H Q E=∃(ks:List Nd) (os:List (List Int)) (ns:List Int) (Tt:List Int->Rat) (a:List Int) (v:WM.Env),l=a.map PV.int/\k=(a.map v).map PV.int/\Rk t P w H x ks os ns Tt/\Wc ks os ns Tt/\Nm a/\WM.In ns.length (.seen a)/\VR ns v/\Q (fr (val ns Tt (.seen a) v)) H:=rfl
theorem zS{os:List (List Int)}(wc:Wc ks os ns Tt){l:List (List Int)}(h:∀u∈l,u∈wys ns):CB (l.map Tt) (WM.eG ((wys ns).map fun u=>(Tt u).den)):=by
 refine⟨WM.dh fun n hn=>?_,?_,fun q hq=>?_⟩
 ·obtain⟨u,_,rfl⟩:=Hw.mp hn;have:=WM.den_pos (Tt u);omega
 ·have l8:14*((wys ns).map fun u=>(Tt u).den).length≤8000:=by rw[Hm];have:=wc.w8;omega
  refine HZ (WM.eD (p:=14) fun n hn=>?_) (IK (by decide) l8);obtain⟨u,hu,rfl⟩:=Hw.mp hn;exact(wc.tb u hu).2
 ·obtain⟨u,hu,rfl⟩:=Hw.mp hq;exact WM.dA (Hw.mpr ⟨u,h u hu,rfl⟩)
def Wv(P:Program)(w:World)(H:PHp)(ks:List Nd)(os:List (List Int))(ns:List Int)(Tt:List Int->Rat)(ws:List Addr)(l:List (Int×List Int)):Prop :=
 ∀pk∈l,∃(m:Nat) (dm:Addr) (kvs:List (List Int×PV)) (ep:Nat),pk.1=(m:Int)/\ws[m]?=some dm/\H dm=some (.dI P w kvs ep)/\∀g v,Den ks m g->Gd ns.length g->VR ns v->pk.2=(oG os (m:Int)).map v->lk kvs pk.2=some (fr (val ns Tt g v))
def gS(t:Ad)(P:Program)(w:World):Sp':=fun vs H Q _=>match vs with
 | [.ref x,.int j,.tup k,.ref wr]=>∃(ks:List Nd) (os:List (List Int)) (ns:List Int) (Tt:List Int->Rat) (n:Nat) (nd:Nd) (g:F) (v:WM.Env) (ws:List Addr),j=(n:Nat)/\ks[n]?=some nd/\Den ks n g/\Gd ns.length g/\VR ns v/\k=((oG os (n:Int)).map v).map PV.int/\Rk t P w H x ks os ns Tt/\Wc ks os ns Tt/\H wr=some (.lst (ws.map PV.ref))/\Wv P w H ks os ns Tt ws (inn os ns nd v)/\Q (fr (val ns Tt g v)) H
 | _=>False
theorem A1:gS t P w [.ref x,.int j,.tup k,.ref wr] H Q E=∃(ks:List Nd) (os:List (List Int)) (ns:List Int) (Tt:List Int->Rat) (n:Nat) (nd:Nd) (g:F) (v:WM.Env) (ws:List Addr),j=(n:Nat)/\ks[n]?=some nd/\Den ks n g/\Gd ns.length g/\VR ns v/\k=((oG os (n:Int)).map v).map PV.int/\Rk t P w H x ks os ns Tt/\Wc ks os ns Tt/\H wr=some (.lst (ws.map PV.ref))/\Wv P w H ks os ns Tt ws (inn os ns nd v)/\Q (fr (val ns Tt g v)) H:=rfl
def Vs(P:Program)(w:World)(H:PHp)(ws:List Addr)(l:List (Int×List Int))(qs:List Rat):Prop :=
 qs.length=l.length/\∀(i:Nat) pk,l[i]?=some pk->∃(m:Nat) (dm:Addr) (kvs:List (List Int×PV)) (ep:Nat) (q:Rat),pk.1=(m:Int)/\ws[m]?=some dm/\H dm=some (.dI P w kvs ep)/\qs[i]?=some q/\lk kvs pk.2=some (fr q)
theorem f9(W:WM.Wd ns Tt)(ig:WM.In ns.length g)(b:WM.Bd ns Tt g p q c)(vr:VR ns v)(hp:p≤4000)(hq:q≤4000):Bt 4000 (val ns Tt g v) :=
 ⟨WM.bx W ig vr,HZ (b.num v vr) (IK (by decide) hp),HZ (b.den v vr) (IK (by decide) hq)⟩
theorem uH(h:0<q):deq (fr q) (.tup [.int 0,.int 1])=false:=by
 have h2:q.num≠0:=fun z=>by have:=Rat.num_eq_zero.mp z;rw[this]at h;exact Rat.lt_irrefl h
 unfold fr;simp[deq,fR,h2]
def eF(t:Ad):Sp':=fun vs H Q _=>match vs with
 | [.ref x,v,.ref a3,.ref a4]=>∃f dx,v=fV f/\dp f≤44/\Ok f/\sz f<900/\H x=some (.ins t.a_A dx [])/\∀a1 a2 (ks:List Nd) (os:List (List Int)) (i:Nat) H1,(∀b o,b≠x->H b=some o->H1 b=some o)->Laid f [] i ks->bW ks os->os.length=ks.length->H1 x=some (.ins t.a_A dx (RkF a1 a2 a3 a4))->H1 a1=some (.lst (ks.map ndV))->H1 a2=some (.lst (os.map nsV))->Q .non H1
 | _=>False
theorem vN:eF t [.ref x,v,.ref a3,.ref a4] H Q E=∃f dx,v=fV f/\dp f≤44/\Ok f/\sz f<900/\H x=some (.ins t.a_A dx [])/\∀a1 a2 (ks:List Nd) (os:List (List Int)) (i:Nat) H1,(∀b o,b≠x->H b=some o->H1 b=some o)->Laid f [] i ks->bW ks os->os.length=ks.length->H1 x=some (.ins t.a_A dx (RkF a1 a2 a3 a4))->H1 a1=some (.lst (ks.map ndV))->H1 a2=some (.lst (os.map nsV))->Q .non H1:=rfl
structure Hd (ns:List Int) (Tt:List Int→Rat):Prop where
 sz:Sz ns
 wd:WM.Wd ns Tt
 w8:(wys ns).length≤8
 tb:∀w∈wys ns,(Tt w).num.natAbs≤2 ^ 67/\(Tt w).den≤2 ^ 14
def gB(t:Ad)(P:Program)(w:World):Sp':=fun vs H Q _=>match vs with
 | [.ref x,.ref d]=>∃(ks:List Nd) (os:List (List Int)) (ns:List Int) (Tt:List Int->Rat) (f:F) (kvs:List (Int×Int)) (v:WM.Env),Rk t P w H x ks os ns Tt/\Wc ks os ns Tt/\0<ks.length/\Den ks (ks.length - 1) f/\Gd ns.length f/\H d=some (.dK (dij kvs))/\(∀y,Op f y->lkJ kvs y=some (v y))/\VR ns v/\Q (fr (val ns Tt f v)) H
 | _=>False
theorem BS:gB t P w [.ref x,.ref d] H Q E=∃(ks:List Nd) (os:List (List Int)) (ns:List Int) (Tt:List Int->Rat) (f:F) (kvs:List (Int×Int)) (v:WM.Env),Rk t P w H x ks os ns Tt/\Wc ks os ns Tt/\0<ks.length/\Den ks (ks.length - 1) f/\Gd ns.length f/\H d=some (.dK (dij kvs))/\(∀y,Op f y->lkJ kvs y=some (v y))/\VR ns v/\Q (fr (val ns Tt f v)) H:=rfl
def dX(t:Ad)(P:Program)(w:World):Sp':=fun vs H Q _=>match vs with
 | [vf,.ref a3,.ref a4,.ref d]=>∃(ns:List Int) (Tt:List Int->Rat) (f:F) (kvs:List (Int×Int)) (v:WM.Env) (ep:Nat),vf=fV f/\Gd ns.length f/\sz f<900/\Hd ns Tt/\H a3=some (.lst (ns.map PV.int))/\H a4=some (.dI P w (tab ns Tt) ep)/\H d=some (.dK (dij kvs))/\(∀y,Op f y->lkJ kvs y=some (v y))/\VR ns v/\Q (fr (val ns Tt f v)) H
 | _=>False
theorem uN:dX t P w [vf,.ref a3,.ref a4,.ref d] H Q E=∃(ns:List Int) (Tt:List Int->Rat) (f:F) (kvs:List (Int×Int)) (v:WM.Env) (ep:Nat),vf=fV f/\Gd ns.length f/\sz f<900/\Hd ns Tt/\H a3=some (.lst (ns.map PV.int))/\H a4=some (.dI P w (tab ns Tt) ep)/\H d=some (.dK (dij kvs))/\(∀y,Op f y->lkJ kvs y=some (v y))/\VR ns v/\Q (fr (val ns Tt f v)) H:=rfl
theorem wJ:lk (cC kvs k x) n=if n=k then some x else lk kvs n:=by
 unfold cC;by_cases a:k∈kvs.map (·.1)
 ·rw[HP a];unfold lk
  induction kvs with
  | nil=>cases a
  | cons p r ih =>
   simp only[HV,IS];by_cases e:p.1=k
   ·rw[HP e];by_cases q:n=k
    ·simp[e,q]
    ·have h1:¬p.1=n:=fun z=>q (z.symm.trans e);have h2:¬k=n:=fun z=>q z.symm;simp only[e,h2,decide_false,h1,q,IU];by_cases ar:k∈r.map (·.1)
     ·have:=ih ar;simpa[q]using this
     ·have er:(r.map fun p=>if p.1=k then(p.1,x)else p)=r:=by
       have:∀y∈r,(if y.1=k then(y.1,x)else y)=y:=fun y hy=>HM fun z=>ar (Hw.mpr ⟨y,hy,z⟩);exact(Ie this).trans (List.map_id' r)
      rw[er]
   ·rw[HM e];have a:k∈r.map (·.1):=(Hy.mp a).elim (fun z=>absurd z.symm e) id;by_cases q:p.1=n
    ·have:¬n=k:=fun z=>e (q.trans z);simp[q,this]
    ·simp only[q,decide_false];exact ih a
 ·rw[HM a];unfold lk;rw[List.find?_append];by_cases q:n=k
  ·subst q;have:kvs.find? (fun p=>decide (p.1=n))=none:=List.find?_eq_none.mpr fun y hy z=>a (Hw.mpr ⟨y,hy,Jm z⟩);rw[this];simp
  ·have h2:¬k=n:=fun z=>q z.symm;simp[h2,q]
theorem wo:(cC kvs k x).length≤kvs.length+1:=by
 unfold cC;split
 ·rw[Hm];omega
 ·rw[HN];exact Hr _
def Kn(ks:List Nd)(os:List (List Int))(ns:List Int)(Tt:List Int->Rat)(m:Nat)(kvs:List (List Int×PV))(l:List (List Int)):Prop:=∀key∈l,∀g v,Den ks m g->Gd ns.length g->VR ns v->key=(oG os (m:Int)).map v->lk kvs key=some (fr (val ns Tt g v))
theorem wa{os:List (List Int)}{v v':WM.Env}(wc:Wc ks os ns Tt)(d:Den ks n g)(ok:Ok g)(e:(oG os (n:Int)).map v=(oG os (n:Int)).map v'):val ns Tt g v=val ns Tt g v':=by
 obtain⟨_,_,iff⟩:=bU wc d ok;exact WM.val_congr fun x hx=>List.map_inj_left.mp e x ((iff x).mpr hx)
def Ws(P:Program)(w:World)(H:PHp)(ks:List Nd)(os:List (List Int))(ns:List Int)(Tt:List Int->Rat)(kss:List (List (List Int)))(ws:List Addr):Prop:=∀(m:Nat) dm,ws[m]?=some dm->∃kvs ep,H dm=some (.dI P w kvs ep)/\Kn ks os ns Tt m kvs (kss.getD m [])
theorem Ws.wv{os:List (List Int)}(h:Ws P w H ks os ns Tt kss ws){l:List (Int×List Int)}(hl:∀pk∈l,∃m:Nat,pk.1=(m:Int)/\m<ws.length/\pk.2∈kss.getD m []):Wv P w H ks os ns Tt ws l:=fun pk hp=>by
 obtain⟨m,em,hm,hk⟩:=hl pk hp;obtain⟨kvs,ep,e1,e2⟩:=h m _ (Hn hm);exact⟨m,_,kvs,ep,em,Hn hm,e1,fun g v d gd vr e=>e2 _ hk g v d gd vr e⟩
def gG:Sp':=fun vs H Q _=>match vs with
 | [.ref d,x,y]=>∃(kvs:List (Int×Int)) (a u:List Int),H d=some (.dK (dij kvs))/\kvs.length≤100/\u.length=a.length/\a.length≤6/\((x=tI a/\y=tI u)∨∃ra ru,x=.ref ra/\y=.ref ru/\H ra=some (.lst (a.map PV.int))/\H ru=some (.lst (u.map PV.int)))/\∀p,H p=none->Q (.ref p) (put H p (.dK (dij (upJ kvs (a.zip u)))))
 | _=>False
theorem zQ:gG [.ref d,x,y] H Q E=∃(kvs:List (Int×Int)) (a u:List Int),H d=some (.dK (dij kvs))/\kvs.length≤100/\u.length=a.length/\a.length≤6/\((x=tI a/\y=tI u)∨∃ra ru,x=.ref ra/\y=.ref ru/\H ra=some (.lst (a.map PV.int))/\H ru=some (.lst (u.map PV.int)))/\∀p,H p=none->Q (.ref p) (put H p (.dK (dij (upJ kvs (a.zip u))))):=rfl
def Sy(ns:List Int):Prop:=Sz ns/\(wys ns).length≤8/\1≤ns.length
def eM:Sp':=fun vs H Q _=>match vs with
 | [.ref p]=>∃xs:List Int,H p=some (.lst (xs.map PV.int))/\Nn xs/\1≤xs.length/\∀(ns ys:List Int) a H1,Sy ns->ys.length+1=xs.length->Nn ys->(∀b o,b≠p->H b=some o->H1 b=some o)->H1 p=some (.lst (ys.map PV.int))->a≠p->H a=none->H1 a=some (.lst (ns.map PV.int))->Q (.ref a) H1
 | _=>False
theorem xg:eM [.ref p] H Q E=∃xs:List Int,H p=some (.lst (xs.map PV.int))/\Nn xs/\1≤xs.length/\∀(ns ys:List Int) a H1,Sy ns->ys.length+1=xs.length->Nn ys->(∀b o,b≠p->H b=some o->H1 b=some o)->H1 p=some (.lst (ys.map PV.int))->a≠p->H a=none->H1 a=some (.lst (ns.map PV.int))->Q (.ref a) H1:=rfl
def eW(P:Program)(w:World):Sp':=fun vs H Q _=>match vs with
 | [.ref a,.fls l]=>∃ns sc:List Int,H a=some (.lst (ns.map PV.int))/\l=sc.map PV.int/\Sy ns/\∀Tt p H1 ep,Hd ns Tt->Sub H H1->H p=none->H1 p=some (.dI P w (tab ns Tt) ep)->Q (.ref p) H1
 | _=>False
theorem xt:eW P w [.ref a,.fls l] H Q E=∃ns sc:List Int,H a=some (.lst (ns.map PV.int))/\l=sc.map PV.int/\Sy ns/\∀Tt p H1 ep,Hd ns Tt->Sub H H1->H p=none->H1 p=some (.dI P w (tab ns Tt) ep)->Q (.ref p) H1:=rfl
theorem vg:(bR kvs k x).length≤kvs.length+1:=by
 unfold bR;split
 ·rw[Hm];omega
 ·rw[HN];exact Hr _
theorem nh:∀{l kvs:List (Int×Int)},(upJ kvs l).length≤kvs.length+l.length
 | [],kvs=>Hr _
 |(k,x)::l,kvs=>by
  have:=nh (l:=l) (kvs:=bR kvs k x);have h:=vg (kvs:=kvs) (k:=k) (x:=x);show(upJ (bR kvs k x) l).length≤kvs.length+(l.length+1);omega
theorem r9:∀{l:List (Int×Int)},upJ kvs (l++[(k,x)])=bR (upJ kvs l) k x:=by
 intro l
 induction l generalizing kvs with
 | nil=>rfl
 | cons p l ih=>exact ih
theorem jr:(wys ns).Nodup:=by
 refine WM.snoc_ind (P:=fun ns=>(wys ns).Nodup) (by unfold wys;simp) (fun l n ih=>?_) ns;rw[WM.cv];unfold WM.eI;rw[List.Nodup,List.pairwise_flatMap];refine⟨fun u _=>?_,ih.imp fun {a b} hab x hx y hy=>?_⟩
 ·rw[List.pairwise_map];refine List.nodup_range.imp fun {a b} hab e=>hab ?_;exact Jb (List.cons.inj (List.append_cancel_left e)).1
 ·obtain⟨i,_,rfl⟩:=Hw.mp hx;obtain⟨j,_,rfl⟩:=Hw.mp hy;intro e;exact hab (List.append_inj' e rfl).1
theorem sF(h:v∉l.map (·.1)):cC l v y=l++[(v,y)]:=by
 unfold cC;rw[HM h]
theorem g6:∀{a u:List Int},cH (a.map PV.int) (u.map PV.int)=(a.zip u).map prV
 | [],u=>by cases u<;>rfl
 | x::a,[]=>rfl
 | x::a,y::u=>by show PV.tup [.int x,.int y]::cH (a.map PV.int) (u.map PV.int)=prV (x,y)::(a.zip u).map prV;rw[g6];rfl
def TbB(l:List (List Int))(Tt:List Int->Rat):Prop:=∀u∈l,0<Tt u/\(Tt u).num.natAbs≤2 ^ 67/\(Tt u).den≤2 ^ 14
theorem Ew(sy:Sy ns)(tb:TbB (wys ns) Tt):Hd ns Tt :=
 ⟨sy.1,⟨fun n hn=>(sy.1.2 n hn).1,fun u hu=>(tb u hu).1⟩,sy.2.1,fun u hu=>(tb u hu).2⟩
theorem Df{i:Nat}(h:0<m):(i:Int).fmod m≤i:=by
 obtain⟨k,rfl⟩:=Int.eq_ofNat_of_zero_le (Int.le_of_lt h);rw[Int.fmod_eq_emod_of_nonneg _ (by omega),← Int.natCast_emod];exact Int.ofNat_le.mpr (Nat.mod_le i k)
theorem at3(h:0≤n/\n<3):∃k,atI [PV.int x,PV.int y,PV.int z] n=some (PV.int k)/\(k=x∨k=y∨k=z):=by
 have:n=0∨n=1∨n=2:=by omega
 rcases this with rfl | rfl | rfl
 ·exact⟨x,rfl,.inl rfl⟩
 ·exact⟨y,rfl,.inr (.inl rfl)⟩
 ·exact⟨z,rfl,.inr (.inr rfl)⟩
theorem div_pos(ha:0<a)(hb:0<b):0<Rat.divInt a b:=by
 have h0:0≤Rat.divInt a b:=Rat.divInt_nonneg (Int.le_of_lt ha) (Int.le_of_lt hb);refine Rat.lt_of_le_of_ne h0 fun e=>?_;have e2:Rat.divInt a b=Rat.divInt 0 b:=by rw[Rat.zero_divInt];exact e.symm
 have hb0:b≠0:=by omega
 have:=(Rat.divInt_eq_divInt_iff hb0 hb0).mp e2;rw[Int.zero_mul]at this;rcases Int.mul_eq_zero.mp this with z | z<;>omega
theorem Ai(hb:0<b):(Rat.divInt a b).num.natAbs≤a.natAbs:=by
 rw[Rat.num_divInt,Int.sign_eq_one_of_pos hb,Int.one_mul,Int.natAbs_ediv_of_dvd (Kc b a)];exact Nat.div_le_self _ _
theorem yI(h0:0<a)(h1:a≤10 ^ 20)(h2:0<b)(h3:b≤10 ^ 4):0<Rat.divInt a b/\(Rat.divInt a b).num.natAbs≤2 ^ 67/\(Rat.divInt a b).den≤2 ^ 14:=by
 refine⟨div_pos h0 h2,HZ (Ai h2) (by omega),?_⟩;have:=Int.le_of_dvd h2 (WM.eh (a:=a) h2);omega
theorem wj(tb:TbB l Tt)(hu:u∉l)(hq:0<q/\q.num.natAbs≤2 ^ 67/\q.den≤2 ^ 14):TbB (l++[u]) (fun x=>if x=u then q else Tt x)/\cC (l.map fun v=>(v,fr (Tt v))) u (fr q)=(l++[u]).map fun v=>(v,fr (if v=u then q else Tt v)):=by
 constructor
 ·intro v hv;rcases Ii.mp hv with h | h
  ·have:v≠u:=fun e=>hu (e▸h);simp only[HM this];exact tb v h
  ·have:v=u:=Hx.mp h;simp only[HP this];exact hq
 ·rw[sF (by rw[HY];intro z;obtain⟨v,hv,e⟩:=Hw.mp z;exact hu (e▸hv)),HW,HV,J0,HP rfl];congr 1;refine Ie fun v hv=>?_;have:v≠u:=fun e=>hu (e▸hv);rw[HM this]
def Gf(m:Nat)(f:F):Prop:=Ok f/\WM.In m f/\dp f≤2/\sz f≤50
theorem Gf.gd(h:Gf m f):Gd m f:=⟨h.1,h.2.1,HZ h.2.2.1 (by decide)⟩
structure Lh (P:Program) (w:World) (H:PHp) (a3 a4:Addr) (ns:List Int) (Tt:List Int→Rat):Prop where
 hd:Hd ns Tt
 h3:H a3=some (.lst (ns.map PV.int))
 h4:∃ep,H a4=some (.dI P w (tab ns Tt) ep)
def Ta(H:PHp)(d:Addr)(ns:List Int)(v:WM.Env):Prop:=∃kvs,H d=some (.dK (dij kvs))/\kvs.length≤50/\(∀y:Int,0≤y->y<ns.length->lkJ kvs y=some (v y))/\VR ns v
def oM(P:Program)(w:World):Sp':=fun vs H Q _=>match vs with
 | [.ref a3,.ref a4,x,y,.tup l,.ref d]=>∃(ns:List Int) (Tt:List Int->Rat) (f g:F) (a:List Int) (v:WM.Env),Lh P w H a3 a4 ns Tt/\x=fV f/\y=fV g/\Gf ns.length f/\Gf ns.length g/\l=a.map PV.int/\Nm a/\(∀n∈a,0≤n/\n<ns.length)/\Ta H d ns v/\Q (.bl true) H
 | _=>False
theorem EW:oM P w [.ref a3,.ref a4,x,y,.tup l,.ref d] H Q E=∃(ns:List Int) (Tt:List Int->Rat) (f g:F) (a:List Int) (v:WM.Env),Lh P w H a3 a4 ns Tt/\x=fV f/\y=fV g/\Gf ns.length f/\Gf ns.length g/\l=a.map PV.int/\Nm a/\(∀n∈a,0≤n/\n<ns.length)/\Ta H d ns v/\Q (.bl true) H:=rfl
theorem iq:deq (fr q) (fr q)=true:=by unfold fr;simp[deq,fR]
theorem CY{ns a:List Int}(sz:Sz ns)(l6:a.length≤6)(ia:∀n∈a,0≤n/\n<ns.length):Sz (a.map (szN ns)):=⟨by rw[Hm];omega,fun z hz=>by
 obtain⟨q,hq,rfl⟩:=Hw.mp hz;obtain⟨q0,q1⟩:=ia q hq;refine sz.2 _ ?_;unfold szN;rw[Hq,Hn (by omega)];exact IH _⟩
theorem xj(hd:Hd ns Tt)(gf:Gf ns.length f){v:List Int->WM.Env}{l:List (List Int)}(l8:l.length≤8)(vr:∀u∈l,VR ns (v u)) :
  0≤(aZ (l.map fun u=>val ns Tt f (v u))).num/\My.BN 6500 (aZ (l.map fun u=>val ns Tt f (v u))).num/\My.BN 4500 ((aZ (l.map fun u=>val ns Tt f (v u))).den:Int):=by
 have b:=WM.bd2 hd.wd hd.w8 hd.tb gf.1 gf.2.1 gf.2.2.1;obtain⟨C,c1,c2,c3⟩:=b.cm;cases l with
 | nil=>exact⟨(by decide:(0:Int)≤(0:Rat).num),bnL (n:=1) (by decide:(0:Rat).num.natAbs≤2 ^ 1) (by decide),bnL (n:=1) (by decide:(((0:Rat).den:Nat):Int).natAbs≤2 ^ 1) (by decide)⟩
 | cons u l =>
  have hpos:∀q∈(u::l).map fun u=>val ns Tt f (v u),0<q:=fun q hq=>by
   obtain⟨u,hu,rfl⟩:=Hw.mp hq;exact WM.bx hd.wd gf.2.1 (vr u hu)
  obtain⟨h1,h2,_⟩:=WM.mX hd.wd hd.w8 (l:=(u::l).map fun u=>val ns Tt f (v u)) (by simp) (by rw[Hm];exact l8) hpos (fun q hq=>by
   obtain⟨u,hu,rfl⟩:=Hw.mp hq;exact b.num _ (vr u hu)) c1 c2 (fun q hq=>by
   obtain⟨u,hu,rfl⟩:=Hw.mp hq;exact c3 _ (vr u hu))
  exact⟨Rat.num_nonneg.mpr (JL (WM.c9 (by simp) hpos)),bnL h1 (by decide),bnL (by rw[Int.natAbs_natCast];exact h2) (by decide)⟩
theorem iz(nz:Nn zs)(h:1≤zs.length):∃y,(zs.map PV.int)[(zs.map PV.int).length - 1]?=some (PV.int y)/\0≤y:=by
 have hi:zs.length - 1<zs.length:=by omega
 refine⟨zs[zs.length - 1],?_,nz _ (IH hi)⟩;rw[Hm,Ht,Hn hi];rfl
theorem vL:Nm [0]:=⟨by simp,fun x hx=>by rw[Hx.mp hx];omega⟩
theorem mO{u:List Int}(h:u.length=n):(WM.rgI (n:Int)).map (fun k=>u.getD k.toNat 0)=u:=by
 unfold WM.rgI;rw[HY,Int.toNat_natCast];refine List.ext_getElem (by simp[h]) fun i h1 h2=>?_;rw[List.getElem_map,List.getElem_range];show u.getD ((i:Nat):Int).toNat 0=_;rw[Int.toNat_natCast,Hq,Hn h2];rfl
theorem iN{n:Nat}:y∈WM.rgI (n:Int)↔0≤y/\y<n:=by
 unfold WM.rgI;rw[Int.toNat_natCast,Hw];constructor
 ·rintro⟨k,hk,rfl⟩;have:=IJ.mp hk;exact⟨Int.natCast_nonneg k,by show(k:Int)<n;omega⟩
 ·rintro⟨h0,h1⟩;exact⟨y.toNat,IJ.mpr (by omega),by show((y.toNat:Nat):Int)=y;omega⟩
theorem D8{n:Nat}:(WM.rgI (n:Int)).Pairwise (·<·):=by
 unfold WM.rgI;rw[Int.toNat_natCast,List.pairwise_map];exact List.pairwise_lt_range.imp fun {a b} h=>by show(a:Int)<(b:Int);omega
theorem CH{n:Nat}(h:n≤6):Nm (WM.rgI (n:Int)):=⟨D8,fun x hx=>by have:=iN.mp hx;omega⟩
theorem Ey{n:Nat}(h:u.length=n){y:Int}(h0:0≤y)(h1:y<n):lkJ (upJ [] ((WM.rgI (n:Int)).zip u)) y=some (u.getD y.toNat 0):=by
 have hl:u.length=(WM.rgI (n:Int)).length:=by unfold WM.rgI;simp[h]
 rw[iQ (v:=fun k=>u.getD k.toNat 0) hl,HP (iN.mpr ⟨h0,h1⟩)];have:=tS (v:=fun k=>u.getD k.toNat 0) (a:=WM.rgI (n:Int)) (iN.mpr ⟨h0,h1⟩) (v0:=fun k=>u.getD k.toNat 0);rw[mO h]at this;rw[this]
theorem pN{α:Type}{p:α->Bool}{u:α}:∀{l:List α},l.Nodup->u∈l->(∀x∈l,p x=true↔x=u)->l.filter p=[u]:=fun {l}=>by
 induction l with
 | nil=>intro _ h;cases h
 | cons x l ih =>
  intro nd h hp;rw[Ka]at nd;have hx:=hp x HL;by_cases e:x=u
  ·rw[List.filter_cons_of_pos (hx.mpr e),e];congr 1;refine List.filter_eq_nil_iff.mpr fun y hy z=>nd.1 ?_;rw[e,← (hp y (HH _ hy)).mp z];exact hy
  ·rw[List.filter_cons_of_neg (fun z=>e (hx.mp z))];exact ih nd.2 ((Hy.mp h).elim (fun z=>absurd z.symm e) id) fun y hy=>hp y (HH _ hy)
theorem xi(h:u∈wys ns):val ns Tt (.seen (WM.rgI (ns.length:Int))) (fun n=>u.getD n.toNat 0)=Tt u:=by
 show aZ (((wys ns).filter (ag (WM.rgI (ns.length:Int)) fun n=>u.getD n.toNat 0)).map Tt)=Tt u;have lu:=((WM.bc _ _).mp h).1;rw[pN (u:=u) jr h fun x hx=>?_]
 ·show Tt u+0=Tt u;exact Rat.add_zero _
 ·have lx:=((WM.bc _ _).mp hx).1;unfold ag;rw[Ib];constructor
  ·intro q;have e1:=mO lx;have e2:=mO lu;rw[←e1,← e2];exact Ie fun n hn=>Jm (q n hn)
  ·rintro rfl n hn;exact ID rfl
theorem BV{ns a:List Int}(sz:Sz ns)(ia:∀n∈a,0≤n/\n<ns.length):Rg (a.map (szN ns)) (List.replicate a.length (0:Int)):=by
 refine⟨by simp,fun k hk=>?_⟩;rw[Hm]at hk;have e1:(List.replicate a.length (0:Int)).getD k 0=0:=by rw[Hq,Jy,HP hk];rfl
 have e2:(a.map (szN ns)).getD k 0=szN ns (a[k]):=by rw[Hq,Ht,Hn hk];rfl
 rw[e1,e2];obtain⟨q0,q1⟩:=ia _ (IH hk);refine⟨by omega,?_⟩;have:szN ns a[k]∈ns:=by
  unfold szN;rw[Hq,Hn (by omega)];exact IH _
 have:=(sz.2 _ this).1;omega
noncomputable def lse (f:F) (n:Nat):List Int:=(WM.rgI (n:Int)).filter fun k=>@decide (¬Op f k) (Classical.propDecidable _)
theorem gM:y∈lse f n↔(0≤y/\y<n)/\¬Op f y:=by
 unfold lse;rw[I0,iN];exact and_congr_right fun _=>@decide_eq_true_iff _ (Classical.propDecidable _)
noncomputable def pzL (f:F) (y:PV):Bool:=match y with | .int k=>@decide (¬Op f k) (Classical.propDecidable _) | _=>false
theorem wN{n:Nat}:((((WM.rgI (n:Int)).map PV.int).filter (pzL f)).map id)=(lse f n).map PV.int:=by
 rw[List.map_id,List.filter_map];rfl
theorem vA:val ns Tt f (WM.up v (lse f n) u)=val ns Tt f v :=
 WM.val_congr fun x hx=>WM.fE fun z=>(gM.mp z).2 hx
theorem ke(h:x∈cT l a b):x∈l:=by
 unfold cT at h;exact List.mem_of_mem_drop (List.mem_of_mem_take h)
theorem tm:(cT l a b).length≤l.length:=by
 unfold cT;rw[Ij,List.length_drop];omega
theorem rS:(List.replicate n [PV.int 0]).flatten=(List.replicate n (0:Int)).map PV.int:=by
 induction n with
 | zero=>rfl
 | succ n ih=>rw[Jk,JQ,ih];rfl
abbrev nl0:List Str:=["part","bottom"]
theorem nn0:List.Nodup nl0:=by decide +kernel
abbrev nl1:List Str:=["_law_k","_law_script"]
theorem nn1:List.Nodup nl1:=by decide +kernel
abbrev nl2:List Str:=["_law_name","_law_digit"]
theorem nn2:List.Nodup nl2:=by decide +kernel
abbrev nl3:List Str:=["value","way"]
theorem nn3:List.Nodup nl3:=by decide +kernel
abbrev nl4:List Str:=["name","values"]
theorem nn4:List.Nodup nl4:=by decide +kernel
abbrev nl5:List Str:=["part","values","self"]
theorem nn5:List.Nodup nl5:=by decide +kernel
abbrev nl6:List Str:=["name","self"]
theorem nn6:List.Nodup nl6:=by decide +kernel
abbrev nl7:List Str:=["node"]
theorem nn7:List.Nodup nl7:=by decide +kernel
abbrev nl8:List Str:=["way","self"]
theorem nn8:List.Nodup nl8:=by decide +kernel
abbrev nl9:List Str:=["part","inner_key","worths"]
theorem nn9:List.Nodup nl9:=by decide +kernel
abbrev Dw:List Str:=["_law_value","_law_way"]
theorem Ge:List.Nodup Dw:=by decide +kernel
abbrev CW:List Str:=["_law_name","_law_sizes_here"]
theorem F2:List.Nodup CW:=by decide +kernel
abbrev Cd:List Str:=["_law_name","_law_a"]
theorem EY:List.Nodup Cd:=by decide +kernel
end
section
variable {P:Program}{w:World}{K:PySem.W.Frag}{mg:Str->Option Value}{base:Heap}{t:Ad}
open FM (F Nd Op Ok dp sz Nm Den Kid Laid All bW)
open WM (rp aZ val VR szN wys Rg ag)
local macro_rules | `(tactic| ac_rfl) => `(tactic| simp only [zy, Cr, uOp, uI, uI0, uIx, t9, uC, wF, km, bw, CZ, xT, yd, ju, Ay, Gr, uOr, DB, Dz, FV, Co, uIf, uUn, cc, aD, DN, aY, uCB, Dq, D9, C6, yf, ue, qJ, nW, xP,
 tW,Ej,Fx,xY,EF,Em,F3,gp,DK,DV,FL,tZ,GO,G3,yy,G9,Fs,CM,mY,EE,F5,zH,Hb,GQ,EH,Hg,lW,DG,F4,yk,ER,lY,Fq,G7,Dc,EG,dH,zk,AW,Ar,CL,EU,uEn,sv,rH,ix,w_inI,jt,jz,Bb,uW,DE,CQ,Cv,Es,uZ2,Dv,uDz,Fm,Cj,x5,tq,BM,vn,DP,yi,Dk,CJ,E2,Fp,EV, yH,xX,C3,DI,BT.sub,BT.nm,He,FN,CA,ends,AM,Ca,fy,flat,deq,fR,w_V,w_B,w_I,w_O,Gm,FD,Fo,FT,GU,Fe,GV,Fz,FX,Fc,Gg,FG,GF,F8,G4,G2,Gq,ES,Gz,Gv,GL,EZ,Fn,FW,Gs,w_1,Du,E4,GI,Fu,Gj,E9,G5,Fl,FI,Fi,Dl,FY,B7,Hc,Gh,GB,C4,Ei,
 HV,J0,Ig,JX,Nat.reduceAdd,Nat.reduceSub,Nat.add_sub_cancel,Nat.sub_self,Nat.zero_add,Jk,List.replicate_zero,List.cons_append,List.nil_append,IF,List.getElem?_cons_zero,List.getElem?_cons_succ,IV,IW,
 zE,Bz,List.all_cons,List.all_nil,Bool.and_self,Bool.and_true,Bool.true_and,Jf,JE,true_and,and_true,ai,JF,PO.lst.injEq,exists_eq_left',Int.zero_add ,v8,wI,Cs,Bl,wY,FO,ze,sY,FU,xI,BD,mI,wG,An,yU,Ag,uA,vB,A5,wb,C5,xB,Bq,xA,A1,vN,BS,uN,zQ,xg,xt,EW])
theorem Ek(T:Tx K mg t):aG P w K mg base CX0 1 t.a_ze t.d_ze ["a","b"] gO:=by
 refine okU (k:=0) T.F_ze nD (fun vs H Q E h=>by
  unfold gO at h;split at h
  ·rfl
  ·exact h.elim) (fun cdv A outer s H E B hr=>⟨_,(af (lT Ir (cN (dJ hr.units) a7 (qv 1) ah)
  (af (sN 2 nD.nd (aO (qv 0) (qv 1)))
   (af (sN 0 nD.nd (qv 1))
   (au (sN 1 nD.nd (qv 2))))))
  (au (aA (qv 0)))),?_⟩)
 intro vs H Q E h;unfold gO at h;split at h
 ·rename_i a b;obtain⟨⟨ha,hb⟩,h⟩:=h;ac_rfl;refine ij (fun m σ H'=>∃x y r,σ=[some (.int x),some (.int y),r]/\H'=H/\(0≤x/\0≤y/\My.gd x y=My.gd a b)/\m=y.natAbs) b.natAbs ⟨a,b,none,rfl,rfl,⟨ha,hb,rfl⟩,rfl⟩ ?_;rintro m σ H' ⟨x,y,r,rfl,rfl,⟨hx,hy0,hg⟩,rfl⟩;ac_rfl;by_cases hy:y=0
  ·refine aB (by simp[hy]) ⟨H',Sub.refl _,?_⟩;rw[←hg,hy,My.oz,HM (by omega)]at h;exact h
  ·refine aU (by simp[hy]) ?_;exact⟨_,fun σ' H' z=>z,hy,_,My.lp x y hy,_,_,_,rfl,rfl,My.mS hg hy0 hy,rfl⟩
 ·exact h.elim
theorem A0(T:Tx K mg t):aG P w K mg base CX0 2 t.a_zB t.d_zB ["top","bottom"] bj:=by
 refine okU (k:=1) T.F_zB sU (fun vs H Q E h=>by
  unfold bj at h;split at h
  ·rfl
  ·exact h.elim) (fun cdv A outer s H E B hr=>⟨_,(af (bh (cN (a8 hr.units) a7 (qv 1) ah)
  dy
  aH)
  (af (sN 2 sU.nd (av (Ek T) hr.mo rfl T.g_ze T.F_ze.kp T.B_ze (ab (aM lP tD rfl T.b_abs boot_abs (ab (qv 0) ae)) (ab (aM lP tD rfl T.b_abs boot_abs (ab (qv 1) ae)) ae))))
  (af (bh (cN nP oH (qv 1) ah)
  (au (sN 2 sU.nd (cU (qv 2))))
  aH)
  (au (aA (aN (ab (aV (qv 0) (qv 2)) (ab (aV (qv 1) (qv 2)) ae)))))))),?_⟩)
 intro vs H Q E h;unfold bj at h;split at h
 ·rename_i a b;obtain⟨⟨h0,h1,h2⟩,h⟩:=h;rw[rV h1]at h;have g:=My.jX a b h1;have gb:=je (by omega) g.2 h2;ac_rfl;refine aB (by simp;omega) ?_;rw[My.zM];refine⟨⟨by split<;>omega,by split<;>omega⟩,aB (by simp;omega) ?_⟩
  try ac_rfl
  exact⟨oZ g.1 gb,oZ g.1 gb,ak (by decide),H,Sub.refl _,h⟩
 ·exact h.elim
theorem ED(T:Tx K mg t):aG P w K mg base CX0 3 t.a_zF t.d_zF ["a","b"] fk:=by
 refine okU (k:=2) T.F_zF Ci (fun vs H Q E h=>by
  unfold fk at h;split at h
  ·rfl
  ·exact h.elim) (fun cdv A outer s H E B hr=>⟨_,(au (aA (av (A0 T) hr.mo rfl T.g_zB T.F_zB.kp T.B_zB (ab (bu (iX (qv 0) ah) (iX (qv 1) ah)) (ab (bu (iX (qv 0) ah) (iX (qv 1) ah)) ae))))),?_⟩)
 intro vs H Q E h;unfold fk at h;split at h
 ·rename_i u v;obtain⟨a,b,rfl,rfl,ha,hb,h⟩:=h;have a1:=cV ha;have b1:=cV hb;have a2:=WM.den_pos a;have b2:=WM.den_pos b;have fa:My.BN 4001 a.num:=bnL ha.2.1 (by decide);have fb:My.BN 4001 b.num:=bnL hb.2.1 (by decide);have ga:My.BN 4001 (a.den:Int):=bnL (by rw[Int.natAbs_natCast];exact ha.2.2) (by decide);have gb:My.BN 4001 (b.den:Int):=bnL (by rw[Int.natAbs_natCast];exact hb.2.2) (by decide);have FF:∀{i:Int},My.BN 4001 i->Fit i:=fun h=>h.fit (by decide);rw[←WM.cI]at h;unfold fr at *;ac_rfl;exact⟨.inr ⟨FF fa,FF fb⟩,.inr ⟨FF ga,FF gb⟩,⟨Ki (by omega) (by omega),Int.mul_pos (by omega) (by omega),(ga.mul gb).mono (by decide)⟩,H,Sub.refl _,h⟩
 ·exact h.elim
theorem GC(T:Tx K mg t):aG P w K mg base CX0 3 t.a_zI t.d_zI ["a","b"] gK:=by
 refine okU (k:=2) T.F_zI Dm (fun vs H Q E h=>by
  unfold gK at h;split at h
  ·rfl
  ·exact h.elim) (fun cdv A outer s H E B hr=>⟨_,(au (aA (av (A0 T) hr.mo rfl T.g_zB T.F_zB.kp T.B_zB (ab (bu (iX (qv 0) ah) (iX (qv 1) ah)) (ab (bu (iX (qv 0) ah) (iX (qv 1) ah)) ae))))),?_⟩)
 intro vs H Q E h;unfold gK at h;split at h
 ·rename_i u v;obtain⟨a,b,rfl,rfl,ha,hb,h⟩:=h;have a1:=cV ha;have b1:=cV hb;have a2:=WM.den_pos a;have b2:=WM.den_pos b;have fa:My.BN 4001 a.num:=bnL ha.2.1 (by decide);have fb:My.BN 4001 b.num:=bnL hb.2.1 (by decide);have ga:My.BN 4001 (a.den:Int):=bnL (by rw[Int.natAbs_natCast];exact ha.2.2) (by decide);have gb:My.BN 4001 (b.den:Int):=bnL (by rw[Int.natAbs_natCast];exact hb.2.2) (by decide);have FF:∀{i:Int},My.BN 4001 i->Fit i:=fun h=>h.fit (by decide);rw[←WM.eE]at h;unfold fr at *;ac_rfl;exact⟨.inr ⟨FF fa,FF gb⟩,.inr ⟨FF ga,FF fb⟩,⟨Ki (by omega) (by omega),Int.mul_pos (by omega) (by omega),(ga.mul fb).mono (by decide)⟩,H,Sub.refl _,h⟩
 ·exact h.elim
theorem FA(T:Tx K mg t):aG P w K mg base CX0 2 t.a_zh t.d_zh ["parts"] gD:=by
 refine okU (k:=1) T.F_zh oA (fun vs H Q E h=>by
  unfold gD at h;split at h
  ·rfl
  ·exact h.elim) (fun cdv A outer s H E B hr=>⟨_,(af (sN 1 oA.nd ah)
  (af (bI Ir rfl (aQ (qv 0)) (gN 2 oA.nd)
  (au (bh (cN (dJ hr.units) a7 (aO (qv 1) (iX (qv 2) ah)) ah)
   (au (sN 1 oA.nd (bu (aV (qv 1) (av (Ek T) hr.mo rfl T.g_ze T.F_ze.kp T.B_ze (ab (qv 1) (ab (iX (qv 2) ah) ae)))) (iX (qv 2) ah))))
   aH)))
  (au (aA (qv 1))))),?_⟩)
 intro vs H Q E h;unfold gD at h;split at h
 ·rename_i a;obtain⟨qs,C,ha,⟨C0,C1,C2⟩,h⟩:=h;have CB:My.BN 8900 (C:Int):=bnL (n:=8000) (by rw[Int.natAbs_natCast];exact C1) (by decide);refine aj fun R hR=>?_;ac_rfl;subst hR;refine aj fun R hR=>?_;ac_rfl;refine⟨_,ha,?_⟩;refine aR (fun i σ H2=>∃B z,σ=[some (.ref a),some (.int B),z]/\H2=H/\0<B/\B ∣ (C:Int)/\∀q∈qs.take i,(q.den:Int) ∣ B) ?_ ?_ ⟨1,none,rfl,rfl,by decide,Int.one_dvd _,fun w hw=>by rw[J8]at hw;cases hw⟩
  ·rintro σ H2 ⟨B,z,rfl,rfl,b0,b1,b2⟩;refine⟨ha,?_⟩;subst hR;ac_rfl;exact⟨H2,Sub.refl _,h B b0 b1 (by rw[Hm,Iq]at b2;exact b2)⟩
  ·rintro D i y σ H2 hy ⟨B,z,rfl,rfl,b0,b1,b2⟩ kk;refine⟨ha,?_⟩;rw[Ht]at hy;cases hg:qs[i]? with
   | none=>rw[hg]at hy;cases hy
   | some p =>
    rw[hg]at hy;cases hy;have d1:(p.den:Int) ∣ (C:Int):=JU.mpr (C2 p (Hz hg));have q1:=WM.den_pos p;have C0':0<(C:Int):=by omega
    have bB:=kx b0 C0' b1 CB;have pB:=kx q1 C0' d1 CB
    try simp only[Option.map_some]
    obtain⟨l1,l2,l3,l4⟩:=zU b0 q1 b1 d1;have fl:=jQ (a:=B) (b:=My.gd B p.den) (by omega) (My.jJ _ _ (by omega));have g:=My.jX B p.den (by omega);unfold fr at *;ac_rfl;refine⟨by omega,cp (fun q=>⟨⟨by omega,by omega⟩,oZ g.1 (je (by omega) g.2 pB),.inr ⟨uo (je fl.1 fl.2 bB),uo pB⟩,kk _ _ ⟨_,_,rfl,rfl,l1,l4,fun x hx=>?_⟩⟩) (fun q=>kk _ _ ⟨B,_,rfl,rfl,b0,b1,fun x hx=>?_⟩)⟩
    ·rw[Ip,hg]at hx;rcases Ii.mp hx with hx | hx
     ·exact Int.dvd_trans (b2 x hx) l2
     ·have:x=p:=by simpa using hx
      rw[this];exact l3
    ·rw[Ip,hg]at hx;rcases Ii.mp hx with hx | hx
     ·exact b2 x hx
     ·have:x=p:=by simpa using hx
      rw[this];exact rQ (by omega) (by simpa using q)
 ·exact h.elim
theorem FR(T:Tx K mg t):aG P w K mg base CX0 1 t.a_zq t.d_zq ["parts","bottom"] gF:=by
 refine okU (k:=0) T.F_zq Cf (fun vs H Q E h=>by
  unfold gF at h;split at h
  ·rfl
  ·exact h.elim) (fun cdv A outer s H E B hr=>⟨_,(au (aA (cE nl0 1 [1] (cA uX) (aQ (qv 0)) (fun _ _ _ _=>⟨(gN 0 nn0),bO,(bu (iX (qv 0) ah) (aV (qv 1) (iX (qv 0) ah)))⟩)))),?_⟩)
 intro vs H Q E h;unfold gF at h;split at h
 ·rename_i a B;obtain⟨qs,ha,hl,⟨b0,bB⟩,hp,h⟩:=h;ac_rfl;refine⟨_,ha,fun acc hacc=>?_⟩;refine aX (fT B) (fun _=>true) (fun σ=>∃z,σ=[z,some (.int B)]) (by rw[Hm];omega) (fun l=>(ao (aq ha hacc)).trans ha) ?_ ?_ ⟨_,rfl⟩
  ·rintro y hy l σ R ⟨z,rfl⟩ hl kT kF;obtain⟨p,hw,rfl⟩:=Hw.mp hy;obtain⟨q2,q3⟩:=hp p hw;have q1:=WM.den_pos p;have pB:=kx q1 b0 q2 bB;have fl:=jQ (a:=B) (b:=p.den) (by omega) (by omega);unfold fr at *;ac_rfl;exact⟨oZ (by omega) pB,.inr ⟨uo q3,uo (je fl.1 fl.2 bB)⟩,hl,by rw[aK];exact kT rfl _ ⟨_,rfl⟩⟩
  have em:(((qs.map fr).filter fun _=>true).map (fT B))=(qs.map fun q=>q.num*B.fdiv q.den).map PV.int:=by
   rw[Js.mpr (fun _ _=>rfl),HY,HY];rfl
  rw[em];exact⟨_,Sub.refl _,h acc hacc⟩
 ·exact h.elim
theorem C7(T:Tx K mg t):aG P w K mg base CX0 3 t.a_zG t.d_zG ["parts"] dS:=by
 refine okU (k:=2) T.F_zG yu (fun vs H Q E h=>by
  unfold dS at h;split at h
  ·rfl
  ·exact h.elim) (fun cdv A outer s H E B hr=>⟨_,(af (sN 1 yu.nd (av (FA T) hr.mo rfl T.g_zh T.F_zh.kp T.B_zh (ab (qv 0) ae)))
  (au (aA (av (A0 T) hr.mo rfl T.g_zB T.F_zB.kp T.B_zB (ab (aM (i8 rfl) rh rfl T.b_sum boot_sum (ab (av (FR T) hr.mo rfl T.g_zq T.F_zq.kp T.B_zq (ab (qv 0) (ab (qv 1) ae))) ae)) (ab (qv 1) ae)))))),?_⟩)
 intro vs H Q E h;unfold dS at h;split at h
 ·rename_i a;obtain⟨qs,C,ha,hl,cb,hp,h⟩:=h;have CB:My.BN 8900 (C:Int):=bnL (n:=8000) (by rw[Int.natAbs_natCast];exact cb.2.1) (by decide);refine aj fun R hR=>?_;ac_rfl;refine⟨qs,C,ha,cb,fun B b0 b1 b2=>?_⟩;have bB:=kx b0 (by have:=cb.1;omega) b1 CB;subst hR;ac_rfl;refine⟨qs,ha,hl,⟨b0,bB⟩,fun q hq=>⟨b2 q hq,(hp q hq).2⟩,fun p hp1=>⟨_,rfl,?_⟩⟩;rw[←WM.jk b0 b2]at h
  try ac_rfl
  refine⟨⟨oJ fun x hx=>?_,b0,bB⟩,H,(Sub.refl H).put hp1,h⟩;obtain⟨q,hq,rfl⟩:=Hw.mp hx;have:=Rat.num_nonneg.mpr (JL (hp q hq).1);exact Ki this (jQ (by omega) (WM.den_pos q)).1
 ·exact h.elim
theorem Ga(T:Tx K mg t):aG P w K mg base CX0 1 t.a_zv t.d_zv ["formula"] eU:=by
 refine okU (k:=0) T.F_zv Cc (fun vs H Q E h=>by
  unfold eU at h;split at h
  ·rfl
  ·exact h.elim) (fun cdv A outer s H E B hr=>⟨_,(au (aA (fh (jL (tV (cN (a8 hr.units) a7 (iX (qv 0) ah) aT) (m8 (cN (a8 hr.units) a7 (iX (qv 0) ah) aT)))) (iX (qv 0) ah) (aN ae)))),?_⟩)
 intro vs H Q E h;unfold eU at h;split at h
 ·rename_i v;obtain⟨f,rfl,h⟩:=h;cases f with
  | one=>unfold fV;ac_rfl;exact aB (by decide) (aB (by decide) ⟨ak (by decide),H,Sub.refl _,h⟩)
  | seen ns=>unfold fV;ac_rfl;exact aU (by decide) ⟨H,Sub.refl _,h⟩
  | sum ns f=>unfold fV;ac_rfl;exact aB (by decide) (aU (by decide) ⟨H,Sub.refl _,h⟩)
  | times a b=>unfold fV;ac_rfl;exact aB (by decide) (aB (by decide) ⟨ak (by decide),H,Sub.refl _,h⟩)
  | over a b=>unfold fV;ac_rfl;exact aB (by decide) (aB (by decide) ⟨ak (by decide),H,Sub.refl _,h⟩)
 ·exact h.elim
theorem EX(T:Tx K mg t):aG P w K mg base CX0 1 t.a_zy t.d_zy ["formula"] eL:=by
 refine okU (k:=0) T.F_zy DA (fun vs H Q E h=>by
  unfold eL at h;split at h
  ·rfl
  ·exact h.elim) (fun cdv A outer s H E B hr=>⟨_,(af (bh (jL (tV (cN (a8 hr.units) a7 (iX (qv 0) ah) aT) (m8 (cN (a8 hr.units) a7 (iX (qv 0) ah) aT))))
  (au (aA (aP (ab (iX (qv 0) ah) (ab (iX (qv 0) ah) ae)))))
  aH)
  (af (bh (cN (a8 hr.units) a7 (iX (qv 0) ah) aT)
  (au (aA (aP (ab (iX (qv 0) ah) ae))))
  aH)
  (au (aA (aP ae))))),?_⟩)
 intro vs H Q E h;unfold eL at h;split at h
 ·rename_i v;obtain⟨f,rfl,h⟩:=h;cases f with
  | one=>unfold fV;ac_rfl;exact aB (by decide) (aB (by decide) (aB (by decide) ⟨ak (by decide),fun p hp=>⟨_,Sub.refl _,h p hp⟩⟩))
  | seen ns=>unfold fV;ac_rfl;exact aB (by decide) (aB (by decide) (aB (by decide) ⟨ak (by decide),fun p hp=>⟨_,Sub.refl _,h p hp⟩⟩))
  | sum ns f=>unfold fV;ac_rfl;exact aB (by decide) (aB (by decide) (aU (by decide) ⟨ak (by decide),fun p hp=>⟨_,Sub.refl _,h p hp⟩⟩))
  | times a b=>unfold fV;ac_rfl;exact aU (by decide) ⟨ak (by decide),fun p hp=>⟨_,Sub.refl _,h p hp⟩⟩
  | over a b=>unfold fV;ac_rfl;exact aB (by decide) (aU (by decide) ⟨ak (by decide),fun p hp=>⟨_,Sub.refl _,h p hp⟩⟩)
 ·exact h.elim
theorem FZ(T:Tx K mg t):aG P w K mg base CX0 (1) t.a_zL t.d_zL ["formula","places"] (cQ P w 0):=by
 refine okU (k:=0) T.F_zL ky (fun vs H Q E h=>by
  unfold cQ at h;split at h
  ·rfl
  ·exact h.elim) (fun cdv A outer s H E B hr=>⟨_,dy,?_⟩)
 intro vs H Q E h;unfold cQ at h;split at h
 ·obtain⟨f,ks,N,_,hd,_⟩:=h;omega
 ·exact h.elim
theorem GJ(T:Tx K mg t){n:Nat}(ih:aG P w K mg base CX0 (n+1) t.a_zL t.d_zL ["formula","places"] (cQ P w n)):aG P w K mg base CX0 (n+2) t.a_zL t.d_zL ["formula","places"] (cQ P w (n+1)):=by
 refine okU (k:=n+1) T.F_zL ky (fun vs H Q E h=>by
  unfold cQ at h;split at h
  ·rfl
  ·exact h.elim) (fun cdv A outer s H E B hr=>⟨_,(af (sN 2 ky.nd (aP ae))
  (af (bI Ir rfl (aQ (av (EX T) (hr.mono (by omega)) rfl T.g_zy T.F_zy.kp T.B_zy (ab (qv 0) ae))) (gN 3 ky.nd)
  (au (bM (gm Jt Ju bL cg (qv 2) (ab (av ih (hr.mono (by omega)) rfl T.g_zL T.F_zL.kp T.B_zL (ab (qv 3) (ab (qv 1) ae))) ae)))))
  (af (sN 4 ky.nd (aN (ab (iX (qv 0) ah) (ab (av (Ga T) (hr.mono (by omega)) rfl T.g_zv T.F_zv.kp T.B_zv (ab (qv 0) ae)) (ab (br bP dU rfl T.b_tuple boot_tuple (ab (qv 2) ae)) ae)))))
  (au (aA (show PE' _ _ _ (zH P w (kR P w) _ _)from wO hr.units (qv 1) (ab (qv 4) (ab (aM (pf (P:=P) (w:=w)) uF rfl T.b_len Jv (ab (qv 1) ae)) ae)))))))),?_⟩)
 intro vs H Q E h;unfold cQ at h;split at h
 ·rename_i v d;obtain⟨f,ks,N,hv,hd,ok,hH,all,hz,h⟩:=h;obtain⟨r,e⟩:=vo f;rw[e]at hv;subst hv;ac_rfl;refine⟨ak (by decide),fun p hp=>⟨f,e.symm,fun q hq=>?_⟩⟩;have ndp:d≠p:=aq hH hp;have hH1:put H p (.lst []) d=some (.dN P w ks):=(ao ndp).trans hH;have ndq:d≠q:=aq hH1 hq;have npq:p≠q:=fun e=>by subst e;rw[ai]at hq;cases hq
  have sb:U.Sub H (put (put H p (.lst [])) q (.lst ((kids f).map fV))):=(((Sub.refl H).put hp).put (((Sub.refl H).put hp).free hq))
  try refine⟨_,ai,?_⟩
  refine rL (fun i σ H2=>∃k js ks2,σ=[some (.tup (.str (wd f)::r)),some (.ref d),some (.ref p),k,none]/\(∀a u,a≠d->H a=some u->H2 a=some u)/\H2 p=some (.lst (js.map PV.int))/\H2 q=some (.lst ((kids f).map fV))/\H2 d=some (.dN P w ks2)/\Mid f ks ((kids f).take i) js ks2/\js.length=i) ?_ ?_ ⟨none,[],ks,rfl,fun a u _ hu=>sb a u hu,(ao npq).trans ai,ai,(ao ndq).trans hH1,Mid.nil,rfl⟩
  ·rintro σ H2 ⟨k,js,ks2,rfl,s2,hp2,hq2,hd2,m,hj⟩;refine⟨hq2,?_⟩;rw[Hm,Iq]at m;have k2:=(gE f).2;have ml:=m.len;have mk:=(gE f).1;ac_rfl;refine⟨f,e.symm,_,hp2,ak (by decide),⟨_,hd2⟩,_,hd2,by omega,ks2,(wd f,nmF f,js),hd2,rfl,rfl,by omega,fun i hi=>?_,fun hn=>?_⟩
   ·exact⟨_,iA s2 hd2,h i ks2 (Laid.there m.kid m.keep m.all (by omega) all hi)⟩
   ·refine⟨_,iA (fun a u ha hu=>?_) ai,h _ _ (Laid.fresh ok m.kid m.keep m.all (by omega))⟩;rw[ao ha];exact s2 a u ha hu
  ·rintro G i y σ H2 hy ⟨k,js,ks2,rfl,s2,hp2,hq2,hd2,m,hj⟩ kk;refine⟨hq2,?_⟩;rw[Ht]at hy;cases hg:(kids f)[i]? with
   | none=>rw[hg]at hy;cases hy
   | some g =>
    rw[hg]at hy;cases hy;have hm:=Hz hg;obtain⟨z1,z2,z3⟩:=BL hm;have hi:=(Hs.mp hg).1;have k2:=(gE f).2;have et:(kids f).take (i+1)=(kids f).take i++[g]:=by rw[Ip,hg];rfl
    have mk:=(gE f).1;have ml:=m.len;have msum:(((kids f).take i).map sz).sum+sz g≤((kids f).map sz).sum:=by
     have:(((kids f).take (i+1)).map sz).sum≤((kids f).map sz).sum:=by rw[List.map_take];exact kP _ _
     rw[et,HW,List.sum_append]at this;simpa using this
    ac_rfl;refine⟨⟨_,hp2⟩,g,ks2,N+sz f,rfl,by omega,z3 ok,hd2,m.all _ (all.up (by omega)) (by omega),by omega,fun i2 ks3 l3=>?_⟩;refine⟨_,(ao ndp.symm).trans hp2,by rw[Hm];exact aW (by omega),?_⟩
    try ac_rfl
    refine kk _ _ ⟨_,js++[(i2:Int)],ks3,rfl,fun a u ha hu=>?_,?_,?_,?_,?_,?_⟩
    ·by_cases ap:a=p
     ·subst ap;rw[hp]at hu;cases hu
     ·rw[ao ap,ao ha];exact s2 a u ha hu
    ·rw[ai,HW];rfl
    ·rw[ao npq.symm,ao ndq.symm];exact hq2
    ·rw[ao ndp];exact ai
    ·rw[et];exact m.step z1 l3
    ·rw[HN,hj];rfl
 ·exact h.elim
theorem DY(T:Tx K mg t):∀n,aG P w K mg base CX0 (n+1) t.a_zL t.d_zL ["formula","places"] (cQ P w n)
 | 0=>FZ T
 | n+1=>GJ T (DY T n)
theorem Dx(T:Tx K mg t):aG P w K mg base CX0 47 t.a_zx t.d_zx ["formula"] gW:=by
 refine okU (k:=46) T.F_zx ym (fun vs H Q E h=>by
  unfold gW at h;split at h
  ·rfl
  ·exact h.elim) (fun cdv A outer s H E B hr=>⟨_,(af (sN 1 ym.nd (show PE' _ _ _ (mY P w)from sf))
  (af (bM (av (DY (P:=P) (w:=w) T 45) hr.mo rfl T.g_zL T.F_zL.kp T.B_zL (ab (qv 0) (ab (qv 1) ae))))
  (au (aA (br (mz (P:=P) (w:=w) rfl) tO rfl T.b_list boot_list (ab (qv 1) ae)))))),?_⟩)
 intro vs H Q E h;unfold gW at h;split at h
 ·rename_i v;obtain⟨f,rfl,hd,ok,hz,h⟩:=h;ac_rfl;intro d hd'
  try ac_rfl
  refine⟨f,[],0,rfl,by omega,ok,rfl,fun i hi=>by simp at hi,by simpa using hz,fun i ks l=>?_⟩;have ll:=l.len;refine⟨ks,rfl,by simp at ll;omega,fun r hr=>?_⟩;rw[aK]at hr ⊢;have hrH:H r=none:=((Sub.refl H).put hd').free hr;refine⟨put H r (.lst (ks.map ndV)),?_,h r i ks hrH l⟩;exact j8 (((Sub.refl H).put hd').put hrH) ai
 ·exact h.elim
theorem DJ(T:Tx K mg t):aG P w K mg base CX0 1 t.a_zw t.d_zw ["nodes"] eP:=by
 refine okU (k:=0) T.F_zw ji (fun vs H Q E h=>by
  unfold eP at h;split at h
  ·rfl
  ·exact h.elim) (fun cdv A outer s H E B hr=>⟨_,(af (sN 1 ji.nd (aP ae))
  (af (bI Ir rfl (aQ (qv 0)) (gN 2 ji.nd)
  (af (sN 3 ji.nd (fh (cN (a8 hr.units) a7 (iX (qv 2) ah) aT) (br kc vU rfl T.b_list boot_list (ab (iX (qv 2) ah) ae)) (aP ae)))
   (af (bI Ir rfl (aQ (iX (qv 2) ah)) (gN 4 ji.nd)
   (au (bM (gm PySem.F.slot_list_extend PySem.F.type_list_extend mP vz (qv 3) (ab (iX (qv 1) (qv 4)) ae)))))
   (af (sN 5 ji.nd (fh (cN (a8 hr.units) a7 (iX (qv 2) ah) aT) (iX (qv 2) ah) (aN ae)))
   (au (bM (gm Jt Ju bL cg (qv 1) (ab (br bP dU rfl T.b_tuple boot_tuple (ab (iY rfl rfl T.b_sorted rfl T.b_set boot_set (qv 3) (qv 5)) ae)) ae))))))))
  (au (aA (qv 1))))),?_⟩)
 intro vs H Q E h;unfold eP at h;split at h
 ·rename_i a;obtain⟨ks,N,ha,all,hz,h⟩:=h;ac_rfl;refine⟨ak (by decide),fun p hp=>?_⟩;have nap:a≠p:=aq ha hp;refine⟨_,(ao nap).trans ha,?_⟩;refine aR (fun i σ H2=>∃z1 z2 z3 z4 os,σ=[some (.ref a),some (.ref p),z1,z2,z3,z4]/\U.Sub H H2/\H2 p=some (.lst (os.map nsV))/\H2 a=some (.lst (ks.map ndV))/\os.length=i/\bW ks os) ?_ ?_ ⟨none,none,none,none,[],rfl,(Sub.refl H).put hp,ai,(ao nap).trans ha,rfl,fun i ms hi=>by simp at hi⟩
  ·rintro σ H2 ⟨z1,z2,z3,z4,os,rfl,s2,hp2,ha2,hl,ho⟩;refine⟨ha2,?_⟩;rw[Hm]at hl;ac_rfl;exact⟨_,j8 s2 hp2,h p os hp hl ho⟩
  ·rintro D i y σ H2 hy ⟨z1,z2,z3,z4,os,rfl,s2,hp2,ha2,hl,ho⟩ kk;refine⟨ha2,?_⟩;rw[Ht]at hy;cases hg:ks[i]? with
   | none=>rw[hg]at hy;cases hy
   | some nd =>
    rw[hg]at hy;cases hy;obtain⟨f,dn,_,okf⟩:=all i (Hs.mp hg).1;have hil:=(Hs.mp hg).1;subst hl;have nk:=vY ho dn hg okf;obtain⟨wn,ns,js⟩:=nd;have kl:=nk.len;have npl:=nk.pl;have six:∀q∈js,(oG os q).length≤6:=fun q hq=>by
     obtain⟨j,rfl,hj⟩:=npl q hq;exact zZ ho all hj
    have bl:=nk.bl;simp only at kl;simp only[Option.map_some,ndV,bw,IV,IW];refine aj fun R hR=>?_;have go:∀r z3 z4,H2 r=none->R D [some (.ref a),some (.ref p),some (.tup [.str wn,.tup (ns.map PV.int),.tup (js.map PV.int)]),some (.ref r),z3,z4] (put H2 r (.lst ((b0 (wn,ns,js)).map PV.int))):=fun r z3 z4 hr=>by
     subst hR;have npr:p≠r:=aq hp2 hr;have nar:a≠r:=aq ha2 hr;have s3:=s2.put (o:=.lst ((b0 (wn,ns,js)).map PV.int)) (s2.free hr);have hp3:put H2 r (.lst ((b0 (wn,ns,js)).map PV.int)) p=some (.lst (os.map nsV)):=(ao npr).trans hp2;have ha3:put H2 r (.lst ((b0 (wn,ns,js)).map PV.int)) a=some (.lst (ks.map ndV)):=(ao nar).trans ha2;have hr3:put H2 r (.lst ((b0 (wn,ns,js)).map PV.int)) r=some (.lst ((b0 (wn,ns,js)).map PV.int)):=ai;generalize put H2 r (.lst ((b0 (wn,ns,js)).map PV.int))=H3 at *;refine aj fun R hR=>?_;ac_rfl;refine aR (fun j σ H4=>∃z3 z4,σ=[some (.ref a),some (.ref p),some (.tup [.str wn,.tup (ns.map PV.int),.tup (js.map PV.int)]),some (.ref r),z3,z4]/\U.Sub H H4/\H4 p=some (.lst (os.map nsV))/\H4 a=some (.lst (ks.map ndV))/\H4 r=some (.lst ((b0 (wn,ns,js)++(js.take j).flatMap (oG os)).map PV.int))) ?_ ?_ ⟨z3,z4,rfl,s3,hp3,ha3,by simpa using hr3⟩
     ·rintro σ H4 ⟨z3,z4,rfl,s4,hp4,ha4,hr4⟩;refine⟨trivial,?_⟩;rw[Hm,Iq]at hr4;subst hR;dsimp only;refine aj fun R hR=>?_;have go2:R D [some (.ref a),some (.ref p),some (.tup [.str wn,.tup (ns.map PV.int),.tup (js.map PV.int)]),some (.ref r),z3,some (.tup ((bd (wn,ns,js)).map PV.int))] H4:=by
       subst hR;ac_rfl;refine⟨⟨_,hp4⟩,(b0 (wn,ns,js)++js.flatMap (oG os)).map Int.toNat,by rw[hr4,oh nk.lo],fun n hn=>?_,(bd (wn,ns,js)).map Int.toNat,oh nk.lob,fun n hn=>?_,fun r5 ks5 hr5 up5 mem5=>?_⟩
       ·obtain⟨z,hz,rfl⟩:=Hw.mp hn;have:=nk.lo z hz;omega
       ·obtain⟨z,hz,rfl⟩:=Hw.mp hn;have:=nk.lob z hz;omega
       try ac_rfl
       refine⟨_,(ao (aq hp4 hr5)).trans hp4,by rw[Hm];exact aW (by omega),?_⟩
       try ac_rfl
       have np5:p≠r5:=aq hp4 hr5;refine kk _ _ ⟨_,_,_,_,os++[ks5.map fun(n:Nat)=>(n:Int)],rfl,?_,?_,?_,?_,?_⟩
       ·exact((s4.put (s4.free hr5)).put hp)
       ·rw[ai,HW];congr 2;unfold nsV;rw[HV,J0,HY];rfl
       ·rw[ao nap,ao (aq ha4 hr5)];exact ha4
       ·rw[HN];rfl
       ·refine ho.step dn ?_ fun x=>?_
        ·rw[List.pairwise_map];exact up5.imp fun h=>by omega
        ·rw[←nk.op x,Hw];constructor
         ·rintro⟨n,hn,rfl⟩;obtain⟨q1,q2⟩:=(mem5 n).mp hn;obtain⟨z,hz,e⟩:=Hw.mp q1;have:=nk.lo z hz;have ez:((n:Nat):Int)=z:=by omega
          rw[ez];refine⟨hz,fun hb=>q2 (Hw.mpr ⟨z,hb,by omega⟩)⟩
         ·rintro⟨q1,q2⟩;have:=nk.lo x q1;refine⟨x.toNat,(mem5 _).mpr ⟨Hw.mpr ⟨x,q1,rfl⟩,fun hb=>?_⟩,by omega⟩;obtain⟨z,hz,e⟩:=Hw.mp hb;have:=nk.lob z hz;have:z=x:=by omega
          rw[this]at hz;exact q2 hz
      ac_rfl;refine cp (fun q=>?_) (fun q=>?_)
      ·have e:bd (wn,ns,js)=ns:=HP q;rw[e]at go2;exact go2
      ·have e:bd (wn,ns,js)=[]:=HM (by rw[q];decide);rw[e]at go2;exact⟨ak (by decide),go2⟩
     ·rintro D' j y σ H4 hy ⟨z3,z4,rfl,s4,hp4,ha4,hr4⟩ kk';refine⟨trivial,?_⟩;rw[Ht]at hy;cases hj:js[j]? with
      | none=>rw[hj]at hy;cases hy
      | some pl =>
       rw[hj]at hy;cases hy;obtain⟨m,rfl,hm⟩:=npl pl (Hz hj)
       try simp only[Option.map_some]
       ac_rfl;refine⟨⟨_,hr4⟩,_,hp4,?_⟩;rw[jI hm];ac_rfl;have sx:=six _ (Hz hj);have fl:=tF (js:=js.take j) (h:=oG os) fun q hq=>six q (List.mem_of_mem_take hq);have tl:(js.take j).length≤2:=by rw[Ij];omega
       refine⟨_,hr4,?_,?_⟩
       ·rw[Hm,Hm,HN];exact ak (by omega)
       ·refine kk' _ _ ⟨_,_,rfl,s4.put (s2.free hr),?_,?_,?_⟩
        ·rw[ao npr];exact hp4
        ·rw[ao nar];exact ha4
        ·rw[ai,qe hj,← List.append_assoc,HW,HW,HW]
         try rfl
    ac_rfl;refine cp (fun q=>?_) (fun q=>?_)
    ·have e:b0 (wn,ns,js)=ns:=HP q;rw[e]at go;exact fun r hr=>go r _ _ hr
    ·have e:b0 (wn,ns,js)=[]:=HM (by rw[q];decide);rw[e]at go;exact⟨ak (by decide),fun r hr=>go r _ _ hr⟩
 ·exact h.elim
theorem Gu(T:Tx K mg t):aG P w K mg base CX0 48 t.a_zn t.d_zn ["formula"] oF:=by
 refine okU (k:=47) T.F_zn D5 (fun vs H Q E h=>by
  unfold oF at h;split at h
  ·rfl
  ·exact h.elim) (fun cdv A outer s H E B hr=>⟨_,(au (aA (iX (av (DJ T) hr.mo rfl T.g_zw T.F_zw.kp T.B_zw (ab (av (Dx T) hr.mo rfl T.g_zx T.F_zx.kp T.B_zx (ab (qv 0) ae)) ae)) (cU ah)))),?_⟩)
 intro vs H Q E h;unfold oF at h;split at h
 ·rename_i v;obtain⟨f,rfl,hd,ok,hz,h⟩:=h;ac_rfl;refine⟨f,rfl,hd,ok,hz,fun r i ks hr l=>?_⟩;have ll:=l.len;have la:=l.last fun j hj=>by simp at hj
  simp only[JX,Nat.zero_add]at ll
  try ac_rfl
  refine⟨ks,sz f+1,rfl,l.all _ (fun j hj=>by simp at hj) (by omega),by omega,fun r2 os hr2 ho hO=>?_⟩
  try ac_rfl
  have hi:os.length - 1<os.length:=by omega
  have e1:os[os.length - 1]?=some os[os.length - 1]:=Hn hi;have ei:os.length - 1=i:=by omega
  have op:=hO.at e1 (by rw[ei];exact l.den);generalize os[os.length - 1]=ms at *;have ea:atI (os.map nsV) (-1)=some (.tup (ms.map PV.int)):=eX (by rw[Hm,Ht,e1];rfl)
  try refine⟨_,ai,?_⟩
  rw[ea]
  try ac_rfl
  exact⟨H,((Sub.refl H).put hr).put (((Sub.refl H).put hr).free hr2),h ms op⟩
 ·exact h.elim
theorem EJ(T:Tx K mg t):aG P w K mg base CX0 1 t.a_zk t.d_zk ["_law_script","_law_k"] gC:=by
 refine okU (k:=0) T.F_zk Dr (fun vs H Q E h=>by
  unfold gC at h;split at h
  ·rfl
  ·exact h.elim) (fun cdv A outer s H E B hr=>⟨_,(af (bh (cN nP oH (qv 1) (aM aL cy rfl T.b_len Jv (ab (qv 0) ae)))
  (au (aA (iX (qv 0) (qv 1))))
  aH)
  (au (aA ah))),?_⟩)
 intro vs H Q E h;unfold gC at h;split at h
 ·rename_i l k;obtain⟨⟨h0,h1⟩,ns,rfl,h⟩:=h;ac_rfl;by_cases hk:k<ns.length
  ·refine aU (by rw[Hm];simpa using hk) ?_;rw[ki h0 hk];exact⟨H,Sub.refl _,h⟩
  ·refine aB (by rw[Hm];simpa using hk) ⟨H,Sub.refl _,?_⟩;rw[Hq,JI (by omega)]at h;exact h
 ·exact h.elim
theorem CF(T:Tx K mg t):aG P w K mg base CX0 1 t.a_zm t.d_zm ["_law_script","_law_at","_law_parts"] dz:=by
 refine okU (k:=0) T.F_zm gk (fun vs H Q E h=>by
  unfold dz at h;split at h
  ·rfl
  ·exact h.elim) (fun cdv A outer s H E B hr=>⟨_,(af (sN 3 gk.nd (aM (i8 rfl) rh rfl T.b_sum boot_sum (ab (cE nl1 1 [0] (cA vK) (A8 rfl T.b_range (ab (qv 1) (ab (aM (o9 rfl) A3 rfl T.b_min boot_min (ab (aM aL cy rfl T.b_len Jv (ab (qv 0) ae)) (ab ah ae))) (ab (qv 2) ae)))) (fun _ _ _ _=>⟨(gN 0 nn1),bO,(iX (qv 1) (qv 0))⟩)) ae)))
  (af (sN 4 gk.nd (aP ae))
  (af (sN 5 gk.nd (aO (qv 3) ah))
  (af (sN 6 gk.nd (bu (qv 3) (br pH Ao rfl T.b_int boot_int (ab (tQ DU EA (qv 3) (l7 ah ah) (mM _)) ae))))
  (af (bI Ir rfl (fq rfl T.b_range (ab ah ae)) (gN 7 gk.nd)
  (af (sN 5 gk.nd (aO (fO (fO (bu (qv 5) (qv 5)) (qv 3)) (qv 7)) ah))
   (af (bh (cN yt xM (qv 6) ah)
   (au (bM (gm Jt Ju bL cg (qv 4) (ab (aO (qv 6) ah) ae))))
   (au (bM (gm Jt Ju bL cg (qv 4) (ab (aO (aO (bu (qv 5) (qv 5)) ah) ah) ae)))))
   (au (sN 6 gk.nd (aV (qv 6) ah))))))
  (au (aA (Bc rfl rfl T.b_list rfl T.b_reversed boot_list boot_reversed (qv 4))))))))),?_⟩)
 intro vs H Q E h;unfold dz at h;split at h
 ·rename_i l k n;obtain⟨rfl,⟨k0,k3⟩,ns,rfl,h⟩:=h;refine aj fun R hR=>?_;ac_rfl;rw[Hm];generalize hm:(if (63:Int)<((ns.length:Nat):Int)then 63 else((ns.length:Nat):Int))=m;have m0:0≤m/\m≤63/\m≤ns.length:=by
   rw[←hm];split<;>omega
  refine⟨k0,by omega,m0.1,by omega,fun acc hacc=>?_⟩;refine aX (fun y=>.int (gI ns y)) (fun _=>true) (fun σ=>∃z,σ=[z,some (.fls (ns.map PV.int))]) (tJ k0 m0.2.1) (fun _=>trivial) ?_ ?_ ⟨_,rfl⟩
  ·rintro y hy l σ R ⟨z,rfl⟩ hl kT kF;obtain⟨u,rfl,u0,u1⟩:=xH hy;ac_rfl;rw[ki (by omega) (by omega)];exact⟨hl,by rw[aK];exact kT rfl _ ⟨_,rfl⟩⟩
  refine⟨((eZ k (by2 k m)).filter fun _=>true).map (gI ns),by rw[ai,HY];rfl,?_⟩;generalize (((eZ k (by2 k m)).filter fun _=>true).map (gI ns)).sum=u;have sA:=(Sub.refl H).put (o:=.lst (List.map (fun y=>.int (gI ns y)) ((eZ k (by2 k m)).filter fun _=>true))) hacc;generalize put H acc (.lst (List.map (fun y=>.int (gI ns y)) ((eZ k (by2 k m)).filter fun _=>true)))=H1 at *;subst hR;refine aj fun R hR=>?_;ac_rfl;refine⟨ak (by decide),fun p hp=>?_⟩;subst hR;refine aj fun R hR=>?_;ac_rfl;refine⟨by decide,?_⟩;subst hR;have f0:=fm (a:=u) (b:=2147483629) (by decide);generalize u.fmod 2147483629=fi at *;refine aj fun R hR=>?_;ac_rfl;refine⟨⟨by decide,by decide,by decide⟩,?_⟩;have hb:∀b:Bool,lX u (b2n b):=fun b=>.inl (.inr (by cases b<;>decide));refine⟨hb _,?_⟩;generalize u*b2n _=rs;subst hR;have hpH:H p=none:=sA.free hp;have sB:=sA.put (o:=.lst []) hpH;refine aj fun R hR=>?_;ac_rfl;refine⟨⟨by decide,by decide⟩,?_⟩;refine qC (fun i σ H2=>∃fi rs z xs,σ=[some (.fls (ns.map PV.int)),some (.int k),some (.int 2),some (.int u),some (.ref p),some (.int fi),some (.int rs),z]/\(0≤fi/\fi<2147483629)/\U.Sub H H2/\H2 p=some (.lst (xs.map PV.int))/\xs.length=i/\Nn xs) ?_ ?_ ⟨fi,rs,none,[],rfl,f0,sB,ai,rfl,fun x hx=>by cases hx⟩
  ·rintro σ H2 ⟨fi,rs,z,xs,rfl,hf,s2,hp2,hl,nn⟩;refine⟨trivial,?_⟩;subst hR;ac_rfl;refine⟨_,hp2,fun r hr=>⟨put H r (.lst (xs.reverse.map PV.int)),?_,h r xs.reverse (s2.free hr) (by rw[List.length_reverse,hl];decide) fun x hx=>nn x (List.mem_reverse.mp hx)⟩⟩;rw[←List.map_reverse];exact j8 (s2.put (s2.free hr)) ai
  ·rintro D i σ H2 hi ⟨fi,rs,z,xs,rfl,⟨f0,f1⟩,s2,hp2,hl,nn⟩ kk;refine⟨trivial,?_⟩;simp only[bw,IV,IW];refine aj fun R hR=>?_;ac_rfl;refine⟨.inl (.inl ⟨by omega,by omega⟩),by decide,?_⟩;subst hR;have g0:=fm (a:=fi*fi+u+((i:Nat):Int)) (b:=2147483629) (by decide);generalize (fi*fi+u+((i:Nat):Int)).fmod 2147483629=fj at *;refine aj fun R hR=>?_;have lz:(xs.map PV.int).length<sizeLine:=by rw[Hm];exact aW (by omega)
   have last:∀x,0≤x->R D [some (.fls (ns.map PV.int)),some (.int k),some (.int 2),some (.int u),some (.ref p),some (.int fj),some (.int rs),some (.int (i:Nat))] (put H2 p (.lst (xs.map PV.int++[.int x]))):=fun x hx=>by
    subst hR;ac_rfl;refine⟨lC (by decide) (by decide),kk _ _ ⟨fj,_,_,xs++[x],rfl,g0,s2.put hpH,by rw[ai,HW];rfl,by rw[HN,hl];rfl,Aj nn hx⟩⟩
   ac_rfl;refine cp (fun q=>?_) (fun q=>?_)
   ·exact⟨⟨_,hp2⟩,by decide,_,hp2,lz,last _ (fm (by decide)).1⟩
   ·exact⟨⟨_,hp2⟩,.inl (.inl ⟨by omega,by omega⟩),by decide,by decide,_,hp2,lz,last _ (fm (by decide)).1⟩
 ·exact h.elim
theorem Ct(T:Tx K mg t):aG P w K mg base CX0 1 t.a_zj t.d_zj ["_law_digit","_law_count"] oO:=by
 refine okU (k:=0) T.F_zj DW (fun vs H Q E h=>by
  unfold oO at h;split at h
  ·rfl
  ·exact h.elim) (fun cdv A outer s H E B hr=>⟨_,(au (aA (br bP dU rfl T.b_tuple boot_tuple (ab (cE nl2 1 [0] (cA uM) (fq rfl T.b_range (ab (qv 1) ae)) (fun _ _ _ _=>⟨(gN 0 nn2),(j7 (cN (a8 hr.units) a7 (aO (zR (qv 1) (qv 0)) ah) ah)),(qv 0)⟩)) ae)))),?_⟩)
 intro vs H Q E h;unfold oO at h;split at h
 ·rename_i n c;obtain⟨⟨n0,c1,c6⟩,h⟩:=h;ac_rfl;refine⟨⟨by omega,by omega⟩,fun acc hacc=>?_⟩;rw[A2];refine aX (fun y=>y) (onI fun u=>(n / 2 ^ u.toNat).fmod 2==1) (fun σ=>∃z,σ=[z,some (.int n)]) (by rw[Hm,A6];omega) (fun _=>trivial) ?_ ?_ ⟨_,rfl⟩
  ·rintro y hy l σ R ⟨z,rfl⟩ hl kT kF;obtain⟨u,hu,rfl⟩:=Hw.mp hy;have u0:=(jD.mp hu).1;dsimp only[onI]at kT kF;ac_rfl;refine⟨u0,by decide,cp (fun q=>?_) (fun q=>?_)⟩
   ·exact⟨hl,by rw[aK];exact kT q _ ⟨_,rfl⟩⟩
   ·exact kF q _ ⟨_,rfl⟩
  rw[fX];refine⟨_,ai,H,Sub.put (Sub.refl _) hacc,h _ ⟨(CS c).filter _,fun x hx=>?_⟩ fun x hx=>(jD.mp (I0.mp hx).1).2⟩;have:=jD.mp (I0.mp hx).1;omega
 ·exact h.elim
theorem GS(T:Tx K mg t):aG P w K mg base CX0 (1) t.a_zs t.d_zs ["_law_purse","_law_count","_law_down"] (bJ 0):=by
 refine okU (k:=0) T.F_zs iI (fun vs H Q E h=>by
  unfold bJ at h;split at h
  ·rfl
  ·exact h.elim) (fun cdv A outer s H E B hr=>⟨_,dy,?_⟩)
 intro vs H Q E h;unfold bJ at h;split at h
 ·obtain⟨⟨hd,hd0⟩,_⟩:=h;omega
 ·exact h.elim
theorem EC(T:Tx K mg t){n:Nat}(ih:aG P w K mg base CX0 (n+1) t.a_zs t.d_zs ["_law_purse","_law_count","_law_down"] (bJ n)):aG P w K mg base CX0 (n+2) t.a_zs t.d_zs ["_law_purse","_law_count","_law_down"] (bJ (n+1)):=by
 refine okU (k:=n+1) T.F_zs iI (fun vs H Q E h=>by
  unfold bJ at h;split at h
  ·rfl
  ·exact h.elim) (fun cdv A outer s H E B hr=>⟨_,(af (sN 3 iI.nd (ka PySem.F.slot_list_pop PySem.F.type_list_pop jO kr jK (qv 0)))
  (af (sN 4 iI.nd (aO (qv 3) ah))
  (af (sN 5 iI.nd (av (Ct T) (hr.mono (by omega)) rfl T.g_zj T.F_zj.kp T.B_zj (ab (aV (qv 3) ah) (ab (qv 1) ae))))
  (af (bh (jL (tV (cN (a8 hr.units) a7 (qv 2) ah) (m8 (cN nP oH (qv 4) ah))))
  (af (bh (cN (a8 hr.units) a7 (aO (aV (qv 3) ah) ah) ah)
   (au (aA (aN (ab aT ae))))
   aH)
   (au (aA (aN (ab aT (ab (qv 5) ae))))))
  aH)
  (af (bh (cN nP oH (qv 4) ah)
  (af (bh (cN (a8 hr.units) a7 (qv 5) (aN ae))
   (au (sN 5 iI.nd (aN (ab (aO (aV (qv 3) ah) (qv 1)) ae))))
   aH)
   (au (aA (aN (ab aT (ab (qv 5) (ab (av ih (hr.mono (by omega)) rfl T.g_zs T.F_zs.kp T.B_zs (ab (qv 0) (ab (qv 1) (ab (kj (qv 2) ah) ae)))) ae)))))))
  aH)
  (af (sN 6 iI.nd (av ih (hr.mono (by omega)) rfl T.g_zs T.F_zs.kp T.B_zs (ab (qv 0) (ab (qv 1) (ab (kj (qv 2) ah) ae)))))
  (au (aA (aN (ab (iX (aP (ab aT (ab aT ae))) (aO (aV (qv 3) ah) ah)) (ab (qv 6) (ab (av ih (hr.mono (by omega)) rfl T.g_zs T.F_zs.kp T.B_zs (ab (qv 0) (ab (qv 1) (ab (kj (qv 2) ah) ae)))) ae)))))))))))),?_⟩)
 intro vs H Q E h;unfold bJ at h;split at h
 ·rename_i p c d;obtain⟨⟨hd,hd0⟩,⟨c1,c6⟩,xs,hp,nn,hl,h⟩:=h;have nl:need (n+1)=2*need n+1:=rfl;obtain⟨dg,e1,e2,e3,e4,e5⟩:=xo (xs:=xs) (by omega);have dg0:=nn dg e2;have nny:Nn xs.dropLast:=fun z hz=>nn z (e5 z hz);generalize xs.dropLast=ys at *;refine aj fun R hR=>?_;ac_rfl;refine⟨_,_,hp,e1,?_⟩;rw[e3];subst hR;refine aj fun R hR=>?_;ac_rfl;refine⟨by decide,?_⟩;subst hR;generalize dg.fmod 8=wy at *;refine aj fun R hR=>?_;ac_rfl;refine⟨lC (by decide) (by decide),⟨fd dg0 (by decide),c1,c6⟩,fun L hL hLc=>?_⟩;subst hR;refine aj fun R hR=>?_;have hLi:∀n∈L,0≤n/\n<((c.toNat:Nat):Int):=fun n hn=>⟨(hL.2 n hn).1,by have:=hLc n hn;omega⟩;have hone:∃H3,U.Sub H3 (put H p (.lst (ys.map PV.int)))/\Q (.tup [.str "one"]) H3:=⟨_,Sub.refl _,h .one ys trivial trivial (by simp only[dp];omega) (by simp only[sz];omega) nny (by omega)⟩;have hseen:∃H3,U.Sub H3 (put H p (.lst (ys.map PV.int)))/\Q (.tup [.str "seen",.tup (L.map PV.int)]) H3:=⟨_,Sub.refl _,h (.seen L) ys hL hLi (by simp only[dp];omega) (by simp only[sz];omega) nny (by omega)⟩;ac_rfl;have leaf:=(⟨lC (by decide) (by decide),by decide,cp (fun _=>⟨ak (by decide),hone⟩) (fun _=>⟨ak (by decide),hseen⟩)⟩:jy dg 8/\(11:Int)≠0/\cif (((dg.fdiv 8).fmod 11)==5) (1≤sizeLine/\∃H3,U.Sub H3 (put H p (.lst (ys.map PV.int)))/\Q (.tup [.str "one"]) H3) (2≤sizeLine/\∃H3,U.Sub H3 (put H p (.lst (ys.map PV.int)))/\Q (.tup [.str "seen",.tup (L.map PV.int)]) H3));refine cp (fun _=>leaf) (fun q1=>cp (fun _=>leaf) (fun q2=>?_));have dn:d≠0:=by simpa using q1
  subst hR;have fin:∀M f zs,Nm M->(∀n∈M,0≤n/\n<((c.toNat:Nat):Int))->Ok f->WM.In c.toNat f->dp f<n->sz f≤need n->Nn zs->ys.length≤zs.length+need n->∃H3,U.Sub H3 (put H p (.lst (zs.map PV.int)))/\Q (.tup [.str "sum",.tup (M.map PV.int),fV f]) H3:=fun M f zs hM hMc of fi h1 h2 nz h3 =>
   ⟨_,Sub.refl _,h (.sum M f) zs ⟨hM,of⟩ ⟨hMc,fi⟩ (by simp only[dp];omega) (by simp only[sz];omega) nz (by omega)⟩
  refine aj fun R hR=>?_;ac_rfl;refine cp (fun q3=>?_) (fun q3=>?_)
  ·refine⟨ak (by decide),fM,cp (fun _=>?_) (fun _=>?_)⟩
   ·have fc:=fm (a:=dg.fdiv 512) (b:=c) (by omega);refine⟨lC (by decide) (by decide),by omega,ak (by decide),⟨by omega,by omega⟩,⟨c1,c6⟩,ys,rfl,nny,by omega,fun f zs of fi h1 h2 nz h3=>?_⟩
    try rw[aK]
    exact⟨ak (by decide),fin [_] f zs (Af ⟨fc.1,by omega⟩) (fun n hn=>by rw[Hx.mp hn];exact⟨fc.1,by omega⟩) of fi h1 h2 nz h3⟩
   ·refine⟨⟨by omega,by omega⟩,⟨c1,c6⟩,ys,rfl,nny,by omega,fun f zs of fi h1 h2 nz h3=>?_⟩
    try rw[aK]
    exact⟨ak (by decide),fin L f zs hL hLi of fi h1 h2 nz h3⟩
  ·subst hR;refine aj fun R hR=>?_;ac_rfl;refine⟨⟨by omega,by omega⟩,⟨c1,c6⟩,ys,rfl,nny,by omega,fun f1 zs of1 fi1 d1 z1 nz1 l1=>?_⟩
   try rw[aK]
   subst hR;ac_rfl;refine⟨ak (by decide),fun r hr=>?_⟩
   try ac_rfl
   refine⟨lC (by decide) (by decide),by decide,?_⟩;have npr:p≠r:=fun e=>by subst e;rw[ai]at hr;cases hr
   have hrH:H r=none:=by rw[ao npr.symm]at hr;exact hr
   have f2:=fm (a:=dg.fdiv 512) (b:=2) (by decide);have sx:∀zs2:List Int,U.Sub (put H p (.lst (zs2.map PV.int))) (put (put (put H p (.lst (zs.map PV.int))) r (.lst [.str "times",.str "over"])) p (.lst (zs2.map PV.int))):=fun zs2=>iA (fun a u ha hu=>by
    have na:a≠r:=aq hu hrH;rw[ao ha,ao na,ao ha];exact hu) ai
   rcases ix2 f2.1 f2.2 with⟨_,e⟩ |⟨_,e⟩
   ·rw[e]
    try ac_rfl
    refine⟨⟨by omega,by omega⟩,⟨c1,c6⟩,zs,(ao npr).trans ai,nz1,by omega,fun f2 zs2 of2 fi2 d2 z2 nz2 l2=>⟨ak (by decide),_,sx zs2,?_⟩⟩;exact h (.times f1 f2) zs2 ⟨of1,of2⟩ ⟨fi1,fi2⟩ (by simp only[dp];omega) (by simp only[sz];omega) nz2 (by omega)
   ·rw[e]
    try ac_rfl
    refine⟨⟨by omega,by omega⟩,⟨c1,c6⟩,zs,(ao npr).trans ai,nz1,by omega,fun f2 zs2 of2 fi2 d2 z2 nz2 l2=>⟨ak (by decide),_,sx zs2,?_⟩⟩;exact h (.over f1 f2) zs2 ⟨of1,of2⟩ ⟨fi1,fi2⟩ (by simp only[dp];omega) (by simp only[sz];omega) nz2 (by omega)
 ·exact h.elim
theorem Av(T:Tx K mg t):∀n,aG P w K mg base CX0 (n+1) t.a_zs t.d_zs ["_law_purse","_law_count","_law_down"] (bJ n)
 | 0=>GS T
 | n+1=>EC T (Av T n)
theorem Ee(T:Tx K mg t):aG P w K mg base CX0 1 t.a_zt t.d_zt ["sizes","fixed"] eA:=by
 refine okU (k:=0) T.F_zt gj (fun vs H Q E h=>by
  unfold eA at h;split at h
  ·rfl
  ·exact h.elim) (fun cdv A outer s H E B hr=>⟨_,(af (sN 2 gj.nd (aP (ab (aN ae) ae)))
  (af (dt Ir rfl (ma rfl T.b_enumerate (ab (qv 0) ae)) (fN (n:=2) rfl (a9 (gN 3 gj.nd) (a9 (gN 4 gj.nd) dc)))
  (af (sN 5 gj.nd (fh (cW (zV hr.units) BC (qv 3) (qv 1)) (aP (ab (nR hr.units (qv 1) (qv 3) (fun _ _=>rfl )) ae)) (AO rfl rfl T.b_list rfl T.b_range boot_list (qv 4))))
   (af (sN 6 gj.nd (aP ae))
   (af (bI Ir rfl (aQ (qv 2)) (gN 7 gj.nd)
   (au (bM (gm PySem.F.slot_list_extend PySem.F.type_list_extend pX pY (qv 6) (ab (cE nl3 1 [7] (cA vT) (aQ (qv 5)) (fun _ _ _ _=>⟨(gN 0 nn3),bO,(om (qv 1) (aN (ab (qv 0) ae)))⟩)) ae)))))
   (au (sN 2 gj.nd (qv 6)))))))
  (au (aA (qv 2))))),?_⟩)
 intro vs H Q E h;unfold eA at h;split at h
 ·rename_i a d;obtain⟨ns,kvs,ha,hd,⟨h6,h4⟩,h⟩:=h;refine aj fun R hR=>?_;ac_rfl;refine⟨ak (by decide),ak (by decide),fun p0 hp0=>?_⟩;have e0:put H p0 (.lst [.tup []]) p0=some (.lst ((WM.wC (lkJ kvs) (ns.take 0)).map tI)):=ai;have s0:=(Sub.refl H).put (o:=.lst [.tup []]) hp0;generalize put H p0 (.lst [.tup []])=H1 at *;subst hR;refine aj fun R hR=>?_;ac_rfl;refine⟨_,s0 _ _ ha,?_⟩;refine aR (fun i σ H2=>∃p z3 z4 z5 z6 z7,σ=[some (.ref a),some (.ref d),some (.ref p),z3,z4,z5,z6,z7]/\U.Sub H H2/\U.Sub H1 H2/\H p=none/\H2 p=some (.lst ((WM.wC (lkJ kvs) (ns.take i)).map tI))) ?_ ?_ ⟨p0,_,_,_,_,_,rfl,s0,Sub.refl _,hp0,e0⟩
  ·rintro σ H2 ⟨p,z3,z4,z5,z6,z7,rfl,s2,s12,hp,e2⟩;refine⟨s2 _ _ ha,?_⟩;unfold eO at e2;rw[List.length_mapIdx,Hm,Iq]at e2;subst hR;ac_rfl;exact⟨H2,Sub.refl _,h p H2 s2 hp e2⟩
  ·rintro D i y σ H2 hy ⟨p,z3,z4,z5,z6,z7,rfl,s2,s12,hp,e2⟩ kk;refine⟨s2 _ _ ha,?_⟩;obtain⟨x,hx,rfl⟩:=jA hy;rw[Ht]at hx;cases hg:ns[i]? with
   | none=>rw[hg]at hx;cases hx
   | some n =>
    rw[hg]at hx;cases hx;have hi:=(Hs.mp hg).1;have n4:=h4 n (Hz hg);have ti:(ns.take i).length=i:=by rw[Ij];omega
    have ew:WM.wC (lkJ kvs) (ns.take (i+1))=WM.stC (WM.wC (lkJ kvs) (ns.take i)) (WM.cho (lkJ kvs) i n):=by
     rw[Ip,hg];have:=WM.d7 (f:=lkJ kvs) (ns:=ns.take i) (n:=n);rw[ti]at this;exact this
    have l1:=sW (f:=lkJ kvs) (ns:=ns.take i) (fun x hx=>(h4 x (List.mem_of_mem_take hx)).2) (by rw[ti];omega);simp only[tf,jm,bw,IV,IW];refine⟨rfl,rfl,?_⟩;refine aj fun R2 hR2=>?_;have go:∀r,H2 r=none->R2 D [some (.ref a),some (.ref d),some (.ref p),some (.int (i:Nat)),some (.int n),some (.ref r),z6,z7] (put H2 r (.lst ((WM.cho (lkJ kvs) i n).map PV.int))):=fun r hr'=>by
     have cl:=jT (f:=lkJ kvs) (i:=i) n4.2;generalize WM.cho (lkJ kvs) i n=cs at *;have s3:=(Sub.refl H2).put (o:=.lst (cs.map PV.int)) hr';have er:put H2 r (.lst (cs.map PV.int)) r=some (.lst (cs.map PV.int)):=ai;generalize put H2 r (.lst (cs.map PV.int))=H3 at *;subst hR2;refine aj fun R2 hR2=>?_;ac_rfl;refine⟨ak (by decide),fun q hq=>?_⟩;have q2:=s3.free hq;have nrq:=aq er hq;have s4:=s3.put (o:=.lst []) q2;have er4:=(ao (o:=.lst []) nrq).trans er;have eq4:put H3 q (.lst []) q=some (.lst ((WM.stC ((WM.wC (lkJ kvs) (ns.take i)).take 0) cs).map tI)):=ai;generalize put H3 q (.lst [])=H4 at *;subst hR2;refine aj fun R2 hR2=>?_;ac_rfl;refine⟨_,s4 _ _ e2,?_⟩;refine aR (fun j σ H5=>∃z7,σ=[some (.ref a),some (.ref d),some (.ref p),some (.int (i:Nat)),some (.int n),some (.ref r),some (.ref q),z7]/\U.Sub H2 H5/\H5 r=some (.lst (cs.map PV.int))/\H5 q=some (.lst ((WM.stC ((WM.wC (lkJ kvs) (ns.take i)).take j) cs).map tI))) ?_ ?_ ⟨_,rfl,s4,er4,eq4⟩
     ·rintro σ H5 ⟨z7,rfl,s5,er5,eq5⟩;refine⟨s5 _ _ e2,?_⟩;rw[Hm,Iq,← ew]at eq5;subst hR2;ac_rfl;exact kk _ _ ⟨q,_,_,_,_,_,rfl,s2.trans s5,s12.trans s5,s2.free q2,eq5⟩
     ·rintro D2 j y σ H5 hy ⟨z7,rfl,s5,er5,eq5⟩ kk2;refine⟨s5 _ _ e2,?_⟩;rw[Ht]at hy;cases hu:(WM.wC (lkJ kvs) (ns.take i))[j]? with
      | none=>rw[hu]at hy;cases hy
      | some u =>
       rw[hu]at hy;cases hy;have hj:=(Hs.mp hu).1;have et:(WM.wC (lkJ kvs) (ns.take i)).take (j+1)=(WM.wC (lkJ kvs) (ns.take i)).take j++[u]:=by rw[Ip,hu];rfl
       have lu:=rY (Hz hu);rw[ti]at lu
       try simp only[Option.map_some]
       ac_rfl;refine⟨⟨_,eq5⟩,_,er5,fun acc hacc=>?_⟩;refine aX (fC u) (fun _=>true) (fun σ=>∃z,σ=[z,some (tI u)]) (by rw[Hm];omega) (fun l=>(ao (aq er5 hacc)).trans er5) ?_ ?_ ⟨_,rfl⟩
       ·rintro y' hy' l σ R' ⟨z,rfl⟩ hl kT kF;obtain⟨k,hk,rfl⟩:=Hw.mp hy';rw[xS]at kT;have eu:tI u=.tup (u.map PV.int):=rfl;rw[eu]at kT ⊢;ac_rfl;refine⟨ak (by decide),ak (by rw[Hm];omega),hl,by rw[aK];exact kT rfl _ ⟨_,rfl⟩⟩
       rw[yz];have s6:=s5.put (o:=.lst ((cs.map fun k=>u++[k]).map tI)) (s5.free hacc);have er6:=(ao (o:=.lst ((cs.map fun k=>u++[k]).map tI)) (aq er5 hacc)).trans er5;have eq6:=(ao (o:=.lst ((cs.map fun k=>u++[k]).map tI)) (aq eq5 hacc)).trans eq5;have ea6:put H5 acc (.lst ((cs.map fun k=>u++[k]).map tI)) acc=some (.lst ((cs.map fun k=>u++[k]).map tI)):=ai;generalize put H5 acc (.lst ((cs.map fun k=>u++[k]).map tI))=H6 at *
       try ac_rfl
       have wl:=mQ (told:=(WM.wC (lkJ kvs) (ns.take i)).take j) cl;rw[Ij]at wl;exact⟨_,_,eq6,ea6,j3 (by rw[Hm,Hm,Hm];omega),kk2 _ _ ⟨_,rfl,s6.put q2,(ao nrq).trans er6,by rw[ai,et,lJ,HW]⟩⟩
    ac_rfl;refine⟨kvs,s2 _ _ hd,?_⟩;cases hk:lkJ kvs (i:Int)with
    | some v =>
     refine aU (by rw[←ip,hk];rfl) ⟨kvs,v,s2 _ _ hd,hk,ak (by decide),fun r hr=>?_⟩;have:=go r hr;rw[ui hk]at this;exact this
    | none =>
     refine aB (by rw[←ip,hk];decide) ⟨by omega,by omega,fun r hr=>?_⟩;have:=go r hr;rw[qR hk,← iO]at this;exact this
 ·exact h.elim
theorem FK(T:Tx K mg t):aG P w K mg base CX0 2 t.a_zz t.d_zz ["sizes"] gH:=by
 refine okU (k:=1) T.F_zz Ec (fun vs H Q E h=>by
  unfold gH at h;split at h
  ·rfl
  ·exact h.elim) (fun cdv A outer s H E B hr=>⟨_,(au (aA (av (Ee T) hr.mo rfl T.g_zt T.F_zt.kp T.B_zt (ab (qv 0) (ab kC ae))))),?_⟩)
 intro vs H Q E h;unfold gH at h;split at h
 ·rename_i a;obtain⟨ns,ha,sz,h⟩:=h;ac_rfl;intro p hp;have s1:=(Sub.refl H).put (o:=.dK []) hp;have e0:WM.wC (lkJ []) ns=wys ns:=WM.jN ns;refine⟨ns,[],s1 _ _ ha,rfl,sz,fun q H1 s2 hq e=>⟨H1,Sub.refl _,h q H1 (s1.trans s2) (s1.free hq) (by rw[←e0];exact e)⟩⟩
 ·exact h.elim
theorem vO(T:Tx K mg t):aG P w K mg base CX0 1 t.a_zD t.d_zD ["names","values"] jH:=by
 refine okU (k:=0) T.F_zD Ce (fun vs H Q E h=>by
  unfold jH at h;split at h
  ·rfl
  ·exact h.elim) (fun cdv A outer s H E B hr=>⟨_,(au (aA (br bP dU rfl T.b_tuple boot_tuple (ab (cE nl4 1 [1] (cA vt) (aQ (qv 0)) (fun _ _ _ _=>⟨(gN 0 nn4),bO,(nR hr.units (qv 1) (qv 0) (fun _ _=>rfl ))⟩)) ae)))),?_⟩)
 intro vs H Q E h;unfold jH at h;split at h
 ·rename_i l d;obtain⟨ns,kvs,v,rfl,hd,h6,tl,h⟩:=h;ac_rfl;intro acc hacc;have hd1:∀l,put H acc (.lst l) d=some (.dK (dij kvs)):=fun l=>(ao (aq hd hacc)).trans hd;refine aX (vI v) (fun _=>true) (fun σ=>∃z,σ=[z,some (.ref d)]) (by rw[Hm];omega) (fun _=>trivial) ?_ ?_ ⟨_,rfl⟩
  ·rintro y hy l σ R ⟨z,rfl⟩ hl kT kF;obtain⟨n,hn,rfl⟩:=Hw.mp hy;ac_rfl;exact⟨kvs,v n,hd1 _,tl n hn,hl,by rw[aK];exact kT rfl _ ⟨_,rfl⟩⟩
  have em:(((ns.map PV.int).filter fun _=>true).map (vI v))=(ns.map v).map PV.int:=by
   rw[Js.mpr (fun _ _=>rfl),HY,HY];rfl
  rw[em];exact⟨_,ai,H,(Sub.refl H).put hacc,h⟩
 ·exact h.elim
theorem Cn(T:Tx K mg t):aG P w K mg base CX0 3 t.a_zb t.d_zb ["self","place","key"] (dW t P w):=by
 refine okU (k:=2) T.F_zb jg (fun vs H Q E h=>by
  unfold dW at h;split at h
  ·rfl
  ·exact h.elim) (fun cdv A outer s H E B hr=>⟨_,(af (sN 3 jg.nd (iX (bD (qv 0) T.cl_A T.nf_Reckoner_nodes rfl) (qv 1)))
  (af (sN 4 jg.nd (j5 rfl rfl T.b_dict boot_dict rfl T.b_zip (ab (iX (bD (qv 0) T.cl_A T.nf_Reckoner_opens rfl) (qv 1)) (ab (qv 2) ae))))
  (af (bh (cN (dJ hr.units) a7 (iX (qv 3) ah) aT)
  (au (aA (cE nl5 1 [4,0] (cA rq) (aQ (iX (qv 3) ah)) (fun _ _ _ _=>⟨(gN 0 nn5),bO,(aN (ab (qv 0) (ab (av (vO T) hr.mo rfl T.g_zD T.F_zD.kp T.B_zD (ab (iX (bD (qv 2) T.cl_A T.nf_Reckoner_opens rfl) (qv 0)) (ab (qv 1) ae))) ae)))⟩))))
  aH)
  (af (sN 5 jg.nd (iX (iX (qv 3) ah) ah))
  (af (sN 6 jg.nd (aP ae))
  (af (bI Ir rfl (aQ (av (FK T) hr.mo rfl T.g_zz T.F_zz.kp T.B_zz (ab (cE nl6 1 [0] (cA rq) (aQ (iX (qv 3) ah)) (fun _ _ _ _=>⟨(gN 0 nn6),bO,(iX (bD (qv 1) T.cl_A T.nf_Reckoner_sizes rfl) (qv 0))⟩)) ae))) (gN 7 jg.nd)
  (af (bM (uV (qv 4) (ab (j5 rfl rfl T.b_dict boot_dict rfl T.b_zip (ab (iX (qv 3) ah) (ab (qv 7) ae))) ae)))
   (au (bM (gm Jt Ju bL cg (qv 6) (ab (aN (ab (qv 5) (ab (av (vO T) hr.mo rfl T.g_zD T.F_zD.kp T.B_zD (ab (iX (bD (qv 0) T.cl_A T.nf_Reckoner_opens rfl) (qv 5)) (ab (qv 4) ae))) ae))) ae))))))
  (au (aA (qv 6))))))))),?_⟩)
 intro vs H Q E h;unfold dW at h;split at h
 ·rename_i x j l;obtain⟨ks,os,ns,Tt,n,nd,g,v,rfl,hnd,dn,gd,rfl,rk,wc,h⟩:=h;obtain⟨dx,a1,a2,a3,a4,ep,hx,h1,h2,h3,h4⟩:=rk;have hn:n<os.length:=by rw[wc.len];exact dn.lt
  obtain⟨o6,oup,oiff⟩:=bU wc dn gd.1;unfold RkF at hx;refine aj fun R hR=>?_;ac_rfl;refine⟨dx,_,_,hx,rfl,?_⟩
  try ac_rfl
  refine⟨_,h1,?_⟩;rw[dG hnd]
  try ac_rfl
  subst hR;refine aj fun R hR=>?_;ac_rfl;refine⟨dx,_,_,hx,rfl,?_⟩
  try ac_rfl
  refine⟨_,h2,?_⟩;rw[jI hn]
  try ac_rfl
  refine⟨_,_,rfl,rfl,by rw[Hm],by omega,fun p hp=>?_⟩;have s1:=(Sub.refl H).put (o:=.dK (dij (dzJ [] (oG os (n:Int)) ((oG os (n:Int)).map v)))) hp;have ep:put H p (.dK (dij (dzJ [] (oG os (n:Int)) ((oG os (n:Int)).map v)))) p=some (.dK (dij (dzJ [] (oG os (n:Int)) ((oG os (n:Int)).map v)))):=ai;have lk0:=yr (a:=oG os (n:Int)) (v:=v);have dl:=gA (ks:=oG os (n:Int)) (vs:=(oG os (n:Int)).map v) (acc:=[]);generalize dzJ [] (oG os (n:Int)) ((oG os (n:Int)).map v)=kv0 at *;generalize put H p (.dK (dij kv0))=H1 at *;have hx1:=s1 _ _ hx;have h21:=s1 _ _ h2;have h31:=s1 _ _ h3;subst hR;obtain⟨wn,names,js⟩:=nd;have kl:js.length≤2/\(∀q∈js,∃(m:Nat) (g':F),q=(m:Int)/\Den ks m g'/\Ok g'):=by
   cases dn with
   | one h5=>rw[hnd]at h5;cases h5;exact⟨by decide,fun q hq=>by cases hq⟩
   | seen h5=>rw[hnd]at h5;cases h5;exact⟨by decide,fun q hq=>by cases hq⟩
   | sum h5 hj d=>rw[hnd]at h5;cases h5;exact⟨by simp,fun q hq=>⟨_,_,Hx.mp hq,d,gd.1.2⟩⟩
   | times h5 hj hk d e=>rw[hnd]at h5;cases h5;exact⟨by simp,fun q hq=>(Hy.mp hq).elim (fun z=>⟨_,_,z,d,gd.1.1⟩) fun z=>⟨_,_,Hx.mp z,e,gd.1.2⟩⟩
   | over h5 hj hk d e=>rw[hnd]at h5;cases h5;exact⟨by simp,fun q hq=>(Hy.mp hq).elim (fun z=>⟨_,_,z,d,gd.1.1⟩) fun z=>⟨_,_,Hx.mp z,e,gd.1.2⟩⟩
  have six:∀q∈js,(oG os q).length≤6/\∃m:Nat,q=(m:Int)/\m<os.length:=fun q hq=>by
   obtain⟨m,g',rfl,d,o⟩:=kl.2 q hq;exact⟨(bU wc d o).1,m,rfl,by rw[wc.len];exact d.lt⟩
  by_cases ew:wn=("sum":Str)
  ·obtain⟨m,f',hjs,hg,d⟩:∃(m:Nat) (f':F),js=[(m:Int)]/\g=.sum names f'/\Den ks m f':=by
    cases dn with
    | one h5=>rw[hnd]at h5;cases h5;exact absurd ew (by decide)
    | seen h5=>rw[hnd]at h5;cases h5;exact absurd ew (by decide)
    | sum h5 hj d=>rw[hnd]at h5;cases h5;exact⟨_,_,rfl,rfl,d⟩
    | times h5 hj hk d e=>rw[hnd]at h5;cases h5;exact absurd ew (by decide)
    | over h5 hj hk d e=>rw[hnd]at h5;cases h5;exact absurd ew (by decide)
   subst hjs hg ew;obtain⟨⟨⟨nup,n06⟩,okf⟩,⟨inn0,inf⟩,dpg⟩:=gd;have hm:m<os.length:=by rw[wc.len];exact d.lt
   obtain⟨m6,mup,miff⟩:=bU wc d okf;have nl6:names.length≤6:=My.cj 6 _ (nup.imp fun h=>by omega) n06;have nnd:names.Nodup:=nup.imp fun h=>by omega
   have einn:inn os ns (("sum":Str),names,[(m:Int)]) v=(wys (names.map (szN ns))).map fun u=>((m:Int),(oG os (m:Int)).map (WM.up v names u)):=by
    unfold inn;rw[HP (by rfl)];rfl
   rw[einn]at h;refine aj fun R hR=>?_;unfold ndV;ac_rfl;refine aB (by decide) ?_;subst hR;refine aj fun R hR=>?_;ac_rfl
   try rw[dH]
   try ac_rfl
   subst hR;refine aj fun R hR=>?_;ac_rfl;refine⟨ak (by decide),fun r hr=>?_⟩;have hrH:=s1.free hr;have s2:=s1.put (o:=.lst []) hrH;have epr:=(ao (o:=.lst []) (aq ep hr)).trans ep;have er:put H1 r (.lst []) r=some (.lst []):=ai;generalize put H1 r (.lst [])=H2 at *;subst hR;refine aj fun R hR=>?_;ac_rfl;intro acc hacc;have hx2:=s2 _ _ hx;have h32:=s2 _ _ h3;have h22:=s2 _ _ h2;refine aX (fS ns) (fun _=>true) (fun σ=>∃z,σ=[z,some (.ref x)]) (by rw[Hm];omega) (fun _=>trivial) ?_ ?_ ⟨_,rfl⟩
   ·rintro y hy l σ R1 ⟨z,rfl⟩ hl kT kF;obtain⟨q,hq,rfl⟩:=Hw.mp hy;obtain⟨q0,q1⟩:=inn0 q hq;ac_rfl;refine⟨dx,_,_,(ao (aq hx2 hacc)).trans hx2,rfl,?_⟩
    try ac_rfl
    refine⟨_,(ao (aq h32 hacc)).trans h32,?_⟩;rw[qL q0 q1];exact⟨hl,by rw[aK];exact kT rfl _ ⟨_,rfl⟩⟩
   have em:(((names.map PV.int).filter fun _=>true).map (fS ns))=(names.map (szN ns)).map PV.int:=by
    rw[Js.mpr (fun _ _=>rfl),HY,HY];rfl
   rw[em];have s3:=s2.put (o:=.lst ((names.map (szN ns)).map PV.int)) (s2.free hacc);have k3:=(Sub.refl H2).put (o:=.lst ((names.map (szN ns)).map PV.int)) hacc;have ea:put H2 acc (.lst ((names.map (szN ns)).map PV.int)) acc=some (.lst ((names.map (szN ns)).map PV.int)):=ai;generalize put H2 acc (.lst ((names.map (szN ns)).map PV.int))=H3 at *;have szn:Sz (names.map (szN ns)):=⟨by rw[Hm];omega,fun z hz=>by
    obtain⟨q,hq,rfl⟩:=Hw.mp hz;obtain⟨q0,q1⟩:=inn0 q hq;refine wc.sz.2 _ ?_;unfold szN;rw[Hq,Hn (by omega)];exact IH _⟩
   refine⟨_,ea,szn,fun pw H4 s4 hpw epw=>?_⟩;have w8:(wys (names.map (szN ns))).length≤8:=HZ (WM.dr wc.wd.n1 nup inn0) wc.w8;have wl:∀u∈wys (names.map (szN ns)),u.length=names.length:=fun u hu=>by have:=((WM.bc _ _).mp hu).1;rwa [Hm]at this
   generalize wys (names.map (szN ns))=W at *
   try ac_rfl
   refine⟨_,epw,?_⟩;have npr:p≠r:=fun z=>by rw[←z]at hr;rw[ep]at hr;cases hr
   have nwp:pw≠p:=(aq (k3 _ _ epr) hpw).symm;have nwr:pw≠r:=(aq (k3 _ _ er) hpw).symm;refine aR (fun i σ H5=>∃kvs z7,σ=[some (.ref x),some (.int (n:Nat)),some (.tup (((oG os (n:Int)).map v).map PV.int)),some (.tup [.str "sum",.tup (names.map PV.int),.tup [.int (m:Nat)]]),some (.ref p),some (.int (m:Nat)),some (.ref r),z7]/\(∀b o,b≠p->b≠r->H4 b=some o->H5 b=some o)/\H5 p=some (.dK (dij kvs))/\kvs.length≤6+6*i/\(∀y,y∉names->lkJ kvs y=lkJ kv0 y)/\H5 r=some (.lst ((W.take i).map fun u=>pkV ((m:Int),(oG os (m:Int)).map (WM.up v names u))))) ?_ ?_ ⟨kv0,_,rfl,fun _ _ _ _ e=>e,s4 _ _ (k3 _ _ epr),by simp only[JX]at dl;omega,fun _ _=>rfl,s4 _ _ (k3 _ _ er)⟩
   ·rintro σ H5 ⟨kvs,z7,rfl,k5,e5,_,_,r5⟩;refine⟨k5 _ _ nwp nwr epw,?_⟩;rw[Hm,Iq]at r5;subst hR;ac_rfl;refine⟨H5,Sub.refl _,h r H5 (fun b o e=>k5 b o (aq e hp) (aq e hrH) (s4 _ _ (s3 _ _ e))) hrH ?_⟩;rw[HY];exact r5
   ·rintro D i y σ H5 hy ⟨kvs,z7,rfl,k5,e5,l5,lk5,r5⟩ kk;refine⟨k5 _ _ nwp nwr epw,?_⟩;rw[Ht]at hy;cases hu:W[i]? with
    | none=>rw[hu]at hy;cases hy
    | some u =>
     rw[hu]at hy;cases hy;have hi:=(Hs.mp hu).1;have lu:=wl u (Hz hu);have et:W.take (i+1)=W.take i++[u]:=by rw[Ip,hu];rfl
     try simp only[Option.map_some]
     simp only[bw,IV,IW];have eu:tI u=.tup (u.map PV.int):=rfl;rw[eu];refine aj fun R2 hR2=>?_;ac_rfl;refine⟨⟨_,e5⟩,names,u,rfl,rfl,lu,by omega,fun q hq=>?_⟩;have npq:=aq e5 hq;have nrq:=aq r5 hq;have dl2:=gA (ks:=names) (vs:=u) (acc:=[]);have lk6:=yY (kvs:=kvs) (v:=v) lu nnd;have ul:=jG (kvs:=kvs) (more:=dzJ [] names u);simp only[JX]at dl2;refine⟨kvs,dzJ [] names u,npq,(ao npq).trans e5,rfl,by omega,?_⟩;generalize upJ kvs (dzJ [] names u)=kv6 at *;have k6:∀b o,b≠p->b≠r->H4 b=some o->put (put H5 q (.dK (dij (dzJ [] names u)))) p (.dK (dij kv6)) b=some o:=fun b o n1 n2 e=>(ao n1).trans ((ao (aq (k5 b o n1 n2 e) hq)).trans (k5 b o n1 n2 e));have e6:put (put H5 q (.dK (dij (dzJ [] names u)))) p (.dK (dij kv6)) p=some (.dK (dij kv6)):=ai;have r6:=(ao (o:=.dK (dij kv6)) npr.symm).trans ((ao (o:=.dK (dij (dzJ [] names u))) nrq).trans r5);generalize put (put H5 q (.dK (dij (dzJ [] names u)))) p (.dK (dij kv6))=H6 at *;subst hR2;have hx6:=k6 _ _ (aq hx hp) (aq hx hrH) (s4 _ _ (s3 _ _ hx));have h26:=k6 _ _ (aq h2 hp) (aq h2 hrH) (s4 _ _ (s3 _ _ h2));ac_rfl;refine⟨⟨_,r6⟩,dx,_,_,hx6,rfl,?_⟩
     try ac_rfl
     refine⟨_,h26,?_⟩;rw[jI hm]
     try ac_rfl
     refine⟨_,kv6,WM.up v names u,rfl,e6,m6,fun y hy=>?_,ak (by decide),_,r6,aW (by rw[Hm,Ij];omega),kk _ _ ⟨kv6,_,rfl,fun b o n1 n2 e=>(ao n2).trans (k6 b o n1 n2 e),(ao npr).trans e6,by omega,fun y hy=>?_,?_⟩⟩
     ·rw[lk6];by_cases my:y∈names
      ·rw[HP my]
      ·rw[HM my,lk5 y my,lk0,HP ((oiff y).mpr ⟨(miff y).mp hy,my⟩),WM.fE my]
     ·rw[lk6,HM hy];exact lk5 y hy
     ·rw[ai,et,HW];rfl
  ·have plain:(∀q∈js,∀y∈oG os q,y∈oG os (n:Int)):=by
    cases dn with
    | one h5=>rw[hnd]at h5;cases h5;exact fun q hq=>by cases hq
    | seen h5=>rw[hnd]at h5;cases h5;exact fun q hq=>by cases hq
    | sum h5 hj d=>rw[hnd]at h5;cases h5;exact absurd rfl ew
    | times h5 hj hk d e =>
     rw[hnd]at h5;cases h5;intro q hq y hy;rw[oiff];rcases Hy.mp hq with rfl | hq
     ·exact .inl (((bU wc d gd.1.1).2.2 y).mp hy)
     ·rw[Hx.mp hq]at hy;exact .inr (((bU wc e gd.1.2).2.2 y).mp hy)
    | over h5 hj hk d e =>
     rw[hnd]at h5;cases h5;intro q hq y hy;rw[oiff];rcases Hy.mp hq with rfl | hq
     ·exact .inl (((bU wc d gd.1.1).2.2 y).mp hy)
     ·rw[Hx.mp hq]at hy;exact .inr (((bU wc e gd.1.2).2.2 y).mp hy)
   have einn:inn os ns (wn,names,js) v=js.map fun q=>(q,(oG os q).map v):=by
    unfold inn;rw[HM (by simpa using ew)]
   refine aj fun R hR=>?_;unfold ndV;ac_rfl;refine aU (by simpa using ew) (fun acc hacc=>?_);have hxa:∀l,put H1 acc (.lst l) x=_:=fun l=>(ao (aq hx1 hacc)).trans hx1;have h2a:∀l,put H1 acc (.lst l) a2=_:=fun l=>(ao (aq h21 hacc)).trans h21;have epa:∀l,put H1 acc (.lst l) p=_:=fun l=>(ao (aq ep hacc)).trans ep;refine aX (fK os v) (fun _=>true) (fun σ=>∃z,σ=[z,some (.ref p),some (.ref x)]) (by rw[Hm];omega) (fun _=>trivial) ?_ ?_ ⟨_,rfl⟩
   ·rintro y hy l σ R1 ⟨z,rfl⟩ hl kT kF;obtain⟨q,hq,rfl⟩:=Hw.mp hy;obtain⟨q6,m,rfl,hm⟩:=six q hq;ac_rfl;refine⟨dx,_,_,hxa _,rfl,?_⟩
    try ac_rfl
    refine⟨_,h2a _,?_⟩;rw[jI hm]
    try ac_rfl
    exact⟨_,kv0,v,rfl,epa _,q6,fun y hy=>by rw[lk0,HP (plain _ hq y hy)],ak (by decide),hl,by rw[aK];exact kT rfl _ ⟨_,rfl⟩⟩
   have em:(((js.map PV.int).filter fun _=>true).map (fK os v))=(inn os ns (wn,names,js) v).map pkV:=by
    rw[einn,Js.mpr (fun _ _=>rfl),HY,HY];rfl
   rw[em];exact⟨_,Sub.refl _,h acc _ (s1.put (s1.free hacc)) (s1.free hacc) ai⟩
 ·exact h.elim
theorem Ha(T:Tx K mg t):aG P w K mg base CX0 4 t.a_za t.d_za ["self","values"] (gJ t P w):=by
 refine okU (k:=3) T.F_za jx (fun vs H Q E h=>by
  unfold gJ at h;split at h
  ·rfl
  ·exact h.elim) (fun cdv A outer s H E B hr=>⟨_,(af (sC 2 jx.nd nl7 1 [] (cA vV) (aQ (bD (qv 0) T.cl_A T.nf_Reckoner_nodes rfl)) (fun _ _ _ _=>⟨(gN 0 nn7),bO,(show PE' _ _ _ (ix P w)from iu)⟩))
  (af (iG gr (show PG' _ _ _ (jz P w _ _)from gY hr.units (iX (qv 2) (cU ah)) (av (vO T) hr.mo rfl T.g_zD T.F_zD.kp T.B_zD (ab (iX (bD (qv 0) T.cl_A T.nf_Reckoner_opens rfl) (cU ah)) (ab (qv 1) ae)))))
  (af (bI Ir rfl (pJ rfl T.b_range (ab (kj (aM aL cy rfl T.b_len Jv (ab (bD (qv 0) T.cl_A T.nf_Reckoner_nodes rfl) ae)) ah) (ab (cU ah) (ab (cU ah) ae)))) (gN 3 jx.nd)
  (au (bI Ir rfl (aQ (br (mV rfl) qY rfl T.b_list boot_list (ab (iX (qv 2) (qv 3)) ae))) (gN 4 jx.nd)
   (au (bI Ir rfl (aQ (dq (qv 0) T.cl_A T.m_zb (Cn T) hr.mo T.B_zb (ab (qv 3) (ab (qv 4) ae)))) (fN (n:=2) rfl (a9 (gN 5 jx.nd) (a9 (gN 6 jx.nd) dc)))
    (au (iG gr (show PG' _ _ _ (jz P w _ _)from gY hr.units (iX (qv 2) (qv 5)) (qv 6)))))))))
  (au (aA (qv 2)))))),?_⟩)
 intro vs H Q E h;unfold gJ at h;split at h
 ·rename_i x d;obtain⟨ks,os,ns,Tt,f,kvs,v,rk,wc,k0,dn,gd,hd,tl,vr,h⟩:=h;have rk0:=rk;obtain⟨dx,a1,a2,a3,a4,ep,hx,h1,h2,h3,h4⟩:=rk;unfold RkF at hx;refine aj fun R hR=>?_;ac_rfl;refine⟨dx,_,_,hx,rfl,?_⟩
  try ac_rfl
  refine⟨_,h1,fun r hr=>?_⟩;refine dR (fun i σ H2=>∃z ds,σ=[z]/\U.Sub H H2/\Nk P w H2 r ds (List.replicate i [])/\∀b∈ds,H b=none) ?_ ?_ ⟨_,[],rfl,(Sub.refl H).put hr,⟨ai,rfl,List.nodup_nil,by simp,fun j b e=>by cases e⟩,fun b hb=>by cases hb⟩
  ·rintro i y σ H2 R1 hy ⟨z,ds,rfl,s2,nk,fr⟩ kk;refine⟨s2 _ _ h1,?_⟩;have hi:i<ks.length:=by have:=(Hs.mp hy).1;rwa [Hm]at this
   obtain⟨n1,n2,n3,n4,n5⟩:=nk;rw[IX]at n2;ac_rfl;intro b hb;have nrb:=aq n1 hb;have bd:∀c∈ds,c≠b:=fun c hc=>by
    obtain⟨j,hj,rfl⟩:=List.getElem_of_mem hc;obtain⟨ep',q⟩:=n5 j _ (Hn hj);exact aq q hb
   have l9:=wc.l9;refine⟨_,(ao nrb).trans n1,aW (by rw[Hm];omega),kk _ _ ⟨_,ds++[b],rfl,(s2.put (s2.free hb)).put hr,⟨by rw[ai,HW];rfl,by rw[HN,IX,n2];rfl,List.nodup_append.mpr ⟨n3,by simp,fun a ha c hc e=>bd a ha (by rw[e];exact Hx.mp hc)⟩,?_,fun j c hc=>?_⟩,fun c hc=>?_⟩⟩
   ·intro q;rcases Ii.mp q with q | q
    ·exact n4 q
    ·exact nrb (Hx.mp q)
   ·rw[fw];rcases kH hc with q |⟨_,rfl⟩
    ·have hcd:=Hz q;obtain⟨ep',q'⟩:=n5 j c q;rw[fw]at q';exact⟨ep',(ao (fun e=>n4 (by rw[←e];exact hcd))).trans ((ao (bd c hcd)).trans q')⟩
    ·exact⟨0,(ao nrb.symm).trans ai⟩
   ·rcases Ii.mp hc with q | q
    ·exact fr c q
    ·rw[Hx.mp q];exact s2.free hb
  ·rintro σ H2 ⟨z,ds,rfl,s2,nk,fr⟩;refine⟨s2 _ _ h1,?_⟩;rw[Hm]at nk;subst hR
   try dsimp only
   refine aj fun R hR=>?_;ac_rfl;have l9:=wc.l9;have lo:=wc.len;have dsl:ds.length=ks.length:=by have:=nk.2.1;rwa [IX]at this
   have hl:ks.length - 1<ds.length:=by omega
   have hlast:ds[ks.length - 1]?=some ds[ks.length - 1]:=Hn hl;obtain⟨ep0,q0⟩:=nk.2.2.2.2 _ _ hlast;rw[fw]at q0;obtain⟨o6,_,oiff⟩:=bU wc dn gd.1;refine⟨_,nk.1,?_⟩;rw[eX (x:=.ref ds[ks.length - 1]) (by rw[Hm,Ht,dsl,hlast];rfl)]
   try ac_rfl
   refine⟨dx,_,_,s2 _ _ hx,rfl,?_⟩
   try ac_rfl
   refine⟨_,s2 _ _ h2,?_⟩;rw[oV (by omega),lo]
   try ac_rfl
   refine⟨_,kvs,v,rfl,s2 _ _ hd,o6,fun y hy=>tl y ((oiff y).mp hy),?_⟩;unfold tI
   try ac_rfl
   refine⟨_,_,ep0,rfl,q0,by decide,fun ep1=>?_⟩;have nk1:=nk.add hlast ((oG os ((ks.length - 1:Nat):Int)).map v) ep1;rw[fw]at nk1;have ndl:∀b o,H b=some o->b≠ds[ks.length - 1]:=fun b o e z=>by rw[z,fr _ (IH hl)]at e;cases e
   have s3:U.Sub H (put H2 ds[ks.length - 1] (.dI P w (cC (tru []) ((oG os ((ks.length - 1:Nat):Int)).map v) (.bl true)) ep1)):=fun b o e=>(ao (ndl b o e)).trans (s2 b o e);have lr:ks.length - 1<(List.replicate ks.length ([]:List (List Int))).length:=by rw[IX];omega
   have ini:∀j key,key∈(fL (List.replicate ks.length []) (ks.length - 1) ((oG os ((ks.length - 1:Nat):Int)).map v)).getD j []->Kv ks os ns j key:=fun j key hk=>by
    rcases iD lr hk with q |⟨rfl,rfl⟩
    ·rw[fw]at q;cases q
    ·exact⟨_,f,v,Hn dn.lt,dn,gd,vr,rfl⟩
   have ind:=oP (k:=(oG os ((ks.length - 1:Nat):Int)).map v) lr fun j=>by rw[fw];exact List.nodup_nil
   have inl:=nV (k:=(oG os ((ks.length - 1:Nat):Int)).map v) lr;have kl0:(fL (List.replicate ks.length []) (ks.length - 1) ((oG os ((ks.length - 1:Nat):Int)).map v)).length=ks.length:=by rw[iB,IX]
   generalize fL (List.replicate ks.length []) (ks.length - 1) ((oG os ((ks.length - 1:Nat):Int)).map v)=ks0 at *
   try change R _ _ (put H2 ds[ks.length - 1] (.dI P w (cC (tru []) ((oG os ((ks.length - 1:Nat):Int)).map v) (.bl true)) ep1))
   generalize put H2 ds[ks.length - 1] (.dI P w (cC (tru []) ((oG os ((ks.length - 1:Nat):Int)).map v) (.bl true)) ep1)=H3 at *;subst hR;refine aj fun R hR=>?_;ac_rfl;refine⟨dx,_,_,s3 _ _ hx,rfl,?_⟩
   try ac_rfl
   refine⟨_,s3 _ _ h1,?_⟩;rw[Hm];refine⟨by omega,by omega,?_⟩;have en:((ks.length:Int) - 1+1).toNat=ks.length:=by omega
   rw[en];have nd0:Nd2 ks os ns v ks0 ks.length:=⟨kl0,ini,(fun j key hj q=>by
    rw[Hq,JI (by omega)]at q;cases q),ind,inl⟩
   refine aR (fun i σ H4=>∃z3 z4 z5 z6 kss,σ=[some (.ref x),some (.ref d),some (.ref r),z3,z4,z5,z6]/\U.Sub H H4/\Nk P w H4 r ds kss/\Nd2 ks os ns v kss (ks.length - i)) ?_ ?_ ⟨_,_,_,_,ks0,rfl,s3,nk1,nd0⟩
   ·rintro σ H4 ⟨z3,z4,z5,z6,kss,rfl,s4,nk4,n4⟩;refine⟨trivial,?_⟩;rw[vG,Nat.sub_self]at n4;subst hR;ac_rfl;exact⟨H4,Sub.refl _,h r ds kss H4 s4 hr nk4 n4.len (fun j key q=>n4.ok j key (JG _) q) n4.last n4.nd⟩
   ·rintro D i y σ H4 hy ⟨z3,z4,z5,z6,kss,rfl,s4,nk4,n4⟩ kk;refine⟨trivial,?_⟩;obtain⟨hi,rfl⟩:=vE hy;obtain⟨pl,epl,hpl⟩:∃pl:Nat,(ks.length:Int) - 1 - (i:Nat)=(pl:Nat)/\pl+1=ks.length - i:=⟨ks.length - 1 - i,by omega,by omega⟩;rw[epl];have hpd:ds[pl]?=some (ds[pl]'(by omega)):=Hn (by omega);generalize ds[pl]'(by omega)=dp at hpd;obtain⟨ep4,q4⟩:=nk4.2.2.2.2 _ _ hpd;have k8:=jZ (j:=pl) wc (n4.nd pl) (fun k hk=>n4.kv pl k hk);simp only[bw,IV,IW];ac_rfl;refine⟨_,nk4.1,?_⟩;rw[c8 hpd]
    try ac_rfl
    refine⟨_,ep4,q4,by unfold tru;rw[Hm];omega,fun r2 hr2=>?_⟩;rw[iE];have nr2:∀b o,H4 b=some o->b≠r2:=fun b o e=>aq e hr2;have s5:=s4.put (o:=.lst ((kss.getD pl []).map tI)) (s4.free hr2);have nk5:=nk4.mv ((Sub.refl H4).put (o:=.lst ((kss.getD pl []).map tI)) hr2);have e5:put H4 r2 (.lst ((kss.getD pl []).map tI)) r2=some (.lst ((kss.getD pl []).map tI)):=ai;have nd2:r2∉ds:=fun z=>by
     obtain⟨j,hj,e⟩:=List.getElem_of_mem z;obtain⟨ep',q⟩:=nk4.2.2.2.2 j _ (Hn hj);exact nr2 _ _ q e
    have hrd:r∉ds:=nk4.2.2.2.1;generalize put H4 r2 (.lst ((kss.getD pl []).map tI))=H5 at *;have fresh:∀b o,H b=some o->b∉ds:=fun b o e z=>by rw[fr b z]at e;cases e
    obtain⟨ls,els⟩:∃ls,ls=kss.getD pl []:=⟨_,rfl⟩;rw[←els]at e5 ⊢;refine aR (fun i2 σ H6=>∃z4 z5 z6 kss2,σ=[some (.ref x),some (.ref d),some (.ref r),some (.int (pl:Nat)),z4,z5,z6]/\(∀b o,b∉ds->H5 b=some o->H6 b=some o)/\Nk P w H6 r ds kss2/\Nd2 ks os ns v kss2 (pl+1)/\kss2.getD pl []=ls/\∀key∈ls.take i2,Okk ks os ns kss2 pl key) ?_ ?_ ⟨_,_,_,kss,rfl,fun _ _ _ e=>e,nk5,by rw[hpl];exact n4,els.symm,fun key hk=>by rw[J8]at hk;cases hk⟩
    ·rintro σ H6 ⟨z4,z5,z6,kss2,rfl,k6,nk6,n6,ep6,ok6⟩;refine⟨k6 _ _ nd2 e5,?_⟩;rw[Hm,Iq]at ok6;refine kk _ _ ⟨_,_,_,_,kss2,rfl,fun b o e=>k6 b o (fresh b o e) (s5 b o e),nk6,⟨n6.len,n6.kv,fun j key hj q=>?_,n6.nd,n6.last⟩⟩;by_cases e:j=pl
     ·subst e;rw[ep6]at q;exact ok6 key q
     ·exact n6.ok j key (by omega) q
    ·rintro D2 i2 y σ H6 hy ⟨z4,z5,z6,kss2,rfl,k6,nk6,n6,ep6,ok6⟩ kk2;refine⟨k6 _ _ nd2 e5,?_⟩;rw[Ht]at hy;cases hk:ls[i2]? with
     | none=>rw[hk]at hy;cases hy
     | some key =>
      rw[hk]at hy;cases hy;have hkm:=Hz hk;obtain⟨nd,g,v2,hnd,dg,gg,vr2,ek⟩:=n6.kv pl key (by rw[ep6];exact hkm);have et:ls.take (i2+1)=ls.take i2++[key]:=by rw[Ip,hk];rfl
      have kvs2:=AU wc hnd dg gg vr2;have s6:U.Sub H H6:=fun b o e=>k6 b o (fresh b o e) (s5 b o e)
      try simp only[Option.map_some]
      simp only[bw,IV,IW];unfold tI;ac_rfl;refine⟨⟨dx,_,s6 _ _ hx,rfl⟩,ks,os,ns,Tt,pl,nd,g,v2,rfl,hnd,dg,gg,by rw[ek],rk0.up s6,wc,fun r3 H7 s7 hr3 e7=>?_⟩
      try ac_rfl
      refine⟨_,e7,?_⟩;have nd3:r3∉ds:=fun z=>by
       obtain⟨j,hj,e⟩:=List.getElem_of_mem z;obtain⟨ep',q⟩:=nk6.2.2.2.2 j _ (Hn hj);exact aq q hr3 e
      have nk7:=nk6.mv s7;refine aR (fun i3 σ H8=>∃z5 z6 kss3,σ=[some (.ref x),some (.ref d),some (.ref r),some (.int (pl:Nat)),some (.tup (key.map PV.int)),z5,z6]/\(∀b o,b∉ds->H7 b=some o->H8 b=some o)/\Nk P w H8 r ds kss3/\Nd2 ks os ns v kss3 (pl+1)/\kss3.getD pl []=ls/\(∀m x,x∈kss2.getD m []->x∈kss3.getD m [])/\∀pk∈(inn os ns nd v2).take i3,∃m:Nat,pk.1=(m:Int)/\m<pl/\pk.2∈kss3.getD m []) ?_ ?_ ⟨_,_,kss2,rfl,fun _ _ _ e=>e,nk7,n6,ep6,fun _ _ q=>q,fun pk hp=>by rw[J8]at hp;cases hp⟩
      ·rintro σ H8 ⟨z5,z6,kss3,rfl,k8',nk8,n8,ep8,mono8,in8⟩;refine⟨k8' _ _ nd3 e7,?_⟩;rw[Hm,Iq]at in8;refine kk2 _ _ ⟨_,_,_,kss3,rfl,fun b o nb e=>k8' b o nb (s7 _ _ (k6 b o nb e)),nk8,n8,ep8,fun k hk2=>?_⟩;rw[et]at hk2;rcases Ii.mp hk2 with q | q
       ·exact(ok6 k q).up mono8
       ·rw[Hx.mp q];exact⟨nd,g,v2,hnd,dg,gg,vr2,ek,in8⟩
      ·rintro D3 i3 y σ H8 hy ⟨z5,z6,kss3,rfl,k8',nk8,n8,ep8,mono8,in8⟩ kk3;refine⟨k8' _ _ nd3 e7,?_⟩;rw[Ht]at hy;cases hq:(inn os ns nd v2)[i3]? with
       | none=>rw[hq]at hy;cases hy
       | some pk =>
        rw[hq]at hy;cases hy;obtain⟨m,em,hmp,kvm⟩:=kvs2 pk (Hz hq);obtain⟨pt,k3⟩:=pk;simp only at em kvm;subst em;have hmk:m<ks.length:=by omega
        have hmd:ds[m]?=some (ds[m]'(by omega)):=Hn (by omega);generalize ds[m]'(by omega)=dm at hmd;obtain⟨ep9,q9⟩:=nk8.2.2.2.2 _ _ hmd;have l8:=jZ (j:=m) wc (n8.nd m) (fun k hk=>n8.kv m k hk);have et3:(inn os ns nd v2).take (i3+1)=(inn os ns nd v2).take i3++[((m:Int),k3)]:=by rw[Ip,hq];rfl
        try simp only[Option.map_some]
        unfold pkV tI;ac_rfl;refine⟨_,nk8.1,?_⟩;rw[c8 hmd]
        try ac_rfl
        have hl3:m<kss3.length:=by rw[n8.len];exact hmk
        refine⟨k3,_,ep9,rfl,q9,by unfold tru;rw[Hm];omega,fun ep10=>kk3 _ _ ⟨_,_,fL kss3 m k3,rfl,fun b o nb e=>?_,nk8.add hmd k3 ep10,n8.add (by omega) hmk kvm,?_,fun m' x' hx'=>d8 hl3 (mono8 m' x' hx'),fun pk hp=>?_⟩⟩
        ·exact(ao (fun z=>nb (by rw[z];exact Hz hmd))).trans (k8' b o nb e)
        ·rw[de hl3,HM (by omega)];exact ep8
        ·rw[et3]at hp;rcases Ii.mp hp with q | q
         ·obtain⟨m',e',l',q'⟩:=in8 pk q;exact⟨m',e',l',d8 hl3 q'⟩
         ·rw[Hx.mp q];exact⟨m,rfl,hmp,nV hl3⟩
 ·exact h.elim
theorem Hh(T:Tx K mg t):aG P w K mg base CX0 4 t.a_zd t.d_zd ["self","names","key"] (eC t P w):=by
 refine okU (k:=3) T.F_zd yb (fun vs H Q E h=>by
  unfold eC at h;split at h
  ·rfl
  ·exact h.elim) (fun cdv A outer s H E B hr=>⟨_,(af (sN 3 yb.nd (j5 rfl rfl T.b_dict boot_dict rfl T.b_zip (ab (qv 1) (ab (qv 2) ae))))
  (au (aA (av (C7 T) hr.mo rfl T.g_zG T.F_zG.kp T.B_zG (ab (cE nl8 1 [0] (cA xx) (aQ (av (Ee T) hr.mo rfl T.g_zt T.F_zt.kp T.B_zt (ab (bD (qv 0) T.cl_A T.nf_Reckoner_sizes rfl) (ab (qv 3) ae)))) (fun _ _ _ _=>⟨(gN 0 nn8),(j7 (cW (zO hr.units) yQ (qv 0) (bD (qv 1) T.cl_A T.nf_Reckoner_table rfl))),(show PE' _ _ _ (jt P w _ _)from gX hr.units (bD (qv 1) T.cl_A T.nf_Reckoner_table rfl) (qv 0) (fun _ _=>rfl ))⟩)) ae))))),?_⟩)
 intro vs H Q E h;unfold eC at h;split at h
 ·rename_i x l k;obtain⟨ks,os,ns,Tt,a,v,rfl,rfl,rk,wc,na,ia,vr,h⟩:=h;obtain⟨dx,a1,a2,a3,a4,ep,hx,h1,h2,h3,h4⟩:=rk;unfold RkF at hx;have a6:a.length≤6:=My.cj 6 _ (na.1.imp fun h=>by omega) na.2;refine aj fun R hR=>?_;ac_rfl;refine⟨_,_,rfl,rfl,by rw[Hm],by omega,fun p hp=>?_⟩;have s1:=(Sub.refl H).put (o:=.dK (dij (dzJ [] a (a.map v)))) hp;have ep1:put H p (.dK (dij (dzJ [] a (a.map v)))) p=some (.dK (dij (dzJ [] a (a.map v)))):=ai;have lk0:=yr (a:=a) (v:=v);generalize dzJ [] a (a.map v)=kv0 at *;generalize put H p (.dK (dij kv0))=H1 at *;have ew:WM.wC (lkJ kv0) ns=(wys ns).filter (ag a v):=by
   rw[WM.pE (fun n hn=>(ia n hn).1) lk0 ns fun n hn hl=>vr n (ia n hn).1 hl];exact List.filter_congr fun u _=>WM.zi fun n hn=>(ia n hn).2
  subst hR;ac_rfl;refine⟨dx,_,_,s1 _ _ hx,rfl,?_⟩
  try ac_rfl
  refine⟨ns,kv0,s1 _ _ h3,ep1,wc.sz,fun pw H2 s2 hpw epw=>?_⟩;rw[ew]at epw;refine⟨_,epw,fun acc hacc=>?_⟩;have sH:=s1.trans s2;have hxa:∀l,put H2 acc (.lst l) x=_:=fun l=>(ao (aq (sH _ _ hx) hacc)).trans (sH _ _ hx);have h4a:∀l,put H2 acc (.lst l) a4=_:=fun l=>(ao (aq (sH _ _ h4) hacc)).trans (sH _ _ h4);have w8:=wc.w8;have fl:=List.length_filter_le (ag a v) (wys ns);refine aX (fW Tt) (fun _=>true) (fun σ=>∃z,σ=[z,some (.ref x)]) (by rw[Hm];omega) (fun l=>(ao (aq epw hacc)).trans epw) ?_ ?_ ⟨_,rfl⟩
  ·rintro y hy l σ R1 ⟨z,rfl⟩ hl kT kF;obtain⟨u,hu,rfl⟩:=Hw.mp hy;have hw:=(I0.mp hu).1;have kT:=kT rfl;rw[xW]at kT;have eu:tI u=.tup (u.map PV.int):=rfl;rw[eu];ac_rfl;refine⟨dx,_,_,hxa _,rfl,?_⟩
   try ac_rfl
   refine⟨u,_,ep,rfl,h4a _,aU (by rw[se];exact ID hw) ?_⟩
   try ac_rfl
   refine⟨dx,_,_,hxa _,rfl,?_⟩
   try ac_rfl
   exact⟨u,_,ep,_,rfl,h4a _,mH hw,hl,by rw[aK];exact kT _ ⟨_,rfl⟩⟩
  have em:(((((wys ns).filter (ag a v)).map tI).filter fun _=>true).map (fW Tt))=(((wys ns).filter (ag a v)).map Tt).map fr:=by
   rw[Js.mpr (fun _ _=>rfl),HY,HY];exact Ie fun u _=>xW
  rw[em]
  try ac_rfl
  refine⟨_,_,rfl,by rw[Hm];omega,zS wc fun u hu=>(I0.mp hu).1,fun q hq=>?_,H,sH.put (sH.free hacc),h⟩;obtain⟨u,hu,rfl⟩:=Hw.mp hq;have hw:=(I0.mp hu).1;exact⟨wc.wd.pos u hw,bnL (wc.tb u hw).1 (by decide)⟩
 ·exact h.elim
theorem E7(T:Tx K mg t):aG P w K mg base CX0 5 t.a_zc t.d_zc ["self","place","key","worths"] (gS t P w):=by
 refine okU (k:=4) T.F_zc rj (fun vs H Q E h=>by
  unfold gS at h;split at h
  ·rfl
  ·exact h.elim) (fun cdv A outer s H E B hr=>⟨_,(af (sN 4 rj.nd (iX (iX (bD (qv 0) T.cl_A T.nf_Reckoner_nodes rfl) (qv 1)) ah))
  (af (bh (cN (a8 hr.units) a7 (qv 4) aT)
  (au (aA (aN (ab ah (ab ah ae)))))
  aH)
  (af (bh (cN (a8 hr.units) a7 (qv 4) aT)
  (au (aA (dq (qv 0) T.cl_A T.m_zd (Hh T) hr.mo T.B_zd (ab (iX (iX (bD (qv 0) T.cl_A T.nf_Reckoner_nodes rfl) (qv 1)) ah) (ab (qv 2) ae)))))
  aH)
  (af (sC 5 rj.nd nl9 2 [3] (cA xf) (aQ (dq (qv 0) T.cl_A T.m_zb (Cn T) hr.mo T.B_zb (ab (qv 1) (ab (qv 2) ae)))) (fun _ _ _ _=>⟨(fN (n:=2) rfl (a9 (gN 0 nn9) (a9 (gN 1 nn9) dc))),bO,(show PE' _ _ _ (jt P w _ _)from gX hr.units (iX (qv 2) (qv 0)) (qv 1) (fun _ _=>rfl ))⟩))
  (af (bh (cN (a8 hr.units) a7 (qv 4) aT)
  (au (aA (av (C7 T) hr.mo rfl T.g_zG T.F_zG.kp T.B_zG (ab (qv 5) ae))))
  aH)
  (af (bh (cN (a8 hr.units) a7 (qv 4) aT)
  (au (aA (av (ED T) hr.mo rfl T.g_zF T.F_zF.kp T.B_zF (ab (iX (qv 5) ah) (ab (iX (qv 5) ah) ae)))))
  aH)
  (af (bh (cN (a8 hr.units) a7 (iX (qv 5) ah) (aN (ab ah (ab ah ae))))
  dy
  aH)
  (au (aA (av (GC T) hr.mo rfl T.g_zI T.F_zI.kp T.B_zI (ab (iX (qv 5) ah) (ab (iX (qv 5) ah) ae)))))))))))),?_⟩)
 intro vs H Q E h;unfold gS at h;split at h
 ·rename_i x j k wr;obtain⟨ks,os,ns,Tt,n,nd,g,v,ws,rfl,hnd,dn,gd,vr,rfl,rk,wc,hwr,wv,h⟩:=h;have rk0:=rk;obtain⟨dx,a1,a2,a3,a4,ep,hx,h1,h2,h3,h4⟩:=rk;unfold RkF at hx;obtain⟨o6,oup,oiff⟩:=bU wc dn gd.1;have W:=wc.wd;have w8:=wc.w8;have tbb:=wc.tb;have dn0:=dn;cases dn with
  | one h5 =>
   rw[hnd]at h5;cases h5;refine aj fun R hR=>?_;ac_rfl;refine⟨dx,_,_,hx,rfl,?_⟩
   try ac_rfl
   refine⟨_,h1,?_⟩;rw[dG hnd];unfold ndV
   try ac_rfl
   try rw[dH]
   try ac_rfl
   subst hR;refine aj fun R hR=>?_;ac_rfl;refine aU (by decide) ?_;exact⟨ak (by decide),H,Sub.refl _,h⟩
  | seen h5 =>
   rw[hnd]at h5;cases h5;refine aj fun R hR=>?_;ac_rfl;refine⟨dx,_,_,hx,rfl,?_⟩
   try ac_rfl
   refine⟨_,h1,?_⟩;rw[dG hnd];unfold ndV
   try ac_rfl
   try rw[dH]
   try ac_rfl
   subst hR;refine aj fun R hR=>?_;ac_rfl;refine aB (by decide) ?_;subst hR;refine aj fun R hR=>?_;ac_rfl;refine aU (by decide) ?_;rename_i aa;have eo:oG os (n:Int)=aa:=My.hW oup gd.1.1 fun y=>(oiff y).trans Iff.rfl;refine⟨⟨dx,_,hx,rfl⟩,dx,_,_,hx,rfl,?_⟩
   try ac_rfl
   refine⟨_,h1,?_⟩;rw[dG hnd];unfold ndV
   try ac_rfl
   exact⟨ks,os,ns,Tt,aa,v,rfl,by rw[eo],rk0,wc,gd.1,gd.2.1,vr,H,Sub.refl _,h⟩
  | sum h5 hj d =>
   rw[hnd]at h5;cases h5;refine aj fun R hR=>?_;ac_rfl;refine⟨dx,_,_,hx,rfl,?_⟩
   try ac_rfl
   refine⟨_,h1,?_⟩;rw[dG hnd];unfold ndV
   try ac_rfl
   try rw[dH]
   try ac_rfl
   subst hR;refine aj fun R hR=>?_;ac_rfl;refine aB (by decide) ?_;subst hR;refine aj fun R hR=>?_;ac_rfl;refine aB (by decide) ?_;subst hR;rename_i m aa f';have dl:=gd.2.2;simp only[dp]at dl;have gf:Gd ns.length f':=⟨gd.1.2,gd.2.1.2,by omega⟩;have bd:=WM.bd2 W w8 tbb gf.1 gf.2.1 (by omega);have vu:∀u∈wys (aa.map (szN ns)),VR ns (WM.up v aa u):=fun u hu=>vr.up gd.2.1.1 ((WM.bc _ _).mp hu);have wl:(wys (aa.map (szN ns))).length≤8:=HZ (WM.dr W.n1 gd.1.1.1 gd.2.1.1) w8;have ei:inn os ns (("sum":Str),aa,[(m:Int)]) v=(wys (aa.map (szN ns))).map fun u=>((m:Int),(oG os (m:Int)).map (WM.up v aa u)):=by
    unfold inn;rw[HP (by rfl)];rfl
   have hval:val ns Tt (.sum aa f') v=aZ ((wys (aa.map (szN ns))).map fun u=>val ns Tt f' (WM.up v aa u)):=rfl;rw[hval]at h;obtain⟨qs,eqs⟩:∃qs,qs=(wys (aa.map (szN ns))).map fun u=>val ns Tt f' (WM.up v aa u):=⟨_,rfl⟩;rw[←eqs]at h;have q8:qs.length≤8:=by rw[eqs,Hm];exact wl
   have vs2:Vs P w H ws (inn os ns (("sum":Str),aa,[(m:Int)]) v) qs:=by
    refine⟨by rw[ei,eqs,Hm,Hm],fun i pk hp=>?_⟩;rw[ei,Ht]at hp;cases hu:(wys (aa.map (szN ns)))[i]? with
    | none=>rw[hu]at hp;cases hp
    | some u =>
     rw[hu]at hp;cases hp;have hum:=Hz hu;obtain⟨m',dm,kvs,ep',em,hws,hdm,hl⟩:=wv _ (by rw[ei];exact Hw.mpr ⟨u,hum,rfl⟩);have em:m=m':=Jb em;subst em;exact⟨m,dm,kvs,ep',_,rfl,hws,hdm,by rw[eqs,Ht,hu];rfl,hl f' (WM.up v aa u) d gf (vu u hum) rfl⟩
   have fin:∀q∈qs,0<q/\My.BN 8900 q.num:=fun q hq=>by
    rw[eqs]at hq;obtain⟨u,hu,rfl⟩:=Hw.mp hq;exact⟨WM.bx W gf.2.1 (vu u hu),bnL (bd.num _ (vu u hu)) (by decide)⟩
   obtain⟨C,c1,c2,c3⟩:=bd.cm;have cb:CB qs C:=⟨c1,HZ c2 (IK (by decide) (by decide)),fun q hq=>by
    rw[eqs]at hq;obtain⟨u,hu,rfl⟩:=Hw.mp hq;exact c3 _ (vu u hu)⟩
   refine aj fun R hR=>?_;ac_rfl;refine⟨⟨dx,_,hx,rfl⟩,ks,os,ns,Tt,n,_,_,v,rfl,hnd,dn0,gd,rfl,rk0,wc,fun r1 H1 s1 hr1 e1=>?_⟩
   try ac_rfl
   refine⟨_,e1,fun acc hacc=>?_⟩;refine dR (fun i σ H2=>∃z1 z2,σ=[z1,z2,some (.ref wr)]/\H2=put H1 acc (.lst ((qs.take i).map fr))) ?_ ?_ ⟨_,_,rfl,by rw[J8];rfl⟩
   ·rintro i y σ H2 R1 hy ⟨z1,z2,rfl,rfl⟩ kk;refine⟨(ao (aq e1 hacc)).trans e1,?_⟩;rw[Ht]at hy;cases hq:(inn os ns (("sum":Str),aa,[(m:Int)]) v)[i]? with
    | none=>rw[hq]at hy;cases hy
    | some pk =>
     rw[hq]at hy;cases hy;obtain⟨m,dm,kvs,epm,q,em,hws,hdm,hqs,hlk⟩:=vs2.2 i pk hq;obtain⟨pt,k3⟩:=pk;simp only at em hlk;subst em;have et:qs.take (i+1)=qs.take i++[q]:=by rw[Ip,hqs];rfl
     have hwa:=(ao (o:=.lst ((qs.take i).map fr)) (aq (s1 _ _ hwr) hacc)).trans (s1 _ _ hwr);have hda:=(ao (o:=.lst ((qs.take i).map fr)) (aq (s1 _ _ hdm) hacc)).trans (s1 _ _ hdm)
     try simp only[Option.map_some]
     unfold pkV tI;ac_rfl;refine⟨_,hwa,?_⟩;rw[c8 hws]
     try ac_rfl
     refine⟨k3,_,epm,_,rfl,hda,hlk,aW (by rw[Hm,Ij];omega),kk _ _ ⟨_,_,rfl,by rw[aK,et,HW];rfl⟩⟩
   ·rintro σ H2 ⟨z1,z2,rfl,rfl⟩;refine⟨(ao (aq e1 hacc)).trans e1,?_⟩;rw[Hm,← vs2.1,Iq];have sA:=s1.put (o:=.lst (qs.map fr)) (s1.free hacc);have ea:put H1 acc (.lst (qs.map fr)) acc=some (.lst (qs.map fr)):=ai;generalize put H1 acc (.lst (qs.map fr))=H3 at *;subst hR
    try dsimp only
    refine aj fun R hR=>?_;ac_rfl;refine aU (by decide) ?_;exact⟨qs,C,ea,by omega,cb,fin,H,sA,h⟩
  | times h5 hj hk d e =>
   rw[hnd]at h5;cases h5;refine aj fun R hR=>?_;ac_rfl;refine⟨dx,_,_,hx,rfl,?_⟩
   try ac_rfl
   refine⟨_,h1,?_⟩;rw[dG hnd];unfold ndV
   try ac_rfl
   try rw[dH]
   try ac_rfl
   subst hR;refine aj fun R hR=>?_;ac_rfl;refine aB (by decide) ?_;subst hR;refine aj fun R hR=>?_;ac_rfl;refine aB (by decide) ?_;subst hR;rename_i m m2 fa fb;have dl:=gd.2.2;simp only[dp]at dl;have gf:Gd ns.length fa:=⟨gd.1.1,gd.2.1.1,by omega⟩;have gf2:Gd ns.length fb:=⟨gd.1.2,gd.2.1.2,by omega⟩;have bd:=WM.bd2 W w8 tbb gf.1 gf.2.1 (by omega);have bd':=WM.bd2 W w8 tbb gf2.1 gf2.2.1 (by omega);have ei:inn os ns (("times":Str),([]:List Int),[(m:Int),(m2:Int)]) v=[((m:Int),(oG os (m:Int)).map v),((m2:Int),(oG os (m2:Int)).map v)]:=rfl;obtain⟨qs,eqs⟩:∃qs,qs=[val ns Tt fa v,val ns Tt fb v]:=⟨_,rfl⟩;have q8:qs.length≤8:=by rw[eqs];simp
   have vs2:Vs P w H ws (inn os ns (("times":Str),([]:List Int),[(m:Int),(m2:Int)]) v) qs:=by
    refine⟨by rw[ei,eqs];rfl,fun i pk hp=>?_⟩;rw[ei]at hp
    match i,hp with
    | 0,hp =>
     cases hp;obtain⟨m',dm,kvs,ep',em,hws,hdm,hl⟩:=wv _ (by rw[ei];exact HL);have em:m=m':=Jb em;subst em;exact⟨m,dm,kvs,ep',_,rfl,hws,hdm,by rw[eqs];rfl,hl fa v d gf vr rfl⟩
    | 1,hp =>
     cases hp;obtain⟨m',dm,kvs,ep',em,hws,hdm,hl⟩:=wv _ (by rw[ei];exact HH _ HL);have em:m2=m':=Jb em;subst em;exact⟨m2,dm,kvs,ep',_,rfl,hws,hdm,by rw[eqs];rfl,hl fb v e gf2 vr rfl⟩
    | i+2,hp=>cases hp
   refine aj fun R hR=>?_;ac_rfl;refine⟨⟨dx,_,hx,rfl⟩,ks,os,ns,Tt,n,_,_,v,rfl,hnd,dn0,gd,rfl,rk0,wc,fun r1 H1 s1 hr1 e1=>?_⟩
   try ac_rfl
   refine⟨_,e1,fun acc hacc=>?_⟩;refine dR (fun i σ H2=>∃z1 z2,σ=[z1,z2,some (.ref wr)]/\H2=put H1 acc (.lst ((qs.take i).map fr))) ?_ ?_ ⟨_,_,rfl,by rw[J8];rfl⟩
   ·rintro i y σ H2 R1 hy ⟨z1,z2,rfl,rfl⟩ kk;refine⟨(ao (aq e1 hacc)).trans e1,?_⟩;rw[Ht]at hy;cases hq:(inn os ns (("times":Str),([]:List Int),[(m:Int),(m2:Int)]) v)[i]? with
    | none=>rw[hq]at hy;cases hy
    | some pk =>
     rw[hq]at hy;cases hy;obtain⟨m,dm,kvs,epm,q,em,hws,hdm,hqs,hlk⟩:=vs2.2 i pk hq;obtain⟨pt,k3⟩:=pk;simp only at em hlk;subst em;have et:qs.take (i+1)=qs.take i++[q]:=by rw[Ip,hqs];rfl
     have hwa:=(ao (o:=.lst ((qs.take i).map fr)) (aq (s1 _ _ hwr) hacc)).trans (s1 _ _ hwr);have hda:=(ao (o:=.lst ((qs.take i).map fr)) (aq (s1 _ _ hdm) hacc)).trans (s1 _ _ hdm)
     try simp only[Option.map_some]
     unfold pkV tI;ac_rfl;refine⟨_,hwa,?_⟩;rw[c8 hws]
     try ac_rfl
     refine⟨k3,_,epm,_,rfl,hda,hlk,aW (by rw[Hm,Ij];omega),kk _ _ ⟨_,_,rfl,by rw[aK,et,HW];rfl⟩⟩
   ·rintro σ H2 ⟨z1,z2,rfl,rfl⟩;refine⟨(ao (aq e1 hacc)).trans e1,?_⟩;rw[Hm,← vs2.1,Iq];have sA:=s1.put (o:=.lst (qs.map fr)) (s1.free hacc);have ea:put H1 acc (.lst (qs.map fr)) acc=some (.lst (qs.map fr)):=ai;generalize put H1 acc (.lst (qs.map fr))=H3 at *;subst hR
    try dsimp only
    refine aj fun R hR=>?_;ac_rfl;refine aB (by decide) ?_;subst hR;refine aj fun R hR=>?_;ac_rfl;refine aU (by decide) ?_;subst eqs;refine⟨_,ea,?_⟩
    try ac_rfl
    refine⟨_,ea,?_⟩
    try ac_rfl
    refine⟨_,_,rfl,rfl,f9 W gf.2.1 bd vr (by decide) (by decide),f9 W gf2.2.1 bd' vr (by decide) (by decide),H,sA,h⟩
  | over h5 hj hk d e =>
   rw[hnd]at h5;cases h5;refine aj fun R hR=>?_;ac_rfl;refine⟨dx,_,_,hx,rfl,?_⟩
   try ac_rfl
   refine⟨_,h1,?_⟩;rw[dG hnd];unfold ndV
   try ac_rfl
   try rw[dH]
   try ac_rfl
   subst hR;refine aj fun R hR=>?_;ac_rfl;refine aB (by decide) ?_;subst hR;refine aj fun R hR=>?_;ac_rfl;refine aB (by decide) ?_;subst hR;rename_i m m2 fa fb;have dl:=gd.2.2;simp only[dp]at dl;have gf:Gd ns.length fa:=⟨gd.1.1,gd.2.1.1,by omega⟩;have gf2:Gd ns.length fb:=⟨gd.1.2,gd.2.1.2,by omega⟩;have bd:=WM.bd2 W w8 tbb gf.1 gf.2.1 (by omega);have bd':=WM.bd2 W w8 tbb gf2.1 gf2.2.1 (by omega);have ei:inn os ns (("over":Str),([]:List Int),[(m:Int),(m2:Int)]) v=[((m:Int),(oG os (m:Int)).map v),((m2:Int),(oG os (m2:Int)).map v)]:=rfl;obtain⟨qs,eqs⟩:∃qs,qs=[val ns Tt fa v,val ns Tt fb v]:=⟨_,rfl⟩;have q8:qs.length≤8:=by rw[eqs];simp
   have vs2:Vs P w H ws (inn os ns (("over":Str),([]:List Int),[(m:Int),(m2:Int)]) v) qs:=by
    refine⟨by rw[ei,eqs];rfl,fun i pk hp=>?_⟩;rw[ei]at hp
    match i,hp with
    | 0,hp =>
     cases hp;obtain⟨m',dm,kvs,ep',em,hws,hdm,hl⟩:=wv _ (by rw[ei];exact HL);have em:m=m':=Jb em;subst em;exact⟨m,dm,kvs,ep',_,rfl,hws,hdm,by rw[eqs];rfl,hl fa v d gf vr rfl⟩
    | 1,hp =>
     cases hp;obtain⟨m',dm,kvs,ep',em,hws,hdm,hl⟩:=wv _ (by rw[ei];exact HH _ HL);have em:m2=m':=Jb em;subst em;exact⟨m2,dm,kvs,ep',_,rfl,hws,hdm,by rw[eqs];rfl,hl fb v e gf2 vr rfl⟩
    | i+2,hp=>cases hp
   refine aj fun R hR=>?_;ac_rfl;refine⟨⟨dx,_,hx,rfl⟩,ks,os,ns,Tt,n,_,_,v,rfl,hnd,dn0,gd,rfl,rk0,wc,fun r1 H1 s1 hr1 e1=>?_⟩
   try ac_rfl
   refine⟨_,e1,fun acc hacc=>?_⟩;refine dR (fun i σ H2=>∃z1 z2,σ=[z1,z2,some (.ref wr)]/\H2=put H1 acc (.lst ((qs.take i).map fr))) ?_ ?_ ⟨_,_,rfl,by rw[J8];rfl⟩
   ·rintro i y σ H2 R1 hy ⟨z1,z2,rfl,rfl⟩ kk;refine⟨(ao (aq e1 hacc)).trans e1,?_⟩;rw[Ht]at hy;cases hq:(inn os ns (("over":Str),([]:List Int),[(m:Int),(m2:Int)]) v)[i]? with
    | none=>rw[hq]at hy;cases hy
    | some pk =>
     rw[hq]at hy;cases hy;obtain⟨m,dm,kvs,epm,q,em,hws,hdm,hqs,hlk⟩:=vs2.2 i pk hq;obtain⟨pt,k3⟩:=pk;simp only at em hlk;subst em;have et:qs.take (i+1)=qs.take i++[q]:=by rw[Ip,hqs];rfl
     have hwa:=(ao (o:=.lst ((qs.take i).map fr)) (aq (s1 _ _ hwr) hacc)).trans (s1 _ _ hwr);have hda:=(ao (o:=.lst ((qs.take i).map fr)) (aq (s1 _ _ hdm) hacc)).trans (s1 _ _ hdm)
     try simp only[Option.map_some]
     unfold pkV tI;ac_rfl;refine⟨_,hwa,?_⟩;rw[c8 hws]
     try ac_rfl
     refine⟨k3,_,epm,_,rfl,hda,hlk,aW (by rw[Hm,Ij];omega),kk _ _ ⟨_,_,rfl,by rw[aK,et,HW];rfl⟩⟩
   ·rintro σ H2 ⟨z1,z2,rfl,rfl⟩;refine⟨(ao (aq e1 hacc)).trans e1,?_⟩;rw[Hm,← vs2.1,Iq];have sA:=s1.put (o:=.lst (qs.map fr)) (s1.free hacc);have ea:put H1 acc (.lst (qs.map fr)) acc=some (.lst (qs.map fr)):=ai;generalize put H1 acc (.lst (qs.map fr))=H3 at *;subst hR
    try dsimp only
    refine aj fun R hR=>?_;ac_rfl;refine aB (by decide) ?_;subst hR;refine aj fun R hR=>?_;ac_rfl;refine aB (by decide) ?_;subst hR;subst eqs;refine aj fun R hR=>?_;ac_rfl;refine⟨_,ea,?_⟩
    try ac_rfl
    refine⟨ak (by decide),?_⟩;have nz:=uH (WM.bx W gf2.2.1 vr);unfold fr at nz ⊢
    try ac_rfl
    have nz2:¬(val ns Tt fb v).num=0:=fun z=>by have:=cV (f9 W gf2.2.1 bd' vr (by decide) (by decide));omega
    refine aB (by simp[nz2]) ?_;subst hR;ac_rfl;refine⟨_,ea,?_⟩
    try ac_rfl
    refine⟨_,ea,?_⟩
    try ac_rfl
    exact⟨_,_,rfl,rfl,f9 W gf.2.1 bd vr (by decide) (by decide),f9 W gf2.2.1 bd' vr (by decide) (by decide),H,sA,h⟩
 ·exact h.elim
theorem Ft(T:Tx K mg t):aG P w K mg base CX0 48 t.a_zi t.d_zi ["self","formula","sizes","table"] (eF t):=by
 refine okU (k:=47) T.F_zi Dt (fun vs H Q E h=>by
  unfold eF at h;split at h
  ·rfl
  ·exact h.elim) (fun cdv A outer s H E B hr=>⟨_,(af (jM (qv 0) (av (Dx T) hr.mo rfl T.g_zx T.F_zx.kp T.B_zx (ab (qv 1) ae)) T.cl_A T.nf_Reckoner_nodes rfl)
  (af (jM (qv 0) (av (DJ T) hr.mo rfl T.g_zw T.F_zw.kp T.B_zw (ab (bD (qv 0) T.cl_A T.nf_Reckoner_nodes rfl) ae)) T.cl_A T.nf_Reckoner_opens rfl)
  (af (jM (qv 0) (qv 2) T.cl_A T.nf_Reckoner_sizes rfl)
  (au (jM (qv 0) (qv 3) T.cl_A T.nf_Reckoner_table rfl))))),?_⟩)
 intro vs H Q E h;unfold eF at h;split at h
 ·rename_i x v a3 a4;obtain⟨f,dx,rfl,dpf,okf,szf,hx,h⟩:=h;refine aj fun R hR=>?_;ac_rfl;refine⟨f,rfl,dpf,okf,szf,fun a1 i ks ha1 laid=>?_⟩;have ll:=laid.len;simp only[JX,Nat.zero_add]at ll;have s1:=(Sub.refl H).put (o:=.lst (ks.map ndV)) ha1;have e1:put H a1 (.lst (ks.map ndV)) a1=some (.lst (ks.map ndV)):=ai;have na:a1≠x:=(aq hx ha1).symm;generalize put H a1 (.lst (ks.map ndV))=H1 at *;refine⟨dx,[],s1 _ _ hx,by decide,?_⟩;have k1:∀b o,b≠x->H b=some o->put H1 x (.ins t.a_A dx (dM (Str.ofString "nodes") (.ref a1) [])) b=some o:=fun b o nb e=>(ao nb).trans (s1 _ _ e);have e1:=(ao (o:=.ins t.a_A dx (dM (Str.ofString "nodes") (.ref a1) [])) na).trans e1;have ex:put H1 x (.ins t.a_A dx (dM (Str.ofString "nodes") (.ref a1) [])) x=some (.ins t.a_A dx [("nodes",.ref a1)]):=ai;generalize put H1 x (.ins t.a_A dx (dM (Str.ofString "nodes") (.ref a1) []))=H2 at *;subst hR;refine aj fun R hR=>?_;ac_rfl;refine⟨dx,_,_,ex,rfl,?_⟩
  try ac_rfl
  refine⟨ks,sz f+1,e1,laid.all _ (fun j hj=>by simp at hj) (by omega),by omega,fun a2 os ha2 ho hO=>?_⟩;have s2:=(Sub.refl H2).put (o:=.lst (os.map nsV)) ha2;have e2:put H2 a2 (.lst (os.map nsV)) a2=some (.lst (os.map nsV)):=ai;have nb:a2≠x:=(aq ex ha2).symm;generalize put H2 a2 (.lst (os.map nsV))=H3 at *;refine⟨dx,_,s2 _ _ ex,show 1<1000 by decide,?_⟩;have k3:∀b o,b≠x->H b=some o->put H3 x (.ins t.a_A dx (dM (Str.ofString "opens") (.ref a2) [("nodes",.ref a1)])) b=some o:=fun b o nb e=>(ao nb).trans (s2 _ _ (k1 b o nb e));have e2:=(ao (o:=.ins t.a_A dx (dM (Str.ofString "opens") (.ref a2) [("nodes",.ref a1)])) nb).trans e2;have e1:=(ao (o:=.ins t.a_A dx (dM (Str.ofString "opens") (.ref a2) [("nodes",.ref a1)])) na).trans (s2 _ _ e1);have ex:put H3 x (.ins t.a_A dx (dM (Str.ofString "opens") (.ref a2) [("nodes",.ref a1)])) x=some (.ins t.a_A dx [("nodes",.ref a1),("opens",.ref a2)]):=ai;generalize put H3 x (.ins t.a_A dx (dM (Str.ofString "opens") (.ref a2) [("nodes",.ref a1)]))=H4 at *;subst hR;ac_rfl;refine⟨dx,_,ex,show 2<1000 by decide,?_⟩
  try ac_rfl
  refine⟨dx,_,rfl,show 3<1000 by decide,?_⟩;rw[aK];refine⟨_,Sub.refl _,h a1 a2 ks os i _ (fun b o nb e=>(ao nb).trans (k3 b o nb e)) laid hO ho ai ((ao na).trans e1) ((ao nb).trans e2)⟩
 ·exact h.elim
theorem F6(T:Tx K mg t):aG P w K mg base CX0 6 t.a_zg t.d_zg ["self","values"] (gB t P w):=by
 refine okU (k:=5) T.F_zg i6 (fun vs H Q E h=>by
  unfold gB at h;split at h
  ·rfl
  ·exact h.elim) (fun cdv A outer s H E B hr=>⟨_,(af (sN 2 i6.nd (aP ae))
  (af (dt Ir rfl (ma rfl T.b_enumerate (ab (dq (qv 0) T.cl_A T.m_za (Ha T) hr.mo T.B_za (ab (qv 1) ae)) ae)) (fN (n:=2) rfl (a9 (gN 3 i6.nd) (a9 (gN 4 i6.nd) dc)))
  (af (sN 5 i6.nd (show PE' _ _ _ (ix P w)from iu))
   (af (dt Ir rfl (CU (qv 4)) (gN 6 i6.nd)
   (au (iG (dq (qv 0) T.cl_A T.m_zc (E7 T) hr.mo T.B_zc (ab (qv 3) (ab (qv 6) (ab (qv 2) ae)))) (show PG' _ _ _ (jz P w _ _)from gY hr.units (qv 5) (qv 6)))))
   (au (bM (gm Jt Ju bL cg (qv 2) (ab (qv 5) ae)))))))
  (au (aA (show PE' _ _ _ (jt P w _ _)from gX hr.units (iX (qv 2) (cU ah)) (av (vO T) hr.mo rfl T.g_zD T.F_zD.kp T.B_zD (ab (iX (bD (qv 0) T.cl_A T.nf_Reckoner_opens rfl) (cU ah)) (ab (qv 1) ae))) (fun _ _=>rfl )))))),?_⟩)
 intro vs H Q E h;unfold gB at h;split at h
 ·rename_i x d;obtain⟨ks,os,ns,Tt,f,kvs,v,rk,wc,k0,dn,gd,hd,tl,vr,h⟩:=h;have rk0:=rk;obtain⟨dx,a1,a2,a3,a4,ep,hx,h1,h2,h3,h4⟩:=rk;unfold RkF at hx;refine aj fun R hR=>?_;ac_rfl;refine⟨ak (by decide),fun wr hwr=>?_⟩;have s1:=(Sub.refl H).put (o:=.lst []) hwr;have e1:put H wr (.lst []) wr=some (.lst []):=ai;have hfr:∀b,b≠wr->H b=none->put H wr (.lst []) b=none:=fun b nb e=>(ao nb).trans e;generalize put H wr (.lst [])=H1 at *;subst hR;refine aj fun R hR=>?_;ac_rfl;refine⟨⟨dx,_,s1 _ _ hx,rfl⟩,ks,os,ns,Tt,f,kvs,v,rk0.up s1,wc,k0,dn,gd,s1 _ _ hd,tl,vr,fun r ds kss H2 s2 hr nk kl okk lst nd=>?_⟩
  try ac_rfl
  rw[yB];obtain⟨r1,r2,r3,r4,r5⟩:=nk;have rwr:r≠wr:=fun z=>by rw[z,e1]at hr;cases hr
  refine⟨_,r1,?_⟩;have l9:=wc.l9;refine aR (fun i σ H4=>∃z3 z4 z5 z6 ws,σ=[some (.ref x),some (.ref d),some (.ref wr),z3,z4,z5,z6]/\(∀b o,b≠wr->H2 b=some o->H4 b=some o)/\H4 wr=some (.lst (ws.map PV.ref))/\ws.length=i/\wr∉ws/\Ws P w H4 ks os ns Tt kss ws) ?_ ?_ ⟨_,_,_,_,[],rfl,fun _ _ _ e=>e,s2 _ _ e1,rfl,by simp,fun m dm e=>by cases e⟩
  ·rintro σ H4 ⟨z3,z4,z5,z6,ws,rfl,k4,ew,lw,nw,w4⟩;refine⟨k4 _ _ rwr r1,?_⟩;have il:(eO (ds.map PV.ref)).length=ks.length:=by unfold eO;rw[List.length_mapIdx,Hm];omega
   rw[il]at lw;have s4:U.Sub H H4:=fun b o e=>k4 b o (aq e hwr) (s2 _ _ (s1 _ _ e));have hl:ks.length - 1<ws.length:=by omega
   have hlast:ws[ks.length - 1]?=some ws[ks.length - 1]:=Hn hl;obtain⟨kvl,epl,q1,q2⟩:=w4 _ _ hlast;obtain⟨o6,_,oiff⟩:=bU wc dn gd.1;have lo:=wc.len;subst hR;ac_rfl;refine⟨_,ew,?_⟩;rw[eX (x:=.ref ws[ks.length - 1]) (by rw[Hm,Ht,lw,hlast];rfl)]
   try ac_rfl
   refine⟨dx,_,_,s4 _ _ hx,rfl,?_⟩
   try ac_rfl
   refine⟨_,s4 _ _ h2,?_⟩;rw[oV (by omega),lo]
   try ac_rfl
   refine⟨_,kvs,v,rfl,s4 _ _ hd,o6,fun y hy=>tl y ((oiff y).mp hy),?_⟩;unfold tI
   try ac_rfl
   exact⟨_,kvl,epl,_,rfl,q1,q2 _ lst f v dn gd vr rfl,H,s4,h⟩
  ·rintro D i y σ H4 hy ⟨z3,z4,z5,z6,ws,rfl,k4,ew,lw,nw,w4⟩ kk;refine⟨k4 _ _ rwr r1,?_⟩;obtain⟨y1,hy1,rfl⟩:=jA hy;rw[Ht]at hy1;cases hdi:ds[i]? with
   | none=>rw[hdi]at hy1;cases hy1
   | some di =>
    rw[hdi]at hy1;cases hy1
    try simp only[Option.map_some]
    have il:=(Hs.mp hdi).1;obtain⟨epi,qi⟩:=r5 _ _ hdi;have dw:di≠wr:=fun z=>by rw[z,s2 _ _ e1]at qi;cases qi
    have s4:U.Sub H H4:=fun b o e=>k4 b o (aq e hwr) (s2 _ _ (s1 _ _ e));have qi:=k4 _ _ dw qi;ac_rfl;intro kd hkd;have dk:=aq qi hkd;have wk:=aq ew hkd;refine⟨_,epi,(ao dk).trans qi,?_⟩;rw[iE];have s5:=(Sub.refl H4).put (o:=.dI P w [] 0) hkd;have e5:put H4 kd (.dI P w [] 0) kd=some (.dI P w [] 0):=ai;generalize put H4 kd (.dI P w [] 0)=H5 at *;obtain⟨ls,els⟩:∃ls,ls=kss.getD i []:=⟨_,rfl⟩;have okl:∀key∈ls,Okk ks os ns kss i key:=fun key hk=>okk i key (by rw[←els];exact hk);have l8:=jZ (j:=i) wc (l:=ls) (by rw[els];exact nd i) fun k hk=>let ⟨a,b,c,h1,h2,h3,h4,h5,_⟩:=okl k hk;⟨a,b,c,h1,h2,h3,h4,h5⟩
    rw[←els]at qi ⊢;have nkd:∀b o,H b=some o->b≠kd:=fun b o e=>aq (s4 _ _ e) hkd;refine aR (fun i2 σ H6=>∃z6 kvs2 ep2,σ=[some (.ref x),some (.ref d),some (.ref wr),some (.int (i:Nat)),some (.ref di),some (.ref kd),z6]/\(∀b o,b≠kd->H5 b=some o->H6 b=some o)/\H6 kd=some (.dI P w kvs2 ep2)/\kvs2.length≤i2/\Kn ks os ns Tt i kvs2 (ls.take i2)) ?_ ?_ ⟨_,[],0,rfl,fun _ _ _ e=>e,e5,JG _,fun key hk=>by rw[J8]at hk;cases hk⟩
    ·rintro σ H6 ⟨z6,kvs2,ep2,rfl,k6,e6,l6,n6⟩;refine⟨k6 _ _ dk (s5 _ _ qi),?_⟩;rw[Hm,Iq]at n6;have k46:∀b o,b≠kd->H4 b=some o->H6 b=some o:=fun b o nb e=>k6 b o nb (s5 _ _ e);ac_rfl;refine⟨⟨_,k46 _ _ wk ew⟩,_,k46 _ _ wk ew,aW (by rw[Hm];omega),kk _ _ ⟨_,_,_,_,ws++[kd],rfl,fun b o nb e=>(ao nb).trans (k46 b o (aq (k4 b o nb e) hkd) (k4 b o nb e)),by rw[ai,HW];rfl,by rw[HN,lw];rfl,?_,fun m dm hm=>?_⟩⟩
     ·intro q;rcases Ii.mp q with q | q
      ·exact nw q
      ·exact wk (Hx.mp q)
     ·rcases kH hm with q |⟨rfl,rfl⟩
      ·obtain⟨kv3,ep3,q1,q2⟩:=w4 m dm q;exact⟨kv3,ep3,(ao (fun z=>nw (by rw[←z];exact Hz q))).trans (k46 _ _ (aq q1 hkd) q1),q2⟩
      ·refine⟨kvs2,ep2,(ao (Ne.symm wk)).trans e6,?_⟩;rw[lw,← els];exact n6
    ·rintro D2 i2 y σ H6 hy ⟨z6,kvs2,ep2,rfl,k6,e6,l6,n6⟩ kk2;refine⟨k6 _ _ dk (s5 _ _ qi),?_⟩;rw[Ht]at hy;cases hk:ls[i2]? with
     | none=>rw[hk]at hy;cases hy
     | some key =>
      rw[hk]at hy;cases hy;have hi2:=(Hs.mp hk).1;have k46:∀b o,b≠kd->H4 b=some o->H6 b=some o:=fun b o nb e=>k6 b o nb (s5 _ _ e);have s6:U.Sub H H6:=fun b o e=>k46 b o (nkd b o e) (s4 _ _ e);obtain⟨n2,g,v2,hnd,dg,gg,vr2,ek,hin⟩:=okl key (Hz hk);have et:ls.take (i2+1)=ls.take i2++[key]:=by rw[Ip,hk];rfl
      have w6:Ws P w H6 ks os ns Tt kss ws:=fun m dm hm=>let ⟨kv3,ep3,q1,q2⟩:=w4 m dm hm;⟨kv3,ep3,k46 _ _ (aq q1 hkd) q1,q2⟩
      try simp only[Option.map_some]
      simp only[bw,IV,IW];unfold tI;ac_rfl;refine⟨⟨dx,_,s6 _ _ hx,rfl⟩,ks,os,ns,Tt,i,n2,g,v2,ws,rfl,hnd,dg,gg,vr2,by rw[ek],rk0.up s6,wc,k46 _ _ wk ew,w6.wv (by rw[lw];exact hin),?_⟩
      try ac_rfl
      refine⟨key,kvs2,ep2,rfl,e6,by omega,fun ep'=>kk2 _ _ ⟨_,_,ep',rfl,fun b o nb e=>(ao nb).trans (k6 b o nb e),ai,HZ wo (by omega),?_⟩⟩;intro key2 hk2 g2 v3 d2 gd2 vr3 e2;rw[wJ];have eg:=d2.uniq dg;subst eg;by_cases q:key2=key
      ·rw[HP q,wa wc d2 gd2.1 (v:=v2) (v':=v3) (by rw[←ek,← e2,q])]
      ·rw[HM q];rw[et]at hk2;rcases Ii.mp hk2 with z | z
       ·exact n6 key2 z g2 v3 d2 gd2 vr3 e2
       ·exact absurd (Hx.mp z) q
 ·exact h.elim
theorem kn(T:Tx K mg t):aG P w K mg base CX0 50 t.a_zE t.d_zE ["formula","sizes","table","values"] (dX t P w):=by
 refine okU (k:=49) T.F_zE Eg (fun vs H Q E h=>by
  unfold dX at h;split at h
  ·rfl
  ·exact h.elim) (fun cdv A outer s H E B hr=>⟨_,(au (aA (dq (v5 T.mk_A (Ft T) hr.mo rfl T.g_A T.B_zi (ab (qv 0) (ab (qv 1) (ab (qv 2) ae)))) T.cl_A T.m_zg (F6 T) hr.mo T.B_zg (ab (qv 3) ae)))),?_⟩)
 intro vs H Q E h;unfold dX at h;split at h
 ·rename_i vf a3 a4 d;obtain⟨ns,Tt,f,kvs,v,ep,rfl,gd,szf,hdd,h3,h4,hd,tl,vr,h⟩:=h;ac_rfl;intro x dx hx0 _ _;have dl:=gd.2.2;refine⟨f,dx,rfl,by omega,gd.1,szf,rfl,fun a1 a2 ks os i H1 kp laid hO ho hx1 h1 h2=>⟨⟨dx,_,hx1,rfl⟩,?_⟩⟩;have ll:=laid.len;have la:=laid.last fun j hj=>by simp at hj
  simp only[JX,Nat.zero_add]at ll;have up:Sub H H1:=fun b o e=>kp b o (aq e hx0) ((ao (aq e hx0)).trans e);have wc:Wc ks os ns Tt:=⟨hO,ho,by omega,hdd.sz,hdd.wd,hdd.w8,hdd.tb⟩;have ei:ks.length - 1=i:=by omega
  exact⟨ks,os,ns,Tt,f,kvs,v,⟨dx,a1,a2,a3,a4,ep,hx1,h1,h2,up _ _ h3,up _ _ h4⟩,wc,by omega,by rw[ei];exact laid.den,gd,up _ _ hd,tl,vr,H,up,h⟩
 ·exact h.elim
theorem Az(T:Tx K mg t):aG P w K mg base CX0 1 t.a_zA t.d_zA ["_law_sizes_here"] eB:=by
 refine okU (k:=0) T.F_zA iL (fun vs H Q E h=>by
  unfold eB at h;split at h
  ·rfl
  ·exact h.elim) (fun cdv A outer s H E B hr=>⟨_,(af (sN 1 iL.nd (aP (ab (aN ae) ae)))
  (af (bI Ir rfl (aQ (qv 0)) (gN 2 iL.nd)
  (af (sN 3 iL.nd (aP ae))
   (af (bI Ir rfl (aQ (qv 1)) (gN 4 iL.nd)
   (au (sN 3 iL.nd (tR (qv 3) (cE Dw 1 [4] (cA wt) (fq rfl T.b_range (ab (qv 2) ae)) (fun _ _ _ _=>⟨(gN 0 Ge),bO,(om (qv 1) (aN (ab (qv 0) ae)))⟩))))))
   (au (sN 1 iL.nd (qv 3))))))
  (au (aA (qv 1))))),?_⟩)
 intro vs H Q E h;unfold eB at h;split at h
 ·rename_i a;obtain⟨ns,ha,⟨h6,h4⟩,h⟩:=h;refine aj fun R hR=>?_;ac_rfl;refine⟨ak (by decide),ak (by decide),fun p0 hp0=>?_⟩;have e0:put H p0 (.lst [.tup []]) p0=some (.lst ((wys (ns.take 0)).map tI)):=ai;have s0:=(Sub.refl H).put (o:=.lst [.tup []]) hp0;generalize put H p0 (.lst [.tup []])=H1 at *;subst hR;refine aj fun R hR=>?_;ac_rfl;refine⟨_,s0 _ _ ha,?_⟩;refine aR (fun i σ H2=>∃p z2 z3 z4,σ=[some (.ref a),some (.ref p),z2,z3,z4]/\U.Sub H H2/\H p=none/\H2 p=some (.lst ((wys (ns.take i)).map tI))) ?_ ?_ ⟨p0,_,_,_,rfl,s0,hp0,e0⟩
  ·rintro σ H2 ⟨p,z2,z3,z4,rfl,s2,hp,e2⟩;refine⟨s2 _ _ ha,?_⟩;rw[Hm,Iq]at e2;subst hR;ac_rfl;exact⟨H2,Sub.refl _,h p H2 s2 hp e2⟩
  ·rintro D i y σ H2 hy ⟨p,z2,z3,z4,rfl,s2,hp,e2⟩ kk;refine⟨s2 _ _ ha,?_⟩;rw[Ht]at hy;cases hg:ns[i]? with
   | none=>rw[hg]at hy;cases hy
   | some n =>
    rw[hg]at hy;cases hy;have n4:=h4 n (Hz hg);have ew:wys (ns.take (i+1))=WM.stC (wys (ns.take i)) (WM.rgI n):=by rw[Ip,hg];exact WM.cv.trans WM.rB.symm
    have hi:=(Hs.mp hg).1;have ti:(ns.take i).length=i:=by rw[Ij];omega
    have l1:=sW (f:=fun _=>none) (ns:=ns.take i) (fun x hx=>(h4 x (List.mem_of_mem_take hx)).2) (by rw[ti];omega);rw[WM.jN]at l1;have cl:(WM.rgI n).length≤4:=jT (f:=fun _=>none) (i:=0) n4.2
    try simp only[Option.map_some]
    simp only[bw,IV,IW];refine aj fun R2 hR2=>?_;ac_rfl;refine⟨ak (by decide),fun q hq=>?_⟩;have q2:=s2.free hq;have s4:=s2.put (o:=.lst []) q2;have eq4:put H2 q (.lst []) q=some (.lst ((WM.stC ((wys (ns.take i)).take 0) (WM.rgI n)).map tI)):=ai;have ep4:=(ao (o:=.lst []) (aq e2 hq)).trans e2;generalize put H2 q (.lst [])=H4 at *;subst hR2;refine aj fun R2 hR2=>?_;ac_rfl;refine⟨_,ep4,?_⟩;refine aR (fun j σ H5=>∃q z4,σ=[some (.ref a),some (.ref p),some (.int n),some (.ref q),z4]/\U.Sub H H5/\H q=none/\H5 p=some (.lst ((wys (ns.take i)).map tI))/\H5 q=some (.lst ((WM.stC ((wys (ns.take i)).take j) (WM.rgI n)).map tI))) ?_ ?_ ⟨q,_,rfl,s4,q2,ep4,eq4⟩
    ·rintro σ H5 ⟨q,z4,rfl,s5,q5,ep5,eq5⟩;refine⟨ep5,?_⟩;rw[Hm,Iq,← ew]at eq5;subst hR2;ac_rfl;exact kk _ _ ⟨q,_,_,_,rfl,s5,q5,eq5⟩
    ·rintro D2 j y σ H5 hy ⟨q,z4,rfl,s5,q5,ep5,eq5⟩ kk2;refine⟨ep5,?_⟩;rw[Ht]at hy;cases hu:(wys (ns.take i))[j]? with
     | none=>rw[hu]at hy;cases hy
     | some u =>
      rw[hu]at hy;cases hy;have hj:=(Hs.mp hu).1;have et:(wys (ns.take i)).take (j+1)=(wys (ns.take i)).take j++[u]:=by rw[Ip,hu];rfl
      have lu:=rY (f:=fun _=>none) (ns:=ns.take i) (by rw[WM.jN];exact Hz hu);rw[ti]at lu;have wl:=mQ (told:=(wys (ns.take i)).take j) cl;rw[Ij]at wl
      try simp only[Option.map_some]
      ac_rfl;refine⟨⟨by omega,by omega⟩,fun acc hacc=>?_⟩;refine aX (fC u) (fun _=>true) (fun σ=>∃z,σ=[z,some (tI u)]) (by rw[iO,Hm];omega) (fun _=>trivial) ?_ ?_ ⟨_,rfl⟩
      ·rintro y' hy' l σ R' ⟨z,rfl⟩ hl kT kF;rw[iO]at hy';obtain⟨k,hk,rfl⟩:=Hw.mp hy';rw[xS]at kT;have eu:tI u=.tup (u.map PV.int):=rfl;rw[eu]at kT ⊢;ac_rfl;refine⟨ak (by decide),ak (by rw[Hm];omega),hl,by rw[aK];exact kT rfl _ ⟨_,rfl⟩⟩
      rw[iO,yz];have s6:=s5.put (o:=.lst (((WM.rgI n).map fun k=>u++[k]).map tI)) (s5.free hacc);have ep6:=(ao (o:=.lst (((WM.rgI n).map fun k=>u++[k]).map tI)) (aq ep5 hacc)).trans ep5;have eq6:=(ao (o:=.lst (((WM.rgI n).map fun k=>u++[k]).map tI)) (aq eq5 hacc)).trans eq5;have ea6:put H5 acc (.lst (((WM.rgI n).map fun k=>u++[k]).map tI)) acc=some (.lst (((WM.rgI n).map fun k=>u++[k]).map tI)):=ai;generalize put H5 acc (.lst (((WM.rgI n).map fun k=>u++[k]).map tI))=H6 at *
      try ac_rfl
      refine⟨_,_,eq6,ea6,j3 (by rw[Hm,Hm,Hm];omega),fun q' hq'=>kk2 _ _ ⟨q',_,rfl,s6.put (s6.free hq'),s6.free hq',(ao (aq ep6 hq')).trans ep6,by rw[ai,et,lJ,HW]⟩⟩
 ·exact h.elim
theorem wK(T:Tx K mg t):aG P w K mg base CX0 1 t.a_zp t.d_zp ["_law_top","_law_bottom"] bj:=by
 refine okU (k:=0) T.F_zp oo (fun vs H Q E h=>by
  unfold bj at h;split at h
  ·rfl
  ·exact h.elim) (fun cdv A outer s H E B hr=>⟨_,(af (sN 2 oo.nd (qv 1))
  (af (sN 3 oo.nd (aO (qv 0) (qv 1)))
  (af (lT Ir (cN yt xM (qv 3) ah)
  (au (y6 (i:=2) (j:=3) rfl oo.nd rfl rfl (by decide) rfl rfl (ab (qv 3) (ab (aO (qv 2) (qv 3)) ae)) rfl)))
  (au (aA (aN (ab (aV (qv 0) (qv 2)) (ab (aV (qv 1) (qv 2)) ae)))))))),?_⟩)
 intro vs H Q E h;unfold bj at h;split at h
 ·rename_i a b;obtain⟨⟨h0,h1,h2⟩,h⟩:=h;rw[rV h1]at h;have g:=My.jX a b h1;have gb:=je (by omega) g.2 h2;refine aj fun R hR=>?_;ac_rfl;subst hR;refine aj fun R hR=>?_;ac_rfl;refine⟨by omega,?_⟩;subst hR;refine aj fun R hR=>?_;ac_rfl;refine ij (fun m σ H'=>∃x y,σ=[some (.int a),some (.int b),some (.int x),some (.int y)]/\H'=H/\(0≤x/\0≤y/\My.gd x y=My.gd a b)/\m=y.natAbs) (a.fmod b).natAbs ⟨_,_,rfl,rfl,My.mS rfl (by omega) (by omega),rfl⟩ ?_;rintro m σ H' ⟨x,y,rfl,rfl,⟨hx,hy0,hg⟩,rfl⟩;ac_rfl;by_cases hy:y=0
  ·have ex:=My.DQ hg hx hy;refine aB (by simp[hy]) ?_;subst hR;ac_rfl;rw[ex];exact⟨oZ g.1 gb,oZ g.1 gb,ak (by decide),H',Sub.refl _,h⟩
  ·refine aU (by simp;omega) ?_;refine⟨_,fun σ' H' z=>z,hy,_,_,rfl,_,My.lp x y hy,_,_,rfl,rfl,My.mS hg hy0 hy,rfl⟩
 ·exact h.elim
theorem Bm(T:Tx K mg t):aG P w K mg base CX0 1 t.a_zC t.d_zC ["_law_values","_law_names","_law_way"] gG:=by
 refine okU (k:=0) T.F_zC nO (fun vs H Q E h=>by
  unfold gG at h;split at h
  ·rfl
  ·exact h.elim) (fun cdv A outer s H E B hr=>⟨_,(af (sN 3 nO.nd (br mN rK rfl T.b_dict boot_dict (ab (qv 0) ae)))
  (af (dt Ir rfl (D7 (CI rfl T.b_zip (ab (qv 1) (ab (qv 2) ae))) (Au rfl T.b_zip (ab (qv 1) (ab (qv 2) ae)))) (fN (n:=2) rfl (a9 (gN 4 nO.nd) (a9 (gN 5 nO.nd) dc)))
  (au (iG (qv 5) (vv hr.units (qv 3) (qv 4)))))
  (au (aA (qv 3))))),?_⟩)
 intro vs H Q E h;unfold gG at h;split at h
 ·rename_i d x y;obtain⟨kvs,a,u,hd,kl,lu,l6,xy,h⟩:=h;refine aj fun R hR=>?_;ac_rfl;refine⟨_,hd,by omega,fun p hp=>?_⟩;subst hR;refine aj fun R hR=>?_;have zn:(a.zip u).length=a.length:=by rw[List.length_zip];omega
  have go:∀(ok:PHp->Prop),(∀k,ok (put H p (.dK (dij k))))->cS ok (tf 2 (jm (bw 4) (jm (bw 5) vH))) (km (t9 5) (tq (t9 3) (t9 4)))
    { nx:=R { nx:=fun x H=>∃H3,U.Sub H3 H/\Q PV.non H3,rt:=fun v H=>∃H3,U.Sub H3 H/\Q v H3 },rt:=fun v H=>∃H3,U.Sub H3 H/\Q v H3 } ((a.zip u).map prV) [some (.ref d),some x,some y,some (.ref p),none,none] (put H p (.dK (dij kvs))):=fun ok hok=>by
   refine aR (fun i σ H2=>∃z4 z5,σ=[some (.ref d),some x,some y,some (.ref p),z4,z5]/\H2=put H p (.dK (dij (upJ kvs ((a.zip u).take i))))) ?_ ?_ ⟨_,_,rfl,rfl⟩
   ·rintro σ H2 ⟨z4,z5,rfl,rfl⟩;refine⟨hok _,?_⟩;rw[Hm,Iq];subst hR;ac_rfl;exact⟨_,Sub.refl _,h p hp⟩
   ·rintro D i y' σ H2 hy ⟨z4,z5,rfl,rfl⟩ kk;refine⟨hok _,?_⟩;rw[Ht]at hy;cases hq:(a.zip u)[i]? with
    | none=>rw[hq]at hy;cases hy
    | some q =>
     rw[hq]at hy;cases hy;have et:(a.zip u).take (i+1)=(a.zip u).take i++[q]:=by rw[Ip,hq];rfl
     have ul:=nh (l:=(a.zip u).take i) (kvs:=kvs);rw[Ij]at ul
     try simp only[Option.map_some]
     unfold prV;ac_rfl;refine⟨_,rfl,by omega,kk _ _ ⟨_,_,rfl,by rw[aK,et,r9]⟩⟩
  ac_rfl;rcases xy with⟨rfl,rfl⟩ |⟨ra,ru,rfl,rfl,e1,e2⟩
  ·left;unfold tI;rw[Dv];refine⟨by rw[Hm,Hm];exact lu,?_⟩;rw[g6];exact go _ fun _=>trivial
  ·right;rw[Es];refine⟨_,_,(ao (aq e1 hp)).trans e1,(ao (aq e2 hp)).trans e2,?_⟩;rw[g6];exact go _ fun _=>⟨(ao (aq e1 hp)).trans e1,(ao (aq e2 hp)).trans e2⟩
 ·exact h.elim
theorem GA(T:Tx K mg t):aG P w K mg base CX0 1 t.a_zu t.d_zu ["_law_purse"] eM:=by
 refine okU (k:=0) T.F_zu Ck (fun vs H Q E h=>by
  unfold eM at h;split at h
  ·rfl
  ·exact h.elim) (fun cdv A outer s H E B hr=>?_)
 obtain⟨b0,hb0⟩:∃b,b=cO vZ:=⟨_,rfl⟩;rw[←hb0];refine⟨_,uy (hb0.trans rfl) (aO (ka PySem.F.slot_list_pop PySem.F.type_list_pop jO kr jK (qv 0)) ah) (by exact fun x y=>rfl),?_⟩;clear hb0;intro vs H Q E h;unfold eM at h;split at h
 ·rename_i p;obtain⟨xs,hp,nx,x1,h⟩:=h;ac_rfl;refine⟨ak (by decide),fun p1 q1=>?_⟩;have u1:=(Sub.refl H).put (o:=.lst [PV.int 2]) q1;have e1:put H p1 (.lst [PV.int 2]) p1=some (.lst [PV.int 2]):=ai;have f1:=q1;have s1:=u1;generalize put H p1 (.lst [.int 2])=H1 at *;refine⟨ak (by decide),fun p2 q2=>?_⟩;have u2:=(Sub.refl H1).put (o:=.lst [PV.int 3]) q2;have e2:put H1 p2 (.lst [PV.int 3]) p2=some (.lst [PV.int 3]):=ai;have f2:=s1.free q2;have s2:=s1.trans u2;have e1:=u2 _ _ e1;generalize put H1 p2 (.lst [.int 3])=H2 at *;refine⟨ak (by decide),fun p3 q3=>?_⟩;have u3:=(Sub.refl H2).put (o:=.lst [PV.int 2,PV.int 2]) q3;have e3:put H2 p3 (.lst [PV.int 2,PV.int 2]) p3=some (.lst [PV.int 2,PV.int 2]):=ai;have f3:=s2.free q3;have s3:=s2.trans u3;have e1:=u3 _ _ e1;have e2:=u3 _ _ e2;generalize put H2 p3 (.lst [.int 2,.int 2])=H3 at *;refine⟨ak (by decide),fun p4 q4=>?_⟩;have u4:=(Sub.refl H3).put (o:=.lst [PV.int 2,PV.int 2,PV.int 2]) q4;have e4:put H3 p4 (.lst [PV.int 2,PV.int 2,PV.int 2]) p4=some (.lst [PV.int 2,PV.int 2,PV.int 2]):=ai;have f4:=s3.free q4;have s4:=s3.trans u4;have e1:=u4 _ _ e1;have e2:=u4 _ _ e2;have e3:=u4 _ _ e3;generalize put H3 p4 (.lst [.int 2,.int 2,.int 2])=H4 at *;refine⟨ak (by decide),fun p5 q5=>?_⟩;have u5:=(Sub.refl H4).put (o:=.lst [PV.int 4]) q5;have e5:put H4 p5 (.lst [PV.int 4]) p5=some (.lst [PV.int 4]):=ai;have f5:=s4.free q5;have s5:=s4.trans u5;have e1:=u5 _ _ e1;have e2:=u5 _ _ e2;have e3:=u5 _ _ e3;have e4:=u5 _ _ e4;generalize put H4 p5 (.lst [.int 4])=H5 at *;refine⟨ak (by decide),fun p6 q6=>?_⟩;have u6:=(Sub.refl H5).put (o:=.lst [PV.int 2,PV.int 3]) q6;have e6:put H5 p6 (.lst [PV.int 2,PV.int 3]) p6=some (.lst [PV.int 2,PV.int 3]):=ai;have f6:=s5.free q6;have s6:=s5.trans u6;have e1:=u6 _ _ e1;have e2:=u6 _ _ e2;have e3:=u6 _ _ e3;have e4:=u6 _ _ e4;have e5:=u6 _ _ e5;generalize put H5 p6 (.lst [.int 2,.int 3])=H6 at *;refine⟨ak (by decide),fun p7 q7=>?_⟩;have u7:=(Sub.refl H6).put (o:=.lst [PV.int 3,PV.int 2]) q7;have e7:put H6 p7 (.lst [PV.int 3,PV.int 2]) p7=some (.lst [PV.int 3,PV.int 2]):=ai;have f7:=s6.free q7;have s7:=s6.trans u7;have e1:=u7 _ _ e1;have e2:=u7 _ _ e2;have e3:=u7 _ _ e3;have e4:=u7 _ _ e4;have e5:=u7 _ _ e5;have e6:=u7 _ _ e6;generalize put H6 p7 (.lst [.int 3,.int 2])=H7 at *;refine⟨ak (by decide),fun p8 q8=>?_⟩;have u8:=(Sub.refl H7).put (o:=.lst [PV.int 2,PV.int 2,PV.int 2]) q8;have e8:put H7 p8 (.lst [PV.int 2,PV.int 2,PV.int 2]) p8=some (.lst [PV.int 2,PV.int 2,PV.int 2]):=ai;have f8:=s7.free q8;have s8:=s7.trans u8;have e1:=u8 _ _ e1;have e2:=u8 _ _ e2;have e3:=u8 _ _ e3;have e4:=u8 _ _ e4;have e5:=u8 _ _ e5;have e6:=u8 _ _ e6;have e7:=u8 _ _ e7;generalize put H7 p8 (.lst [.int 2,.int 2,.int 2])=H8 at *;refine⟨ak (by decide),fun p9 q9=>?_⟩;have u9:=(Sub.refl H8).put (o:=.lst [.ref p1,.ref p2,.ref p3,.ref p4,.ref p5,.ref p6,.ref p7,.ref p8]) q9;have e9:put H8 p9 (.lst [.ref p1,.ref p2,.ref p3,.ref p4,.ref p5,.ref p6,.ref p7,.ref p8]) p9=some (.lst [.ref p1,.ref p2,.ref p3,.ref p4,.ref p5,.ref p6,.ref p7,.ref p8]):=ai;have s9:=s8.trans u9;have e1:=u9 _ _ e1;have e2:=u9 _ _ e2;have e3:=u9 _ _ e3;have e4:=u9 _ _ e4;have e5:=u9 _ _ e5;have e6:=u9 _ _ e6;have e7:=u9 _ _ e7;have e8:=u9 _ _ e8;generalize put H8 p9 (.lst [.ref p1,.ref p2,.ref p3,.ref p4,.ref p5,.ref p6,.ref p7,.ref p8])=H9 at *;clear u1 u2 u3 u4 u5 u6 u7 u8 u9;have hp9:=s9 _ _ hp;obtain⟨y0,ev,hv⟩:=iz nx x1;have dl:(xs.map PV.int).dropLast=xs.dropLast.map PV.int:=by rw[List.map_dropLast]
  refine⟨_,_,hp9,ev,?_⟩;rw[dl];have n9:p9≠p:=fun z=>by have:=s8 _ _ hp;rw[←z,q9]at this;cases this
  have fin:∀(ns:List Int) a,Sy ns->H9 a=some (.lst (ns.map PV.int))->H a=none->∃H3,U.Sub H3 (put H9 p (.lst (xs.dropLast.map PV.int)))/\Q (.ref a) H3:=fun ns a sy ea fa=>by
   have na:a≠p:=fun z=>by rw[z,hp]at fa;cases fa
   exact⟨_,Sub.refl _,h ns xs.dropLast a _ sy (by rw[JN];omega) (fun x hx=>nx x (List.dropLast_subset _ hx)) (fun b o nb e=>(ao nb).trans (s9 _ _ e)) ai na fa ((ao na).trans ea)⟩
  have m:=fm (a:=y0) (b:=8) (by decide);refine⟨by decide,_,(ao n9).trans e9,?_⟩;generalize y0.fmod 8=z at *;have m:z=0∨z=1∨z=2∨z=3∨z=4∨z=5∨z=6∨z=7:=by omega
  clear nx x1 h hp ev dl;rcases m with rfl | rfl | rfl | rfl | rfl | rfl | rfl | rfl
  ·exact fin [2] p1 ⟨⟨by decide,by decide⟩,by decide,by decide⟩ e1 f1
  ·exact fin [3] p2 ⟨⟨by decide,by decide⟩,by decide,by decide⟩ e2 f2
  ·exact fin [2,2] p3 ⟨⟨by decide,by decide⟩,by decide,by decide⟩ e3 f3
  ·exact fin [2,2,2] p4 ⟨⟨by decide,by decide⟩,by decide,by decide⟩ e4 f4
  ·exact fin [4] p5 ⟨⟨by decide,by decide⟩,by decide,by decide⟩ e5 f5
  ·exact fin [2,3] p6 ⟨⟨by decide,by decide⟩,by decide,by decide⟩ e6 f6
  ·exact fin [3,2] p7 ⟨⟨by decide,by decide⟩,by decide,by decide⟩ e7 f7
  ·exact fin [2,2,2] p8 ⟨⟨by decide,by decide⟩,by decide,by decide⟩ e8 f8
 ·exact h.elim
theorem Gi(T:Tx K mg t):aG P w K mg base CX0 2 t.a_zr t.d_zr ["_law_sizes_here","_law_script"] (eW P w):=by
 refine okU (k:=1) T.F_zr hX (fun vs H Q E h=>by
  unfold eW at h;split at h
  ·rfl
  ·exact h.elim) (fun cdv A outer s H E B hr=>⟨_,(af (sN 2 hX.nd (show PE' _ _ _ (ix P w)from iu))
  (af (dt Ir rfl (ma rfl T.b_enumerate (ab (av (Az T) hr.mo rfl T.g_zA T.F_zA.kp T.B_zA (ab (qv 0) ae)) ae)) (fN (n:=2) rfl (a9 (gN 3 hX.nd) (a9 (gN 4 hX.nd) dc)))
  (af (sN 5 hX.nd (av (EJ T) hr.mo rfl T.g_zk T.F_zk.kp T.B_zk (ab (qv 1) (ab (aO (qv 3) (aM (qj rfl) zL rfl T.b_max boot_max (ab ah (ab (aM aL cy rfl T.b_len Jv (ab (qv 1) ae)) ae)))) ae))))
   (af (sN 6 hX.nd (fO ah (iX (aP (ab (aO (aV (qv 5) ah) ah) (ab (aO (aV (qv 5) ah) (l7 ah ah)) (ab (aO (aV (qv 5) ah) ah) ae)))) (aO (qv 5) ah))))
   (af (sN 7 hX.nd (iX (aP (ab (fO ah (aO (aV (qv 5) ah) ah)) (ab (fO ah (aO (aV (qv 5) ah) (l7 ah ah))) (ab ah ae)))) (aO (qv 5) ah)))
   (au (iG (av (wK T) hr.mo rfl T.g_zp T.F_zp.kp T.B_zp (ab (qv 6) (ab (qv 7) ae))) (show PG' _ _ _ (jz P w _ _)from gY hr.units (qv 2) (qv 4))))))))
  (au (aA (qv 2))))),?_⟩)
 intro vs H Q E h;unfold eW at h;split at h
 ·rename_i a l;obtain⟨ns,sc,ha,rfl,sy,h⟩:=h;refine aj fun R hR=>?_;ac_rfl;intro p hp;have s1:=(Sub.refl H).put (o:=.dI P w [] 0) hp;have e1:put H p (.dI P w [] 0) p=some (.dI P w [] 0):=ai;generalize put H p (.dI P w [] 0)=H1 at *;subst hR;refine aj fun R hR=>?_;ac_rfl;refine⟨ns,s1 _ _ ha,sy.1,fun r H2 s2 hr e2=>?_⟩
  try ac_rfl
  rw[yB];refine⟨_,e2,?_⟩;have w8:=sy.2.1;have rp:r≠p:=fun z=>by rw[z,e1]at hr;cases hr
  have e3:=s2 _ _ e1;refine aR (fun i σ H4=>∃z3 z4 z5 z6 z7 Tt ep,σ=[some (.ref a),some (.fls (sc.map PV.int)),some (.ref p),z3,z4,z5,z6,z7]/\(∀b o,b≠p->H2 b=some o->H4 b=some o)/\H4 p=some (.dI P w (((wys ns).take i).map fun u=>(u,fr (Tt u))) ep)/\TbB ((wys ns).take i) Tt) ?_ ?_ ⟨_,_,_,_,_,fun _=>1,0,rfl,fun _ _ _ e=>e,e3,fun u hu=>by rw[J8]at hu;cases hu⟩
  ·rintro σ H4 ⟨z3,z4,z5,z6,z7,Tt,ep,rfl,k4,e4,tb⟩;refine⟨k4 _ _ rp e2,?_⟩;have il:(eO ((wys ns).map tI)).length=(wys ns).length:=by unfold eO;rw[List.length_mapIdx,Hm]
   rw[il,Iq]at e4 tb;subst hR;ac_rfl;exact⟨H4,Sub.refl _,h Tt p H4 ep (Ew sy tb) (fun b o e=>k4 b o (aq e hp) (s2 _ _ (s1 _ _ e))) hp e4⟩
  ·rintro D i y σ H4 hy ⟨z3,z4,z5,z6,z7,Tt,ep,rfl,k4,e4,tb⟩ kk;refine⟨k4 _ _ rp e2,?_⟩;obtain⟨y1,hy1,rfl⟩:=jA hy;rw[Ht]at hy1;cases hu:(wys ns)[i]? with
   | none=>rw[hu]at hy1;cases hy1
   | some u =>
    rw[hu]at hy1;cases hy1;have hi:=(Hs.mp hu).1;have et:(wys ns).take (i+1)=(wys ns).take i++[u]:=by rw[Ip,hu];rfl
    try simp only[Option.map_some]
    simp only[tf,jm,bw,IV,IW];refine⟨rfl,rfl,?_⟩;refine aj fun R2 hR2=>?_;have m1:0<(if ((sc.map PV.int).length:Int)>1 then((sc.map PV.int).length:Int)else 1):=by split<;>omega
    have fl:=Df (i:=i) m1;ac_rfl;generalize (if ((sc.map PV.int).length:Int)>1 then((sc.map PV.int).length:Int)else 1)=mm at *;refine⟨by omega,⟨(fm m1).1,by omega⟩,sc,rfl,?_⟩;generalize sc.getD ((i:Int).fmod mm).toNat 0=num at *;have c3:jy num 3:=lC (by decide) (by decide);have pw:rM 10 20:=by unfold rM;decide
    subst hR2;refine aj fun R2 hR2=>?_;ac_rfl;refine⟨c3,by decide,c3,pw,by decide,c3,by decide,ak (by decide),fun q1 hq1=>⟨by decide,?_⟩⟩;obtain⟨k1,a1,b1⟩:=at3 (x:=(num.fdiv 3).fmod 4) (y:=(num.fdiv 3).fmod (10 ^ Int.toNat 20)) (z:=(num.fdiv 3).fmod 9) (fm (a:=num) (b:=3) (by decide));have f1:=fm (a:=num.fdiv 3) (b:=4) (by decide);have f2:=fm (a:=num.fdiv 3) (b:=10 ^ Int.toNat 20) (by decide);have f3:=fm (a:=num.fdiv 3) (b:=9) (by decide);have e20:(10:Int) ^ Int.toNat 20=100000000000000000000:=by decide
    have g1:0<1+k1/\1+k1≤10 ^ 20:=by omega
    rw[a1]
    try ac_rfl
    have s5:=(Sub.refl H4).put (o:=.lst [PV.int ((num.fdiv 3).fmod 4),PV.int ((num.fdiv 3).fmod (10 ^ Int.toNat 20)),PV.int ((num.fdiv 3).fmod 9)]) hq1;generalize put H4 q1 _=H5 at *;subst hR2;refine aj fun R2 hR2=>?_;ac_rfl;refine⟨lC (by decide) (by decide),by decide,lC (by decide) (by decide),by unfold rM;decide,by decide,ak (by decide),fun q2 hq2=>⟨by decide,?_⟩⟩;obtain⟨k2,a2,b2⟩:=at3 (x:=1+(num.fdiv 12).fmod 5) (y:=1+(num.fdiv 7).fmod (10 ^ Int.toNat 4)) (z:=1) (fm (a:=num) (b:=3) (by decide));have f4:=fm (a:=num.fdiv 12) (b:=5) (by decide);have f5:=fm (a:=num.fdiv 7) (b:=10 ^ Int.toNat 4) (by decide);have e4':(10:Int) ^ Int.toNat 4=10000:=by decide
    have g2:0<k2/\k2≤10 ^ 4:=by omega
    rw[a2]
    try ac_rfl
    have s6:=s5.put (o:=.lst [PV.int (1+(num.fdiv 12).fmod 5),PV.int (1+(num.fdiv 7).fmod (10 ^ Int.toNat 4)),PV.int 1]) (s5.free hq2);generalize put H5 q2 _=H6 at *;have uin:u∉(wys ns).take i:=fun z=>by
     obtain⟨j,hj,e⟩:=List.getElem_of_mem z;rw[Ij]at hj;rw[List.getElem_take]at e;have:=(List.getElem_inj (h₀:=(by omega:j<(wys ns).length)) (h₁:=hi) jr).mp (e.trans (Hs.mp hu).2.symm);omega
    have bk:My.BN 8900 k2:=Ic (show k2.natAbs<2 ^ 14 by omega) (IK (by decide) (by decide));obtain⟨t1,t2⟩:=wj tb uin (yI g1.1 g1.2 g2.1 g2.2);subst hR2;unfold tI;ac_rfl;refine⟨⟨by omega,g2.1,bk⟩,?_⟩
    try ac_rfl
    refine⟨u,_,ep,rfl,s6 _ _ e4,by rw[Hm,Ij];omega,fun ep'=>kk _ _ ⟨_,_,_,_,_,_,ep',rfl,fun b o nb e=>(ao nb).trans (s6 _ _ (k4 b o nb e)),?_,by rw[et];exact t1⟩⟩;rw[ai,et,t2]
 ·exact h.elim
theorem GR(T:Tx K mg t):aG P w K mg base CX0 51 t.a_zf t.d_zf ["_law_sizes_here","_law_table_here","_law_a","_law_b","_law_names","_law_values"] (oM P w):=by
 refine okU (k:=50) T.F_zf iF (fun vs H Q E h=>by
  unfold oM at h;split at h
  ·rfl
  ·exact h.elim) (fun cdv A outer s H E B hr=>⟨_,(af (sN 6 iF.nd (av (kn T) hr.mo rfl T.g_zE T.F_zE.kp T.B_zE (ab (qv 2) (ab (qv 0) (ab (qv 1) (ab (qv 5) ae))))))
  (af (sN 7 iF.nd (av (kn T) hr.mo rfl T.g_zE T.F_zE.kp T.B_zE (ab (qv 3) (ab (qv 0) (ab (qv 1) (ab (qv 5) ae))))))
  (af (bh (cN (dJ hr.units) a7 (av (kn T) hr.mo rfl T.g_zE T.F_zE.kp T.B_zE (ab (aN (ab aT (ab (qv 2) (ab (qv 3) ae)))) (ab (qv 0) (ab (qv 1) (ab (qv 5) ae))))) (av (wK T) hr.mo rfl T.g_zp T.F_zp.kp T.B_zp (ab (bu (iX (qv 6) ah) (iX (qv 7) ah)) (ab (bu (iX (qv 6) ah) (iX (qv 7) ah)) ae))))
  (au (aA gr))
  aH)
  (af (bh (cN (dJ hr.units) a7 (av (kn T) hr.mo rfl T.g_zE T.F_zE.kp T.B_zE (ab (aN (ab aT (ab (qv 2) (ab (qv 3) ae)))) (ab (qv 0) (ab (qv 1) (ab (qv 5) ae))))) (av (wK T) hr.mo rfl T.g_zp T.F_zp.kp T.B_zp (ab (bu (iX (qv 6) ah) (iX (qv 7) ah)) (ab (bu (iX (qv 6) ah) (iX (qv 7) ah)) ae))))
  (au (aA gr))
  aH)
  (af (sN 8 iF.nd (aN (ab ah (ab ah ae))))
  (af (bI Ir rfl (aQ (av (Az T) hr.mo rfl T.g_zA T.F_zA.kp T.B_zA (ab (cE CW 1 [0] (cA wU) (aQ (qv 4)) (fun _ _ _ _=>⟨(gN 0 F2),bO,(iX (qv 1) (qv 0))⟩)) ae))) (gN 9 iF.nd)
  (af (sN 6 iF.nd (av (kn T) hr.mo rfl T.g_zE T.F_zE.kp T.B_zE (ab (qv 2) (ab (qv 0) (ab (qv 1) (ab (av (Bm T) hr.mo rfl T.g_zC T.F_zC.kp T.B_zC (ab (qv 5) (ab (qv 4) (ab (qv 9) ae)))) ae))))))
   (au (sN 8 iF.nd (av (wK T) hr.mo rfl T.g_zp T.F_zp.kp T.B_zp (ab (fO (bu (iX (qv 8) ah) (iX (qv 6) ah)) (bu (iX (qv 6) ah) (iX (qv 8) ah))) (ab (bu (iX (qv 8) ah) (iX (qv 6) ah)) ae)))))))
  (au (aA (tQ (a8 hr.units) a7 (av (kn T) hr.mo rfl T.g_zE T.F_zE.kp T.B_zE (ab (aN (ab aT (ab (qv 4) (ab (qv 2) ae)))) (ab (qv 0) (ab (qv 1) (ab (qv 5) ae))))) (qv 8) (mM _)))))))))),?_⟩)
 intro vs H Q E h;unfold oM at h;split at h
 ·rename_i a3 a4 x y l d;obtain⟨ns,Tt,f,g,a,v,lh,rfl,rfl,gf,gg,rfl,nm,ia,ta,h⟩:=h;have lh0:=lh;have ta0:=ta;obtain⟨hdd,h3,ep,h4⟩:=lh;obtain⟨kvs,hd,kl,tl,vr⟩:=ta;have tlo:∀f:F,WM.In ns.length f->∀y,Op f y->lkJ kvs y=some (v y):=fun f hf y hy=>let ⟨h0,h1⟩:=WM.d6 hf hy;tl y h0 h1
  refine aj fun R hR=>?_;ac_rfl;refine⟨ns,Tt,f,kvs,v,ep,rfl,gf.gd,by have:=gf.2.2.2;omega,hdd,h3,h4,hd,tlo f gf.2.1,vr,?_⟩;subst hR;refine aj fun R hR=>?_;ac_rfl;refine⟨ns,Tt,g,kvs,v,ep,rfl,gg.gd,by have:=gg.2.2.2;omega,hdd,h3,h4,hd,tlo g gg.2.1,vr,?_⟩;subst hR;refine aj fun R hR=>?_;ac_rfl;have W:=hdd.wd;have w8:=hdd.w8;have tbb:=hdd.tb;have bf:=WM.bd2 W w8 tbb gf.1 gf.2.1 gf.2.2.1;have bg:=WM.bd2 W w8 tbb gg.1 gg.2.1 gg.2.2.1;have Bf:=f9 W gf.2.1 bf vr (by decide) (by decide);have Bg:=f9 W gg.2.1 bg vr (by decide) (by decide);have nf:=cV Bf;have ng:=cV Bg;have df:=WM.den_pos (val ns Tt f v);have dg:=WM.den_pos (val ns Tt g v);have ff:My.BN 4001 (val ns Tt f v).num:=bnL Bf.2.1 (by decide);have fg:My.BN 4001 (val ns Tt g v).num:=bnL Bg.2.1 (by decide);have hf:My.BN 4001 ((val ns Tt f v).den:Int):=bnL (by rw[Int.natAbs_natCast];exact Bf.2.2) (by decide);have hg:My.BN 4001 ((val ns Tt g v).den:Int):=bnL (by rw[Int.natAbs_natCast];exact Bg.2.2) (by decide);have FF:∀{i:Int},My.BN 4001 i->Fit i:=fun h=>h.fit (by decide);have l1:=gf.2.2.2;have l2:=gg.2.2.2;have p1:=gf.2.2.1;have p2:=gg.2.2.1;have gt:Gd ns.length (.times f g):=⟨⟨gf.1,gg.1⟩,⟨gf.2.1,gg.2.1⟩,by simp only[dp];omega⟩;have gv:Gd ns.length (.over f g):=⟨⟨gf.1,gg.1⟩,⟨gf.2.1,gg.2.1⟩,by simp only[dp];omega⟩;refine⟨ak (by decide),ns,Tt,.times f g,kvs,v,ep,rfl,gt,by simp only[sz];omega,hdd,h3,h4,hd,tlo _ gt.2.1,vr,?_⟩;have eT:Rat.divInt ((val ns Tt f v).num*(val ns Tt g v).num) ((val ns Tt f v).den*(val ns Tt g v).den)=val ns Tt (.times f g) v:=WM.cI _ _;have eV:Rat.divInt ((val ns Tt f v).num*(val ns Tt g v).den) ((val ns Tt f v).den*(val ns Tt g v).num)=val ns Tt (.over f g) v:=WM.eE _ _;generalize val ns Tt (.times f g) v=qT at *;obtain⟨qf,eqf⟩:∃q,q=val ns Tt f v:=⟨_,rfl⟩;obtain⟨qg,eqg⟩:∃q,q=val ns Tt g v:=⟨_,rfl⟩;rw[←eqf,← eqg];rw[←eqf,← eqg]at eT eV;rw[←eqf]at nf df ff hf;rw[←eqg]at ng dg fg hg;have ef:fr qf=.tup [.int qf.num,.int (qf.den:Int)]:=rfl;have eg:fr qg=.tup [.int qg.num,.int (qg.den:Int)]:=rfl;rw[ef,eg]
  try ac_rfl
  refine⟨.inr ⟨FF ff,FF fg⟩,.inr ⟨FF hf,FF hg⟩,⟨Ki (by omega) (by omega),Int.mul_pos df dg,(hf.mul hg).mono (by decide)⟩,?_⟩;rw[eT];refine⟨rfl,rfl,aB (by rw[iq];decide) ?_⟩;subst hR;refine aj fun R hR=>?_;ac_rfl;refine⟨ak (by decide),ns,Tt,.over f g,kvs,v,ep,rfl,gv,by simp only[sz];omega,hdd,h3,h4,hd,tlo _ gv.2.1,vr,?_⟩
  try ac_rfl
  generalize val ns Tt (.over f g) v=qV at *;refine⟨.inr ⟨FF ff,FF hg⟩,.inr ⟨FF hf,FF fg⟩,⟨Ki (by omega) (by omega),Int.mul_pos df ng,(hf.mul fg).mono (by decide)⟩,?_⟩;rw[eV];refine⟨rfl,rfl,aB (by rw[iq];decide) ?_⟩;subst hR;refine aj fun R hR=>?_;ac_rfl;refine⟨ak (by decide),?_⟩;subst hR;refine aj fun R hR=>?_;ac_rfl;intro acc hacc;have l6:a.length≤6:=My.cj 6 _ (nm.1.imp fun h=>by omega) nm.2;refine aX (fS ns) (fun _=>true) (fun σ=>∃z,σ=[z,some (.ref a3)]) (by rw[Hm];omega) (fun _=>trivial) ?_ ?_ ⟨_,rfl⟩
  ·rintro y hy l σ R1 ⟨z,rfl⟩ hl kT kF;obtain⟨q,hq,rfl⟩:=Hw.mp hy;obtain⟨q0,q1⟩:=ia q hq;ac_rfl;refine⟨_,(ao (aq h3 hacc)).trans h3,?_⟩;rw[qL q0 q1];exact⟨hl,by rw[aK];exact kT rfl _ ⟨_,rfl⟩⟩
  have em:(((a.map PV.int).filter fun _=>true).map (fS ns))=(a.map (szN ns)).map PV.int:=by
   rw[Js.mpr (fun _ _=>rfl),HY,HY];rfl
  rw[em];have s3:=(Sub.refl H).put (o:=.lst ((a.map (szN ns)).map PV.int)) hacc;have ea:put H acc (.lst ((a.map (szN ns)).map PV.int)) acc=some (.lst ((a.map (szN ns)).map PV.int)):=ai;generalize put H acc (.lst ((a.map (szN ns)).map PV.int))=H3 at *;refine⟨_,ea,CY hdd.sz l6 ia,fun pw H4 s4 hpw epw=>?_⟩;have w8':(wys (a.map (szN ns))).length≤8:=HZ (WM.dr W.n1 nm.1 ia) w8;have wl:∀u∈wys (a.map (szN ns)),u.length=a.length/\VR ns (WM.up v a u):=fun u hu=>⟨by have:=((WM.bc _ _).mp hu).1;rwa [Hm]at this,vr.up ia ((WM.bc _ _).mp hu)⟩;have hvs:val ns Tt (.sum a f) v=aZ ((wys (a.map (szN ns))).map fun u=>val ns Tt f (WM.up v a u)):=rfl;generalize wys (a.map (szN ns))=Ws at *
  try ac_rfl
  refine⟨_,epw,?_⟩;have sH:=s3.trans s4;refine aR (fun i σ H5=>∃z6 z7 z9,σ=[some (.ref a3),some (.ref a4),some (fV f),some (fV g),some (.tup (a.map PV.int)),some (.ref d),z6,z7,some (fr (aZ ((Ws.take i).map fun u=>val ns Tt f (WM.up v a u)))),z9]/\U.Sub H4 H5) ?_ ?_ ⟨_,_,_,rfl,Sub.refl _⟩
  ·rintro σ H5 ⟨z6,z7,z9,rfl,s5⟩;refine⟨s5 _ _ epw,?_⟩;rw[Hm,Iq,← hvs];have sK:=sH.trans s5;subst hR;ac_rfl;have gs:Gd ns.length (.sum a f):=⟨⟨nm,gf.1⟩,⟨ia,gf.2.1⟩,by simp only[dp];omega⟩;refine⟨ak (by decide),ns,Tt,.sum a f,kvs,v,ep,rfl,gs,by simp only[sz];omega,hdd,sK _ _ h3,sK _ _ h4,sK _ _ hd,tlo _ gs.2.1,vr,?_⟩;generalize val ns Tt (.sum a f) v=qS at *;refine⟨rfl,rfl,H,sK,?_⟩;rw[iq];exact h
  ·rintro D i y σ H5 hy ⟨z6,z7,z9,rfl,s5⟩ kk;refine⟨s5 _ _ epw,?_⟩;rw[Ht]at hy;cases hu:Ws[i]? with
   | none=>rw[hu]at hy;cases hy
   | some u =>
    rw[hu]at hy;cases hy;have hum:=Hz hu;obtain⟨lu,vru⟩:=wl u hum;have et:Ws.take (i+1)=Ws.take i++[u]:=by rw[Ip,hu];rfl
    have pb:=xj hdd gf (v:=fun u=>WM.up v a u) (l:=Ws.take i) (by rw[Ij];omega) fun u hu=>(wl u (List.mem_of_mem_take hu)).2;have sK:=sH.trans s5
    try simp only[Option.map_some]
    simp only[bw,IV,IW];refine aj fun R2 hR2=>?_;ac_rfl;have eu:tI u=.tup (u.map PV.int):=rfl;have vup:∀y,Op f y->lkJ (upJ kvs (a.zip u)) y=some (WM.up v a u y):=fun y hy=>by
     rw[iQ (v:=v) lu];by_cases m:y∈a
     ·rw[HP m]
     ·rw[HM m,WM.fE m];exact tlo f gf.2.1 y hy
    refine⟨kvs,a,u,sK _ _ hd,by omega,lu,l6,.inl ⟨rfl,rfl⟩,fun pd hpd=>?_⟩;have s6:=(Sub.refl H5).put (o:=.dK (dij (upJ kvs (a.zip u)))) hpd;have e6:put H5 pd (.dK (dij (upJ kvs (a.zip u)))) pd=some (.dK (dij (upJ kvs (a.zip u)))):=ai;generalize put H5 pd (.dK (dij (upJ kvs (a.zip u))))=H6 at *;have sL:=sK.trans s6
    try ac_rfl
    refine⟨ns,Tt,f,_,WM.up v a u,ep,rfl,gf.gd,by omega,hdd,sL _ _ h3,sL _ _ h4,rfl,vup,vru,?_⟩;subst hR2;have Bu:=f9 W gf.2.1 bf vru (by decide) (by decide);have nu:=cV Bu;have du:=WM.den_pos (val ns Tt f (WM.up v a u));have fu:My.BN 4001 (val ns Tt f (WM.up v a u)).num:=bnL Bu.2.1 (by decide);have hu':My.BN 2000 ((val ns Tt f (WM.up v a u)).den:Int):=bnL (n:=1568) (by rw[Int.natAbs_natCast];exact bf.den _ vru) (by decide);have es:=WM.sX (aZ ((Ws.take i).map fun u=>val ns Tt f (WM.up v a u))) (val ns Tt f (WM.up v a u));have eS:aZ ((Ws.take (i+1)).map fun u=>val ns Tt f (WM.up v a u))=aZ ((Ws.take i).map fun u=>val ns Tt f (WM.up v a u))+val ns Tt f (WM.up v a u):=by
     rw[et,HW,WM.lN];congr 1;exact Rat.add_zero _
    rw[eS,← es]at kk;have dd:=WM.den_pos (aZ ((Ws.take i).map fun u=>val ns Tt f (WM.up v a u)));generalize aZ ((Ws.take i).map fun u=>val ns Tt f (WM.up v a u))=qd at *;generalize val ns Tt f (WM.up v a u)=qu at *;have ed:fr qd=.tup [.int qd.num,.int (qd.den:Int)]:=rfl;have eq:fr qu=.tup [.int qu.num,.int (qu.den:Int)]:=rfl;rw[ed,eq];ac_rfl;refine⟨.inr ⟨pb.2.1.fit (by decide),hu'.fit (by decide)⟩,.inr ⟨fu.fit (by decide),pb.2.2.fit (by decide)⟩,.inr ⟨pb.2.2.fit (by decide),hu'.fit (by decide)⟩,⟨Int.add_nonneg (Ki pb.1 (by omega)) (Ki (by omega) (by omega)),Int.mul_pos dd du,(pb.2.2.mul hu').mono (by decide)⟩,kk _ _ ⟨_,_,_,rfl,s5.trans s6⟩⟩
 ·exact h.elim
theorem E3(T:Tx K mg t):aG P w K mg base CX0 52 t.a_zK t.d_zK ["_law_script"] spL:=by
 refine okU (k:=51) T.F_zK cq (fun vs H Q E h=>by
  unfold spL at h;split at h
  ·rfl
  ·exact h.elim) (fun cdv A outer s H E B hr=>⟨_,(af (sN 1 cq.nd (av (CF T) hr.mo rfl T.g_zm T.F_zm.kp T.B_zm (ab (qv 0) (ab ah (ab ah ae)))))
  (af (sN 2 cq.nd (av (GA T) hr.mo rfl T.g_zu T.F_zu.kp T.B_zu (ab (qv 1) ae)))
  (af (sN 3 cq.nd (av (Gi T) hr.mo rfl T.g_zr T.F_zr.kp T.B_zr (ab (qv 2) (ab (qv 0) ae))))
  (af (sN 4 cq.nd (av (Av T 3) hr.mo rfl T.g_zs T.F_zs.kp T.B_zs (ab (qv 1) (ab (aM aL cy rfl T.b_len Jv (ab (qv 2) ae)) (ab ah ae)))))
  (af (sN 5 cq.nd (av (Av T 3) hr.mo rfl T.g_zs T.F_zs.kp T.B_zs (ab (av (CF T) hr.mo rfl T.g_zm T.F_zm.kp T.B_zm (ab (qv 0) (ab ah (ab ah ae)))) (ab (aM aL cy rfl T.b_len Jv (ab (qv 2) ae)) (ab ah ae)))))
  (af (sN 6 cq.nd (av (Ct T) hr.mo rfl T.g_zj T.F_zj.kp T.B_zj (ab (ka PySem.F.slot_list_pop PySem.F.type_list_pop jO kr jK (qv 1)) (ab (aM aL cy rfl T.b_len Jv (ab (qv 2) ae)) ae))))
  (af (bh (cN (a8 hr.units) a7 (qv 6) (aN ae))
  (au (sN 6 cq.nd (aN (ab ah ae))))
  aH)
  (af (sN 7 cq.nd (vJ rfl rfl T.b_tuple rfl T.b_range boot_tuple (aM aL cy rfl T.b_len Jv (ab (qv 2) ae))))
  (af (sC 8 cq.nd Cd 1 [4] (cA xK) (aQ (qv 7)) (fun _ _ _ _=>⟨(gN 0 EY),(j7 (cW (qb hr.units) Dp (qv 0) (av (Gu T) hr.mo rfl T.g_zn T.F_zn.kp T.B_zn (ab (qv 1) ae)))),(qv 0)⟩))
  (af (sN 9 cq.nd (av (Az T) hr.mo rfl T.g_zA T.F_zA.kp T.B_zA (ab (qv 2) ae)))
  (af (sN 10 cq.nd (aO (ka PySem.F.slot_list_pop PySem.F.type_list_pop jO kr jK (qv 1)) (aM aL cy rfl T.b_len Jv (ab (qv 9) ae))))
  (af (bI Ir rfl (aQ (iw (tR (iw (qv 9) (j4 (qv 10)) jY) (iw (qv 9) jY (j4 (qv 10)))) jY (j4 ah))) (gN 11 cq.nd)
  (af (sN 12 cq.nd (av (Bm T) hr.mo rfl T.g_zC T.F_zC.kp T.B_zC (ab kC (ab (qv 7) (ab (qv 11) ae)))))
   (af (bh (zo (BW (av (GR T) hr.mo rfl T.g_zf T.F_zf.kp T.B_zf (ab (qv 2) (ab (qv 3) (ab (qv 4) (ab (qv 5) (ab (qv 6) (ab (qv 12) ae)))))))))
   (au (aA gr))
   aH)
   (af (bh (cN (dJ hr.units) a7 (av (kn T) hr.mo rfl T.g_zE T.F_zE.kp T.B_zE (ab (aN (ab aT (ab (qv 7) ae))) (ab (qv 2) (ab (qv 3) (ab (qv 12) ae))))) (show PE' _ _ _ (jt P w _ _)from gX hr.units (qv 3) (qv 11) (fun _ _=>rfl )))
   (au (aA gr))
   aH)
   (af (sN 13 cq.nd (av (Bm T) hr.mo rfl T.g_zC T.F_zC.kp T.B_zC (ab (qv 12) (ab (qv 8) (ab (zp (aP (ab ah ae)) (aM aL cy rfl T.b_len Jv (ab (qv 8) ae))) ae)))))
   (au (bh (cN (dJ hr.units) a7 (av (kn T) hr.mo rfl T.g_zE T.F_zE.kp T.B_zE (ab (qv 4) (ab (qv 2) (ab (qv 3) (ab (qv 13) ae))))) (av (kn T) hr.mo rfl T.g_zE T.F_zE.kp T.B_zE (ab (qv 4) (ab (qv 2) (ab (qv 3) (ab (qv 12) ae))))))
   (au (aA gr))
   aH)))))))
  (au (aA gr)))))))))))))),?_⟩)
 intro vs H Q E h;unfold spL at h;split at h
 ·rename_i l;obtain⟨sc,rfl,hl,h⟩:=h;refine aj fun R hR=>?_;ac_rfl;refine⟨⟨by decide,by decide⟩,sc,rfl,fun p xs hp h90 nn=>?_⟩;have s1:=(Sub.refl H).put (o:=.lst (xs.map PV.int)) hp;have e1:put H p (.lst (xs.map PV.int)) p=some (.lst (xs.map PV.int)):=ai;generalize put H p (.lst (xs.map PV.int))=H1 at *;subst hR;refine aj fun R hR=>?_;ac_rfl;refine⟨xs,e1,nn,by omega,fun ns ys a3 H2 sy ly ny k2 e2 ne3 hf3 h3=>?_⟩;have s2:U.Sub H H2:=fun b o e=>k2 b o (aq e hp) (s1 _ _ e);have hf3':=s1.free hf3;subst hR;refine aj fun R hR=>?_;ac_rfl;refine⟨ns,sc,h3,rfl,sy,fun Tt a4 H3 ep hdd s3 hf4 h4=>?_⟩;have e3:=s3 _ _ e2;have h33:=s3 _ _ h3;have ne4:a4≠p:=(aq e2 hf4).symm;have ne34:a3≠a4:=aq h3 hf4;have s3:=s2.trans s3;subst hR;refine aj fun R hR=>?_;ac_rfl;have l6:=sy.1.1;have l1:=sy.2.2;have n3:need 3=7:=rfl;refine⟨_,h33,⟨by decide,by decide⟩,⟨by rw[Hm];omega,by rw[Hm];omega⟩,ys,e3,ny,by omega,fun f zs okf inf dpf szf nz lz=>?_⟩;rw[Hm,Int.toNat_natCast]at inf;have gf:Gf ns.length f:=⟨okf,inf,by omega,by omega⟩;have s4:=s3.put (o:=.lst (zs.map PV.int)) hp;have e4:put H3 p (.lst (zs.map PV.int)) p=some (.lst (zs.map PV.int)):=ai;have h34:=(ao (o:=.lst (zs.map PV.int)) ne3).trans h33;have h44:=(ao (o:=.lst (zs.map PV.int)) ne4).trans h4;generalize put H3 p (.lst (zs.map PV.int))=H4 at *;subst hR;refine aj fun R hR=>?_;ac_rfl;refine⟨⟨by decide,by decide⟩,sc,rfl,fun p2 xs2 hp2 h902 nn2=>?_⟩;have ne5:=aq e4 hp2;have nb3:=aq h34 hp2;have nb4:=aq h44 hp2
  try ac_rfl
  refine⟨_,(ao nb3).trans h34,⟨by decide,by decide⟩,⟨by rw[Hm];omega,by rw[Hm];omega⟩,xs2,rfl,nn2,by omega,fun g zs2 okg ing dpg szg nz2 lz2=>?_⟩;rw[Hm,Int.toNat_natCast]at ing;have gg:Gf ns.length g:=⟨okg,ing,by omega,by omega⟩;rw[aK];have s5:=s4.put (o:=.lst (zs2.map PV.int)) (s4.free hp2);have e5:=(ao (o:=.lst (zs2.map PV.int)) ne5).trans e4;have h35:=(ao (o:=.lst (zs2.map PV.int)) nb3).trans h34;have h45:=(ao (o:=.lst (zs2.map PV.int)) nb4).trans h44;generalize put H4 p2 (.lst (zs2.map PV.int))=H5 at *;subst hR;refine aj fun R hR=>?_;ac_rfl;obtain⟨y0,ev,hv⟩:∃y0,(zs.map PV.int)[(zs.map PV.int).length - 1]?=some (.int y0)/\0≤y0:=iz nz (by omega);have dl:(zs.map PV.int).dropLast=zs.dropLast.map PV.int:=by rw[List.map_dropLast]
  refine⟨_,_,e5,ev,?_⟩;rw[dl];have nz6:Nn zs.dropLast:=fun x hx=>nz x (List.dropLast_subset _ hx);have l66:zs.dropLast.length=zs.length - 1:=JN;have s6:=s5.put (o:=.lst (zs.dropLast.map PV.int)) hp;have e6:put H5 p (.lst (zs.dropLast.map PV.int)) p=some (.lst (zs.dropLast.map PV.int)):=ai;have h36:=(ao (o:=.lst (zs.dropLast.map PV.int)) ne3).trans h35;have h46:=(ao (o:=.lst (zs.dropLast.map PV.int)) ne4).trans h45;generalize put H5 p (.lst (zs.dropLast.map PV.int))=H6 at *;generalize zs.dropLast=zs3 at *;refine⟨_,h36,⟨hv,by rw[Hm];omega,by rw[Hm];omega⟩,fun a0 nm0 ia0=>?_⟩;rw[Hm]at ia0;subst hR;refine aj fun R hR=>?_;have go:∀a,Nm a->(∀n∈a,0≤n/\n<ns.length)->R { nx:=fun x H=>∃H3,U.Sub H3 H/\Q PV.non H3,rt:=fun v H=>∃H3,U.Sub H3 H/\Q v H3 } [some (.fls (sc.map PV.int)),some (.ref p),some (.ref a3),some (.ref a4),some (fV f),some (fV g),some (.tup (a.map PV.int)),none,none,none,none,none,none,none] H6:=fun a nm ia=>by
   subst hR;refine aj fun R hR=>?_;ac_rfl;refine⟨_,h36,?_⟩;rw[Hm];refine⟨by omega,by omega,?_⟩;rw[iO];subst hR;refine aj fun R hR=>?_;ac_rfl;intro acc hacc;have l6r:(WM.rgI (ns.length:Int)).length=ns.length:=by unfold WM.rgI;simp
   refine aX id (pzL f) (fun σ=>∃z,σ=[z,some (fV f)]) (by rw[Hm,l6r];omega) (fun _=>trivial) ?_ ?_ ⟨_,rfl⟩
   ·rintro y hy l σ R1 ⟨z,rfl⟩ hl kT kF;obtain⟨q,hq,rfl⟩:=Hw.mp hy;ac_rfl;refine⟨f,rfl,by have:=gf.2.2.1;omega,gf.1,by have:=gf.2.2.2;omega,fun ms hms=>⟨fM,?_⟩⟩;rw[wq];by_cases o:Op f q
    ·refine aB (by rw[ID ((hms.2 q).mpr o)];decide) (kF (by show @decide (¬Op f q) (Classical.propDecidable _)=false;exact @Iz _ (Classical.propDecidable _) fun z=>z o) _ ⟨_,rfl⟩)
    ·refine aU (by rw[Iz fun z=>o ((hms.2 q).mp z)];decide) ⟨hl,by rw[aK];exact kT (by show @decide (¬Op f q) (Classical.propDecidable _)=true;exact @ID _ (Classical.propDecidable _) o) _ ⟨_,rfl⟩⟩
   rw[wN];have s7:=s6.put (o:=.lst ((lse f ns.length).map PV.int)) (s6.free hacc);have e7:=(ao (o:=.lst ((lse f ns.length).map PV.int)) (aq e6 hacc)).trans e6;have h37:=(ao (o:=.lst ((lse f ns.length).map PV.int)) (aq h36 hacc)).trans h36;have h47:=(ao (o:=.lst ((lse f ns.length).map PV.int)) (aq h46 hacc)).trans h46;have el7:put H6 acc (.lst ((lse f ns.length).map PV.int)) acc=some (.lst ((lse f ns.length).map PV.int)):=ai;have nal:acc≠p:=(aq e6 hacc).symm;generalize put H6 acc (.lst ((lse f ns.length).map PV.int))=H7 at *;subst hR;refine aj fun R hR=>?_;ac_rfl;refine⟨ns,h37,sy.1,fun pw H8 s8 hpw ew=>?_⟩;have e8:=s8 _ _ e7;have h38:=s8 _ _ h37;have h48:=s8 _ _ h47;have el8:=s8 _ _ el7;have npw:pw≠p:=(aq e7 hpw).symm;have s8:=s7.trans s8;have w1:1≤(wys ns).length:=by
    have:=WM.me (ns:=ns) fun n hn=>(sy.1.2 n hn).1;cases e:wys ns with
    | nil=>exact absurd e this
    | cons a l=>simp
   subst hR;refine aj fun R hR=>?_;ac_rfl;obtain⟨y1,ev1,hv1⟩:∃y0,(zs3.map PV.int)[(zs3.map PV.int).length - 1]?=some (.int y0)/\0≤y0:=iz nz6 (by omega);refine⟨_,_,e8,ev1,?_⟩;have s9:=s8.put (o:=.lst (zs3.map PV.int).dropLast) hp;have h39:=(ao (o:=.lst (zs3.map PV.int).dropLast) ne3).trans h38;have h49:=(ao (o:=.lst (zs3.map PV.int).dropLast) ne4).trans h48;have el9:=(ao (o:=.lst (zs3.map PV.int).dropLast) nal).trans el8;have ew9:=(ao (o:=.lst (zs3.map PV.int).dropLast) npw).trans ew;generalize put H8 p (.lst (zs3.map PV.int).dropLast)=H9 at *;refine⟨_,ew9,?_⟩;have wl:((wys ns).map tI).length=(wys ns).length:=Hm ..;have m:=fm (a:=y1) (b:=(((wys ns).map tI).length:Nat)) (by rw[wl];omega);refine⟨by rw[wl];omega,?_⟩;rw[wl]at m;generalize y1.fmod ((((wys ns).map tI).length:Nat):Int)=st at *;subst hR;refine aj fun R hR=>?_;ac_rfl;refine⟨_,ew9,fun b1 hb1=>⟨_,(ao (aq ew9 hb1)).trans ew9,fun b2 hb2=>?_⟩⟩;have c1:=tm (l:=(wys ns).map tI) (a:=some st) (b:=none);have c2:=tm (l:=(wys ns).map tI) (a:=none) (b:=some st);have d1:∀x∈cT ((wys ns).map tI) (some st) none,x∈(wys ns).map tI:=fun x hx=>ke hx;have d2:∀x∈cT ((wys ns).map tI) none (some st),x∈(wys ns).map tI:=fun x hx=>ke hx;rw[wl]at c1 c2;generalize cT ((wys ns).map tI) (some st) none=L1 at *;generalize cT ((wys ns).map tI) none (some st)=L2 at *;have w8:=sy.2.1;have eb1:put H9 b1 (.lst L1) b1=some (.lst L1):=ai;have u1:=(Sub.refl H9).put (o:=.lst L1) hb1;generalize put H9 b1 (.lst L1)=HA at *;have u2:=(Sub.refl HA).put (o:=.lst L2) hb2;refine⟨L1,L2,(ao (aq eb1 hb2)).trans eb1,rfl,j3 (by omega),fun b3 hb3=>?_⟩;generalize put HA b2 (.lst L2)=HB at *;have u3:=(Sub.refl HB).put (o:=.lst (L1++L2)) hb3;generalize put HB b3 (.lst (L1++L2))=HC at *;intro b4 hb4;have d3:∀x∈cT (L1++L2) none (some 2),∃u∈wys ns,x=tI u:=fun x hx=>by
    have hx:=ke hx;have:x∈(wys ns).map tI:=(Ii.mp hx).elim (d1 x) (d2 x);obtain⟨u,hu,rfl⟩:=Hw.mp this;exact⟨u,hu,rfl⟩
   generalize cT (L1++L2) none (some 2)=L4 at *;have u4:=(Sub.refl HC).put (o:=.lst L4) hb4;have eb4:put HC b4 (.lst L4) b4=some (.lst L4):=ai;generalize put HC b4 (.lst L4)=HD at *;have uD:=((u1.trans u2).trans u3).trans u4;have sD:=s9.trans uD;have h3D:=uD _ _ h39;have h4D:=uD _ _ h49;have elD:=uD _ _ el9;clear u1 u2 u3 u4 hb1 hb2 hb3 hb4 eb1 d1 d2 c1 c2 ew9 h39 h49 el9;refine aR (fun i σ H2=>∃z9 z10 z11 z12 z13,σ=[some (.fls (sc.map PV.int)),some (.ref p),some (.ref a3),some (.ref a4),some (fV f),some (fV g),some (.tup (a.map PV.int)),some (.tup ((WM.rgI (ns.length:Int)).map PV.int)),some (.ref acc),z9,z10,z11,z12,z13]/\U.Sub HD H2) ?_ ?_ ⟨_,_,_,_,_,rfl,Sub.refl _⟩
   ·rintro σ H2 ⟨z9,z10,z11,z12,z13,rfl,uE⟩;refine⟨uE _ _ eb4,?_⟩;subst hR;ac_rfl;exact⟨H,sD.trans uE,h⟩
   ·rintro D i y σ HE hy ⟨z9,z10,z11,z12,z13,rfl,uE⟩ kk;refine⟨uE _ _ eb4,?_⟩;obtain⟨u,hu,rfl⟩:=d3 y (Hz hy);have h3E:=uE _ _ h3D;have h4E:=uE _ _ h4D;have elE:=uE _ _ elD;have lu:=((WM.bc _ _).mp hu).1;have vru:=WM.m7 hu;simp only[bw,IV,IW];refine aj fun R2 hR2=>?_;ac_rfl;intro b5 hb5;have u5:=(Sub.refl HE).put (o:=.dK []) hb5;have e5:put HE b5 (.dK []) b5=some (.dK []):=ai;generalize put HE b5 (.dK [])=HF at *;have tu:tI u=.tup (u.map PV.int):=rfl;refine⟨[],WM.rgI (ns.length:Int),u,rfl,by decide,by rw[l6r];exact lu,by omega,.inl ⟨rfl,rfl⟩,fun b6 hb6=>?_⟩;have kv1:∀y:Int,0≤y->y<ns.length->lkJ (upJ [] ((WM.rgI (ns.length:Int)).zip u)) y=some (u.getD y.toNat 0):=fun y h0 h1=>Ey lu h0 h1;have kl1:(upJ [] ((WM.rgI (ns.length:Int)).zip u)).length≤6:=HZ nh (by rw[List.length_zip,l6r];simp;omega);generalize upJ [] ((WM.rgI (ns.length:Int)).zip u)=kvs1 at *;have u6:=(Sub.refl HF).put (o:=.dK (dij kvs1)) hb6;have e6v:put HF b6 (.dK (dij kvs1)) b6=some (.dK (dij kvs1)):=ai;generalize put HF b6 (.dK (dij kvs1))=HG at *;have uG:=u5.trans u6;have h3G:=uG _ _ h3E;have h4G:=uG _ _ h4E;have elG:=uG _ _ elE;subst hR2;refine aj fun R2 hR2=>?_;ac_rfl;refine⟨ns,Tt,f,g,a,fun n=>u.getD n.toNat 0,⟨hdd,h3G,ep,h4G⟩,rfl,rfl,gf,gg,rfl,nm,ia,⟨kvs1,e6v,by omega,kv1,vru⟩,?_⟩;subst hR2;refine aj fun R2 hR2=>?_;ac_rfl;have ga:Gd ns.length (.seen (WM.rgI (ns.length:Int))):=⟨CH l6,fun n hn=>iN.mp hn,by simp[dp]⟩;have tlo:∀f:F,WM.In ns.length f->∀y,Op f y->lkJ kvs1 y=some (u.getD y.toNat 0):=fun f hf y hy=>let ⟨h0,h1⟩:=WM.d6 hf hy;kv1 y h0 h1
    refine⟨ak (by decide),ns,Tt,.seen (WM.rgI (ns.length:Int)),kvs1,fun n=>u.getD n.toNat 0,ep,rfl,ga,by simp[sz],hdd,h3G,h4G,e6v,tlo _ ga.2.1,vru,?_⟩;rw[xi hu];refine⟨u,_,_,fr (Tt u),rfl,h4G,mH hu,?_⟩;generalize Tt u=qT;refine⟨rfl,rfl,aB (by rw[iq];decide) ?_⟩;subst hR2;refine aj fun R2 hR2=>?_;ac_rfl;have ll:(lse f ns.length).length≤6:=by
     unfold lse;exact HZ (List.length_filter_le _ _) (by omega)
    have il:∀n∈lse f ns.length,0≤n/\n<ns.length:=fun n hn=>(gM.mp hn).1;refine⟨ak (by decide),fun b7 hb7=>?_⟩;have u7:=(Sub.refl HG).put (o:=.lst [.int 0]) hb7;generalize put HG b7 (.lst [.int 0])=HI at *;have ml:((lse f ns.length).map PV.int).length=(lse f ns.length).length:=Hm ..;refine⟨_,u7 _ _ elG,⟨by omega,by rw[ml];omega⟩,by decide,fun b8 hb8=>?_⟩;rw[ml,Int.toNat_natCast,rS];have zl:(List.replicate (lse f ns.length).length (0:Int)).length=(lse f ns.length).length:=IX;have rz:=BV sy.1 il;have lv:∀v:WM.Env,val ns Tt f (WM.up v (lse f ns.length) (List.replicate (lse f ns.length).length (0:Int)))=val ns Tt f v:=fun v=>vA;generalize List.replicate (lse f ns.length).length (0:Int)=zr at *;have u8:=(Sub.refl HI).put (o:=.lst (zr.map PV.int)) hb8;have e8z:put HI b8 (.lst (zr.map PV.int)) b8=some (.lst (zr.map PV.int)):=ai;generalize put HI b8 (.lst (zr.map PV.int))=HJ at *;have uJ:=u7.trans u8;have vup:∀y,Op f y->lkJ (upJ kvs1 ((lse f ns.length).zip zr)) y=some (WM.up (fun n=>u.getD n.toNat 0) (lse f ns.length) zr y):=fun y hy=>by
     rw[iQ (v:=fun n=>u.getD n.toNat 0) zl,HM fun z=>(gM.mp z).2 hy,WM.fE fun z=>(gM.mp z).2 hy];exact tlo f gf.2.1 y hy
    have vrz:=vru.up il rz;have lv1:=lv fun n=>u.getD n.toNat 0;refine⟨kvs1,lse f ns.length,zr,uJ _ _ e6v,by omega,zl,ll,.inr ⟨_,_,rfl,rfl,uJ _ _ elG,e8z⟩,fun b9 hb9=>?_⟩;have u9:=(Sub.refl HJ).put (o:=.dK (dij (upJ kvs1 ((lse f ns.length).zip zr)))) hb9;have e9:put HJ b9 (.dK (dij (upJ kvs1 ((lse f ns.length).zip zr)))) b9=some (.dK (dij (upJ kvs1 ((lse f ns.length).zip zr)))):=ai;generalize put HJ b9 (.dK (dij (upJ kvs1 ((lse f ns.length).zip zr))))=HK at *;have uK:=uJ.trans u9;subst hR2;ac_rfl;refine⟨ns,Tt,f,_,_,ep,rfl,gf.gd,by have:=gf.2.2.2;omega,hdd,uK _ _ h3G,uK _ _ h4G,e9,vup,vrz,?_⟩;rw[lv1];refine⟨ns,Tt,f,kvs1,fun n=>u.getD n.toNat 0,ep,rfl,gf.gd,by have:=gf.2.2.2;omega,hdd,uK _ _ h3G,uK _ _ h4G,uK _ _ e6v,tlo f gf.2.1,vru,?_⟩;generalize val ns Tt f (fun n=>u.getD n.toNat 0)=qF at *;refine⟨rfl,rfl,aB (by rw[iq];decide) ?_⟩;exact kk _ _ ⟨_,_,_,_,_,rfl,uE.trans (uG.trans uK)⟩
  ac_rfl;refine⟨ak (by decide),fM,cp (fun _=>⟨ak (by decide),go [0] vL fun n hn=>by rw[Hx.mp hn];omega⟩) fun _=>go a0 nm0 fun n hn=>⟨(nm0.2 n hn).1,ia0 n hn⟩⟩
 ·exact h.elim
end
theorem iC{fd:FuncData}(h:∀a,bindArgs fd ⟨[a],[]⟩=pure (List.zip ps [a]))(us:List Value)(hl:us.length=1):bindArgs fd ⟨us,[]⟩=pure (List.zip ps us):=Eh (P:=fun us=>bindArgs fd ⟨us,[]⟩=pure (List.zip ps us)) h us hl
theorem dQ{fd:FuncData}(h:∀a b,bindArgs fd ⟨[a,b],[]⟩=pure (List.zip ps [a,b]))(us:List Value)(hl:us.length=2):bindArgs fd ⟨us,[]⟩=pure (List.zip ps us):=CN (P:=fun us=>bindArgs fd ⟨us,[]⟩=pure (List.zip ps us)) h us hl
theorem sV{fd:FuncData}(h:∀a b c,bindArgs fd ⟨[a,b,c],[]⟩=pure (List.zip ps [a,b,c]))(us:List Value)(hl:us.length=3):bindArgs fd ⟨us,[]⟩=pure (List.zip ps us):=Dd (P:=fun us=>bindArgs fd ⟨us,[]⟩=pure (List.zip ps us)) h us hl
theorem BY{fd:FuncData}(h:∀a b c d,bindArgs fd ⟨[a,b,c,d],[]⟩=pure (List.zip ps [a,b,c,d]))(us:List Value)(hl:us.length=4):bindArgs fd ⟨us,[]⟩=pure (List.zip ps us):=CV (P:=fun us=>bindArgs fd ⟨us,[]⟩=pure (List.zip ps us)) h us hl
theorem GD{fd:FuncData}(h:∀a b c d e f,bindArgs fd ⟨[a,b,c,d,e,f],[]⟩=pure (List.zip ps [a,b,c,d,e,f]))(us:List Value)(hl:us.length=6):bindArgs fd ⟨us,[]⟩=pure (List.zip ps us):=F0 (P:=fun us=>bindArgs fd ⟨us,[]⟩=pure (List.zip ps us)) h us hl
open PySem.W in
theorem mU{K:Frag}{h:Heap}{mg:Str->Option Value}{f_zt f_zz f_ze f_zB f_zF f_zI f_zh f_zq f_zG f_zv f_zy f_zL f_zx f_zw f_zn f_zD f_zi f_zb f_za f_zd f_zc f_zg f_zE f_zk f_zm f_zj f_zs f_zA f_zp f_zu f_zr f_zC f_zf f_zK k_A:Addr}(X:K.In h)(G:h.Ns mainGlobals mg)
  {d_zt d_zz d_ze d_zB d_zF d_zI d_zh d_zq d_zG d_zv d_zy d_zL d_zx d_zw d_zn d_zD d_zi d_zb d_za d_zd d_zc d_zg d_zE d_zk d_zm d_zj d_zs d_zA d_zp d_zu d_zr d_zC d_zf d_zK:FuncData}
  (C_A:nX1 K "Reckoner" k_A)
  (a_zt:nX1 K "ways_with" f_zt)
  (l_zt:Fun K "ways_with" "ways_with" vT f_zt d_zt)
  (a_zz:nX1 K "all_ways" f_zz)
  (l_zz:Fun K "all_ways" "all_ways" za f_zz d_zz)
  (a_ze:nX1 K "greatest_divisor" f_ze)
  (l_ze:Fun K "greatest_divisor" "greatest_divisor" Ak f_ze d_ze)
  (a_zB:nX1 K "fraction" f_zB)
  (l_zB:Fun K "fraction" "fraction" yL f_zB d_zB)
  (a_zF:nX1 K "times" f_zF)
  (l_zF:Fun K "times" "times" BH f_zF d_zF)
  (a_zI:nX1 K "over" f_zI)
  (l_zI:Fun K "over" "over" zC f_zI d_zI)
  (a_zh:nX1 K "common_bottom" f_zh)
  (l_zh:Fun K "common_bottom" "common_bottom" BJ f_zh d_zh)
  (a_zq:nX1 K "tops_over" f_zq)
  (l_zq:Fun K "tops_over" "tops_over" uX f_zq d_zq)
  (a_zG:nX1 K "total" f_zG)
  (l_zG:Fun K "total" "total" AS f_zG d_zG)
  (a_zv:nX1 K "names_of" f_zv)
  (l_zv:Fun K "names_of" "names_of" yS f_zv d_zv)
  (a_zy:nX1 K "parts_of" f_zy)
  (l_zy:Fun K "parts_of" "parts_of" Be f_zy d_zy)
  (a_zL:nX1 K "lay" f_zL)
  (l_zL:Fun K "lay" "lay" zu f_zL d_zL)
  (a_zx:nX1 K "laid_out" f_zx)
  (l_zx:Fun K "laid_out" "laid_out" AF f_zx d_zx)
  (a_zw:nX1 K "opens_of" f_zw)
  (l_zw:Fun K "opens_of" "opens_of" BU f_zw d_zw)
  (a_zn:nX1 K "open_names" f_zn)
  (l_zn:Fun K "open_names" "open_names" Al f_zn d_zn)
  (a_zD:nX1 K "key_of" f_zD)
  (l_zD:Fun K "key_of" "key_of" vt f_zD d_zD)
  (a_zi:fX1 K k_A "__init__" f_zi)
  (i_zi:isFn K (.ref f_zi)=true)
  (l_zi:Fun K "__init__" "Reckoner.__init__" zm f_zi d_zi)
  (a_zb:fX1 K k_A "inner_keys" f_zb)
  (i_zb:isFn K (.ref f_zb)=true)
  (l_zb:Fun K "inner_keys" "Reckoner.inner_keys" rq f_zb d_zb)
  (a_za:fX1 K k_A "needed_keys" f_za)
  (i_za:isFn K (.ref f_za)=true)
  (l_za:Fun K "needed_keys" "Reckoner.needed_keys" vV f_za d_za)
  (a_zd:fX1 K k_A "seen_share" f_zd)
  (i_zd:isFn K (.ref f_zd)=true)
  (l_zd:Fun K "seen_share" "Reckoner.seen_share" xx f_zd d_zd)
  (a_zc:fX1 K k_A "worked_out" f_zc)
  (i_zc:isFn K (.ref f_zc)=true)
  (l_zc:Fun K "worked_out" "Reckoner.worked_out" xf f_zc d_zc)
  (a_zg:fX1 K k_A "reckon" f_zg)
  (i_zg:isFn K (.ref f_zg)=true)
  (l_zg:Fun K "reckon" "Reckoner.reckon" zj f_zg d_zg)
  (a_zE:nX1 K "worth" f_zE)
  (l_zE:Fun K "worth" "worth" zI f_zE d_zE)
  (a_zk:nX1 K "_law_cell_at" f_zk)
  (l_zk:Fun K "_law_cell_at" "_law_cell_at" B0 f_zk d_zk)
  (a_zm:nX1 K "_law_digits" f_zm)
  (l_zm:Fun K "_law_digits" "_law_digits" vK f_zm d_zm)
  (a_zj:nX1 K "_law_names_by" f_zj)
  (l_zj:Fun K "_law_names_by" "_law_names_by" uM f_zj d_zj)
  (a_zs:nX1 K "_law_grown" f_zs)
  (l_zs:Fun K "_law_grown" "_law_grown" Ac f_zs d_zs)
  (a_zA:nX1 K "_law_ways" f_zA)
  (l_zA:Fun K "_law_ways" "_law_ways" wt f_zA d_zA)
  (a_zp:nX1 K "_law_lowest" f_zp)
  (l_zp:Fun K "_law_lowest" "_law_lowest" yO f_zp d_zp)
  (a_zu:nX1 K "_law_sizes" f_zu)
  (l_zu:Fun K "_law_sizes" "_law_sizes" vZ f_zu d_zu)
  (a_zr:nX1 K "_law_table" f_zr)
  (l_zr:Fun K "_law_table" "_law_table" BF f_zr d_zr)
  (a_zC:nX1 K "_law_put" f_zC)
  (l_zC:Fun K "_law_put" "_law_put" zv f_zC d_zC)
  (a_zf:nX1 K "_law_parts_right" f_zf)
  (l_zf:Fun K "_law_parts_right" "_law_parts_right" wU f_zf d_zf)
  (a_zK:nX1 K "law" f_zK)
  (l_zK:Fun K "law" "law" xK f_zK d_zK)
  (pg_A:plainGet K k_A Str.empty=true)
  (hd_A:hasDictIn K k_A=true)
  (po_A:plainOver K k_A=true)
  (sa_A:findIn K (.ref k_A) "__setattr__"=some (some (.builtin "object.__setattr__")))
  (mk_A:makesIn K k_A=true)
  (kc_A:keepIn K (.ref k_A)=true)
  (z_abs:nX2 K "abs")
  (z_dict:nX2 K "dict")
  (z_enumerate:nX2 K "enumerate")
  (z_int:nX2 K "int")
  (z_len:nX2 K "len")
  (z_list:nX2 K "list")
  (z_max:nX2 K "max")
  (z_min:nX2 K "min")
  (z_range:nX2 K "range")
  (z_reversed:nX2 K "reversed")
  (z_set:nX2 K "set")
  (z_sorted:nX2 K "sorted")
  (z_sum:nX2 K "sum")
  (z_tuple:nX2 K "tuple")
  (z_zip:nX2 K "zip")
  (n_Reckoner_nodes:findIn K (.ref k_A) "nodes"=some none)
  (n_Reckoner_opens:findIn K (.ref k_A) "opens"=some none)
  (n_Reckoner_sizes:findIn K (.ref k_A) "sizes"=some none)
  (n_Reckoner_table:findIn K (.ref k_A) "table"=some none) :
  ∃t:Ad,Tx K mg t/\t.a_zK=f_zK/\∀(s:Shared) (v:Value),BindsTo s t.d_zK ⟨[v],[]⟩ [("_law_script",v)]:=by
 obtain⟨oc,od,kV,doc,pm,an,cdv,ct,osl,rfl,lk,hcd⟩:=l_zK.ex;exact⟨⟨f_zt,_,f_zz,_,f_ze,_,f_zB,_,f_zF,_,f_zI,_,f_zh,_,f_zq,_,f_zG,_,f_zv,_,f_zy,_,f_zL,_,f_zx,_,f_zw,_,f_zn,_,f_zD,_,f_zi,_,f_zb,_,f_za,_,f_zd,_,f_zc,_,f_zg,_,f_zE,_,f_zk,_,f_zm,_,f_zj,_,f_zs,_,f_zA,_,f_zp,_,f_zu,_,f_zr,_,f_zC,_,f_zf,_,f_zK,_,k_A⟩,⟨l_zt,
  l_zt.binds fun _ _ _ _ _ _=>dQ fun _ _=>rfl,
  mg_of X G a_zt,
  l_zz,
  l_zz.binds fun _ _ _ _ _ _=>iC fun _=>rfl,
  mg_of X G a_zz,
  l_ze,
  l_ze.binds fun _ _ _ _ _ _=>dQ fun _ _=>rfl,
  mg_of X G a_ze,
  l_zB,
  l_zB.binds fun _ _ _ _ _ _=>dQ fun _ _=>rfl,
  mg_of X G a_zB,
  l_zF,
  l_zF.binds fun _ _ _ _ _ _=>dQ fun _ _=>rfl,
  mg_of X G a_zF,
  l_zI,
  l_zI.binds fun _ _ _ _ _ _=>dQ fun _ _=>rfl,
  mg_of X G a_zI,
  l_zh,
  l_zh.binds fun _ _ _ _ _ _=>iC fun _=>rfl,
  mg_of X G a_zh,
  l_zq,
  l_zq.binds fun _ _ _ _ _ _=>dQ fun _ _=>rfl,
  mg_of X G a_zq,
  l_zG,
  l_zG.binds fun _ _ _ _ _ _=>iC fun _=>rfl,
  mg_of X G a_zG,
  l_zv,
  l_zv.binds fun _ _ _ _ _ _=>iC fun _=>rfl,
  mg_of X G a_zv,
  l_zy,
  l_zy.binds fun _ _ _ _ _ _=>iC fun _=>rfl,
  mg_of X G a_zy,
  l_zL,
  l_zL.binds fun _ _ _ _ _ _=>dQ fun _ _=>rfl,
  mg_of X G a_zL,
  l_zx,
  l_zx.binds fun _ _ _ _ _ _=>iC fun _=>rfl,
  mg_of X G a_zx,
  l_zw,
  l_zw.binds fun _ _ _ _ _ _=>iC fun _=>rfl,
  mg_of X G a_zw,
  l_zn,
  l_zn.binds fun _ _ _ _ _ _=>iC fun _=>rfl,
  mg_of X G a_zn,
  l_zD,
  l_zD.binds fun _ _ _ _ _ _=>dQ fun _ _=>rfl,
  mg_of X G a_zD,
  l_zi,
  l_zi.binds fun _ _ _ _ _ _=>BY fun _ _ _ _=>rfl,
  l_zb,
  l_zb.binds fun _ _ _ _ _ _=>sV fun _ _ _=>rfl,
  ⟨a_zb,i_zb,l_zb.kp⟩,
  l_za,
  l_za.binds fun _ _ _ _ _ _=>dQ fun _ _=>rfl,
  ⟨a_za,i_za,l_za.kp⟩,
  l_zd,
  l_zd.binds fun _ _ _ _ _ _=>sV fun _ _ _=>rfl,
  ⟨a_zd,i_zd,l_zd.kp⟩,
  l_zc,
  l_zc.binds fun _ _ _ _ _ _=>BY fun _ _ _ _=>rfl,
  ⟨a_zc,i_zc,l_zc.kp⟩,
  l_zg,
  l_zg.binds fun _ _ _ _ _ _=>dQ fun _ _=>rfl,
  ⟨a_zg,i_zg,l_zg.kp⟩,
  l_zE,
  l_zE.binds fun _ _ _ _ _ _=>BY fun _ _ _ _=>rfl,
  mg_of X G a_zE,
  l_zk,
  l_zk.binds fun _ _ _ _ _ _=>dQ fun _ _=>rfl,
  mg_of X G a_zk,
  l_zm,
  l_zm.binds fun _ _ _ _ _ _=>sV fun _ _ _=>rfl,
  mg_of X G a_zm,
  l_zj,
  l_zj.binds fun _ _ _ _ _ _=>dQ fun _ _=>rfl,
  mg_of X G a_zj,
  l_zs,
  l_zs.binds fun _ _ _ _ _ _=>sV fun _ _ _=>rfl,
  mg_of X G a_zs,
  l_zA,
  l_zA.binds fun _ _ _ _ _ _=>iC fun _=>rfl,
  mg_of X G a_zA,
  l_zp,
  l_zp.binds fun _ _ _ _ _ _=>dQ fun _ _=>rfl,
  mg_of X G a_zp,
  l_zu,
  l_zu.binds fun _ _ _ _ _ _=>iC fun _=>rfl,
  mg_of X G a_zu,
  l_zr,
  l_zr.binds fun _ _ _ _ _ _=>dQ fun _ _=>rfl,
  mg_of X G a_zr,
  l_zC,
  l_zC.binds fun _ _ _ _ _ _=>sV fun _ _ _=>rfl,
  mg_of X G a_zC,
  l_zf,
  l_zf.binds fun _ _ _ _ _ _=>GD fun _ _ _ _ _ _=>rfl,
  mg_of X G a_zf,
  l_zK,
  l_zK.binds fun _ _ _ _ _ _=>iC fun _=>rfl,
  mg_of X G a_zK,
  mg_of X G C_A,
  ⟨pg_A,hd_A,po_A,sa_A⟩,
  ⟨mk_A,a_zi,i_zi,kc_A⟩,
  mg_none_of X G z_abs,
  mg_none_of X G z_dict,
  mg_none_of X G z_enumerate,
  mg_none_of X G z_int,
  mg_none_of X G z_len,
  mg_none_of X G z_list,
  mg_none_of X G z_max,
  mg_none_of X G z_min,
  mg_none_of X G z_range,
  mg_none_of X G z_reversed,
  mg_none_of X G z_set,
  mg_none_of X G z_sorted,
  mg_none_of X G z_sum,
  mg_none_of X G z_tuple,
  mg_none_of X G z_zip,
  n_Reckoner_nodes,
  n_Reckoner_opens,
  n_Reckoner_sizes,
  n_Reckoner_table⟩,rfl,fun s v=>.of_eq rfl⟩
theorem Dg{K:PySem.W.Frag}(h:∃t:Ad,Tx K mg t/\t.a_zK=f/\∀(s:Shared) (v:Value),BindsTo s t.d_zK ⟨[v],[]⟩ [(x,v)])(e:mg "law"=some (.ref f)) :
  ∃t:Ad,Tx K mg t/\mg "law"=some (.ref t.a_zK)/\∀(s:Shared) (v:Value),BindsTo s t.d_zK ⟨[v],[]⟩ [(x,v)]:=by
 obtain⟨t,T,rfl,b⟩:=h;exact⟨t,T,e,b⟩
end Lw
end
open PySem PySem.W PyProof.Rows
set_option maxRecDepth 100000 in
set_option maxHeartbeats 0 in
theorem PySem.Challenge.cw_doingbook_k33_whole_worth_in_parts_holds : PySem.Challenge.rw_doingbook_k33_whole_worth_in_parts.Holds := by
 w_on;o_law;k_head;(case hw=>w_witness2)
 k_fill
 refine L2.qz (l:=PySem.Challenge.rw_doingbook_k33_whole_worth_in_parts) (n:=63) (k:=52) (x:="_law_script") (CX:=L2.CX0) (sp:=fun K=>U.gu K U.spL) rfl (by decide) rfl ⟨rfl,by decide,by decide⟩ (fun w h Y=>PySem.W.kIn_of Y) ?F (fun K H a ns hl hO hS=>U.pT hl hO hS) (fun _ _ _ _ z=>z)
 case F =>
  intro w mg fa h KX G hmg;have T:∃t:Lw.Ad,Lw.Tx (L2.KOf KX) mg t/\mg "law"=some (.ref t.a_zK)/\∀(s:Shared) (v:Value),BindsTo s t.d_zK ⟨[v],[]⟩ [("_law_script",v)]:=by
   dsimp only[L2.KOf];refine Lw.Dg ?_ (PySem.W.mg_of KX G (by k_is));apply Lw.mU KX G<;>((try delta Lw.nX1);(try delta Lw.nX2);(try delta Lw.fX1);(try delta Lw.kX1);first|k_is|(apply L2.zN<;>k_is) | kernel_rfl | kit_is |((repeat' (first | exact trivial | refine And.intro ?_ ?_))<;>kit_is))
  obtain⟨t,T,e,hb⟩:=T;have e0:=hmg.symm.trans e;cases e0;exact⟨t.d_zK,hb,fun base kb nb=>Lw.E3 T⟩
